import PyProof.Rows.All
import Wide.All
import OpenK.AllK
import Wide.FinOn
import Lean
import PyProof.EqAt
import PyProof.EqKinds
import PyProof.TupleCall
import PySem.Challenge.RW_mendsure_k03_tuples_in_order
set_option Elab.async false
set_option linter.all false
set_option maxRecDepth 100000
namespace L2
open PySem PySem.Spec PyProof.Rows
abbrev Key := Sum Int Str
def keyIs : Key → Value → Bool
  | .inl k, v => Value.isInt k v
  | .inr x, v => Value.isStrOf x v
def keyH (w : World) : Key → Int
  | .inl k => hashInt k
  | .inr x => hashStr w x
theorem keyIs_shape : ∀ {k : Key} {v : Value}, keyIs k v = true → (∃ i t, k = Sum.inl i ∧ v = Value.int i t) ∨ (∃ x t, k = Sum.inr x ∧ v = Value.str x t)
  | .inl i, v, h => by
    obtain ⟨t, e⟩ := Value.isInt_shape (k := i) (v := v) h
    exact .inl ⟨i, t, rfl, e⟩
  | .inr x, v, h => by
    obtain ⟨t, e⟩ := Value.isStrOf_shape (x := x) (v := v) h
    exact .inr ⟨x, t, rfl, e⟩
theorem key_ll (a b : Int) : decide ((Sum.inl a : Key) = Sum.inl b) = (a == b) := by
  by_cases e : a = b
  · subst e; simp
  · have h : ¬ (Sum.inl a : Key) = Sum.inl b := fun q => e (Sum.inl.inj q)
    rw [decide_eq_false h]
    exact (beq_eq_false_iff_ne.mpr e).symm
theorem key_rr (a b : Str) : decide ((Sum.inr a : Key) = Sum.inr b) = decide (a = b) := by
  by_cases e : a = b
  · subst e; simp
  · have h : ¬ (Sum.inr a : Key) = Sum.inr b := fun q => e (Sum.inr.inj q)
    rw [decide_eq_false h, decide_eq_false e]
theorem key_lr (a : Int) (b : Str) : decide ((Sum.inl a : Key) = Sum.inr b) = false := decide_eq_false (fun q => nomatch q)
theorem key_rl (a : Str) (b : Int) : decide ((Sum.inr a : Key) = Sum.inl b) = false := decide_eq_false (fun q => nomatch q)
def mixKind (prog : Program) (w : World) : PySem.KeyKind prog w Key where
  is := keyIs
  hash := keyH w
  inj := fun v a b ha hb => by
    rcases keyIs_shape ha with ⟨i, t, rfl, rfl⟩ | ⟨x, t, rfl, rfl⟩
    · rcases keyIs_shape hb with ⟨j, u, rfl, e⟩ | ⟨y, u, rfl, e⟩
      · injection e with e1 _; rw [e1]
      · exact nomatch e
    · rcases keyIs_shape hb with ⟨j, u, rfl, e⟩ | ⟨y, u, rfl, e⟩
      · exact nomatch e
      · injection e with e1 _; rw [e1]
  byValue := fun k v h => by
    rcases keyIs_shape h with ⟨i, t, rfl, rfl⟩ | ⟨x, t, rfl, rfl⟩ <;> rfl
  pyHash := fun hv h => by
    rcases keyIs_shape hv with ⟨i, t, rfl, rfl⟩ | ⟨x, t, rfl, rfl⟩
    · exact wpAny_pyHash_int h
    · exact wpAny_pyHash_str h
  eqBool := fun hu hv h => by
    rcases keyIs_shape hu with ⟨i, t, rfl, rfl⟩ | ⟨x, t, rfl, rfl⟩
    · rcases keyIs_shape hv with ⟨j, u, rfl, rfl⟩ | ⟨y, u, rfl, rfl⟩
      · rw [key_ll] at h; exact wpAny_eqBool_int h
      · rw [key_lr] at h; exact SeqAt.EqAt.int_str i t y u _ _ _ _ h
    · rcases keyIs_shape hv with ⟨j, u, rfl, rfl⟩ | ⟨y, u, rfl, rfl⟩
      · rw [key_rl] at h; exact SeqAt.EqAt.str_int x t j u _ _ _ _ h
      · rw [key_rr] at h; exact wpAny_eqBool_str h
  «strs» := fun k x t v h => by
    rcases keyIs_shape h with ⟨i, u, rfl, e⟩ | ⟨y, u, rfl, e⟩
    · exact nomatch e
    · injection e with e1 _
      subst e1
      cases v <;> rfl
end L2
namespace L2
open PySem PySem.Spec PyProof.Rows
inductive V where
  | non | bl (b : Bool) | int (i : Int) | str (x : Str) | byt (b : Array UInt8) | flt (b : UInt64) | ref (a : Addr) | ty (n : String)
  deriving DecidableEq
def RelV : V → Value → Prop
  | .non, u => u = Value.none
  | .bl b, u => u = Value.bool b
  | .int i, u => ∃ t, u = Value.int i t
  | .str x, u => ∃ t, u = Value.str x t
  | .byt b, u => ∃ t, u = Value.bytes b t
  | .flt b, u => ∃ t, u = Value.float b t
  | .ref a, u => u = Value.ref a
  | .ty n, u => u = Value.type n
abbrev Vals : List V → List Value → Prop := Paired RelV
theorem Vals.length {xs : List V} {us : List Value} (r : Vals xs us) : xs.length = us.length := Paired.length r
theorem Vals.get : ∀ {xs : List V} {us : List Value} {i : Nat} {x : V}, Vals xs us → xs[i]? = some x → ∃ u, us[i]? = some u ∧ RelV x u
  | _, _, _, _, .nil, e => by simp at e
  | _, _, 0, _, .cons r _, e => by simp at e; subst e; exact ⟨_, rfl, r⟩
  | _, _, i + 1, x, .cons _ t, e => by
    obtain ⟨u, h1, h2⟩ := Vals.get (i := i) (x := x) t (by simpa using e)
    exact ⟨u, by simpa using h1, h2⟩
theorem Vals.set {x : V} {u : Value} (r : RelV x u) : ∀ {xs : List V} {us : List Value} (i : Nat), Vals xs us → Vals (xs.set i x) (us.set i u)
  | _, _, _, .nil => .nil
  | _, _, 0, .cons _ t => .cons r t
  | _, _, i + 1, .cons q t => .cons q (Vals.set r i t)
theorem Vals.append : ∀ {xs ys : List V} {us ws : List Value}, Vals xs us → Vals ys ws → Vals (xs ++ ys) (us ++ ws)
  | _, _, _, _, .nil, s => s
  | _, _, _, _, .cons r t, s => .cons r (Vals.append t s)
theorem Vals.take : ∀ {xs : List V} {us : List Value} (n : Nat), Vals xs us → Vals (xs.take n) (us.take n)
  | _, _, 0, _ => .nil
  | _, _, _ + 1, .nil => .nil
  | _, _, n + 1, .cons r t => .cons r (Vals.take n t)
theorem Vals.drop : ∀ {xs : List V} {us : List Value} (n : Nat), Vals xs us → Vals (xs.drop n) (us.drop n)
  | _, _, 0, r => r
  | _, _, _ + 1, .nil => .nil
  | _, _, n + 1, .cons _ t => Vals.drop n t
theorem Vals.none_of : ∀ {xs : List V} {us : List Value} {i : Nat}, Vals xs us → xs[i]? = none → us[i]? = none := fun {xs us i} r e => by
  have h1 := r.length
  have h2 : xs.length ≤ i := List.getElem?_eq_none_iff.mp e
  exact List.getElem?_eq_none_iff.mpr (by omega)
def RelO : Option V → Option Value → Prop
  | some v, some u => RelV v u
  | none, none => True
  | _, _ => False
def KV {κ : Type} : List (κ × V) → List (κ × Value) → Prop := Paired fun (p : κ × V) (q : κ × Value) => p.1 = q.1 ∧ RelV p.2 q.2
def kV : Key → V
  | .inl i => .int i
  | .inr x => .str x
inductive HO where
  | lst (xs : List V)
  | tup (xs : List V)
  | dK (kvs : List (Key × V)) | dT (kvs : List (List Key × V))
  | set (S : Int → Bool) (n : Nat)
  | ins (C dx : Addr) (fs : List (Str × V))
  | own (x : Addr)
  | xd (fs : List (Str × V))
  | met (f x : Addr)
  | rng (lo hi : Int)
  | frz (o : Obj) (u : HO)
  | tbl (ps : Array Value)
  | ext (φ : Heap → Prop)
abbrev Hp := Addr → Option HO
def upd (H : Hp) (a : Addr) (o : HO) : Hp := fun b => if b = a then some o else H b
theorem upd_same {H : Hp} {a : Addr} {o : HO} : upd H a o a = some o := by unfold upd; rw [if_pos rfl]
theorem upd_ne {H : Hp} {a b : Addr} {o : HO} (h : b ≠ a) : upd H a o b = H b := by unfold upd; rw [if_neg h]
theorem ne_of_none {H : Hp} {a b : Addr} {o : HO} (h : H a = some o) (h' : H b = none) : a ≠ b := by
  intro e; subst e; rw [h] at h'; cases h'
section
variable (P : Program) (w : World)
def ObjOk (H : Hp) (h : Heap) (a : Addr) : HO → Prop
  | .lst xs => xs.length ≤ sizeLine ∧ ∃ (its : List Value) (n : Nat), Vals xs its ∧ h.get? a = some { cls := .type "list", data := .seq its.toArray n }
  | .tup xs => xs.length ≤ sizeLine ∧ ∃ its : List Value, Vals xs its ∧ IsTup h a its.toArray
  | .dK kvs => kvs.length ≤ sizeLine ∧ (a == sysModules) = false ∧ ∃ vs, KV kvs vs ∧ h.DictOf (mixKind P w) a vs
  | .dT kvs => kvs.length ≤ sizeLine ∧ (a == sysModules) = false ∧ ∃ xs : List (List Key × Addr × Value),
      Paired (fun (p : List Key × V) (q : List Key × Addr × Value) => p.1 = q.1 ∧ H q.2.1 = some (.tup (p.1.map kV)) ∧ RelV p.2 q.2.2) kvs xs ∧
      ∃ o es ep, h.get? a = some o ∧ o.ExactDict ∧ o.data = .dict es ep ∧ es.toList = xs.map (entryOfKey (tupleKind (mixKind P w))) ∧ (xs.map (·.1)).Nodup
  | .set S n => h.SetOf (intKind P w) a S n
  | .ins C dx fs => H dx = some (.own a) ∧ fs.length ≤ 1000 ∧ dx ≠ a ∧ h.get? a = some (PySem.W.instObj C dx) ∧
      ∃ mA, h.Ns1 dx mA ∧ (∀ f, RelO (fs.lookup f) (mA f)) ∧ PySem.Within mA (fs.map (·.1))
  | .own _ => ∃ o, h.get? a = some o
  | .xd fs => ∃ mA, h.Ns1 a mA ∧ ∀ f, RelO (fs.lookup f) (mA f)
  | .rng lo hi => ∃ t u v, h.get? a = some { cls := .type "range", data := .fields #[.int lo t, .int hi u, .int 1 v] }
  | .frz o u => h.get? a = some o ∧ ObjOk H h a u
  | .tbl ps => h.get? a = some { cls := .none, data := .fields ps }
  | .met f x => h.get? a = some (PySem.W.methodObj (.ref f) (.ref x))
  | .ext φ => φ h ∧ (∃ o, h.get? a = some o) ∧ ∀ h1 h2 : Heap, φ h1 → (∀ o, h1.get? a = some o → h2.get? a = some o) → φ h2
def HOk (H : Hp) (h : Heap) : Prop := ∀ a o, H a = some o → ObjOk P w H h a o
end
section
variable {P : Program} {w : World} {H H' : Hp} {h h' : Heap} {a : Addr} {o : HO}
theorem ObjOk.lt (x : ObjOk P w H h a o) : a < h.objs.size := by
  cases o with
  | lst xs => obtain ⟨_, _, _, _, e⟩ := x; exact Heap.lt_size e
  | tup xs => obtain ⟨_, _, _, p⟩ := x; exact p.lt
  | dK kvs => obtain ⟨_, _, _, _, o, _, _, e, _⟩ := x; exact Heap.lt_size e
  | dT kvs => obtain ⟨_, _, _, _, o, _, _, e, _⟩ := x; exact Heap.lt_size e
  | set S n => obtain ⟨o, _, _, _, e, _⟩ := x; exact Heap.lt_size e
  | ins C dx fs => obtain ⟨_, _, _, e, _⟩ := x; exact Heap.lt_size e
  | own y => obtain ⟨_, e⟩ := x; exact Heap.lt_size e
  | xd fs => obtain ⟨_, ⟨_, _, _, e, _⟩, _⟩ := x; exact Heap.lt_size e
  | rng lo hi => obtain ⟨_, _, _, e⟩ := x; exact Heap.lt_size e
  | frz ob u => obtain ⟨e, _⟩ := x; exact Heap.lt_size e
  | tbl ps => exact Heap.lt_size (show h.get? a = some _ from x)
  | met f y => exact Heap.lt_size (show h.get? a = some _ from x)
  | ext φ => obtain ⟨_, ⟨_, e⟩, _⟩ := x; exact Heap.lt_size e
theorem Paired.mapP {α β : Type} {F G : α → β → Prop} : ∀ {l₁ : List α} {l₂ : List β}, Paired F l₁ l₂ → (∀ a b, F a b → G a b) → Paired G l₁ l₂
  | _, _, .nil, _ => .nil
  | _, _, .cons r t, f => .cons (f _ _ r) (Paired.mapP t f)
theorem ObjOk.stay (x : ObjOk P w H h a o) (k : ∀ b u, (b = a ∨ H b = some (.own a)) → h.get? b = some u → h'.get? b = some u)
    (ho : ∀ b, H b = some (.own a) → H' b = some (.own a)) (ht : ∀ b xs, H b = some (.tup xs) → H' b = some (.tup xs)) : ObjOk P w H' h' a o := by
  induction o with
  | lst xs => obtain ⟨z, its, n, r, e⟩ := x; exact ⟨z, its, n, r, k _ _ (.inl rfl) e⟩
  | tup xs => obtain ⟨z, its, r, ob, e, c⟩ := x; exact ⟨z, its, r, ob, k _ _ (.inl rfl) e, c⟩
  | dK kvs => obtain ⟨z, y, vs, r, ob, es, ep, e, c⟩ := x; exact ⟨z, y, vs, r, ob, es, ep, k _ _ (.inl rfl) e, c⟩
  | dT kvs =>
    obtain ⟨z, y, xs, r, ob, es, ep, e, c⟩ := x
    exact ⟨z, y, xs, Paired.mapP r fun p q z => ⟨z.1, ht _ _ z.2.1, z.2.2⟩, ob, es, ep, k _ _ (.inl rfl) e, c⟩
  | set S n => obtain ⟨ob, es, ep, t, e, c⟩ := x; exact ⟨ob, es, ep, t, k _ _ (.inl rfl) e, c⟩
  | ins C dx fs =>
    obtain ⟨d, z, ne, e, mA, ⟨od, es, ep, e2, c⟩, r⟩ := x
    exact ⟨ho _ d, z, ne, k _ _ (.inl rfl) e, mA, ⟨od, es, ep, k _ _ (.inr d) e2, c⟩, r⟩
  | own y => obtain ⟨ob, e⟩ := x; exact ⟨ob, k _ _ (.inl rfl) e⟩
  | xd fs => obtain ⟨mA, ⟨od, es, ep, e, c⟩, r⟩ := x; exact ⟨mA, ⟨od, es, ep, k _ _ (.inl rfl) e, c⟩, r⟩
  | rng lo hi => obtain ⟨t, u, v, e⟩ := x; exact ⟨t, u, v, k _ _ (.inl rfl) e⟩
  | frz ob u ih => obtain ⟨e, q⟩ := x; exact ⟨k _ _ (.inl rfl) e, ih q⟩
  | tbl ps =>
    have e : h.get? a = some { cls := .none, data := .fields ps } := x
    show h'.get? a = some { cls := .none, data := .fields ps }
    exact k a _ (.inl rfl) e
  | met f y =>
    have e : h.get? a = some (PySem.W.methodObj (.ref f) (.ref y)) := x
    show h'.get? a = some (PySem.W.methodObj (.ref f) (.ref y))
    exact k a _ (.inl rfl) e
  | ext φ => obtain ⟨p, ⟨o, e⟩, st⟩ := x; exact ⟨st _ _ p fun o q => k _ _ (.inl rfl) q, ⟨o, k _ _ (.inl rfl) e⟩, st⟩
theorem HOk.lt (x : HOk P w H h) (e : H a = some o) : a < h.objs.size := (x a o e).lt
theorem HOk.fresh (x : HOk P w H h) (e : h.objs.size ≤ a) : H a = none := by
  cases q : H a with
  | none => rfl
  | some u => exact absurd (Nat.lt_of_lt_of_le (x.lt q) e) (Nat.lt_irrefl _)
theorem HOk.kept (x : HOk P w H h) (k : ∀ b u, h.get? b = some u → h'.get? b = some u) : HOk P w H h' := fun a o e =>
  (x a o e).stay (fun b u _ q => k b u q) (fun _ q => q) fun _ _ q => q
theorem HOk.laid (x : HOk P w H h) (k : ∀ b u, h.get? b = some u → h'.get? b = some u) (hp : h.objs.size ≤ a) (new : ObjOk P w (upd H a o) h' a o) : HOk P w (upd H a o) h' := fun b u e => by
  have hn := x.fresh hp
  by_cases hb : b = a
  · subst hb; rw [upd_same] at e; cases e; exact new
  · rw [upd_ne hb] at e
    exact (x b u e).stay (fun c v _ q => k c v q) (fun c q => by rw [upd_ne (ne_of_none q hn)]; exact q) fun c xs q => by rw [upd_ne (ne_of_none q hn)]; exact q
end
def Rd (H : Hp) (a : Addr) (u : HO) : Prop := H a = some u ∨ ∃ o, H a = some (.frz o u)
theorem Rd.ok {P : Program} {w : World} {H : Hp} {h : Heap} {a : Addr} {u : HO} (r : Rd H a u) (x : HOk P w H h) : ObjOk P w H h a u := by
  rcases r with r | ⟨o, r⟩
  · exact x a u r
  · obtain ⟨_, q⟩ := x a _ r
    exact q
def Mut : Option HO → Prop
  | some (.lst _) => True
  | some (.dK _) => True
  | some (.dT _) => True
  | some (.set _ _) => True
  | some (.ins _ _ _) => True
  | some (.ext _) => True
  | _ => False
section
variable {P : Program} {w : World} {H : Hp} {h h' : Heap} {x e : Addr} {o' : HO}
theorem HOk.write (ok : HOk P w H h) (mu : Mut (H x)) (he : e = x ∨ H e = some (.own x)) (k : ∀ b u, b ≠ e → h.get? b = some u → h'.get? b = some u) (heo : ∃ u, h'.get? e = some u)
    (new : ObjOk P w (upd H x o') h' x o') : HOk P w (upd H x o') h' := fun b u q => by
  have nown : ∀ c y, H c = some (.own y) → c ≠ x := fun c y r z => by subst z; rw [r] at mu; exact mu
  have ntup : ∀ c xs, H c = some (.tup xs) → c ≠ x := fun c xs r z => by subst z; rw [r] at mu; exact mu
  by_cases hb : b = x
  · subst hb; rw [upd_same] at q; cases q; exact new
  · rw [upd_ne hb] at q
    by_cases hbe : b = e
    · have q' : H b = some (.own x) := by
        rcases he with z | z
        · exact absurd (hbe.trans z) hb
        · rw [hbe]; exact z
      rw [q] at q'; cases q'
      obtain ⟨v, hv⟩ := heo
      exact ⟨v, by rw [hbe]; exact hv⟩
    · refine (ok b u q).stay (fun c v hc r => k c v ?_ r) (fun c r => by rw [upd_ne (nown c b r)]; exact r) fun c xs r => by rw [upd_ne (ntup c xs r)]; exact r
      rcases hc with rfl | hc
      · exact hbe
      · rintro rfl
        rcases he with z | z
        · exact nown c b hc z
        · rw [hc] at z; cases z; exact hb rfl
end
structure Un (fs ex : List Addr) (H H' : Hp) (h h' : Heap) : Prop where
  keep : ∀ b o, h.get? b = some o → H b = none → b ∉ fs → b ∉ ex → h'.get? b = some o
  slot : ∀ b o, h.get? b = some o → H b = none → b ∈ fs → b ∉ ex → ∃ sl, h'.get? b = some { o with slots := sl }
  free : ∀ b o, h.get? b = some o → H b = none → b ∉ ex → H' b = none
  there : ∀ b o, h.get? b = some o → b ∉ ex → ∃ o', h'.get? b = some o'
  tups : ∀ b xs, H b = some (.tup xs) → H' b = some (.tup xs)
  frzs : ∀ b o u, H b = some (.frz o u) → H' b = some (.frz o u)
  tbls : ∀ b ps, H b = some (.tbl ps) → ∃ more, H' b = some (.tbl (ps ++ more))
section
variable {fs fs' ex ex' : List Addr} {H H1 H2 : Hp} {h h1 h2 h' : Heap} {a x e : Addr} {o : HO}
theorem Un.any (u : Un fs ex H H1 h h1) {b : Addr} {ob : Obj} (q : h.get? b = some ob) (n : H b = none) (hx : b ∉ ex) : ∃ sl, h1.get? b = some { ob with slots := sl } := by
  by_cases hb : b ∈ fs
  · exact u.slot b ob q n hb hx
  · exact ⟨ob.slots, u.keep b ob q n hb hx⟩
theorem Un.kept (k : ∀ b u, h.get? b = some u → h'.get? b = some u) : Un fs ex H H h h' :=
  ⟨fun b ob q _ _ _ => k b ob q, fun b ob q _ _ _ => ⟨ob.slots, k b ob q⟩, fun _ _ _ n _ => n, fun b ob q _ => ⟨ob, k b ob q⟩, fun _ _ q => q, fun _ _ _ q => q, fun _ ps q => ⟨#[], by rw [q]; simp⟩⟩
theorem Un.refl : Un fs ex H H h h := Un.kept fun _ _ q => q
theorem Un.laid (k : ∀ b u, h.get? b = some u → h'.get? b = some u) (hp : h.objs.size ≤ a) (hn : H a = none) : Un fs ex H (upd H a o) h h' where
  keep := fun b u q _ _ _ => k b u q
  slot := fun b u q _ _ _ => ⟨u.slots, k b u q⟩
  free := fun b u q n _ => by rw [upd_ne (Nat.ne_of_lt (Nat.lt_of_lt_of_le (Heap.lt_size q) hp))]; exact n
  there := fun b u q _ => ⟨u, k b u q⟩
  tups := fun b xs q => by rw [upd_ne (ne_of_none q hn)]; exact q
  frzs := fun b u xs q => by rw [upd_ne (ne_of_none q hn)]; exact q
  tbls := fun b ps q => ⟨#[], by rw [upd_ne (ne_of_none q hn), q]; simp⟩
theorem Un.write (mu : Mut (H x)) (he : e = x ∨ H e = some (.own x)) (k : ∀ b u, b ≠ e → h.get? b = some u → h'.get? b = some u) (heo : ∃ u, h'.get? e = some u) : Un fs ex H (upd H x o) h h' := by
  have hx : ∀ b, H b = none → b ≠ x := fun b n z => by subst z; rw [n] at mu; exact mu
  have hb : ∀ b, H b = none → b ≠ e := fun b n z => by
    subst z
    rcases he with r | r
    · exact hx b n r
    · rw [n] at r; cases r
  have hm : ∀ b u, H b = some u → ¬ Mut (some u) → b ≠ x := fun b u q nm z => by subst z; rw [q] at mu; exact nm mu
  refine ⟨fun b u q n _ _ => k b u (hb b n) q, fun b u q n _ _ => ⟨u.slots, k b u (hb b n) q⟩, fun b u q n _ => by rw [upd_ne (hx b n)]; exact n, fun b u q _ => ?_,
    fun b xs q => by rw [upd_ne (hm b _ q fun z => z)]; exact q, fun b u xs q => by rw [upd_ne (hm b _ q fun z => z)]; exact q, fun b ps q => ⟨#[], by rw [upd_ne (hm b _ q fun z => z), q]; simp⟩⟩
  by_cases hbe : b = e
  · subst hbe; exact heo
  · exact ⟨u, k b u hbe q⟩
end
def trk (h : Heap) (H : Hp) : List Addr := (List.range h.objs.size).filter fun a => (H a).isSome
def hidT (h : Heap) (H : Hp) : Heap := PySem.W.hideAll h (trk h H)
theorem hidT_size (h : Heap) (H : Hp) : (hidT h H).objs.size = h.objs.size := PySem.W.hideAll_size _ _
theorem hidT_get {h : Heap} {H : Hp} {b : Addr} {o : Obj} (e : h.get? b = some o) (n : H b = none) : (hidT h H).get? b = some o :=
  PySem.W.hideAll_get _ e fun hm => by
    have q : (H b).isSome = true := (List.mem_filter.mp hm).2
    rw [n] at q; simp at q
theorem of_hidT {h : Heap} {H : Hp} {b : Addr} {o : Obj} (e : (hidT h H).get? b = some o) : h.get? b = some o ∧ H b = none := by
  have e' : h.get? b = some o := PySem.W.of_hideAll (trk h H) e
  refine ⟨e', ?_⟩
  cases q : H b with
  | none => rfl
  | some x =>
    have hm : b ∈ trk h H := List.mem_filter.mpr ⟨List.mem_range.mpr (Heap.lt_size e'), by simp [q]⟩
    have z : (hidT h H).get? b = none := PySem.W.hideAll_none (trk h H) hm
    rw [z] at e; cases e
def allNews (g h : Heap) (L : Addr) : List (Addr × Obj) := (List.range h.objs.size).filterMap fun a => if a = L ∨ (g.get? a).isSome = true then none else (h.get? a).map fun o => (a, o)
def rest (g h : Heap) (L d : Addr) : List (Addr × Obj) := (allNews g h L).filter fun p => decide (p.1 ≠ d)
end L2
namespace L2
open PySem PySem.Spec PyProof.Rows
structure Mod (K : PySem.W.Frag) (mg : Str → Option Value) (base : Heap) : Prop where
  kin : K.In base
  glob : base.Ns mainGlobals mg
  blt : ∃ mb, base.Ns builtinsNs mb ∧ ∀ x : Str, x ≠ "__name__" → mb x = bootBuiltins x
  nolimit : base.NoLimit
structure Cx where
  prog : Program
  w : World
  K : PySem.W.Frag
  mg : Str → Option Value
  base : Heap
  A : Around
  N : List Str
  s₀ : Shared
  H₀ : Hp
  env : Env
  outer : List Env
  stack : List Env
  ex : List Addr
  fn : Str → Bool
  calm : Bool
  pn : List (Addr × Obj)
  xe : Value → Shared → Prop
def frs (l : List Env) : List Addr := l.filterMap (·.frame)
abbrev Cx.fs (X : Cx) : List Addr := frs X.outer
def Vis (sc : Scope) (x : Str) : Prop := sc.names.lookup x = some .local ∨ sc.names.lookup x = some .cell ∨ sc.names.lookup x = some .free
def Loc (sc : Scope) (x : Str) : Prop := sc.names.lookup x = some .local ∨ sc.names.lookup x = some .cell
def Look (env : Env) (h : Heap) (m : Str → Option Value) (x : Str) (u : Value) : Prop :=
  (env.kindOf x = some .local ∧ m x = some u) ∨ ((env.kindOf x = some .cell ∨ env.kindOf x = some .free) ∧ ∃ c, env.cells.lookup x = some c ∧ h.IsCell c (some u))
structure Cx.Ok (X : Cx) : Prop where
  mod : Mod X.K X.mg X.base
  kind : X.env.scope.kind = .function
  glob : X.env.globals = mainGlobals
  blt : X.env.builtins = builtinsNs
  above : X.s₀.heap.objs.size ≤ X.env.locals
  inj : ∀ x y c, X.env.cells.lookup x = some c → X.env.cells.lookup y = some c → x = y
  has : ∀ x, (X.env.kindOf x = some .cell ∨ X.env.kindOf x = some .free) → ∃ c, X.env.cells.lookup x = some c
  cab : ∀ x c, X.fn x = true → X.env.cells.lookup x = some c → X.s₀.heap.objs.size ≤ c
  hd : X.calm = true → X.A.handled = none
  frames : X.A.frames = some X.stack
  stk : X.stack = X.outer ∨ (X.stack = X.env :: X.outer ∧ X.env.frame = some X.env.locals)
  exf : ∀ b ∈ X.ex, b ≠ X.env.locals ∧ ∀ x c, X.env.cells.lookup x = some c → c ≠ b
  bs : ∀ b o, X.base.get? b = some o → X.s₀.heap.get? b = some o ∧ X.H₀ b = none
  bsz : X.base.objs.size ≤ X.s₀.heap.objs.size
  noex : ∀ b o, X.base.get? b = some o → b ∉ X.ex
  exfs : ∀ b ∈ X.ex, b ∉ X.fs
  funs : X.s₀.heap.FunFrames X.base X.outer
  frf : ∀ b ∈ X.fs, X.H₀ b = none
structure Inv (X : Cx) (pins : List (Addr × Obj)) (σ : List (Option V)) (H : Hp) (s : Shared) : Prop where
  ok : X.Ok
  os : s.os = X.s₀.os
  bare : AllBare s.gens
  base : Un X.fs X.ex X.H₀ H X.s₀.heap s.heap
  loc : ∃ m, s.heap.Ns X.env.locals m ∧ ∀ (i : Nat) (x : Str) (v : V), X.N[i]? = some x → σ[i]? = some (some v) → Vis X.env.scope x → ∃ u, RelV v u ∧ Look X.env s.heap m x u
  cell : ∀ x c, X.env.cells.lookup x = some c → ∃ v, s.heap.IsCell c v
  free : H X.env.locals = none
  freeC : ∀ x c, X.env.cells.lookup x = some c → H c = none
  pin : ∀ p ∈ X.pn ++ pins, s.heap.get? p.1 = some p.2 ∧ H p.1 = none ∧ p.1 ≠ X.env.locals ∧ p.1 ∉ X.fs ∧ ∀ v, p.2.data ≠ .cell v
  hok : HOk X.prog X.w H s.heap
  len : σ.length = X.N.length
section
variable {X : Cx} {pins : List (Addr × Obj)} {σ : List (Option V)} {H H' : Hp} {s : Shared} {h' : Heap}
theorem Cx.Ok.nofr (ok : X.Ok) {b : Addr} {o : Obj} (e : X.base.get? b = some o) : b ∉ X.fs := fun hb => by
  have := (ok.funs.mem hb).1
  rw [e] at this; cases this
theorem Inv.bs (I : Inv X pins σ H s) : ∀ b o, X.base.get? b = some o → s.heap.get? b = some o ∧ H b = none := fun b o e =>
  ⟨I.base.keep b o (I.ok.bs b o e).1 (I.ok.bs b o e).2 (I.ok.nofr e) (I.ok.noex b o e), I.base.free b o (I.ok.bs b o e).1 (I.ok.bs b o e).2 (I.ok.noex b o e)⟩
theorem Inv.bk (I : Inv X pins σ H s) : ∀ b o, X.base.get? b = some o → s.heap.get? b = some o := fun b o e => (I.bs b o e).1
theorem Inv.mod (I : Inv X pins σ H s) : Mod X.K X.mg X.base := I.ok.mod
theorem Inv.kIn (I : Inv X pins σ H s) : X.K.In s.heap := I.ok.mod.kin.keeps I.bk
theorem Inv.lt (I : Inv X pins σ H s) : X.env.locals < s.heap.objs.size := let ⟨_, hn, _⟩ := I.loc; hn.lt
theorem Inv.sz (I : Inv X pins σ H s) : X.s₀.heap.objs.size ≤ s.heap.objs.size := Nat.le_trans I.ok.above (Nat.le_of_lt I.lt)
theorem Inv.nofs (I : Inv X pins σ H s) {a : Addr} (h : s.heap.objs.size ≤ a) : a ∉ X.fs := fun hb => by
  obtain ⟨_, o, ho, _⟩ := I.ok.funs.mem hb
  exact absurd (Nat.lt_of_lt_of_le (Heap.lt_size ho) (Nat.le_trans I.sz h)) (Nat.lt_irrefl _)
theorem Inv.cne (I : Inv X pins σ H s) : ∀ x c, X.env.cells.lookup x = some c → c ≠ X.env.locals := fun x c e z => by
  obtain ⟨v, o, ho, hd⟩ := I.cell x c e
  obtain ⟨m, ⟨o', es, ep, ho', hd', _⟩, _⟩ := I.loc
  rw [z, ho'] at ho; cases ho; rw [hd'] at hd; cases hd
theorem Inv.funs (I : Inv X pins σ H s) : s.heap.FunFrames X.base X.outer := by
  have all : ∀ (l : List Env), (∀ b ∈ frs l, b ∈ X.fs) → X.s₀.heap.FunFrames X.base l → s.heap.FunFrames X.base l := by
    intro l
    induction l with
    | nil => intro _ _; trivial
    | cons env r ih =>
      intro hs hl
      obtain ⟨hk, ⟨L, o, hf, hn, ho, hd⟩, hr⟩ := hl
      have hL : L ∈ X.fs := hs L (by unfold frs; rw [List.filterMap_cons, hf]; exact List.mem_cons_self)
      obtain ⟨sl, e⟩ := I.base.slot L o ho (I.ok.frf L hL) hL fun z => I.ok.exfs L z hL
      exact ⟨hk, ⟨L, _, hf, hn, e, hd⟩, ih (fun b hb => hs b (by unfold frs; rw [List.filterMap_cons, hf]; exact List.mem_cons_of_mem _ hb)) hr⟩
  exact all X.outer (fun _ hb => hb) I.ok.funs
theorem Inv.stack (I : Inv X pins σ H s) : s.heap.FunFrames X.base X.stack := by
  rcases I.ok.stk with e | ⟨e, hf⟩
  · rw [e]; exact I.funs
  · rw [e]
    obtain ⟨m, hn, _⟩ := I.loc
    refine .cons (by rw [I.ok.kind]; decide) hf hn ?_ I.funs
    exact Heap.get?_none_of_le (Nat.le_trans I.ok.bsz I.ok.above)
theorem Inv.stkSub (I : Inv X pins σ H s) : ∀ b ∈ frs X.stack, b ∈ X.env.locals :: X.fs := fun b hb => by
  rcases I.ok.stk with e | ⟨e, hf⟩
  · rw [e] at hb; exact List.mem_cons_of_mem _ hb
  · rw [e] at hb
    unfold frs at hb
    rw [List.filterMap_cons, hf] at hb
    exact hb
theorem Inv.stkFree (I : Inv X pins σ H s) : ∀ b ∈ frs X.stack, H b = none := fun b hb => by
  rcases List.mem_cons.mp (I.stkSub b hb) with e | hb
  · rw [e]; exact I.free
  · obtain ⟨_, o, ho, _⟩ := I.ok.funs.mem hb
    exact I.base.free b o ho (I.ok.frf b hb) fun z => I.ok.exfs b z hb
theorem Inv.step {g' : Array GenState} {t' : Nat} {d' : Drawn} {ch : List Addr} (I : Inv X pins σ H s)
    (hch : ∀ b ∈ ch, (b ∈ X.ex ∨ X.s₀.heap.objs.size ≤ b) ∧ b ≠ X.env.locals ∧ (∀ x c, X.env.cells.lookup x = some c → c ≠ b) ∧ ∀ p ∈ X.pn ++ pins, p.1 ≠ b)
    (keep : ∀ b o, b ≠ X.env.locals → b ∉ X.fs → b ∉ ch → s.heap.get? b = some o → H b = none → h'.get? b = some o)
    (slot : ∀ b o, b ≠ X.env.locals → b ∈ X.fs → b ∉ ch → s.heap.get? b = some o → H b = none → ∃ sl, h'.get? b = some { o with slots := sl }) (free : ∀ b o, b ∉ ch → s.heap.get? b = some o → H b = none → H' b = none)
    (there : ∀ b o, b ∉ ch → s.heap.get? b = some o → ∃ o', h'.get? b = some o')
    (tups : ∀ b xs, H b = some (.tup xs) → H' b = some (.tup xs)) (frzs : ∀ b o u, H b = some (.frz o u) → H' b = some (.frz o u)) (tbls : ∀ b ps, H b = some (.tbl ps) → ∃ more, H' b = some (.tbl (ps ++ more)))
    (ns : ∀ m, s.heap.Ns X.env.locals m → h'.Ns X.env.locals m) (hok : HOk X.prog X.w H' h') (hg : AllBare g') :
    Inv X pins σ H' { s with heap := h', gens := g', drawn := d', toks := t' } := by
  have neL : ∀ b o, X.s₀.heap.get? b = some o → b ≠ X.env.locals := fun b o e => Nat.ne_of_lt (Nat.lt_of_lt_of_le (Heap.lt_size e) I.ok.above)
  have neC : ∀ b o, X.s₀.heap.get? b = some o → b ∉ X.ex → b ∉ ch := fun b o e hx hb => by
    rcases (hch b hb).1 with z | z
    · exact hx z
    · exact absurd (Nat.lt_of_lt_of_le (Heap.lt_size e) z) (Nat.lt_irrefl _)
  have cellK : ∀ x c, X.env.cells.lookup x = some c → ∀ v, s.heap.IsCell c v → h'.IsCell c v := fun x c e v ⟨o, ho, hd⟩ => by
    have nch : c ∉ ch := fun z => (hch c z).2.2.1 x c e rfl
    by_cases hc : c ∈ X.fs
    · obtain ⟨sl, q⟩ := slot c o (I.cne x c e) hc nch ho (I.freeC x c e)
      exact ⟨_, q, hd⟩
    · exact ⟨o, keep c o (I.cne x c e) hc nch ho (I.freeC x c e), hd⟩
  refine ⟨I.ok, I.os, hg, ⟨fun b o e n hb hx => ?_, fun b o e n hb hx => ?_, fun b o e n hx => ?_, fun b o e hx => ?_, fun b xs e => tups b xs (I.base.tups b xs e), fun b o xs e => frzs b o xs (I.base.frzs b o xs e), fun b ps e => ?_⟩, ?_, fun x c e => ?_, ?_, fun x c e => ?_, fun p hp => ?_, hok, I.len⟩
  · exact keep b o (neL b o e) hb (neC b o e hx) (I.base.keep b o e n hb hx) (I.base.free b o e n hx)
  · obtain ⟨sl, e1⟩ := I.base.slot b o e n hb hx
    obtain ⟨sl', e2⟩ := slot b _ (neL b o e) hb (neC b o e hx) e1 (I.base.free b o e n hx)
    exact ⟨sl', e2⟩
  · obtain ⟨o', e1⟩ := I.base.there b o e hx
    exact free b o' (neC b o e hx) e1 (I.base.free b o e n hx)
  · obtain ⟨o', e1⟩ := I.base.there b o e hx
    exact there b o' (neC b o e hx) e1
  · obtain ⟨m1, e1⟩ := I.base.tbls b ps e
    obtain ⟨m2, e2⟩ := tbls b _ e1
    exact ⟨m1 ++ m2, by rw [e2, Array.append_assoc]⟩
  · obtain ⟨m, hn, hl⟩ := I.loc
    refine ⟨m, ns m hn, fun i x v e1 e2 e3 => ?_⟩
    obtain ⟨u, r, l⟩ := hl i x v e1 e2 e3
    refine ⟨u, r, ?_⟩
    rcases l with l | ⟨k, c, e, z⟩
    · exact .inl l
    · exact .inr ⟨k, c, e, cellK x c e _ z⟩
  · obtain ⟨v, z⟩ := I.cell x c e
    exact ⟨v, cellK x c e v z⟩
  · obtain ⟨m, ⟨o, _, _, ho, _⟩, _⟩ := I.loc
    exact free _ o (fun z => (hch _ z).2.1 rfl) ho I.free
  · obtain ⟨v, o, ho, hd⟩ := I.cell x c e
    exact free c o (fun z => (hch c z).2.2.1 x c e rfl) ho (I.freeC x c e)
  · obtain ⟨e, n, ne, nf, d⟩ := I.pin p hp
    have nch : p.1 ∉ ch := fun z => (hch p.1 z).2.2.2 p hp rfl
    exact ⟨keep p.1 p.2 ne nf nch e n, free p.1 p.2 nch e n, ne, nf, d⟩
theorem Inv.un {t' : Nat} (I : Inv X pins σ H s) (u : Un X.fs [] H H' s.heap h') (hok : HOk X.prog X.w H' h') : Inv X pins σ H' { s with heap := h', toks := t' } := by
  obtain ⟨m, ⟨o, es, ep, ho, r⟩, _⟩ := id I.loc
  obtain ⟨sl, hL⟩ := u.any ho I.free (by simp)
  exact I.step (g' := s.gens) (d' := s.drawn) (ch := []) (fun _ z => nomatch z) (fun b o _ hb _ e n => u.keep b o e n hb (by simp)) (fun b o _ hb _ e n => u.slot b o e n hb (by simp)) (fun b o _ e n => u.free b o e n (by simp)) (fun b o _ e => u.there b o e (by simp)) u.tups u.frzs u.tbls (fun m' hm => by
    obtain ⟨o', es', ep', ho', r'⟩ := hm
    rw [ho] at ho'; cases ho'
    exact ⟨_, es', ep', hL, r'⟩) hok I.bare
theorem Inv.call {g' : Array GenState} {t' : Nat} {d' : Drawn} {ch : List Addr} (I : Inv X pins σ H s) (u : Un (frs X.stack) ch H H' s.heap h') (hok : HOk X.prog X.w H' h') (hg : AllBare g')
    (hch : ∀ b ∈ ch, (b ∈ X.ex ∨ X.s₀.heap.objs.size ≤ b) ∧ b ≠ X.env.locals ∧ (∀ x c, X.env.cells.lookup x = some c → c ≠ b) ∧ ∀ p ∈ X.pn ++ pins, p.1 ≠ b) :
    Inv X pins σ H' { s with heap := h', gens := g', drawn := d', toks := t' } := by
  obtain ⟨m, ⟨o, es, ep, ho, r⟩, _⟩ := id I.loc
  obtain ⟨sl, hL⟩ := u.any ho I.free fun z => (hch _ z).2.1 rfl
  exact I.step (ch := ch) hch (fun b o hL hb hc e n => u.keep b o e n (fun z => (List.mem_cons.mp (I.stkSub b z)).elim hL hb) hc) (fun b o _ _ hc e n => u.any e n hc) (fun b o hc e n => u.free b o e n hc) (fun b o hc e => u.there b o e hc) u.tups u.frzs u.tbls (fun m' hm => by
    obtain ⟨o', es', ep', ho', r'⟩ := hm
    rw [ho] at ho'; cases ho'
    exact ⟨_, es', ep', hL, r'⟩) hok hg
theorem Inv.turned {t' : Nat} {it : Addr} (I : Inv X pins σ H s) (k : ∀ b o, b ≠ it → s.heap.get? b = some o → h'.get? b = some o) (hn : H it = none) (hL : it ≠ X.env.locals)
    (h1 : it ∈ X.ex ∨ X.s₀.heap.objs.size ≤ it) (h2 : ∀ x c, X.env.cells.lookup x = some c → c ≠ it) (h3 : ∀ p ∈ X.pn ++ pins, p.1 ≠ it) : Inv X pins σ H { s with heap := h', toks := t' } := by
  have nit : ∀ b u, H b = some u → b ≠ it := fun b u e z => by rw [z, hn] at e; cases e
  refine I.step (g' := s.gens) (d' := s.drawn) (ch := [it]) (fun b hb => ?_) (fun b o _ _ hc e _ => k b o (fun z => hc (by simp [z])) e) (fun b o _ _ hc e _ => ⟨o.slots, k b o (fun z => hc (by simp [z])) e⟩) (fun _ _ _ _ n => n)
    (fun b o hc e => ⟨o, k b o (fun z => hc (by simp [z])) e⟩) (fun _ _ e => e) (fun _ _ _ e => e) (fun b ps e => ⟨#[], by rw [e]; simp⟩) (fun m hm => ?_) (fun b u e => ?_) I.bare
  · have e : b = it := by simpa using hb
    subst e
    exact ⟨h1, hL, h2, h3⟩
  · obtain ⟨o, es, ep, ho, r⟩ := hm
    exact ⟨o, es, ep, k _ o (Ne.symm hL) ho, r⟩
  · refine (I.hok b u e).stay (fun c v hc q => k c v ?_ q) (fun _ q => q) fun _ _ q => q
    rcases hc with z | z
    · rw [z]; exact nit b u e
    · exact nit c _ z
theorem Inv.tok (I : Inv X pins σ H s) (t : Nat) : Inv X pins σ H { s with toks := t } := I.un (h' := s.heap) (t' := t) Un.refl I.hok
theorem Inv.kept {t' : Nat} (I : Inv X pins σ H s) (k : ∀ b u, s.heap.get? b = some u → h'.get? b = some u) : Inv X pins σ H { s with heap := h', toks := t' } := I.un (Un.kept k) (I.hok.kept k)
theorem Inv.laid {a : Addr} {o : HO} {t' : Nat} (I : Inv X pins σ H s) (k : ∀ b u, s.heap.get? b = some u → h'.get? b = some u) (hp : s.heap.objs.size ≤ a) (new : ObjOk X.prog X.w (upd H a o) h' a o) :
    Inv X pins σ (upd H a o) { s with heap := h', toks := t' } := I.un (Un.laid k hp (I.hok.fresh hp)) (I.hok.laid k hp new)
theorem Inv.write {x e : Addr} {o : HO} {t' : Nat} (I : Inv X pins σ H s) (mu : Mut (H x)) (he : e = x ∨ H e = some (.own x)) (k : ∀ b u, b ≠ e → s.heap.get? b = some u → h'.get? b = some u) (heo : ∃ u, h'.get? e = some u)
    (new : ObjOk X.prog X.w (upd H x o) h' x o) : Inv X pins σ (upd H x o) { s with heap := h', toks := t' } := I.un (Un.write mu he k heo) (I.hok.write mu he k heo new)
theorem Inv.pins_of {pins' : List (Addr × Obj)} (I : Inv X pins σ H s) (h : ∀ p ∈ pins', s.heap.get? p.1 = some p.2 ∧ H p.1 = none ∧ p.1 ≠ X.env.locals ∧ p.1 ∉ X.fs ∧ ∀ v, p.2.data ≠ .cell v) : Inv X pins' σ H s :=
  ⟨I.ok, I.os, I.bare, I.base, I.loc, I.cell, I.free, I.freeC, fun p hp => (List.mem_append.mp hp).elim (fun z => I.pin p (List.mem_append_left _ z)) (h p), I.hok, I.len⟩
theorem nodup_ix {N : List Str} (hN : N.Nodup) {i j : Nat} {x : Str} (a : N[i]? = some x) (b : N[j]? = some x) : i = j := by
  obtain ⟨h1, e1⟩ := List.getElem?_eq_some_iff.mp a
  obtain ⟨h2, e2⟩ := List.getElem?_eq_some_iff.mp b
  exact (List.getElem_inj hN).mp (e1.trans e2.symm)
theorem store_ok2 {M : Model} {A : Around} {E : Value → Shared → Prop} {i : Nat} {x : Str} {v : V} {u : Value} {Q : Unit → Shared → Prop} (I : Inv X pins σ H s) (hN : X.N.Nodup) (hi : X.N[i]? = some x) (hx : Loc X.env.scope x) (r : RelV v u)
    (h : ∀ s', Inv X pins (σ.set i (some v)) H s' → (∃ a, Heap.SameBut a s.heap s'.heap ∧ (a = X.env.locals ∨ X.env.cells.lookup x = some a)) → Q () s') (hf : X.fn x = true ∨ X.env.scope.names.lookup x = some .local := by first | exact .inl rfl | exact .inr rfl | assumption) : wpAny M A (storeName X.env x u) Q E s := by
  obtain ⟨m, hn, hl⟩ := id I.loc
  have hcls : (X.env.scope.kind == .class || (X.env.scope.kind == .module && X.env.locals != X.env.globals)) = false := by rw [I.ok.kind]; rfl
  have hiσ : i < σ.length := by rw [I.len]; exact (List.getElem?_eq_some_iff.mp hi).1
  have cne := I.cne
  have tracked : ∀ {a : Addr} {h' : Heap}, (∃ o, s.heap.get? a = some o ∧ H a = none) → Heap.SameBut a s.heap h' → HOk X.prog X.w H h' := fun {a h'} ha hs b ob e => by
    obtain ⟨_, _, hfree⟩ := ha
    refine (I.hok b ob e).stay (fun c w' hc q => (hs.2 c ?_).trans q) (fun _ q => q) fun _ _ q => q
    rintro rfl
    rcases hc with rfl | hc
    · rw [hfree] at e; cases e
    · rw [hfree] at hc; cases hc
  rcases hx with hk | hk
  · refine wpAny_storeName_local hk hn (fun h' hn' hs => ?_) hcls
    obtain ⟨oL, _, _, hoL, _⟩ := id hn
    refine h _ ⟨I.ok, I.os, I.bare, ⟨fun b o e n hb hx => ?_, fun b o e n hb hx => ?_, I.base.free, fun b o e hx => ?_, I.base.tups, I.base.frzs, I.base.tbls⟩, ⟨_, hn', fun j y v' e1 e2 e3 => ?_⟩, fun y c e => ?_, I.free, I.freeC, fun p hp => ?_, tracked ⟨oL, hoL, I.free⟩ hs, by simpa using I.len⟩ ⟨_, hs, .inl rfl⟩
    · exact (hs.2 b (Nat.ne_of_lt (Nat.lt_of_lt_of_le (Heap.lt_size e) I.ok.above))).trans (I.base.keep b o e n hb hx)
    · obtain ⟨sl, e1⟩ := I.base.slot b o e n hb hx
      exact ⟨sl, (hs.2 b (Nat.ne_of_lt (Nat.lt_of_lt_of_le (Heap.lt_size e) I.ok.above))).trans e1⟩
    · obtain ⟨o', e1⟩ := I.base.there b o e hx
      exact ⟨o', (hs.2 b (Nat.ne_of_lt (Nat.lt_of_lt_of_le (Heap.lt_size e) I.ok.above))).trans e1⟩
    · by_cases hj : j = i
      · subst hj
        rw [hi] at e1; cases e1
        rw [List.getElem?_set_self hiσ] at e2
        cases e2
        exact ⟨u, r, .inl ⟨hk, by simp⟩⟩
      · rw [List.getElem?_set_ne (Ne.symm hj)] at e2
        obtain ⟨u', r', q⟩ := hl j y v' e1 e2 e3
        refine ⟨u', r', ?_⟩
        rcases q with ⟨k, e⟩ | ⟨k, c, e, z⟩
        · refine .inl ⟨k, ?_⟩
          have : y ≠ x := fun e => hj (nodup_ix hN e1 (e ▸ hi))
          simp [this, e]
        · exact .inr ⟨k, c, e, z.sameBut hs (cne y c e)⟩
    · obtain ⟨w', z⟩ := I.cell y c e
      exact ⟨w', z.sameBut hs (cne y c e)⟩
    · obtain ⟨e, n, ne, nf, d⟩ := I.pin p hp
      exact ⟨(hs.2 p.1 ne).trans e, n, ne, nf, d⟩
  · have hfn : X.fn x = true := by
      rcases hf with z | z
      · exact z
      · rw [z] at hk; cases hk
    obtain ⟨c, hc⟩ := I.ok.has x (.inl hk)
    obtain ⟨w', z⟩ := I.cell x c hc
    refine wpAny_storeName_cell I.ok.kind hk hc z (fun h' hc' hs => ?_)
    obtain ⟨oc, hoc, hocd⟩ := id z
    refine h { s with heap := h' } ⟨I.ok, I.os, I.bare, ⟨fun b o e n hb hx => ?_, fun b o e n hb hx => ?_, I.base.free, fun b o e hx => ?_, I.base.tups, I.base.frzs, I.base.tbls⟩, ⟨m, hn.sameBut hs (Ne.symm (cne x c hc)), fun j y v' e1 e2 e3 => ?_⟩, fun y c' e => ?_, I.free, I.freeC, fun p hp => ?_, tracked ⟨oc, hoc, I.freeC x c hc⟩ hs, by simpa using I.len⟩ ⟨c, hs, .inr hc⟩
    · exact (hs.2 b (Nat.ne_of_lt (Nat.lt_of_lt_of_le (Heap.lt_size e) (I.ok.cab x c hfn hc)))).trans (I.base.keep b o e n hb hx)
    · obtain ⟨sl, e1⟩ := I.base.slot b o e n hb hx
      exact ⟨sl, (hs.2 b (Nat.ne_of_lt (Nat.lt_of_lt_of_le (Heap.lt_size e) (I.ok.cab x c hfn hc)))).trans e1⟩
    · obtain ⟨o', e1⟩ := I.base.there b o e hx
      exact ⟨o', (hs.2 b (Nat.ne_of_lt (Nat.lt_of_lt_of_le (Heap.lt_size e) (I.ok.cab x c hfn hc)))).trans e1⟩
    · by_cases hj : j = i
      · subst hj
        rw [hi] at e1; cases e1
        rw [List.getElem?_set_self hiσ] at e2
        cases e2
        exact ⟨u, r, .inr ⟨.inl hk, c, hc, hc'⟩⟩
      · rw [List.getElem?_set_ne (Ne.symm hj)] at e2
        obtain ⟨u', r', q⟩ := hl j y v' e1 e2 e3
        refine ⟨u', r', ?_⟩
        rcases q with q | ⟨k, c', e, z'⟩
        · exact .inl q
        · refine .inr ⟨k, c', e, z'.sameBut hs ?_⟩
          rintro rfl
          exact hj (nodup_ix hN e1 (I.ok.inj _ _ _ e hc ▸ hi))
    · by_cases hcc : c' = c
      · subst hcc; exact ⟨_, hc'⟩
      · obtain ⟨w2, z2⟩ := I.cell y c' e
        exact ⟨w2, z2.sameBut hs hcc⟩
    · obtain ⟨e, n, ne, nf, d⟩ := I.pin p hp
      refine ⟨(hs.2 p.1 ?_).trans e, n, ne, nf, d⟩
      intro q
      rw [q, hoc] at e
      have q' : oc = p.2 := Option.some.inj e
      exact d w' (by rw [← q']; exact hocd)
theorem store_ok {M : Model} {A : Around} {E : Value → Shared → Prop} {i : Nat} {x : Str} {v : V} {u : Value} {Q : Unit → Shared → Prop} (I : Inv X pins σ H s) (hN : X.N.Nodup) (hi : X.N[i]? = some x) (hx : Loc X.env.scope x) (r : RelV v u)
    (h : ∀ s', Inv X pins (σ.set i (some v)) H s' → Q () s') (hf : X.fn x = true ∨ X.env.scope.names.lookup x = some .local := by first | exact .inl rfl | exact .inr rfl | assumption) : wpAny M A (storeName X.env x u) Q E s :=
  store_ok2 I hN hi hx r (fun s' I' _ => h s' I') hf
theorem Inv.call' {s' : Shared} {ch : List Addr} (I : Inv X pins σ H s) (ho : s'.os = s.os) (u : Un (frs X.stack) ch H H' s.heap s'.heap) (hok : HOk X.prog X.w H' s'.heap) (hg : AllBare s'.gens)
    (hch : ∀ b ∈ ch, (b ∈ X.ex ∨ X.s₀.heap.objs.size ≤ b) ∧ b ≠ X.env.locals ∧ (∀ x c, X.env.cells.lookup x = some c → c ≠ b) ∧ ∀ p ∈ X.pn ++ pins, p.1 ≠ b) : Inv X pins σ H' s' := by
  obtain ⟨h', g', d', t', o'⟩ := s'
  have e : o' = s.os := ho
  subst e
  exact I.call (g' := g') (t' := t') (d' := d') u hok hg hch
end
abbrev XK := Value → Option Addr → Hp → Prop
abbrev St := List (Option V)
abbrev VK := V → Hp → Prop
abbrev TE := St → Hp → VK → Prop
abbrev TT := St → Hp → (Bool → Hp → Prop) → Prop
abbrev TA := St → Hp → (List V → Hp → Prop) → Prop
structure Ends where
  nx : St → Hp → Prop
  rt : VK
  bk : St → Hp → Prop := fun _ _ => False
  ct : St → Hp → Prop := fun _ _ => False
abbrev TS := Ends → St → Hp → Prop
def EP (X : Cx) (pins : List (Addr × Obj)) (σ : St) (Q : VK) (u : Value) (s' : Shared) : Prop := ∃ v H', Inv X pins σ H' s' ∧ RelV v u ∧ Q v H'
def TP (X : Cx) (pins : List (Addr × Obj)) (σ : St) (Q : Bool → Hp → Prop) (b : Bool) (s' : Shared) : Prop := ∃ H', Inv X pins σ H' s' ∧ Q b H'
def AP (X : Cx) (pins : List (Addr × Obj)) (σ : St) (Q : List V → Hp → Prop) (us : List Value) (s' : Shared) : Prop := ∃ vs H', Inv X pins σ H' s' ∧ Vals vs us ∧ Q vs H'
def SP (X : Cx) (pins : List (Addr × Obj)) (D : Ends) (f : Flow) (s' : Shared) : Prop :=
  match f with
  | .next => ∃ σ' H', Inv X pins σ' H' s' ∧ D.nx σ' H'
  | .brk => ∃ σ' H', Inv X pins σ' H' s' ∧ D.bk σ' H'
  | .cont => ∃ σ' H', Inv X pins σ' H' s' ∧ D.ct σ' H'
  | .ret u => ∃ v σ' H', Inv X pins σ' H' s' ∧ RelV v u ∧ D.rt v H'
def PE (X : Cx) (e : Expr) (t : TE) : Prop :=
  ∀ (pins : List (Addr × Obj)) (s : Shared) (σ : St) (H : Hp) (Q : VK), Inv X pins σ H s → t σ H Q → wpAny (model X.prog X.w) X.A (eval e X.env) (EP X pins σ Q) X.xe s
def PT (X : Cx) (e : Expr) (t : TT) : Prop :=
  ∀ (pins : List (Addr × Obj)) (s : Shared) (σ : St) (H : Hp) (Q : Bool → Hp → Prop), Inv X pins σ H s → t σ H Q → wpAny (model X.prog X.w) X.A (isTrue e X.env (eval e X.env)) (TP X pins σ Q) X.xe s
def PW (X : Cx) (e : Expr) (t : TT) : Prop :=
  ∀ (whole : Sem Value) (pins : List (Addr × Obj)) (s : Shared) (σ : St) (H : Hp) (Q : Bool → Hp → Prop), Inv X pins σ H s → t σ H Q → wpAny (model X.prog X.w) X.A (isTrue e X.env whole) (TP X pins σ Q) X.xe s
theorem PW.pt {X : Cx} {e : Expr} {t : TT} (h : PW X e t) : PT X e t := h _
def PA (X : Cx) (es : List Expr) (t : TA) : Prop :=
  ∀ (pos : Pos) (pins : List (Addr × Obj)) (s : Shared) (σ : St) (H : Hp) (Q : List V → Hp → Prop), Inv X pins σ H s → t σ H Q → wpAny (model X.prog X.w) X.A (spliced (backTo pos (starEach es X.env))) (AP X pins σ Q) X.xe s
def PS (X : Cx) (st : Stmt) (t : TS) : Prop :=
  ∀ (pins : List (Addr × Obj)) (s : Shared) (σ : St) (H : Hp) (D : Ends), Inv X pins σ H s → t D σ H → wpAny (model X.prog X.w) X.A (exec st X.env) (SP X pins D) X.xe s
def PSs (X : Cx) (st : List Stmt) (t : TS) : Prop :=
  ∀ (pins : List (Addr × Obj)) (s : Shared) (σ : St) (H : Hp) (D : Ends), Inv X pins σ H s → t D σ H → wpAny (model X.prog X.w) X.A (execs st X.env) (SP X pins D) X.xe s
theorem thn {α : Type} {t : Sem α} {Q Q' : α → Shared → Prop} {M : Model} {A : Around} {E : Value → Shared → Prop} {s : Shared} (h : wpAny M A t Q E s) (hQ : ∀ a s, Q a s → Q' a s) : wpAny M A t Q' E s := wpAny_mono h hQ fun _ _ x => x
end L2
namespace L2
open PySem PySem.Spec PyProof.Rows
section
variable {X : Cx}
def tVar (i : Nat) : TE := fun σ H Q => ∃ v, σ[i]? = some (some v) ∧ Q v H
def tC (v : V) : TE := fun _ H Q => Q v H
theorem pe_var {i : Nat} {x : Str} {pos : Pos} (hN : X.N[i]? = some x) (hv : Vis X.env.scope x) (hd : (x == ("__debug__" : Str)) = false := by decide) (hcd : (x == ("__classdict__" : Str)) = false := by decide) : PE X (.Name x pos) (tVar i) := by
  intro pins s σ H Q I h
  obtain ⟨v, e, h⟩ := h
  obtain ⟨m, hn, hl⟩ := I.loc
  obtain ⟨u, r, l⟩ := hl i x v hN e hv
  have fin : EP X pins σ Q u s := ⟨v, H, I, r, h⟩
  rcases l with ⟨hk, hm⟩ | ⟨hk, c, hc, hcell⟩
  · exact wpAny_Name (wpAny_loadName_local I.ok.kind hk hn hm fin) hd
  · rcases hk with hk | hk
    · exact wpAny_Name (wpAny_loadName_cell I.ok.kind hk hc hcell fin) hd
    · exact wpAny_Name (wpAny_loadName_free I.ok.kind hk hc hcell fin hcd) hd
theorem pe_int {i j pos} : PE X (.Constant (.int i) j pos) (tC (.int i)) := fun _ _ _ H _ I h => wpAny_Constant_int ⟨.int i, H, I.tok _, ⟨_, rfl⟩, h⟩
theorem pe_bl {b j pos} : PE X (.Constant (.bool b) j pos) (tC (.bl b)) := fun _ _ _ H _ I h => Constant_bool ⟨.bl b, H, I, rfl, h⟩
theorem pe_non {j pos} : PE X (.Constant .none j pos) (tC .non) := fun _ _ _ H _ I h => Constant_none ⟨.non, H, I, rfl, h⟩
theorem pe_str {x j pos} : PE X (.Constant (.str x) j pos) (tC (.str x)) := fun _ _ _ H _ I h => Calls.Constant_str ⟨.str x, H, I.tok _, ⟨_, rfl⟩, h⟩
def Gl (X : Cx) (x : Str) : Prop := X.env.kindOf x = some .globalImplicit
theorem ld_glob {E : Value → Shared → Prop} {pins : List (Addr × Obj)} {s : Shared} {σ : St} {H : Hp} {x : Str} {u : Value} {pos : Pos} {Q : Value → Shared → Prop} (I : Inv X pins σ H s) (hg : Gl X x) (hm : X.mg x = some u) (h : Q u s)
    (hd : (x == ("__debug__" : Str)) = false := by decide) : wpAny (model X.prog X.w) X.A (eval (.Name x pos) X.env) Q E s :=
  Calls.Name_function_global I.ok.kind hg (Calls.loadGlobal_global (by rw [I.ok.glob]; exact I.mod.glob.keeps I.bk) hm h) hd
theorem ld_blt {E : Value → Shared → Prop} {pins : List (Addr × Obj)} {s : Shared} {σ : St} {H : Hp} {x : Str} {u : Value} {pos : Pos} {Q : Value → Shared → Prop} (I : Inv X pins σ H s) (hg : Gl X x) (hm : X.mg x = none) (hv : bootBuiltins x = some u) (h : Q u s)
    (hn : x ≠ "__name__" := by decide) (hd : (x == ("__debug__" : Str)) = false := by decide) : wpAny (model X.prog X.w) X.A (eval (.Name x pos) X.env) Q E s := by
  obtain ⟨mb, h1, h2⟩ := I.mod.blt
  exact Calls.Name_function_global I.ok.kind hg (Calls.loadGlobal_builtin (by rw [I.ok.glob]; exact I.mod.glob.keeps I.bk) hm (by rw [I.ok.blt]; exact h1.keeps I.bk) ((h2 x hn).trans hv) h) hd
theorem pe_bltn {x : Str} {v : V} {u : Value} {pos : Pos} (hg : Gl X x) (hm : X.mg x = none) (hv : bootBuiltins x = some u) (r : RelV v u) (hn : x ≠ "__name__" := by decide) (hd : (x == ("__debug__" : Str)) = false := by decide) : PE X (.Name x pos) (tC v) :=
  fun _ _ _ H _ I h => ld_blt I hg hm hv ⟨v, H, I, r, h⟩ hn hd
variable {a b : Expr} {ta tb : TE} {pos : Pos}
def tB (t : TE) : TT := fun σ H Q => t σ H fun x H1 => ∃ c, x = .bl c ∧ Q c H1
variable {tA tB' : TT} {rest : List Expr}
def tAnd (t u : TT) : TT := fun σ H Q => t σ H fun c H1 => if c = true then u σ H1 Q else Q false H1
def tOr (t u : TT) : TT := fun σ H Q => t σ H fun c H1 => if c = true then Q true H1 else u σ H1 Q
def tNot (t : TT) : TT := fun σ H Q => t σ H fun c H1 => Q (!c) H1
theorem pw_and1 (ha : PT X a tA) : PW X (.BoolOp .And [a] pos) tA := by
  intro wh pins s σ H Q I h
  refine isTrue_and (thn (ha pins s σ H Q I h) fun c s1 e => ?_)
  cases c with
  | true => exact isTrue_and_nil e
  | false => exact e
theorem pw_or1 (ha : PT X a tA) : PW X (.BoolOp .Or [a] pos) tA := by
  intro wh pins s σ H Q I h
  refine isTrue_or (thn (ha pins s σ H Q I h) fun c s1 e => ?_)
  cases c with
  | false => exact isTrue_or_nil e
  | true => exact e
theorem pw_and (ha : PT X a tA) (hb : PW X (.BoolOp .And (b :: rest) pos) tB') : PW X (.BoolOp .And (a :: b :: rest) pos) (tAnd tA tB') := by
  intro wh pins s σ H Q I h
  refine isTrue_and (thn (ha pins s σ H _ I h) fun c s1 ⟨H1, I1, q1⟩ => ?_)
  cases c with
  | true => exact hb wh pins s1 σ H1 Q I1 q1
  | false => exact ⟨H1, I1, q1⟩
theorem pw_or (ha : PT X a tA) (hb : PW X (.BoolOp .Or (b :: rest) pos) tB') : PW X (.BoolOp .Or (a :: b :: rest) pos) (tOr tA tB') := by
  intro wh pins s σ H Q I h
  refine isTrue_or (thn (ha pins s σ H _ I h) fun c s1 ⟨H1, I1, q1⟩ => ?_)
  cases c with
  | true => exact ⟨H1, I1, q1⟩
  | false => exact hb wh pins s1 σ H1 Q I1 q1
theorem pt_not (ha : PT X a tA) : PT X (.UnaryOp .Not a pos) (tNot tA) := by
  intro pins s σ H Q I h
  exact isTrue_not (ha pins s σ H (fun c H1 => Q (!c) H1) I h)
def tAndV (ta tb : TE) : TE := fun σ H Q => ta σ H fun x H1 => ∃ c, x = .bl c ∧ if c = true then tb σ H1 Q else Q (.bl false) H1
def tNotV (ta : TE) : TE := fun σ H Q => ta σ H fun x H1 => ∃ c, x = .bl c ∧ Q (.bl (!c)) H1
theorem pe_one {op} {t : TE} (h : PE X a t) : PE X (.BoolOp op [a] pos) t := fun pins s σ H Q I hw => BoolOp_one (h pins s σ H Q I hw)
theorem pe_and (ha : PE X a ta) (hb : PE X (.BoolOp .And (b :: rest) pos) tb) : PE X (.BoolOp .And (a :: b :: rest) pos) (tAndV ta tb) := by
  intro pins s σ H Q I h
  refine BoolOp_and (thn (ha pins s σ H _ I h) fun v s1 ⟨x, H1, I1, r1, q1⟩ => ?_)
  obtain ⟨c, rfl, q1⟩ := q1
  cases r1
  refine wpAny_truthy_bool ?_
  cases c with
  | true => exact hb pins s1 σ H1 Q I1 q1
  | false => exact ⟨.bl false, H1, I1, rfl, q1⟩
theorem pe_not (ha : PE X a ta) : PE X (.UnaryOp .Not a pos) (tNotV ta) := by
  intro pins s σ H Q I h
  refine UnaryOp_ (thn (ha pins s σ H _ I h) fun v s1 ⟨x, H1, I1, r1, q1⟩ => ?_)
  obtain ⟨c, rfl, q1⟩ := q1
  cases r1
  exact not_of (wpAny_truthy_bool ⟨.bl (!c), H1, I1, rfl, q1⟩)
end
end L2
namespace L2
open PySem PySem.Spec PyProof.Rows
def SqL (K : PySem.W.Frag) (H : Hp) (a : Addr) (xs : List V) : Prop :=
  Rd H a (.lst xs) ∨
    ∃ (o : Obj) (its : Array Value) (n : Nat), K.lookup a = some o ∧ o.cls = .type "list" ∧ o.dict = none ∧ o.data = .seq its n ∧ its.size ≤ sizeLine ∧ Vals xs its.toList
def SqT (K : PySem.W.Frag) (H : Hp) (a : Addr) (xs : List V) : Prop :=
  Rd H a (.tup xs) ∨
    ∃ (o : Obj) (its : Array Value) (n : Nat), K.lookup a = some o ∧ o.cls = .type "tuple" ∧ o.data = .seq its n ∧ its.size ≤ sizeLine ∧ Vals xs its.toList
def absV : Value → Option V
  | .none => some .non
  | .bool b => some (.bl b)
  | .int i _ => some (.int i)
  | .str x _ => some (.str x)
  | .bytes b _ => some (.byt b)
  | .float b _ => some (.flt b)
  | .ref a => some (.ref a)
  | .type n => some (.ty n)
  | _ => none
theorem RelV.abs {x : V} {u : Value} (r : RelV x u) : absV u = some x := by
  cases x with
  | non => cases r; rfl
  | bl _ => cases r; rfl
  | int _ => obtain ⟨t, rfl⟩ := r; rfl
  | str _ => obtain ⟨t, rfl⟩ := r; rfl
  | byt _ => obtain ⟨t, rfl⟩ := r; rfl
  | flt _ => obtain ⟨t, rfl⟩ := r; rfl
  | ref _ => cases r; rfl
  | ty _ => cases r; rfl
theorem RelV.inj {x y : V} {u : Value} (r : RelV x u) (q : RelV y u) : x = y := Option.some.inj (r.abs.symm.trans q.abs)
theorem Vals.inj : ∀ {xs ys : List V} {us : List Value}, Vals xs us → Vals ys us → xs = ys
  | _, _, _, .nil, .nil => rfl
  | _, _, _, .cons r t, .cons r' t' => by rw [r.inj r', Vals.inj t t']
section
variable {X : Cx} {pins : List (Addr × Obj)} {σ : St} {H : Hp} {s : Shared} {a : Addr} {xs ys : List V}
theorem SqL.of {K : PySem.W.Frag} (h : H a = some (.lst xs)) : SqL K H a xs := .inl (.inl h)
theorem SqT.of {K : PySem.W.Frag} (h : H a = some (.tup xs)) : SqT K H a xs := .inl (.inl h)
theorem Inv.list (I : Inv X pins σ H s) (h : SqL X.K H a xs) : ∃ its : List Value, Vals xs its ∧ PlainL s.heap a its.toArray ∧ xs.length ≤ sizeLine := by
  rcases h with h | ⟨o, its, n, hk, hc, hd, hs, hz, r⟩
  · obtain ⟨z, its, n, r, e⟩ := h.ok I.hok
    exact ⟨its, r, ⟨_, n, e, rfl, rfl, rfl⟩, z⟩
  · refine ⟨its.toList, r, ⟨o, n, I.kIn a o hk, hc, hd, by simpa using hs⟩, ?_⟩
    have e := r.length
    simp only [Array.length_toList] at e
    omega
theorem Inv.tuple (I : Inv X pins σ H s) (h : SqT X.K H a xs) : ∃ its : List Value, Vals xs its ∧ IsTup s.heap a its.toArray ∧ xs.length ≤ sizeLine := by
  rcases h with h | ⟨o, its, n, hk, hc, hs, hz, r⟩
  · obtain ⟨z, its, r, p⟩ := h.ok I.hok
    exact ⟨its, r, p, z⟩
  · refine ⟨its.toList, r, ⟨o, I.kIn a o hk, hc, n, by simpa using hs⟩, ?_⟩
    have e := r.length
    simp only [Array.length_toList] at e
    omega
theorem Inv.list_inj (I : Inv X pins σ H s) (h : SqL X.K H a xs) (h' : SqL X.K H a ys) : xs = ys := by
  obtain ⟨its, r, ⟨o, n, e, _, _, d⟩, _⟩ := I.list h
  obtain ⟨its', r', ⟨o', n', e', _, _, d'⟩, _⟩ := I.list h'
  rw [e] at e'; cases e'
  rw [d] at d'
  injection d' with d1 _
  have : its = its' := by simpa using congrArg Array.toList d1
  subst this
  exact r.inj r'
theorem Inv.tuple_inj (I : Inv X pins σ H s) (h : SqT X.K H a xs) (h' : SqT X.K H a ys) : xs = ys := by
  obtain ⟨its, r, ⟨o, e, _, n, d⟩, _⟩ := I.tuple h
  obtain ⟨its', r', ⟨o', e', _, n', d'⟩, _⟩ := I.tuple h'
  rw [e] at e'; cases e'
  rw [d] at d'
  injection d' with d1 _
  have : its = its' := by simpa using congrArg Array.toList d1
  subst this
  exact r.inj r'
end
abbrev Cx.wish (X : Cx) (E : Value → Shared → Prop) : Cx := { X with xe := E }
abbrev Cx.nox (X : Cx) : Cx := X.wish fun _ _ => False
theorem Cx.Ok.wish {X : Cx} (ok : X.Ok) (E : Value → Shared → Prop) : (X.wish E).Ok :=
  ⟨ok.mod, ok.kind, ok.glob, ok.blt, ok.above, ok.inj, ok.has, ok.cab, ok.hd, ok.frames, ok.stk, ok.exf, ok.bs, ok.bsz, ok.noex, ok.exfs, ok.funs, ok.frf⟩
theorem Cx.Ok.unwish {X : Cx} {E : Value → Shared → Prop} (ok : (X.wish E).Ok) : X.Ok :=
  ⟨ok.mod, ok.kind, ok.glob, ok.blt, ok.above, ok.inj, ok.has, ok.cab, ok.hd, ok.frames, ok.stk, ok.exf, ok.bs, ok.bsz, ok.noex, ok.exfs, ok.funs, ok.frf⟩
section
variable {X : Cx} {pins : List (Addr × Obj)} {σ : St} {H : Hp} {s : Shared} {E : Value → Shared → Prop}
theorem Inv.wish (I : Inv X pins σ H s) (E : Value → Shared → Prop) : Inv (X.wish E) pins σ H s := ⟨I.ok.wish E, I.os, I.bare, I.base, I.loc, I.cell, I.free, I.freeC, I.pin, I.hok, I.len⟩
theorem Inv.unwish (I : Inv (X.wish E) pins σ H s) : Inv X pins σ H s := ⟨I.ok.unwish, I.os, I.bare, I.base, I.loc, I.cell, I.free, I.freeC, I.pin, I.hok, I.len⟩
theorem SP.unwish {D : Ends} {f : Flow} {s' : Shared} (h : SP (X.wish E) pins D f s') : SP X pins D f s' := by
  cases f with
  | next => obtain ⟨σ', H', I, q⟩ := h; exact ⟨σ', H', I.unwish, q⟩
  | brk => obtain ⟨σ', H', I, q⟩ := h; exact ⟨σ', H', I.unwish, q⟩
  | cont => obtain ⟨σ', H', I, q⟩ := h; exact ⟨σ', H', I.unwish, q⟩
  | ret u => obtain ⟨v, σ', H', I, r, q⟩ := h; exact ⟨v, σ', H', I.unwish, r, q⟩
theorem PSs.nox {st : List Stmt} {t : TS} (h : PSs X.nox st t) : PSs X st t := fun pins s σ H D I hw =>
  wpAny_mono (h pins s σ H D (I.wish _) hw) (fun _ _ q => q.unwish) fun _ _ z => False.elim z
end
section
variable {X : Cx} {st : Stmt} {rest : List Stmt} {t u : TS} {e : Expr} {te : TE} {pos : Pos}
def tNext : TS := fun D σ H => D.nx σ H
def tSeq (t u : TS) : TS := fun D σ H => t { D with nx := u D } σ H
theorem pss_nil : PSs X [] tNext := fun _ _ σ H _ I h => wpAny_execs_nil ⟨σ, H, I, h⟩
theorem pss_cons (h1 : PS X st t) (h2 : PSs X rest u) : PSs X (st :: rest) (tSeq t u) := by
  intro pins s σ H D I h
  refine wpAny_execs_cons (thn (h1 pins s σ H { D with nx := u D } I h) fun f s1 q => ?_)
  cases f with
  | next =>
    obtain ⟨σ', H', I', q⟩ := q
    exact h2 pins s1 σ' H' D I' q
  | ret v => exact q
  | brk => exact q
  | cont => exact q
theorem pss_one (h1 : PS X st t) : PSs X [st] t := by
  intro pins s σ H D I h
  refine wpAny_execs_cons (thn (h1 pins s σ H D I h) fun f s1 q => ?_)
  cases f with
  | next => exact wpAny_execs_nil q
  | ret v => exact q
  | brk => exact q
  | cont => exact q
theorem Inv.quiet {pins : List (Addr × Obj)} {σ : St} {H : Hp} {s : Shared} (I : Inv X pins σ H s) : interactive X.env = false := by simp [interactive, I.ok.kind]
def tDrop (te : TE) : TS := fun D σ H => te σ H fun _ H1 => D.nx σ H1
theorem ps_expr (he : PE X e te) (hs : swapsWith e none pos.line X.env = pure false := by rfl) : PS X (.Expr e pos) (tDrop te) := by
  intro pins s σ H D I h
  exact wpAny_Expr_any (thn (he pins s σ H _ I h) fun v s1 ⟨x, H1, I1, r1, q1⟩ => ⟨σ, H1, I1, q1⟩) I.quiet hs
def tRet (te : TE) : TS := fun D σ H => te σ H D.rt
theorem ps_ret (he : PE X e te) : PS X (.Return (some e) pos) (tRet te) := by
  intro pins s σ H D I h
  exact wpAny_Return_some (thn (he pins s σ H _ I h) fun v s1 ⟨x, H1, I1, r1, q1⟩ => ⟨x, σ, H1, I1, r1, q1⟩)
def tIfS (c : TT) (t u : TS) : TS := fun D σ H => c σ H fun b H1 => if b = true then t D σ H1 else u D σ H1
theorem ps_if {c : Expr} {a b : List Stmt} {tc : TT} (hc : PT X c tc) (ha : PSs X a t) (hb : PSs X b u) : PS X (.If c a b pos) (tIfS tc t u) := by
  intro pins s σ H D I h
  refine wpAny_If (thn (hc pins s σ H _ I h) fun d s1 ⟨H1, I1, q1⟩ => ?_)
  cases d with
  | true => exact ha pins s1 σ H1 D I1 q1
  | false => exact hb pins s1 σ H1 D I1 q1
end
abbrev TG := V → St → Hp → (St → Hp → Prop) → Prop
abbrev TGs := List V → St → Hp → (St → Hp → Prop) → Prop
def PG (X : Cx) (target : Expr) (t : TG) : Prop :=
  ∀ (pins : List (Addr × Obj)) (s : Shared) (σ : St) (H : Hp) (v : V) (u : Value) (Q : St → Hp → Prop), Inv X pins σ H s → RelV v u → t v σ H Q →
    wpAny (model X.prog X.w) X.A (assign target X.env u) (fun _ s' => ∃ σ' H', Inv X pins σ' H' s' ∧ Q σ' H') X.xe s
def PGs (X : Cx) (ts : List Expr) (t : TGs) : Prop :=
  ∀ (pins : List (Addr × Obj)) (s : Shared) (σ : St) (H : Hp) (vs : List V) (us : List Value) (Q : St → Hp → Prop), Inv X pins σ H s → Vals vs us → t vs σ H Q →
    wpAny (model X.prog X.w) X.A (assignInOrder ((assignEach ts X.env).map (·.2)) us) (fun _ s' => ∃ σ' H', Inv X pins σ' H' s' ∧ Q σ' H') X.xe s
section
variable {X : Cx} {pos : Pos}
def gName (i : Nat) : TG := fun v σ H Q => Q (σ.set i (some v)) H
theorem pg_name {i : Nat} {x : Str} (hN : X.N.Nodup) (hi : X.N[i]? = some x) (hx : Loc X.env.scope x) (hf : X.fn x = true ∨ X.env.scope.names.lookup x = some .local := by first | exact .inl rfl | exact .inr rfl | assumption) : PG X (.Name x pos) (gName i) := by
  intro pins s σ H v u Q I r h
  exact wpAny_assign_Name (store_ok I hN hi hx r (fun s' I' => ⟨_, H, I', h⟩) hf)
def gNil : TGs := fun vs σ H Q => vs = [] ∧ Q σ H
def gCons (t : TG) (u : TGs) : TGs := fun vs σ H Q => ∃ v r, vs = v :: r ∧ t v σ H fun σ' H' => u r σ' H' Q
theorem pgs_nil : PGs X [] gNil := by
  intro pins s σ H vs us Q I r h
  obtain ⟨e, h⟩ := h
  subst e
  cases r
  exact assignInOrder_nil ⟨σ, H, I, h⟩
theorem pgs_cons {e : Expr} {es : List Expr} {t : TG} {u : TGs} (h1 : PG X e t) (h2 : PGs X es u)
    (hs : (assignEach (e :: es) X.env).map (·.2) = assign e X.env :: (assignEach es X.env).map (·.2) := by rfl) : PGs X (e :: es) (gCons t u) := by
  intro pins s σ H vs us Q I r h
  obtain ⟨v, vr, e1, h⟩ := h
  subst e1
  cases r with
  | cons r rr =>
    rw [hs]
    refine assignInOrder_cons (thn (h1 pins s σ H _ _ _ I r h) fun _ s1 ⟨σ1, H1, I1, q1⟩ => ?_)
    exact h2 pins s1 σ1 H1 _ _ Q I1 rr q1
def gTup (K : PySem.W.Frag) (n : Nat) (t : TGs) : TG := fun v σ H Q => ∃ a xs, v = .ref a ∧ SqT K H a xs ∧ xs.length = n ∧ t xs σ H Q
theorem pg_tup {es : List Expr} {k : Nat} {t : TGs} {n : Nat} (hc : X.calm = true) (h : PGs X es t)
    (hn : (assignEach es X.env).length = n := by rfl) (hst : (assignEach es X.env).findIdx? (·.1) = none := by rfl) : PG X (.Tuple es k pos) (gTup X.K n t) := by
  intro pins s σ H v u Q I r hw
  obtain ⟨a, xs, e1, hq, hl, hw⟩ := hw
  subst e1
  cases r
  obtain ⟨its, rv, ht, hz⟩ := I.tuple hq
  refine assign_Tuple_tuple (I.ok.hd hc) ht (by simp [hn, ← hl, rv.length]) hst fun h' hx => ?_
  have I1 : Inv X pins σ H { s with heap := h' } := I.kept (t' := s.toks) fun b o e => hx b o (Nat.ne_of_lt (Heap.lt_size e)) e
  exact h pins _ σ H xs _ Q I1 (by simpa using rv) hw
def tAsg (te : TE) (g : TG) : TS := fun D σ H => te σ H fun x H1 => g x σ H1 D.nx
theorem ps_set {i : Nat} {x : Str} {e : Expr} {te : TE} {pos' : Pos} (hN : X.N.Nodup) (hi : X.N[i]? = some x) (hx : Loc X.env.scope x) (he : PE X e te) (hs : swapsWith e (some (.Name x pos')) pos.line X.env = pure false := by rfl) (hf : X.fn x = true ∨ X.env.scope.names.lookup x = some .local := by first | exact .inl rfl | exact .inr rfl | assumption) :
    PS X (.Assign [.Name x pos'] e pos) (tAsg te (gName i)) := by
  intro pins s σ H D I h
  refine wpAny_Assign_Name (thn (he pins s σ H _ I h) fun v s1 ⟨y, H1, I1, r1, q1⟩ => ?_) hs
  exact store_ok I1 hN hi hx r1 (fun s2 I2 => ⟨_, H1, I2, q1⟩) hf
end
structure It where
  go : Nat → Hp → Prop
  yld : Nat → Hp → V → Hp → Prop
  stop : Nat → Hp → Prop
def FpOk (X : Cx) (pins : List (Addr × Obj)) (H : Hp) (b : Addr) : Prop :=
  H b = none ∧ b ≠ X.env.locals ∧ b ∉ X.fs ∧ (b ∈ X.ex ∨ X.s₀.heap.objs.size ≤ b) ∧ (∀ x c, X.env.cells.lookup x = some c → c ≠ b) ∧ ∀ p ∈ X.pn ++ pins, p.1 ≠ b
theorem Inv.fpOk {X : Cx} {pins : List (Addr × Obj)} {σ : St} {H H' : Hp} {s : Shared} {b : Addr} (I : Inv X pins σ H s) (hb : s.heap.objs.size ≤ b) (hn : H' b = none) : FpOk X pins H' b := by
  refine ⟨hn, Nat.ne_of_gt (Nat.lt_of_lt_of_le I.lt hb), I.nofs hb, .inr (Nat.le_trans I.sz hb), fun x c e z => ?_, fun p hp z => ?_⟩
  · obtain ⟨v, q⟩ := I.cell x c e
    exact absurd (Nat.lt_of_lt_of_le q.lt (by rw [z]; exact hb)) (Nat.lt_irrefl _)
  · exact absurd (Nat.lt_of_lt_of_le (Heap.lt_size (I.pin p hp).1) (by rw [z]; exact hb)) (Nat.lt_irrefl _)
structure Turn (P : Program) (w : World) (K : PySem.W.Frag) (tg : Expr) (J : It) (fp : List Addr) (it : Addr) (tn : Nat → Heap → Prop) : Prop where
  mem : it ∈ fp
  obj : ∀ i h, tn i h → ∀ b ∈ fp, ∃ o, h.get? b = some o ∧ ∀ v, o.data ≠ .cell v
  keep : ∀ i h h', tn i h → (∀ b ∈ fp, ∀ o, h.get? b = some o → h'.get? b = some o) → tn i h'
  item : ∀ (X : Cx), X.prog = P → X.w = w → X.K = K → X.calm = true → ∀ (i : Nat) (pins : List (Addr × Obj)) (s : Shared) (σ : St) (H : Hp) (E : Value → Shared → Prop), Inv X pins σ H s → (∀ b ∈ fp, FpOk X pins H b) → tn i s.heap → J.go i H →
    wpAny (model P w) X.A (pyNext (.ref it)) (fun r s1 => ∃ u, r = some u ∧
      wpAny (model P w) X.A (letOwnedTupleGo tg (.ref it) u) (fun _ s2 => ∃ x H', Inv X pins σ H' s2 ∧ RelV x u ∧ J.yld i H x H' ∧ tn (i + 1) s2.heap ∧ ∀ b ∈ fp, H' b = none) E s1) E s
  done : ∀ (X : Cx), X.prog = P → X.w = w → X.K = K → X.calm = true → ∀ (i : Nat) (pins : List (Addr × Obj)) (s : Shared) (σ : St) (H : Hp) (E : Value → Shared → Prop), Inv X pins σ H s → (∀ b ∈ fp, FpOk X pins H b) → tn i s.heap → J.stop i H →
    wpAny (model P w) X.A (pyNext (.ref it)) (fun r s1 => r = none ∧ Inv X pins σ H s1) E s
  self : ∀ (A : Around) (i : Nat) (s : Shared) (Q : Value → Shared → Prop) (E : Value → Shared → Prop), tn i s.heap → Q (.ref it) s → wpAny (model P w) A (pyIter (.ref it)) Q E s
abbrev TI := St → Hp → (It → Hp → Prop) → Prop
def PIE (X : Cx) (pins : List (Addr × Obj)) (σ : St) (tg : Expr) (R : It → Hp → Prop) (itv : Value) (s2 : Shared) : Prop :=
  ∃ (it : Addr) (fp : List Addr) (tn : Nat → Heap → Prop) (J : It) (H' : Hp), itv = .ref it ∧ Inv X pins σ H' s2 ∧ Turn X.prog X.w X.K tg J fp it tn ∧ tn 0 s2.heap ∧ (∀ b ∈ fp, FpOk X pins H' b) ∧ R J H'
def PI (X : Cx) (tg iter : Expr) (wi : TI) : Prop :=
  ∀ (pins : List (Addr × Obj)) (s : Shared) (σ : St) (H : Hp) (R : It → Hp → Prop), Inv X pins σ H s → wi σ H R →
    wpAny (model X.prog X.w) X.A (eval iter X.env) (fun v s1 => wpAny (model X.prog X.w) X.A (pyIter v) (PIE X pins σ tg R) X.xe s1) X.xe s
theorem go_of {M : Model} {A : Around} {E : Value → Shared → Prop} {s : Shared} {tg : Expr} {it : Addr} {u : Value} {o : Obj} {n : String} {vs : Array Value} {Q : Unit → Shared → Prop} (ho : s.heap.get? it = some o) (hc : o.cls = .type n) (hd : o.data = .fields vs)
    (hn : ["enumerate", "zip", "dict_itemiterator", "dict_reverseitemiterator", "odict_iterator", "itertools.zip_longest", "itertools.pairwise"].contains n = false) (hQ : Q () s) : wpAny M A (letOwnedTupleGo tg (.ref it) u) Q E s := by
  unfold letOwnedTupleGo
  cases tg <;> first
    | exact wpAny_pure hQ
    | (cases u <;> first
        | exact wpAny_pure hQ
        | (refine wpAny_bind (wpAny_load ho ?_)
           rw [hc, hd]
           show wpAny M A (if (["enumerate", "zip", "dict_itemiterator", "dict_reverseitemiterator", "odict_iterator", "itertools.zip_longest", "itertools.pairwise"].contains n && vs[0]? == some (rawInt _)) = true then _ else _) Q E s
           rw [if_neg (by intro h; rw [hn, Bool.false_and] at h; cases h)]
           exact wpAny_pure hQ))
def Itl (K : PySem.W.Frag) (a : Addr) : It :=
  ⟨fun i H => ∃ xs x, SqL K H a xs ∧ xs[i]? = some x, fun i H x H' => H' = H ∧ ∀ xs, SqL K H a xs → xs[i]? = some x, fun i H => ∃ xs, SqL K H a xs ∧ xs.length ≤ i⟩
def Itt (K : PySem.W.Frag) (a : Addr) : It :=
  ⟨fun i H => ∃ xs x, SqT K H a xs ∧ xs[i]? = some x, fun i H x H' => H' = H ∧ ∀ xs, SqT K H a xs → xs[i]? = some x, fun i H => ∃ xs, SqT K H a xs ∧ xs.length ≤ i⟩
def Itr (lo : Int) (n : Nat) : It := ⟨fun i _ => i < n, fun i H x H' => H' = H ∧ x = .int (lo + i), fun i _ => n ≤ i⟩
theorem turn_list {P : Program} {w : World} {K : PySem.W.Frag} {tg : Expr} (a it : Addr) : Turn P w K tg (Itl K a) [it] it (fun i h => h.IsListIter it a i) where
  mem := by simp
  obj := fun i h st b hb => by
    have e : b = it := by simpa using hb
    subst e
    obtain ⟨o, e, c, d⟩ := st
    exact ⟨o, e, fun v z => by rw [d] at z; cases z⟩
  keep := fun i h h' st k => st.at fun o e => k it (by simp) o e
  item := by
    intro X hP hw hK hc i pins s σ H E I hf st hg
    subst hP hw hK
    obtain ⟨xs, x, hq, hx⟩ := hg
    obtain ⟨its, rv, p, hz⟩ := I.list hq
    obtain ⟨u, hu, ru⟩ := rv.get hx
    obtain ⟨f0, f1, f2, f3, f4, f5⟩ := hf it (by simp)
    refine wpAny_pyNext_list_item st p.isList (x := u) (by simpa using hu) fun h' st' sb => ?_
    have I1 : Inv X pins σ H { s with heap := h' } := I.turned (t' := s.toks) (fun b o hb e => (sb.2 b hb).trans e) f0 f1 f3 f4 f5
    obtain ⟨o, e, c, d⟩ := id st'
    exact ⟨u, rfl, go_of (s := { s with heap := h' }) e c d (by decide) ⟨x, H, I1, ru, ⟨rfl, fun ys hy => by rw [I.list_inj hy hq]; exact hx⟩, st', fun b hb => (hf b hb).1⟩⟩
  done := by
    intro X hP hw hK hc i pins s σ H E I hf st hg
    subst hP hw hK
    obtain ⟨xs, hq, hx⟩ := hg
    obtain ⟨its, rv, p, hz⟩ := I.list hq
    obtain ⟨f0, f1, f2, f3, f4, f5⟩ := hf it (by simp)
    have hl := rv.length
    exact wpAny_pyNext_list_end (I.ok.hd hc) st p.isList (by simp; omega) fun h' eb => ⟨rfl, I.turned (t' := s.toks) (fun b o hb e => eb b o hb e) f0 f1 f3 f4 f5⟩
  self := fun _ _ _ _ _ st h => wpAny_pyIter_listiter st h
theorem turn_tuple {P : Program} {w : World} {K : PySem.W.Frag} {tg : Expr} (a it : Addr) : Turn P w K tg (Itt K a) [it] it (fun i h => h.IsTupleIter it a i) where
  mem := by simp
  obj := fun i h st b hb => by
    have e : b = it := by simpa using hb
    subst e
    obtain ⟨o, e, c, d⟩ := st
    exact ⟨o, e, fun v z => by rw [d] at z; cases z⟩
  keep := fun i h h' st k => st.at fun o e => k it (by simp) o e
  item := by
    intro X hP hw hK hc i pins s σ H E I hf st hg
    subst hP hw hK
    obtain ⟨xs, x, hq, hx⟩ := hg
    obtain ⟨its, rv, p, hz⟩ := I.tuple hq
    obtain ⟨u, hu, ru⟩ := rv.get hx
    obtain ⟨f0, f1, f2, f3, f4, f5⟩ := hf it (by simp)
    refine wpAny_pyNext_tuple_item st (show s.heap.IsTuple a its.toArray from p) (x := u) (by simpa using hu) fun h' st' sb => ?_
    have I1 : Inv X pins σ H { s with heap := h' } := I.turned (t' := s.toks) (fun b o hb e => (sb.2 b hb).trans e) f0 f1 f3 f4 f5
    obtain ⟨o, e, c, d⟩ := id st'
    exact ⟨u, rfl, go_of (s := { s with heap := h' }) e c d (by decide) ⟨x, H, I1, ru, ⟨rfl, fun ys hy => by rw [I.tuple_inj hy hq]; exact hx⟩, st', fun b hb => (hf b hb).1⟩⟩
  done := by
    intro X hP hw hK hc i pins s σ H E I hf st hg
    subst hP hw hK
    obtain ⟨xs, hq, hx⟩ := hg
    obtain ⟨its, rv, p, hz⟩ := I.tuple hq
    obtain ⟨f0, f1, f2, f3, f4, f5⟩ := hf it (by simp)
    have hl := rv.length
    exact wpAny_pyNext_tuple_end (I.ok.hd hc) st (show s.heap.IsTuple a its.toArray from p) (by simp; omega) fun h' eb => ⟨rfl, I.turned (t' := s.toks) (fun b o hb e => eb b o hb e) f0 f1 f3 f4 f5⟩
  self := fun _ _ _ _ _ st h => wpAny_pyIter_tupleiter st h
theorem turn_range {P : Program} {w : World} {K : PySem.W.Frag} {tg : Expr} (it : Addr) (lo : Int) (n : Nat) : Turn P w K tg (Itr lo n) [it] it (fun i h => IsRangeIter h it (lo + (i : Nat) * 1) ((n : Int) - (i : Nat)) 1) where
  mem := by simp
  obj := fun i h st b hb => by
    have e : b = it := by simpa using hb
    subst e
    exact ⟨_, st, fun v z => by
      have z' : Data.fields _ = Data.cell v := z
      cases z'⟩
  keep := fun i h h' st k => k it (by simp) _ st
  item := by
    intro X hP hw hK hc i pins s σ H E I hf st hg
    subst hP hw hK
    obtain ⟨f0, f1, f2, f3, f4, f5⟩ := hf it (by simp)
    have W := Walks.range (prog := X.prog) (w := X.w) (I.ok.hd hc) it lo 1 n
    refine W.item i s _ _ hg st fun v h' tk hv st' kk => ?_
    obtain ⟨t, rfl⟩ := hv
    have I1 : Inv X pins σ H { s with heap := h', toks := tk } := I.turned (fun b o hb e => kk b o (by simpa using hb) e) f0 f1 f3 f4 f5
    refine ⟨_, rfl, go_of (s := { s with heap := h', toks := tk }) (n := "range_iterator") st' rfl rfl (by decide) ⟨.int (lo + i), H, I1, ⟨t, ?_⟩, ⟨rfl, rfl⟩, st', fun b hb => (hf b hb).1⟩⟩
    rw [Int.mul_one]
  done := by
    intro X hP hw hK hc i pins s σ H E I hf st hg
    subst hP hw hK
    obtain ⟨f0, f1, f2, f3, f4, f5⟩ := hf it (by simp)
    exact wpAny_pyNext_range_end (I.ok.hd hc) st (by have : n ≤ i := hg; omega) fun h' eb => ⟨rfl, I.turned (t' := s.toks) (fun b o hb e => eb b o hb e) f0 f1 f3 f4 f5⟩
  self := fun _ _ _ _ _ st h => wpAny_pyIter_rangeiter st h
end L2
namespace L2
open PySem PySem.Spec PyProof.Rows
section
variable {X : Cx} {tg : Expr}
def iList (K : PySem.W.Frag) (tl : TE) : TI := fun σ H R => tl σ H fun x H1 => ∃ a, x = .ref a ∧ (∃ xs, SqL K H1 a xs) ∧ R (Itl K a) H1
def iTup (K : PySem.W.Frag) (tl : TE) : TI := fun σ H R => tl σ H fun x H1 => ∃ a, x = .ref a ∧ (∃ xs, SqT K H1 a xs) ∧ R (Itt K a) H1
theorem pi_list {l : Expr} {tl : TE} (hl : PE X l tl) : PI X tg l (iList X.K tl) := by
  intro pins s σ H R I h
  refine thn (hl pins s σ H _ I h) fun v s1 ⟨x, H1, I1, r1, q1⟩ => ?_
  obtain ⟨a, e, ⟨xs, hq⟩, q⟩ := q1
  subst e
  cases r1
  obtain ⟨its, rv, p, hz⟩ := I1.list hq
  refine wpAny_pyIter_list p.isList ?_
  refine ⟨s1.heap.objs.size, [s1.heap.objs.size], _, _, H1, rfl, I1.kept (t' := s1.toks) fun b o e => Heap.get?_push_of_some _ e, turn_list a _, ⟨_, Heap.get?_push_size _ rfl, rfl, rfl⟩, fun b hb => ?_, q⟩
  have e : b = s1.heap.objs.size := by simpa using hb
  subst e
  exact I1.fpOk (Nat.le_refl _) (I1.hok.fresh (Nat.le_refl _))
theorem pi_tup {l : Expr} {tl : TE} (hl : PE X l tl) : PI X tg l (iTup X.K tl) := by
  intro pins s σ H R I h
  refine thn (hl pins s σ H _ I h) fun v s1 ⟨x, H1, I1, r1, q1⟩ => ?_
  obtain ⟨a, e, ⟨xs, hq⟩, q⟩ := q1
  subst e
  cases r1
  obtain ⟨its, rv, p, hz⟩ := I1.tuple hq
  refine wpAny_pyIter_tuple (show s1.heap.IsTuple a its.toArray from p) ?_
  refine ⟨s1.heap.objs.size, [s1.heap.objs.size], _, _, H1, rfl, I1.kept (t' := s1.toks) fun b o e => Heap.get?_push_of_some _ e, turn_tuple a _, ⟨_, Heap.get?_push_size _ rfl, rfl, rfl⟩, fun b hb => ?_, q⟩
  have e : b = s1.heap.objs.size := by simpa using hb
  subst e
  exact I1.fpOk (Nat.le_refl _) (I1.hok.fresh (Nat.le_refl _))
theorem range_it {pins : List (Addr × Obj)} {σ : St} {H : Hp} {s : Shared} {R : It → Hp → Prop} {E : Value → Shared → Prop} {lo hi : Int} {t u v : Tok} {tk : Nat} (I : Inv X pins σ H s) (h1 : -(2 ^ 62) ≤ lo) (h2 : lo < 2 ^ 62) (h3 : -(2 ^ 62) ≤ hi) (h4 : hi < 2 ^ 62)
    (q : R (Itr lo (hi - lo).toNat) H) : wpAny (model X.prog X.w) X.A (pyIter (.ref s.heap.objs.size)) (PIE X pins σ tg R) E { s with heap := s.heap.push { cls := .type "range", data := .fields #[.int lo t, .int hi u, .int 1 v] }, toks := tk } := by
  refine wpAny_pyIter_range (IsRange.new ..) (small_one h1 h2 h3 h4) ?_
  have I1 : Inv X pins σ H { s with heap := s.heap.push { cls := .type "range", data := .fields #[.int lo t, .int hi u, .int 1 v] }, toks := tk } := I.kept fun b o e => Heap.get?_push_of_some _ e
  refine ⟨(s.heap.push { cls := .type "range", data := .fields #[.int lo t, .int hi u, .int 1 v] }).objs.size, [(s.heap.push { cls := .type "range", data := .fields #[.int lo t, .int hi u, .int 1 v] }).objs.size], _, _, H, rfl,
    I1.kept (t' := tk) fun b o e => Heap.get?_push_of_some _ e, turn_range _ lo (hi - lo).toNat, ?_, fun b hb => ?_, q⟩
  · have e1 : lo + ((0 : Nat) : Int) * 1 = lo := by simp
    have e2 : (((hi - lo).toNat : Nat) : Int) - ((0 : Nat) : Int) = Builtin.Range.rangeSize lo hi 1 := by rw [rangeSize_one]; split <;> omega
    show IsRangeIter _ _ (lo + ((0 : Nat) : Int) * 1) ((((hi - lo).toNat : Nat) : Int) - ((0 : Nat) : Int)) 1
    rw [e1, e2]
    exact Heap.get?_push_size _ rfl
  · have e : b = (s.heap.push { cls := .type "range", data := .fields #[.int lo t, .int hi u, .int 1 v] }).objs.size := by simpa using hb
    subst e
    exact I1.fpOk (Nat.le_refl _) (I1.hok.fresh (Nat.le_refl _))
def iRng1 (ta : TA) : TI := fun σ H R => ta σ H fun vs H1 => ∃ j : Int, vs = [.int j] ∧ -(2 ^ 62) ≤ j ∧ j < 2 ^ 62 ∧ R (Itr 0 j.toNat) H1
theorem pi_range1 {a : Expr} {ta : TA} {p pos : Pos} (hg : Gl X "range") (hm : X.mg "range" = none) (ha : PA X [a] ta) (hs : starEach [a] X.env = [(false, eval a X.env)] := by rfl) : PI X tg (.Call (.Name "range" p) [a] [] pos) (iRng1 ta) := by
  intro pins s σ H R I h
  refine Call_ (ld_blt I hg hm boot_range (PyProof.Rows.callWith_type1 (thn (ha pos pins s σ H _ I h) fun us s1 ⟨vs, H1, I1, r1, q1⟩ => ?_) hs rfl))
  obtain ⟨j, e, q1, q2, q⟩ := q1
  subst e
  cases r1 with
  | cons r rr =>
    cases rr
    obtain ⟨t, rfl⟩ := r
    exact call_range_1 (range_it I1 (by omega) (by omega) q1 q2 (by simpa using q))
def tFor (wi : TI) (g : TG) (tb : TS) : TS := fun D σ H => wi σ H fun J H1 => ∃ W : Nat → Nat → St → Hp → Prop, (∃ m, W 0 m σ H1) ∧ ∀ i m σ H, W i m σ H →
  (J.stop i H ∧ D.nx σ H) ∨ (J.go i H ∧ ∃ N : St → Hp → Prop, (∀ σ' H', N σ' H' → ∃ m', m' < m ∧ W (i + 1) m' σ' H') ∧ ∀ x H', J.yld i H x H' → g x σ H' fun σ2 H2 => tb { D with nx := N, ct := N, bk := D.nx } σ2 H2)
def pinsAt (fp : List Addr) (h : Heap) : List (Addr × Obj) := fp.filterMap fun b => (h.get? b).map fun o => (b, o)
theorem mem_pinsAt {fp : List Addr} {h : Heap} {b : Addr} {o : Obj} (hb : b ∈ fp) (e : h.get? b = some o) : (b, o) ∈ pinsAt fp h := List.mem_filterMap.mpr ⟨b, hb, by rw [e]; rfl⟩
theorem of_pinsAt {fp : List Addr} {h : Heap} {p : Addr × Obj} (hp : p ∈ pinsAt fp h) : p.1 ∈ fp ∧ h.get? p.1 = some p.2 := by
  obtain ⟨b, hb, e⟩ := List.mem_filterMap.mp hp
  cases q : h.get? b with
  | none => rw [q] at e; cases e
  | some o =>
    rw [q] at e
    have e' : (b, o) = p := Option.some.inj e
    subst e'
    exact ⟨hb, q⟩
theorem Inv.pinned {pins : List (Addr × Obj)} {σ : St} {H : Hp} {s : Shared} {fp : List Addr} (I : Inv X pins σ H s) (hf : ∀ b ∈ fp, FpOk X pins H b) (ho : ∀ b ∈ fp, ∃ o, s.heap.get? b = some o ∧ ∀ v, o.data ≠ .cell v) : Inv X (pins ++ pinsAt fp s.heap) σ H s :=
  I.pins_of fun p hp => (List.mem_append.mp hp).elim (fun z => I.pin p (List.mem_append_right _ z)) fun z => by
    obtain ⟨hb, e⟩ := of_pinsAt z
    obtain ⟨f0, f1, f2, _⟩ := hf p.1 hb
    obtain ⟨o, e', d⟩ := ho p.1 hb
    rw [e] at e'; cases e'
    exact ⟨e, f0, f1, f2, d⟩
theorem Inv.unpinned {pins pl : List (Addr × Obj)} {σ : St} {H : Hp} {s : Shared} (I : Inv X (pins ++ pl) σ H s) : Inv X pins σ H s := I.pins_of fun p hp => I.pin p (List.mem_append_right _ (List.mem_append_left _ hp))
theorem ps_for {iter : Expr} {body : List Stmt} {wi : TI} {g : TG} {tb : TS} {pos : Pos} (hp : PassesOwn (model X.prog X.w) X.A X.env X.xe) (hc : X.calm = true) (hi : PI X tg iter wi) (hg : PG X tg g) (hb : PSs X body tb)
    (hs : ∀ x, foldedSetIterable iter X.env x = pure x := by intro _; rfl) : PS X (.For tg iter body [] pos) (tFor wi g tb) := by
  intro pins s σ H D I h
  refine wpAny_For (thn (hi pins s σ H _ I h) fun v s1 h1 => thn h1 fun itv s2 h2 => ?_) hs
  obtain ⟨it, fp, tn, J, H2, e, I2, T, st2, f2, W, ⟨m0, w0⟩, turn⟩ := h2
  subst e
  have stat : ∀ {H' : Hp}, (∀ b ∈ fp, H' b = none) → ∀ b ∈ fp, FpOk X pins H' b := fun hn b hb => ⟨hn b hb, (f2 b hb).2⟩
  refine codeAny_forLoop_any (fun n s' => ∃ i σ' H', Inv X pins σ' H' s' ∧ tn i s'.heap ∧ (∀ b ∈ fp, H' b = none) ∧ W i n σ' H') ?_ m0 ⟨0, σ, H2, I2, st2, fun b hb => (f2 b hb).1, w0⟩
  rintro n s3 ⟨i, σ3, H3, I3, st3, fr3, w3⟩
  rcases turn i n σ3 H3 w3 with ⟨stop, qn⟩ | ⟨go, N, hN, step⟩
  · refine wpAny_passesOwn hp (thn (T.done X rfl rfl rfl hc i pins s3 σ3 H3 X.xe I3 (stat fr3) st3 stop) fun r s4 ⟨hr, I4⟩ => ?_)
    subst hr
    exact wpAny_execs_nil ⟨σ3, H3, I4, qn⟩
  · refine wpAny_passesOwn hp (thn (T.item X rfl rfl rfl hc i pins s3 σ3 H3 X.xe I3 (stat fr3) st3 go) fun r s4 ⟨u, hr, h4⟩ => ?_)
    subst hr
    refine wpAny_passesOwn hp (thn h4 fun _ s5 ⟨x, H5, I5, r5, y5, st5, fr5⟩ => ?_)
    have I5' := I5.pinned (stat fr5) (T.obj _ _ st5)
    refine wpAny_passesOwn hp (thn (hg _ s5 σ3 H5 x u _ I5' r5 (step x H5 y5)) fun _ s6 ⟨σ6, H6, I6, q6⟩ => ?_)
    refine wpAny_passesOwn hp (thn (hb _ s6 σ6 H6 _ I6 q6) fun f s7 q7 => ?_)
    have again : ∀ {σ7 : St} {H7 : Hp}, Inv X (pins ++ pinsAt fp s5.heap) σ7 H7 s7 → N σ7 H7 → ∃ m, m < n ∧ ∃ i σ' H', Inv X pins σ' H' s7 ∧ tn i s7.heap ∧ (∀ b ∈ fp, H' b = none) ∧ W i m σ' H' := fun {σ7 H7} I7 n7 => by
      obtain ⟨m', hm, w7⟩ := hN σ7 H7 n7
      refine ⟨m', hm, i + 1, σ7, H7, I7.unpinned, T.keep _ _ _ st5 fun b hb o e => (I7.pin (b, o) (List.mem_append_right _ (List.mem_append_right _ (mem_pinsAt hb e)))).1, fun b hb => ?_, w7⟩
      obtain ⟨o, e, d⟩ := T.obj _ _ st5 b hb
      exact (I7.pin (b, o) (List.mem_append_right _ (List.mem_append_right _ (mem_pinsAt hb e)))).2.1
    cases f with
    | next => obtain ⟨σ7, H7, I7, n7⟩ := q7; exact again I7 n7
    | cont => obtain ⟨σ7, H7, I7, n7⟩ := q7; exact again I7 n7
    | brk => obtain ⟨σ7, H7, I7, q7⟩ := q7; exact ⟨σ7, H7, I7.unpinned, q7⟩
    | ret v => obtain ⟨x7, σ7, H7, I7, r7, q7⟩ := q7; exact ⟨x7, σ7, H7, I7.unpinned, r7, q7⟩
end
end L2
namespace L2
open PySem PySem.Spec PyProof.Rows
abbrev R2 := V → V → Hp → VK → Prop
def OpR (X : Cx) (f : Value → Value → Sem Value) (r : R2) : Prop :=
  ∀ (pins : List (Addr × Obj)) (s : Shared) (σ : St) (H : Hp) (x y : V) (v u : Value) (Q : VK), Inv X pins σ H s → RelV x v → RelV y u → r x y H Q →
    wpAny (model X.prog X.w) X.A (f v u) (EP X pins σ Q) X.xe s
def UnR (X : Cx) (f : Value → Sem Value) (r : V → Hp → VK → Prop) : Prop :=
  ∀ (pins : List (Addr × Obj)) (s : Shared) (σ : St) (H : Hp) (x : V) (v : Value) (Q : VK), Inv X pins σ H s → RelV x v → r x H Q →
    wpAny (model X.prog X.w) X.A (f v) (EP X pins σ Q) X.xe s
def CallR (X : Cx) (f : Value) (r : List V → Hp → VK → Prop) : Prop :=
  ∀ (pins : List (Addr × Obj)) (s : Shared) (σ : St) (H : Hp) (xs : List V) (us : List Value) (Q : VK), Inv X pins σ H s → Vals xs us → r xs H Q →
    wpAny (model X.prog X.w) X.A (call f us) (EP X pins σ Q) X.xe s
def TruR (X : Cx) (r : V → Hp → (Bool → Hp → Prop) → Prop) : Prop :=
  ∀ (pins : List (Addr × Obj)) (s : Shared) (σ : St) (H : Hp) (x : V) (v : Value) (Q : Bool → Hp → Prop), Inv X pins σ H s → RelV x v → r x H Q →
    wpAny (model X.prog X.w) X.A (truthy v) (TP X pins σ Q) X.xe s
def tOp (r : R2) (ta tb : TE) : TE := fun σ H Q => ta σ H fun x H1 => tb σ H1 fun y H2 => r x y H2 Q
def tUn (r : V → Hp → VK → Prop) (ta : TE) : TE := fun σ H Q => ta σ H fun x H1 => r x H1 Q
def rI (C : Int → Int → Prop) (g : Int → Int → V) : R2 := fun x y H Q => ∃ i j, x = .int i ∧ y = .int j ∧ C i j ∧ Q (g i j) H
def rI0 (g : Int → Int → V) : R2 := fun x y H Q => ∃ i j, x = .int i ∧ y = .int j ∧ Q (g i j) H
def rU (g : Int → V) : V → Hp → VK → Prop := fun x H Q => ∃ i, x = .int i ∧ Q (g i) H
section
variable {X : Cx} {a b c : Expr} {ta tb tc : TE} {pos : Pos}
theorem binT (ha : PE X a ta) (hb : PE X b tb) {pins : List (Addr × Obj)} {s : Shared} {σ : St} {H : Hp} {R : V → V → Hp → Prop} (I : Inv X pins σ H s)
    (h : ta σ H fun x H1 => tb σ H1 fun y H2 => R x y H2) {Q : Value → Shared → Prop} {f : Value → Value → Sem Value}
    (hf : ∀ v u s2 x y H2, Inv X pins σ H2 s2 → RelV x v → RelV y u → R x y H2 → wpAny (model X.prog X.w) X.A (f v u) Q X.xe s2) :
    wpAny (model X.prog X.w) X.A (eval a X.env) (fun v s₁ => wpAny (model X.prog X.w) X.A (eval b X.env) (fun u s₂ => wpAny (model X.prog X.w) X.A (f v u) Q X.xe s₂) X.xe s₁) X.xe s := by
  refine thn (ha pins s σ H _ I h) fun v s1 ⟨x, H1, I1, r1, q1⟩ => ?_
  refine thn (hb pins s1 σ H1 _ I1 q1) fun u s2 ⟨y, H2, I2, r2, q2⟩ => ?_
  exact hf v u s2 x y H2 I2 r1 r2 q2
theorem pe_op {op : Operator} {r : R2} (ho : OpR X (binaryOp op) r) (ha : PE X a ta) (hb : PE X b tb) : PE X (.BinOp a op b pos) (tOp r ta tb) := by
  intro pins s σ H Q I h
  exact wpAny_BinOp (binT ha hb I h fun v u s2 x y H2 I2 rx ry q => ho pins s2 σ H2 x y v u Q I2 rx ry q)
theorem pe_un {op : UnaryOp} {r : V → Hp → VK → Prop} (ho : UnR X (unaryOp op) r) (ha : PE X a ta) : PE X (.UnaryOp op a pos) (tUn r ta) := by
  intro pins s σ H Q I h
  exact UnaryOp_ (thn (ha pins s σ H _ I h) fun v s1 ⟨x, H1, I1, r1, q1⟩ => ho pins s1 σ H1 x v Q I1 r1 q1)
theorem opI {f : Value → Value → Sem Value} {C : Int → Int → Prop} {g : Int → Int → Int}
    (rule : ∀ (i j : Int) (t u : Tok) (s : Shared) (Q : Value → Shared → Prop) (E : Value → Shared → Prop), C i j → Q (.int (g i j) s.toks) { s with toks := s.toks + 1 } → wpAny (model X.prog X.w) X.A (f (.int i t) (.int j u)) Q E s) :
    OpR X f (rI C fun i j => .int (g i j)) := by
  intro pins s σ H x y v u Q I rx ry h
  obtain ⟨i, j, rfl, rfl, hc, q⟩ := h
  obtain ⟨t, rfl⟩ := rx
  obtain ⟨t', rfl⟩ := ry
  exact rule i j t t' s _ _ hc ⟨.int (g i j), H, I.tok _, ⟨_, rfl⟩, q⟩
theorem opI0 {f : Value → Value → Sem Value} {g : Int → Int → Int}
    (rule : ∀ (i j : Int) (t u : Tok) (s : Shared) (Q : Value → Shared → Prop) (E : Value → Shared → Prop), Q (.int (g i j) s.toks) { s with toks := s.toks + 1 } → wpAny (model X.prog X.w) X.A (f (.int i t) (.int j u)) Q E s) :
    OpR X f (rI0 fun i j => .int (g i j)) := by
  intro pins s σ H x y v u Q I rx ry h
  obtain ⟨i, j, rfl, rfl, q⟩ := h
  obtain ⟨t, rfl⟩ := rx
  obtain ⟨t', rfl⟩ := ry
  exact rule i j t t' s _ _ ⟨.int (g i j), H, I.tok _, ⟨_, rfl⟩, q⟩
theorem opB0 {f : Value → Value → Sem Value} {g : Int → Int → Bool}
    (rule : ∀ (i j : Int) (t u : Tok) (s : Shared) (Q : Value → Shared → Prop) (E : Value → Shared → Prop), Q (.bool (g i j)) s → wpAny (model X.prog X.w) X.A (f (.int i t) (.int j u)) Q E s) :
    OpR X f (rI0 fun i j => .bl (g i j)) := by
  intro pins s σ H x y v u Q I rx ry h
  obtain ⟨i, j, rfl, rfl, q⟩ := h
  obtain ⟨t, rfl⟩ := rx
  obtain ⟨t', rfl⟩ := ry
  exact rule i j t t' s _ _ ⟨.bl (g i j), H, I, rfl, q⟩
def CMul (i j : Int) : Prop := (-(2 ^ 64) < i ∧ i < 2 ^ 64) ∨ (-(2 ^ 64) < j ∧ j < 2 ^ 64)
theorem CMul.ok {i j : Int} (h : CMul i j) : IntMulOk i j := by
  rcases h with ⟨h1, h2⟩ | ⟨h1, h2⟩
  · exact .of_left (intBits_le_64 h1 h2)
  · exact .of_right (intBits_le_64 h1 h2)
theorem op_add : OpR X (binaryOp .Add) (rI0 fun i j => .int (i + j)) := opI0 fun _ _ _ _ _ _ _ q => add_int q
theorem op_sub : OpR X (binaryOp .Sub) (rI0 fun i j => .int (i - j)) := opI0 fun _ _ _ _ _ _ _ q => sub_int q
theorem op_mod : OpR X (binaryOp .Mod) (rI (fun _ j => 0 < j) fun i j => .int (i % j)) := opI fun i j _ _ _ _ _ hc q => by
  have h1 : (0 : Int) < j := hc
  exact mod_int' (by omega) (by rw [Int.fmod_eq_emod_of_nonneg i (by omega)]; exact q)
theorem unI {f : Value → Sem Value} {g : Int → Int}
    (rule : ∀ (i : Int) (t : Tok) (s : Shared) (Q : Value → Shared → Prop) (E : Value → Shared → Prop), Q (.int (g i) s.toks) { s with toks := s.toks + 1 } → wpAny (model X.prog X.w) X.A (f (.int i t)) Q E s) :
    UnR X f (rU fun i => .int (g i)) := by
  intro pins s σ H x v Q I rx h
  obtain ⟨i, rfl, q⟩ := h
  obtain ⟨t, rfl⟩ := rx
  exact rule i t s _ _ ⟨.int (g i), H, I.tok _, ⟨_, rfl⟩, q⟩
theorem un_neg : UnR X (unaryOp .USub) (rU fun i => .int (-i)) := unI fun _ _ _ _ _ q => neg_int q
end
section
variable {X : Cx} {a b c : Expr} {ta tb tc : TE} {pos : Pos}
theorem fin_bl {pins : List (Addr × Obj)} {σ : St} {H : Hp} {s : Shared} {Q : VK} {k k' : Bool} (I : Inv X pins σ H s) (q : Q (.bl k) H) (e : k = k') : EP X pins σ Q (.bool k') s := by
  subst e
  exact ⟨.bl k, H, I, rfl, q⟩
theorem op_gt : OpR X (compareOp .Gt) (rI0 fun i j => .bl (decide (j < i))) := opB0 fun _ _ _ _ _ _ _ q => gt_int q
theorem op_isN : OpR X (compareOp .Is) (fun x y H Q => y = .non ∧ Q (.bl (decide (x = .non))) H) := by
  intro pins s σ H x y v u Q I rx ry h
  obtain ⟨rfl, q⟩ := h
  cases ry
  refine is_none_gen (fin_bl I q ?_)
  cases x <;> first
    | (cases rx; rfl)
    | (obtain ⟨t, rfl⟩ := rx; rfl)
theorem op_notin_str : OpR X (compareOp .NotIn) (fun x y H Q => ∃ i j, x = .str i ∧ y = .str j ∧ Q (.bl (!(!(Builtin.Str.occurrences j i 0 j.length 1).isEmpty))) H) := by
  intro pins s σ H x y v u Q I rx ry h
  obtain ⟨i, j, rfl, rfl, q⟩ := h
  obtain ⟨t, rfl⟩ := rx
  obtain ⟨t', rfl⟩ := ry
  exact notIn_str (fin_bl I q rfl)
theorem OpR.or {f : Value → Value → Sem Value} {r r' : R2} (h : OpR X f r) (h' : OpR X f r') : OpR X f (fun x y H Q => r x y H Q ∨ r' x y H Q) := by
  intro pins s σ H x y v u Q I rx ry q
  rcases q with q | q
  · exact h pins s σ H x y v u Q I rx ry q
  · exact h' pins s σ H x y v u Q I rx ry q
theorem nomark (b : Expr) {op : CmpOp} (h : op ≠ .In := by decide) (h2 : op ≠ .NotIn := by decide) : behindInMarks op b = false := by
  have e1 : (op == CmpOp.In) = false := by cases op <;> first | rfl | exact absurd rfl h
  have e2 : (op == CmpOp.NotIn) = false := by cases op <;> first | rfl | exact absurd rfl h2
  cases b <;> simp [behindInMarks, e1, e2]
theorem pe_cmpR {op : CmpOp} {r : R2} (ho : OpR X (compareOp op) r) (ha : PE X a ta) (hb : PE X b tb) (hm : behindInMarks op b = false) : PE X (.Compare a [op] [b] pos) (tOp r ta tb) := by
  intro pins s σ H Q I h
  exact wpAny_Compare1 (binT ha hb I h fun v u s2 x y H2 I2 rx ry q => ho pins s2 σ H2 x y v u Q I2 rx ry q) hm
def tTest (t : TE) : TT := fun σ H Q => t σ H fun x H' => ∃ k, x = .bl k ∧ Q k H'
theorem pt_cmpR {op : CmpOp} {r : R2} (ho : OpR X (compareOp op) r) (ha : PE X a ta) (hb : PE X b tb) (hm : behindInMarks op b = false) : PT X (.Compare a [op] [b] pos) (tTest (tOp r ta tb)) := by
  intro pins s σ H Q I h
  refine wpAny_isTrue_Compare1 (thn (ha pins s σ H _ I h) fun v s1 ⟨x, H1, I1, r1, q1⟩ => thn (hb pins s1 σ H1 _ I1 q1) fun u s2 ⟨y, H2, I2, r2, q2⟩ =>
    thn (ho pins s2 σ H2 x y v u _ I2 r1 r2 q2) fun c s3 ⟨z, H3, I3, r3, k, e, q3⟩ => ?_) hm
  subst e
  cases r3
  exact wpAny_truthy_bool ⟨H3, I3, q3⟩
def TruV (K : PySem.W.Frag) (x : V) (H : Hp) (k : Bool) : Prop :=
  match x with
  | .non => k = false
  | .bl b => k = b
  | .int i => k = (i != 0)
  | .str y => y.length ≤ sizeLine ∧ k = ((y.length : Int) != 0)
  | .byt y => y.size ≤ sizeLine ∧ k = ((y.size : Int) != 0)
  | .ref p => (∃ xs, SqL K H p xs ∧ k = !xs.isEmpty) ∨ (∃ xs, SqT K H p xs ∧ k = !xs.isEmpty) ∨ ∃ kvs, H p = some (.dK kvs) ∧ k = !kvs.isEmpty
  | _ => False
theorem isEmpty_kv {κ : Type} {kvs : List (κ × V)} {vs : List (κ × Value)} (r : KV kvs vs) : (!vs.isEmpty) = !kvs.isEmpty := by
  cases r <;> rfl
theorem isEmpty_of {xs : List V} {its : List Value} (r : Vals xs its) : (!its.toArray.isEmpty) = !xs.isEmpty := by
  cases r <;> simp
theorem line63 : (sizeLine : Nat) < 2 ^ 63 := by rw [sizeLine_eq]; decide
theorem tru_ok : TruR X (fun x H Q => ∃ k, TruV X.K x H k ∧ Q k H) := by
  intro pins s σ H x v Q I rx h
  obtain ⟨k, e, q⟩ := h
  have hl := line63
  have hs : sizeLine = 16777216 := sizeLine_eq
  cases x with
  | non =>
    cases rx
    have e' : k = false := e
    subst e'
    exact truthy_none ⟨H, I, q⟩
  | bl b =>
    cases rx
    have e' : k = b := e
    subst e'
    exact wpAny_truthy_bool ⟨H, I, q⟩
  | int i =>
    obtain ⟨t, rfl⟩ := rx
    have e' : k = (i != 0) := e
    subst e'
    exact PySem.P.truthy_int ⟨H, I, q⟩
  | str y =>
    obtain ⟨t, rfl⟩ := rx
    obtain ⟨hy, e'⟩ : y.length ≤ sizeLine ∧ k = ((y.length : Int) != 0) := e
    subst e'
    exact PySem.P.truthy_str (by omega) ⟨H, I.tok _, q⟩
  | byt y =>
    obtain ⟨t, rfl⟩ := rx
    obtain ⟨hy, e'⟩ : y.size ≤ sizeLine ∧ k = ((y.size : Int) != 0) := e
    subst e'
    exact PySem.W.truthy_bytes (by omega) ⟨H, I.tok _, q⟩
  | ref p =>
    cases rx
    have e' : (∃ xs, SqL X.K H p xs ∧ k = !xs.isEmpty) ∨ (∃ xs, SqT X.K H p xs ∧ k = !xs.isEmpty) ∨ ∃ kvs, H p = some (.dK kvs) ∧ k = !kvs.isEmpty := e
    rcases e' with ⟨xs, hx, e'⟩ | ⟨xs, hx, e'⟩ | ⟨kvs, hx, e'⟩
    · subst e'
      obtain ⟨its, r, pl, hz⟩ := I.list hx
      have hlen := r.length
      exact wpAny_truthy_list pl.isList (by simp only [List.size_toArray]; omega) ⟨H, I.tok _, by rw [isEmpty_of r]; exact q⟩
    · subst e'
      obtain ⟨its, r, pl, hz⟩ := I.tuple hx
      have hlen := r.length
      exact truthy_tuple pl (by simp only [List.size_toArray]; omega) ⟨H, I.tok _, by rw [isEmpty_of r]; exact q⟩
    · subst e'
      obtain ⟨hz, hS, vs, r, m⟩ : kvs.length ≤ sizeLine ∧ (p == sysModules) = false ∧ ∃ vs, KV kvs vs ∧ s.heap.DictOf (mixKind X.prog X.w) p vs := I.hok p _ hx
      have hlen : kvs.length = vs.length := Paired.length r
      exact wpAny_truthy_dict hS m (by omega) ⟨H, I.tok _, by rw [isEmpty_kv r]; exact q⟩
  | _ => exact (show False from e).elim
theorem pt_truth (ha : PE X a ta) (he : ∀ whole, isTrue a X.env whole = (do let v ← whole; standAt a.pos; holding [v] (truthy v))) :
    PT X a (fun σ H Q => ta σ H fun x H' => ∃ k, TruV X.K x H' k ∧ Q k H') := by
  intro pins s σ H Q I h
  exact isTrue_plain (thn (ha pins s σ H _ I h) fun v s1 ⟨x, H1, I1, r1, q1⟩ => tru_ok pins s1 σ H1 x v Q I1 r1 q1) (he _)
theorem op_add_str : OpR X (binaryOp .Add) (fun x y H Q => ∃ i j, x = .str i ∧ y = .str j ∧ i.length + j.length ≤ sizeLine ∧ Q (.str (i ++ j)) H) := by
  intro pins s σ H x y v u Q I rx ry h
  obtain ⟨i, j, rfl, rfl, hz, q⟩ := h
  obtain ⟨t, rfl⟩ := rx
  obtain ⟨t', rfl⟩ := ry
  exact add_str (fun t' tk => ⟨.str (i ++ j), H, I.tok _, ⟨_, rfl⟩, q⟩) hz
theorem vals1 {x : V} {us : List Value} (r : Vals [x] us) : ∃ u, us = [u] ∧ RelV x u := by
  cases r with
  | cons r1 r2 => cases r2; exact ⟨_, rfl, r1⟩
theorem vals2 {x y : V} {us : List Value} (r : Vals [x, y] us) : ∃ u w', us = [u, w'] ∧ RelV x u ∧ RelV y w' := by
  cases r with
  | cons r1 r2 =>
    cases r2 with
    | cons r3 r4 => cases r4; exact ⟨_, _, rfl, r1, r3⟩
end
end L2
namespace L2
open PySem PySem.Spec PyProof.Rows
structure Room (k : Nat) (A : Around) : Prop where
  hd : A.handled = none
  dp : A.depth + 3 * k + 5 < recursionLimit
  un : A.units + 16 * k + 200 < cLine
theorem Room.mono {j k : Nat} {A : Around} (r : Room k A) (h : j ≤ k) : Room j A := ⟨r.hd, by have := r.dp; omega, by have := r.un; omega⟩
theorem Room.deeper {k : Nat} {A : Around} (r : Room (k + 1) A) (env : Env) : Room k (A.deeper env) :=
  ⟨r.hd, by have := r.dp; show A.depth + 1 + 3 * k + 5 < _; omega, by have := r.un; show A.units + 3 + 16 * k + 200 < _; omega⟩
theorem Room.in1 {k : Nat} {A : Around} (r : Room (k + 1) A) : Room k A.in1 :=
  ⟨r.hd, by have := r.dp; show A.depth + 3 * k + 5 < _; omega, by have := r.un; show A.units + 1 + 16 * k + 200 < _; omega⟩
theorem Room.depth {k : Nat} {A : Around} (r : Room k A) : A.depth < recursionLimit := by have := r.dp; omega
theorem Room.units {k : Nat} {A : Around} (r : Room k A) : A.units + 64 < cLine := by have := r.un; omega
def tNil : TA := fun _ H Q => Q [] H
def tCons (ta : TE) (tr : TA) : TA := fun σ H Q => ta σ H fun x H1 => tr σ H1 fun xs H2 => Q (x :: xs) H2
section
variable {X : Cx} {e : Expr} {es : List Expr} {te : TE} {t : TA} {pos : Pos}
theorem pa_nil : PA X [] tNil := fun _ _ _ _ H Q I h => Calls.spliced_nil ⟨[], H, I, .nil, h⟩
theorem pa_cons (ha : PE X e te) (hr : PA X es t) (hs : starEach (e :: es) X.env = (false, eval e X.env) :: starEach es X.env := by rfl) : PA X (e :: es) (tCons te t) := by
  intro pos pins s σ H Q I h
  rw [hs]
  show wpAny _ _ (spliced ((false, eval e X.env) :: backTo pos (starEach es X.env))) _ _ s
  refine Calls.spliced_cons (thn (ha pins s σ H _ I h) fun u s1 ⟨x, H1, I1, r1, q1⟩ => ?_)
  exact thn (hr pos pins s1 σ H1 _ I1 q1) fun us s2 ⟨xs, H2, I2, r2, q2⟩ => ⟨x :: xs, H2, I2, .cons r1 r2, q2⟩
def tTup (t : TA) : TE := fun σ H Q => t σ H fun xs H1 => xs.length ≤ sizeLine ∧ ∀ p, H1 p = none → Q (.ref p) (upd H1 p (.tup xs))
def tLst (t : TA) : TE := fun σ H Q => t σ H fun xs H1 => xs.length ≤ sizeLine ∧ ∀ p, H1 p = none → Q (.ref p) (upd H1 p (.lst xs))
theorem pe_tup {x1} (h : PA X es t) : PE X (.Tuple es x1 pos) (tTup t) := by
  intro pins s σ H Q I hq
  refine wpAny_Tuple_spliced (thn (h pos pins s σ H _ I hq) fun us s1 ⟨xs, H1, I1, r, z, q⟩ => ⟨by rw [← r.length]; exact z, ?_⟩)
  have hf : H1 s1.heap.objs.size = none := I1.hok.fresh (Nat.le_refl _)
  refine ⟨.ref s1.heap.objs.size, upd H1 s1.heap.objs.size (.tup xs), I1.laid (t' := s1.toks) (fun b u e => Heap.get?_push_of_some _ e) (Nat.le_refl _) ?_, rfl, q _ hf⟩
  exact ⟨z, us, r, ⟨_, Heap.get?_push_size _ rfl, rfl, _, rfl⟩⟩
theorem pe_lst (h : PA X es t) : PE X (.List es pos) (tLst t) := by
  intro pins s σ H Q I hq
  refine wpAny_List_spliced (thn (h pos pins s σ H _ I hq) fun us s1 ⟨xs, H1, I1, r, z, q⟩ => ⟨by rw [← r.length]; exact z, ?_⟩)
  have hf : H1 s1.heap.objs.size = none := I1.hok.fresh (Nat.le_refl _)
  refine ⟨.ref s1.heap.objs.size, upd H1 s1.heap.objs.size (.lst xs), I1.laid (t' := s1.toks) (fun b u e => Heap.get?_push_of_some _ e) (Nat.le_refl _) ?_, rfl, q _ hf⟩
  exact ⟨z, us, 0, r, Heap.get?_push_size _ rfl⟩
end
abbrev Sp := List V → Hp → VK → XK → Prop
abbrev CXT := List Env → Hp → Shared → XK → Value → Shared → Prop
structure Env0 (P : Program) (w : World) (K : PySem.W.Frag) (mg : Str → Option Value) (base : Heap) (A : Around) (outer : List Env) (s : Shared) (H : Hp) : Prop where
  frames : A.frames = some outer
  mod : Mod K mg base
  bs : ∀ b o, base.get? b = some o → s.heap.get? b = some o ∧ H b = none
  bsz : base.objs.size ≤ s.heap.objs.size
  funs : s.heap.FunFrames base outer
  frf : ∀ b ∈ frs outer, H b = none
  hok : HOk P w H s.heap
  bare : AllBare s.gens
def CE (outer : List Env) (P : Program) (w : World) (H : Hp) (s : Shared) (Q : VK) (u : Value) (s' : Shared) : Prop :=
  ∃ v H', s'.os = s.os ∧ AllBare s'.gens ∧ Un (frs outer) [] H H' s.heap s'.heap ∧ HOk P w H' s'.heap ∧ RelV v u ∧ Q v H'
def CR (CX : CXT) (outer : List Env) (P : Program) (w : World) (H : Hp) (s : Shared) (Q : VK) (E : XK) (r : Result) (s' : Shared) : Prop :=
  match r with
  | .ok (.ret u) => CE outer P w H s Q u s'
  | .ok _ => False
  | .error e => CX outer H s E e s'
structure FnOk (P : Program) (w : World) (K : PySem.W.Frag) (mg : Str → Option Value) (base : Heap) (CX : CXT) (k : Nat) (f : Addr) (fd : FuncData) (ps : List Str) (sp : Sp) : Prop where
  len : ∀ vs H Q E, sp vs H Q E → vs.length = ps.length
  run : ∀ (A : Around) (outer : List Env) (s : Shared) (H : Hp) (args : Args) (us : List Value) (vs : List V) (Q : VK) (E : XK), Room k A → Env0 P w K mg base A outer s H → BindsTo s fd args (ps.zip us) → Vals vs us → sp vs H Q E →
    codeAny (model P w) A (.call (.ref f) args) (CR CX outer P w H s Q E) s
theorem FnOk.imp {P : Program} {w : World} {K : PySem.W.Frag} {mg : Str → Option Value} {base : Heap} {CX : CXT} {k : Nat} {f : Addr} {fd : FuncData} {ps : List Str} {sp sp' : Sp} (F : FnOk P w K mg base CX k f fd ps sp)
    (h : ∀ vs H Q E, sp' vs H Q E → sp vs H Q E) : FnOk P w K mg base CX k f fd ps sp' :=
  ⟨fun vs H Q E q => F.len vs H Q E (h _ _ _ _ q), fun A outer s H args us vs Q E hr he hb hv hs => F.run A outer s H args us vs Q E hr he hb hv (h _ _ _ _ hs)⟩
theorem Env0.in1 {P : Program} {w : World} {K : PySem.W.Frag} {mg : Str → Option Value} {base : Heap} {A : Around} {outer : List Env} {s : Shared} {H : Hp} (e : Env0 P w K mg base A outer s H) :
    Env0 P w K mg base A.in1 outer s H := ⟨e.frames, e.mod, e.bs, e.bsz, e.funs, e.frf, e.hok, e.bare⟩
section
variable {X : Cx} {pins : List (Addr × Obj)} {σ : St} {H : Hp} {s s' : Shared}
theorem Inv.env0 (I : Inv X pins σ H s) : Env0 X.prog X.w X.K X.mg X.base X.A X.stack s H :=
  ⟨I.ok.frames, I.ok.mod, I.bs, Nat.le_trans I.ok.bsz I.sz, I.stack, I.stkFree, I.hok, I.bare⟩
theorem Inv.after {Q : VK} {u : Value} (I : Inv X pins σ H s) (h : CE X.stack X.prog X.w H s Q u s') : EP X pins σ Q u s' := by
  obtain ⟨v, H', os, bare, un, hok, r, q⟩ := h
  obtain ⟨hh, g, d, t, os'⟩ := s'
  obtain rfl : os' = s.os := os
  exact ⟨v, H', I.call (h' := hh) (g' := g) (d' := d) (t' := t) (ch := []) un hok bare (fun b z => absurd z (by simp)), r, q⟩
end
def tCall (sp : Sp) (dvs : List V) (E : XK) (t : TA) : TE := fun σ H Q => t σ H fun vs H1 => sp (vs ++ dvs) H1 Q E
def Binds (K : PySem.W.Frag) (fd : FuncData) (ps : List Str) (ds : List Value) : Prop :=
  ∀ (s : Shared) (us : List Value), K.In s.heap → (us ++ ds).length = ps.length → BindsTo s fd ⟨us, []⟩ (ps.zip (us ++ ds))
theorem Binds.all {K : PySem.W.Frag} {fd : FuncData} {ps : List Str} (h : ∀ us : List Value, us.length = ps.length → bindArgs fd ⟨us, []⟩ = pure (ps.zip us)) : Binds K fd ps [] := fun s us _ hl => by
  rw [List.append_nil] at hl ⊢
  exact .of_eq (h us hl)
def Passes (CX : CXT) (X : Cx) (E : XK) : Prop := ∀ (pins : List (Addr × Obj)) (σ : St) (H : Hp) (s : Shared) (e : Value) (s' : Shared), Inv X pins σ H s → CX X.stack H s E e s' → X.xe e s'
section
variable {X : Cx} {CX : CXT} {k : Nat} {f C : Addr} {fd : FuncData} {ps : List Str} {sp : Sp} {dvs : List V} {ds : List Value} {E : XK} {x m : Str} {p pos apos : Pos} {e o : Expr} {es : List Expr} {ta : TE} {t : TA}
theorem run_fn {pins : List (Addr × Obj)} {σ : St} {H : Hp} {s : Shared} {Q : VK} {us : List Value} {vs : List V} (F : FnOk X.prog X.w X.K X.mg X.base CX k f fd ps sp) (hr : Room k X.A) (hb : Binds X.K fd ps ds) (hd : Vals dvs ds) (hx : Passes CX X E)
    (I : Inv X pins σ H s) (r : Vals vs us) (h : sp (vs ++ dvs) H Q E) : wpAny (model X.prog X.w) X.A (call (.ref f) us) (EP X pins σ Q) X.xe s := by
  have r2 : Vals (vs ++ dvs) (us ++ ds) := r.append hd
  have hl : (us ++ ds).length = ps.length := by rw [← r2.length]; exact F.len _ _ _ _ h
  refine wpAny_call (codeAny_mono (F.run X.A X.stack s H ⟨us, []⟩ (us ++ ds) (vs ++ dvs) Q E hr I.env0 (hb s us I.kIn hl) r2 h) fun r s' hq => ?_)
  cases r with
  | error e => exact hx pins σ H s e s' I hq
  | ok fl =>
    cases fl with
    | ret u => exact I.after hq
    | next => exact False.elim hq
    | brk => exact False.elim hq
    | cont => exact False.elim hq
theorem pe_call (F : FnOk X.prog X.w X.K X.mg X.base CX k f fd ps sp) (hr : Room k X.A) (hg : Gl X x) (hm : X.mg x = some (.ref f)) (hk : PySem.W.keepIn X.K (.ref f) = true) (hb : Binds X.K fd ps ds) (hd : Vals dvs ds) (hx : Passes CX X E)
    (ha : PA X (e :: es) t) (hdb : (x == ("__debug__" : Str)) = false := by decide) (he : starEach (e :: es) X.env = (false, eval e X.env) :: starEach es X.env := by rfl) (hpl : (backTo pos (starEach es X.env)).any (·.1) = false := by rfl) :
    PE X (.Call (.Name x p) (e :: es) [] pos) (tCall sp dvs E t) := by
  intro pins s σ H Q I h
  refine wpAny_Call_Name_kw (ld_glob I hg hm ?_ hdb)
  refine PySem.W.callWith_K (h₀ := X.base) I.ok.mod.kin hk (thn (ha pos pins s σ H _ I h) fun us s1 ⟨vs, H1, I1, r, q⟩ => ⟨I1.kIn, ?_⟩) he hpl
  exact run_fn F hr hb hd hx I1 r q
end
structure FnScope (N P : List Str) (sc : Scope) : Prop where
  kind : sc.kind = .function
  co : sc.isCoroutine = false
  gen : sc.isGenerator = false
  nd : N.Nodup
  pre : N.take P.length = P
  par : ∀ x ∈ P, sc.names.lookup x = some .local ∨ sc.names.lookup x = some .cell
  nofree : ∀ y ∈ sc.names, y.2 ≠ .free
theorem bindL_out {kindOf : Str → Option NameKind} {x : Str} : ∀ {binds : List (Str × Value)} {m : Str → Option Value}, (∀ v, (x, v) ∉ binds) → bindL kindOf binds m x = m x
  | [], _, _ => rfl
  | (n, v) :: r, m, h => by
    unfold bindL
    rw [bindL_out fun w hw => h w (List.mem_cons_of_mem _ hw)]
    split
    · have : x ≠ n := by rintro rfl; exact h v List.mem_cons_self
      simp [this]
    · rfl
theorem bindC_out {kindOf : Str → Option NameKind} {x : Str} : ∀ {binds : List (Str × Value)} {m : Str → Option Value}, (∀ v, (x, v) ∉ binds) → bindC kindOf binds m x = m x
  | [], _, _ => rfl
  | (n, v) :: r, m, h => by
    unfold bindC
    rw [bindC_out fun w hw => h w (List.mem_cons_of_mem _ hw)]
    split
    · rfl
    · have : x ≠ n := by rintro rfl; exact h v List.mem_cons_self
      simp [this]
theorem bindL_get {kindOf : Str → Option NameKind} {x : Str} {v : Value} : ∀ {P : List Str} {vs : List Value} {i : Nat} {m : Str → Option Value}, P.Nodup → P[i]? = some x → vs[i]? = some v → kindOf x = some .local →
    bindL kindOf (P.zip vs) m x = some v
  | [], _, _, _, _, h, _, _ => by simp at h
  | _ :: _, [], _, _, _, _, h, _ => by simp at h
  | p :: P, w :: vs, 0, m, nd, h1, h2, hk => by
    simp at h1 h2; subst h1; subst h2
    show bindL kindOf ((p, w) :: P.zip vs) m p = _
    unfold bindL
    rw [bindL_out fun v hv => (List.nodup_cons.mp nd).1 (List.of_mem_zip hv).1, if_pos hk]
    simp
  | p :: P, w :: vs, i + 1, m, nd, h1, h2, hk => by
    show bindL kindOf ((p, w) :: P.zip vs) m x = _
    unfold bindL
    exact bindL_get (i := i) (List.nodup_cons.mp nd).2 (by simpa using h1) (by simpa using h2) hk
theorem bindC_get {kindOf : Str → Option NameKind} {x : Str} {v : Value} : ∀ {P : List Str} {vs : List Value} {i : Nat} {m : Str → Option Value}, P.Nodup → P[i]? = some x → vs[i]? = some v → kindOf x ≠ some .local →
    bindC kindOf (P.zip vs) m x = some v
  | [], _, _, _, _, h, _, _ => by simp at h
  | _ :: _, [], _, _, _, _, h, _ => by simp at h
  | p :: P, w :: vs, 0, m, nd, h1, h2, hk => by
    simp at h1 h2; subst h1; subst h2
    show bindC kindOf ((p, w) :: P.zip vs) m p = _
    unfold bindC
    rw [bindC_out fun v hv => (List.nodup_cons.mp nd).1 (List.of_mem_zip hv).1, if_neg hk]
    simp
  | p :: P, w :: vs, i + 1, m, nd, h1, h2, hk => by
    show bindC kindOf ((p, w) :: P.zip vs) m x = _
    unfold bindC
    exact bindC_get (i := i) (List.nodup_cons.mp nd).2 (by simpa using h1) (by simpa using h2) hk
def start (N : List Str) (vs : List V) : St := vs.map some ++ List.replicate (N.length - vs.length) none
def cxOf (CX : CXT) (P : Program) (w : World) (K : PySem.W.Frag) (mg : Str → Option Value) (base : Heap) (N : List Str) (qual : Str) (scope : Scope) (f : Addr) (cd : Value) (A : Around) (outer : List Env) (s : Shared) (H : Hp) (E : XK) : Cx where
  prog := P
  w := w
  K := K
  mg := mg
  base := base
  A := A.deeper (envOfC qual scope s.heap.objs.size f cd)
  N := N
  s₀ := s
  H₀ := H
  env := envOfC qual scope s.heap.objs.size f cd
  outer := outer
  stack := envOfC qual scope s.heap.objs.size f cd :: outer
  ex := []
  calm := true
  fn := fun _ => true
  pn := []
  xe := fun e s' => wpAny (model P w) (A.deeper (envOfC qual scope s.heap.objs.size f cd)) (leaving (envOfC qual scope s.heap.objs.size f cd) e) (fun _ s'' => CX outer H s E e s'') (fun e' s'' => CX outer H s E e' s'') s'
theorem cell_has {sc : Scope} {n : Nat} {x : Str} (h : sc.names.lookup x = some .cell) : ∃ c, (cellsFrom n sc.names []).lookup x = some c := by
  have q := PySem.W.cellsFrom_some sc.names n [] (.inl h)
  exact Option.isSome_iff_exists.mp q
theorem inv_start {CX : CXT} {P : Program} {w : World} {K : PySem.W.Frag} {mg : Str → Option Value} {base : Heap} {N ps : List Str} {qual : Str} {scope : Scope} {f : Addr} {cd : Value} {A : Around} {outer : List Env} {s s1 : Shared} {H : Hp} {E : XK} {us : List Value} {vs : List V}
    (S : FnScope N ps scope) (hd : A.handled = none) (e0 : Env0 P w K mg base A outer s H) (hl : vs.length = ps.length) (r : Vals vs us)
    (x : InCallC s s.heap.objs.size (bindL (envOfC qual scope s.heap.objs.size f cd).kindOf (ps.zip us) fun _ => none) (cellsFrom (s.heap.objs.size + 1) scope.names []) (bindC (envOfC qual scope s.heap.objs.size f cd).kindOf (ps.zip us) fun _ => none) s1) :
    Inv (cxOf CX P w K mg base N qual scope f cd A outer s H E) [] (start N vs) H s1 := by
  have hpl : ps.length ≤ N.length := by have := congrArg List.length S.pre; rw [List.length_take] at this; omega
  obtain ⟨h1, tk, rfl, hk⟩ := x.done
  have noA : ∀ b : Addr, b ∉ (cxOf CX P w K mg base N qual scope f cd A outer s H E).ex := fun b z => absurd (show b ∈ ([] : List Addr) from z) (by simp)
  refine ⟨⟨e0.mod, S.kind, rfl, rfl, Nat.le_refl _, fun y z c h1 h2 => ?_, fun y hy => ?_, fun y c _ h => ?_, fun _ => hd, Around.frames_deeper e0.frames, .inr ⟨rfl, rfl⟩, fun b z => absurd z (noA b), e0.bs, e0.bsz, fun b _ _ => noA b, fun b z => absurd z (noA b), e0.funs, e0.frf⟩,
    rfl, e0.bare, Un.kept hk, ⟨_, x.toInCall.ns, fun i y v h1 h2 h3 => ?_⟩, fun y c h => ⟨_, x.cell y c h⟩, e0.hok.fresh (Nat.le_refl _), fun y c h => ?_, fun p hp => absurd (show p ∈ ([] : List (Addr × Obj)) from hp) (by simp), e0.hok.kept hk, ?_⟩
  · exact name_of_addr x.apart (PySem.mem_of_lookup h1) (PySem.mem_of_lookup h2)
  · have hy : scope.names.lookup y = some .cell ∨ scope.names.lookup y = some .free := hy
    rcases hy with hy | hy
    · exact cell_has hy
    · exact absurd rfl (S.nofree _ (PySem.mem_of_lookup hy))
  · exact Nat.le_of_lt (x.above y c (PySem.mem_of_lookup h))
  · have hi : i < vs.length := by
      unfold start at h2
      by_cases hi : i < vs.length
      · exact hi
      · rw [List.getElem?_append_right (by simpa using hi)] at h2
        rw [List.getElem?_replicate] at h2
        split at h2 <;> cases h2
    have ha : vs[i]? = some v := by
      unfold start at h2
      rw [List.getElem?_append_left (by simpa using hi), List.getElem?_map] at h2
      cases e : vs[i]? with
      | none => rw [e] at h2; cases h2
      | some a => rw [e] at h2; cases h2; rfl
    obtain ⟨u, hu, rv⟩ := r.get ha
    have hp : ps[i]? = some y := by
      rw [← S.pre, List.getElem?_take_of_lt (by omega)]; exact h1
    have ndP : ps.Nodup := by rw [← S.pre]; exact S.nd.sublist (List.take_sublist _ _)
    refine ⟨u, rv, ?_⟩
    rcases S.par y (List.mem_of_getElem? hp) with k | k
    · exact .inl ⟨k, bindL_get ndP hp hu k⟩
    · obtain ⟨c, e⟩ := cell_has (n := s.heap.objs.size + 1) k
      refine .inr ⟨.inl k, c, e, ?_⟩
      have q := x.cell y c e
      rw [bindC_get ndP hp hu (by show scope.names.lookup y ≠ _; rw [k]; decide)] at q
      exact q
  · exact e0.hok.fresh (Nat.le_of_lt (x.above y c (PySem.mem_of_lookup h)))
  · unfold start
    show _ = N.length
    rw [List.length_append, List.length_map, List.length_replicate]
    omega
theorem fn_of {CX : CXT} {P : Program} {w : World} {K : PySem.W.Frag} {mg : Str → Option Value} {base : Heap} {k : Nat} {f : Addr} {name qual : Str} {params : Arguments} {body : List Stmt} {scope : Scope} {dV kV doc pm cdv ct oc : Value} {an od : Option Addr}
    {osl : Array (Option Value)} {N ps : List Str} {sp : Sp} (lk : K.lookup f = some ⟨oc, od, .func (PySem.W.fnOf name qual params body scope dV kV doc pm an cdv ct), osl⟩) (hcd : PySem.W.codeIn K cdv qual = true) (S : FnScope N ps scope)
    (len : ∀ vs H Q E, sp vs H Q E → vs.length = ps.length)
    (hbody : ∀ (A : Around) (outer : List Env) (s : Shared) (H : Hp) (vs : List V) (Q : VK) (E : XK), Room k (A.deeper (envOfC qual scope s.heap.objs.size f cdv)) → sp vs H Q E →
      ∃ t, PSs (cxOf CX P w K mg base N qual scope f cdv A outer s H E) body t ∧ t { nx := fun _ H' => Q .non H', rt := Q } (start N vs) H) :
    FnOk P w K mg base CX (k + 1) f (PySem.W.fnOf name qual params body scope dV kV doc pm an cdv ct) ps sp := by
  refine ⟨len, fun A outer s H args us vs Q E hr e0 hb r hsp => ?_⟩
  have hl := len _ _ _ _ hsp
  have KX : K.In s.heap := e0.mod.kin.keeps fun b o e => (e0.bs b o e).1
  have lim : s.heap.NoLimit := e0.mod.nolimit.keeps fun b o e => (e0.bs b o e).1
  have hkind : ∀ y ∈ ps.zip us, scope.names.lookup y.1 = some .local ∨ (scope.names.lookup y.1 = some .cell ∧ ((cellsFrom (s.heap.objs.size + 1) scope.names []).lookup y.1).isSome = true) := fun ⟨n, v⟩ hy => by
    rcases S.par n (List.of_mem_zip hy).1 with q | q
    · exact .inl q
    · exact .inr ⟨q, PySem.W.cellsFrom_some _ _ _ (.inl q)⟩
  refine codeAny_call_function hr.depth (KX _ _ lk) rfl S.co S.gen rfl (PySem.W.codeRec_of KX hcd) (hb _ _ _ _ ?_)
  refine wpAny_newFunctionEnv_cells S.kind hkind fun env he s1 x => ?_
  subst he
  refine ⟨lim.keeps x.toInCall.keep, codeAny_func ?_⟩
  obtain ⟨t, ht, hq⟩ := hbody A outer s H vs Q E (hr.deeper _) hsp
  have I : Inv (cxOf CX P w K mg base N qual scope f cdv A outer s H E) [] (start N vs) H s1 := inv_start S hr.hd e0 hl r x
  refine wpAny_mono (ht [] s1 (start N vs) H _ I hq) (fun fl s' hs => ?_) fun e s' hs => hs
  have fin : ∀ {σ' : St} {H' : Hp} {v : V} {u : Value}, Inv (cxOf CX P w K mg base N qual scope f cdv A outer s H E) [] σ' H' s' → RelV v u → Q v H' → CE outer P w H s Q u s' :=
    fun {σ' H' v u} J rv q => ⟨v, H', J.os, J.bare, J.base, J.hok, rv, q⟩
  cases fl with
  | ret u =>
    obtain ⟨v, σ', H', J, rv, q⟩ := hs
    exact fin J rv q
  | next =>
    obtain ⟨σ', H', J, q⟩ := hs
    exact fin (v := V.non) (u := Value.none) J rfl q
  | brk =>
    obtain ⟨_, _, _, q⟩ := hs
    exact False.elim q
  | cont =>
    obtain ⟨_, _, _, q⟩ := hs
    exact False.elim q
end L2
namespace L2
open PySem PySem.Spec PyProof.Rows
section
variable {X : Cx} {x : Str} {p pos : Pos} {e : Expr} {es : List Expr} {t : TA} {id T : String} {r : List V → Hp → VK → Prop}
def tCB (r : List V → Hp → VK → Prop) (t : TA) : TE := fun σ H Q => t σ H fun vs H1 => r vs H1 Q
theorem pe_callB (hc : CallR X (.builtin id) r) (hg : Gl X x) (hm : X.mg x = none) (hv : bootBuiltins x = some (.builtin id)) (ha : PA X (e :: es) t) (hn : x ≠ "__name__" := by decide) (hdb : (x == ("__debug__" : Str)) = false := by decide)
    (he : starEach (e :: es) X.env = (false, eval e X.env) :: starEach es X.env := by rfl) (hpl : (backTo pos (starEach es X.env)).any (·.1) = false := by rfl) : PE X (.Call (.Name x p) (e :: es) [] pos) (tCB r t) := by
  intro pins s σ H Q I h
  refine wpAny_Call_Name_kw (ld_blt I hg hm hv ?_ hn hdb)
  exact PyProof.Rows.callWith_builtin1 (thn (ha pos pins s σ H _ I h) fun us s1 ⟨vs, H1, I1, r1, q1⟩ => hc pins s1 σ H1 vs us Q I1 r1 q1) he hpl
theorem pe_callTy (hc : CallR X (.type T) r) (hg : Gl X x) (hm : X.mg x = none) (hv : bootBuiltins x = some (.type T)) (ha : PA X (e :: es) t) (hn : x ≠ "__name__" := by decide) (hdb : (x == ("__debug__" : Str)) = false := by decide)
    (he : starEach (e :: es) X.env = (false, eval e X.env) :: starEach es X.env := by rfl) (hpl : (backTo pos (starEach es X.env)).any (·.1) = false := by rfl) : PE X (.Call (.Name x p) (e :: es) [] pos) (tCB r t) := by
  intro pins s σ H Q I h
  refine wpAny_Call_Name_kw (ld_blt I hg hm hv ?_ hn hdb)
  exact PyProof.Rows.callWith_type1 (thn (ha pos pins s σ H _ I h) fun us s1 ⟨vs, H1, I1, r1, q1⟩ => hc pins s1 σ H1 vs us Q I1 r1 q1) he hpl
end
end L2
namespace HT
open PySem PyProof.Rows
section
variable {prog : Program} {w : World} {A : Around} {E : Value → Shared → Prop} {s : Shared}
theorem cat_tup {t b : Addr} {vs ws : List Value} {Q : Value → Shared → Prop} (ht : IsTup s.heap t vs.toArray) (hb : IsTup s.heap b ws.toArray) (hv : vs ≠ [])
    (h1 : ws = [] → Q (.ref t) s) (h2 : ws ≠ [] → Q (.ref s.heap.objs.size) { s with heap := s.heap.push { cls := .type "tuple", data := .seq (vs ++ ws).toArray } })
    (hsz : vs.length + ws.length ≤ sizeLine) : wpAny (model prog w) A (binaryOp .Add (.ref t) (.ref b)) Q E s := by
  obtain ⟨⟨cls, dd, data, sl⟩, ho, hc, n, hd⟩ := id ht
  obtain ⟨⟨cls2, dd2, data2, sl2⟩, ho2, hc2, n2, hd2⟩ := id hb
  simp only at hc hd hc2 hd2
  subst hc hd hc2 hd2
  have e : vs.toArray ++ ws.toArray = (vs ++ ws).toArray := by simp
  by_cases hw : ws = []
  · exact concat_meets ⟨_, ho, rfl⟩ ⟨_, ho2, rfl⟩ noFill_tuple_add seq_tuple_add PySem.F.slot_tuple_add PySem.F.entry_tuple_add (PySem.F.args_tuple_add_2 _ _)
      (tuple_addW1 t b vs.toArray ws.toArray n n2 dd dd2 sl sl2 (by simpa using hv) (by simp [hw])) ⟨ho, ho2, h1 hw⟩
  · refine concat_meets ⟨_, ho, rfl⟩ ⟨_, ho2, rfl⟩ noFill_tuple_add seq_tuple_add PySem.F.slot_tuple_add PySem.F.entry_tuple_add (PySem.F.args_tuple_add_2 _ _)
      (tuple_addW2 t b vs.toArray ws.toArray n n2 dd dd2 sl sl2 (by simpa using hv) (by simpa using hw) (by rw [List.size_toArray, List.size_toArray]; exact hsz)) ⟨ho, ho2, ?_⟩
    rw [e]
    exact h2 hw
def sIx (n d : Nat) : Option Int → Nat
  | none => d
  | some v => if v < 0 then (v + (n : Int)).toNat else min v.toNat n
theorem sIx_le (n d : Nat) (hd : d ≤ n) (o : Option Int) : sIx n d o ≤ n := by
  cases o with
  | none => exact hd
  | some v =>
    show (if v < 0 then (v + (n : Int)).toNat else min v.toNat n) ≤ n
    by_cases hv : v < 0
    · rw [if_pos hv]; omega
    · rw [if_neg hv]; exact Nat.min_le_right _ _
theorem clip_eq (v : Int) (n d : Nat) : (if v < 0 then max (v + (n : Int)) 0 else min v (n : Int)) = ((sIx n d (some v) : Nat) : Int) := by
  show (if v < 0 then max (v + (n : Int)) 0 else min v (n : Int)) = (((if v < 0 then (v + (n : Int)).toNat else min v.toNat n) : Nat) : Int)
  by_cases hv : v < 0
  · simp only [if_pos hv]; omega
  · simp only [if_neg hv]; omega
theorem adjust_gen (lo hi : Option Int) (n : Nat) : Builtin.Slice.sliceAdjust lo hi 1 (n : Int) = (((sIx n 0 lo : Nat) : Int), ((sIx n n hi : Nat) : Int)) := by
  have h1 : ¬ ((1 : Int) < 0) := by omega
  unfold Builtin.Slice.sliceAdjust
  simp only [h1, if_false]
  refine Prod.ext ?_ ?_
  · cases lo with
    | none => rfl
    | some v => exact clip_eq v n 0
  · cases hi with
    | none => rfl
    | some v => exact clip_eq v n n
theorem places_gen (i j : Nat) : Builtin.Slice.slicePlaces (i : Int) (j : Int) 1 = j - i := by
  unfold Builtin.Slice.slicePlaces
  have h1 : (1 : Int) > 0 := by omega
  simp only [h1, if_true, Int.ediv_one]
  split <;> omega
theorem slicePart_ {v : Value} {o : Option Int} {Q : Option Int → Shared → Prop} (p : IsPart v o) (h : Q o s) : wpAny (model prog w) A (Builtin.Slice.slicePartIndex v) Q E s := by
  cases p with
  | none => exact slicePart_none h
  | int i t => exact slicePart_int h
theorem sliceApplied_gen {sl : Addr} {vl vu : Value} {lo hi : Option Int} {n : Nat} {Q : Int × Int × Nat → Shared → Prop} (hs : s.heap.IsSliceOf sl vl vu .none) (pl : IsPart vl lo) (pu : IsPart vu hi)
    (h : Q (((sIx n 0 lo : Nat) : Int), 1, sIx n n hi - sIx n 0 lo) s) : wpAny (model prog w) A (Builtin.Slice.sliceApplied (.ref sl) (pure (n : Int))) Q E s := by
  obtain ⟨os, hos, hcs, hds⟩ := id hs
  unfold Builtin.Slice.sliceApplied Builtin.Slice.sliceFields
  refine wpAny_bind (wpAny_bind (wpAny_field hos hds (x := vl) rfl (wpAny_bind (wpAny_field hos hds (x := vu) rfl (wpAny_bind (wpAny_field hos hds (x := .none) rfl (wpAny_pure ?_)))))))
  refine wpAny_bind (slicePart_none ?_)
  show wpAny _ _ (if ((1 : Int) == 0) = true then _ else _) _ _ s
  rw [if_neg (by decide)]
  refine wpAny_bind (slicePart_ pl (wpAny_bind (slicePart_ pu (wpAny_bind (wpAny_pure ?_)))))
  show wpAny _ _ (match Builtin.Slice.sliceAdjust lo hi 1 (n : Int) with | (lo, hi) => pure (lo, (1 : Int), Builtin.Slice.slicePlaces lo hi 1)) _ _ s
  rw [adjust_gen lo hi n]
  show wpAny _ _ (pure (((sIx n 0 lo : Nat) : Int), (1 : Int), Builtin.Slice.slicePlaces ((sIx n 0 lo : Nat) : Int) ((sIx n n hi : Nat) : Int) 1)) _ _ s
  rw [places_gen]
  exact wpAny_pure h
theorem pick_gen (xs : Array Value) (i k : Nat) : ((List.range k).filterMap fun (m : Nat) => xs[((i : Int) + (m : Int) * 1).toNat]?).toArray = ((xs.toList.drop i).take k).toArray := by
  have e : (fun (m : Nat) => xs[((i : Int) + (m : Int) * 1).toNat]?) = fun m => xs[i + m]? := by
    funext m
    have : ((i : Int) + (m : Int) * 1).toNat = i + m := by omega
    rw [this]
  rw [e]
  have := pick_run xs i k
  rw [List.filterMap_map] at this
  have e2 : ((fun x => xs[x]?) ∘ fun x => i + x) = fun m => xs[i + m]? := rfl
  rw [e2] at this
  rw [this]
theorem getItem_tuple_cut {t sl : Addr} {items : Array Value} {vl vu : Value} {lo hi : Option Int} {Q : Value → Shared → Prop} (ht : IsTup s.heap t items) (hs : s.heap.IsSliceOf sl vl vu .none) (pl : IsPart vl lo) (pu : IsPart vu hi)
    (hw : ¬ (sIx items.size 0 lo = 0 ∧ sIx items.size items.size hi = items.size))
    (h : Q (.ref s.heap.objs.size) { s with heap := s.heap.push { cls := .type "tuple", data := .seq ((items.toList.drop (sIx items.size 0 lo)).take (sIx items.size items.size hi - sIx items.size 0 lo)).toArray } })
    (hsz : items.size ≤ sizeLine) : wpAny (model prog w) A (getItem (.ref t) (.ref sl)) Q E s := by
  have htake : sizeOk (.seq ((items.toList.drop (sIx items.size 0 lo)).take (sIx items.size items.size hi - sIx items.size 0 lo)).toArray) := by
    show ((items.toList.drop (sIx items.size 0 lo)).take (sIx items.size items.size hi - sIx items.size 0 lo)).toArray.size ≤ sizeLine
    rw [List.size_toArray, List.length_take, List.length_drop, Array.length_toList]
    omega
  have hj : sIx items.size items.size hi ≤ items.size := sIx_le _ _ (Nat.le_refl _) hi
  obtain ⟨os, hos, hcs, hds⟩ := id hs
  have hTs : s.TypeIs (.ref sl) "slice" := ⟨os, hos, hcs⟩
  unfold getItem
  try with_reducible refine wpAny_holding ?_
  first | refine wpAny_bind (wpAny_pure ?_) | skip
  refine wpAny_bind (wpAny_sequenceKey ht.typeIs (by decide) ?_)
  refine wpAny_bind (wpAny_callSpecial?_slot (name := Str.ofString "__getitem__") ht.typeIs PyProof.Rows.slot_tuple_getitem
    (wpAny_call_entry PyProof.Rows.slot_tuple_getitem ht.typeIs entry_tuple_getitem ?_ (args_tuple_getitem _ _)))
  show wpAny _ _ (Builtin.Tuple.tupleItemsOf (.ref t) >>= _) _ _ s
  refine wpAny_bind (tupleItemsOf_ ht ?_)
  refine wpAny_bind (wpAny_typeOf hTs ?_)
  rw [if_pos (by decide)]
  refine wpAny_bind (sliceApplied_gen hs pl pu ?_)
  have hno : ¬ ((((sIx items.size 0 lo : Nat) : Int) == 0 && (1 : Int) == 1 && (sIx items.size items.size hi - sIx items.size 0 lo) == items.size) = true) := by
    intro q
    rw [Bool.and_eq_true, Bool.and_eq_true] at q
    have q1 : ((sIx items.size 0 lo : Nat) : Int) = 0 := eq_of_beq q.1.1
    have q2 : sIx items.size items.size hi - sIx items.size 0 lo = items.size := eq_of_beq q.2
    exact hw ⟨by omega, by omega⟩
  show wpAny _ _ (if (((sIx items.size 0 lo : Nat) : Int) == 0 && (1 : Int) == 1 && (sIx items.size items.size hi - sIx items.size 0 lo) == items.size) = true then _ else _) _ _ s
  rw [if_neg hno, pick_gen]
  first
    | exact wpAny_bind (m := Builtin.Tuple.tupleExact _) (wpAny_newObj_type (wpAny_pure ⟨_, rfl, wpAny_pure h⟩) htake)
    | exact wpAny_bind (m := Builtin.Tuple.tupleExact _) (wpAny_newObj_type (wpAny_bind (wpAny_pure (wpAny_pure ⟨_, rfl, wpAny_pure h⟩))) htake)
    | exact wpAny_bind (wpAny_bind (m := Builtin.Tuple.tupleExact _) (wpAny_newObj_type (wpAny_pure (wpAny_pure ⟨_, rfl, wpAny_pure h⟩)) htake))
    | exact wpAny_bind (wpAny_bind (m := Builtin.Tuple.tupleExact _) (wpAny_newObj_type (wpAny_pure ⟨_, rfl, wpAny_pure h⟩) htake))
end
end HT
namespace L2
open PySem PySem.Spec PyProof.Rows
abbrev TO := St → Hp → (Option Int → Hp → Prop) → Prop
def PO (X : Cx) (e : Option Expr) (t : TO) : Prop :=
  ∀ (pins : List (Addr × Obj)) (s : Shared) (σ : St) (H : Hp) (Q : Option Int → Hp → Prop), Inv X pins σ H s → t σ H Q →
    wpAny (model X.prog X.w) X.A (evalPart e X.env) (fun u s' => ∃ o H', Inv X pins σ H' s' ∧ IsPart u o ∧ Q o H') X.xe s
def tNoPart : TO := fun _ H Q => Q none H
def tPart (t : TE) : TO := fun σ H Q => t σ H fun x H1 => ∃ i, x = .int i ∧ Q (some i) H1
section
variable {X : Cx} {e : Expr} {te : TE} {lo hi : Option Expr} {tl th : TO} {pos p2 : Pos}
theorem po_none : PO X none tNoPart := by
  intro pins s σ H Q I h
  rw [evalPart_none]
  exact wpAny_pure ⟨none, H, I, .none, h⟩
theorem po_some (h : PE X e te) : PO X (some e) (tPart te) := by
  intro pins s σ H Q I hw
  rw [evalPart_some]
  refine thn (h pins s σ H _ I hw) fun u s1 ⟨x, H1, I1, r1, q1⟩ => ?_
  obtain ⟨i, rfl, q⟩ := q1
  obtain ⟨t, rfl⟩ := r1
  exact ⟨some i, H1, I1, .int i t, q⟩
def SlR (X : Cx) (r : V → Option Int → Option Int → Hp → VK → Prop) : Prop :=
  ∀ (pins : List (Addr × Obj)) (s : Shared) (σ : St) (H : Hp) (x : V) (v vl vu : Value) (lo hi : Option Int) (sl : Addr) (Q : VK), Inv X pins σ H s → RelV x v → s.heap.IsSliceOf sl vl vu .none → IsPart vl lo → IsPart vu hi → r x lo hi H Q →
    ∃ T id, typeLookup (.type T) "__getitem__" = pure (some (.builtin id)) ∧ s.TypeIs v T ∧ wpAny (model X.prog X.w) X.A (getItem v (.ref sl)) (EP X pins σ Q) X.xe s
theorem SlR.or {r r' : V → Option Int → Option Int → Hp → VK → Prop} (h : SlR X r) (h' : SlR X r') : SlR X (fun x lo hi H Q => r x lo hi H Q ∨ r' x lo hi H Q) := by
  intro pins s σ H x v vl vu lo hi sl Q I rx hs pl pu q
  rcases q with q | q
  · exact h pins s σ H x v vl vu lo hi sl Q I rx hs pl pu q
  · exact h' pins s σ H x v vl vu lo hi sl Q I rx hs pl pu q
def tSl (r : V → Option Int → Option Int → Hp → VK → Prop) (te : TE) (tl th : TO) : TE := fun σ H Q => te σ H fun x H1 => tl σ H1 fun l H2 => th σ H2 fun u H3 => r x l u H3 Q
theorem pe_slice {r : V → Option Int → Option Int → Hp → VK → Prop} (hr : SlR X r) (he : PE X e te) (hl : PO X lo tl) (hu : PO X hi th) : PE X (.Subscript e (.Slice lo hi none p2) pos) (tSl r te tl th) := by
  intro pins s σ H Q I h
  refine Subscript_ (thn (he pins s σ H _ I h) fun v s1 ⟨x, H1, I1, r1, q1⟩ => ?_)
  refine wpAny_Slice (thn (hl pins s1 σ H1 _ I1 q1) fun vl s2 ⟨l, H2, I2, pl, q2⟩ => thn (hu pins s2 σ H2 _ I2 q2) fun vu s3 ⟨u, H3, I3, pu, q3⟩ => ?_)
  rw [evalPart_none]
  refine wpAny_pure ?_
  have I4 : Inv X pins σ H3 { s3 with heap := s3.heap.push { cls := .type "slice", data := .fields #[vl, vu, .none] } } := I3.kept (t' := s3.toks) fun b ob q => Heap.get?_push_of_some _ q
  obtain ⟨T, id, hT, ht, hg⟩ := hr pins { s3 with heap := s3.heap.push { cls := .type "slice", data := .fields #[vl, vu, .none] } } σ H3 x v vl vu l u s3.heap.objs.size Q I4 r1 (Heap.IsSliceOf.new ..) pl pu q3
  show wpAny (model X.prog X.w) X.A (subscriptTail e (.Slice lo hi none p2) v (.ref s3.heap.objs.size)) (EP X pins σ Q) X.xe { s3 with heap := s3.heap.push { cls := .type "slice", data := .fields #[vl, vu, .none] } }
  exact tail_any (ops := [.ref s3.heap.objs.size, v]) ht hT hg (by with_unfolding_all rfl)
def cutV (xs : List V) (lo hi : Option Int) : List V := (xs.drop (HT.sIx xs.length 0 lo)).take (HT.sIx xs.length xs.length hi - HT.sIx xs.length 0 lo)
theorem cutV_length (xs : List V) (lo hi : Option Int) : (cutV xs lo hi).length ≤ xs.length := by
  unfold cutV
  rw [List.length_take, List.length_drop]
  omega
def rSlT (K : PySem.W.Frag) : V → Option Int → Option Int → Hp → VK → Prop := fun x lo hi H Q => ∃ a xs, x = .ref a ∧ SqT K H a xs ∧
  ¬ (HT.sIx xs.length 0 lo = 0 ∧ HT.sIx xs.length xs.length hi = xs.length) ∧ ∀ p, H p = none → Q (.ref p) (upd H p (.tup (cutV xs lo hi)))
theorem sl_tup : SlR X (rSlT X.K) := by
  intro pins s σ H x v vl vu lo hi sl Q I rx hs pl pu h
  obtain ⟨a, xs, rfl, hx, hw, q⟩ := h
  cases rx
  obtain ⟨its, r, ht, hz⟩ := I.tuple hx
  have hlen : its.toArray.size = xs.length := by rw [List.size_toArray]; exact r.length.symm
  refine ⟨"tuple", _, PyProof.Rows.slot_tuple_getitem.lookup, ht.typeIs, ?_⟩
  refine HT.getItem_tuple_cut ht hs pl pu (by rw [hlen]; exact hw) ?_ (by rw [hlen]; exact hz)
  rw [hlen]
  refine ⟨.ref s.heap.objs.size, _, I.laid (t' := s.toks) (o := .tup (cutV xs lo hi)) (fun b ob q => Heap.get?_push_of_some _ q) (Nat.le_refl _) ?_, rfl, q _ (I.hok.fresh (Nat.le_refl _))⟩
  exact ⟨Nat.le_trans (cutV_length xs lo hi) hz, _, (r.drop (HT.sIx xs.length 0 lo)).take (HT.sIx xs.length xs.length hi - HT.sIx xs.length 0 lo), IsTup.new _ _⟩
def rCatT (K : PySem.W.Frag) : R2 := fun x y H Q => ∃ a b xs ys, x = .ref a ∧ y = .ref b ∧ SqT K H a xs ∧ SqT K H b ys ∧ xs ≠ [] ∧ xs.length + ys.length ≤ sizeLine ∧
  (ys = [] → Q (.ref a) H) ∧ (ys ≠ [] → ∀ p, H p = none → Q (.ref p) (upd H p (.tup (xs ++ ys))))
theorem Vals.nil_iff {xs : List V} {us : List Value} (r : Vals xs us) : us = [] ↔ xs = [] := by
  cases r with
  | nil => simp
  | cons _ _ => simp
theorem op_catT : OpR X (binaryOp .Add) (rCatT X.K) := by
  intro pins s σ H x y v u Q I rx ry h
  obtain ⟨a, b, xs, ys, rfl, rfl, ha, hb, hx, hz, q1, q2⟩ := h
  cases rx
  cases ry
  obtain ⟨its, r1, p1, _⟩ := I.tuple ha
  obtain ⟨its2, r2, p2, _⟩ := I.tuple hb
  refine HT.cat_tup p1 p2 (fun z => hx (r1.nil_iff.mp z)) (fun z => ⟨.ref a, H, I, rfl, q1 (r2.nil_iff.mp z)⟩) (fun z => ?_) (by rw [← r1.length, ← r2.length]; exact hz)
  refine ⟨.ref s.heap.objs.size, _, I.laid (t' := s.toks) (o := .tup (xs ++ ys)) (fun b ob q => Heap.get?_push_of_some _ q) (Nat.le_refl _) ?_, rfl, q2 (fun w => z (r2.nil_iff.mpr w)) _ (I.hok.fresh (Nat.le_refl _))⟩
  exact ⟨by rw [List.length_append]; exact hz, _, r1.append r2, IsTup.new _ _⟩
end
end L2
namespace L2
open PySem PySem.Spec PyProof.Rows
def ixN (n : Nat) (i : Int) : Option Nat := if 0 ≤ i then (if i < n then some i.toNat else none) else if -(n : Int) ≤ i then some (i + n).toNat else none
def atI {α : Type} (xs : List α) (i : Int) : Option α := (ixN xs.length i).bind fun j => xs[j]?
theorem ixN_seq {n : Nat} {i : Int} {j : Nat} (h : ixN n i = some j) : seqIndex? i n = some j ∧ j < n ∧ -(n : Int) ≤ i ∧ i < n := by
  unfold ixN at h
  by_cases h0 : 0 ≤ i
  · rw [if_pos h0] at h
    by_cases h1 : i < n
    · rw [if_pos h1] at h
      have e : i.toNat = j := Option.some.inj h
      exact ⟨by rw [seqIndex_of h0 h1, e], by omega, by omega, h1⟩
    · rw [if_neg h1] at h; cases h
  · rw [if_neg h0] at h
    by_cases h1 : -(n : Int) ≤ i
    · rw [if_pos h1] at h
      have e : (i + n).toNat = j := Option.some.inj h
      exact ⟨by rw [seqIndex_neg (by omega) h1, e], by omega, h1, by omega⟩
    · rw [if_neg h1] at h; cases h
theorem atI_get {α : Type} {xs : List α} {i : Int} {v : α} (h : atI xs i = some v) : ∃ j, seqIndex? i xs.length = some j ∧ xs[j]? = some v ∧ j < xs.length ∧ -(xs.length : Int) ≤ i ∧ i < xs.length := by
  unfold atI at h
  cases e : ixN xs.length i with
  | none => rw [e] at h; cases h
  | some j =>
    rw [e] at h
    obtain ⟨h1, h2, h3, h4⟩ := ixN_seq e
    exact ⟨j, h1, h, h2, h3, h4⟩
def PlainIx (b : Expr) : Prop := ∀ o i, subscripted b false o i = operate [o, i] (getItem o i)
def IxR (X : Cx) (r : R2) : Prop :=
  ∀ (value slice : Expr) (pins : List (Addr × Obj)) (s : Shared) (σ : St) (H : Hp) (x y : V) (v u : Value) (Q : VK), Inv X pins σ H s → RelV x v → RelV y u → r x y H Q →
    subscripted slice false v u = operate [v, u] (getItem v u) → wpAny (model X.prog X.w) X.A (subscriptTail value slice v u) (EP X pins σ Q) X.xe s
def MtR (X : Cx) (id : String) (r : V → List V → Hp → VK → Prop) : Prop :=
  ∀ (pins : List (Addr × Obj)) (s : Shared) (σ : St) (H : Hp) (x : V) (xs : List V) (v : Value) (us : List Value) (Q : VK), Inv X pins σ H s → RelV x v → Vals xs us → r x xs H Q →
    wpAny (model X.prog X.w) X.A (call (.builtin id) (v :: us)) (EP X pins σ Q) X.xe s
section
variable {X : Cx} {a b : Expr} {ta tb : TE} {pos : Pos}
theorem IxR.or {r r' : R2} (h : IxR X r) (h' : IxR X r') : IxR X (fun x y H Q => r x y H Q ∨ r' x y H Q) := by
  intro value slice pins s σ H x y v u Q I rx ry q hs
  rcases q with q | q
  · exact h value slice pins s σ H x y v u Q I rx ry q hs
  · exact h' value slice pins s σ H x y v u Q I rx ry q hs
theorem pe_ix {r : R2} (hr : IxR X r) (ha : PE X a ta) (hb : PE X b tb) (hs : PlainIx b) : PE X (.Subscript a b pos) (tOp r ta tb) := by
  intro pins s σ H Q I h
  exact Subscript_ (binT ha hb I h fun v u s2 x y H2 I2 rx ry q => hr a b pins s2 σ H2 x y v u Q I2 rx ry q (hs _ _))
def rIxL (K : PySem.W.Frag) : R2 := fun x y H Q => ∃ p xs i v, x = .ref p ∧ y = .int i ∧ SqL K H p xs ∧ atI xs i = some v ∧ Q v H
def rIxT (K : PySem.W.Frag) : R2 := fun x y H Q => ∃ p xs i v, x = .ref p ∧ y = .int i ∧ SqT K H p xs ∧ atI xs i = some v ∧ Q v H
def rIxS : R2 := fun x y H Q => ∃ z i c, x = .str z ∧ y = .int i ∧ z.length ≤ sizeLine ∧ atI z.cps.toList i = some c ∧ Q (.str ⟨#[c]⟩) H
theorem ix_list : IxR X (rIxL X.K) := by
  intro value slice pins s σ H x y v u Q I rx ry h hs
  obtain ⟨p, xs, i, z, rfl, rfl, hq, he, q⟩ := h
  cases rx
  obtain ⟨t, rfl⟩ := ry
  obtain ⟨its, r, pl, hz⟩ := I.list hq
  obtain ⟨j, h1, h2, h3, h4, h5⟩ := atI_get he
  obtain ⟨w, ew, rw'⟩ := r.get h2
  have hl := r.length
  have hn := line63
  have fin : EP X pins σ Q w s := ⟨z, H, I, rw', q⟩
  by_cases h0 : 0 ≤ i
  · have hj : i.toNat = j := by
      rw [seqIndex_of h0 h5] at h1
      exact Option.some.inj h1
    exact item_listR pl.isList h0 (by omega) (by rw [hj]; simpa using ew) fin hs
  · have hj : (i + (its.toArray.size : Int)).toNat = j := by
      rw [seqIndex_neg (by omega) h4] at h1
      rw [List.size_toArray, ← hl]
      exact Option.some.inj h1
    exact subscriptTail_builtinR (x := w) pl.isList.typeIs slot_list_getitem.lookup
      (wpAny_getItem_list_neg (Q := fun r s' => r = w ∧ EP X pins σ Q r s') pl.isList (by omega) (by rw [List.size_toArray] <;> omega) (by omega) (by rw [hj]; simpa using ew) ⟨rfl, fin⟩) hs
theorem ix_tup : IxR X (rIxT X.K) := by
  intro value slice pins s σ H x y v u Q I rx ry h hs
  obtain ⟨p, xs, i, z, rfl, rfl, hq, he, q⟩ := h
  cases rx
  obtain ⟨t, rfl⟩ := ry
  obtain ⟨its, r, pl, hz⟩ := I.tuple hq
  obtain ⟨j, h1, h2, h3, h4, h5⟩ := atI_get he
  obtain ⟨w, ew, rw'⟩ := r.get h2
  have hl := r.length
  have hn := line63
  have fin : EP X pins σ Q w s := ⟨z, H, I, rw', q⟩
  exact subscriptTail_builtinR (x := w) pl.typeIs slot_tuple_getitem.lookup
    (getItem_tuple (j := j) (Q := fun r s' => r = w ∧ EP X pins σ Q r s') pl (by omega) (by omega) (by rw [List.size_toArray, ← hl]; exact h1) (by simpa using ew) ⟨rfl, fin⟩) hs
theorem ix_str : IxR X rIxS := by
  intro value slice pins s σ H x y v u Q I rx ry h hs
  obtain ⟨z, i, c, rfl, rfl, hz, he, q⟩ := h
  obtain ⟨t, rfl⟩ := rx
  obtain ⟨t', rfl⟩ := ry
  obtain ⟨j, h1, h2, h3, h4, h5⟩ := atI_get he
  have hl : z.cps.toList.length = z.length := by simp [Str.length]
  rw [hl] at h1 h4 h5
  have hn := line63
  exact tail_any (typeIs_str s z t) slot_str_getitem.lookup (getItem_str (c := c) (by
    have e1 : decide (i < -(2 ^ 63 : Int)) = false := decide_eq_false (by omega)
    have e2 : decide (i ≥ 2 ^ 63) = false := decide_eq_false (by omega)
    rw [e1, e2, Bool.or_false]) (by rw [h1]; simpa using h2) ⟨.str ⟨#[c]⟩, H, I.tok _, ⟨_, rfl⟩, q⟩) hs
def rIx (K : PySem.W.Frag) : R2 := fun x y H Q => rIxL K x y H Q ∨ rIxT K x y H Q ∨ rIxS x y H Q
theorem ix_seq : IxR X (rIx X.K) := ix_list.or (ix_tup.or ix_str)
theorem Inv.lst {pins : List (Addr × Obj)} {σ : St} {H : Hp} {s : Shared} {p : Addr} {xs : List V} (I : Inv X pins σ H s) (h : H p = some (.lst xs)) :
    ∃ (its : List Value) (n : Nat), Vals xs its ∧ s.heap.get? p = some { cls := .type "list", data := .seq its.toArray n } ∧ xs.length ≤ sizeLine := by
  obtain ⟨z, its, n, r, e⟩ := I.hok p _ h
  exact ⟨its, n, r, e, z⟩
theorem slice_bounds (lo hi : Option Int) (n : Nat) : (sliceBounds lo hi none n).1 = ((HT.sIx n 0 lo : Nat) : Int) ∧ (sliceBounds lo hi none n).2.1 = ((HT.sIx n n hi : Nat) : Int) ∧ (sliceBounds lo hi none n).2.2 = 1 := by
  refine ⟨?_, ?_, rfl⟩
  · cases lo with
    | none => simp [sliceBounds, HT.sIx]
    | some i =>
      simp only [sliceBounds, HT.sIx, Option.getD_none, show (1 : Int) > 0 by decide, if_true]
      by_cases h : i < 0
      · simp only [h, if_true] <;> omega
      · simp only [h, if_false] <;> omega
  · cases hi with
    | none => simp [sliceBounds, HT.sIx]
    | some i =>
      simp only [sliceBounds, HT.sIx, Option.getD_none, show (1 : Int) > 0 by decide, if_true]
      by_cases h : i < 0
      · simp only [h, if_true] <;> omega
      · simp only [h, if_false] <;> omega
theorem slicePick_cut (its : List Value) (lo hi : Option Int) : slicePick its.toArray lo hi none = ((its.drop (HT.sIx its.length 0 lo)).take (HT.sIx its.length its.length hi - HT.sIx its.length 0 lo)).toArray := by
  obtain ⟨h1, h2, h3⟩ := slice_bounds lo hi its.toArray.size
  unfold slicePick
  rw [h1, h2, h3]
  simp only [sliceRange_one, pick_run, List.size_toArray] <;> rfl
def rSlL (K : PySem.W.Frag) : V → Option Int → Option Int → Hp → VK → Prop := fun x lo hi H Q => ∃ a xs, x = .ref a ∧ SqL K H a xs ∧ ∀ p, H p = none → Q (.ref p) (upd H p (.lst (cutV xs lo hi)))
theorem sl_list : SlR X (rSlL X.K) := by
  intro pins s σ H x v vl vu lo hi sl Q I rx hs pl pu h
  obtain ⟨a, xs, rfl, hx, q⟩ := h
  cases rx
  obtain ⟨its, r, ht, hz⟩ := I.list hx
  have hlen := r.length
  refine ⟨"list", _, slot_list_getitem.lookup, ht.isList.typeIs, ?_⟩
  refine wpAny_getItem_list_slice ht.isList hs pl pu .none (by simp) ?_ (by rw [List.size_toArray] <;> omega)
  rw [slicePick_cut, ← hlen]
  refine ⟨.ref s.heap.objs.size, _, I.laid (t' := s.toks) (o := .lst (cutV xs lo hi)) (fun b ob q => Heap.get?_push_of_some _ q) (Nat.le_refl _) ?_, rfl, q _ (I.hok.fresh (Nat.le_refl _))⟩
  exact ⟨Nat.le_trans (cutV_length xs lo hi) hz, _, 0, (r.drop (HT.sIx xs.length 0 lo)).take (HT.sIx xs.length xs.length hi - HT.sIx xs.length 0 lo), Heap.get?_push_size _ rfl⟩
def flatV : V → Bool
  | .non => true
  | .bl _ => true
  | .int _ => true
  | .str _ => true
  | _ => false
def eqV : V → V → Bool
  | .non, .non => true
  | .bl a, .bl b => a == b
  | .bl a, .int b => (if a then 1 else 0) == b
  | .int a, .bl b => a == (if b then 1 else 0)
  | .int a, .int b => a == b
  | .str a, .str b => a == b
  | _, _ => false
theorem eqAt_V {A : Around} {s : Shared} {y x : V} {u v : Value} (ry : RelV y u) (rx : RelV x v) (fy : flatV y = true) (fx : flatV x = true) : SeqAt.EqAt A s u v (eqV y x) := by
  cases y with
  | non =>
    cases ry
    cases x with
    | non => cases rx; exact SeqAt.EqAt.same _
    | bl b => cases rx; exact SeqAt.EqAt.none_bool b
    | int b => obtain ⟨t, rfl⟩ := rx; exact SeqAt.EqAt.none_int b t
    | str b => obtain ⟨t, rfl⟩ := rx; exact SeqAt.EqAt.none_str b t
    | _ => exact absurd (show false = true from fx) Bool.false_ne_true
  | bl a =>
    cases ry
    cases x with
    | non => cases rx; exact SeqAt.EqAt.bool_none a
    | bl b => cases rx; exact SeqAt.EqAt.bool_bool a b
    | int b => obtain ⟨t, rfl⟩ := rx; exact SeqAt.EqAt.bool_int a b t
    | str b => obtain ⟨t, rfl⟩ := rx; exact SeqAt.EqAt.bool_str a b t
    | _ => exact absurd (show false = true from fx) Bool.false_ne_true
  | int a =>
    obtain ⟨t', rfl⟩ := ry
    cases x with
    | non => cases rx; exact SeqAt.EqAt.int_none a t'
    | bl b => cases rx; exact SeqAt.EqAt.int_bool a t' b
    | int b => obtain ⟨t, rfl⟩ := rx; exact SeqAt.EqAt.int_int a t' b t
    | str b => obtain ⟨t, rfl⟩ := rx; exact SeqAt.EqAt.int_str a t' b t
    | _ => exact absurd (show false = true from fx) Bool.false_ne_true
  | str a =>
    obtain ⟨t', rfl⟩ := ry
    cases x with
    | non => cases rx; exact SeqAt.EqAt.str_none a t'
    | bl b => cases rx; exact SeqAt.EqAt.str_bool a t' b
    | int b => obtain ⟨t, rfl⟩ := rx; exact SeqAt.EqAt.str_int a t' b t
    | str b => obtain ⟨t, rfl⟩ := rx; exact SeqAt.EqAt.str_str a t' b t
    | _ => exact absurd (show false = true from fx) Bool.false_ne_true
  | _ => exact absurd (show false = true from fy) Bool.false_ne_true
theorem call_len_seq : CallR X (.builtin "len") (fun xs H Q => ∃ p ys, xs = [.ref p] ∧ (SqL X.K H p ys ∨ SqT X.K H p ys) ∧ Q (.int ys.length) H) := by
  intro pins s σ H xs us Q I r h
  obtain ⟨p, ys, rfl, hq, q⟩ := h
  obtain ⟨u, rfl, rx⟩ := vals1 r
  cases rx
  have hn := line63
  rcases hq with hq | hq
  · obtain ⟨its, r', pl, hz⟩ := I.list hq
    have hlen := r'.length
    exact Calls.call_len_list pl.isList (by simp only [List.size_toArray] <;> omega) ⟨.int ys.length, H, I.tok _, ⟨s.toks + 1, by rw [List.size_toArray, hlen]⟩, q⟩
  · obtain ⟨its, r', pl, hz⟩ := I.tuple hq
    have hlen := r'.length
    exact len_tuple pl (by simp only [List.size_toArray] <;> omega) ⟨.int ys.length, H, I.tok _, ⟨s.toks + 1, by rw [List.size_toArray, hlen]⟩, q⟩
theorem call_len_str : CallR X (.builtin "len") (fun xs H Q => ∃ z, xs = [.str z] ∧ z.length ≤ sizeLine ∧ Q (.int z.length) H) := by
  intro pins s σ H xs us Q I r h
  obtain ⟨z, rfl, hz, q⟩ := h
  obtain ⟨u, rfl, t, rfl⟩ := vals1 r
  have hn := line63
  exact len_str (by omega) ⟨.int z.length, H, I.tok _, ⟨_, rfl⟩, q⟩
theorem CallR.or {f : Value} {r r' : List V → Hp → VK → Prop} (h : CallR X f r) (h' : CallR X f r') : CallR X f (fun xs H Q => r xs H Q ∨ r' xs H Q) := by
  intro pins s σ H xs us Q I rs q
  rcases q with q | q
  · exact h pins s σ H xs us Q I rs q
  · exact h' pins s σ H xs us Q I rs q
theorem call_list_of : CallR X (.type "list") (fun xs H Q => ∃ p ys, xs = [.ref p] ∧ (SqL X.K H p ys ∨ SqT X.K H p ys) ∧ ∀ l, H l = none → Q (.ref l) (upd H l (.lst ys))) := by
  intro pins s σ H xs us Q I r h
  obtain ⟨p, ys, rfl, hq, q⟩ := h
  obtain ⟨u, rfl, rx⟩ := vals1 r
  cases rx
  have fin : ∀ (its : List Value), Vals ys its → ys.length ≤ sizeLine → ∀ (h' : Heap) (c' : Nat), (∀ b o', s.heap.get? b = some o' → h'.get? b = some o') →
      h'.get? s.heap.objs.size = some { cls := .type "list", dict := none, data := .seq its.toArray c', slots := #[] } → EP X pins σ Q (.ref s.heap.objs.size) { s with heap := h' } := fun its r' hz h' c' kp e =>
    ⟨.ref s.heap.objs.size, _, I.laid (t' := s.toks) kp (Nat.le_refl _) (show ObjOk X.prog X.w _ h' _ (.lst ys) from ⟨hz, its, c', r', e⟩), rfl, q _ (I.hok.fresh (Nat.le_refl _))⟩
  rcases hq with hq | hq
  · obtain ⟨its, r', pl, hz⟩ := I.list hq
    have hlen := r'.length
    obtain ⟨o, ho, hc, n, hd⟩ := pl.isList
    exact call_list_seq p (.inl rfl) ho hc hd (fun h' c' kp e => fin its r' hz h' c' kp e) (by simp only [List.size_toArray] <;> omega)
  · obtain ⟨its, r', pl, hz⟩ := I.tuple hq
    have hlen := r'.length
    obtain ⟨o, ho, hc, n, hd⟩ := pl
    exact call_list_seq p (.inr rfl) ho hc hd (fun h' c' kp e => fin its r' hz h' c' kp e) (by simp only [List.size_toArray] <;> omega)
theorem call_tuple_of : CallR X (.type "tuple") (fun xs H Q => ∃ p ys, xs = [.ref p] ∧ ((SqL X.K H p ys ∧ ∀ l, H l = none → Q (.ref l) (upd H l (.tup ys))) ∨ (SqT X.K H p ys ∧ Q (.ref p) H))) := by
  intro pins s σ H xs us Q I r h
  obtain ⟨p, ys, rfl, h⟩ := h
  obtain ⟨u, rfl, rx⟩ := vals1 r
  cases rx
  rcases h with ⟨hq, q⟩ | ⟨hq, q⟩
  · obtain ⟨its, r', pl, hz⟩ := I.list hq
    have hlen := r'.length
    refine call_tuple_list pl.isList (fun h' kp => ?_) (by simp only [List.size_toArray] <;> omega)
    have I1 : Inv X pins σ H { s with heap := h' } := I.kept (t' := s.toks) kp
    have I2 : Inv X pins σ (upd H h'.objs.size (.tup ys)) { s with heap := h'.push { cls := .type "tuple", data := .seq its.toArray } } :=
      I1.laid (t' := s.toks) (fun b o e => Heap.get?_push_of_some _ e) (Nat.le_refl _) (show ObjOk X.prog X.w _ _ _ (.tup ys) from ⟨hz, its, r', IsTup.new _ _⟩)
    exact ⟨.ref h'.objs.size, _, I2, rfl, q _ (I1.hok.fresh (Nat.le_refl _))⟩
  · obtain ⟨its, r', pl, hz⟩ := I.tuple hq
    exact call_tuple_same pl ⟨.ref p, H, I, rfl, q⟩
def tyV (K : PySem.W.Frag) (T : String) (x : V) (H : Hp) : Prop := match x with
  | .str _ => T = "str"
  | .int _ => T = "int"
  | .ref p => (T = "list" ∧ ∃ xs, SqL K H p xs) ∨ (T = "tuple" ∧ ∃ o, K.lookup p = some o ∧ o.cls = .type "tuple" ∧ o.dict = none) ∨
      (T = "dict" ∧ ((∃ kvs, H p = some (.dK kvs)) ∨ ∃ kvs, H p = some (.dT kvs))) ∨ (T = "set" ∧ ∃ S n, H p = some (.set S n))
  | _ => False
theorem tyV_is {pins : List (Addr × Obj)} {σ : St} {H : Hp} {s : Shared} {T : String} {x : V} {v : Value} (I : Inv X pins σ H s) (r : RelV x v) (ty : tyV X.K T x H) :
    s.TypeIs v T ∧ ∀ a, v = .ref a → ∃ ob, s.heap.get? a = some ob ∧ ob.dict = none := by
  cases x with
  | str z =>
    obtain ⟨t, rfl⟩ := r
    cases (show T = "str" from ty)
    exact ⟨typeIs_str s z t, fun _ e => nomatch e⟩
  | int i =>
    obtain ⟨t, rfl⟩ := r
    cases (show T = "int" from ty)
    exact ⟨typeIs_int s i t, fun _ e => nomatch e⟩
  | ref p =>
    cases r
    rcases ty with ⟨rfl, xs, hq⟩ | ⟨rfl, o, hk, hc, hd⟩ | ⟨rfl, hk⟩ | ⟨rfl, S, n, hk⟩
    · obtain ⟨its, _, pl, _⟩ := I.list hq
      refine ⟨pl.isList.typeIs, fun a e => ?_⟩
      cases e
      obtain ⟨o, n, e, c, hd, _⟩ := pl
      exact ⟨o, e, hd⟩
    · refine ⟨⟨o, I.kIn p o hk, hc⟩, fun a e => ?_⟩
      cases e
      exact ⟨o, I.kIn _ o hk, hd⟩
    · have z : ∃ o, s.heap.get? p = some o ∧ o.ExactDict := by
        rcases hk with ⟨kvs, hk⟩ | ⟨kvs, hk⟩
        · obtain ⟨_, _, _, _, o, _, _, e, ex, _⟩ := I.hok p _ hk
          exact ⟨o, e, ex⟩
        · obtain ⟨_, _, _, _, o, _, _, e, ex, _⟩ := I.hok p _ hk
          exact ⟨o, e, ex⟩
      obtain ⟨o, e, ex⟩ := z
      refine ⟨⟨o, e, ex.1⟩, fun a e2 => ?_⟩
      cases e2
      exact ⟨o, e, ex.2.1⟩
    · obtain ⟨o, _, _, _, e, ex, _⟩ := I.hok p _ hk
      refine ⟨⟨o, e, ex.1⟩, fun a e2 => ?_⟩
      cases e2
      exact ⟨o, e, ex.2.1⟩
  | _ => exact False.elim ty
def tBM (K : PySem.W.Frag) (T : String) (r : V → List V → Hp → VK → Prop) (to : TE) (t : TA) : TE := fun σ H Q => to σ H fun x H1 => tyV K T x H1 ∧ t σ H1 fun xs H2 => r x xs H2 Q
variable {o e : Expr} {es : List Expr} {to : TE} {t : TA} {name : Str} {apos cpos : Pos} {T id : String} {r : V → List V → Hp → VK → Prop}
theorem pe_bm (pa : PlainAttrs T) (slot : Slot T name id) (hty : typeOf (.builtin id) = pure (.type "method_descriptor")) (hm : MtR X id r) (ho : PE X o to) (ha : PA X (e :: es) t)
    (hbase : attributeBase o name X.env (eval o X.env) = eval o X.env := by rfl)
    (hfew : ((backTo cpos (starEach (e :: es) X.env)).all (fun x => !x.1) && (backToKw cpos (keywordEach [] X.env)).all (fun x => x.1.isSome)
      && decide ((e :: es).length + ([] : List Keyword).length + (if ([] : List Keyword).isEmpty then 0 else 1) < 30)) = true := by rfl)
    (hline : (apos.endLine == cpos.line) = true := by rfl) (hs : starEach (e :: es) X.env = (false, eval e X.env) :: starEach es X.env := by rfl) (hplain : (backTo cpos (starEach es X.env)).any (·.1) = false := by rfl) :
    PE X (.Call (.Attribute o name apos) (e :: es) [] cpos) (tBM X.K T r to t) := by
  intro pins s σ H Q I h
  refine wpAny_Call_method_late hbase hfew hline rfl (thn (ho pins s σ H _ I h) fun v s1 ⟨x, H1, I1, r1, ty, q1⟩ => ?_)
  obtain ⟨h1, h2⟩ := tyV_is I1 r1 ty
  refine ⟨T, id, pa, slot, hty, h1, h2, ?_⟩
  have hA := ha cpos pins s1 σ H1 _ I1 q1
  rw [hs] at hA ⊢
  refine Calls.callWith_builtin (by show (false || (backTo cpos (starEach es X.env)).any (·.1)) = false; rw [hplain] <;> rfl) (Calls.evalArgs_plain ?_)
  exact thn hA fun us s2 ⟨vs, H2, I2, r2, q2⟩ => hm pins s2 σ H2 x vs v us Q I2 r1 r2 q2
end
end L2
namespace L2
open PySem PySem.Spec PyProof.Rows
def MtM (X : Cx) (id : String) (r : V → List V → Hp → VK → Prop) : Prop :=
  ∀ (pins : List (Addr × Obj)) (s : Shared) (σ : St) (H : Hp) (x : V) (xs : List V) (v : Value) (us : List Value) (Q : VK), Inv X pins σ H s → RelV x v → Vals xs us → r x xs H Q →
    wpAny (model X.prog X.w) X.A (call (.builtin id) (v :: us)) (EP X pins σ Q) X.xe s
theorem Vals.one : ∀ {x : V} {us : List Value}, Vals [x] us → ∃ u, us = [u] ∧ RelV x u
  | _, _, .cons r .nil => ⟨_, rfl, r⟩
theorem Vals.rep {xs : List V} {us : List Value} (h : Vals xs us) : ∀ k : Nat, Vals (List.replicate k xs).flatten (List.replicate k us).flatten
  | 0 => .nil
  | k + 1 => by
    rw [List.replicate_succ, List.replicate_succ, List.flatten_cons, List.flatten_cons]
    exact Vals.append h (Vals.rep h k)
theorem foldl_rep (its : List Value) : ∀ (k : Nat) (acc : List Value),
    List.foldl (fun x1 x2 => x1 ++ x2) acc.toArray (List.replicate k its.toArray) = (acc ++ (List.replicate k its).flatten).toArray
  | 0, acc => by simp
  | k + 1, acc => by
    have e : acc.toArray ++ its.toArray = (acc ++ its).toArray := by simp
    have e2 : (acc ++ its) ++ (List.replicate k its).flatten = acc ++ (List.replicate (k + 1) its).flatten := by
      rw [List.replicate_succ, List.flatten_cons, List.append_assoc]
    rw [← e2, ← foldl_rep its k (acc ++ its), ← e, List.replicate_succ, List.foldl_cons]
section
variable {X : Cx} {pins : List (Addr × Obj)} {σ : St} {H : Hp} {s : Shared} {l b : Addr} {xs ys zs : List V}
theorem Inv.lset {its its' : List Value} {n : Nat} {f : Array Value → Array Value} {t' : Nat} (I : Inv X pins σ H s) (hH : H l = some (.lst xs))
    (e : s.heap.get? l = some { cls := .type "list", data := .seq its.toArray n }) (hf : f its.toArray = its'.toArray) (hv : Vals ys its') (hz : ys.length ≤ sizeLine) :
    Inv X pins σ (upd H l (.lst ys)) { s with heap := s.heap.update l (Obj.mapSeq f), toks := t' } := by
  have q := PySem.IsL.update e f
  rw [hf] at q
  refine I.write (x := l) (e := l) (by rw [hH]; exact trivial) (.inl rfl) (fun b' u hb hu => (Heap.get?_update_other s.heap (Obj.mapSeq f) (Ne.symm hb)).trans hu) ⟨_, q⟩ ?_
  exact ⟨hz, its', _, hv, q⟩
theorem Inv.lnew {its : List Value} {t' : Nat} (I : Inv X pins σ H s) (hv : Vals ys its) (hz : ys.length ≤ sizeLine) :
    Inv X pins σ (upd H s.heap.objs.size (.lst ys)) { s with heap := s.heap.push { cls := .type "list", data := .seq its.toArray }, toks := t' } :=
  I.laid (fun _ _ q => Heap.get?_push_of_some _ q) (Nat.le_refl _) ⟨hz, its, 0, hv, Heap.get?_push_size _ rfl⟩
theorem Inv.fresh (I : Inv X pins σ H s) : H s.heap.objs.size = none := I.hok.fresh (Nat.le_refl _)
theorem Inv.lstM (I : Inv X pins σ H s) (hH : H l = some (.lst xs)) : xs.length ≤ sizeLine ∧ ∃ (its : List Value) (n : Nat), Vals xs its ∧ xs.length = its.length ∧ s.heap.get? l = some { cls := .type "list", data := .seq its.toArray n } := by
  obtain ⟨z, its, n, r, e⟩ := I.hok l _ hH
  exact ⟨z, its, n, r, r.length, e⟩
theorem notLongL {n : Nat} (h : n ≤ sizeLine) : Builtin.List.listTooLong n = false := by
  unfold Builtin.List.listTooLong
  exact decide_eq_false (by omega)
end
section
variable {X : Cx}
def rAppend : V → List V → Hp → VK → Prop := fun x vs H Q => ∃ l xs y, x = .ref l ∧ vs = [y] ∧ H l = some (.lst xs) ∧ xs.length < sizeLine ∧ Q .non (upd H l (.lst (xs ++ [y])))
theorem mt_append : MtM X "list.append" rAppend := by
  intro pins s σ H x vs v us Q I rx rv h
  obtain ⟨l, xs, y, rfl, rfl, hH, hz, q⟩ := h
  cases rx
  obtain ⟨u, rfl, ru⟩ := rv.one
  obtain ⟨z, its, n, r, hl, e⟩ := I.lstM hH
  refine call_meets F.slot_list_append ⟨_, e, rfl⟩ F.entry_list_append (F.args_list_append_2 _ _) (PySem.list_append l its.toArray n u (by rw [List.size_toArray]; omega)) ⟨e, ?_⟩
  refine ⟨.non, _, I.lset (its' := its ++ [u]) hH e (by simp) (r.append (.cons ru .nil)) ?_, rfl, q⟩
  rw [List.length_append, List.length_singleton]
  omega
def rCat : R2 := fun x y H Q => ∃ l b xs zs, x = .ref l ∧ y = .ref b ∧ H l = some (.lst xs) ∧ H b = some (.lst zs) ∧ xs.length + zs.length ≤ sizeLine ∧ ∀ p, H p = none → Q (.ref p) (upd H p (.lst (xs ++ zs)))
theorem op_cat : OpR X (binaryOp .Add) rCat := by
  intro pins s σ H x y v u Q I rx ry h
  obtain ⟨l, b, xs, zs, rfl, rfl, hH, hB, hz, q⟩ := h
  cases rx
  cases ry
  obtain ⟨z, its, n, r, hl, e⟩ := I.lstM hH
  obtain ⟨z2, its2, n2, r2, hl2, e2⟩ := I.lstM hB
  refine PySem.P.add_list e e2 ?_ (by rw [List.size_toArray, List.size_toArray]; omega)
  have ea : its.toArray ++ its2.toArray = (its ++ its2).toArray := by simp
  rw [ea]
  exact ⟨.ref _, _, I.lnew (t' := s.toks) (r.append r2) (by rw [List.length_append]; omega), rfl, q _ I.fresh⟩
def rRep : R2 := fun x y H Q => ∃ l k xs, x = .ref l ∧ y = .int k ∧ H l = some (.lst xs) ∧ -(2 ^ 63) ≤ k ∧ k < 2 ^ 63 ∧ xs.length * k.toNat ≤ sizeLine ∧
  ∀ p, H p = none → Q (.ref p) (upd H p (.lst (List.replicate k.toNat xs).flatten))
theorem len_rep {α : Type} (xs : List α) (k : Nat) : (List.replicate k xs).flatten.length = k * xs.length := by
  induction k with
  | zero => simp
  | succ k ih => rw [List.replicate_succ, List.flatten_cons, List.length_append, ih, Nat.succ_mul, Nat.add_comm]
theorem op_rep : OpR X (binaryOp .Mult) rRep := by
  intro pins s σ H x y v u Q I rx ry h
  obtain ⟨l, k, xs, rfl, rfl, hH, h1, h2, hz, q⟩ := h
  cases rx
  obtain ⟨t, rfl⟩ := ry
  obtain ⟨z, its, n, r, hl, e⟩ := I.lstM hH
  have hlen : its.toArray.size * k.toNat ≤ sizeLine := by rw [List.size_toArray, ← hl]; exact hz
  have hcap : ¬ its.toArray.size * k.toNat > (2 ^ 63 - 1) / 8 := by
    have : (sizeLine : Nat) ≤ (2 ^ 63 - 1) / 8 := by decide
    omega
  have hfit : ¬ (!Builtin.List.listFitsIndex k) = true := by
    rw [fitsIndex_both h1 h2]
    exact Bool.false_ne_true
  have hlong : ¬ Builtin.List.listTooLong (its.toArray.size * k.toNat) = true := by
    rw [notLongL hlen]
    exact Bool.false_ne_true
  have hnew : List.foldl (fun x1 x2 => x1 ++ x2) #[] (List.replicate (if its.toArray.isEmpty = true then 0 else k.toNat) its.toArray) = (List.replicate k.toNat its).flatten.toArray := by
    have f0 : ∀ m : Nat, List.foldl (fun x1 x2 => x1 ++ x2) #[] (List.replicate m its.toArray) = (List.replicate m its).flatten.toArray := fun m => by
      have := foldl_rep its m []
      rw [List.nil_append] at this
      exact this
    rw [f0]
    cases its with
    | nil => simp
    | cons a r' => rw [if_neg (by simp)]
  refine wpAny_binaryOp_repeat_ref (T := "list") (U := "int") (by decide) ⟨_, e, rfl⟩ (fun s' => typeIs_int s' k t) noFill_list_mul F.fills_int_mul F.slot_int_rmul repeat_list F.slot_int_index.lookup
    (call_meets F.slot_int_rmul (typeIs_int s k t) F.entry_int_rmul (F.args_int_rmul_2 _ _) (int___rmul___int_list k t l its.toArray n)
      ⟨e, rfl, ⟨_, e, rfl⟩, call_meets F.slot_list_mul ⟨_, e, rfl⟩ F.entry_list_mul (F.args_list_mul_2 _ _) (AutoListH.list___mul___list_int_3 l its.toArray n k t hfit hcap hlong) ⟨e, ?_⟩⟩)
  rw [hnew]
  exact ⟨.ref _, _, I.lnew (t' := s.toks) (r.rep k.toNat) (by rw [len_rep, Nat.mul_comm]; exact hz), rfl, q _ I.fresh⟩
end
end L2
namespace Att
open PySem PySem.W PySem.Calls PyProof.Rows
theorem ints_of_wellAll {P : Params} {h : Heap} : ∀ (ns : List Int) (vs : List Value), WellAll P h vs (ns.map WData.int) → IntsAre vs ns := by
  intro ns
  induction ns with
  | nil =>
    intro vs w
    rw [List.map_nil] at w
    cases w
    exact .nil
  | cons n ns ih =>
    intro vs w
    rw [List.map_cons] at w
    cases w with
    | cons a b =>
      cases a
      exact .cons _ _ (ih _ b)
theorem script_of {l : OpenLaw} {n : Nat} (hn : l.most = some n) {P : Params} {h : Heap} {args : List WData} {vals : List Value}
    (hpre : l.row.toRowW.claim.pre args = true) (hwl : WellAll P h vals args) :
    ∃ a vs ns, vals = [Value.ref a] ∧ args = [WData.list (ns.map WData.int)] ∧ h.get? a = some { cls := .type "list", data := .seq vs.toArray } ∧ IntsAre vs ns ∧ ns.length ≤ n := by
  have hsh : WShape.hasAll [] args [.list .int] = true := (pre_splitW hpre).1
  have hc : l.pre.holds [] { args := args } = true := (pre_splitW hpre).2
  obtain ⟨d, r, rfl, h1, h2⟩ := hasAllW_cons hsh
  obtain rfl := hasAllW_nil h2
  obtain ⟨xs, rfl, h3⟩ := hasW_list h1
  obtain ⟨ns, rfl⟩ := items_int h3
  have hlen : ns.length ≤ n := by
    unfold OpenLaw.pre at hc
    have h4 : (WTm.not (.lt (.lit (.int (n : Int))) (.len (.arg 0)))).holds [] { args := [.list (ns.map .int)] } = true := by
      have h4 := (holds_andW hc).1
      rw [hn] at h4
      exact h4
    have h5 := condW_of h4 (w_not (w_lt w_lit (w_len_list (w_arg rfl))))
    rw [List.length_map] at h5
    refine Nat.le_of_not_lt fun q => ?_
    have q' : (n : Int) < ((ns.length : Nat) : Int) := by omega
    first
      | (rw [decide_eq_true q'] at h5; exact absurd h5 (by decide))
      | (simp at h5; omega)
  cases hwl with
  | cons w1 w2 =>
    cases w2
    cases w1 with
    | list ho hall => exact ⟨_, _, ns, rfl, rfl, ho, ints_of_wellAll ns _ hall, hlen⟩
theorem post_true (l : OpenLaw) (args : List WData) : l.row.toRowW.claim.post args (.bool true) args = true :=
  postW_of (r := l.row.toRowW) (X := (true == true))
    (show WShape.has [] (.bool true) .bool = true by first | rfl | decide | simp [WShape.has, WShape.arms, WShape.armsAll])
    (show (WTm.eq .res (.lit (.bool true))).value [] { args := args, res := some (.bool true), after := args } = some (.bool (true == true)) from w_eq_bool (w_res rfl) w_lit) rfl
theorem attach_call {l : OpenLaw} {n : Nat} {q : Program} {loose : List Str} {XP : (Str → Option Value) → Heap → Prop} {YP : World → Heap → Prop} {d : DefRec}
    (hn : l.most = some n) (hdf : d.params.defaults = [])
    (call : ∀ (w : World) (s₀ s₁ : Shared) (mg mb : Str → Option Value) (fa : Addr) (o : Obj) (pm cd doc : Value) (a : Addr) (vs : List Value) (ns : List Int),
      Ground q loose [] XP w s₀ mg mb s₁.heap → YP w s₁.heap →
      s₁.heap.get? fa = some o → o.data = .func (docDef d.name d.params d.body d.scope pm cd doc) → s₁.heap.CodeRec cd d.name → mg d.name = some (.ref fa) →
      s₁.heap.get? a = some { cls := .type "list", data := .seq vs.toArray } → IntsAre vs ns → ns.length ≤ n → s₁.gens = #[] →
      codeAny (model l.prog w) callerA (.call (.ref fa) ⟨[.ref a], []⟩) (fun r s' => r = .ok (.ret (.bool true)) ∧ OldK s₁.heap s'.heap ∧ s'.os = s₁.os ∧ AllBare s'.gens) s₁) :
    WalkO q loose XP YP l.row.toRowW d [] (fun f vs => PySem.call f vs) := by
  intro w s₀ s₁ mg mb G Y fa o pm cd doc dV kV ho hd hcd hD hmg hg args vals as hpre hlay hrd hwl hlo
  obtain rfl : dV = .none := Dflts.none hD hdf
  obtain rfl : kV = .none := Dflts.noKw hD
  obtain ⟨a, vs, ns, rfl, rfl, hobj, hints, hlen⟩ := script_of hn hpre hwl
  refine enter_call (codeAny_mono (call w s₀ s₁ mg mb fa o pm cd doc a vs ns G Y ho (fd_plain hd) hcd hmg hobj hints hlen hg) fun r s' hq => ?_)
  obtain ⟨rfl, h2, h3, h4⟩ := hq
  exact ⟨.inl ⟨.bool true, .bool true, [], rfl, fun _ => rfl, .bool true, post_true l _, fun _ => ⟨List.Pairwise.nil, fun _ hm => (nomatch hm)⟩⟩, h2, h3, h4⟩
end Att
namespace L2
open PySem PySem.Spec PyProof.Rows
theorem vals_ints : ∀ {vs : List Value} {ns : List Int}, IntsAre vs ns → Vals (ns.map V.int) vs
  | _, _, .nil => .nil
  | _, _, .cons n t h => .cons ⟨t, rfl⟩ (vals_ints h)
def Only (H : Hp) : Prop := ∀ b, H b = none ∨ ∃ o xs, H b = some (.frz o (.lst xs))
theorem law_call {P : Program} {w : World} {K : PySem.W.Frag} {mg mb : Str → Option Value} {CX : CXT} {k : Nat} {fa a : Addr} {fd : FuncData} {x : Str} {sp : Sp} {s₁ : Shared} {vs : List Value} {ns : List Int}
    (KX : K.In s₁.heap) (hns : s₁.heap.Ns mainGlobals mg) (hb : s₁.heap.Ns builtinsNs mb) (hbb : ∀ x : Str, x ≠ "__name__" → mb x = bootBuiltins x) (hlim : s₁.heap.NoLimit) (hg : s₁.gens = #[])
    (ha : s₁.heap.get? a = some { cls := .type "list", data := .seq vs.toArray }) (hi : IntsAre vs ns) (hl : ns.length ≤ sizeLine) (hr : Room k callerA)
    (F : ∀ base : Heap, K.In base → base.Ns mainGlobals mg → FnOk P w K mg base CX k fa fd [x] sp) (hbind : ∀ (s : Shared) (u : Value), BindsTo s fd ⟨[u], []⟩ [(x, u)])
    (hsp : ∀ H : Hp, Only H → SqL K H a (ns.map V.int) → sp [.ref a] H (fun v _ => v = .bl true) fun _ _ _ => False)
    (hCX : ∀ H e s', CX [] H s₁ (fun _ _ _ => False) e s' → False) :
    codeAny (model P w) callerA (.call (.ref fa) ⟨[.ref a], []⟩) (fun r s' => r = .ok (.ret (.bool true)) ∧ OldK s₁.heap s'.heap ∧ s'.os = s₁.os ∧ AllBare s'.gens) s₁ := by
  have rv := vals_ints hi
  have lenV := hi.length
  have core : ∀ H : Hp, Only H → SqL K H a (ns.map V.int) → HOk P w H s₁.heap → (∀ b, H b ≠ none → b = a) → (H a ≠ none → K.lookup a = none) →
      codeAny (model P w) callerA (.call (.ref fa) ⟨[.ref a], []⟩) (fun r s' => r = .ok (.ret (.bool true)) ∧ OldK s₁.heap s'.heap ∧ s'.os = s₁.os ∧ AllBare s'.gens) s₁ := by
    intro H hO hS hok hA hK
    have base_of : ∀ {b : Addr} {o : Obj}, s₁.heap.get? b = some o → H b = none → (hidT s₁.heap H).get? b = some o := fun e n => hidT_get e n
    have noA : ∀ {b : Addr} {o : Obj} {es : Array DictEntry} {ep : Nat}, s₁.heap.get? b = some o → o.data = .dict es ep → H b = none := fun {b o es ep} e d => by
      cases q : H b with
      | none => rfl
      | some u =>
        have e' : b = a := hA b (by rw [q]; simp)
        subst e'
        rw [ha] at e; cases e
        have d' : Data.seq vs.toArray _ = Data.dict es ep := d
        cases d'
    have nsK : ∀ {b : Addr} {m : Str → Option Value}, s₁.heap.Ns b m → (hidT s₁.heap H).Ns b m := fun {b m} ⟨o, es, ep, e, d, r⟩ => ⟨o, es, ep, base_of e (noA e d), d, r⟩
    have hKb : K.In (hidT s₁.heap H) := fun b o e => base_of (KX b o e) (by
      cases q : H b with
      | none => rfl
      | some u =>
        have e' : b = a := hA b (by rw [q]; simp)
        subst e'
        rw [hK (by rw [q]; simp)] at e; cases e)
    have hM : Mod K mg (hidT s₁.heap H) := ⟨hKb, nsK hns, ⟨mb, nsK hb, hbb⟩, let ⟨mc, h1, h2⟩ := hlim; ⟨mc, nsK h1, h2⟩⟩
    have e0 : Env0 P w K mg (hidT s₁.heap H) callerA [] s₁ H := ⟨rfl, hM, fun b o e => of_hidT e, Nat.le_of_eq (hidT_size _ _), trivial, fun b hb => absurd (show b ∈ ([] : List Addr) from hb) (by simp), hok, .of_eq hg⟩
    refine codeAny_mono ((F _ hKb (nsK hns)).run callerA [] s₁ H ⟨[.ref a], []⟩ [.ref a] [.ref a] _ _ hr e0 (hbind s₁ (.ref a)) (.cons rfl .nil) (hsp H hO hS)) fun r s' h => ?_
    cases r with
    | error e => exact (hCX H e s' h).elim
    | ok fl =>
      cases fl with
      | next => exact False.elim h
      | brk => exact False.elim h
      | cont => exact False.elim h
      | ret u =>
        obtain ⟨v, H', os, bare, un, hok', r', q⟩ := h
        have q' : v = .bl true := q
        subst q'
        obtain rfl : u = Value.bool true := r'
        refine ⟨rfl, OldK.of_keep fun b o e => ?_, os, bare⟩
        cases q : H b with
        | none => exact un.keep b o e q (by intro z; exact absurd (show b ∈ ([] : List Addr) from z) (by simp)) (by simp)
        | some u =>
          rcases hO b with z | ⟨ob, xs, z⟩
          · rw [q] at z; cases z
          · have z2 := un.frzs b ob _ z
            obtain ⟨e1, _⟩ := hok b _ z
            obtain ⟨e2, _⟩ := hok' b _ z2
            rw [e] at e1; cases e1
            exact e2
  cases hk : K.lookup a with
  | some o =>
    have e := KX a o hk
    rw [ha] at e
    cases e
    refine core (fun _ => none) (fun _ => .inl rfl) (.inr ⟨_, vs.toArray, _, hk, rfl, rfl, rfl, by rw [List.size_toArray, lenV]; exact hl, by simpa using rv⟩) (fun b u z => by have z' : (none : Option HO) = some u := z; cases z') (fun b z => absurd rfl z) fun z => absurd rfl z
  | none =>
    refine core (fun b => if b = a then some (.frz { cls := .type "list", data := .seq vs.toArray } (.lst (ns.map V.int))) else none) (fun b => ?_) (.inl (.inr ⟨{ cls := .type "list", data := .seq vs.toArray }, if_pos rfl⟩)) (fun b u z => ?_) (fun b z => ?_) fun _ => hk
    · by_cases hb : b = a
      · exact .inr ⟨_, _, if_pos hb⟩
      · exact .inl (if_neg hb)
    · by_cases hb : b = a
      · have z' := (if_pos hb).symm.trans z
        cases z'
        subst hb
        exact ⟨ha, by rw [List.length_map]; exact hl, vs, _, rv, ha⟩
      · have z' := (if_neg hb).symm.trans z
        cases z'
    · by_cases hb : b = a
      · exact hb
      · exact absurd (if_neg hb) z
end L2
namespace L2
open PySem PySem.Spec PyProof.Rows
theorem walk_of {l : PySem.W.OpenLaw} {n k : Nat} {q : Program} {loose : List Str} {XP : (Str → Option Value) → Heap → Prop} {YP : World → Heap → Prop} {d : DefRec} {K : Params → PySem.W.Frag} {CX : World → CXT} {sp : World → Sp} {x : Str}
    (hn : l.most = some n) (hn2 : n ≤ sizeLine) (hdf : d.params.defaults = []) (hr : Room k callerA)
    (hY : ∀ (w : World) (h : Heap), YP w h → (K w.params).In h)
    (F : ∀ (w : World) (mg : Str → Option Value) (fa : Addr) (h : Heap), (K w.params).In h → h.Ns mainGlobals mg → mg d.name = some (.ref fa) →
      ∃ fd : FuncData, (∀ (s : Shared) (u : Value), BindsTo s fd ⟨[u], []⟩ [(x, u)]) ∧
        ∀ base : Heap, (K w.params).In base → base.Ns mainGlobals mg → FnOk l.prog w (K w.params) mg base (CX w) k fa fd [x] (sp w))
    (hsp : ∀ (w : World) (H : Hp) (a : Addr) (ns : List Int), ns.length ≤ n → Only H → SqL (K w.params) H a (ns.map V.int) → sp w [.ref a] H (fun v _ => v = .bl true) fun _ _ _ => False)
    (hCX : ∀ (w : World) (H : Hp) (s : Shared) (e : Value) (s' : Shared), CX w [] H s (fun _ _ _ => False) e s' → False) :
    PySem.W.WalkO q loose XP YP l.row.toRowW d [] (fun f vs => PySem.call f vs) := by
  refine Att.attach_call hn hdf fun w s₀ s₁ mg mb fa o pm cd doc a vs ns G Y ho hd hcd hmg hobj hints hlen hg => ?_
  have KX := hY w _ Y
  obtain ⟨fd, hb, hF⟩ := F w mg fa _ KX G.T.g hmg
  exact law_call KX G.T.g G.T.b G.T.builtins G.T.nolimit hg hobj hints (Nat.le_trans hlen hn2) hr hF hb (fun H hO hS => hsp w H a ns hlen hO hS) fun H e s' => hCX w H s₁ e s'
end L2
namespace L2
open PySem PySem.Spec PyProof.Rows
def defArgs (s : Stmt) : Arguments := match s with
  | .FunctionDef _ a _ _ _ _ _ _ _ _ => a
  | _ => { posonlyargs := [], args := [], vararg := none, kwonlyargs := [], kw_defaults := [], kwarg := none, defaults := [] }
def defBody (s : Stmt) : List Stmt := match s with
  | .FunctionDef _ _ b _ _ _ _ _ _ _ => b
  | _ => []
def defScope (s : Stmt) : Scope := match s with
  | .FunctionDef _ _ _ _ _ _ sc _ _ _ => sc
  | _ => { kind := .function, names := [], isGenerator := false, isCoroutine := false }
abbrev CX0 : CXT := fun _ _ _ _ _ _ => False
abbrev E0 : XK := fun _ _ _ => False
theorem pass0 {X : Cx} : Passes CX0 X E0 := fun _ _ _ _ _ _ _ h => h.elim
structure Fun (K : PySem.W.Frag) (x qual : Str) (st : Stmt) (f : Addr) (fd : FuncData) : Prop where
  ex : ∃ (oc : Value) (od : Option Addr) (kV doc pm : Value) (an : Option Addr) (cdv ct : Value) (osl : Array (Option Value)),
    fd = PySem.W.fnOf x qual (defArgs st) (defBody st) (defScope st) .none kV doc pm an cdv ct ∧ K.lookup f = some ⟨oc, od, .func fd, osl⟩ ∧ PySem.W.codeIn K cdv qual = true
  kp : PySem.W.keepIn K (.ref f) = true
section
variable {P : Program} {w : World} {K : PySem.W.Frag} {mg : Str → Option Value} {base : Heap}
theorem Fun.ok {x qual : Str} {st : Stmt} {f : Addr} {fd : FuncData} {N ps : List Str} {k : Nat} {sp : Sp} (F : Fun K x qual st f fd) (S : FnScope N ps (defScope st)) (len : ∀ vs H Q E, sp vs H Q E → vs.length = ps.length)
    (hbody : ∀ (cdv : Value) (A : Around) (outer : List Env) (s : Shared) (H : Hp) (vs : List V) (Q : VK) (E : XK), Room k (A.deeper (envOfC qual (defScope st) s.heap.objs.size f cdv)) → sp vs H Q E →
      ∃ t, PSs (cxOf CX0 P w K mg base N qual (defScope st) f cdv A outer s H E).nox (defBody st) t ∧ t { nx := fun _ H' => Q .non H', rt := Q } (start N vs) H) : FnOk P w K mg base CX0 (k + 1) f fd ps sp := by
  obtain ⟨oc, od, kV, doc, pm, an, cdv, ct, osl, rfl, lk, hcd⟩ := F.ex
  refine fn_of lk hcd S len fun A outer s H vs Q E hr hsp => ?_
  obtain ⟨t, h, q⟩ := hbody cdv A outer s H vs Q E hr hsp
  exact ⟨t, h.nox, q⟩
theorem Fun.binds {x qual : Str} {st : Stmt} {f : Addr} {fd : FuncData} {ps : List Str} (F : Fun K x qual st f fd)
    (h : ∀ (kV doc pm : Value) (an : Option Addr) (cdv ct : Value) (us : List Value), us.length = ps.length → bindArgs (PySem.W.fnOf x qual (defArgs st) (defBody st) (defScope st) .none kV doc pm an cdv ct) ⟨us, []⟩ = pure (ps.zip us)) : Binds K fd ps [] := by
  obtain ⟨oc, od, kV, doc, pm, an, cdv, ct, osl, rfl, lk, hcd⟩ := F.ex
  exact .all (h kV doc pm an cdv ct)
theorem fun_mk {x qual : Str} {st : Stmt} {f : Addr} {oc : Value} {od an : Option Addr} {osl : Array (Option Value)} {kV doc pm cdv ct : Value} (l : K.lookup f = some ⟨oc, od, .func (PySem.W.fnOf x qual (defArgs st) (defBody st) (defScope st) .none kV doc pm an cdv ct), osl⟩)
    (c : PySem.W.codeIn K cdv qual = true) (k : PySem.W.keepIn K (.ref f) = true) : Fun K x qual st f (PySem.W.fnOf x qual (defArgs st) (defBody st) (defScope st) .none kV doc pm an cdv ct) := ⟨⟨oc, od, kV, doc, pm, an, cdv, ct, osl, rfl, l, c⟩, k⟩
end
section
variable {X : Cx}
theorem pv (i : Nat) {x : Str} {pos : Pos} (hN : X.N[i]? = some x := by rfl) (hv : Vis X.env.scope x := by first | exact Or.inl rfl | exact Or.inr (Or.inl rfl) | exact Or.inr (Or.inr rfl)) (hd : (x == ("__debug__" : Str)) = false := by decide)
    (hcd : (x == ("__classdict__" : Str)) = false := by decide) : PE X (.Name x pos) (tVar i) := pe_var hN hv hd hcd
end
def Same (H H' : Hp) : Prop := ∀ b o, H b = some o → H' b = some o
theorem Same.seq {K : PySem.W.Frag} {H H' : Hp} {a : Addr} {xs : List V} (e : Same H H') (h : SqL K H a xs) : SqL K H' a xs := by
  rcases h with (h | ⟨o, h⟩) | h
  · exact .inl (.inl (e _ _ h))
  · exact .inl (.inr ⟨o, e _ _ h⟩)
  · exact .inr h
end L2
set_option maxHeartbeats 4000000
namespace L2
open PySem PySem.Spec PyProof.Rows
def closL (env : Env) (l : List (Str × NameKind)) (cs : List (Str × Addr)) : List (Str × Addr) :=
  l.foldl (fun c y => if y.2 == .free then (y.1, (env.cells.lookup y.1).getD 0) :: c else c) cs
theorem forIn_yields {α β : Type} {l : List α} {f : α → β → Sem (ForInStep β)} {g : β → α → β} : ∀ (c : β), (∀ x ∈ l, ∀ c, f x c = pure (.yield (g c x))) →
    forIn l c f = pure (l.foldl g c) := by
  induction l with
  | nil => intro c _; rfl
  | cons x l ih =>
    intro c h
    rw [List.forIn_cons, h x List.mem_cons_self, pure_bind]
    exact ih _ fun y hy => h y (List.mem_cons_of_mem _ hy)
theorem closureFor_of {scope : Scope} {env : Env} (h : ∀ y ∈ scope.names, y.2 = .free → ∃ c, env.cells.lookup y.1 = some c) : closureFor scope env = pure (closL env scope.names []) := by
  unfold closureFor closL
  dsimp only
  rw [forIn_yields (g := fun c y => if y.2 == .free then (y.1, (env.cells.lookup y.1).getD 0) :: c else c) [] ?_]
  · rfl
  · intro y hy c
    obtain ⟨n, k⟩ := y
    by_cases hk : k = .free
    · subst hk
      obtain ⟨a, ha⟩ := h _ hy rfl
      have ha' : env.cells.lookup n = some a := ha
      simp [cellOf, ha']
    · have e : (k == NameKind.free) = false := by simpa using hk
      simp [e]
theorem closL_sound {env : Env} : ∀ (l : List (Str × NameKind)) (cs : List (Str × Addr)), (∀ y ∈ l, y.2 = .free → ∃ c, env.cells.lookup y.1 = some c) → (∀ p ∈ cs, env.cells.lookup p.1 = some p.2) →
    ∀ p ∈ closL env l cs, env.cells.lookup p.1 = some p.2
  | [], _, _, h => h
  | (n, k) :: l, cs, hl, h => by
    refine closL_sound l _ (fun y hy => hl y (List.mem_cons_of_mem _ hy)) fun p hp => ?_
    by_cases hk : k = .free
    · subst hk
      obtain ⟨c, hc⟩ := hl _ List.mem_cons_self rfl
      have hc' : env.cells.lookup n = some c := hc
      have hp' : p ∈ (n, (env.cells.lookup n).getD 0) :: cs := hp
      rcases List.mem_cons.mp hp' with rfl | hp
      · show env.cells.lookup n = some ((env.cells.lookup n).getD 0)
        rw [hc']; rfl
      · exact h p hp
    · have hp' : p ∈ (if (k == NameKind.free) = true then (n, (env.cells.lookup n).getD 0) :: cs else cs) := hp
      rw [if_neg (by simpa using hk)] at hp'
      exact h p hp'
theorem closL_mono {env : Env} : ∀ (l : List (Str × NameKind)) (cs : List (Str × Addr)) (p : Str × Addr), p ∈ cs → p ∈ closL env l cs
  | [], _, _, h => h
  | (n, k) :: l, cs, p, h => by
    refine closL_mono l _ p ?_
    show p ∈ (if (k == .free) = true then (n, (env.cells.lookup n).getD 0) :: cs else cs)
    split
    · exact List.mem_cons_of_mem _ h
    · exact h
theorem closL_there {env : Env} : ∀ (l : List (Str × NameKind)) (cs : List (Str × Addr)) (n : Str), (n, NameKind.free) ∈ l → ∃ c, (n, c) ∈ closL env l cs
  | [], _, _, h => nomatch h
  | (m, k) :: l, cs, n, h => by
    rcases List.mem_cons.mp h with e | h
    · have e1 : n = m := congrArg Prod.fst e
      have e2 : NameKind.free = k := congrArg Prod.snd e
      subst e1 e2
      exact ⟨(env.cells.lookup n).getD 0, closL_mono l _ _ List.mem_cons_self⟩
    · exact closL_there l _ n h
theorem lookup_of_mem {β : Type} : ∀ {l : List (Str × β)} {n : Str}, (∃ c, (n, c) ∈ l) → ∃ c, l.lookup n = some c
  | [], _, h => let ⟨_, z⟩ := h; nomatch z
  | (m, b) :: l, n, h => by
    by_cases e : n = m
    · subst e
      exact ⟨b, by simp [List.lookup_cons]⟩
    · obtain ⟨c, hc⟩ := h
      rcases List.mem_cons.mp hc with z | z
      · cases z; exact absurd rfl e
      · obtain ⟨c', h'⟩ := lookup_of_mem ⟨c, z⟩
        refine ⟨c', ?_⟩
        have e' : (n == m) = false := by simpa using e
        simp [List.lookup_cons, e', h']
def relS (scope osc : Scope) : List (Str × NameKind) := scope.names.map fun (n, k) => if (k == .free && osc.kind == .function && osc.names.lookup n == some .cell) then (n, .cell) else (n, k)
def compB (osc : Scope) (N : List Str) (sc : Scope) (idx : List Nat) : Bool :=
  decide (sc.kind = .function) && sc.names.all (fun y => decide (y.2 ≠ .cell)) && sc.names.all (fun y => decide (y.2 ≠ .local) || decide (sc.names.lookup y.1 = some .local)) &&
  sc.names.all (fun y => decide (y.2 ≠ .free) || decide (osc.names.lookup y.1 = some .cell) || decide (osc.names.lookup y.1 = some .free)) &&
  idx.all (fun i => match N[i]? with
    | some y => (decide (osc.names.lookup y = some .cell) || decide (osc.names.lookup y = some .free)) && (decide ((relS sc osc).lookup y = some .cell) || decide ((relS sc osc).lookup y = some .free))
    | none => false)
def caps (σ : St) (idx : List Nat) : St := idx.map fun i => (σ[i]?).join
theorem caps_length (σ : St) (idx : List Nat) : (caps σ idx).length = idx.length := by unfold caps; rw [List.length_map]
def cxComp (X : Cx) (sc : Scope) (T : List Str) (idx : List Nat) (C : Addr) (s₂ : Shared) (H1 : Hp) (fp : List Addr) : Cx where
  prog := X.prog
  w := X.w
  K := X.K
  mg := X.mg
  base := X.base
  A := X.A
  N := T ++ idx.map fun i => (X.N[i]?).getD Str.empty
  s₀ := s₂
  H₀ := H1
  env := compEnvC sc (closL X.env sc.names []) C X.env
  outer := X.stack
  stack := X.stack
  ex := fp
  fn := fun _ => false
  calm := X.calm
  pn := []
  xe := fun _ _ => False
def tComp (wi : TI) (g : TG) (tc : Addr → Shared → Hp → List Addr → TT) (te : Addr → Shared → Hp → List Addr → TE) (nt : Nat) (idx : List Nat) : TE := fun σ H Q => wi σ H fun J H1 => ∃ W : Nat → Nat → List V → Hp → Prop, (∃ m, W 0 m [] H1) ∧ ∀ i m ys H2, W i m ys H2 → ys.length ≤ sizeLine ∧
  ((J.stop i H2 ∧ ∀ D, H2 D = none → Q (.ref D) (upd H2 D (.lst ys))) ∨
   (J.go i H2 ∧ ys.length < sizeLine ∧ ∀ x H3, J.yld i H2 x H3 → ∀ τ : St, τ.length = nt → g x (τ ++ caps σ idx) H3 fun σ4 H4 => (∃ τ', σ4 = τ' ++ caps σ idx ∧ τ'.length = nt) ∧
     ∀ C s₂ fp, tc C s₂ H1 fp σ4 H4 fun b H5 => if b = true then te C s₂ H1 fp σ4 H5 fun y H6 => ∃ m', m' < m ∧ W (i + 1) m' (ys ++ [y]) H6 else ∃ m', m' < m ∧ W (i + 1) m' ys H5))
section
variable {prog : Program} {w : World} {A : Around} {R : Result → Shared → Prop} {s : Shared}
theorem compLoop_gen {elt target iter : Expr} {ifs : List Expr} {scope : Scope} {pos : Pos} {it acc : Value} {env : Env} (I : Nat → Shared → Prop)
    (turn : ∀ n s, I n s → wpAny (model prog w) A (pyNext it) (fun r s₁ => match r with
      | none => R (.ok .next) s₁
      | some v => wpAny (model prog w) A (letOwnedTupleGo target it v) (fun _ s₁' => wpAny (model prog w) A (assign target env v) (fun _ s₂ =>
          wpAny (model prog w) A (forIn ifs true fun c r => if r = true then do let ok ← isTrue c env (eval c env); pure (ForInStep.yield ok) else pure (ForInStep.yield r)) (fun ok s₃ =>
            if ok = true then wpAny (model prog w) A (eval elt env) (fun x s₄ =>
              wpAny (model prog w) A (call (.builtin "list.append") [acc, x]) (fun _ s₅ => ∃ m, m < n ∧ I m s₅) (fun _ _ => False) s₄) (fun _ _ => False) s₃
            else ∃ m, m < n ∧ I m s₃) (fun _ _ => False) s₂) (fun _ _ => False) s₁') (fun _ _ => False) s₁) (fun _ _ => False) s)
    (n : Nat) (h : I n s) : codeAny (model prog w) A (.compLoop (.ListComp elt [⟨target, iter, ifs, 0⟩] scope pos) 0 it acc env) R s := by
  refine codeAny_loop rfl I (fun n s hI => ?_) n h
  show wpAny _ A ((compTurn (.ListComp elt [⟨target, iter, ifs, 0⟩] scope pos) 0 it acc env).onRaise (fun x => do noteFrame x env; theTreesLotGoes x)) _ _ s
  refine wpAny_noted ?_
  rw [compTurn_list]
  have no : ∀ {E' : Value → Shared → Prop} (v : Value) (s' : Shared), False → E' v s' := fun _ _ z => z.elim
  refine wpAny_bind (wpAny_standAt (wpAny_bind (wpAny_mono (turn n s hI) (fun r s₁ h₁ => ?_) (no))))
  cases r with
  | none => exact wpAny_pure h₁
  | some v =>
    refine wpAny_bind (wpAny_mono h₁ (fun _ s₁' h₁' => wpAny_bind (wpAny_mono h₁' (fun _ s₂ h₂ => wpAny_bind (wpAny_mono h₂ (fun ok s₃ h₃ => ?_) no)) no)) no)
    cases ok with
    | false => exact wpAny_pure ⟨rfl, h₃⟩
    | true =>
      exact wpAny_bind (wpAny_bind (wpAny_mono h₃ (fun x s₄ h₄ => wpAny_bind (wpAny_mono h₄ (fun _ s₅ h₅ => wpAny_pure (wpAny_pure ⟨rfl, h₅⟩)) no)) no))
end
def PIfs (X : Cx) (ifs : List Expr) (t : TT) : Prop :=
  ∀ (pins : List (Addr × Obj)) (s : Shared) (σ : St) (H : Hp) (Q : Bool → Hp → Prop), Inv X pins σ H s → t σ H Q →
    wpAny (model X.prog X.w) X.A (forIn ifs true fun c r => if r = true then do let ok ← isTrue c X.env (eval c X.env); pure (ForInStep.yield ok) else pure (ForInStep.yield r)) (TP X pins σ Q) X.xe s
def tNoIf : TT := fun _ H Q => Q true H
theorem pifs_nil {X : Cx} : PIfs X [] tNoIf := fun _ _ _ H _ I h => wpAny_tests_nil ⟨H, I, h⟩
theorem pifs_one {X : Cx} {c : Expr} {t : TT} (h : PT X c t) : PIfs X [c] t := fun pins s σ H Q I q => wpAny_tests_one (h pins s σ H Q I q)
end L2
namespace L2
open PySem PySem.Spec PyProof.Rows
structure CompF (osc : Scope) (N : List Str) (sc : Scope) (idx : List Nat) : Prop where
  kind : sc.kind = .function
  nocell : ∀ y ∈ sc.names, y.2 ≠ .cell
  locs : ∀ y ∈ sc.names, y.2 = .local → sc.names.lookup y.1 = some .local
  frees : ∀ y ∈ sc.names, y.2 = .free → osc.names.lookup y.1 = some .cell ∨ osc.names.lookup y.1 = some .free
  cap : ∀ i ∈ idx, ∃ y, N[i]? = some y ∧ (osc.names.lookup y = some .cell ∨ osc.names.lookup y = some .free) ∧ ((relS sc osc).lookup y = some .cell ∨ (relS sc osc).lookup y = some .free)
theorem compB_f {osc : Scope} {N : List Str} {sc : Scope} {idx : List Nat} (h : compB osc N sc idx = true) : CompF osc N sc idx := by
  unfold compB at h
  simp only [Bool.and_eq_true, List.all_eq_true, decide_eq_true_eq, Bool.or_eq_true] at h
  obtain ⟨⟨⟨⟨h1, h2⟩, h3⟩, h4⟩, h5⟩ := h
  refine ⟨h1, fun y hy => h2 y hy, fun y hy e => ?_, fun y hy e => ?_, fun i hi => ?_⟩
  · rcases h3 y hy with z | z
    · exact absurd e z
    · exact z
  · rcases h4 y hy with (z | z) | z
    · exact absurd e z
    · exact .inl z
    · exact .inr z
  · have q := h5 i hi
    cases e : N[i]? with
    | none => rw [e] at q; cases q
    | some y =>
      rw [e] at q
      simp only [Bool.and_eq_true, decide_eq_true_eq, Bool.or_eq_true] at q
      exact ⟨y, rfl, q.1, q.2⟩
theorem relS_free {sc osc : Scope} {x : Str} (hno : ∀ y ∈ sc.names, y.2 ≠ .cell) (h : (relS sc osc).lookup x = some .cell ∨ (relS sc osc).lookup x = some .free) : (x, NameKind.free) ∈ sc.names := by
  have key : ∀ k', (k' = .cell ∨ k' = .free) → (x, k') ∈ relS sc osc → (x, NameKind.free) ∈ sc.names := by
    intro k' hk' hm
    unfold relS at hm
    obtain ⟨⟨n, k⟩, hy, e⟩ := List.mem_map.mp hm
    dsimp only at e
    split at e
    · rename_i hc
      cases e
      rw [Bool.and_eq_true, Bool.and_eq_true] at hc
      have : k = .free := by simpa using hc.1.1
      subst this
      exact hy
    · cases e
      rcases hk' with rfl | rfl
      · exact absurd rfl (hno _ hy)
      · exact hy
  rcases h with h | h
  · exact key _ (.inl rfl) (PySem.mem_of_lookup h)
  · exact key _ (.inr rfl) (PySem.mem_of_lookup h)
section
variable {X : Cx} {pins : List (Addr × Obj)} {σ : St} {H1 : Hp} {s₂ : Shared} {sc : Scope} {T : List Str} {idx : List Nat} {C : Addr} {fp : List Addr}
theorem clos_has (I : Inv X pins σ H1 s₂) (F : CompF X.env.scope X.N sc idx) : ∀ y ∈ sc.names, y.2 = .free → ∃ c, X.env.cells.lookup y.1 = some c :=
  fun y hy e => I.ok.has y.1 (F.frees y hy e)
theorem clos_look (I : Inv X pins σ H1 s₂) (F : CompF X.env.scope X.N sc idx) {x : Str} {c : Addr} (e : (closL X.env sc.names []).lookup x = some c) : X.env.cells.lookup x = some c :=
  closL_sound sc.names [] (clos_has I F) (fun _ z => nomatch z) (x, c) (PySem.mem_of_lookup e)
theorem clos_of (I : Inv X pins σ H1 s₂) (F : CompF X.env.scope X.N sc idx) {x : Str} {c : Addr} (hx : (x, NameKind.free) ∈ sc.names) (e : X.env.cells.lookup x = some c) : (closL X.env sc.names []).lookup x = some c := by
  obtain ⟨c', h'⟩ := lookup_of_mem (closL_there (env := X.env) sc.names [] x hx)
  rw [h']
  rw [clos_look I F h'] at e
  exact e
theorem cxComp_ok (I : Inv X pins σ H1 s₂) (F : CompF X.env.scope X.N sc idx) (hC : s₂.heap.objs.size ≤ C) (hfp : ∀ b ∈ fp, FpOk X pins H1 b) (hlt : ∀ b ∈ fp, b < s₂.heap.objs.size) : (cxComp X sc T idx C s₂ H1 fp).Ok where
  mod := I.ok.mod
  kind := F.kind
  glob := I.ok.glob
  blt := I.ok.blt
  above := hC
  inj := fun x y c h1 h2 => I.ok.inj x y c (clos_look I F h1) (clos_look I F h2)
  has := fun x hx => by
    have hx' : (relS sc X.env.scope).lookup x = some .cell ∨ (relS sc X.env.scope).lookup x = some .free := hx
    exact lookup_of_mem (closL_there sc.names [] x (relS_free F.nocell hx'))
  cab := fun x c h _ => nomatch h
  hd := I.ok.hd
  frames := I.ok.frames
  stk := .inl rfl
  exf := fun b hb => ⟨Nat.ne_of_lt (Nat.lt_of_lt_of_le (hlt b hb) hC), fun x c e => (hfp b hb).2.2.2.2.1 x c (clos_look I F e)⟩
  bs := I.bs
  bsz := Nat.le_trans I.ok.bsz I.sz
  noex := fun b o e hb => by
    rcases (hfp b hb).2.2.2.1 with z | z
    · exact I.ok.noex b o e z
    · exact absurd (Nat.lt_of_lt_of_le (Heap.lt_size e) (Nat.le_trans I.ok.bsz z)) (Nat.lt_irrefl _)
  exfs := fun b hb z => by
    rcases List.mem_cons.mp (I.stkSub b z) with e | e
    · exact (hfp b hb).2.1 e
    · exact (hfp b hb).2.2.1 e
  funs := I.stack
  frf := I.stkFree
theorem cxComp_inv {s₄ : Shared} {m : Str → Option Value} (I : Inv X pins σ H1 s₂) (F : CompF X.env.scope X.N sc idx) (hC : s₂.heap.objs.size ≤ C) (hfp : ∀ b ∈ fp, FpOk X pins H1 b) (hlt : ∀ b ∈ fp, b < s₂.heap.objs.size)
    (kp : ∀ b o, s₂.heap.get? b = some o → s₄.heap.get? b = some o) (ho : s₄.os = s₂.os) (hg : s₄.gens = s₂.gens) (hn : s₄.heap.Ns C m) :
    Inv (cxComp X sc T idx C s₂ H1 fp) [] (T.map (fun _ => none) ++ caps σ idx) H1 s₄ := by
  have cellK : ∀ c v, s₂.heap.IsCell c v → s₄.heap.IsCell c v := fun c v ⟨o, h1, h2⟩ => ⟨o, kp c o h1, h2⟩
  refine ⟨cxComp_ok I F hC hfp hlt, ho, by rw [hg]; exact I.bare, Un.kept kp, ⟨m, hn, fun i x v e1 e2 e3 => ?_⟩, fun x c e => ?_, I.hok.fresh hC, fun x c e => I.freeC x c (clos_look I F e), fun p hp => absurd (show p ∈ ([] : List (Addr × Obj)) from hp) (by simp), I.hok.kept kp, ?_⟩
  · have e1' : (T ++ idx.map fun i => (X.N[i]?).getD Str.empty)[i]? = some x := e1
    by_cases hi : i < T.length
    · rw [List.getElem?_append_left (by simpa using hi), List.getElem?_map] at e2
      cases z : T[i]? with
      | none => rw [z] at e2; cases e2
      | some y => rw [z] at e2; cases e2
    · rw [List.getElem?_append_right (by simpa using hi)] at e2
      rw [List.getElem?_append_right (by omega)] at e1'
      rw [List.length_map] at e2
      unfold caps at e2
      rw [List.getElem?_map] at e1' e2
      cases z : idx[i - T.length]? with
      | none => rw [z] at e2; cases e2
      | some j =>
        rw [z] at e1' e2
        have hj : j ∈ idx := List.mem_of_getElem? z
        obtain ⟨y, hy, k1, k2⟩ := F.cap j hj
        have ex : y = x := by
          have q : (X.N[j]?).getD Str.empty = x := Option.some.inj e1'
          rw [hy] at q; exact q
        subst ex
        have ev : σ[j]? = some (some v) := by
          have q : (σ[j]?).join = some v := Option.some.inj e2
          cases w' : σ[j]? with
          | none => rw [w'] at q; cases q
          | some a => rw [w'] at q; have q' : a = some v := q; rw [q']
        obtain ⟨m0, hn0, hl0⟩ := I.loc
        have vis : Vis X.env.scope y := k1.elim (fun z => .inr (.inl z)) fun z => .inr (.inr z)
        obtain ⟨u, r, l⟩ := hl0 j y v hy ev vis
        refine ⟨u, r, ?_⟩
        rcases l with ⟨kl, _⟩ | ⟨_, c, hc, q⟩
        · have kl' : X.env.scope.names.lookup y = some .local := kl
          rcases k1 with z | z <;> rw [z] at kl' <;> cases kl'
        · exact .inr ⟨k2, c, clos_of I F (relS_free F.nocell k2) hc, cellK c _ q⟩
  · obtain ⟨v, q⟩ := I.cell x c (clos_look I F e)
    exact ⟨v, cellK c v q⟩
  · show (T.map (fun _ => (none : Option V)) ++ caps σ idx).length = (T ++ idx.map fun i => (X.N[i]?).getD Str.empty).length
    rw [List.length_append, List.length_append, List.length_map, List.length_map, caps_length]
theorem cxComp_end {σ1 : St} {H' : Hp} {s' : Shared} {h' : Heap} {D : Addr} {ys : List V} {its : List Value} {n : Nat} (I : Inv X pins σ H1 s₂) (hC : s₂.heap.objs.size ≤ C) (hfp : ∀ b ∈ fp, FpOk X pins H1 b)
    (J : Inv (cxComp X sc T idx C s₂ H1 fp) [] σ1 H' s') (hs : Heap.SameBut C s'.heap h') (hD : s₂.heap.objs.size ≤ D) (hDC : D ≠ C) (eD : s'.heap.get? D = some { cls := .type "list", data := .seq its.toArray n }) (nD : H' D = none) (r : Vals ys its) (hz : ys.length ≤ sizeLine) :
    Inv X pins σ (upd H' D (.lst ys)) { s' with heap := h' } := by
  have old : ∀ b o, s₂.heap.get? b = some o → b ≠ C ∧ b ≠ D := fun b o e => ⟨Nat.ne_of_lt (Nat.lt_of_lt_of_le (Heap.lt_size e) hC), Nat.ne_of_lt (Nat.lt_of_lt_of_le (Heap.lt_size e) hD)⟩
  have oldH : ∀ b u, H1 b = some u → b ≠ D := fun b u e => Nat.ne_of_lt (Nat.lt_of_lt_of_le (I.hok.lt e) hD)
  have nC : H' C = none := J.free
  have B : Un (frs X.stack) fp H1 H' s₂.heap s'.heap := J.base
  have mv : ∀ b o, b ≠ C → s'.heap.get? b = some o → h'.get? b = some o := fun b o hb e => (hs.2 b hb).trans e
  refine I.call' (s' := { s' with heap := h' }) (ch := fp) J.os ⟨fun b o e q hb hx => ?_, fun b o e q hb hx => ?_, fun b o e q hx => ?_, fun b o e hx => ?_, fun b xs e => ?_, fun b o u e => ?_, fun b ps e => ?_⟩ ?_ J.bare fun b hb => ⟨(hfp b hb).2.2.2.1, (hfp b hb).2.1, (hfp b hb).2.2.2.2.1, (hfp b hb).2.2.2.2.2⟩
  · exact mv b o (old b o e).1 (B.keep b o e q hb hx)
  · obtain ⟨sl, z⟩ := B.slot b o e q hb hx
    exact ⟨sl, mv b _ (old b o e).1 z⟩
  · rw [upd_ne (old b o e).2]; exact B.free b o e q hx
  · obtain ⟨o', z⟩ := B.there b o e hx
    exact ⟨o', mv b o' (old b o e).1 z⟩
  · rw [upd_ne (oldH b _ e)]; exact B.tups b xs e
  · rw [upd_ne (oldH b _ e)]; exact B.frzs b o u e
  · obtain ⟨more, z⟩ := B.tbls b ps e
    exact ⟨more, by rw [upd_ne (oldH b _ e)]; exact z⟩
  · intro b u e
    by_cases hb : b = D
    · subst hb
      rw [upd_same] at e; cases e
      exact ⟨hz, its, n, r, mv b _ hDC eD⟩
    · rw [upd_ne hb] at e
      refine (J.hok b u e).stay (fun c v hc q => mv c v ?_ q) (fun c q => by rw [upd_ne (ne_of_none q nD)]; exact q) fun c xs q => by rw [upd_ne (ne_of_none q nD)]; exact q
      rcases hc with z | z
      · rw [z]; exact ne_of_none e nC
      · exact ne_of_none z nC
end
end L2
namespace L2
open PySem PySem.Spec PyProof.Rows
section
variable {X : Cx}
theorem pe_comp {elt tg iter : Expr} {ifs : List Expr} {pos : Pos} {sc : Scope} {wi : TI} {g : TG} {tc : Addr → Shared → Hp → List Addr → TT} {te : Addr → Shared → Hp → List Addr → TE} (T : List Str) (idx : List Nat)
    (hi : PI X tg iter wi) (hcalm : X.calm = true) (hB : compB X.env.scope X.N sc idx = true)
    (hg : ∀ C s₂ H1 fp, PG (cxComp X sc T idx C s₂ H1 fp) tg g)
    (hc : ∀ C s₂ H1 fp, PIfs (cxComp X sc T idx C s₂ H1 fp) ifs (tc C s₂ H1 fp))
    (he : ∀ C s₂ H1 fp, PE (cxComp X sc T idx C s₂ H1 fp) elt (te C s₂ H1 fp))
    (hs : ∀ x, foldedSetIterable iter X.env x = pure x := by intro _; rfl) :
    PE X (.ListComp elt [⟨tg, iter, ifs, 0⟩] sc pos) (tComp wi g tc te T.length idx) := by
  intro pins s σ H Q I h
  rw [eval_ListComp]
  have cf := compB_f hB
  refine wpAny_comprehension_free (use := none) (cl := closL X.env sc.names []) rfl hs (closureFor_of (clos_has I cf)) cf.kind cf.locs ?_
  refine thn (hi pins s σ H _ I h) fun v s1 h1 => thn h1 fun itv s2 h2 => ?_
  obtain ⟨it, fp, tn, J, H2, e, I2, Tn, st2, f2, W, ⟨m0, w0⟩, turn⟩ := h2
  subst e
  have hlt : ∀ b ∈ fp, b < s2.heap.objs.size := fun b hb => let ⟨o, e, _⟩ := Tn.obj _ _ st2 b hb; Heap.lt_size e
  refine wpAny_newObj_type (wpAny_newFunctionEnv cf.nocell (by intro y hy; simp at hy) (fun h₁ hns₁ hsb₁ => ?_) cf.kind)
  dsimp only at hns₁ hsb₁ ⊢
  generalize hH2 : s2.heap.push { cls := .type "list", dict := none, data := .seq ([] : List Value).toArray } = HH at hns₁ hsb₁ ⊢
  have hC : HH.objs.size = s2.heap.objs.size + 1 := by rw [← hH2, Heap.size_push]
  have hDC : s2.heap.objs.size ≠ HH.objs.size := by rw [hC]; exact Nat.ne_of_lt (Nat.lt_succ_self _)
  have hCle : s2.heap.objs.size ≤ HH.objs.size := by rw [hC]; exact Nat.le_succ _
  have old : ∀ b o, s2.heap.get? b = some o → h₁.get? b = some o := fun b o e => hsb₁.extBut b o (by rw [hC]; exact Nat.ne_of_lt (Nat.lt_succ_of_lt (Heap.lt_size e))) (Heap.get?_push_of_some _ (hH2 ▸ Heap.get?_push_of_some _ e))
  have eD0 : h₁.get? s2.heap.objs.size = some { cls := .type "list", data := .seq ([] : List Value).toArray 0 } := hsb₁.extBut _ _ hDC (Heap.get?_push_of_some _ (hH2 ▸ Heap.get?_push_size _ rfl))
  have nD0 : H2 s2.heap.objs.size = none := I2.hok.fresh (Nat.le_refl _)
  have cD : ∀ x c, (closL X.env sc.names []).lookup x = some c → c ≠ s2.heap.objs.size := fun x c e => by
    obtain ⟨v, q⟩ := I2.cell x c (clos_look I2 cf e)
    exact Nat.ne_of_lt q.lt
  have loop : ∀ s4 : Shared, s4 = { s2 with heap := h₁, toks := s2.toks + ([] : List (Str × Value)).length } →
      codeAny (model X.prog X.w) X.A (.compLoop (.ListComp elt [⟨tg, iter, ifs, 0⟩] sc pos) 0 (.ref it) (.ref s2.heap.objs.size) (compEnvC sc (closL X.env sc.names []) HH.objs.size X.env))
        (compPost (model X.prog X.w) X.A X.xe none (EP X pins σ Q) (.ref s2.heap.objs.size) HH.objs.size) s4 := by
    rintro s4 rfl
    have J0 : Inv (cxComp X sc T idx HH.objs.size s2 H2 fp) [] (T.map (fun _ => none) ++ caps σ idx) H2 { s2 with heap := h₁, toks := s2.toks + ([] : List (Str × Value)).length } :=
      cxComp_inv I2 cf hCle f2 hlt old rfl rfl hns₁
    refine compLoop_gen (fun k s' => ∃ (i : Nat) (ys : List V) (its : List Value) (n : Nat) (H' : Hp) (τ : St), Inv (cxComp X sc T idx HH.objs.size s2 H2 fp) [] (τ ++ caps σ idx) H' s' ∧ τ.length = T.length ∧ tn i s'.heap ∧ (∀ b ∈ fp, H' b = none) ∧
      s'.heap.get? s2.heap.objs.size = some { cls := .type "list", data := .seq its.toArray n } ∧ H' s2.heap.objs.size = none ∧ Vals ys its ∧ W i k ys H') ?_ m0
      ⟨0, [], [], 0, H2, T.map (fun _ => none), J0, by rw [List.length_map], Tn.keep _ _ _ st2 fun b _ o e => old b o e, fun b hb => (f2 b hb).1, eD0, nD0, .nil, w0⟩
    rintro k s3 ⟨i, ys, its, n, H3, τ, I3, hτ, st3, fr3, eD3, nD3, r3, w3⟩
    obtain ⟨hz, alt⟩ := turn i k ys H3 w3
    have hDfs : s2.heap.objs.size ∉ (cxComp X sc T idx HH.objs.size s2 H2 fp).fs := fun z => by
      obtain ⟨_, o, ho, _⟩ := I2.stack.mem (show s2.heap.objs.size ∈ frs X.stack from z)
      exact absurd (Heap.lt_size ho) (Nat.lt_irrefl _)
    have pinD : ∀ {H' : Hp} {s' : Shared}, s'.heap.get? s2.heap.objs.size = some { cls := .type "list", data := .seq its.toArray n } → H' s2.heap.objs.size = none →
        ∀ p ∈ [(s2.heap.objs.size, ({ cls := .type "list", data := .seq its.toArray n } : Obj))], s'.heap.get? p.1 = some p.2 ∧ H' p.1 = none ∧ p.1 ≠ (cxComp X sc T idx HH.objs.size s2 H2 fp).env.locals ∧ p.1 ∉ (cxComp X sc T idx HH.objs.size s2 H2 fp).fs ∧ ∀ v, p.2.data ≠ .cell v :=
      fun {H' s'} e1 e2 p hp => by
        have ep : p = (s2.heap.objs.size, { cls := .type "list", data := .seq its.toArray n }) := by simpa using hp
        subst ep
        exact ⟨e1, e2, hDC, hDfs, fun v z => by cases z⟩
    have P3 : Inv (cxComp X sc T idx HH.objs.size s2 H2 fp) [(s2.heap.objs.size, { cls := .type "list", data := .seq its.toArray n })] (τ ++ caps σ idx) H3 s3 := I3.pins_of (pinD eD3 nD3)
    have stat : ∀ {H' : Hp}, (∀ b ∈ fp, H' b = none) → ∀ b ∈ fp, FpOk (cxComp X sc T idx HH.objs.size s2 H2 fp) [(s2.heap.objs.size, { cls := .type "list", data := .seq its.toArray n })] H' b := fun {H'} hn b hb => by
      have hb2 := hlt b hb
      refine ⟨hn b hb, Nat.ne_of_lt (Nat.lt_of_lt_of_le hb2 hCle), I3.ok.exfs b hb, .inl hb, fun x c e => (f2 b hb).2.2.2.2.1 x c (clos_look I2 cf e), fun p hp => ?_⟩
      have ep : p = (s2.heap.objs.size, ({ cls := .type "list", data := .seq its.toArray n } : Obj)) := by simpa [cxComp] using hp
      subst ep
      exact Nat.ne_of_gt hb2
    rcases alt with ⟨stop, q⟩ | ⟨go, hl2, step⟩
    · refine thn (Tn.done (cxComp X sc T idx HH.objs.size s2 H2 fp) rfl rfl rfl hcalm i _ s3 _ H3 (fun _ _ => False) P3 (stat fr3) st3 stop) fun r s4 ⟨hr, I4⟩ => ?_
      subst hr
      obtain ⟨m, hn, _⟩ := id I4.loc
      refine ⟨m, hn, fun h' hs' => ?_⟩
      have eD4 := (I4.pin (s2.heap.objs.size, { cls := .type "list", data := .seq its.toArray n }) (by simp)).1
      exact ⟨.ref s2.heap.objs.size, _, cxComp_end I2 hCle f2 (I4.pins_of (fun p hp => nomatch hp)) hs' (Nat.le_refl _) hDC eD4 nD3 r3 hz, rfl, q _ nD3⟩
    · refine thn (Tn.item (cxComp X sc T idx HH.objs.size s2 H2 fp) rfl rfl rfl hcalm i _ s3 _ H3 (fun _ _ => False) P3 (stat fr3) st3 go) fun r s4 ⟨u, hr, h4⟩ => ?_
      subst hr
      refine thn h4 fun _ s5 ⟨x, H5, I5, r5, y5, st5, fr5⟩ => ?_
      have I5' := I5.pinned (stat fr5) (Tn.obj _ _ st5)
      refine thn (hg HH.objs.size s2 H2 fp _ s5 _ H5 x u _ I5' r5 (step x H5 y5 τ hτ)) fun _ s6 ⟨σ6, H6, I6, ⟨τ', e6, l6⟩, q6⟩ => ?_
      subst e6
      refine thn (hc HH.objs.size s2 H2 fp _ s6 _ H6 _ I6 (q6 HH.objs.size s2 fp)) fun ok s7 ⟨H7, I7, q7⟩ => ?_
      have mD : (s2.heap.objs.size, ({ cls := .type "list", data := .seq its.toArray n } : Obj)) ∈ (cxComp X sc T idx HH.objs.size s2 H2 fp).pn ++ ([(s2.heap.objs.size, { cls := .type "list", data := .seq its.toArray n })] ++ pinsAt fp s5.heap) :=
        List.mem_append_right _ (List.mem_append_left _ (by simp))
      have mF : ∀ b ∈ fp, ∀ o, s5.heap.get? b = some o → (b, o) ∈ (cxComp X sc T idx HH.objs.size s2 H2 fp).pn ++ ([(s2.heap.objs.size, { cls := .type "list", data := .seq its.toArray n })] ++ pinsAt fp s5.heap) := fun b hb o e =>
        List.mem_append_right _ (List.mem_append_right _ (mem_pinsAt hb e))
      cases ok with
      | false =>
        rw [if_neg Bool.false_ne_true] at q7 ⊢
        obtain ⟨m', hm', w7⟩ := q7
        refine ⟨m', hm', i + 1, ys, its, n, H7, τ', I7.pins_of (fun p hp => nomatch hp), l6, Tn.keep _ _ _ st5 fun b hb o e => (I7.pin _ (mF b hb o e)).1, fun b hb => ?_, (I7.pin _ mD).1, (I7.pin _ mD).2.1, r3, w7⟩
        obtain ⟨o, e, d⟩ := Tn.obj _ _ st5 b hb
        exact (I7.pin _ (mF b hb o e)).2.1
      | true =>
        rw [if_pos rfl] at q7 ⊢
        refine thn (he HH.objs.size s2 H2 fp _ s7 _ H7 _ I7 q7) fun y s8 ⟨yv, H8, I8, r8, m', hm', w8⟩ => ?_
        have eD8 := (I8.pin _ mD).1
        have nD8 := (I8.pin _ mD).2.1
        have hl := r3.length
        have q := PySem.IsL.update eD8 (fun z => z.push y)
        rw [show its.toArray.push y = (its ++ [y]).toArray by simp] at q
        refine call_meets PySem.F.slot_list_append ⟨_, eD8, rfl⟩ PySem.F.entry_list_append (PySem.F.args_list_append_2 _ _) (PySem.list_append s2.heap.objs.size its.toArray n y (by rw [List.size_toArray]; omega)) ⟨eD8, ?_⟩
        have I9 : Inv (cxComp X sc T idx HH.objs.size s2 H2 fp) [] (τ' ++ caps σ idx) H8 s8 := I8.pins_of (fun p hp => nomatch hp)
        have up : ∀ b o, b ≠ s2.heap.objs.size → s8.heap.get? b = some o → (s8.heap.update s2.heap.objs.size (Obj.mapSeq fun z => z.push y)).get? b = some o := fun b o hb e => (Heap.get?_update_other s8.heap _ (Ne.symm hb)).trans e
        refine ⟨m', hm', i + 1, ys ++ [yv], its ++ [y], _, H8, τ', I9.turned (t' := s8.toks) up nD8 hDC (.inr (Nat.le_refl _)) cD (fun p hp => nomatch hp), l6, ?_, fun b hb => ?_, q, nD8, r3.append (.cons r8 .nil), w8⟩
        · exact Tn.keep _ _ _ st5 fun b hb o e => up b o (Nat.ne_of_lt (hlt b hb)) (I8.pin _ (mF b hb o e)).1
        · obtain ⟨o, e, d⟩ := Tn.obj _ _ st5 b hb
          exact (I8.pin _ (mF b hb o e)).2.1
  exact codeAny_compStart_list (loop _ rfl) (Tn.self X.A 0 _ _ _ (Tn.keep _ _ _ st2 fun b _ o e => old b o e) (loop _ rfl))
end
end L2
namespace L2
open PySem PySem.Spec PyProof.Rows
def mkS (x : List Nat) : Str := ⟨x.toArray⟩
theorem mkS_len (x : List Nat) : (mkS x).length = x.length := by simp [mkS, Str.length]
theorem mkS_cps (x : List Nat) : (mkS x).cps.toList = x := by simp [mkS]
theorem mkS_inj {x y : List Nat} (h : mkS x = mkS y) : x = y := by
  have := congrArg (fun s => s.cps.toList) h
  simpa [mkS] using this
theorem mkS_app (x y : List Nat) : mkS x ++ mkS y = mkS (x ++ y) := by
  show Str.append (mkS x) (mkS y) = _
  simp [Str.append, mkS]
theorem mkS_one (c : Nat) : (⟨#[c]⟩ : Str) = mkS [c] := rfl
def cutL {α : Type} (xs : List α) (lo hi : Option Int) : List α := (xs.drop (HT.sIx xs.length 0 lo)).take (HT.sIx xs.length xs.length hi - HT.sIx xs.length 0 lo)
theorem strIdx (lo hi : Option Int) (n : Nat) : Builtin.Str.strSliceIndices lo hi 1 n = (List.range (HT.sIx n n hi - HT.sIx n 0 lo)).map (HT.sIx n 0 lo + ·) := by
  have e1 : (match lo with | none => (if (1 : Int) > 0 then (0 : Int) else (n : Int) - 1) | some i => if (1 : Int) > 0 then max 0 (min (if i < 0 then i + (n : Int) else i) (n : Int)) else max (-1) (min (if i < 0 then i + (n : Int) else i) ((n : Int) - 1))) = ((HT.sIx n 0 lo : Nat) : Int) := by
    cases lo with
    | none => simp [HT.sIx]
    | some i =>
      simp only [HT.sIx, show (1 : Int) > 0 by decide, if_true]
      by_cases h : i < 0
      · simp only [h, if_true]; omega
      · simp only [h, if_false]; omega
  have e2 : (match hi with | none => (if (1 : Int) > 0 then (n : Int) else -1) | some i => if (1 : Int) > 0 then max 0 (min (if i < 0 then i + (n : Int) else i) (n : Int)) else max (-1) (min (if i < 0 then i + (n : Int) else i) ((n : Int) - 1))) = ((HT.sIx n n hi : Nat) : Int) := by
    cases hi with
    | none => simp [HT.sIx]
    | some i =>
      simp only [HT.sIx, show (1 : Int) > 0 by decide, if_true]
      by_cases h : i < 0
      · simp only [h, if_true]; omega
      · simp only [h, if_false]; omega
  rw [← sliceRange_one]
  unfold Builtin.Str.strSliceIndices
  dsimp only
  rw [← e1, ← e2]
  cases lo <;> cases hi <;> rfl
theorem slice_cut (x : List Nat) (lo hi : Option Int) : Txt.slice (mkS x) lo hi = mkS (cutL x lo hi) := by
  unfold Txt.slice
  rw [strIdx, mkS_len]
  have hp : ((List.range (HT.sIx x.length x.length hi - HT.sIx x.length 0 lo)).map (HT.sIx x.length 0 lo + ·)).filterMap ((mkS x).cps[·]?) = cutL x lo hi := by
    have := pick_run (mkS x).cps (HT.sIx x.length 0 lo) (HT.sIx x.length x.length hi - HT.sIx x.length 0 lo)
    rw [mkS_cps] at this
    exact this
  rw [hp]
  split
  · rename_i hc
    rw [Bool.and_eq_true] at hc
    have hl : HT.sIx x.length x.length hi - HT.sIx x.length 0 lo = x.length := by simpa using hc.2
    have h2 : HT.sIx x.length x.length hi ≤ x.length := HT.sIx_le _ _ (Nat.le_refl _) _
    have h3 : HT.sIx x.length 0 lo ≤ x.length := HT.sIx_le _ _ (Nat.zero_le _) _
    have e : HT.sIx x.length 0 lo = 0 := by omega
    unfold cutL
    rw [hl, e]
    simp
  · rfl
section
variable {X : Cx}
def rSlS : V → Option Int → Option Int → Hp → VK → Prop := fun x lo hi H Q => ∃ cs, x = .str (mkS cs) ∧ cs.length ≤ sizeLine ∧ Q (.str (mkS (cutL cs lo hi))) H
theorem sl_str : SlR X rSlS := by
  intro pins s σ H x v vl vu lo hi sl Q I rx hs pl pu h
  obtain ⟨cs, rfl, hz, q⟩ := h
  obtain ⟨t, rfl⟩ := rx
  have hl : (Txt.slice (mkS cs) lo hi).length ≤ sizeLine := Nat.le_trans (Txt.slice_le _ _ _) (by rw [mkS_len]; exact hz)
  rw [← slice_cut] at q
  refine ⟨"str", _, slot_str_getitem.lookup, typeIs_str _ _ _, ?_⟩
  obtain ⟨o, ho, hc, hd⟩ := hs
  cases pl with
  | none =>
    cases pu with
    | none => exact wpAny_getItem_str_slice (l := none) (u := none) (st := none) ⟨o, ho, hc, hd⟩ rfl (post_val_or_str ⟨hl, fun t' k => ⟨.str _, H, I.tok _, ⟨_, rfl⟩, q⟩⟩)
    | int j uj => exact wpAny_getItem_str_slice (l := none) (u := some (j, uj)) (st := none) ⟨o, ho, hc, hd⟩ rfl (post_val_or_str ⟨hl, fun t' k => ⟨.str _, H, I.tok _, ⟨_, rfl⟩, q⟩⟩)
  | int i ui =>
    cases pu with
    | none => exact wpAny_getItem_str_slice (l := some (i, ui)) (u := none) (st := none) ⟨o, ho, hc, hd⟩ rfl (post_val_or_str ⟨hl, fun t' k => ⟨.str _, H, I.tok _, ⟨_, rfl⟩, q⟩⟩)
    | int j uj => exact wpAny_getItem_str_slice (l := some (i, ui)) (u := some (j, uj)) (st := none) ⟨o, ho, hc, hd⟩ rfl (post_val_or_str ⟨hl, fun t' k => ⟨.str _, H, I.tok _, ⟨_, rfl⟩, q⟩⟩)
def repL (cs : List Nat) (k : Int) : List Nat := (List.replicate k.toNat cs).flatten
theorem foldl_app (cs : List Nat) : ∀ (k : Nat) (acc : List Nat), List.foldl (fun x1 x2 => x1 ++ x2) acc.toArray (List.replicate k cs.toArray) = (acc ++ (List.replicate k cs).flatten).toArray
  | 0, acc => by simp
  | k + 1, acc => by
    rw [List.replicate_succ, List.foldl_cons, List.replicate_succ, List.flatten_cons, ← List.append_assoc, ← foldl_app cs k (acc ++ cs)]
    simp
theorem op_mul_str : OpR X (binaryOp .Mult) (fun x y H Q => ∃ cs k, x = .str (mkS cs) ∧ y = .int k ∧ 0 ≤ k ∧ k < 1000 ∧ cs.length ≤ 1000 ∧ Q (.str (mkS (repL cs k))) H) := by
  intro pins s σ H x y v u Q I rx ry h
  obtain ⟨cs, k, rfl, rfl, h0, h1, hc, q⟩ := h
  obtain ⟨t, rfl⟩ := rx
  obtain ⟨t', rfl⟩ := ry
  have hs : sizeLine = 16777216 := sizeLine_eq
  have hprod : cs.length * k.toNat ≤ 1000 * 1000 := Nat.mul_le_mul hc (by omega)
  have e : ∀ b, Q (.str b) H → b = mkS (repL cs k) → True := fun _ _ _ => trivial
  refine PySem.P.mul_str (by rw [decide_eq_false (by omega), decide_eq_false (by omega)]; rfl) (fun h2 _ => ?_) (fun _ _ => ?_) ?_
  · rw [mkS_len]
    have hk : 1 ≤ k := by omega
    have : (1000 : Int) ≤ (2 ^ 63 - 1) / k := by
      rw [Int.le_ediv_iff_mul_le (by omega)]
      omega
    omega
  · rw [mkS_len]
    unfold PySem.Builtin.Str.tooLong
    exact decide_eq_false (by omega)
  · have made : ∀ (z : Str), z = mkS (repL cs k) → z.length ≤ sizeLine → (Made.str z).post (EP X pins σ Q) s := fun z ez hz => ⟨hz, by rw [ez]; exact ⟨.str _, H, I.tok _, ⟨_, rfl⟩, q⟩⟩
    have hlen : (repL cs k).length = k.toNat * cs.length := by
      unfold repL; rw [len_rep]
    by_cases hn : k < 1
    · rw [if_pos hn]
      have hk : k.toNat = 0 := by omega
      refine made _ ?_ (by decide)
      unfold repL; rw [hk]; rfl
    · rw [if_neg hn]
      by_cases h3 : (k == 1 || (mkS cs).length == 0) = true
      · rw [if_pos h3]
        refine ⟨.str (mkS cs), H, I, ⟨_, rfl⟩, ?_⟩
        have : repL cs k = cs := by
          unfold repL
          rw [Bool.or_eq_true] at h3
          rcases h3 with h3 | h3
          · have : k = 1 := by simpa using h3
            subst this
            simp
          · rw [mkS_len] at h3
            have : cs = [] := by cases cs with | nil => rfl | cons _ _ => simp at h3
            subst this
            simp
        rw [this] at q
        exact q
      · rw [if_neg h3]
        refine made _ ?_ ?_
        · unfold repL mkS
          have := foldl_app cs k.toNat []
          rw [List.nil_append] at this
          exact congrArg Str.mk this
        · have e3 : (List.foldl (fun x1 x2 => x1 ++ x2) #[] (List.replicate k.toNat (mkS cs).cps)) = (repL cs k).toArray := by
            have := foldl_app cs k.toNat []
            rw [List.nil_append] at this
            exact this
          show (List.foldl (fun x1 x2 => x1 ++ x2) #[] (List.replicate k.toNat (mkS cs).cps)).size ≤ sizeLine
          rw [e3, List.size_toArray, hlen, Nat.mul_comm]
          omega
theorem call_all_bls : CallR X (.builtin "all") (fun xs H Q => ∃ (a : Addr) (bs : List Bool), xs = [.ref a] ∧ SqL X.K H a (bs.map V.bl) ∧ X.calm = true ∧ Q (.bl (bs.all id)) H) := by
  intro pins s σ H xs us Q I r h
  obtain ⟨a, bs, rfl, hq, hc, q⟩ := h
  obtain ⟨u, rfl, ru⟩ := vals1 r
  cases ru
  obtain ⟨its, rv, pl, hz⟩ := I.list hq
  have hlen : its.length = bs.length := by rw [← rv.length, List.length_map]
  refine PySem.call_all_walk (wpAny_pyIter_list pl.isList ?_)
  have hI : a ≠ s.heap.objs.size := by
    obtain ⟨o, ho, _⟩ := pl.isList
    exact Nat.ne_of_lt (Heap.lt_size ho)
  have I1 : ∀ (h' : Heap) (tk : Nat), (∀ b o, b ∉ [s.heap.objs.size] → (s.heap.push { cls := .type "list_iterator", data := .fields #[.ref a, .int 0 0] }).get? b = some o → h'.get? b = some o) → Inv X pins σ H { s with heap := h', toks := tk } := fun h' tk k =>
    I.kept fun b o e => k b o (by simpa using Nat.ne_of_lt (Heap.lt_size e)) (Heap.get?_push_of_some _ e)
  refine ⟨s.heap.objs.size, [s.heap.objs.size, a], [s.heap.objs.size], its.toArray.size, _, _, fun i => bs.getD i false, rfl, PySem.Walks.list (by first | exact I.ok.hd hc | exact (show X.A.in1.handled = none from I.ok.hd hc)) _ a hI its.toArray, ⟨⟨_, Heap.get?_push_size _ rfl, rfl, rfl⟩, pl.isList.at fun o e => Heap.get?_push_of_some _ e⟩, ?_, fun h' tk k => ?_⟩
  · intro i v s' Q' E' hv hQ'
    have hv' : its[i]? = some v := by simpa using hv
    have hi : i < bs.length := by rw [← hlen]; exact (List.getElem?_eq_some_iff.mp hv').1
    have hb : (bs.map V.bl)[i]? = some (V.bl (bs.getD i false)) := by
      rw [List.getElem?_map, List.getElem?_eq_getElem hi]
      simp [List.getD_eq_getElem?_getD, hi]
    obtain ⟨u', hu', rv'⟩ := rv.get hb
    rw [hv'] at hu'
    cases hu'
    cases rv'
    exact wpAny_truthy_bool hQ'
  · refine ⟨.bl (bs.all id), H, I1 h' tk k, ?_, q⟩
    show Value.bool _ = Value.bool _
    congr 1
    rw [List.size_toArray, hlen]
    have : ∀ (l : List Bool), (List.range l.length).all (fun i => l.getD i false) = l.all id := by
      intro l
      rw [Bool.eq_iff_iff, List.all_eq_true, List.all_eq_true]
      constructor
      · intro h x hx
        obtain ⟨i, hi, rfl⟩ := List.getElem_of_mem hx
        have := h i (List.mem_range.mpr hi)
        simpa [List.getD_eq_getElem?_getD, hi] using this
      · intro h i hi
        have hi' := List.mem_range.mp hi
        have := h l[i] (List.getElem_mem hi')
        simpa [List.getD_eq_getElem?_getD, hi'] using this
    exact this bs
end
end L2
namespace L2
open PySem PySem.Spec PyProof.Rows
section
variable {X : Cx}
theorem comp_use {elt tg iter : Expr} {ifs : List Expr} {pos : Pos} {sc : Scope} {wi : TI} {g : TG} {tc : Addr → Shared → Hp → List Addr → TT} {te : Addr → Shared → Hp → List Addr → TE} (T : List Str) (idx : List Nat)
    (hi : PI X tg iter wi) (hcalm : X.calm = true) (hB : compB X.env.scope X.N sc idx = true)
    (hg : ∀ C s₂ H1 fp, PG (cxComp X sc T idx C s₂ H1 fp) tg g)
    (hc : ∀ C s₂ H1 fp, PIfs (cxComp X sc T idx C s₂ H1 fp) ifs (tc C s₂ H1 fp))
    (he : ∀ C s₂ H1 fp, PE (cxComp X sc T idx C s₂ H1 fp) elt (te C s₂ H1 fp))
    (hs : ∀ x, foldedSetIterable iter X.env x = pure x := by intro _; rfl)
    {pins : List (Addr × Obj)} {s : Shared} {σ : St} {H : Hp} {Q : VK} {use : Value → Sem Unit} {Q' : Value → Shared → Prop} (I : Inv X pins σ H s) (h : tComp wi g tc te T.length idx σ H Q)
    (fin : ∀ (D C : Addr) (s4 : Shared) (H' : Hp), Inv X pins σ H' s4 → FpOk X pins H' C → (∃ m, s4.heap.Ns C m) → Q (.ref D) H' →
      wpAny (model X.prog X.w) X.A (use (.ref D)) (fun _ s'' => ∃ m, s''.heap.Ns C m ∧ ∀ h', Heap.SameBut C s''.heap h' → Q' .none { s'' with heap := h' }) X.xe s4) :
    wpAny (model X.prog X.w) X.A (comprehension (.ListComp elt [⟨tg, iter, ifs, 0⟩] sc pos) sc X.env (firstIterPos [⟨tg, iter, ifs, 0⟩] pos) (newList []) false (eval iter X.env) (some use)) Q' X.xe s := by
  have cf := compB_f hB
  refine wpAny_comprehension_free (use := some use) (cl := closL X.env sc.names []) rfl hs (closureFor_of (clos_has I cf)) cf.kind cf.locs ?_
  refine thn (hi pins s σ H _ I h) fun v s1 h1 => thn h1 fun itv s2 h2 => ?_
  obtain ⟨it, fp, tn, J, H2, e, I2, Tn, st2, f2, W, ⟨m0, w0⟩, turn⟩ := h2
  subst e
  have hlt : ∀ b ∈ fp, b < s2.heap.objs.size := fun b hb => let ⟨o, e, _⟩ := Tn.obj _ _ st2 b hb; Heap.lt_size e
  refine wpAny_newObj_type (wpAny_newFunctionEnv cf.nocell (by intro y hy; simp at hy) (fun h₁ hns₁ hsb₁ => ?_) cf.kind)
  dsimp only at hns₁ hsb₁ ⊢
  generalize hH2 : s2.heap.push { cls := .type "list", dict := none, data := .seq ([] : List Value).toArray } = HH at hns₁ hsb₁ ⊢
  have hC : HH.objs.size = s2.heap.objs.size + 1 := by rw [← hH2, Heap.size_push]
  have hDC : s2.heap.objs.size ≠ HH.objs.size := by rw [hC]; exact Nat.ne_of_lt (Nat.lt_succ_self _)
  have hCle : s2.heap.objs.size ≤ HH.objs.size := by rw [hC]; exact Nat.le_succ _
  have old : ∀ b o, s2.heap.get? b = some o → h₁.get? b = some o := fun b o e => hsb₁.extBut b o (by rw [hC]; exact Nat.ne_of_lt (Nat.lt_succ_of_lt (Heap.lt_size e))) (Heap.get?_push_of_some _ (hH2 ▸ Heap.get?_push_of_some _ e))
  have eD0 : h₁.get? s2.heap.objs.size = some { cls := .type "list", data := .seq ([] : List Value).toArray 0 } := hsb₁.extBut _ _ hDC (Heap.get?_push_of_some _ (hH2 ▸ Heap.get?_push_size _ rfl))
  have nD0 : H2 s2.heap.objs.size = none := I2.hok.fresh (Nat.le_refl _)
  have cD : ∀ x c, (closL X.env sc.names []).lookup x = some c → c ≠ s2.heap.objs.size := fun x c e => by
    obtain ⟨v, q⟩ := I2.cell x c (clos_look I2 cf e)
    exact Nat.ne_of_lt q.lt
  have loop : ∀ s4 : Shared, s4 = { s2 with heap := h₁, toks := s2.toks + ([] : List (Str × Value)).length } →
      codeAny (model X.prog X.w) X.A (.compLoop (.ListComp elt [⟨tg, iter, ifs, 0⟩] sc pos) 0 (.ref it) (.ref s2.heap.objs.size) (compEnvC sc (closL X.env sc.names []) HH.objs.size X.env))
        (compPost (model X.prog X.w) X.A X.xe (some use) Q' (.ref s2.heap.objs.size) HH.objs.size) s4 := by
    rintro s4 rfl
    have J0 : Inv (cxComp X sc T idx HH.objs.size s2 H2 fp) [] (T.map (fun _ => none) ++ caps σ idx) H2 { s2 with heap := h₁, toks := s2.toks + ([] : List (Str × Value)).length } :=
      cxComp_inv I2 cf hCle f2 hlt old rfl rfl hns₁
    refine compLoop_gen (fun k s' => ∃ (i : Nat) (ys : List V) (its : List Value) (n : Nat) (H' : Hp) (τ : St), Inv (cxComp X sc T idx HH.objs.size s2 H2 fp) [] (τ ++ caps σ idx) H' s' ∧ τ.length = T.length ∧ tn i s'.heap ∧ (∀ b ∈ fp, H' b = none) ∧
      s'.heap.get? s2.heap.objs.size = some { cls := .type "list", data := .seq its.toArray n } ∧ H' s2.heap.objs.size = none ∧ Vals ys its ∧ W i k ys H') ?_ m0
      ⟨0, [], [], 0, H2, T.map (fun _ => none), J0, by rw [List.length_map], Tn.keep _ _ _ st2 fun b _ o e => old b o e, fun b hb => (f2 b hb).1, eD0, nD0, .nil, w0⟩
    rintro k s3 ⟨i, ys, its, n, H3, τ, I3, hτ, st3, fr3, eD3, nD3, r3, w3⟩
    obtain ⟨hz, alt⟩ := turn i k ys H3 w3
    have hDfs : s2.heap.objs.size ∉ (cxComp X sc T idx HH.objs.size s2 H2 fp).fs := fun z => by
      obtain ⟨_, o, ho, _⟩ := I2.stack.mem (show s2.heap.objs.size ∈ frs X.stack from z)
      exact absurd (Heap.lt_size ho) (Nat.lt_irrefl _)
    have pinD : ∀ {H' : Hp} {s' : Shared}, s'.heap.get? s2.heap.objs.size = some { cls := .type "list", data := .seq its.toArray n } → H' s2.heap.objs.size = none →
        ∀ p ∈ [(s2.heap.objs.size, ({ cls := .type "list", data := .seq its.toArray n } : Obj))], s'.heap.get? p.1 = some p.2 ∧ H' p.1 = none ∧ p.1 ≠ (cxComp X sc T idx HH.objs.size s2 H2 fp).env.locals ∧ p.1 ∉ (cxComp X sc T idx HH.objs.size s2 H2 fp).fs ∧ ∀ v, p.2.data ≠ .cell v :=
      fun {H' s'} e1 e2 p hp => by
        have ep : p = (s2.heap.objs.size, { cls := .type "list", data := .seq its.toArray n }) := by simpa using hp
        subst ep
        exact ⟨e1, e2, hDC, hDfs, fun v z => by cases z⟩
    have P3 : Inv (cxComp X sc T idx HH.objs.size s2 H2 fp) [(s2.heap.objs.size, { cls := .type "list", data := .seq its.toArray n })] (τ ++ caps σ idx) H3 s3 := I3.pins_of (pinD eD3 nD3)
    have stat : ∀ {H' : Hp}, (∀ b ∈ fp, H' b = none) → ∀ b ∈ fp, FpOk (cxComp X sc T idx HH.objs.size s2 H2 fp) [(s2.heap.objs.size, { cls := .type "list", data := .seq its.toArray n })] H' b := fun {H'} hn b hb => by
      have hb2 := hlt b hb
      refine ⟨hn b hb, Nat.ne_of_lt (Nat.lt_of_lt_of_le hb2 hCle), I3.ok.exfs b hb, .inl hb, fun x c e => (f2 b hb).2.2.2.2.1 x c (clos_look I2 cf e), fun p hp => ?_⟩
      have ep : p = (s2.heap.objs.size, ({ cls := .type "list", data := .seq its.toArray n } : Obj)) := by simpa [cxComp] using hp
      subst ep
      exact Nat.ne_of_gt hb2
    rcases alt with ⟨stop, q⟩ | ⟨go, hl2, step⟩
    · refine thn (Tn.done (cxComp X sc T idx HH.objs.size s2 H2 fp) rfl rfl rfl hcalm i _ s3 _ H3 (fun _ _ => False) P3 (stat fr3) st3 stop) fun r s4 ⟨hr, I4⟩ => ?_
      subst hr
      obtain ⟨m, hn, _⟩ := id I4.loc
      have eD4 := (I4.pin (s2.heap.objs.size, { cls := .type "list", data := .seq its.toArray n }) (by simp)).1
      have J4 := cxComp_end I2 hCle f2 (I4.pins_of (fun p hp => nomatch hp)) (Heap.SameBut.refl _ _) (Nat.le_refl _) hDC eD4 nD3 r3 hz
      exact fin _ _ s4 _ J4 (I2.fpOk hCle (by rw [upd_ne (Ne.symm hDC)]; exact I4.free)) ⟨m, hn⟩ (q _ nD3)
    · refine thn (Tn.item (cxComp X sc T idx HH.objs.size s2 H2 fp) rfl rfl rfl hcalm i _ s3 _ H3 (fun _ _ => False) P3 (stat fr3) st3 go) fun r s4 ⟨u, hr, h4⟩ => ?_
      subst hr
      refine thn h4 fun _ s5 ⟨x, H5, I5, r5, y5, st5, fr5⟩ => ?_
      have I5' := I5.pinned (stat fr5) (Tn.obj _ _ st5)
      refine thn (hg HH.objs.size s2 H2 fp _ s5 _ H5 x u _ I5' r5 (step x H5 y5 τ hτ)) fun _ s6 ⟨σ6, H6, I6, ⟨τ', e6, l6⟩, q6⟩ => ?_
      subst e6
      refine thn (hc HH.objs.size s2 H2 fp _ s6 _ H6 _ I6 (q6 HH.objs.size s2 fp)) fun ok s7 ⟨H7, I7, q7⟩ => ?_
      have mD : (s2.heap.objs.size, ({ cls := .type "list", data := .seq its.toArray n } : Obj)) ∈ (cxComp X sc T idx HH.objs.size s2 H2 fp).pn ++ ([(s2.heap.objs.size, { cls := .type "list", data := .seq its.toArray n })] ++ pinsAt fp s5.heap) :=
        List.mem_append_right _ (List.mem_append_left _ (by simp))
      have mF : ∀ b ∈ fp, ∀ o, s5.heap.get? b = some o → (b, o) ∈ (cxComp X sc T idx HH.objs.size s2 H2 fp).pn ++ ([(s2.heap.objs.size, { cls := .type "list", data := .seq its.toArray n })] ++ pinsAt fp s5.heap) := fun b hb o e =>
        List.mem_append_right _ (List.mem_append_right _ (mem_pinsAt hb e))
      cases ok with
      | false =>
        rw [if_neg Bool.false_ne_true] at q7 ⊢
        obtain ⟨m', hm', w7⟩ := q7
        refine ⟨m', hm', i + 1, ys, its, n, H7, τ', I7.pins_of (fun p hp => nomatch hp), l6, Tn.keep _ _ _ st5 fun b hb o e => (I7.pin _ (mF b hb o e)).1, fun b hb => ?_, (I7.pin _ mD).1, (I7.pin _ mD).2.1, r3, w7⟩
        obtain ⟨o, e, d⟩ := Tn.obj _ _ st5 b hb
        exact (I7.pin _ (mF b hb o e)).2.1
      | true =>
        rw [if_pos rfl] at q7 ⊢
        refine thn (he HH.objs.size s2 H2 fp _ s7 _ H7 _ I7 q7) fun y s8 ⟨yv, H8, I8, r8, m', hm', w8⟩ => ?_
        have eD8 := (I8.pin _ mD).1
        have nD8 := (I8.pin _ mD).2.1
        have hl := r3.length
        have q := PySem.IsL.update eD8 (fun z => z.push y)
        rw [show its.toArray.push y = (its ++ [y]).toArray by simp] at q
        refine call_meets PySem.F.slot_list_append ⟨_, eD8, rfl⟩ PySem.F.entry_list_append (PySem.F.args_list_append_2 _ _) (PySem.list_append s2.heap.objs.size its.toArray n y (by rw [List.size_toArray]; omega)) ⟨eD8, ?_⟩
        have I9 : Inv (cxComp X sc T idx HH.objs.size s2 H2 fp) [] (τ' ++ caps σ idx) H8 s8 := I8.pins_of (fun p hp => nomatch hp)
        have up : ∀ b o, b ≠ s2.heap.objs.size → s8.heap.get? b = some o → (s8.heap.update s2.heap.objs.size (Obj.mapSeq fun z => z.push y)).get? b = some o := fun b o hb e => (Heap.get?_update_other s8.heap _ (Ne.symm hb)).trans e
        refine ⟨m', hm', i + 1, ys ++ [yv], its ++ [y], _, H8, τ', I9.turned (t' := s8.toks) up nD8 hDC (.inr (Nat.le_refl _)) cD (fun p hp => nomatch hp), l6, ?_, fun b hb => ?_, q, nD8, r3.append (.cons r8 .nil), w8⟩
        · exact Tn.keep _ _ _ st5 fun b hb o e => up b o (Nat.ne_of_lt (hlt b hb)) (I8.pin _ (mF b hb o e)).1
        · obtain ⟨o, e, d⟩ := Tn.obj _ _ st5 b hb
          exact (I8.pin _ (mF b hb o e)).2.1
  exact codeAny_compStart_list (loop _ rfl) (Tn.self X.A 0 _ _ _ (Tn.keep _ _ _ st2 fun b _ o e => old b o e) (loop _ rfl))
def PU (X : Cx) (e : Expr) (t : TE) : Prop := ∀ (i : Nat) (x : Str) (pos' pos : Pos), X.N.Nodup → X.N[i]? = some x → Loc X.env.scope x → (X.fn x = true ∨ X.env.scope.names.lookup x = some .local) →
  swapsWith e (some (.Name x pos')) pos.line X.env = pure true → PS X (.Assign [.Name x pos'] e pos) (tAsg t (gName i))
theorem pu_comp {elt tg iter : Expr} {ifs : List Expr} {pos : Pos} {sc : Scope} {wi : TI} {g : TG} {tc : Addr → Shared → Hp → List Addr → TT} {te : Addr → Shared → Hp → List Addr → TE} (T : List Str) (idx : List Nat)
    (hi : PI X tg iter wi) (hcalm : X.calm = true) (hB : compB X.env.scope X.N sc idx = true)
    (hg : ∀ C s₂ H1 fp, PG (cxComp X sc T idx C s₂ H1 fp) tg g)
    (hc : ∀ C s₂ H1 fp, PIfs (cxComp X sc T idx C s₂ H1 fp) ifs (tc C s₂ H1 fp))
    (he : ∀ C s₂ H1 fp, PE (cxComp X sc T idx C s₂ H1 fp) elt (te C s₂ H1 fp))
    (hs : ∀ x, foldedSetIterable iter X.env x = pure x := by intro _; rfl) :
    PU X (.ListComp elt [⟨tg, iter, ifs, 0⟩] sc pos) (tComp wi g tc te T.length idx) := by
  intro i x pos' spos hN hix hx hf hsw pins s σ H D I h
  rw [exec_Assign_Name_used _ _ _ _ hsw]
  refine wpAny_bind (wpAny_standAt (wpAny_bind ?_))
  rw [arm_evalThenUse_ListComp]
  refine wpAny_bind (thn (comp_use T idx hi hcalm hB hg hc he hs (use := assign (.Name x pos') X.env) (Q' := fun _ s' => ∃ σ' H', Inv X pins σ' H' s' ∧ D.nx σ' H') I h fun Dd C s4 H' I4 fo hm q => ?_) fun _ s' hq => wpAny_pure (wpAny_pure hq))
  refine wpAny_assign_Name (store_ok2 I4 hN hix hx (show RelV (.ref Dd) (.ref Dd) from rfl) (fun s' I' ⟨a, hs', ha⟩ => ?_) hf)
  obtain ⟨m, hm⟩ := hm
  have hCa : C ≠ a := by
    rintro rfl
    rcases ha with ha | ha
    · exact fo.2.1 ha
    · exact fo.2.2.2.2.1 x _ ha rfl
  refine ⟨m, hm.sameBut hs' hCa, fun h' hs'' => ⟨_, H', ?_, q⟩⟩
  exact I'.turned (t' := s'.toks) (fun b o hb e => (hs''.2 b hb).trans e) fo.1 fo.2.1 fo.2.2.2.1 fo.2.2.2.2.1 fo.2.2.2.2.2
end
end L2
namespace L2
namespace M
open PySem PySem.Spec PyProof.Rows
theorem rcAt_V {A : Around} {s : Shared} {y x : V} {u v : Value} (ry : RelV y u) (rx : RelV x v) (fy : flatV y = true) (fx : flatV x = true) : SeqAt.RcAt A s u v (eqV y x) := by
  cases y with
  | non =>
    cases ry
    cases x with
    | non => cases rx; exact SeqAt.RcAt.none_none
    | bl b => cases rx; exact SeqAt.RcAt.none_bool b
    | int b => obtain ⟨t, rfl⟩ := rx; exact SeqAt.RcAt.none_int b t
    | str b => obtain ⟨t, rfl⟩ := rx; exact SeqAt.RcAt.none_str b t
    | _ => exact absurd (show false = true from fx) Bool.false_ne_true
  | bl a =>
    cases ry
    cases x with
    | non => cases rx; exact SeqAt.RcAt.bool_none a
    | bl b => cases rx; exact SeqAt.RcAt.bool_bool a b
    | int b => obtain ⟨t, rfl⟩ := rx; exact SeqAt.RcAt.bool_int a b t
    | str b => obtain ⟨t, rfl⟩ := rx; exact SeqAt.RcAt.bool_str a b t
    | _ => exact absurd (show false = true from fx) Bool.false_ne_true
  | int a =>
    obtain ⟨t', rfl⟩ := ry
    cases x with
    | non => cases rx; exact SeqAt.RcAt.int_none a t'
    | bl b => cases rx; exact SeqAt.RcAt.int_bool a t' b
    | int b => obtain ⟨t, rfl⟩ := rx; exact SeqAt.RcAt.int_int a t' b t
    | str b => obtain ⟨t, rfl⟩ := rx; exact SeqAt.RcAt.int_str a t' b t
    | _ => exact absurd (show false = true from fx) Bool.false_ne_true
  | str a =>
    obtain ⟨t', rfl⟩ := ry
    cases x with
    | non => cases rx; exact SeqAt.RcAt.str_none a t'
    | bl b => cases rx; exact SeqAt.RcAt.str_bool a t' b
    | int b => obtain ⟨t, rfl⟩ := rx; exact SeqAt.RcAt.str_int a t' b t
    | str b => obtain ⟨t, rfl⟩ := rx; exact SeqAt.RcAt.str_str a t' b t
    | _ => exact absurd (show false = true from fx) Bool.false_ne_true
  | _ => exact absurd (show false = true from fy) Bool.false_ne_true
theorem rnAt_V {A : Around} {s : Shared} {y x : V} {u v : Value} (ry : RelV y u) (rx : RelV x v) (fy : flatV y = true) (fx : flatV x = true) : SeqAt.RcNeAt A s u v (!eqV y x) := by
  cases y with
  | non =>
    cases ry
    cases x with
    | non => cases rx; exact SeqAt.RcNeAt.none_none
    | bl b => cases rx; exact SeqAt.RcNeAt.none_bool b
    | int b => obtain ⟨t, rfl⟩ := rx; exact SeqAt.RcNeAt.none_int b t
    | str b => obtain ⟨t, rfl⟩ := rx; exact SeqAt.RcNeAt.none_str b t
    | _ => exact absurd (show false = true from fx) Bool.false_ne_true
  | bl a =>
    cases ry
    cases x with
    | non => cases rx; exact SeqAt.RcNeAt.bool_none a
    | bl b => cases rx; exact SeqAt.RcNeAt.bool_bool a b
    | int b => obtain ⟨t, rfl⟩ := rx; exact SeqAt.RcNeAt.bool_int a b t
    | str b => obtain ⟨t, rfl⟩ := rx; exact SeqAt.RcNeAt.bool_str a b t
    | _ => exact absurd (show false = true from fx) Bool.false_ne_true
  | int a =>
    obtain ⟨t', rfl⟩ := ry
    cases x with
    | non => cases rx; exact SeqAt.RcNeAt.int_none a t'
    | bl b => cases rx; exact SeqAt.RcNeAt.int_bool a t' b
    | int b => obtain ⟨t, rfl⟩ := rx; exact SeqAt.RcNeAt.int_int a t' b t
    | str b => obtain ⟨t, rfl⟩ := rx; exact SeqAt.RcNeAt.int_str a t' b t
    | _ => exact absurd (show false = true from fx) Bool.false_ne_true
  | str a =>
    obtain ⟨t', rfl⟩ := ry
    cases x with
    | non => cases rx; exact SeqAt.RcNeAt.str_none a t'
    | bl b => cases rx; exact SeqAt.RcNeAt.str_bool a t' b
    | int b => obtain ⟨t, rfl⟩ := rx; exact SeqAt.RcNeAt.str_int a t' b t
    | str b => obtain ⟨t, rfl⟩ := rx; exact SeqAt.RcNeAt.str_str a t' b t
    | _ => exact absurd (show false = true from fx) Bool.false_ne_true
  | _ => exact absurd (show false = true from fy) Bool.false_ne_true
theorem eq_ll {A : Around} {s : Shared} {x : V} {v : Value} {l : Addr} {items : Array Value} (rx : RelV x v) (fx : flatV x = true) (hl : s.heap.IsList l items) (hu : A.units < cLine) : SeqAt.EqAt A s (.ref l) v false := by
  cases x with
  | non => cases rx; exact SeqAt.EqAt.list_none hl hu
  | bl b => cases rx; exact SeqAt.EqAt.list_bool b hl hu
  | int b => obtain ⟨t, rfl⟩ := rx; exact SeqAt.EqAt.list_int b t hl hu
  | str b => obtain ⟨t, rfl⟩ := rx; exact SeqAt.EqAt.list_str b t hl hu
  | _ => exact absurd (show false = true from fx) Bool.false_ne_true
theorem eq_lr {A : Around} {s : Shared} {x : V} {v : Value} {l : Addr} {items : Array Value} (rx : RelV x v) (fx : flatV x = true) (hl : s.heap.IsList l items) (hu : A.units < cLine) : SeqAt.EqAt A s v (.ref l) false := by
  cases x with
  | non => cases rx; exact SeqAt.EqAt.none_list hl hu
  | bl b => cases rx; exact SeqAt.EqAt.bool_list b hl hu
  | int b => obtain ⟨t, rfl⟩ := rx; exact SeqAt.EqAt.int_list b t hl hu
  | str b => obtain ⟨t, rfl⟩ := rx; exact SeqAt.EqAt.str_list b t hl hu
  | _ => exact absurd (show false = true from fx) Bool.false_ne_true
theorem eq_tl {A : Around} {s : Shared} {x : V} {v : Value} {l : Addr} {items : Array Value} (rx : RelV x v) (fx : flatV x = true) (hl : s.heap.IsTuple l items) (hu : A.units < cLine) : SeqAt.EqAt A s (.ref l) v false := by
  cases x with
  | non => cases rx; exact SeqAt.EqAt.tuple_none hl hu
  | bl b => cases rx; exact SeqAt.EqAt.tuple_bool b hl hu
  | int b => obtain ⟨t, rfl⟩ := rx; exact SeqAt.EqAt.tuple_int b t hl hu
  | str b => obtain ⟨t, rfl⟩ := rx; exact SeqAt.EqAt.tuple_str b t hl hu
  | _ => exact absurd (show false = true from fx) Bool.false_ne_true
theorem eq_tr {A : Around} {s : Shared} {x : V} {v : Value} {l : Addr} {items : Array Value} (rx : RelV x v) (fx : flatV x = true) (hl : s.heap.IsTuple l items) (hu : A.units < cLine) : SeqAt.EqAt A s v (.ref l) false := by
  cases x with
  | non => cases rx; exact SeqAt.EqAt.none_tuple hl hu
  | bl b => cases rx; exact SeqAt.EqAt.bool_tuple b hl hu
  | int b => obtain ⟨t, rfl⟩ := rx; exact SeqAt.EqAt.int_tuple b t hl hu
  | str b => obtain ⟨t, rfl⟩ := rx; exact SeqAt.EqAt.str_tuple b t hl hu
  | _ => exact absurd (show false = true from fx) Bool.false_ne_true
theorem rc_ll {A : Around} {s : Shared} {x : V} {v : Value} {l : Addr} {items : Array Value} (rx : RelV x v) (fx : flatV x = true) (hl : s.heap.IsList l items) (hu : A.units < cLine) : SeqAt.RcAt A s (.ref l) v false := by
  cases x with
  | non => cases rx; exact SeqAt.RcAt.list_none hl hu
  | bl b => cases rx; exact SeqAt.RcAt.list_bool b hl hu
  | int b => obtain ⟨t, rfl⟩ := rx; exact SeqAt.RcAt.list_int b t hl hu
  | str b => obtain ⟨t, rfl⟩ := rx; exact SeqAt.RcAt.list_str b t hl hu
  | _ => exact absurd (show false = true from fx) Bool.false_ne_true
theorem rc_lr {A : Around} {s : Shared} {x : V} {v : Value} {l : Addr} {items : Array Value} (rx : RelV x v) (fx : flatV x = true) (hl : s.heap.IsList l items) (hu : A.units < cLine) : SeqAt.RcAt A s v (.ref l) false := by
  cases x with
  | non => cases rx; exact SeqAt.RcAt.none_list hl hu
  | bl b => cases rx; exact SeqAt.RcAt.bool_list b hl hu
  | int b => obtain ⟨t, rfl⟩ := rx; exact SeqAt.RcAt.int_list b t hl hu
  | str b => obtain ⟨t, rfl⟩ := rx; exact SeqAt.RcAt.str_list b t hl hu
  | _ => exact absurd (show false = true from fx) Bool.false_ne_true
theorem rc_tl {A : Around} {s : Shared} {x : V} {v : Value} {l : Addr} {items : Array Value} (rx : RelV x v) (fx : flatV x = true) (hl : s.heap.IsTuple l items) (hu : A.units < cLine) : SeqAt.RcAt A s (.ref l) v false := by
  cases x with
  | non => cases rx; exact SeqAt.RcAt.tuple_none hl hu
  | bl b => cases rx; exact SeqAt.RcAt.tuple_bool b hl hu
  | int b => obtain ⟨t, rfl⟩ := rx; exact SeqAt.RcAt.tuple_int b t hl hu
  | str b => obtain ⟨t, rfl⟩ := rx; exact SeqAt.RcAt.tuple_str b t hl hu
  | _ => exact absurd (show false = true from fx) Bool.false_ne_true
theorem rc_tr {A : Around} {s : Shared} {x : V} {v : Value} {l : Addr} {items : Array Value} (rx : RelV x v) (fx : flatV x = true) (hl : s.heap.IsTuple l items) (hu : A.units < cLine) : SeqAt.RcAt A s v (.ref l) false := by
  cases x with
  | non => cases rx; exact SeqAt.RcAt.none_tuple hl hu
  | bl b => cases rx; exact SeqAt.RcAt.bool_tuple b hl hu
  | int b => obtain ⟨t, rfl⟩ := rx; exact SeqAt.RcAt.int_tuple b t hl hu
  | str b => obtain ⟨t, rfl⟩ := rx; exact SeqAt.RcAt.str_tuple b t hl hu
  | _ => exact absurd (show false = true from fx) Bool.false_ne_true
theorem rn_ll {A : Around} {s : Shared} {x : V} {v : Value} {l : Addr} {items : Array Value} (rx : RelV x v) (fx : flatV x = true) (hl : s.heap.IsList l items) (hu : A.units < cLine) : SeqAt.RcNeAt A s (.ref l) v true := by
  cases x with
  | non => cases rx; exact SeqAt.RcNeAt.list_none hl hu
  | bl b => cases rx; exact SeqAt.RcNeAt.list_bool b hl hu
  | int b => obtain ⟨t, rfl⟩ := rx; exact SeqAt.RcNeAt.list_int b t hl hu
  | str b => obtain ⟨t, rfl⟩ := rx; exact SeqAt.RcNeAt.list_str b t hl hu
  | _ => exact absurd (show false = true from fx) Bool.false_ne_true
theorem rn_lr {A : Around} {s : Shared} {x : V} {v : Value} {l : Addr} {items : Array Value} (rx : RelV x v) (fx : flatV x = true) (hl : s.heap.IsList l items) (hu : A.units < cLine) : SeqAt.RcNeAt A s v (.ref l) true := by
  cases x with
  | non => cases rx; exact SeqAt.RcNeAt.none_list hl hu
  | bl b => cases rx; exact SeqAt.RcNeAt.bool_list b hl hu
  | int b => obtain ⟨t, rfl⟩ := rx; exact SeqAt.RcNeAt.int_list b t hl hu
  | str b => obtain ⟨t, rfl⟩ := rx; exact SeqAt.RcNeAt.str_list b t hl hu
  | _ => exact absurd (show false = true from fx) Bool.false_ne_true
theorem rn_tl {A : Around} {s : Shared} {x : V} {v : Value} {l : Addr} {items : Array Value} (rx : RelV x v) (fx : flatV x = true) (hl : s.heap.IsTuple l items) (hu : A.units < cLine) : SeqAt.RcNeAt A s (.ref l) v true := by
  cases x with
  | non => cases rx; exact SeqAt.RcNeAt.tuple_none hl hu
  | bl b => cases rx; exact SeqAt.RcNeAt.tuple_bool b hl hu
  | int b => obtain ⟨t, rfl⟩ := rx; exact SeqAt.RcNeAt.tuple_int b t hl hu
  | str b => obtain ⟨t, rfl⟩ := rx; exact SeqAt.RcNeAt.tuple_str b t hl hu
  | _ => exact absurd (show false = true from fx) Bool.false_ne_true
theorem rn_tr {A : Around} {s : Shared} {x : V} {v : Value} {l : Addr} {items : Array Value} (rx : RelV x v) (fx : flatV x = true) (hl : s.heap.IsTuple l items) (hu : A.units < cLine) : SeqAt.RcNeAt A s v (.ref l) true := by
  cases x with
  | non => cases rx; exact SeqAt.RcNeAt.none_tuple hl hu
  | bl b => cases rx; exact SeqAt.RcNeAt.bool_tuple b hl hu
  | int b => obtain ⟨t, rfl⟩ := rx; exact SeqAt.RcNeAt.int_tuple b t hl hu
  | str b => obtain ⟨t, rfl⟩ := rx; exact SeqAt.RcNeAt.str_tuple b t hl hu
  | _ => exact absurd (show false = true from fx) Bool.false_ne_true
theorem eqV_refl {y : V} (h : flatV y = true) : eqV y y = true := by
  cases y <;> first | rfl | (simp [eqV]; done) | exact absurd (show false = true from h) Bool.false_ne_true
inductive NK where
  | key (k : Key) | tup (ks : List NK)
noncomputable instance : DecidableEq NK := fun _ _ => Classical.propDecidable _
section
variable {prog : Program} {w : World} (knd : KeyKind prog w Key)
mutual
def isN (h : Heap) : NK → Value → Prop
  | .key k, v => knd.is k v = true
  | .tup ks, v => ∃ a o items n, v = .ref a ∧ h.get? a = some o ∧ o.cls = .type "tuple" ∧ o.data = .seq items n ∧ isNL h ks items.toList
def isNL (h : Heap) : List NK → List Value → Prop
  | [], vs => vs = []
  | k :: ks, vs => ∃ v r, vs = v :: r ∧ isN h k v ∧ isNL h ks r
end
mutual
def hashN : NK → Int
  | .key k => knd.hash k
  | .tup ks => reduceHash (Builtin.Tuple.tupleHashOf (hashNL ks))
def hashNL : List NK → List Int
  | [] => []
  | k :: ks => hashN k :: hashNL ks
end
mutual
def drawN : NK → Nat
  | .key _ => 1
  | .tup ks => drawNL ks + 1
def drawNL : List NK → Nat
  | [] => 0
  | k :: ks => drawN k + drawNL ks
end
mutual
def depN : NK → Nat
  | .key _ => 0
  | .tup ks => depNL ks + 1
def depNL : List NK → Nat
  | [] => 0
  | k :: ks => max (depN k) (depNL ks)
end
variable {knd}
theorem isN_key {h : Heap} {k : Key} {v : Value} : isN knd h (.key k) v ↔ knd.is k v = true := by unfold isN; exact Iff.rfl
theorem isN_tup {h : Heap} {ks : List NK} {v : Value} : isN knd h (.tup ks) v ↔ ∃ a o items n, v = .ref a ∧ h.get? a = some o ∧ o.cls = .type "tuple" ∧ o.data = .seq items n ∧ isNL knd h ks items.toList := by
  conv => lhs; unfold isN
theorem isNL_nil {h : Heap} {vs : List Value} : isNL knd h [] vs ↔ vs = [] := by unfold isNL; exact Iff.rfl
theorem isNL_cons {h : Heap} {k : NK} {ks : List NK} {vs : List Value} : isNL knd h (k :: ks) vs ↔ ∃ v r, vs = v :: r ∧ isN knd h k v ∧ isNL knd h ks r := by
  conv => lhs; unfold isNL
mutual
theorem isN_inj {h : Heap} : ∀ {x y : NK} {v : Value}, isN knd h x v → isN knd h y v → x = y
  | .key k, .key k', v, hx, hy => by rw [knd.inj v k k' (isN_key.mp hx) (isN_key.mp hy)]
  | .key k, .tup ks, v, hx, hy => by
    obtain ⟨a, o, items, n, rfl, _⟩ := isN_tup.mp hy
    have := knd.byValue _ _ (isN_key.mp hx)
    simp [carriedByValue] at this
  | .tup ks, .key k, v, hx, hy => by
    obtain ⟨a, o, items, n, rfl, _⟩ := isN_tup.mp hx
    have := knd.byValue _ _ (isN_key.mp hy)
    simp [carriedByValue] at this
  | .tup ks, .tup ks', v, hx, hy => by
    obtain ⟨a, o, items, n, e, ho, _, hd, hi⟩ := isN_tup.mp hx
    obtain ⟨a', o', items', n', e', ho', _, hd', hi'⟩ := isN_tup.mp hy
    rw [e] at e'
    cases e'
    obtain rfl : o = o' := Option.some.inj (ho.symm.trans ho')
    rw [hd] at hd'
    injection hd' with h1 _
    subst h1
    rw [isNL_inj hi hi']
theorem isNL_inj {h : Heap} : ∀ {xs ys : List NK} {vs : List Value}, isNL knd h xs vs → isNL knd h ys vs → xs = ys
  | [], [], _, _, _ => rfl
  | [], y :: ys, vs, hx, hy => by
    obtain ⟨v, r, e, _⟩ := isNL_cons.mp hy
    rw [isNL_nil.mp hx] at e; cases e
  | x :: xs, [], vs, hx, hy => by
    obtain ⟨v, r, e, _⟩ := isNL_cons.mp hx
    rw [isNL_nil.mp hy] at e; cases e
  | x :: xs, y :: ys, vs, hx, hy => by
    obtain ⟨v, r, e, h1, h2⟩ := isNL_cons.mp hx
    obtain ⟨v', r', e', h1', h2'⟩ := isNL_cons.mp hy
    rw [e] at e'
    cases e'
    rw [isN_inj h1 h1', isNL_inj h2 h2']
end
mutual
theorem isN_move {h h' : Heap} (m : ∀ a o items n, h.get? a = some o → o.data = .seq items n → h'.get? a = some o) : ∀ {x : NK} {v : Value}, isN knd h x v → isN knd h' x v
  | .key k, v, hx => isN_key.mpr (isN_key.mp hx)
  | .tup ks, v, hx => by
    obtain ⟨a, o, items, n, e, ho, hc, hd, hi⟩ := isN_tup.mp hx
    exact isN_tup.mpr ⟨a, o, items, n, e, m a o items n ho hd, hc, hd, isNL_move m hi⟩
theorem isNL_move {h h' : Heap} (m : ∀ a o items n, h.get? a = some o → o.data = .seq items n → h'.get? a = some o) : ∀ {xs : List NK} {vs : List Value}, isNL knd h xs vs → isNL knd h' xs vs
  | [], vs, hx => isNL_nil.mpr (isNL_nil.mp hx)
  | x :: xs, vs, hx => by
    obtain ⟨v, r, e, h1, h2⟩ := isNL_cons.mp hx
    exact isNL_cons.mpr ⟨v, r, e, isN_move m h1, isNL_move m h2⟩
end
theorem hashNL_map : ∀ ks : List NK, hashNL knd ks = ks.map (hashN knd)
  | [] => by unfold hashNL; rfl
  | k :: ks => by unfold hashNL; rw [hashNL_map ks]; rfl
theorem drawNL_nil : drawNL [] = 0 := by rw [drawNL]
theorem drawNL_cons (k : NK) (ks : List NK) : drawNL (k :: ks) = drawN k + drawNL ks := by rw [drawNL]
theorem depNL_cons (k : NK) (ks : List NK) : depNL (k :: ks) = max (depN k) (depNL ks) := by rw [depNL]
theorem depN_tup (ks : List NK) : depN (.tup ks) = depNL ks + 1 := by rw [depN]
theorem drawNL_append : ∀ (xs ys : List NK), drawNL (xs ++ ys) = drawNL xs + drawNL ys
  | [], ys => by rw [drawNL_nil, List.nil_append, Nat.zero_add]
  | x :: xs, ys => by rw [List.cons_append, drawNL_cons, drawNL_cons, drawNL_append xs ys]; omega
theorem tup_type {s : Shared} {ks : List NK} {a : Addr} (h : isN knd s.heap (.tup ks) (.ref a)) : s.TypeIs (.ref a) "tuple" := by
  obtain ⟨a', o, items, n, e, ho, hc, _⟩ := isN_tup.mp h
  cases e
  exact ⟨o, ho, hc⟩
theorem pyHash_N : ∀ (n : Nat) {A : Around} {E : Value → Shared → Prop} {s : Shared} {k : NK} {v : Value} {Q : Int → Shared → Prop}, depN k ≤ n → A.units + n < cLine → isN knd s.heap k v → Q (hashN knd k) { s with toks := s.toks + drawN k } → wpAny (model prog w) A (pyHash v) Q E s
  | n, A, E, s, .key k, v, Q, _, _, hk, h => knd.pyHash (isN_key.mp hk) (by rw [hashN, drawN] at h; exact h)
  | 0, A, E, s, .tup ks, v, Q, hd, _, _, _ => by rw [depN_tup] at hd; omega
  | n + 1, A, E, s, .tup ks, v, Q, hdep, hu, hk, h => by
    obtain ⟨a, o, items, m, rfl, ho, hc, hd, hi⟩ := isN_tup.mp hk
    have hT : s.TypeIs (.ref a) "tuple" := ⟨o, ho, hc⟩
    rw [depN_tup] at hdep
    have hdl : ∀ k ∈ ks, depN k ≤ n := by
      have : ∀ ks : List NK, depNL ks ≤ n → ∀ k ∈ ks, depN k ≤ n := by
        intro ks
        induction ks with
        | nil => intro _ k hk; simp at hk
        | cons x xs ih =>
          intro hx k hk
          rw [depNL_cons] at hx
          rcases List.mem_cons.mp hk with rfl | hk
          · omega
          · exact ih (by omega) k hk
      exact this ks (by omega)
    rw [hashN, drawN, hashNL_map] at h
    unfold pyHash
    first | unfold pyHashByItsType | skip
    first | refine wpAny_bind (wpAny_cRoomFor_or (.inr (show A.units < cLine by omega)) ?_) | skip
    refine wpAny_bind (wpAny_specialOf hT F.slot_tuple_hash.lookup ?_)
    show wpAny _ _ (if (some (Value.builtin "tuple.__hash__") == some Value.none) = true then _ else _) Q E s
    rw [if_neg (by rw [beq_builtin_none]; exact Bool.false_ne_true)]
    refine wpAny_bind (wpAny_specialOf hT F.slot_tuple_hash.lookup ?_)
    show wpAny _ _ (callSpecialIfBoundUnlessNone? (.ref a) "__hash__" _ >>= _) Q E s
    refine wpAny_bind (wpAny_callSpecialIfBoundUnlessNone?_slot hT F.slot_tuple_hash (wpAny_call_entry F.slot_tuple_hash hT F.entry_tuple_hash ?_ (F.args_tuple_hash_1 _)))
    show wpAny _ _ (Builtin.Tuple.tupleItemsOf (.ref a) >>= _) _ _ s
    refine wpAny_bind (wpAny_tupleItemsOf ho hd ?_)
    refine wpAny_bind ?_
    rw [← Array.forIn_toList]
    refine wpAny_forIn_list _
      (fun rest (b : Array Int) s' => ∃ done left, ks = done ++ left ∧ isNL knd s.heap left rest ∧ b.toList = done.map (hashN knd) ∧ s' = { s with toks := s.toks + drawNL done })
      _ ?_ ?_ _ _ ⟨[], ks, rfl, hi, rfl, by rw [drawNL_nil]; rfl⟩
    · rintro x rest b s' ⟨done, left, rfl, hl, hb, rfl⟩
      cases left with
      | nil => rw [isNL_nil] at hl; cases hl
      | cons k ks' =>
        obtain ⟨v, r, e, h1, hl'⟩ := isNL_cons.mp hl
        cases e
        refine wpAny_bind (pyHash_N n (hdl k (by simp)) (show A.units + 1 + n < cLine by omega) h1 ?_)
        have e1 : drawNL (done ++ [k]) = drawNL done + drawN k := by rw [drawNL_append, drawNL_cons, drawNL_nil]; rfl
        first
          | exact wpAny_pure ⟨done ++ [k], ks', by simp, hl', by simp [hb], by simp [Nat.add_assoc, e1]⟩
          | exact wpAny_bind (wpAny_pure (wpAny_pure ⟨done ++ [k], ks', by simp, hl', by simp [hb], by simp [Nat.add_assoc, e1]⟩))
    · rintro b s' ⟨done, left, rfl, hl, hb, rfl⟩
      cases left with
      | cons k ks' => obtain ⟨v, r, e, _⟩ := isNL_cons.mp hl; cases e
      | nil =>
        rw [List.append_nil] at h
        show wpAny _ _ (retInt (Builtin.Tuple.tupleHashOf b.toList)) _ _ _
        rw [hb]
        refine wpAny_ret_mkInt ?_
        show wpAny _ _ (if (decide (-(2 : Int) ^ 63 ≤ Builtin.Tuple.tupleHashOf (done.map (hashN knd))) && decide (Builtin.Tuple.tupleHashOf (done.map (hashN knd)) < 2 ^ 63)) = true then _ else _) Q E _
        unfold reduceHash at h
        by_cases hr : (decide (-(2 : Int) ^ 63 ≤ Builtin.Tuple.tupleHashOf (done.map (hashN knd))) && decide (Builtin.Tuple.tupleHashOf (done.map (hashN knd)) < 2 ^ 63)) = true
        · rw [if_pos hr]
          rw [if_pos hr] at h
          exact wpAny_pure (by simpa [Nat.add_assoc] using h)
        · rw [if_neg hr]
          rw [if_neg hr] at h
          exact wpAny_bind (wpAny_rule (wpAny_pure (by simpa [Nat.add_assoc] using h)))
end
section
variable {prog : Program} {w : World}
abbrev mk (prog : Program) (w : World) : KeyKind prog w Key := mixKind prog w
theorem dec_key (a b : Key) : decide (NK.key a = NK.key b) = decide (a = b) := by
  by_cases h : a = b
  · subst h; simp
  · rw [decide_eq_false h, decide_eq_false fun z => h (NK.key.inj z)]
theorem dec_kt (a : Key) (b : List NK) : decide (NK.key a = NK.tup b) = false := decide_eq_false fun z => nomatch z
theorem dec_tk (a : Key) (b : List NK) : decide (NK.tup b = NK.key a) = false := decide_eq_false fun z => nomatch z
theorem dec_tt (a b : List NK) : decide (NK.tup a = NK.tup b) = decide (a = b) := by
  by_cases h : a = b
  · subst h; simp
  · rw [decide_eq_false h, decide_eq_false fun z => h (NK.tup.inj z)]
theorem key_flat {k : Key} {v : Value} (h : (mk prog w).is k v = true) : ∃ x : V, RelV x v ∧ flatV x = true := by
  rcases keyIs_shape (show keyIs k v = true from h) with ⟨i, t, rfl, rfl⟩ | ⟨x, t, rfl, rfl⟩
  · exact ⟨.int i, ⟨t, rfl⟩, rfl⟩
  · exact ⟨.str x, ⟨t, rfl⟩, rfl⟩
theorem tuple_eqN {A : Around} {E : Value → Shared → Prop} {s : Shared} {x y : List NK} {a b : Addr} {P : Fin → Shared → Prop}
    (he : ∀ k1 ∈ x, ∀ k2 u v (Q : Bool → Shared → Prop), isN (mk prog w) s.heap k1 u → isN (mk prog w) s.heap k2 v → Q (decide (k1 = k2)) s → wpAny (model prog w) A (eqBool u v) Q E s)
    (hx : isN (mk prog w) s.heap (.tup x) (.ref a)) (hy : isN (mk prog w) s.heap (.tup y) (.ref b)) (h : P (.done (.ret (.bool (decide (x = y))))) s) :
    wpAny (model prog w) A (Builtin.«tuple.__eq__» ⟨[.ref a, .ref b], []⟩) P E s := by
  have hTb := tup_type hy
  obtain ⟨_, oa, xs, na, e, hoa, _, hda, hia⟩ := isN_tup.mp hx
  cases e
  obtain ⟨_, ob, ys, nb, e, hob, _, hdb, hib⟩ := isN_tup.mp hy
  cases e
  show wpAny _ _ (isInstance (.ref b) (.type "tuple") >>= _) _ _ s
  refine wpAny_bind (wpAny_isInstance hTb isSubtype_tuple_tuple ?_)
  simp only [Bool.not_true, Bool.false_eq_true, if_false]
  refine wpAny_bind (wpAny_tupleItemsOf hoa hda ?_)
  refine wpAny_bind (wpAny_tupleItemsOf hob hdb ?_)
  refine wpAny_bind ?_
  refine wpAny_forIn_list _
    (fun rest r s' => r.1 = none ∧ s' = s ∧ ∃ x' y' xs' ys', rest = List.zip xs' ys' ∧ (∀ k ∈ x', k ∈ x) ∧ isNL (mk prog w) s.heap x' xs' ∧ isNL (mk prog w) s.heap y' ys' ∧ decide (x' = y') = decide (x = y) ∧ (xs'.length == ys'.length) = (xs.size == ys.size))
    _ ?_ ?_ _ _ ⟨rfl, rfl, x, y, xs.toList, ys.toList, rfl, fun k hk => hk, hia, hib, rfl, by simp⟩
  · rintro ⟨u, v⟩ rest r s' ⟨hr, rfl, x', y', xs', ys', hz, hm, hx', hy', hdec, hlen⟩
    cases x' with
    | nil => rw [isNL_nil.mp hx'] at hz; simp at hz
    | cons k1 x'' =>
      cases y' with
      | nil => rw [isNL_nil.mp hy'] at hz; simp at hz
      | cons k2 y'' =>
        obtain ⟨u', xs'', rfl, h1, hx''⟩ := isNL_cons.mp hx'
        obtain ⟨v', ys'', rfl, h2, hy''⟩ := isNL_cons.mp hy'
        simp only [List.zip_cons_cons, List.cons.injEq, Prod.mk.injEq] at hz
        obtain ⟨⟨rfl, rfl⟩, rfl⟩ := hz
        refine wpAny_bind (he k1 (hm k1 List.mem_cons_self) k2 _ _ _ h1 h2 ?_)
        by_cases hk : k1 = k2
        · subst hk
          rw [decide_eq_true rfl]
          simp only [Bool.not_true, Bool.false_eq_true, if_false]
          refine wpAny_pure ⟨rfl, rfl, x'', y'', xs'', ys'', rfl, fun k hk => hm k (List.mem_cons_of_mem _ hk), hx'', hy'', ?_, by simpa using hlen⟩
          rw [← hdec]
          by_cases hxy : x'' = y''
          · simp [hxy]
          · simp [hxy]
        · rw [decide_eq_false hk]
          simp only [Bool.not_false, if_true]
          have hf : decide (x = y) = false := by rw [← hdec]; simp [hk]
          rw [hf] at h
          exact wpAny_bind (wpAny_pure (wpAny_pure (wpAny_pure h)))
  · rintro ⟨r1, r2⟩ s' ⟨hr, rfl, x', y', xs', ys', hz, hm, hx', hy', hdec, hlen⟩
    simp only at hr
    subst hr
    refine wpAny_pure ?_
    have hfin : (xs.size == ys.size) = decide (x = y) := by
      rw [← hdec, ← hlen]
      cases x' with
      | nil =>
        rw [isNL_nil.mp hx']
        cases y' with
        | nil => rw [isNL_nil.mp hy']; simp
        | cons k2 y'' => obtain ⟨v', ys'', rfl, h2, hy''⟩ := isNL_cons.mp hy'; simp
      | cons k1 x'' =>
        obtain ⟨u', xs'', rfl, h1, hx''⟩ := isNL_cons.mp hx'
        cases y' with
        | nil => rw [isNL_nil.mp hy']; simp
        | cons k2 y'' => obtain ⟨v', ys'', rfl, h2, hy''⟩ := isNL_cons.mp hy'; simp at hz
    show P (.done (.ret (.bool (xs.size == ys.size)))) s'
    rw [hfin]; exact h
theorem depNL_le {n : Nat} : ∀ {ks : List NK}, depNL ks ≤ n → ∀ k ∈ ks, depN k ≤ n
  | [], _, k, hk => by simp at hk
  | x :: xs, hx, k, hk => by
    rw [depNL_cons] at hx
    rcases List.mem_cons.mp hk with rfl | hk
    · omega
    · exact depNL_le (by omega) k hk
theorem eqBool_N : ∀ (n : Nat) {A : Around} {E : Value → Shared → Prop} {s : Shared} {x y : NK} {u v : Value} {Q : Bool → Shared → Prop}, depN x ≤ n → A.units + n < cLine → isN (mk prog w) s.heap x u → isN (mk prog w) s.heap y v → Q (decide (x = y)) s → wpAny (model prog w) A (eqBool u v) Q E s
  | n, A, E, s, .key a, .key b, u, v, Q, _, _, hx, hy, h => (mk prog w).eqBool (isN_key.mp hx) (isN_key.mp hy) (by rw [dec_key] at h; exact h)
  | n, A, E, s, .key a, .tup b, u, v, Q, _, hu, hx, hy, h => by
    obtain ⟨z, rz, fz⟩ := key_flat (isN_key.mp hx)
    obtain ⟨l, o, items, m, rfl, ho, hc, hd, _⟩ := isN_tup.mp hy
    rw [dec_kt] at h
    exact eq_tr rz fz (items := items) ⟨o, ho, hc, m, hd⟩ (by omega) prog w E Q h
  | n, A, E, s, .tup a, .key b, u, v, Q, _, hu, hx, hy, h => by
    obtain ⟨z, rz, fz⟩ := key_flat (isN_key.mp hy)
    obtain ⟨l, o, items, m, rfl, ho, hc, hd, _⟩ := isN_tup.mp hx
    rw [dec_tk] at h
    exact eq_tl rz fz (items := items) ⟨o, ho, hc, m, hd⟩ (by omega) prog w E Q h
  | 0, A, E, s, .tup a, .tup b, u, v, Q, hd, _, hx, hy, h => by rw [depN_tup] at hd; omega
  | n + 1, A, E, s, .tup x, .tup y, u, v, Q, hd, hu, hx, hy, h => by
    obtain ⟨a, _, _, _, ea, _⟩ := isN_tup.mp hx
    obtain ⟨b, _, _, _, eb, _⟩ := isN_tup.mp hy
    subst ea eb
    rw [depN_tup] at hd
    rw [dec_tt] at h
    unfold eqBool
    try with_reducible refine wpAny_holding ?_
    show wpAny _ _ (if (Value.ref a == Value.ref b) = true then _ else _) Q E s
    by_cases hab : (Value.ref a == Value.ref b) = true
    · rw [if_pos hab]
      have e : a = b := by have := eq_of_beq hab; injection this
      subst e
      have : x = y := NK.tup.inj (isN_inj hx hy)
      subst this
      exact wpAny_bind (wpAny_rule (wpAny_pure (by simpa using h)))
    · rw [if_neg hab]
      refine wpAny_bind (wpAny_richCompare_same_room (op := .Eq) (tup_type hx) (tup_type hy) F.slot_tuple_eq
        (wpAny_call_entry F.slot_tuple_eq (tup_type hx) F.entry_tuple_eq (tuple_eqN (fun k1 hk1 k2 u v Q h1 h2 h3 => eqBool_N n (depNL_le (by omega) k1 hk1) (show A.units + 1 + n < cLine by omega) h1 h2 h3) hx hy ⟨_, rfl, (fun e => nomatch e), wpAny_truthy_bool h⟩) (F.args_tuple_eq_2 _ _)) (by omega))
theorem quiet_N : ∀ (n m : Nat) {A : Around} {E : Value → Shared → Prop} {s : Shared} {x : NK} {u : Value} {Q : Bool → Shared → Prop}, depN x ≤ n → n < m → isN (mk prog w) s.heap x u → Q true s → wpAny (model prog w) A (eqIsQuiet m u) Q E s
  | n, m, A, E, s, .key k, u, Q, _, _, hx, h => by
    rw [eqIsQuiet_byValue m ((mk prog w).byValue _ _ (isN_key.mp hx))]
    exact wpAny_pure h
  | 0, m, A, E, s, .tup ks, u, Q, hd, _, hx, h => by rw [depN_tup] at hd; omega
  | n + 1, 0, A, E, s, .tup ks, u, Q, hd, hm, hx, h => by omega
  | n + 1, m + 1, A, E, s, .tup ks, u, Q, hdp, hm, hx, h => by
    obtain ⟨a, o, items, j, rfl, ho, hc, hd, hi⟩ := isN_tup.mp hx
    have hT : s.TypeIs (.ref a) "tuple" := ⟨o, ho, hc⟩
    rw [depN_tup] at hdp
    unfold eqIsQuiet
    refine wpAny_bind (wpAny_specialOf hT F.slot_tuple_eq.lookup ?_)
    show wpAny _ _ (isInstance (.ref a) (.type "tuple") >>= _) _ _ s
    refine wpAny_bind (wpAny_isInstance hT isSubtype_tuple_tuple ?_)
    simp only [Bool.not_true, Bool.false_eq_true, if_false]
    refine wpAny_bind (wpAny_seqItems ho hd ?_)
    refine wpAny_bind ?_
    show wpAny _ _ (forIn items _ _) _ _ s
    rw [← Array.forIn_toList]
    refine wpAny_forIn_list _ (fun rest r s' => r.1 = none ∧ s' = s ∧ ∃ left, (∀ k ∈ left, k ∈ ks) ∧ isNL (mk prog w) s.heap left rest) _ ?_ ?_ _ _ ⟨rfl, rfl, ks, fun k hk => hk, hi⟩
    · rintro v rest r s' ⟨hr, rfl, left, hm', hl⟩
      cases left with
      | nil => rw [isNL_nil] at hl; cases hl
      | cons k left =>
        obtain ⟨v', r', e, h1, h2⟩ := isNL_cons.mp hl
        cases e
        refine wpAny_bind (quiet_N n m (depNL_le (by omega) k (hm' k List.mem_cons_self)) (by omega) h1 ?_)
        simp only [Bool.not_true, Bool.false_eq_true, if_false]
        exact wpAny_pure ⟨rfl, rfl, left, fun k hk => hm' k (List.mem_cons_of_mem _ hk), h2⟩
    · rintro ⟨r1, r2⟩ s' ⟨hr, rfl, _⟩
      simp only at hr
      subst hr
      exact wpAny_pure h
end
noncomputable def nestKind (prog : Program) (w : World) : HeapKind prog w NK where
  is := fun h k a => isN (mk prog w) h k (.ref a) ∧ depN k ≤ 4
  hash := hashN (mk prog w)
  draws := drawN
  room := fun A => A.units + 4 < cLine
  inj := fun hx hy => isN_inj hx.1 hy.1
  keeps := fun x ho hd hs => ⟨isN_move (fun a o' items n e q => (hs.2 a fun z => by
    subst z
    rw [ho] at e; cases e
    rw [hd] at q; cases q).trans e) x.1, x.2⟩
  pyHash := fun hu hk h => pyHash_N 4 hk.2 hu hk.1 h
  eqBool := fun hu hx hy h => eqBool_N 4 hx.2 hu hx.1 hy.1 h
  quiet := fun hk h => quiet_N 4 8 hk.2 (by decide) hk.1 h
def DN (P : Program) (w : World) (a : Addr) (xs : List (NK × Addr × Value)) : HO :=
  .ext fun h => xs.length ≤ sizeLine ∧ (a == sysModules) = false ∧ ∃ o es ep, h.get? a = some o ∧ o.ExactDict ∧ o.data = .dict es ep ∧ es.toList = xs.map (entryOfKey (nestKind P w)) ∧ (xs.map (·.1)).Nodup
end M
end L2
namespace L2
open PySem PySem.Spec PyProof.Rows
structure Mvd (fs : List Addr) (e T : Addr) (h h' : Heap) : Prop where
  keep : ∀ b o, b ≠ e → b ≠ T → b ∉ fs → h.get? b = some o → h'.get? b = some o
  slot : ∀ b o, b ≠ e → b ≠ T → h.get? b = some o → ∃ sl, h'.get? b = some { o with slots := sl }
  there : ∀ b o, h.get? b = some o → ∃ o', h'.get? b = some o'
theorem Mvd.new {fs : List Addr} {e T T' : Addr} {h h1 h2 : Heap} (a : Mvd fs e T h h1) (n : h.get? T' = none) (b : Mvd fs e T' h1 h2) : Mvd fs e T h h2 := by
  have ne : ∀ c o, h.get? c = some o → c ≠ T' := fun c o q z => by rw [z, n] at q; cases q
  exact ⟨fun c o h1 h2 h3 q => b.keep c o h1 (ne c o q) h3 (a.keep c o h1 h2 h3 q), fun c o h1 h2 q => by
    obtain ⟨sl, e1⟩ := a.slot c o h1 h2 q
    obtain ⟨sl', e2⟩ := b.slot c _ h1 (ne c o q) e1
    exact ⟨sl', e2⟩, fun c o q => let ⟨o', e1⟩ := a.there c o q; b.there c o' e1⟩
end L2
namespace L2
open PySem PySem.Spec PyProof.Rows
abbrev bmV : List Value := [.type "ValueError", .type "Exception", .type "BaseException", .type "object"]
def qn : List Str := ["__class__", "__getattribute__", "__getattr__"]
end L2
namespace L2
namespace M
open PySem PySem.Spec PyProof.Rows
inductive MV where
  | non | bl (b : Bool) | int (i : Int) | str (x : List Nat) | tup (ds : List MV) | scr (ds : List MV) | loc (l : Nat) | typ (n : String)
instance : Inhabited MV := ⟨.non⟩
inductive MO where
  | lst (ds : List MV) | dic (kvs : List (MV × MV)) | ins (c : Str) (fs : List (Str × MV))
abbrev Sto := List MO
def SqF (K : PySem.W.Frag) (H : Hp) (a : Addr) (xs : List V) : Prop :=
  (∃ o, H a = some (.frz o (.lst xs))) ∨
    ∃ (o : Obj) (its : Array Value) (n : Nat), K.lookup a = some o ∧ o.cls = .type "list" ∧ o.dict = none ∧ o.data = .seq its n ∧ its.size ≤ sizeLine ∧ Vals xs its.toList
theorem SqF.l {K : PySem.W.Frag} {H : Hp} {a : Addr} {xs : List V} (h : SqF K H a xs) : SqL K H a xs := by
  rcases h with ⟨o, h⟩ | h
  · exact .inl (.inr ⟨o, h⟩)
  · exact .inr h
mutual
def Den (K : PySem.W.Frag) (α : List Addr) (H : Hp) : MV → V → Prop
  | .non, v => v = .non
  | .bl b, v => v = .bl b
  | .int i, v => v = .int i
  | .str x, v => v = .str (mkS x)
  | .tup ds, v => ∃ a vs, v = .ref a ∧ SqT K H a vs ∧ DenL K α H ds vs
  | .scr ds, v => ∃ a vs, v = .ref a ∧ SqF K H a vs ∧ DenL K α H ds vs
  | .loc l, v => ∃ a, v = .ref a ∧ α[l]? = some a
  | .typ n, v => v = .ty n
def DenL (K : PySem.W.Frag) (α : List Addr) (H : Hp) : List MV → List V → Prop
  | [], vs => vs = []
  | d :: ds, vs => ∃ v r, vs = v :: r ∧ Den K α H d v ∧ DenL K α H ds r
end
structure Ex0 (α : List Addr) (H : Hp) (α' : List Addr) (H' : Hp) : Prop where
  pre : ∃ t, α' = α ++ t
  tup : ∀ b xs, H b = some (.tup xs) → H' b = some (.tup xs)
  frz : ∀ b o u, H b = some (.frz o u) → H' b = some (.frz o u)
structure Ext (α : List Addr) (H : Hp) (α' : List Addr) (H' : Hp) : Prop extends Ex0 α H α' H' where
  new : ∀ b ∈ α', b ∈ α ∨ H b = none
  keep : ∀ b o, H b = some o → b ∉ α → H' b = some o
  has : ∀ b o, H b = some o → ∃ o', H' b = some o'
section
variable {K : PySem.W.Frag} {α α' α'' : List Addr} {H H' H'' : Hp}
theorem Ext.refl (α : List Addr) (H : Hp) : Ext α H α H := ⟨⟨⟨[], by simp⟩, fun _ _ h => h, fun _ _ _ h => h⟩, fun b h => .inl h, fun _ _ h _ => h, fun _ o h => ⟨o, h⟩⟩
theorem Ex0.grow (α t : List Addr) (H : Hp) : Ex0 α H (α ++ t) H := ⟨⟨t, rfl⟩, fun _ _ h => h, fun _ _ _ h => h⟩
theorem Ext.free (x : Ext α H α' H') {b : Addr} (h : H' b = none) : H b = none := by
  cases e : H b with
  | none => rfl
  | some o => obtain ⟨o', h'⟩ := x.has b o e; rw [h] at h'; cases h'
theorem Ext.out (x : Ext α H α' H') {b : Addr} {o : HO} (h : H b = some o) (n : b ∉ α) : b ∉ α' := fun z => by
  rcases x.new b z with z | z
  · exact n z
  · rw [h] at z; cases z
theorem Ext.trans (x : Ext α H α' H') (y : Ext α' H' α'' H'') : Ext α H α'' H'' where
  pre := by
    obtain ⟨t, rfl⟩ := x.pre
    obtain ⟨u, rfl⟩ := y.pre
    exact ⟨t ++ u, by rw [List.append_assoc]⟩
  new := fun b h => (y.new b h).elim (x.new b) fun z => .inr (x.free z)
  keep := fun b o h n => y.keep b o (x.keep b o h n) (x.out h n)
  has := fun b o h => let ⟨o', h'⟩ := x.has b o h; y.has b o' h'
  tup := fun b xs h => y.tup b xs (x.tup b xs h)
  frz := fun b o u h => y.frz b o u (x.frz b o u h)
theorem Ex0.at (x : Ex0 α H α' H') {l : Nat} {a : Addr} (h : α[l]? = some a) : α'[l]? = some a := by
  obtain ⟨t, rfl⟩ := x.pre
  rw [List.getElem?_append_left (List.getElem?_eq_some_iff.mp h).1]
  exact h
theorem Ex0.sqT (x : Ex0 α H α' H') {a : Addr} {vs : List V} (q : SqT K H a vs) : SqT K H' a vs := by
  rcases q with (q | ⟨o, q⟩) | q
  · exact .inl (.inl (x.tup a vs q))
  · exact .inl (.inr ⟨o, x.frz a o _ q⟩)
  · exact .inr q
theorem Ex0.sqF (x : Ex0 α H α' H') {a : Addr} {vs : List V} (q : SqF K H a vs) : SqF K H' a vs := by
  rcases q with ⟨o, q⟩ | q
  · exact .inl ⟨o, x.frz a o _ q⟩
  · exact .inr q
mutual
theorem Den.ex0 (x : Ex0 α H α' H') : ∀ {d : MV} {v : V}, Den K α H d v → Den K α' H' d v
  | .non, _, q => by unfold Den at q ⊢; exact q
  | .bl _, _, q => by unfold Den at q ⊢; exact q
  | .int _, _, q => by unfold Den at q ⊢; exact q
  | .str _, _, q => by unfold Den at q ⊢; exact q
  | .typ _, _, q => by unfold Den at q ⊢; exact q
  | .loc _, _, q => by
    unfold Den at q ⊢
    obtain ⟨a, e, h⟩ := q
    exact ⟨a, e, x.at h⟩
  | .tup ds, _, q => by
    unfold Den at q ⊢
    obtain ⟨a, vs, e, s, l⟩ := q
    exact ⟨a, vs, e, x.sqT s, DenL.ex0 x l⟩
  | .scr ds, _, q => by
    unfold Den at q ⊢
    obtain ⟨a, vs, e, s, l⟩ := q
    exact ⟨a, vs, e, x.sqF s, DenL.ex0 x l⟩
theorem DenL.ex0 (x : Ex0 α H α' H') : ∀ {ds : List MV} {vs : List V}, DenL K α H ds vs → DenL K α' H' ds vs
  | [], _, q => by unfold DenL at q ⊢; exact q
  | d :: ds, _, q => by
    unfold DenL at q ⊢
    obtain ⟨v, r, e, a, l⟩ := q
    exact ⟨v, r, e, Den.ex0 x a, DenL.ex0 x l⟩
end
theorem Den.ext (x : Ext α H α' H') {d : MV} {v : V} (q : Den K α H d v) : Den K α' H' d v := q.ex0 x.toEx0
theorem DenL.ext (x : Ext α H α' H') {d : List MV} {v : List V} (q : DenL K α H d v) : DenL K α' H' d v := q.ex0 x.toEx0
theorem den_non : Den K α H .non .non := by unfold Den; rfl
theorem den_bl (b : Bool) : Den K α H (.bl b) (.bl b) := by unfold Den; rfl
theorem den_int (i : Int) : Den K α H (.int i) (.int i) := by unfold Den; rfl
theorem den_str (x : List Nat) : Den K α H (.str x) (.str (mkS x)) := by unfold Den; rfl
theorem den_typ (n : String) : Den K α H (.typ n) (.ty n) := by unfold Den; rfl
theorem den_tup {ds : List MV} {a : Addr} {vs : List V} (s : SqT K H a vs) (l : DenL K α H ds vs) : Den K α H (.tup ds) (.ref a) := by unfold Den; exact ⟨a, vs, rfl, s, l⟩
theorem den_scr {ds : List MV} {a : Addr} {vs : List V} (s : SqF K H a vs) (l : DenL K α H ds vs) : Den K α H (.scr ds) (.ref a) := by unfold Den; exact ⟨a, vs, rfl, s, l⟩
theorem den_loc {l : Nat} {a : Addr} (h : α[l]? = some a) : Den K α H (.loc l) (.ref a) := by unfold Den; exact ⟨a, rfl, h⟩
theorem of_non {v : V} (d : Den K α H .non v) : v = .non := by unfold Den at d; exact d
theorem of_bl {b : Bool} {v : V} (d : Den K α H (.bl b) v) : v = .bl b := by unfold Den at d; exact d
theorem of_int {i : Int} {v : V} (d : Den K α H (.int i) v) : v = .int i := by unfold Den at d; exact d
theorem of_str {x : List Nat} {v : V} (d : Den K α H (.str x) v) : v = .str (mkS x) := by unfold Den at d; exact d
theorem of_typ {n : String} {v : V} (d : Den K α H (.typ n) v) : v = .ty n := by unfold Den at d; exact d
theorem of_tup {ds : List MV} {v : V} (d : Den K α H (.tup ds) v) : ∃ a vs, v = .ref a ∧ SqT K H a vs ∧ DenL K α H ds vs := by unfold Den at d; exact d
theorem of_scr {ds : List MV} {v : V} (d : Den K α H (.scr ds) v) : ∃ a vs, v = .ref a ∧ SqF K H a vs ∧ DenL K α H ds vs := by unfold Den at d; exact d
theorem of_loc {l : Nat} {v : V} (d : Den K α H (.loc l) v) : ∃ a, v = .ref a ∧ α[l]? = some a := by unfold Den at d; exact d
theorem denl_nil : DenL K α H [] [] := by unfold DenL; rfl
theorem denl_cons {d : MV} {v : V} {ds : List MV} {vs : List V} (a : Den K α H d v) (l : DenL K α H ds vs) : DenL K α H (d :: ds) (v :: vs) := by unfold DenL; exact ⟨v, vs, rfl, a, l⟩
theorem DenL.uncons {d : MV} {ds : List MV} {vs : List V} (l : DenL K α H (d :: ds) vs) : ∃ v r, vs = v :: r ∧ Den K α H d v ∧ DenL K α H ds r := by unfold DenL at l; exact l
theorem DenL.isnil {vs : List V} (l : DenL K α H [] vs) : vs = [] := by unfold DenL at l; exact l
theorem DenL.length : ∀ {ds : List MV} {vs : List V}, DenL K α H ds vs → vs.length = ds.length
  | [], _, q => by rw [q.isnil]; rfl
  | d :: ds, _, q => by
    obtain ⟨v, r, rfl, _, l⟩ := q.uncons
    rw [List.length_cons, List.length_cons, DenL.length l]
theorem DenL.append : ∀ {ds es : List MV} {vs us : List V}, DenL K α H ds vs → DenL K α H es us → DenL K α H (ds ++ es) (vs ++ us)
  | [], _, _, _, q, l => by rw [q.isnil]; exact l
  | d :: ds, _, _, _, q, l => by
    obtain ⟨v, r, rfl, a, l'⟩ := q.uncons
    exact denl_cons a (DenL.append l' l)
theorem DenL.drop : ∀ {ds : List MV} {vs : List V} (n : Nat), DenL K α H ds vs → DenL K α H (ds.drop n) (vs.drop n)
  | _, _, 0, q => q
  | [], _, n + 1, q => by rw [q.isnil]; exact denl_nil
  | d :: ds, _, n + 1, q => by
    obtain ⟨v, r, rfl, _, l⟩ := q.uncons
    exact DenL.drop n l
theorem DenL.take : ∀ {ds : List MV} {vs : List V} (n : Nat), DenL K α H ds vs → DenL K α H (ds.take n) (vs.take n)
  | _, _, 0, q => denl_nil
  | [], _, n + 1, q => by rw [q.isnil]; exact denl_nil
  | d :: ds, _, n + 1, q => by
    obtain ⟨v, r, rfl, a, l⟩ := q.uncons
    exact denl_cons a (DenL.take n l)
theorem DenL.set {d : MV} {v : V} (a : Den K α H d v) : ∀ {ds : List MV} {vs : List V} (n : Nat), DenL K α H ds vs → DenL K α H (ds.set n d) (vs.set n v)
  | [], _, _, q => by rw [q.isnil]; exact denl_nil
  | e :: ds, _, 0, q => by
    obtain ⟨v', r, rfl, a', l⟩ := q.uncons
    exact denl_cons a l
  | e :: ds, _, n + 1, q => by
    obtain ⟨v', r, rfl, a', l⟩ := q.uncons
    exact denl_cons a' (DenL.set a n l)
theorem DenL.get : ∀ {ds : List MV} {vs : List V} {i : Nat} {v : V}, DenL K α H ds vs → vs[i]? = some v → ∃ d, ds[i]? = some d ∧ Den K α H d v
  | [], _, _, _, q, e => by rw [q.isnil] at e; simp at e
  | d :: ds, _, 0, _, q, e => by
    obtain ⟨v, r, rfl, a, l⟩ := q.uncons
    simp at e; subst e
    exact ⟨d, rfl, a⟩
  | d :: ds, _, i + 1, _, q, e => by
    obtain ⟨v, r, rfl, a, l⟩ := q.uncons
    obtain ⟨d', h1, h2⟩ := DenL.get (i := i) l (by simpa using e)
    exact ⟨d', by simpa using h1, h2⟩
theorem DenL.at {ds : List MV} {vs : List V} {i : Nat} {d : MV} (q : DenL K α H ds vs) (e : ds[i]? = some d) : ∃ v, vs[i]? = some v ∧ Den K α H d v := by
  have hi : i < ds.length := (List.getElem?_eq_some_iff.mp e).1
  have hv : i < vs.length := by rw [q.length]; exact hi
  obtain ⟨d', h1, h2⟩ := q.get (List.getElem?_eq_getElem hv)
  rw [e] at h1; cases h1
  exact ⟨_, List.getElem?_eq_getElem hv, h2⟩
theorem DenL.cut {ds : List MV} {vs : List V} (q : DenL K α H ds vs) (lo hi : Option Int) : DenL K α H (cutL ds lo hi) (cutV vs lo hi) := by
  unfold cutL cutV
  rw [q.length]
  exact (q.drop _).take _
theorem denl_ints : ∀ (ns : List Int), DenL K α H (ns.map MV.int) (ns.map V.int)
  | [] => denl_nil
  | b :: bs => denl_cons (den_int b) (denl_ints bs)
end
structure Gm where
  K : PySem.W.Frag
  mg : Str → Option Value
  P : Program
  w : World
abbrev _root_.L2.Cx.g (X : Cx) : Gm := ⟨X.K, X.mg, X.prog, X.w⟩
inductive DenF (K : PySem.W.Frag) (α : List Addr) (H : Hp) : List (Str × MV) → List (Str × V) → Prop
  | nil : DenF K α H [] []
  | cons {x : Str} {d : MV} {v : V} {fs gs} : Den K α H d v → DenF K α H fs gs → DenF K α H ((x, d) :: fs) ((x, v) :: gs)
theorem DenF.ex0 {K : PySem.W.Frag} {α α' : List Addr} {H H' : Hp} (x : Ex0 α H α' H') : ∀ {fs gs}, DenF K α H fs gs → DenF K α' H' fs gs
  | _, _, .nil => .nil
  | _, _, .cons a l => .cons (a.ex0 x) (DenF.ex0 x l)
def KeyD : MV → Key → Prop
  | .int i, k => k = .inl i
  | .str x, k => k = .inr (mkS x)
  | _, _ => False
inductive DenK (K : PySem.W.Frag) (α : List Addr) (H : Hp) : List (MV × MV) → List (Key × V) → Prop
  | nil : DenK K α H [] []
  | cons {k : MV} {k' : Key} {d : MV} {v : V} {fs gs} : KeyD k k' → Den K α H d v → DenK K α H fs gs → DenK K α H ((k, d) :: fs) ((k', v) :: gs)
theorem DenK.ex0 {K : PySem.W.Frag} {α α' : List Addr} {H H' : Hp} (x : Ex0 α H α' H') : ∀ {fs gs}, DenK K α H fs gs → DenK K α' H' fs gs
  | _, _, .nil => .nil
  | _, _, .cons k a l => .cons k (a.ex0 x) (DenK.ex0 x l)
mutual
def nkOf : MV → Option NK
  | .int i => some (.key (.inl i))
  | .str x => some (.key (.inr (mkS x)))
  | .tup ds => (nkOfL ds).map .tup
  | _ => none
def nkOfL : List MV → Option (List NK)
  | [] => some []
  | d :: ds => (nkOf d).bind fun k => (nkOfL ds).map (k :: ·)
end
inductive DenN (K : PySem.W.Frag) (α : List Addr) (H : Hp) : List (MV × MV) → List (NK × Addr × Value) → Prop
  | nil : DenN K α H [] []
  | cons {k : MV} {nk : NK} {a : Addr} {d : MV} {v : V} {u : Value} {fs xs} : nkOf k = some nk → depN nk ≤ 4 → Den K α H k (.ref a) → Den K α H d v → RelV v u → DenN K α H fs xs → DenN K α H ((k, d) :: fs) ((nk, a, u) :: xs)
theorem DenN.ex0 {K : PySem.W.Frag} {α α' : List Addr} {H H' : Hp} (x : Ex0 α H α' H') : ∀ {fs xs}, DenN K α H fs xs → DenN K α' H' fs xs
  | _, _, .nil => .nil
  | _, _, .cons k e a d r l => .cons k e (a.ex0 x) (d.ex0 x) r (DenN.ex0 x l)
def ObD (g : Gm) (α : List Addr) (H : Hp) (a : Addr) : MO → Prop
  | .lst ds => ∃ vs, H a = some (.lst vs) ∧ DenL g.K α H ds vs
  | .dic kvs => (∃ ks, H a = some (.dK ks) ∧ DenK g.K α H kvs ks) ∨ ∃ xs, H a = some (DN g.P g.w a xs) ∧ DenN g.K α H kvs xs
  | .ins c fs => ∃ C gs, g.mg c = some (.ref C) ∧ DenF g.K α H fs gs ∧
      ∃ oe, H a = some (.ext fun h => h.get? a = some oe) ∧ oe.cls = .ref C ∧ (fs = [] ∨ ∃ dx od, oe.dict = some dx ∧ H dx = some (.frz od (.xd gs)))
theorem ObD.there {g : Gm} {α : List Addr} {H : Hp} {a : Addr} {o : MO} (h : ObD g α H a o) : ∃ ho, H a = some ho ∧ (∀ xs, ho ≠ .tup xs) ∧ ∀ ob u, ho ≠ .frz ob u := by
  cases o with
  | lst ds => obtain ⟨vs, h, _⟩ := h; exact ⟨_, h, (fun xs z => by cases z), fun _ _ z => by cases z⟩
  | dic ds =>
    rcases h with ⟨vs, h, _⟩ | ⟨vs, h, _⟩
    · exact ⟨_, h, (fun xs z => by cases z), fun _ _ z => by cases z⟩
    · exact ⟨_, h, (fun xs z => by cases z), fun _ _ z => by cases z⟩
  | ins c ds =>
    obtain ⟨_, _, _, _, _, h, _⟩ := h
    exact ⟨_, h, (fun xs z => by cases z), fun _ _ z => by cases z⟩
theorem ObD.move {g : Gm} {α α' : List Addr} {H H' : Hp} {a : Addr} {o : MO} (h : ObD g α H a o) (x : Ex0 α H α' H') (e : H' a = H a) : ObD g α' H' a o := by
  cases o with
  | lst ds => obtain ⟨vs, h, l⟩ := h; exact ⟨vs, e.trans h, l.ex0 x⟩
  | dic ds =>
    rcases h with ⟨vs, h, l⟩ | ⟨vs, h, l⟩
    · exact .inl ⟨vs, e.trans h, l.ex0 x⟩
    · exact .inr ⟨vs, e.trans h, l.ex0 x⟩
  | ins c ds =>
    obtain ⟨C, gs, m, l, oe, h, hc, hf⟩ := h
    exact ⟨C, gs, m, l.ex0 x, oe, e.trans h, hc, hf.imp id fun ⟨dx, od, h1, h2⟩ => ⟨dx, od, h1, x.frz _ _ _ h2⟩⟩
structure Wd (g : Gm) (α : List Addr) (S : Sto) (H : Hp) : Prop where
  len : α.length = S.length
  nd : α.Nodup
  obj : ∀ (l : Nat) (a : Addr) (o : MO), α[l]? = some a → S[l]? = some o → ObD g α H a o
section
variable {g : Gm} {α α' : List Addr} {S S' : Sto} {H H' : Hp}
theorem Wd.at (w : Wd g α S H) {l : Nat} {o : MO} (h : S[l]? = some o) : ∃ a, α[l]? = some a ∧ ObD g α H a o := by
  have hl : l < α.length := by rw [w.len]; exact (List.getElem?_eq_some_iff.mp h).1
  exact ⟨α[l], List.getElem?_eq_getElem hl, w.obj l _ o (List.getElem?_eq_getElem hl) h⟩
theorem Wd.of (w : Wd g α S H) {l : Nat} {a : Addr} (h : α[l]? = some a) : ∃ o, S[l]? = some o ∧ ObD g α H a o := by
  have hl : l < S.length := by rw [← w.len]; exact (List.getElem?_eq_some_iff.mp h).1
  exact ⟨S[l], List.getElem?_eq_getElem hl, w.obj l a _ h (List.getElem?_eq_getElem hl)⟩
theorem Wd.mem (w : Wd g α S H) {a : Addr} (h : a ∈ α) : ∃ ho, H a = some ho ∧ (∀ xs, ho ≠ .tup xs) ∧ ∀ ob u, ho ≠ .frz ob u := by
  obtain ⟨l, hl⟩ := List.getElem?_of_mem h
  obtain ⟨o, _, q⟩ := w.of hl
  exact q.there
theorem Wd.newx (w : Wd g α S H) {p : Addr} {o : HO} (hp : H p = none) : Ext α H α (upd H p o) where
  pre := ⟨[], by simp⟩
  new := fun b h => .inl h
  keep := fun b o h _ => by rw [upd_ne (ne_of_none h hp)]; exact h
  has := fun b o h => ⟨o, by rw [upd_ne (ne_of_none h hp)]; exact h⟩
  tup := fun b o h => by rw [upd_ne (ne_of_none h hp)]; exact h
  frz := fun b o u h => by rw [upd_ne (ne_of_none h hp)]; exact h
theorem Wd.fresh (w : Wd g α S H) {p : Addr} (hp : H p = none) : p ∉ α := fun z => by
  obtain ⟨_, h, _⟩ := w.mem z; rw [hp] at h; cases h
theorem Wd.new (w : Wd g α S H) {p : Addr} {o : HO} (hp : H p = none) : Wd g α S (upd H p o) :=
  ⟨w.len, w.nd, fun l a ob h1 h2 => (w.obj l a ob h1 h2).move (w.newx hp).toEx0 (upd_ne fun z => w.fresh hp (by rw [← z]; exact List.mem_of_getElem? h1))⟩
theorem Wd.writex (w : Wd g α S H) {l : Nat} {a : Addr} {o : HO} (h : α[l]? = some a) : Ext α H α (upd H a o) where
  pre := ⟨[], by simp⟩
  new := fun b h => .inl h
  keep := fun b o e n => by rw [upd_ne fun z => n (by rw [z]; exact List.mem_of_getElem? h)]; exact e
  has := fun b o e => by
    by_cases z : b = a
    · subst z; exact ⟨_, upd_same⟩
    · exact ⟨o, by rw [upd_ne z]; exact e⟩
  tup := fun b xs e => by
    obtain ⟨ho, h1, h2, _⟩ := w.mem (List.mem_of_getElem? h)
    rw [upd_ne fun z => h2 xs (by subst z; rw [e] at h1; exact (Option.some.inj h1).symm)]; exact e
  frz := fun b ob u e => by
    obtain ⟨ho, h1, _, h2⟩ := w.mem (List.mem_of_getElem? h)
    rw [upd_ne fun z => h2 ob u (by subst z; rw [e] at h1; exact (Option.some.inj h1).symm)]; exact e
theorem Wd.ne (w : Wd g α S H) {l m : Nat} {a b : Addr} (h : α[l]? = some a) (h' : α[m]? = some b) (n : l ≠ m) : a ≠ b := by
  rintro rfl
  obtain ⟨h1, e1⟩ := List.getElem?_eq_some_iff.mp h
  obtain ⟨h2, e2⟩ := List.getElem?_eq_some_iff.mp h'
  exact n ((List.getElem_inj w.nd).mp (e1.trans e2.symm))
theorem Wd.write (w : Wd g α S H) {l : Nat} {a : Addr} {o : HO} {ob : MO} (h : α[l]? = some a) (q : ObD g α (upd H a o) a ob) : Wd g α (S.set l ob) (upd H a o) where
  len := by rw [List.length_set]; exact w.len
  nd := w.nd
  obj := fun m b ob' h1 h2 => by
    by_cases e : l = m
    · subst e
      rw [h] at h1
      have hl : l < S.length := by rw [← w.len]; exact (List.getElem?_eq_some_iff.mp h).1
      rw [List.getElem?_set_self hl] at h2
      rw [← Option.some.inj h1, ← Option.some.inj h2]
      exact q
    · rw [List.getElem?_set_ne e] at h2
      exact (w.obj m b ob' h1 h2).move (w.writex h).toEx0 (upd_ne (w.ne h1 h fun z => e z.symm))
theorem Wd.enterx (w : Wd g α S H) {H0 : Hp} {α0 : List Addr} (x : Ext α0 H0 α H) {b : Addr} (h0 : H0 b = none) (n : b ∉ α) : Ext α0 H0 (α ++ [b]) H where
  pre := let ⟨t, e⟩ := x.pre; ⟨t ++ [b], by rw [e, List.append_assoc]⟩
  new := fun c hc => (List.mem_append.mp hc).elim (x.new c) fun z => .inr (by rw [List.mem_singleton.mp z]; exact h0)
  keep := x.keep
  has := x.has
  tup := x.tup
  frz := x.frz
theorem Wd.enter (w : Wd g α S H) {b : Addr} {ds : List MV} {vs : List V} (h : H b = some (.lst vs)) (n : b ∉ α) (l : DenL g.K α H ds vs) : Wd g (α ++ [b]) (S ++ [.lst ds]) H where
  len := by rw [List.length_append, List.length_append, w.len]; rfl
  nd := List.nodup_append.mpr ⟨w.nd, by simp, fun a ha c hc => by rw [List.mem_singleton.mp hc]; rintro rfl; exact n ha⟩
  obj := fun m a o h1 h2 => by
    by_cases hm : m < α.length
    · rw [List.getElem?_append_left hm] at h1
      rw [List.getElem?_append_left (by rw [← w.len]; exact hm)] at h2
      exact (w.obj m a o h1 h2).move (Ex0.grow α [b] H) rfl
    · have hm' : m = α.length := by
        have := (List.getElem?_eq_some_iff.mp h1).1
        rw [List.length_append, List.length_singleton] at this
        omega
      subst hm'
      rw [List.getElem?_append_right (Nat.le_refl _), Nat.sub_self] at h1
      rw [List.getElem?_append_right (by rw [w.len]; exact Nat.le_refl _), w.len, Nat.sub_self] at h2
      cases h1; cases h2
      exact ⟨vs, h, l.ex0 (Ex0.grow α [b] H)⟩
end
end M
end L2
namespace L2
namespace M
open PySem PySem.Spec PyProof.Rows
inductive R (β : Type) where
  | ok (b : β) (S : Sto) | exc (c : Str) (fs : List (Str × MV)) (S : Sto) | no
def R.bind {β γ : Type} : R β → (β → Sto → R γ) → R γ
  | .ok b S, k => k b S
  | .exc c fs S, _ => .exc c fs S
  | .no, _ => .no
theorem R.bind_ok {β γ : Type} (b : β) (S : Sto) (k : β → Sto → R γ) : (R.ok b S).bind k = k b S := rfl
inductive Er where
  | val (d : MV) | new (ds : List MV)
instance : Inhabited Er := ⟨.val .non⟩
def DenX (K : PySem.W.Frag) (α : List Addr) (H : Hp) : Er → V → Prop
  | .val d, v => Den K α H d v
  | .new ds, v => ∃ b vs, v = .ref b ∧ H b = some (.lst vs) ∧ b ∉ α ∧ DenL K α H ds vs
def DenE (K : PySem.W.Frag) (H : Hp) (α' : List Addr) (H' : Hp) (r : Er) (v : V) : Prop := DenX K α' H' r v ∧ match r with | .new _ => ∀ a, v = .ref a → H a = none | _ => True
section
variable {K : PySem.W.Frag} {α α' : List Addr} {H H0 H' : Hp}
theorem DenX.ext (x : Ext α H α' H') : ∀ {r : Er} {v : V}, DenX K α H r v → DenX K α' H' r v
  | .val d, _, q => Den.ext x q
  | .new ds, _, ⟨b, vs, e, h, n, l⟩ => ⟨b, vs, e, x.keep b _ h n, x.out h n, l.ext x⟩
theorem DenE.val {d : MV} {v : V} (q : Den K α' H' d v) : DenE K H α' H' (.val d) v := ⟨q, trivial⟩
theorem DenE.back (hf : ∀ b, H b = none → H0 b = none) {r : Er} {v : V} (q : DenE K H α' H' r v) : DenE K H0 α' H' r v := by
  refine ⟨q.1, ?_⟩
  cases r with
  | new ds => exact fun a e => hf a (q.2 a e)
  | _ => trivial
theorem DenE.ext {α'' : List Addr} {H'' : Hp} (x : Ext α' H' α'' H'') {r : Er} {v : V} (q : DenE K H α' H' r v) : DenE K H α'' H'' r v := ⟨q.1.ext x, q.2⟩
end
section
variable {K : PySem.W.Frag} {α : List Addr} {H : Hp} {v : V}
theorem xe_non (d : DenX K α H (.val .non) v) : v = .non := of_non (K := K) (α := α) (H := H) d
theorem xe_bl {b : Bool} (d : DenX K α H (.val (.bl b)) v) : v = .bl b := of_bl (K := K) (α := α) (H := H) d
theorem xe_int {b : Int} (d : DenX K α H (.val (.int b)) v) : v = .int b := of_int (K := K) (α := α) (H := H) d
theorem xe_str {b : List Nat} (d : DenX K α H (.val (.str b)) v) : v = .str (mkS b) := of_str (K := K) (α := α) (H := H) d
theorem xe_typ {b : String} (d : DenX K α H (.val (.typ b)) v) : v = .ty b := of_typ (K := K) (α := α) (H := H) d
theorem xe_tup {ds : List MV} (d : DenX K α H (.val (.tup ds)) v) : ∃ a vs, v = .ref a ∧ SqT K H a vs ∧ DenL K α H ds vs := of_tup (K := K) (α := α) (H := H) d
theorem xe_scr {ds : List MV} (d : DenX K α H (.val (.scr ds)) v) : ∃ a vs, v = .ref a ∧ SqF K H a vs ∧ DenL K α H ds vs := of_scr (K := K) (α := α) (H := H) d
theorem xe_loc {l : Nat} (d : DenX K α H (.val (.loc l)) v) : ∃ a, v = .ref a ∧ α[l]? = some a := of_loc (K := K) (α := α) (H := H) d
end
def newsA : List Er → List V → List Addr
  | .new _ :: rs, .ref b :: vs => b :: newsA rs vs
  | _ :: rs, _ :: vs => newsA rs vs
  | _, _ => []
inductive ArgsE (K : PySem.W.Frag) (H : Hp) (α' : List Addr) (H' : Hp) : List Er → List V → Prop
  | nil : ArgsE K H α' H' [] []
  | cons {r v rs vs} : DenE K H α' H' r v → (∀ ds b, r = .new ds → v = .ref b → b ∉ newsA rs vs) → ArgsE K H α' H' rs vs → ArgsE K H α' H' (r :: rs) (v :: vs)
theorem ArgsE.nones {K : PySem.W.Frag} {H : Hp} {α' : List Addr} {H' : Hp} : ∀ {rs vs}, ArgsE K H α' H' rs vs → ∀ b ∈ newsA rs vs, H b = none
  | _, _, .nil => fun b h => by simp [newsA] at h
  | .val d :: _, v :: _, .cons a n l => fun b h => ArgsE.nones l b (by simpa [newsA] using h)
  | .new ds :: _, v :: _, .cons a n l => fun b h => by
    obtain ⟨c, vs, rfl, _⟩ := a.1
    rcases List.mem_cons.mp (show b ∈ c :: newsA _ _ from h) with rfl | h
    · exact a.2 _ rfl
    · exact ArgsE.nones l b h
theorem ArgsE.back {K : PySem.W.Frag} {H H0 : Hp} {α' : List Addr} {H' : Hp} (hf : ∀ b, H b = none → H0 b = none) : ∀ {rs vs}, ArgsE K H α' H' rs vs → ArgsE K H0 α' H' rs vs
  | _, _, .nil => .nil
  | _, _, .cons a n l => .cons (a.back hf) n (ArgsE.back hf l)
theorem ArgsE.length {K : PySem.W.Frag} {H : Hp} {α' : List Addr} {H' : Hp} : ∀ {rs vs}, ArgsE K H α' H' rs vs → vs.length = rs.length
  | _, _, .nil => rfl
  | _, _, .cons _ _ l => by rw [List.length_cons, List.length_cons, ArgsE.length l]
class Dn (β : Type) (τ : outParam Type) where
  d : Gm → Hp → List Addr → Sto → Hp → β → τ → Prop
  back : ∀ {g : Gm} {H H0 : Hp} {α' : List Addr} {S' : Sto} {H' : Hp} {b : β} {u : τ}, (∀ b, H b = none → H0 b = none) → d g H α' S' H' b u → d g H0 α' S' H' b u
instance : Dn Er V := ⟨fun g H α' _ H' r v => DenE g.K H α' H' r v, fun hf q => q.back hf⟩
instance : Dn Bool Bool := ⟨fun _ _ _ _ _ b u => u = b, fun _ q => q⟩
instance : Dn (List Er) (List V) := ⟨fun g H α' _ H' r v => ArgsE g.K H α' H' r v, fun hf q => q.back hf⟩
instance : Dn (Option Int) (Option Int) := ⟨fun _ _ _ _ _ b u => u = b, fun _ q => q⟩
abbrev XW := Str → List (Str × MV) → Sto → List Addr → Hp → Prop
abbrev W0 : XW := fun _ _ _ _ _ => False
def Post {β τ : Type} [Dn β τ] (g : Gm) (W : XW) (α : List Addr) (H : Hp) : R β → (τ → Hp → Prop) → Prop
  | .ok b S, Q => ∀ u α' H', Ext α H α' H' → Wd g α' S H' → Dn.d g H α' S H' b u → Q u H'
  | .exc c fs S, _ => ∀ α' H', Ext α H α' H' → Wd g α' S H' → W c fs S α' H'
  | .no, _ => False
section
variable {β τ γ υ : Type} [Dn β τ] [Dn γ υ] {g : Gm} {W : XW} {α α' : List Addr} {H H' : Hp}
theorem Post.shift (x : Ext α H α' H') : ∀ {m : R β} {Q : τ → Hp → Prop}, Post g W α H m Q → Post g W α' H' m Q
  | .ok b S, Q, q => fun u α2 H2 x2 w2 d2 => q u α2 H2 (x.trans x2) w2 (Dn.back (fun b h => x.free h) d2)
  | .exc c fs S, _, q => fun α2 H2 x2 w2 => q α2 H2 (x.trans x2) w2
  | .no, _, q => q
theorem Post.bind {m : R β} {k : β → Sto → R γ} {Q : υ → Hp → Prop} {Q' : τ → Hp → Prop} (q : Post g W α H (m.bind k) Q)
    (f : ∀ u b S1 α1 H1, m = .ok b S1 → Ext α H α1 H1 → Wd g α1 S1 H1 → Dn.d g H α1 S1 H1 b u → Post g W α H (k b S1) Q → Q' u H1) : Post g W α H m Q' := by
  cases m with
  | ok b S => exact fun u α1 H1 x w d => f u b S α1 H1 rfl x w d q
  | exc c fs S => exact q
  | no => exact q
theorem Post.here {b : β} {S : Sto} {Q : τ → Hp → Prop} {u : τ} (q : Post g W α H (.ok b S) Q) (w : Wd g α S H) (d : Dn.d g H α S H b u) : Q u H := q u α H (Ext.refl α H) w d
end
theorem Post.val {g : Gm} {W : XW} {α : List Addr} {H : Hp} {d : MV} {S : Sto} {Q : VK} {v : V} (q : Post g W α H (.ok (Er.val d) S) Q) (w : Wd g α S H) (k : Den g.K α H d v) : Q v H := q.here w (DenE.val k)
theorem Post.newl {g : Gm} {W : XW} {α : List Addr} {H : Hp} {ds : List MV} {S : Sto} {Q : VK} {vs : List V} {p : Addr} (q : Post g W α H (.ok (Er.new ds) S) Q) (w : Wd g α S H) (hp : H p = none) (l : DenL g.K α H ds vs) : Q (.ref p) (upd H p (.lst vs)) :=
  q (.ref p) α _ (w.newx hp) (w.new hp) ⟨⟨p, vs, rfl, upd_same, w.fresh hp, l.ext (w.newx hp)⟩, fun a e => by cases e; exact hp⟩
theorem Post.newt {g : Gm} {W : XW} {α : List Addr} {H : Hp} {ds : List MV} {S : Sto} {Q : VK} {vs : List V} {p : Addr} (q : Post g W α H (.ok (Er.val (.tup ds)) S) Q) (w : Wd g α S H) (hp : H p = none) (l : DenL g.K α H ds vs) : Q (.ref p) (upd H p (.tup vs)) :=
  q (.ref p) α _ (w.newx hp) (w.new hp) (.val (den_tup (.of upd_same) (l.ext (w.newx hp))))
abbrev Rho := List (Option MV)
structure Slots (K : PySem.W.Frag) (α : List Addr) (H : Hp) (ρ : Rho) (σ : St) : Prop where
  len : σ.length = ρ.length
  slot : ∀ (i : Nat) (d : MV), ρ[i]? = some (some d) → ∃ v, σ[i]? = some (some v) ∧ Den K α H d v
section
variable {K : PySem.W.Frag} {α α' : List Addr} {H H' : Hp} {ρ : Rho} {σ : St}
theorem Slots.ex0 (q : Slots K α H ρ σ) (x : Ex0 α H α' H') : Slots K α' H' ρ σ := ⟨q.len, fun i d e => let ⟨v, h1, h2⟩ := q.slot i d e; ⟨v, h1, h2.ex0 x⟩⟩
theorem Slots.ext (q : Slots K α H ρ σ) (x : Ext α H α' H') : Slots K α' H' ρ σ := q.ex0 x.toEx0
theorem set_get {α : Type} {l : List α} {i j : Nat} {x y : α} (h : (l.set i x)[j]? = some y) : (j = i ∧ y = x ∧ i < l.length) ∨ (j ≠ i ∧ l[j]? = some y) := by
  by_cases hj : i = j
  · subst hj
    by_cases hl : i < l.length
    · rw [List.getElem?_set_self hl] at h
      exact .inl ⟨rfl, (Option.some.inj h).symm, hl⟩
    · rw [List.getElem?_eq_none (by rw [List.length_set]; omega)] at h; cases h
  · rw [List.getElem?_set_ne hj] at h
    exact .inr ⟨fun z => hj z.symm, h⟩
theorem Slots.set (q : Slots K α H ρ σ) {i : Nat} {d : MV} {v : V} (h : Den K α H d v) : Slots K α H (ρ.set i (some d)) (σ.set i (some v)) := by
  refine ⟨by rw [List.length_set, List.length_set]; exact q.len, fun j e z => ?_⟩
  rcases set_get z with ⟨rfl, e', hl⟩ | ⟨hj, e'⟩
  · cases e'
    exact ⟨v, by rw [List.getElem?_set_self (by rw [q.len]; exact hl)], h⟩
  · obtain ⟨u, h1, h2⟩ := q.slot j e e'
    exact ⟨u, by rw [List.getElem?_set_ne (Ne.symm hj)]; exact h1, h2⟩
end
def Jd (X : Cx) (W : XW) {β τ : Type} [Dn β τ] (P : (St → Hp → (τ → Hp → Prop) → Prop) → Prop) (f : Rho → Sto → R β) : Prop :=
  ∃ t, P t ∧ ∀ α ρ S σ H Q, Wd X.g α S H → Slots X.K α H ρ σ → Post X.g W α H (f ρ S) Q → t σ H Q
abbrev PEm (X : Cx) (W : XW) (e : Expr) (f : Rho → Sto → R Er) : Prop := Jd X W (PE X e) f
abbrev PTm (X : Cx) (W : XW) (e : Expr) (f : Rho → Sto → R Bool) : Prop := Jd X W (PT X e) f
abbrev PWm (X : Cx) (W : XW) (e : Expr) (f : Rho → Sto → R Bool) : Prop := Jd X W (PW X e) f
abbrev PAm (X : Cx) (W : XW) (es : List Expr) (f : Rho → Sto → R (List Er)) : Prop := Jd X W (PA X es) f
abbrev POm (X : Cx) (W : XW) (e : Option Expr) (f : Rho → Sto → R (Option Int)) : Prop := Jd X W (PO X e) f
section
variable {X : Cx} {W : XW} {a b c e : Expr} {es : List Expr} {f g h : Rho → Sto → R Er} {tf tg : Rho → Sto → R Bool} {af : Rho → Sto → R (List Er)} {pos : Pos}
def rdSl : Option (Option MV) → Sto → R Er
  | some (some d), S => .ok (.val d) S
  | _, _ => .no
theorem pm_var (i : Nat) {x : Str} (hN : X.N[i]? = some x := by rfl) (hv : Vis X.env.scope x := by first | exact Or.inl rfl | exact Or.inr (Or.inl rfl) | exact Or.inr (Or.inr rfl)) (hd : (x == ("__debug__" : Str)) = false := by decide)
    (hcd : (x == ("__classdict__" : Str)) = false := by decide) : PEm X W (.Name x pos) (fun ρ S => rdSl (ρ[i]?) S) := by
  refine ⟨_, pv i hN hv hd hcd, fun α ρ S σ H Q wd sl q => ?_⟩
  dsimp only at q
  cases z : ρ[i]? with
  | none => rw [z] at q; exact q.elim
  | some o =>
    cases o with
    | none => rw [z] at q; exact q.elim
    | some d =>
      rw [z] at q
      obtain ⟨v, h1, h2⟩ := sl.slot i d z
      exact ⟨v, h1, Post.val q wd h2⟩
theorem pm_int {i : Int} {j : Nat} : PEm X W (.Constant (.int i) j pos) (fun _ S => .ok (.val (.int i)) S) := ⟨_, pe_int, fun α ρ S σ H Q wd sl q => Post.val q wd (den_int i)⟩
theorem pm_bl {i : Bool} {j : Nat} : PEm X W (.Constant (.bool i) j pos) (fun _ S => .ok (.val (.bl i)) S) := ⟨_, pe_bl, fun α ρ S σ H Q wd sl q => Post.val q wd (den_bl i)⟩
theorem pm_non {j : Nat} : PEm X W (.Constant .none j pos) (fun _ S => .ok (.val .non) S) := ⟨_, pe_non, fun α ρ S σ H Q wd sl q => Post.val q wd den_non⟩
theorem pm_str {x : Str} {j : Nat} (cs : List Nat) (hx : x = mkS cs := by rfl) : PEm X W (.Constant (.str x) j pos) (fun _ S => .ok (.val (.str cs)) S) :=
  ⟨_, pe_str, fun α ρ S σ H Q wd sl q => Post.val q wd (by rw [hx]; exact den_str cs)⟩
theorem pm_ty {x : Str} {T : String} (hg : Gl X x) (hm : X.mg x = none) (hv : bootBuiltins x = some (.type T)) (hn : x ≠ "__name__" := by decide) (hd : (x == ("__debug__" : Str)) = false := by decide) : PEm X W (.Name x pos) (fun _ S => .ok (.val (.typ T)) S) :=
  ⟨_, pe_bltn (v := .ty T) hg hm hv rfl hn hd, fun α ρ S σ H Q wd sl q => Post.val q wd (den_typ T)⟩
theorem pm_neg {i : Int} {j : Nat} {p3 : Pos} : PEm X W (.UnaryOp .USub (.Constant (.int i) j p3) pos) (fun _ S => .ok (.val (.int (-i))) S) :=
  ⟨_, pe_un un_neg pe_int, fun α ρ S σ H Q wd sl q => ⟨i, rfl, Post.val q wd (den_int (-i))⟩⟩
def Op2 (X : Cx) (W : XW) (r : R2) (F : Er → Er → Sto → R Er) : Prop := ∀ p q x y α S H Q, Wd X.g α S H → DenX X.K α H p x → DenX X.K α H q y → Post X.g W α H (F p q S) Q → r x y H Q
theorem two {r : R2} {F : Er → Er → Sto → R Er} (hF : Op2 X W r F) {ta tb : TE} (fa : ∀ α ρ S σ H Q, Wd X.g α S H → Slots X.K α H ρ σ → Post X.g W α H (f ρ S) Q → ta σ H Q)
    (fb : ∀ α ρ S σ H Q, Wd X.g α S H → Slots X.K α H ρ σ → Post X.g W α H (g ρ S) Q → tb σ H Q) {α : List Addr} {ρ : Rho} {S : Sto} {σ : St} {H : Hp} {Q : VK} (wd : Wd X.g α S H) (sl : Slots X.K α H ρ σ)
    (q : Post X.g W α H ((f ρ S).bind fun p S1 => (g ρ S1).bind fun q S2 => F p q S2) Q) : ta σ H fun x H1 => tb σ H1 fun y H2 => r x y H2 Q :=
  fa α ρ S σ H _ wd sl (q.bind fun u p S1 α1 H1 e1 x1 w1 d1 q1 => fb α1 ρ S1 σ H1 _ w1 (sl.ext x1) ((q1.shift x1).bind fun u2 p2 S2 α2 H2 e2 x2 w2 d2 q2 =>
    hF p p2 u u2 α2 S2 H2 Q w2 (d1.1.ext x2) d2.1 (q2.shift x2)))
theorem pm_op {op : Operator} {r : R2} {F : Er → Er → Sto → R Er} (ho : OpR X (binaryOp op) r) (hF : Op2 X W r F) (ha : PEm X W a f) (hb : PEm X W b g) : PEm X W (.BinOp a op b pos) (fun ρ S => (f ρ S).bind fun p S1 => (g ρ S1).bind fun q S2 => F p q S2) := by
  obtain ⟨ta, ha, fa⟩ := ha
  obtain ⟨tb, hb, fb⟩ := hb
  exact ⟨_, pe_op ho ha hb, fun α ρ S σ H Q wd sl q => two hF fa fb wd sl q⟩
theorem pm_cmp {op : CmpOp} {r : R2} {F : Er → Er → Sto → R Er} (ho : OpR X (compareOp op) r) (hF : Op2 X W r F) (ha : PEm X W a f) (hb : PEm X W b g) (hm : behindInMarks op b = false := by first | exact nomark _ | with_unfolding_all rfl) :
    PEm X W (.Compare a [op] [b] pos) (fun ρ S => (f ρ S).bind fun p S1 => (g ρ S1).bind fun q S2 => F p q S2) := by
  obtain ⟨ta, ha, fa⟩ := ha
  obtain ⟨tb, hb, fb⟩ := hb
  exact ⟨_, pe_cmpR ho ha hb hm, fun α ρ S σ H Q wd sl q => two hF fa fb wd sl q⟩
theorem pm_ix {r : R2} {F : Er → Er → Sto → R Er} (ho : IxR X r) (hF : Op2 X W r F) (ha : PEm X W a f) (hb : PEm X W b g) (hs : PlainIx b := by exact fun _ _ => rfl) :
    PEm X W (.Subscript a b pos) (fun ρ S => (f ρ S).bind fun p S1 => (g ρ S1).bind fun q S2 => F p q S2) := by
  obtain ⟨ta, ha, fa⟩ := ha
  obtain ⟨tb, hb, fb⟩ := hb
  exact ⟨_, pe_ix ho ha hb hs, fun α ρ S σ H Q wd sl q => two hF fa fb wd sl q⟩
def asB : Er → Sto → R Bool
  | .val (.bl b), S => .ok b S
  | _, _ => .no
theorem asB_post {p : Er} {S : Sto} {α : List Addr} {H : Hp} {Q : Bool → Hp → Prop} (q : Post X.g W α H (asB p S) Q) : ∃ k, p = .val (.bl k) ∧ Post X.g W α H (.ok k S) Q := by
  unfold asB at q
  split at q
  · exact ⟨_, rfl, q⟩
  · exact q.elim
theorem asB_bind {β τ : Type} [Dn β τ] {p : Er} {S : Sto} {α : List Addr} {H : Hp} {k : Bool → Sto → R β} {Q : τ → Hp → Prop} (q : Post X.g W α H ((asB p S).bind k) Q) : ∃ c, p = .val (.bl c) ∧ Post X.g W α H (k c S) Q := by
  unfold asB at q
  split at q
  · exact ⟨_, rfl, q⟩
  · exact q.elim
theorem tm_cmp {op : CmpOp} {r : R2} {F : Er → Er → Sto → R Er} (ho : OpR X (compareOp op) r) (hF : Op2 X W r F) (ha : PEm X W a f) (hb : PEm X W b g) (hm : behindInMarks op b = false := by first | exact nomark _ | with_unfolding_all rfl) :
    PTm X W (.Compare a [op] [b] pos) (fun ρ S => ((f ρ S).bind fun p S1 => (g ρ S1).bind fun q S2 => F p q S2).bind asB) := by
  obtain ⟨ta, ha, fa⟩ := ha
  obtain ⟨tb, hb, fb⟩ := hb
  refine ⟨_, pt_cmpR ho ha hb hm, fun α ρ S σ H Q wd sl q => ?_⟩
  refine two hF fa fb wd sl (Q := fun x H' => ∃ k, x = .bl k ∧ Q k H') (q.bind fun u p S1 α1 H1 e1 x1 w1 d1 q1 => ?_)
  obtain ⟨k, rfl, q2⟩ := asB_post (q1.shift x1)
  exact ⟨k, xe_bl d1.1, q2.here w1 rfl⟩
def truF : Er → Sto → R Bool
  | .val .non, S => .ok false S
  | .val (.bl b), S => .ok b S
  | .val (.int i), S => .ok (i != 0) S
  | .val (.str x), S => if x.length ≤ sizeLine then .ok (!x.isEmpty) S else .no
  | .val (.tup ds), S => .ok (!ds.isEmpty) S
  | .val (.scr ds), S => .ok (!ds.isEmpty) S
  | .val (.loc l), S => match S[l]? with
    | some (.lst ds) => .ok (!ds.isEmpty) S
    | _ => .no
  | .val (.typ _), _ => .no
  | .new ds, S => .ok (!ds.isEmpty) S
theorem empty_len {ds : List MV} {vs : List V} {K : PySem.W.Frag} {α : List Addr} {H : Hp} (l : DenL K α H ds vs) : (!vs.isEmpty) = !ds.isEmpty := by
  have := l.length
  cases ds <;> cases vs <;> simp_all
theorem tru_post {p : Er} {x : V} {S : Sto} {α : List Addr} {H : Hp} {Q : Bool → Hp → Prop} (wd : Wd X.g α S H) (d : DenX X.K α H p x) (q : Post X.g W α H (truF p S) Q) : ∃ k, TruV X.K x H k ∧ Q k H := by
  match p, d, q with
  | .val .non, d, q => cases xe_non d; exact ⟨_, rfl, q.here wd rfl⟩
  | .val (.bl b), d, q => cases xe_bl d; exact ⟨_, rfl, q.here wd rfl⟩
  | .val (.int i), d, q => cases xe_int d; exact ⟨_, rfl, q.here wd rfl⟩
  | .val (.typ n), d, q => exact q.elim
  | .val (.str z), d, q =>
    cases xe_str d
    have q' : Post X.g W α H (if z.length ≤ sizeLine then R.ok (!z.isEmpty) S else R.no) Q := q
    split at q'
    · rename_i hz
      refine ⟨_, ⟨by rw [mkS_len]; exact hz, ?_⟩, q'.here wd rfl⟩
      rw [mkS_len]
      cases z with
      | nil => rfl
      | cons c r =>
        have h0 : ((r.length : Int) + 1) ≠ 0 := by omega
        simp [h0]
    · exact q'.elim
  | .val (.tup ds), d, q =>
    obtain ⟨a, vs, rfl, s, l⟩ := xe_tup d
    exact ⟨_, .inr (.inl ⟨vs, s, (empty_len l).symm⟩), q.here wd rfl⟩
  | .val (.scr ds), d, q =>
    obtain ⟨a, vs, rfl, s, l⟩ := xe_scr d
    exact ⟨_, .inl ⟨vs, s.l, (empty_len l).symm⟩, q.here wd rfl⟩
  | .val (.loc n), d, q =>
    obtain ⟨a, rfl, h⟩ := xe_loc d
    obtain ⟨o, h1, h2⟩ := wd.of h
    have q' : Post X.g W α H (match S[n]? with | some (.lst ds) => R.ok (!ds.isEmpty) S | _ => R.no) Q := q
    rw [h1] at q'
    cases o with
    | lst ds =>
      obtain ⟨vs, h3, l⟩ := h2
      exact ⟨_, .inl ⟨vs, .of h3, (empty_len l).symm⟩, q'.here wd rfl⟩
    | dic ds => exact q'.elim
    | ins c fs => exact q'.elim
  | .new ds, ⟨a, vs, ex, s, n, l⟩, q => subst ex; exact ⟨_, .inl ⟨vs, .of s, (empty_len l).symm⟩, q.here wd rfl⟩
theorem tm_plain (ha : PEm X W a f) (he : ∀ whole, isTrue a X.env whole = (do let v ← whole; standAt a.pos; holding [v] (truthy v)) := by intro _; rfl) : PTm X W a (fun ρ S => (f ρ S).bind truF) := by
  obtain ⟨ta, ha, fa⟩ := ha
  exact ⟨_, pt_truth ha he, fun α ρ S σ H Q wd sl q => fa α ρ S σ H _ wd sl (q.bind fun u p S1 α1 H1 e1 x1 w1 d1 q1 => tru_post w1 d1.1 (q1.shift x1))⟩
end
end M
end L2
namespace L2
namespace M
open PySem PySem.Spec PyProof.Rows
section
variable {X : Cx} {W : XW} {a b c e : Expr} {es : List Expr} {f g h : Rho → Sto → R Er} {tf tg : Rho → Sto → R Bool} {af : Rho → Sto → R (List Er)} {pos : Pos}
def andF (p : Er) (S : Sto) (k : Sto → R Er) : R Er := (asB p S).bind fun c S1 => if c = true then k S1 else .ok (.val (.bl false)) S1
theorem pm_one {op} (ha : PEm X W a f) : PEm X W (.BoolOp op [a] pos) f := let ⟨t, h, k⟩ := ha; ⟨t, pe_one h, k⟩
theorem pm_and (ha : PEm X W a f) (hb : PEm X W (.BoolOp .And (b :: es) pos) g) : PEm X W (.BoolOp .And (a :: b :: es) pos) (fun ρ S => (f ρ S).bind fun p S1 => andF p S1 fun S2 => g ρ S2) := by
  obtain ⟨ta, ha, fa⟩ := ha
  obtain ⟨tb, hb, fb⟩ := hb
  refine ⟨_, pe_and ha hb, fun α ρ S σ H Q wd sl q => fa α ρ S σ H _ wd sl (q.bind fun u p S1 α1 H1 e1 x1 w1 d1 q1 => ?_)⟩
  obtain ⟨k, rfl, q2⟩ := asB_bind (q1.shift x1)
  refine ⟨k, xe_bl d1.1, ?_⟩
  cases k with
  | true => rw [if_pos rfl] at q2 ⊢; exact fb α1 ρ S1 σ H1 _ w1 (sl.ext x1) q2
  | false => rw [if_neg Bool.false_ne_true] at q2 ⊢; exact Post.val q2 w1 (den_bl false)
theorem pm_not (ha : PEm X W a f) : PEm X W (.UnaryOp .Not a pos) (fun ρ S => (f ρ S).bind fun p S1 => (asB p S1).bind fun k S2 => .ok (.val (.bl !k)) S2) := by
  obtain ⟨ta, ha, fa⟩ := ha
  refine ⟨_, pe_not ha, fun α ρ S σ H Q wd sl q => fa α ρ S σ H _ wd sl (q.bind fun u p S1 α1 H1 e1 x1 w1 d1 q1 => ?_)⟩
  obtain ⟨k, rfl, q2⟩ := asB_bind (q1.shift x1)
  exact ⟨k, xe_bl d1.1, Post.val q2 w1 (den_bl _)⟩
theorem wm_and1 (ha : PTm X W a tf) : PWm X W (.BoolOp .And [a] pos) tf := let ⟨t, h, k⟩ := ha; ⟨t, pw_and1 h, k⟩
theorem wm_or1 (ha : PTm X W a tf) : PWm X W (.BoolOp .Or [a] pos) tf := let ⟨t, h, k⟩ := ha; ⟨t, pw_or1 h, k⟩
theorem wm_and (ha : PTm X W a tf) (hb : PWm X W (.BoolOp .And (b :: es) pos) tg) : PWm X W (.BoolOp .And (a :: b :: es) pos) (fun ρ S => (tf ρ S).bind fun k S1 => if k = true then tg ρ S1 else .ok false S1) := by
  obtain ⟨ta, ha, fa⟩ := ha
  obtain ⟨tb, hb, fb⟩ := hb
  refine ⟨_, pw_and ha hb, fun α ρ S σ H Q wd sl q => fa α ρ S σ H _ wd sl (q.bind fun u p S1 α1 H1 e1 x1 w1 d1 q1 => ?_)⟩
  cases d1
  cases u with
  | true => rw [if_pos rfl] at q1 ⊢; exact fb α1 ρ S1 σ H1 _ w1 (sl.ext x1) (q1.shift x1)
  | false => rw [if_neg Bool.false_ne_true] at q1 ⊢; exact (q1.shift x1).here w1 rfl
theorem wm_or (ha : PTm X W a tf) (hb : PWm X W (.BoolOp .Or (b :: es) pos) tg) : PWm X W (.BoolOp .Or (a :: b :: es) pos) (fun ρ S => (tf ρ S).bind fun k S1 => if k = true then .ok true S1 else tg ρ S1) := by
  obtain ⟨ta, ha, fa⟩ := ha
  obtain ⟨tb, hb, fb⟩ := hb
  refine ⟨_, pw_or ha hb, fun α ρ S σ H Q wd sl q => fa α ρ S σ H _ wd sl (q.bind fun u p S1 α1 H1 e1 x1 w1 d1 q1 => ?_)⟩
  cases d1
  cases u with
  | true => rw [if_pos rfl] at q1 ⊢; exact (q1.shift x1).here w1 rfl
  | false => rw [if_neg Bool.false_ne_true] at q1 ⊢; exact fb α1 ρ S1 σ H1 _ w1 (sl.ext x1) (q1.shift x1)
theorem wm_pt (h : PWm X W a tf) : PTm X W a tf := let ⟨t, h, k⟩ := h; ⟨t, h.pt, k⟩
theorem tm_not (ha : PTm X W a tf) : PTm X W (.UnaryOp .Not a pos) (fun ρ S => (tf ρ S).bind fun k S1 => .ok (!k) S1) := by
  obtain ⟨ta, ha, fa⟩ := ha
  refine ⟨_, pt_not ha, fun α ρ S σ H Q wd sl q => fa α ρ S σ H _ wd sl (q.bind fun u p S1 α1 H1 e1 x1 w1 d1 q1 => ?_)⟩
  cases d1
  exact (q1.shift x1).here w1 rfl
end
section
variable {K : PySem.W.Frag} {H0 : Hp}
def enterA : List Er → Sto → List MV × Sto
  | [], S => ([], S)
  | .val d :: rs, S => ((d :: (enterA rs S).1), (enterA rs S).2)
  | .new xs :: rs, S => ((.loc S.length :: (enterA rs (S ++ [.lst xs])).1), (enterA rs (S ++ [.lst xs])).2)
theorem ArgsE.grow {H0 : Hp} {α : List Addr} {H : Hp} {b : Addr} {rs : List Er} {vs : List V} (q : ArgsE K H0 α H rs vs) (n : b ∉ newsA rs vs) : ArgsE K H0 (α ++ [b]) H rs vs := by
  induction q with
  | nil => exact .nil
  | @cons r v rs vs a m l ih =>
    cases r with
    | val d => exact .cons ⟨Den.ex0 (Ex0.grow α [b] H) a.1, trivial⟩ m (ih (by simpa [newsA] using n))
    | new ds =>
      obtain ⟨⟨c, us, rfl, h1, h2, h3⟩, h4⟩ := a
      have n' : b ∉ c :: newsA rs vs := n
      refine .cons ⟨⟨c, us, rfl, h1, fun z => ?_, h3.ex0 (Ex0.grow α [b] H)⟩, h4⟩ m (ih fun z => n' (List.mem_cons_of_mem _ z))
      rcases List.mem_append.mp z with z | z
      · exact h2 z
      · exact n' (by rw [List.mem_singleton.mp z]; exact List.mem_cons_self)
theorem enter_ok {g : Gm} {H0 : Hp} {α0 : List Addr} {H : Hp} : ∀ {rs : List Er} {vs : List V} {α : List Addr} {S : Sto}, Wd g α S H → Ext α0 H0 α H → ArgsE g.K H0 α H rs vs →
    ∃ α', Ext α0 H0 α' H ∧ Ex0 α H α' H ∧ Wd g α' (enterA rs S).2 H ∧ DenL g.K α' H (enterA rs S).1 vs
  | _, _, α, S, w, x, .nil => ⟨α, x, ⟨⟨[], by simp⟩, fun _ _ h => h, fun _ _ _ h => h⟩, w, denl_nil⟩
  | .val d :: rs, v :: vs, α, S, w, x, .cons a n l => by
    obtain ⟨α', x', y', w', l'⟩ := enter_ok w x l
    exact ⟨α', x', y', w', denl_cons (Den.ex0 y' a.1) l'⟩
  | .new ds :: rs, v :: vs, α, S, w, x, .cons a n l => by
    obtain ⟨⟨c, us, rfl, h1, h2, h3⟩, h4⟩ := a
    obtain ⟨α', x', y', w', l'⟩ := enter_ok (w.enter h1 h2 h3) (w.enterx x (h4 c rfl) h2) (l.grow (n ds c rfl rfl))
    refine ⟨α', x', ⟨?_, y'.tup, y'.frz⟩, w', denl_cons (den_loc (y'.at ?_)) l'⟩
    · obtain ⟨t, e⟩ := y'.pre
      exact ⟨[c] ++ t, by rw [e, List.append_assoc]⟩
    · rw [← w.len, List.getElem?_append_right (Nat.le_refl _), Nat.sub_self]; rfl
theorem enter_len : ∀ (rs : List Er) (S : Sto), (enterA rs S).1.length = rs.length
  | [], S => rfl
  | .val d :: rs, S => by show (d :: (enterA rs S).1).length = _; rw [List.length_cons, enter_len rs S]; rfl
  | .new ds :: rs, S => by show (_ :: (enterA rs _).1).length = _; rw [List.length_cons, enter_len rs _]; rfl
end
section
variable {X : Cx} {W : XW} {a b c e : Expr} {es : List Expr} {f g h : Rho → Sto → R Er} {tf tg : Rho → Sto → R Bool} {af : Rho → Sto → R (List Er)} {pos : Pos}
theorem am_nil : PAm X W [] (fun _ S => .ok [] S) := ⟨_, pa_nil, fun α ρ S σ H Q wd sl q => q.here wd .nil⟩
theorem am_cons (ha : PEm X W a f) (hr : PAm X W es af) (hs : starEach (a :: es) X.env = (false, eval a X.env) :: starEach es X.env := by rfl) : PAm X W (a :: es) (fun ρ S => (f ρ S).bind fun p S1 => (af ρ S1).bind fun ps S2 => .ok (p :: ps) S2) := by
  obtain ⟨ta, ha, fa⟩ := ha
  obtain ⟨tr, hr, fr⟩ := hr
  refine ⟨_, pa_cons ha hr hs, fun α ρ S σ H Q wd sl q => fa α ρ S σ H _ wd sl (q.bind fun u p S1 α1 H1 e1 x1 w1 d1 q1 => fr α1 ρ S1 σ H1 _ w1 (sl.ext x1) ?_)⟩
  have q1' : Post X.g W α H ((af ρ S1).bind fun ps S2 => .ok (p :: ps) S2) Q := q1
  cases z : af ρ S1 with
  | ok ps S2 =>
    rw [z] at q1'
    intro vs α2 H2 x2 w2 d2
    refine q1' (u :: vs) α2 H2 (x1.trans x2) w2 (ArgsE.cons (DenE.ext x2 d1) (fun ds b er eu hb => ?_) (ArgsE.back (fun b h => x1.free h) d2))
    subst er eu
    obtain ⟨⟨c, us, ec, h1, _⟩, _⟩ := d1
    cases ec
    have := ArgsE.nones d2 _ hb
    rw [h1] at this; cases this
  | exc c fs S2 => rw [z] at q1'; exact fun α2 H2 x2 w2 => q1' α2 H2 (x1.trans x2) w2
  | no => rw [z] at q1'; exact q1'
def tupF (rs : List Er) (S : Sto) : R Er := if rs.length ≤ sizeLine then .ok (.val (.tup (enterA rs S).1)) (enterA rs S).2 else .no
def lstF (rs : List Er) (S : Sto) : R Er := if rs.length ≤ sizeLine then .ok (.new (enterA rs S).1) (enterA rs S).2 else .no
theorem pm_tup {x1} (h : PAm X W es af) : PEm X W (.Tuple es x1 pos) (fun ρ S => (af ρ S).bind tupF) := by
  obtain ⟨t, h, k⟩ := h
  refine ⟨_, pe_tup h, fun α ρ S σ H Q wd sl q => k α ρ S σ H _ wd sl (q.bind fun vs rs S1 α1 H1 e1 x1 w1 d1 q1 => ?_)⟩
  have q1' : Post X.g W α H (if rs.length ≤ sizeLine then R.ok (Er.val (.tup (enterA rs S1).1)) (enterA rs S1).2 else R.no) Q := q1
  split at q1'
  · rename_i hz
    obtain ⟨α2, x2, y2, w2, l2⟩ := enter_ok w1 x1 d1
    exact ⟨by rw [ArgsE.length d1]; exact hz, fun p hp => (q1'.shift x2).newt w2 hp l2⟩
  · exact q1'.elim
theorem pm_lst (h : PAm X W es af) : PEm X W (.List es pos) (fun ρ S => (af ρ S).bind lstF) := by
  obtain ⟨t, h, k⟩ := h
  refine ⟨_, pe_lst h, fun α ρ S σ H Q wd sl q => k α ρ S σ H _ wd sl (q.bind fun vs rs S1 α1 H1 e1 x1 w1 d1 q1 => ?_)⟩
  have q1' : Post X.g W α H (if rs.length ≤ sizeLine then R.ok (Er.new (enterA rs S1).1) (enterA rs S1).2 else R.no) Q := q1
  split at q1'
  · rename_i hz
    obtain ⟨α2, x2, y2, w2, l2⟩ := enter_ok w1 x1 d1
    exact ⟨by rw [ArgsE.length d1]; exact hz, fun p hp => (q1'.shift x2).newl w2 hp l2⟩
  · exact q1'.elim
inductive ArgsX (K : PySem.W.Frag) (α : List Addr) (H : Hp) : List Er → List V → Prop
  | nil : ArgsX K α H [] []
  | cons {r v rs vs} : DenX K α H r v → ArgsX K α H rs vs → ArgsX K α H (r :: rs) (v :: vs)
theorem ArgsE.x {K : PySem.W.Frag} {H0 : Hp} {α : List Addr} {H : Hp} : ∀ {rs vs}, ArgsE K H0 α H rs vs → ArgsX K α H rs vs
  | _, _, .nil => .nil
  | _, _, .cons a _ l => .cons a.1 (ArgsE.x l)
def CallM (X : Cx) (W : XW) (r : List V → Hp → VK → Prop) (F : List Er → Sto → R Er) : Prop := ∀ rs vs α S H Q, Wd X.g α S H → ArgsX X.K α H rs vs → Post X.g W α H (F rs S) Q → r vs H Q
theorem pm_callB {id : String} {r : List V → Hp → VK → Prop} {F : List Er → Sto → R Er} {x : Str} {p : Pos} (hc : CallR X (.builtin id) r) (hF : CallM X W r F) (hg : Gl X x) (hm : X.mg x = none) (hv : bootBuiltins x = some (.builtin id)) (ha : PAm X W (e :: es) af)
    (hn : x ≠ "__name__" := by decide) (hdb : (x == ("__debug__" : Str)) = false := by decide)
    (he : starEach (e :: es) X.env = (false, eval e X.env) :: starEach es X.env := by rfl) (hpl : (backTo pos (starEach es X.env)).any (·.1) = false := by rfl) : PEm X W (.Call (.Name x p) (e :: es) [] pos) (fun ρ S => (af ρ S).bind F) := by
  obtain ⟨t, ha, k⟩ := ha
  exact ⟨_, pe_callB hc hg hm hv ha hn hdb he hpl, fun α ρ S σ H Q wd sl q => k α ρ S σ H _ wd sl (q.bind fun vs rs S1 α1 H1 e1 x1 w1 d1 q1 => hF rs vs α1 S1 H1 Q w1 (ArgsE.x d1) (q1.shift x1))⟩
theorem pm_callTy {T : String} {r : List V → Hp → VK → Prop} {F : List Er → Sto → R Er} {x : Str} {p : Pos} (hc : CallR X (.type T) r) (hF : CallM X W r F) (hg : Gl X x) (hm : X.mg x = none) (hv : bootBuiltins x = some (.type T)) (ha : PAm X W (e :: es) af)
    (hn : x ≠ "__name__" := by decide) (hdb : (x == ("__debug__" : Str)) = false := by decide)
    (he : starEach (e :: es) X.env = (false, eval e X.env) :: starEach es X.env := by rfl) (hpl : (backTo pos (starEach es X.env)).any (·.1) = false := by rfl) : PEm X W (.Call (.Name x p) (e :: es) [] pos) (fun ρ S => (af ρ S).bind F) := by
  obtain ⟨t, ha, k⟩ := ha
  exact ⟨_, pe_callTy hc hg hm hv ha hn hdb he hpl, fun α ρ S σ H Q wd sl q => k α ρ S σ H _ wd sl (q.bind fun vs rs S1 α1 H1 e1 x1 w1 d1 q1 => hF rs vs α1 S1 H1 Q w1 (ArgsE.x d1) (q1.shift x1))⟩
def MtdM (X : Cx) (W : XW) (r : V → List V → Hp → VK → Prop) (F : Er → List Er → Sto → R Er) : Prop := ∀ p rs x vs α S H0 H Q α0, Wd X.g α S H → Ext α0 H0 α H → DenX X.K α H p x → ArgsE X.K H0 α H rs vs → Post X.g W α0 H0 (F p rs S) Q → r x vs H Q
def TyM (X : Cx) (T : String) (ty : Er → Sto → Bool) : Prop := ∀ p x α S H, Wd X.g α S H → DenX X.K α H p x → ty p S = true → tyV X.K T x H
theorem pm_meth {T : String} {name : Str} {id : String} {r : V → List V → Hp → VK → Prop} {F : Er → List Er → Sto → R Er} {ty : Er → Sto → Bool} {apos : Pos} (pa : PlainAttrs T) (slot : Slot T name id) (hty : typeOf (.builtin id) = pure (.type "method_descriptor")) (hm : MtR X id r) (hF : MtdM X W r F) (hT : TyM X T ty)
    (ho : PEm X W a f) (ha : PAm X W (e :: es) af)
    (hbase : attributeBase a name X.env (eval a X.env) = eval a X.env := by rfl)
    (hfew : ((backTo pos (starEach (e :: es) X.env)).all (fun x => !x.1) && (backToKw pos (keywordEach [] X.env)).all (fun x => x.1.isSome)
      && decide ((e :: es).length + ([] : List Keyword).length + (if ([] : List Keyword).isEmpty then 0 else 1) < 30)) = true := by rfl)
    (hline : (apos.endLine == pos.line) = true := by rfl) (hs : starEach (e :: es) X.env = (false, eval e X.env) :: starEach es X.env := by rfl) (hplain : (backTo pos (starEach es X.env)).any (·.1) = false := by rfl) :
    PEm X W (.Call (.Attribute a name apos) (e :: es) [] pos) (fun ρ S => (f ρ S).bind fun p S1 => if ty p S1 = true then (af ρ S1).bind fun rs S2 => F p rs S2 else .no) := by
  obtain ⟨to, ho, fo⟩ := ho
  obtain ⟨t, ha, k⟩ := ha
  refine ⟨_, pe_bm pa slot hty hm ho ha hbase hfew hline hs hplain, fun α ρ S σ H Q wd sl q => fo α ρ S σ H _ wd sl (q.bind fun u p S1 α1 H1 e1 x1 w1 d1 q1 => ?_)⟩
  split at q1
  · rename_i hz
    exact ⟨hT p u α1 S1 H1 w1 d1.1 hz, k α1 ρ S1 σ H1 _ w1 (sl.ext x1) ((q1.shift x1).bind fun vs rs S2 α2 H2 e2 x2 w2 d2 q2 => hF p rs u vs α2 S2 H1 H2 Q α1 w2 x2 (d1.1.ext x2) d2 q2)⟩
  · exact q1.elim
theorem om_none : POm X W none (fun _ S => .ok none S) := ⟨_, po_none, fun α ρ S σ H Q wd sl q => q.here wd rfl⟩
def asI : Er → Sto → R (Option Int)
  | .val (.int i), S => .ok (some i) S
  | _, _ => .no
theorem om_some (ha : PEm X W a f) : POm X W (some a) (fun ρ S => (f ρ S).bind asI) := by
  obtain ⟨ta, ha, fa⟩ := ha
  refine ⟨_, po_some ha, fun α ρ S σ H Q wd sl q => fa α ρ S σ H _ wd sl (q.bind fun u p S1 α1 H1 e1 x1 w1 d1 q1 => ?_)⟩
  unfold asI at q1
  split at q1
  · exact ⟨_, xe_int d1.1, (q1.shift x1).here w1 rfl⟩
  · exact q1.elim
def Sl3 (X : Cx) (W : XW) (r : V → Option Int → Option Int → Hp → VK → Prop) (F : Er → Option Int → Option Int → Sto → R Er) : Prop := ∀ p lo hi x α S H Q, Wd X.g α S H → DenX X.K α H p x → Post X.g W α H (F p lo hi S) Q → r x lo hi H Q
theorem pm_slice {lo hi : Option Expr} {r : V → Option Int → Option Int → Hp → VK → Prop} {F : Er → Option Int → Option Int → Sto → R Er} {lf hf : Rho → Sto → R (Option Int)} {p2 : Pos} (hr : SlR X r) (hF : Sl3 X W r F) (ha : PEm X W a f) (hl : POm X W lo lf) (hh : POm X W hi hf) :
    PEm X W (.Subscript a (.Slice lo hi none p2) pos) (fun ρ S => (f ρ S).bind fun p S1 => (lf ρ S1).bind fun l S2 => (hf ρ S2).bind fun u S3 => F p l u S3) := by
  obtain ⟨ta, ha, fa⟩ := ha
  obtain ⟨tl, hl, fl⟩ := hl
  obtain ⟨th, hh, fh⟩ := hh
  refine ⟨_, pe_slice hr ha hl hh, fun α ρ S σ H Q wd sl q => fa α ρ S σ H _ wd sl (q.bind fun u p S1 α1 H1 e1 x1 w1 d1 q1 => fl α1 ρ S1 σ H1 _ w1 (sl.ext x1) ((q1.shift x1).bind fun u2 l S2 α2 H2 e2 x2 w2 d2 q2 =>
    fh α2 ρ S2 σ H2 _ w2 ((sl.ext x1).ext x2) ((q2.shift x2).bind fun u3 m S3 α3 H3 e3 x3 w3 d3 q3 => ?_)))⟩
  cases d2
  cases d3
  exact hF p u2 u3 u α3 S3 H3 Q w3 ((d1.1.ext x2).ext x3) (q3.shift x3)
end
end M
end L2
namespace L2
namespace M
open PySem PySem.Spec PyProof.Rows
inductive Fl where
  | next (ρ : Rho) | ret (r : Er) | brk (ρ : Rho) | cont (ρ : Rho)
def PostS (g : Gm) (W : XW) (α : List Addr) (H : Hp) (D : Ends) : R Fl → Prop
  | .ok (.next ρ) S => ∀ σ α' H', Ext α H α' H' → Wd g α' S H' → Slots g.K α' H' ρ σ → D.nx σ H'
  | .ok (.ret r) S => ∀ v α' H', Ext α H α' H' → Wd g α' S H' → DenE g.K H α' H' r v → D.rt v H'
  | .ok (.brk ρ) S => ∀ σ α' H', Ext α H α' H' → Wd g α' S H' → Slots g.K α' H' ρ σ → D.bk σ H'
  | .ok (.cont ρ) S => ∀ σ α' H', Ext α H α' H' → Wd g α' S H' → Slots g.K α' H' ρ σ → D.ct σ H'
  | .exc c fs S => ∀ α' H', Ext α H α' H' → Wd g α' S H' → W c fs S α' H'
  | .no => False
section
variable {g : Gm} {W : XW} {α α' : List Addr} {H H' : Hp} {D D' : Ends}
theorem PostS.shift (x : Ext α H α' H') : ∀ {m : R Fl}, PostS g W α H D m → PostS g W α' H' D m
  | .ok (.next ρ) S, q => fun σ α2 H2 x2 w2 s2 => q σ α2 H2 (x.trans x2) w2 s2
  | .ok (.ret r) S, q => fun v α2 H2 x2 w2 d2 => q v α2 H2 (x.trans x2) w2 (d2.back fun b h => x.free h)
  | .ok (.brk ρ) S, q => fun σ α2 H2 x2 w2 s2 => q σ α2 H2 (x.trans x2) w2 s2
  | .ok (.cont ρ) S, q => fun σ α2 H2 x2 w2 s2 => q σ α2 H2 (x.trans x2) w2 s2
  | .exc c fs S, q => fun α2 H2 x2 w2 => q α2 H2 (x.trans x2) w2
  | .no, q => q
theorem PostS.expr {β τ : Type} [Dn β τ] {m : R β} {k : β → Sto → R Fl} {Q' : τ → Hp → Prop} (q : PostS g W α H D (m.bind k))
    (f : ∀ u b S1 α1 H1, m = .ok b S1 → Ext α H α1 H1 → Wd g α1 S1 H1 → Dn.d g H α1 S1 H1 b u → PostS g W α H D (k b S1) → Q' u H1) : Post g W α H m Q' := by
  cases m with
  | ok b S => exact fun u α1 H1 x w d => f u b S α1 H1 rfl x w d q
  | exc c fs S => exact q
  | no => exact q
theorem PostS.stmt {m : R Fl} {k : Fl → Sto → R Fl} (q : PostS g W α H D (m.bind k))
    (hn : ∀ ρ S σ α1 H1, m = .ok (.next ρ) S → Ext α H α1 H1 → Wd g α1 S H1 → Slots g.K α1 H1 ρ σ → PostS g W α H D (k (.next ρ) S) → D'.nx σ H1)
    (hr : ∀ r S v α1 H1, m = .ok (.ret r) S → Ext α H α1 H1 → Wd g α1 S H1 → DenE g.K H α1 H1 r v → PostS g W α H D (k (.ret r) S) → D'.rt v H1)
    (hb : ∀ ρ S σ α1 H1, m = .ok (.brk ρ) S → Ext α H α1 H1 → Wd g α1 S H1 → Slots g.K α1 H1 ρ σ → PostS g W α H D (k (.brk ρ) S) → D'.bk σ H1)
    (hc : ∀ ρ S σ α1 H1, m = .ok (.cont ρ) S → Ext α H α1 H1 → Wd g α1 S H1 → Slots g.K α1 H1 ρ σ → PostS g W α H D (k (.cont ρ) S) → D'.ct σ H1) : PostS g W α H D' m := by
  cases m with
  | ok fl S =>
    cases fl with
    | next ρ => exact fun σ α1 H1 x w s => hn ρ S σ α1 H1 rfl x w s q
    | ret r => exact fun v α1 H1 x w d => hr r S v α1 H1 rfl x w d q
    | brk ρ => exact fun σ α1 H1 x w s => hb ρ S σ α1 H1 rfl x w s q
    | cont ρ => exact fun σ α1 H1 x w s => hc ρ S σ α1 H1 rfl x w s q
  | exc c fs S => exact q
  | no => exact q
end
def PSm (X : Cx) (W : XW) (st : Stmt) (F : Rho → Sto → R Fl) : Prop :=
  ∃ t, PS X st t ∧ ∀ α ρ S σ H D, Wd X.g α S H → Slots X.K α H ρ σ → PostS X.g W α H D (F ρ S) → t D σ H
def PSsm (X : Cx) (W : XW) (st : List Stmt) (F : Rho → Sto → R Fl) : Prop :=
  ∃ t, PSs X st t ∧ ∀ α ρ S σ H D, Wd X.g α S H → Slots X.K α H ρ σ → PostS X.g W α H D (F ρ S) → t D σ H
def seqF (F G : Rho → Sto → R Fl) : Rho → Sto → R Fl := fun ρ S => (F ρ S).bind fun fl S1 => match fl with
  | .next ρ' => G ρ' S1
  | .ret r => .ok (.ret r) S1
  | .brk ρ' => .ok (.brk ρ') S1
  | .cont ρ' => .ok (.cont ρ') S1
section
variable {X : Cx} {W : XW} {st : Stmt} {sts as bs : List Stmt} {F G : Rho → Sto → R Fl} {f g : Rho → Sto → R Er} {tf : Rho → Sto → R Bool} {e c : Expr} {pos : Pos}
theorem sm_nil : PSsm X W [] (fun ρ S => .ok (.next ρ) S) := ⟨_, pss_nil, fun α ρ S σ H D wd sl q => q σ α H (Ext.refl α H) wd sl⟩
theorem sm_one (h : PSm X W st F) : PSsm X W [st] F := let ⟨t, h, k⟩ := h; ⟨t, pss_one h, k⟩
theorem sm_cons (h1 : PSm X W st F) (h2 : PSsm X W sts G) : PSsm X W (st :: sts) (seqF F G) := by
  obtain ⟨t, h1, k1⟩ := h1
  obtain ⟨u, h2, k2⟩ := h2
  refine ⟨_, pss_cons h1 h2, fun α ρ S σ H D wd sl q => k1 α ρ S σ H _ wd sl (q.stmt ?_ ?_ ?_ ?_)⟩
  · intro ρ1 S1 σ1 α1 H1 e x1 w1 s1 q1
    exact k2 α1 ρ1 S1 σ1 H1 D w1 s1 (PostS.shift x1 q1)
  · intro r S1 v α1 H1 e x1 w1 d1 q1
    exact q1 v α1 H1 x1 w1 d1
  · intro ρ1 S1 σ1 α1 H1 e x1 w1 s1 q1
    exact q1 σ1 α1 H1 x1 w1 s1
  · intro ρ1 S1 σ1 α1 H1 e x1 w1 s1 q1
    exact q1 σ1 α1 H1 x1 w1 s1
theorem sm_ret (he : PEm X W e f) : PSm X W (.Return (some e) pos) (fun ρ S => (f ρ S).bind fun r S1 => .ok (.ret r) S1) := by
  obtain ⟨t, he, k⟩ := he
  exact ⟨_, ps_ret he, fun α ρ S σ H D wd sl q => k α ρ S σ H _ wd sl (q.expr fun u r S1 α1 H1 e x1 w1 d1 q1 => q1 u α1 H1 x1 w1 d1)⟩
theorem sm_expr (he : PEm X W e f) (hs : swapsWith e none pos.line X.env = pure false := by rfl) : PSm X W (.Expr e pos) (fun ρ S => (f ρ S).bind fun _ S1 => .ok (.next ρ) S1) := by
  obtain ⟨t, he, k⟩ := he
  exact ⟨_, ps_expr he hs, fun α ρ S σ H D wd sl q => k α ρ S σ H _ wd sl (q.expr fun u r S1 α1 H1 e x1 w1 d1 q1 => q1 σ α1 H1 x1 w1 (sl.ext x1))⟩
theorem sm_if (hc : PTm X W c tf) (ha : PSsm X W as F) (hb : PSsm X W bs G) : PSm X W (.If c as bs pos) (fun ρ S => (tf ρ S).bind fun k S1 => if k = true then F ρ S1 else G ρ S1) := by
  obtain ⟨tc, hc, kc⟩ := hc
  obtain ⟨ta, ha, ka⟩ := ha
  obtain ⟨tb, hb, kb⟩ := hb
  refine ⟨_, ps_if hc ha hb, fun α ρ S σ H D wd sl q => kc α ρ S σ H _ wd sl (q.expr fun u p S1 α1 H1 e x1 w1 d1 q1 => ?_)⟩
  cases d1
  cases u with
  | true => rw [if_pos rfl] at q1 ⊢; exact ka α1 ρ S1 σ H1 D w1 (sl.ext x1) (PostS.shift x1 q1)
  | false => rw [if_neg Bool.false_ne_true] at q1 ⊢; exact kb α1 ρ S1 σ H1 D w1 (sl.ext x1) (PostS.shift x1 q1)
instance : Dn Rho St := ⟨fun g _ α' _ H' ρ σ => Slots g.K α' H' ρ σ, fun _ q => q⟩
def PGm (X : Cx) (W : XW) (tg : Expr) (gf : MV → Rho → Sto → R Rho) : Prop :=
  ∃ t, PG X tg t ∧ ∀ α ρ S σ H d v Q, Wd X.g α S H → Slots X.K α H ρ σ → Den X.K α H d v → Post X.g W α H (gf d ρ S) Q → t v σ H Q
def PGsm (X : Cx) (W : XW) (tgs : List Expr) (gf : List MV → Rho → Sto → R Rho) : Prop :=
  ∃ t, PGs X tgs t ∧ ∀ α ρ S σ H ds vs Q, Wd X.g α S H → Slots X.K α H ρ σ → DenL X.K α H ds vs → Post X.g W α H (gf ds ρ S) Q → t vs σ H Q
def gNm (i : Nat) : MV → Rho → Sto → R Rho := fun d ρ S => .ok (ρ.set i (some d)) S
theorem gm_name (i : Nat) {x : Str} (hN : X.N.Nodup) (hi : X.N[i]? = some x := by rfl) (hx : Loc X.env.scope x := by first | exact Or.inl rfl | exact Or.inr rfl) (hf : X.fn x = true ∨ X.env.scope.names.lookup x = some .local := by first | exact .inl rfl | exact .inr rfl | assumption) :
    PGm X W (.Name x pos) (gNm i) := ⟨_, pg_name hN hi hx hf, fun α ρ S σ H d v Q wd sl de q => Post.here (b := ρ.set i (some d)) q wd (sl.set de)⟩
def gsNil : List MV → Rho → Sto → R Rho
  | [], ρ, S => .ok ρ S
  | _, _, _ => .no
def gsCons (g1 : MV → Rho → Sto → R Rho) (g2 : List MV → Rho → Sto → R Rho) : List MV → Rho → Sto → R Rho
  | d :: ds, ρ, S => (g1 d ρ S).bind fun ρ1 S1 => g2 ds ρ1 S1
  | _, _, _ => .no
theorem gm_nil : PGsm X W [] gsNil := ⟨_, pgs_nil, fun α ρ S σ H ds vs Q wd sl de q => by
  cases ds with
  | nil => exact ⟨de.isnil, Post.here (b := ρ) q wd sl⟩
  | cons d ds => exact q.elim⟩
theorem gm_cons {es : List Expr} {g1 : MV → Rho → Sto → R Rho} {g2 : List MV → Rho → Sto → R Rho} (h1 : PGm X W e g1) (h2 : PGsm X W es g2) (hs : (assignEach (e :: es) X.env).map (·.2) = assign e X.env :: (assignEach es X.env).map (·.2) := by rfl) : PGsm X W (e :: es) (gsCons g1 g2) := by
  obtain ⟨t1, h1, k1⟩ := h1
  obtain ⟨t2, h2, k2⟩ := h2
  refine ⟨_, pgs_cons h1 h2 hs, fun α ρ S σ H ds vs Q wd sl de q => ?_⟩
  cases ds with
  | nil => exact q.elim
  | cons d ds =>
    obtain ⟨v, r, rfl, a, l⟩ := de.uncons
    refine ⟨v, r, rfl, k1 α ρ S σ H d v _ wd sl a (Post.bind q fun u p S1 α1 H1 e x1 w1 d1 q1 => k2 α1 p S1 u H1 ds r Q w1 d1 (l.ext x1) (q1.shift x1))⟩
def gTp (n : Nat) (g2 : List MV → Rho → Sto → R Rho) : MV → Rho → Sto → R Rho
  | .tup ds, ρ, S => if ds.length = n then g2 ds ρ S else .no
  | _, _, _ => .no
theorem gm_tup {es : List Expr} {k n : Nat} {g2 : List MV → Rho → Sto → R Rho} (hc : X.calm = true) (h : PGsm X W es g2)
    (hn : (assignEach es X.env).length = n := by rfl) (hst : (assignEach es X.env).findIdx? (·.1) = none := by rfl) : PGm X W (.Tuple es k pos) (gTp n g2) := by
  obtain ⟨t, h, k⟩ := h
  refine ⟨_, pg_tup hc h hn hst, fun α ρ S σ H d v Q wd sl de q => ?_⟩
  unfold gTp at q
  split at q
  · split at q
    · rename_i hl
      obtain ⟨a, vs, rfl, s, l⟩ := of_tup de
      exact ⟨a, vs, rfl, s, by rw [l.length]; exact hl, k α ρ S σ H _ vs Q wd sl l q⟩
    · exact q.elim
  · exact q.elim
def enter1 (r : Er) (S : Sto) : R MV := match r with
  | .val d => .ok d S
  | .new ds => .ok (.loc S.length) (S ++ [.lst ds])
theorem enter1_ok {g : Gm} {H0 : Hp} {α0 α : List Addr} {H : Hp} {S : Sto} {r : Er} {v : V} (w : Wd g α S H) (x : Ext α0 H0 α H) (d : DenE g.K H0 α H r v) :
    ∃ d' S' α', enter1 r S = .ok d' S' ∧ Ext α0 H0 α' H ∧ Ex0 α H α' H ∧ Wd g α' S' H ∧ Den g.K α' H d' v := by
  cases r with
  | val d' => exact ⟨d', S, α, rfl, x, ⟨⟨[], by simp⟩, fun _ _ h => h, fun _ _ _ h => h⟩, w, d.1⟩
  | new ds =>
    obtain ⟨⟨c, us, rfl, h1, h2, h3⟩, h4⟩ := d
    exact ⟨.loc S.length, S ++ [.lst ds], α ++ [c], rfl, w.enterx x (h4 c rfl) h2, Ex0.grow α [c] H, w.enter h1 h2 h3, den_loc (by rw [← w.len, List.getElem?_append_right (Nat.le_refl _), Nat.sub_self]; rfl)⟩
def setF (ρ : Rho) (i : Nat) (r : Er) (S : Sto) : R Fl := (enter1 r S).bind fun d S1 => .ok (.next (ρ.set i (some d))) S1
theorem sm_set (i : Nat) {x : Str} {pos' : Pos} (hN : X.N.Nodup) (he : PEm X W e f) (hi : X.N[i]? = some x := by rfl) (hx : Loc X.env.scope x := by first | exact Or.inl rfl | exact Or.inr rfl)
    (hs : swapsWith e (some (.Name x pos')) pos.line X.env = pure false := by rfl) (hf : X.fn x = true ∨ X.env.scope.names.lookup x = some .local := by first | exact .inl rfl | exact .inr rfl | assumption) :
    PSm X W (.Assign [.Name x pos'] e pos) (fun ρ S => (f ρ S).bind (setF ρ i)) := by
  obtain ⟨t, he, k⟩ := he
  refine ⟨_, ps_set hN hi hx he hs hf, fun α ρ S σ H D wd sl q => k α ρ S σ H _ wd sl (q.expr fun u r S1 α1 H1 e x1 w1 d1 q1 => ?_)⟩
  obtain ⟨d', S', α', e1, x', y', w', de⟩ := enter1_ok w1 x1 d1
  unfold setF at q1
  rw [e1] at q1
  exact q1 _ α' H1 x' w' (((sl.ext x1).ex0 y').set de)
structure Wk where
  ds : List MV
  gs : List (Nat × List MV)
def stay (gs : List (Nat × List MV)) (S : Sto) : Prop := ∀ p ∈ gs, S[p.1]? = some (.lst p.2)
def ItM (g : Gm) (J : It) (P : List Addr → Sto → Hp → Prop) (ds : List MV) : Prop := ∀ i α S H, P α S H → Wd g α S H → (i < ds.length → J.go i H ∧ ∀ x H', J.yld i H x H' → Ext α H α H' ∧ Wd g α S H' ∧ P α S H' ∧ ∃ d, ds[i]? = some d ∧ Den g.K α H' d x) ∧ (ds.length ≤ i → J.stop i H)
structure WkD (g : Gm) (α : List Addr) (S : Sto) (H : Hp) (k : Wk) (J : It) (P : List Addr → Sto → Hp → Prop) : Prop where
  it : ItM g J P k.ds
  here : P α S H
  stays : ∀ α1 S1 H1 α2 S2 H2, P α1 S1 H1 → Ext α1 H1 α2 H2 → Wd g α2 S2 H2 → stay k.gs S2 → P α2 S2 H2
  st : stay k.gs S
instance : Dn Wk It := ⟨fun g _ α S H k J => ∃ P, WkD g α S H k J P, fun _ q => q⟩
abbrev PIm (X : Cx) (W : XW) (tg iter : Expr) (f : Rho → Sto → R Wk) : Prop := Jd X W (PI X tg iter) f
variable {tg iter : Expr}
theorem itm_list {a : Addr} {ds : List MV} : ItM X.g (Itl X.K a) (fun α S H => ∃ vs, SqL X.K H a vs ∧ DenL X.K α H ds vs) ds := by
  intro i α S H ⟨vs, s, l⟩ w
  have hl := l.length
  refine ⟨fun hi => ?_, fun hi => ⟨vs, s, by omega⟩⟩
  have hv : i < vs.length := by omega
  refine ⟨⟨vs, vs[i], s, List.getElem?_eq_getElem hv⟩, fun x H' y => ?_⟩
  obtain ⟨rfl, y⟩ := y
  obtain ⟨d, h1, h2⟩ := l.get (y vs s)
  exact ⟨Ext.refl _ _, w, ⟨vs, s, l⟩, d, h1, h2⟩
theorem itm_tup {a : Addr} {ds : List MV} : ItM X.g (Itt X.K a) (fun α S H => ∃ vs, SqT X.K H a vs ∧ DenL X.K α H ds vs) ds := by
  intro i α S H ⟨vs, s, l⟩ w
  have hl := l.length
  refine ⟨fun hi => ?_, fun hi => ⟨vs, s, by omega⟩⟩
  have hv : i < vs.length := by omega
  refine ⟨⟨vs, vs[i], s, List.getElem?_eq_getElem hv⟩, fun x H' y => ?_⟩
  obtain ⟨rfl, y⟩ := y
  obtain ⟨d, h1, h2⟩ := l.get (y vs s)
  exact ⟨Ext.refl _ _, w, ⟨vs, s, l⟩, d, h1, h2⟩
theorem itm_range {lo : Int} {n : Nat} : ItM X.g (Itr lo n) (fun _ _ _ => True) ((List.range n).map fun k => .int (lo + (k : Nat))) := by
  intro i α S H _ w
  refine ⟨fun hi => ⟨show i < n by simpa using hi, fun v H' y => ?_⟩, fun hi => by show n ≤ i; simpa using hi⟩
  obtain ⟨rfl, y⟩ := y
  have hi' : i < n := by simpa using hi
  refine ⟨Ext.refl _ _, w, trivial, .int (lo + i), by rw [List.getElem?_map, List.getElem?_range hi']; rfl, ?_⟩
  rw [y]
  exact den_int _
def itL : Er → Sto → R Wk
  | .new ds, S => .ok ⟨ds, []⟩ S
  | .val (.scr ds), S => .ok ⟨ds, []⟩ S
  | .val (.loc l), S => match S[l]? with
    | some (.lst ds) => .ok ⟨ds, [(l, ds)]⟩ S
    | _ => .no
  | _, _ => .no
theorem stay_nil {S : Sto} : stay [] S := fun p h => by simp at h
theorem im_list (he : PEm X W iter f) : PIm X W tg iter (fun ρ S => (f ρ S).bind itL) := by
  obtain ⟨t, he, k⟩ := he
  refine ⟨_, pi_list he, fun α ρ S σ H Rc wd sl q => k α ρ S σ H _ wd sl (q.bind fun u p S1 α1 H1 e x1 w1 d1 q1 => ?_)⟩
  replace q1 := q1.shift x1
  unfold itL at q1
  split at q1
  · rename_i S0 ds
    obtain ⟨⟨b, vs, rfl, h1, h2, h3⟩, h4⟩ := d1
    refine ⟨b, rfl, ⟨vs, .of h1⟩, q1.here (u := Itl X.K b) w1 ⟨fun α2 S2 H2 => ∃ vs, SqL X.K H2 b vs ∧ DenL X.K α2 H2 ds vs ∧ H2 b = some (.lst vs) ∧ b ∉ α2, ?_, ⟨vs, .of h1, h3, h1, h2⟩, ?_, stay_nil⟩⟩
    · intro i α2 S2 H2 ⟨vs2, a1, a2, a3, a4⟩ w2
      obtain ⟨i1, i2⟩ := itm_list (X := X) (a := b) (ds := ds) i α2 S2 H2 ⟨vs2, a1, a2⟩ w2
      refine ⟨fun hi => ⟨(i1 hi).1, fun x H' y => ?_⟩, i2⟩
      obtain ⟨j1, j2, j3, j4⟩ := (i1 hi).2 x H' y
      obtain ⟨rfl, _⟩ := y
      exact ⟨j1, j2, ⟨vs2, a1, a2, a3, a4⟩, j4⟩
    · intro α2 S2 H2 α3 S3 H3 ⟨vs2, a1, a2, a3, a4⟩ x w3 _
      exact ⟨vs2, .of (x.keep b _ a3 a4), a2.ext x, x.keep b _ a3 a4, x.out a3 a4⟩
  · rename_i S0 ds
    obtain ⟨a, vs, rfl, s, l⟩ := xe_scr d1.1
    refine ⟨a, rfl, ⟨vs, s.l⟩, q1.here (u := Itl X.K a) w1 ⟨fun α2 S2 H2 => ∃ vs, SqL X.K H2 a vs ∧ DenL X.K α2 H2 ds vs ∧ SqF X.K H2 a vs, ?_, ⟨vs, s.l, l, s⟩, ?_, stay_nil⟩⟩
    · intro i α2 S2 H2 ⟨vs2, a1, a2, a3⟩ w2
      obtain ⟨i1, i2⟩ := itm_list (X := X) (a := a) (ds := ds) i α2 S2 H2 ⟨vs2, a1, a2⟩ w2
      refine ⟨fun hi => ⟨(i1 hi).1, fun x H' y => ?_⟩, i2⟩
      obtain ⟨j1, j2, j3, j4⟩ := (i1 hi).2 x H' y
      obtain ⟨rfl, _⟩ := y
      exact ⟨j1, j2, ⟨vs2, a1, a2, a3⟩, j4⟩
    · intro α2 S2 H2 α3 S3 H3 ⟨vs2, a1, a2, a3⟩ x w3 _
      exact ⟨vs2, (x.sqF a3).l, a2.ext x, x.sqF a3⟩
  · rename_i S0 n
    obtain ⟨a, rfl, h⟩ := xe_loc d1.1
    obtain ⟨o, h1, h2⟩ := w1.of h
    rw [h1] at q1
    cases o with
    | lst ds =>
      obtain ⟨vs, h3, l⟩ := h2
      refine ⟨a, rfl, ⟨vs, .of h3⟩, Post.here (b := (⟨ds, [(n, ds)]⟩ : Wk)) q1 (u := Itl X.K a) w1 ⟨fun α2 S2 H2 => ∃ vs, SqL X.K H2 a vs ∧ DenL X.K α2 H2 ds vs ∧ α2[n]? = some a, ?_, ⟨vs, .of h3, l, h⟩, ?_, ?_⟩⟩
      · intro i α2 S2 H2 ⟨vs2, a1, a2, a3⟩ w2
        obtain ⟨i1, i2⟩ := itm_list (X := X) (a := a) (ds := ds) i α2 S2 H2 ⟨vs2, a1, a2⟩ w2
        refine ⟨fun hi => ⟨(i1 hi).1, fun x H' y => ?_⟩, i2⟩
        obtain ⟨j1, j2, j3, j4⟩ := (i1 hi).2 x H' y
        obtain ⟨rfl, _⟩ := y
        exact ⟨j1, j2, ⟨vs2, a1, a2, a3⟩, j4⟩
      · intro α2 S2 H2 α3 S3 H3 ⟨vs2, a1, a2, a3⟩ x w3 hs
        have a3' := x.at a3
        have := w3.obj n a _ a3' (hs (n, ds) (by simp))
        obtain ⟨vs3, b1, b2⟩ := this
        exact ⟨vs3, .of b1, b2, a3'⟩
      · intro p hp
        have : p = (n, ds) := by simpa using hp
        subst this
        exact h1
    | dic ds => exact q1.elim
    | ins c fs => exact q1.elim
  · exact q1.elim
def itT : Er → Sto → R Wk
  | .val (.tup ds), S => .ok ⟨ds, []⟩ S
  | _, _ => .no
theorem im_tup (he : PEm X W iter f) : PIm X W tg iter (fun ρ S => (f ρ S).bind itT) := by
  obtain ⟨t, he, k⟩ := he
  refine ⟨_, pi_tup he, fun α ρ S σ H Rc wd sl q => k α ρ S σ H _ wd sl (q.bind fun u p S1 α1 H1 e x1 w1 d1 q1 => ?_)⟩
  replace q1 := q1.shift x1
  unfold itT at q1
  split at q1
  · rename_i S0 ds
    obtain ⟨a, vs, rfl, s, l⟩ := xe_tup d1.1
    exact ⟨a, rfl, ⟨vs, s⟩, q1.here (u := Itt X.K a) w1 ⟨_, itm_tup, ⟨vs, s, l⟩, fun α2 S2 H2 α3 S3 H3 ⟨vs2, a1, a2⟩ x w3 _ => ⟨vs2, x.sqT a1, a2.ext x⟩, stay_nil⟩⟩
  · exact q1.elim
def rng1F : List Er → Sto → R Wk
  | [.val (.int j)], S => if -(2 ^ 62) ≤ j ∧ j < 2 ^ 62 then .ok ⟨(List.range j.toNat).map fun k => .int (k : Nat), []⟩ S else .no
  | _, _ => .no
variable {af : Rho → Sto → R (List Er)} {p : Pos} {a b : Expr}
theorem args1 {K : PySem.W.Frag} {H0 : Hp} {α : List Addr} {H : Hp} {r : Er} {vs : List V} (d : ArgsE K H0 α H [r] vs) : ∃ v, vs = [v] ∧ DenX K α H r v := by
  cases d with
  | cons a n l => cases l; exact ⟨_, rfl, a.1⟩
theorem args2 {K : PySem.W.Frag} {H0 : Hp} {α : List Addr} {H : Hp} {r r' : Er} {vs : List V} (d : ArgsE K H0 α H [r, r'] vs) : ∃ v u, vs = [v, u] ∧ DenX K α H r v ∧ DenX K α H r' u := by
  cases d with
  | cons a n l => obtain ⟨u, rfl, l'⟩ := args1 l; exact ⟨_, u, rfl, a.1, l'⟩
theorem im_range1 (hg : Gl X "range") (hm : X.mg "range" = none) (ha : PAm X W [a] af) (hs : starEach [a] X.env = [(false, eval a X.env)] := by rfl) : PIm X W tg (.Call (.Name "range" p) [a] [] pos) (fun ρ S => (af ρ S).bind rng1F) := by
  obtain ⟨t, ha, k⟩ := ha
  refine ⟨_, pi_range1 hg hm ha hs, fun α ρ S σ H Rc wd sl q => k α ρ S σ H _ wd sl (q.bind fun vs rs S1 α1 H1 e x1 w1 d1 q1 => ?_)⟩
  replace q1 := q1.shift x1
  unfold rng1F at q1
  split at q1
  · split at q1
    · rename_i S0 j hj
      obtain ⟨v, rfl, dv⟩ := args1 d1
      cases xe_int dv
      have := itm_range (X := X) (lo := 0) (n := j.toNat)
      simp only [Int.zero_add] at this
      exact ⟨j, rfl, hj.1, hj.2, q1.here (u := Itr 0 j.toNat) w1 ⟨_, this, trivial, fun _ _ _ _ _ _ _ _ _ _ => trivial, stay_nil⟩⟩
    · exact q1.elim
  · exact q1.elim
open Classical in
noncomputable def forF (gf : MV → Rho → Sto → R Rho) (body : Rho → Sto → R Fl) (gs : List (Nat × List MV)) : List MV → Rho → Sto → R Fl
  | [], ρ, S => .ok (.next ρ) S
  | d :: ds, ρ, S => (gf d ρ S).bind fun ρ0 S0 => (body ρ0 S0).bind fun fl S1 => match fl with
    | .next ρ' => if stay gs S1 then forF gf body gs ds ρ' S1 else .no
    | .cont ρ' => if stay gs S1 then forF gf body gs ds ρ' S1 else .no
    | .brk ρ' => .ok (.next ρ') S1
    | .ret r => .ok (.ret r) S1
open Classical in
theorem sm_for {itf : Rho → Sto → R Wk} {gf : MV → Rho → Sto → R Rho} (hp : PassesOwn (model X.prog X.w) X.A X.env X.xe) (hc : X.calm = true) (hi : PIm X W tg iter itf) (hg : PGm X W tg gf) (hb : PSsm X W as F)
    (hs : ∀ y, foldedSetIterable iter X.env y = pure y := by intro _; rfl) : PSm X W (.For tg iter as [] pos) (fun ρ S => (itf ρ S).bind fun k S1 => forF gf F k.gs k.ds ρ S1) := by
  obtain ⟨wi, hi, ki⟩ := hi
  obtain ⟨tg', hg, kg⟩ := hg
  obtain ⟨tb, hb, kb⟩ := hb
  refine ⟨_, ps_for hp hc hi hg hb hs, fun α ρ S σ H D wd sl q => ki α ρ S σ H _ wd sl (q.expr fun J k S1 α1 H1 e x1 w1 d1 q1 => ?_)⟩
  obtain ⟨P, hP⟩ := d1
  have sl1 := sl.ext x1
  replace q1 := PostS.shift x1 q1
  refine ⟨fun n m σ2 H2 => m = k.ds.length - n ∧ n ≤ k.ds.length ∧ ∃ α2 ρ2 S2, Wd X.g α2 S2 H2 ∧ Slots X.K α2 H2 ρ2 σ2 ∧ P α2 S2 H2 ∧ PostS X.g W α2 H2 D (forF gf F k.gs (k.ds.drop n) ρ2 S2), ⟨_, rfl, Nat.zero_le _, α1, ρ, S1, w1, sl1, hP.here, by simpa using q1⟩, ?_⟩
  rintro n m σ2 H2 ⟨rfl, hn, α2, ρ2, S2, w2, sl2, p2, q2⟩
  obtain ⟨i1, i2⟩ := hP.it n α2 S2 H2 p2 w2
  by_cases hlt : n < k.ds.length
  · obtain ⟨go, yl⟩ := i1 hlt
    refine .inr ⟨go, fun σ3 H3 => ∃ α3 ρ3 S3, Wd X.g α3 S3 H3 ∧ Slots X.K α3 H3 ρ3 σ3 ∧ P α3 S3 H3 ∧ PostS X.g W α3 H3 D (forF gf F k.gs (k.ds.drop (n + 1)) ρ3 S3), fun σ3 H3 ⟨α3, ρ3, S3, h3⟩ => ⟨k.ds.length - (n + 1), by omega, rfl, hlt, α3, ρ3, S3, h3⟩, fun v H3 y => ?_⟩
    obtain ⟨x3, w3, p3, d, hd, dv⟩ := yl v H3 y
    have hdrop : k.ds.drop n = d :: k.ds.drop (n + 1) := by
      rw [List.drop_eq_getElem_cons hlt]
      have := List.getElem?_eq_getElem hlt
      rw [hd] at this
      rw [← Option.some.inj this]
    rw [hdrop] at q2
    unfold forF at q2
    replace q2 := PostS.shift x3 q2
    refine kg α2 ρ2 S2 σ2 H3 d v _ w3 (sl2.ext x3) dv (q2.expr fun σ4 ρ4 S4 α4 H4 e4 x4 w4 s4 q4 => ?_)
    have p4 : ∀ α5 S5 H5, Ext α4 H4 α5 H5 → Wd X.g α5 S5 H5 → stay k.gs S5 → P α5 S5 H5 := fun α5 S5 H5 x5 w5 s5 => hP.stays α2 S2 H3 α5 S5 H5 p3 (x4.trans x5) w5 s5
    refine kb α4 ρ4 S4 σ4 H4 _ w4 s4 ((PostS.shift x4 q4).stmt ?_ ?_ ?_ ?_)
    · intro ρ5 S5 σ5 α5 H5 e5 x5 w5 s5 q5
      have q5' : PostS X.g W α4 H4 D (if stay k.gs S5 then forF gf F k.gs (k.ds.drop (n + 1)) ρ5 S5 else .no) := q5
      split at q5'
      · rename_i hst
        exact ⟨α5, ρ5, S5, w5, s5, p4 α5 S5 H5 x5 w5 hst, PostS.shift x5 q5'⟩
      · exact q5'.elim
    · intro r S5 v5 α5 H5 e5 x5 w5 d5 q5
      exact q5 v5 α5 H5 x5 w5 d5
    · intro ρ5 S5 σ5 α5 H5 e5 x5 w5 s5 q5
      exact q5 σ5 α5 H5 x5 w5 s5
    · intro ρ5 S5 σ5 α5 H5 e5 x5 w5 s5 q5
      have q5' : PostS X.g W α4 H4 D (if stay k.gs S5 then forF gf F k.gs (k.ds.drop (n + 1)) ρ5 S5 else .no) := q5
      split at q5'
      · rename_i hst
        exact ⟨α5, ρ5, S5, w5, s5, p4 α5 S5 H5 x5 w5 hst, PostS.shift x5 q5'⟩
      · exact q5'.elim
  · have e : n = k.ds.length := by omega
    subst e
    refine .inl ⟨i2 (Nat.le_refl _), ?_⟩
    rw [List.drop_length] at q2
    exact q2 σ2 α2 H2 (Ext.refl _ _) w2 sl2
end
end M
end L2
namespace L2
namespace M
open PySem PySem.Spec PyProof.Rows
def noX {β : Type} : R β → R β
  | .ok b S => .ok b S
  | _ => .no
theorem noX_ok {β : Type} (b : β) (S : Sto) : noX (R.ok b S) = .ok b S := rfl
theorem Post.bindY {β τ γ υ : Type} [Dn β τ] [Dn γ υ] {g : Gm} {W : XW} {α α' : List Addr} {H H' : Hp} (x : Ext α H α' H') {m : R β} {k : β → Sto → R γ} {Q : υ → Hp → Prop} {Q' : τ → Hp → Prop} (q : Post g W α H ((noX m).bind k) Q)
    (f : ∀ u b S1 α1 H1, m = .ok b S1 → Ext α' H' α1 H1 → Wd g α1 S1 H1 → Dn.d g H' α1 S1 H1 b u → Post g W α H (k b S1) Q → Q' u H1) : Post g W0 α' H' m Q' := by
  cases m with
  | ok b S => exact fun u α1 H1 x w d => f u b S α1 H1 rfl x w d q
  | exc c fs S => exact q.elim
  | no => exact q
theorem R.bind_assoc {β γ δ : Type} (m : R β) (k1 : β → Sto → R γ) (k2 : γ → Sto → R δ) : (m.bind k1).bind k2 = m.bind fun b S => (k1 b S).bind k2 := by cases m <;> rfl
def blk (nt : Nat) (idx : List Nat) (ρ : Rho) : Rho := List.replicate nt none ++ idx.map fun i => (ρ[i]?).join
open Classical in
noncomputable def compF (gf : MV → Rho → Sto → R Rho) (cf : Rho → Sto → R Bool) (ef : Rho → Sto → R Er) (ρb : Rho) (gs : List (Nat × List MV)) : List MV → Sto → R (List MV)
  | [], S => .ok [] S
  | d :: ds, S => (noX (gf d ρb S)).bind fun ρ1 S0 => (noX (cf ρ1 S0)).bind fun k S1 =>
    if k = true then (noX (ef ρ1 S1)).bind fun r S2 => (enter1 r S2).bind fun y S3 => if stay gs S3 then (compF gf cf ef ρb gs ds S3).bind fun out S4 => .ok (y :: out) S4 else .no
    else if stay gs S1 then compF gf cf ef ρb gs ds S1 else .no
theorem slots_blk {K : PySem.W.Frag} {α : List Addr} {H : Hp} {ρ : Rho} {σ : St} (q : Slots K α H ρ σ) (nt : Nat) (idx : List Nat) (τ : St) (hτ : τ.length = nt) : Slots K α H (blk nt idx ρ) (τ ++ caps σ idx) := by
  refine ⟨by unfold blk; rw [List.length_append, List.length_append, caps_length, List.length_map, List.length_replicate, hτ], fun i d e => ?_⟩
  unfold blk at e
  by_cases hi : i < nt
  · rw [List.getElem?_append_left (by rw [List.length_replicate]; exact hi), List.getElem?_replicate] at e
    split at e <;> cases e
  · rw [List.getElem?_append_right (by rw [List.length_replicate]; omega), List.length_replicate, List.getElem?_map] at e
    cases z : idx[i - nt]? with
    | none => rw [z] at e; cases e
    | some k =>
      rw [z] at e
      have e2 : (ρ[k]?).join = some d := Option.some.inj e
      cases z2 : ρ[k]? with
      | none => rw [z2] at e2; cases e2
      | some o =>
        rw [z2] at e2
        have e3 : o = some d := e2
        subst e3
        obtain ⟨v, h1, h2⟩ := q.slot k d z2
        refine ⟨v, ?_, h2⟩
        rw [List.getElem?_append_right (by omega), hτ]
        unfold caps
        rw [List.getElem?_map, z]
        show some (σ[k]?).join = some (some v)
        rw [h1]; rfl
def Keeps (nt : Nat) (σ : St) (Q : St → Hp → Prop) : St → Hp → Prop := fun σ' H' => σ'.length = σ.length → (∀ j, nt ≤ j → σ'[j]? = σ[j]?) → Q σ' H'
def PGn (nt : Nat) (X : Cx) (W : XW) (tg : Expr) (gf : MV → Rho → Sto → R Rho) : Prop :=
  ∃ t, PG X tg t ∧ ∀ α ρ S σ H d v Q, Wd X.g α S H → Slots X.K α H ρ σ → Den X.K α H d v → Post X.g W α H (gf d ρ S) (Keeps nt σ Q) → t v σ H Q
def PGsn (nt : Nat) (X : Cx) (W : XW) (tgs : List Expr) (gf : List MV → Rho → Sto → R Rho) : Prop :=
  ∃ t, PGs X tgs t ∧ ∀ α ρ S σ H ds vs Q, Wd X.g α S H → Slots X.K α H ρ σ → DenL X.K α H ds vs → Post X.g W α H (gf ds ρ S) (Keeps nt σ Q) → t vs σ H Q
section
variable {X : Cx} {W : XW} {e : Expr} {pos : Pos} {nt : Nat}
theorem gn_name (i : Nat) {x : Str} (hN : X.N.Nodup) (hi : X.N[i]? = some x := by rfl) (hx : Loc X.env.scope x := by first | exact Or.inl rfl | exact Or.inr rfl) (hf : X.fn x = true ∨ X.env.scope.names.lookup x = some .local := by first | exact .inl rfl | exact .inr rfl | assumption) (hlt : i < nt := by decide) :
    PGn nt X W (.Name x pos) (gNm i) := ⟨_, pg_name hN hi hx hf, fun α ρ S σ H d v Q wd sl de q => Post.here (b := ρ.set i (some d)) q wd (sl.set de) (by rw [List.length_set]) fun j hj => by rw [List.getElem?_set_ne (by omega)]⟩
theorem gn_nil : PGsn nt X W [] gsNil := ⟨_, pgs_nil, fun α ρ S σ H ds vs Q wd sl de q => by
  cases ds with
  | nil => exact ⟨de.isnil, Post.here (b := ρ) q wd sl rfl fun _ _ => rfl⟩
  | cons d ds => exact q.elim⟩
theorem Post.keeps {g : Gm} {W : XW} {α : List Addr} {H : Hp} {m : R Rho} {σ σ1 : St} {Q : St → Hp → Prop} (h1 : σ1.length = σ.length) (h2 : ∀ j, nt ≤ j → σ1[j]? = σ[j]?) (q : Post g W α H m (Keeps nt σ Q)) : Post g W α H m (Keeps nt σ1 Q) := by
  cases m with
  | ok b S => exact fun u α1 H1 x w d k1 k2 => q u α1 H1 x w d (k1.trans h1) fun j hj => (k2 j hj).trans (h2 j hj)
  | exc c fs S => exact q
  | no => exact q
theorem gn_cons {es : List Expr} {g1 : MV → Rho → Sto → R Rho} {g2 : List MV → Rho → Sto → R Rho} (h1 : PGn nt X W e g1) (h2 : PGsn nt X W es g2) (hs : (assignEach (e :: es) X.env).map (·.2) = assign e X.env :: (assignEach es X.env).map (·.2) := by rfl) : PGsn nt X W (e :: es) (gsCons g1 g2) := by
  obtain ⟨t1, h1, k1⟩ := h1
  obtain ⟨t2, h2, k2⟩ := h2
  refine ⟨_, pgs_cons h1 h2 hs, fun α ρ S σ H ds vs Q wd sl de q => ?_⟩
  cases ds with
  | nil => exact q.elim
  | cons d ds =>
    obtain ⟨v, r, rfl, a, l⟩ := de.uncons
    refine ⟨v, r, rfl, k1 α ρ S σ H d v _ wd sl a (Post.bind q fun u p S1 α1 H1 e x1 w1 d1 q1 k1 k2' => k2 α1 p S1 u H1 ds r Q w1 d1 (l.ext x1) (Post.keeps k1 k2' (q1.shift x1)))⟩
theorem gn_tup {es : List Expr} {k n : Nat} {g2 : List MV → Rho → Sto → R Rho} (hc : X.calm = true) (h : PGsn nt X W es g2)
    (hn : (assignEach es X.env).length = n := by rfl) (hst : (assignEach es X.env).findIdx? (·.1) = none := by rfl) : PGn nt X W (.Tuple es k pos) (gTp n g2) := by
  obtain ⟨t, h, k⟩ := h
  refine ⟨_, pg_tup hc h hn hst, fun α ρ S σ H d v Q wd sl de q => ?_⟩
  unfold gTp at q
  split at q
  · split at q
    · rename_i hl
      obtain ⟨a, vs, rfl, s, l⟩ := of_tup de
      exact ⟨a, vs, rfl, s, by rw [l.length]; exact hl, k α ρ S σ H _ vs Q wd sl l q⟩
    · exact q.elim
  · exact q.elim
end
abbrev PIfm (X : Cx) (W : XW) (ifs : List Expr) (f : Rho → Sto → R Bool) : Prop := Jd X W (PIfs X ifs) f
section
variable {X : Cx} {W : XW} {iter : Expr} {c : Expr} {tf : Rho → Sto → R Bool} {pos : Pos}
theorem ifm_nil : PIfm X W [] (fun _ S => .ok true S) := ⟨_, pifs_nil, fun α ρ S σ H Q wd sl q => q.here wd rfl⟩
theorem ifm_one (h : PTm X W c tf) : PIfm X W [c] tf := let ⟨t, h, k⟩ := h; ⟨t, pifs_one h, k⟩
open Classical in
theorem cu_comp {elt tg : Expr} {ifs : List Expr} {sc : Scope} {itf : Rho → Sto → R Wk} {cf : Rho → Sto → R Bool} {ef : Rho → Sto → R Er} {gf : MV → Rho → Sto → R Rho} (osc : Scope) (N : List Str) (T : List Str) (idx : List Nat)
    (hi : PIm X W tg iter itf) (hcalm : X.calm = true)
    (hg : ∀ C s₂ H1 fp, ([] ++ T ++ idx.map fun i => (N[i]?).getD Str.empty).Nodup → PGn T.length (cxComp X sc T idx C s₂ H1 fp) W0 tg gf)
    (hc : ∀ C s₂ H1 fp, PIfm (cxComp X sc T idx C s₂ H1 fp) W0 ifs cf) (he : ∀ C s₂ H1 fp, PEm (cxComp X sc T idx C s₂ H1 fp) W0 elt ef)
    (e1 : X.env.scope = osc := by rfl) (e2 : X.N = N := by rfl) (hB : compB osc N sc idx = true := by decide +kernel) (hN : ([] ++ T ++ idx.map fun i => (N[i]?).getD Str.empty).Nodup := by decide +kernel)
    (hs : ∀ y, foldedSetIterable iter X.env y = pure y := by intro _; rfl) :
    Jd (β := Er) (τ := V) X W (fun t => PE X (.ListComp elt [⟨tg, iter, ifs, 0⟩] sc pos) t ∧ PU X (.ListComp elt [⟨tg, iter, ifs, 0⟩] sc pos) t) (fun ρ S => (itf ρ S).bind fun k S1 => if k.ds.length < 1000000 then (compF gf cf ef (blk T.length idx ρ) k.gs k.ds S1).bind fun out S2 => .ok (.new out) S2 else .no) := by
  obtain ⟨wi, hi, ki⟩ := hi
  subst e1 e2
  have big : (1000000 : Nat) < sizeLine := by rw [sizeLine_eq]; decide
  have hg' : ∃ t, (∀ C s₂ H1 fp, PG (cxComp X sc T idx C s₂ H1 fp) tg t) ∧ ∀ α ρ S σ H d v Q, Wd X.g α S H → Slots X.K α H ρ σ → Den X.K α H d v → Post X.g W0 α H (gf d ρ S) (Keeps T.length σ Q) → t v σ H Q := by
    refine ⟨fun v σ H Q => ∃ α ρ S d, Wd X.g α S H ∧ Slots X.K α H ρ σ ∧ Den X.K α H d v ∧ Post X.g W0 α H (gf d ρ S) (Keeps T.length σ Q), fun C s₂ H1 fp pins s σ H v u Q I r ⟨α, ρ, S, d, h1, h2, h3, h4⟩ => ?_, fun α ρ S σ H d v Q h1 h2 h3 h4 => ⟨α, ρ, S, d, h1, h2, h3, h4⟩⟩
    obtain ⟨t, ht, kt⟩ := hg C s₂ H1 fp hN
    exact ht pins s σ H v u Q I r (kt α ρ S σ H d v Q h1 h2 h3 h4)
  obtain ⟨tg', hg1, kg⟩ := hg'
  refine ⟨_, ⟨pe_comp T idx hi hcalm hB hg1 (fun C s₂ H1 fp => (Classical.choose_spec (hc C s₂ H1 fp)).1) (fun C s₂ H1 fp => (Classical.choose_spec (he C s₂ H1 fp)).1) hs, pu_comp T idx hi hcalm hB hg1 (fun C s₂ H1 fp => (Classical.choose_spec (hc C s₂ H1 fp)).1) (fun C s₂ H1 fp => (Classical.choose_spec (he C s₂ H1 fp)).1) hs⟩, fun α ρ S σ H Q wd sl q => ki α ρ S σ H _ wd sl (q.bind fun J k S1 α1 H1 e1 x1 w1 d1 q1 => ?_)⟩
  obtain ⟨P, hP⟩ := d1
  split at q1
  · rename_i hlen
    refine ⟨fun n m ys H2 => m = k.ds.length - n ∧ n ≤ k.ds.length ∧ ys.length ≤ n ∧ ∃ α2 S2, Ext α H α2 H2 ∧ Wd X.g α2 S2 H2 ∧ P α2 S2 H2 ∧ ∃ outs, DenL X.K α2 H2 outs ys ∧ Post X.g W α H ((compF gf cf ef (blk T.length idx ρ) k.gs (k.ds.drop n) S2).bind fun o S' => .ok (Er.new (outs ++ o)) S') Q,
      ⟨_, rfl, Nat.zero_le _, Nat.le_refl _, α1, S1, x1, w1, hP.here, [], denl_nil, by simpa using q1⟩, ?_⟩
    rintro n m ys H2 ⟨rfl, hn, hy, α2, S2, x2, w2, p2, outs, l, q2⟩
    obtain ⟨i1, i2⟩ := hP.it n α2 S2 H2 p2 w2
    refine ⟨by omega, ?_⟩
    by_cases hlt : n < k.ds.length
    · obtain ⟨go, yl⟩ := i1 hlt
      refine .inr ⟨go, by omega, fun v H3 y τ hτ => ?_⟩
      obtain ⟨x3, w3, p3, d, hd, dv⟩ := yl v H3 y
      have hdrop : k.ds.drop n = d :: k.ds.drop (n + 1) := by
        rw [List.drop_eq_getElem_cons hlt]
        have := List.getElem?_eq_getElem hlt
        rw [hd] at this
        rw [← Option.some.inj this]
      rw [hdrop] at q2
      unfold compF at q2
      have slb := slots_blk (sl.ext (x2.trans x3)) T.length idx τ hτ
      refine kg α2 (blk T.length idx ρ) S2 _ H3 d v _ w3 slb dv ?_
      rw [R.bind_assoc] at q2
      refine q2.bindY (x2.trans x3) fun σ4 ρ4 S4 α4 H4 e4 x4 w4 s4 q4 len4 kp4 => ⟨⟨σ4.take T.length, ?_, ?_⟩, fun C s₂ fp => ?_⟩
      · refine List.ext_getElem? fun j => ?_
        have hl4 : σ4.length = T.length + idx.length := by rw [len4, List.length_append, caps_length, hτ]
        by_cases hj : j < T.length
        · rw [List.getElem?_append_left (by rw [List.length_take]; omega), List.getElem?_take_of_lt hj]
        · rw [kp4 j (by omega), List.getElem?_append_right (by omega), List.getElem?_append_right (by rw [List.length_take]; omega), hτ, List.length_take, Nat.min_eq_left (by omega)]
      · rw [List.length_take, len4, List.length_append, caps_length, hτ]; omega
      have x34 : Ext α H α4 H4 := (x2.trans x3).trans x4
      have p4 : ∀ α5 S5 H5, Ext α4 H4 α5 H5 → Wd X.g α5 S5 H5 → stay k.gs S5 → P α5 S5 H5 := fun α5 S5 H5 x5 w5 s5 => hP.stays α2 S2 H3 α5 S5 H5 p3 (x4.trans x5) w5 s5
      rw [R.bind_assoc] at q4
      refine (Classical.choose_spec (hc C s₂ H1 fp)).2 α4 ρ4 S4 σ4 H4 _ w4 s4 (q4.bindY x34 fun b5 b5' S5 α5 H5 e5 x5 w5 d5 q5 => ?_)
      cases d5
      cases b5 with
      | false =>
        rw [if_neg Bool.false_ne_true] at q5 ⊢
        split at q5
        · rename_i hst
          exact ⟨k.ds.length - (n + 1), by omega, rfl, hlt, by omega, α5, S5, x34.trans x5, w5, p4 α5 S5 H5 x5 w5 hst, outs, (l.ext (x3.trans x4)).ext x5, q5⟩
        · exact q5.elim
      | true =>
        rw [if_pos rfl, R.bind_assoc] at q5
        rw [if_pos rfl]
        refine (Classical.choose_spec (he C s₂ H1 fp)).2 α5 ρ4 S5 σ4 H5 _ w5 (s4.ext x5) (q5.bindY (x34.trans x5) fun y6 r6 S6 α6 H6 e6 x6 w6 d6 q6 => ?_)
        obtain ⟨d', S', α', e7, x7, y7, w7, de⟩ := enter1_ok w6 x6 d6
        rw [e7] at q6
        have q6 : Post X.g W α H ((if stay k.gs S' then (compF gf cf ef (blk T.length idx ρ) k.gs (k.ds.drop (n + 1)) S').bind fun out S4 => .ok (d' :: out) S4 else .no).bind fun o S' => .ok (Er.new (outs ++ o)) S') Q := q6
        split at q6
        · rename_i hst
          refine ⟨k.ds.length - (n + 1), by omega, rfl, hlt, by rw [List.length_append, List.length_singleton]; omega, α', S', (x34.trans x5).trans x7, w7, p4 α' S' H6 (x5.trans x7) w7 hst, outs ++ [d'], ((l.ext (x3.trans x4)).ext (x5.trans x7)).append (denl_cons de denl_nil), ?_⟩
          rw [R.bind_assoc] at q6
          have e8 : (fun (o : List MV) (S' : Sto) => R.ok (Er.new ((outs ++ [d']) ++ o)) S') = (fun (b : List MV) S => (R.ok (d' :: b) S).bind fun o S' => .ok (Er.new (outs ++ o)) S') := by
            funext o S'
            show _ = R.ok (Er.new (outs ++ (d' :: o))) S'
            rw [List.append_assoc]; rfl
          rw [e8]
          exact q6
        · exact q6.elim
    · have e : n = k.ds.length := by omega
      subst e
      rw [List.drop_length] at q2
      have q3 : Post X.g W α H (.ok (Er.new (outs ++ [])) S2) Q := q2
      rw [List.append_nil] at q3
      exact .inl ⟨i2 (Nat.le_refl _), fun D hD => (q3.shift x2).newl w2 hD l⟩
  · exact q1.elim
open Classical in
theorem pm_comp {elt tg : Expr} {ifs : List Expr} {sc : Scope} {itf : Rho → Sto → R Wk} {cf : Rho → Sto → R Bool} {ef : Rho → Sto → R Er} {gf : MV → Rho → Sto → R Rho} (osc : Scope) (N : List Str) (T : List Str) (idx : List Nat)
    (hi : PIm X W tg iter itf) (hcalm : X.calm = true)
    (hg : ∀ C s₂ H1 fp, ([] ++ T ++ idx.map fun i => (N[i]?).getD Str.empty).Nodup → PGn T.length (cxComp X sc T idx C s₂ H1 fp) W0 tg gf)
    (hc : ∀ C s₂ H1 fp, PIfm (cxComp X sc T idx C s₂ H1 fp) W0 ifs cf) (he : ∀ C s₂ H1 fp, PEm (cxComp X sc T idx C s₂ H1 fp) W0 elt ef)
    (e1 : X.env.scope = osc := by rfl) (e2 : X.N = N := by rfl) (hB : compB osc N sc idx = true := by decide +kernel) (hN : ([] ++ T ++ idx.map fun i => (N[i]?).getD Str.empty).Nodup := by decide +kernel)
    (hs : ∀ y, foldedSetIterable iter X.env y = pure y := by intro _; rfl) :
    PEm X W (.ListComp elt [⟨tg, iter, ifs, 0⟩] sc pos) (fun ρ S => (itf ρ S).bind fun k S1 => if k.ds.length < 1000000 then (compF gf cf ef (blk T.length idx ρ) k.gs k.ds S1).bind fun out S2 => .ok (.new out) S2 else .no) := let ⟨t, h, k⟩ := (cu_comp osc N T idx hi hcalm hg hc he e1 e2 hB hN hs); ⟨t, h.1, k⟩
open Classical in
end
end M
end L2
namespace L2
namespace M
open PySem PySem.Spec PyProof.Rows
mutual
def lo (n : Nat) : MV → Prop
  | .loc l => l < n
  | .tup ds => loL n ds
  | .scr ds => loL n ds
  | _ => True
def loL (n : Nat) : List MV → Prop
  | [] => True
  | d :: ds => lo n d ∧ loL n ds
end
def loO (n : Nat) : MO → Prop
  | .lst ds => loL n ds
  | .dic kvs => ∀ p ∈ kvs, lo n p.1 ∧ lo n p.2
  | .ins _ fs => ∀ p ∈ fs, lo n p.2
section
variable {K : PySem.W.Frag} {α t : List Addr} {H : Hp}
mutual
theorem Den.back : ∀ {d : MV} {v : V}, Den K (α ++ t) H d v → lo α.length d → Den K α H d v
  | .non, _, q, _ => by cases of_non q; exact den_non
  | .bl _, _, q, _ => by cases of_bl q; exact den_bl _
  | .int _, _, q, _ => by cases of_int q; exact den_int _
  | .str _, _, q, _ => by cases of_str q; exact den_str _
  | .typ _, _, q, _ => by cases of_typ q; exact den_typ _
  | .loc l, _, q, h => by
    obtain ⟨a, rfl, e⟩ := of_loc q
    have hl : l < α.length := by unfold lo at h; exact h
    rw [List.getElem?_append_left hl] at e
    exact den_loc e
  | .tup ds, _, q, h => by
    obtain ⟨a, vs, rfl, s, l⟩ := of_tup q
    exact den_tup s (DenL.back l (by unfold lo at h; exact h))
  | .scr ds, _, q, h => by
    obtain ⟨a, vs, rfl, s, l⟩ := of_scr q
    exact den_scr s (DenL.back l (by unfold lo at h; exact h))
theorem DenL.back : ∀ {ds : List MV} {vs : List V}, DenL K (α ++ t) H ds vs → loL α.length ds → DenL K α H ds vs
  | [], _, q, _ => by rw [q.isnil]; exact denl_nil
  | d :: ds, _, q, h => by
    obtain ⟨v, r, rfl, a, l⟩ := q.uncons
    unfold loL at h
    exact denl_cons (Den.back a h.1) (DenL.back l h.2)
end
mutual
theorem Den.lo : ∀ {d : MV} {v : V}, Den K α H d v → lo α.length d
  | .non, _, q => by unfold M.lo; trivial
  | .bl _, _, q => by unfold M.lo; trivial
  | .int _, _, q => by unfold M.lo; trivial
  | .str _, _, q => by unfold M.lo; trivial
  | .typ _, _, q => by unfold M.lo; trivial
  | .loc l, _, q => by
    obtain ⟨a, rfl, e⟩ := of_loc q
    unfold M.lo
    exact (List.getElem?_eq_some_iff.mp e).1
  | .tup ds, _, q => by
    obtain ⟨a, vs, rfl, s, l⟩ := of_tup q
    unfold M.lo
    exact DenL.lo l
  | .scr ds, _, q => by
    obtain ⟨a, vs, rfl, s, l⟩ := of_scr q
    unfold M.lo
    exact DenL.lo l
theorem DenL.lo : ∀ {ds : List MV} {vs : List V}, DenL K α H ds vs → loL α.length ds
  | [], _, q => by unfold loL; trivial
  | d :: ds, _, q => by
    obtain ⟨v, r, rfl, a, l⟩ := q.uncons
    unfold loL
    exact ⟨Den.lo a, DenL.lo l⟩
end
theorem DenK.back : ∀ {fs gs}, DenK K (α ++ t) H fs gs → (∀ p ∈ fs, M.lo α.length p.1 ∧ M.lo α.length p.2) → DenK K α H fs gs
  | _, _, .nil, _ => .nil
  | _, _, .cons k a l, h => .cons k (a.back (h _ List.mem_cons_self).2) (DenK.back l fun p hp => h p (List.mem_cons_of_mem _ hp))
theorem KeyD.lo {n : Nat} {k : MV} {k' : Key} (h : KeyD k k') : M.lo n k := by
  unfold KeyD at h
  split at h
  · unfold M.lo; trivial
  · unfold M.lo; trivial
  · exact h.elim
theorem DenK.lo : ∀ {fs gs}, DenK K α H fs gs → ∀ p ∈ fs, M.lo α.length p.1 ∧ M.lo α.length p.2
  | _, _, .nil => fun p h => by simp at h
  | _, _, .cons k a l => fun p h => (List.mem_cons.mp h).elim (fun e => by subst e; exact ⟨k.lo, a.lo⟩) (DenK.lo l p)
theorem DenN.back : ∀ {fs xs}, DenN K (α ++ t) H fs xs → (∀ p ∈ fs, M.lo α.length p.1 ∧ M.lo α.length p.2) → DenN K α H fs xs
  | _, _, .nil, _ => .nil
  | _, _, .cons k e a d r l, h => .cons k e (a.back (h _ List.mem_cons_self).1) (d.back (h _ List.mem_cons_self).2) r (DenN.back l fun p hp => h p (List.mem_cons_of_mem _ hp))
theorem DenN.lo : ∀ {fs xs}, DenN K α H fs xs → ∀ p ∈ fs, M.lo α.length p.1 ∧ M.lo α.length p.2
  | _, _, .nil => fun p h => by simp at h
  | _, _, .cons k e a d r l => fun p h => (List.mem_cons.mp h).elim (fun z => by subst z; exact ⟨a.lo, d.lo⟩) (DenN.lo l p)
theorem DenF.back : ∀ {fs gs}, DenF K (α ++ t) H fs gs → (∀ p ∈ fs, M.lo α.length p.2) → DenF K α H fs gs
  | _, _, .nil, _ => .nil
  | _, _, .cons a l, h => .cons (a.back (h _ List.mem_cons_self)) (DenF.back l fun p hp => h p (List.mem_cons_of_mem _ hp))
theorem DenF.lo : ∀ {fs gs}, DenF K α H fs gs → ∀ p ∈ fs, M.lo α.length p.2
  | _, _, .nil => fun p h => by simp at h
  | _, _, .cons a l => fun p h => (List.mem_cons.mp h).elim (fun e => by subst e; exact a.lo) (DenF.lo l p)
theorem ObD.back {g : Gm} {a : Addr} {o : MO} (q : ObD g (α ++ t) H a o) (h : loO α.length o) : ObD g α H a o := by
  cases o with
  | lst ds => obtain ⟨vs, h1, l⟩ := q; exact ⟨vs, h1, l.back h⟩
  | dic ds =>
    rcases q with ⟨vs, h1, l⟩ | ⟨vs, h1, l⟩
    · exact .inl ⟨vs, h1, l.back h⟩
    · exact .inr ⟨vs, h1, l.back h⟩
  | ins c fs => obtain ⟨C, gs, m, l, r⟩ := q; exact ⟨C, gs, m, l.back h, r⟩
theorem ObD.lo {g : Gm} {a : Addr} {o : MO} (q : ObD g α H a o) : loO α.length o := by
  cases o with
  | lst ds => obtain ⟨vs, h1, l⟩ := q; exact l.lo
  | dic ds =>
    rcases q with ⟨vs, h1, l⟩ | ⟨vs, h1, l⟩
    · exact l.lo
    · exact l.lo
  | ins c fs => obtain ⟨C, gs, m, l, r⟩ := q; exact l.lo
end
def cutOk (S S2 : Sto) : Prop := S.length ≤ S2.length ∧ ∀ l, l < S.length → S2[l]? = S[l]? ∨ ∃ o, S2[l]? = some o ∧ loO S.length o
open Classical in
noncomputable def trimF (S : Sto) (r : Er) (S2 : Sto) : R Er :=
  if cutOk S S2 then match r with
    | .val (.loc l) => if l < S.length then .ok r (S2.take S.length) else match S2[l]? with
      | some (.lst ds) => if loL S.length ds then .ok (.new ds) (S2.take S.length) else .ok r S2
      | _ => .ok r S2
    | .val d => if lo S.length d then .ok r (S2.take S.length) else .ok r S2
    | .new ds => if loL S.length ds then .ok r (S2.take S.length) else .ok r S2
  else .ok r S2
theorem trim_ok {g : Gm} {α α1 α2 α3 : List Addr} {H H1 H3 : Hp} {S1 S3 : Sto} {r : Er} {v : V} (x1 : Ext α H α1 H1) (w1 : Wd g α1 S1 H1) (h12 : ∃ t, α2 = α1 ++ t) (x2 : Ext α H α2 H1) (x3 : Ext α2 H1 α3 H3) (w3 : Wd g α3 S3 H3) (d : DenE g.K H1 α3 H3 r v) :
    ∃ r' S' α', trimF S1 r S3 = .ok r' S' ∧ Ext α H α' H3 ∧ Wd g α' S' H3 ∧ DenE g.K H α' H3 r' v := by
  have x23 := x2.trans x3
  have dfull : DenE g.K H α3 H3 r v := d.back fun b h => x1.free h
  unfold trimF
  by_cases hc : cutOk S1 S3
  · rw [if_pos hc]
    obtain ⟨t, ht⟩ : ∃ t, α3 = α1 ++ t := by
      obtain ⟨t, e⟩ := h12
      obtain ⟨u, e'⟩ := x3.pre
      exact ⟨t ++ u, by rw [e', e, List.append_assoc]⟩
    have hn : α1.length = S1.length := w1.len
    have xc : Ext α H α1 H3 := ⟨⟨x1.pre, x23.tup, x23.frz⟩, x1.new, x23.keep, x23.has⟩
    have wc : Wd g α1 (S3.take S1.length) H3 := by
      refine ⟨by rw [List.length_take, hn, Nat.min_eq_left hc.1], w1.nd, fun l a o h1 h2 => ?_⟩
      have hl : l < S1.length := by rw [← hn]; exact (List.getElem?_eq_some_iff.mp h1).1
      rw [List.getElem?_take_of_lt hl] at h2
      have h1' : α3[l]? = some a := by rw [ht, List.getElem?_append_left (by rw [hn]; exact hl)]; exact h1
      have q := w3.obj l a o h1' h2
      rw [ht] at q
      refine q.back ?_
      rcases hc.2 l hl with e | ⟨o', e, lo'⟩
      · rw [e] at h2
        exact (w1.obj l a o h1 h2).lo
      · rw [h2] at e
        cases e
        rw [hn]; exact lo'
    have dlo : ∀ d, lo S1.length d → Den g.K α3 H3 d v → DenE g.K H α1 H3 (.val d) v := fun d hd q => .val ((ht ▸ q : Den g.K (α1 ++ t) H3 d v).back (by rw [hn]; exact hd))
    cases r with
    | new ds =>
      dsimp only
      split
      · rename_i hl
        obtain ⟨⟨b, vs, rfl, h1, h2, h3⟩, h4⟩ := dfull
        exact ⟨_, _, α1, rfl, xc, wc, ⟨b, vs, rfl, h1, fun z => h2 (by rw [ht]; exact List.mem_append_left _ z), (ht ▸ h3 : DenL g.K (α1 ++ t) H3 ds vs).back (by rw [hn]; exact hl)⟩, h4⟩
      · exact ⟨_, _, α3, rfl, x23, w3, dfull⟩
    | val mv =>
      have dd : Den g.K α3 H3 mv v := dfull.1
      cases mv with
      | loc l =>
        dsimp only
        split
        · rename_i hl
          exact ⟨_, _, α1, rfl, xc, wc, dlo _ (by unfold lo; exact hl) dd⟩
        · rename_i hl
          obtain ⟨a, rfl, ha⟩ := of_loc dd
          split
          · rename_i ds hS
            split
            · rename_i hlo
              obtain ⟨vs, h1, h2⟩ := w3.obj l a _ ha hS
              have hna : a ∉ α1 := fun z => by
                obtain ⟨m, hm⟩ := List.getElem?_of_mem z
                have hml : m < α1.length := (List.getElem?_eq_some_iff.mp hm).1
                have hm' : α3[m]? = some a := by rw [ht, List.getElem?_append_left hml]; exact hm
                obtain ⟨u1, e1⟩ := List.getElem?_eq_some_iff.mp hm'
                obtain ⟨u2, e2⟩ := List.getElem?_eq_some_iff.mp ha
                have := (List.getElem_inj w3.nd).mp (e1.trans e2.symm)
                omega
              refine ⟨_, _, α1, rfl, xc, wc, ⟨a, vs, rfl, h1, hna, (ht ▸ h2 : DenL g.K (α1 ++ t) H3 ds vs).back (by rw [hn]; exact hlo)⟩, fun b e => ?_⟩
              cases e
              rcases x23.new a (List.mem_of_getElem? ha) with z | z
              · obtain ⟨u, eu⟩ := x1.pre
                exact absurd (by rw [eu]; exact List.mem_append_left _ z) hna
              · exact z
            · exact ⟨_, _, α3, rfl, x23, w3, dfull⟩
          · exact ⟨_, _, α3, rfl, x23, w3, dfull⟩
      | non => dsimp only; split; (· rename_i hl; exact ⟨_, _, α1, rfl, xc, wc, dlo _ hl dd⟩); (· exact ⟨_, _, α3, rfl, x23, w3, dfull⟩)
      | bl b => dsimp only; split; (· rename_i hl; exact ⟨_, _, α1, rfl, xc, wc, dlo _ hl dd⟩); (· exact ⟨_, _, α3, rfl, x23, w3, dfull⟩)
      | int b => dsimp only; split; (· rename_i hl; exact ⟨_, _, α1, rfl, xc, wc, dlo _ hl dd⟩); (· exact ⟨_, _, α3, rfl, x23, w3, dfull⟩)
      | str b => dsimp only; split; (· rename_i hl; exact ⟨_, _, α1, rfl, xc, wc, dlo _ hl dd⟩); (· exact ⟨_, _, α3, rfl, x23, w3, dfull⟩)
      | typ b => dsimp only; split; (· rename_i hl; exact ⟨_, _, α1, rfl, xc, wc, dlo _ hl dd⟩); (· exact ⟨_, _, α3, rfl, x23, w3, dfull⟩)
      | tup b => dsimp only; split; (· rename_i hl; exact ⟨_, _, α1, rfl, xc, wc, dlo _ hl dd⟩); (· exact ⟨_, _, α3, rfl, x23, w3, dfull⟩)
      | scr b => dsimp only; split; (· rename_i hl; exact ⟨_, _, α1, rfl, xc, wc, dlo _ hl dd⟩); (· exact ⟨_, _, α3, rfl, x23, w3, dfull⟩)
  · rw [if_neg hc]
    exact ⟨_, _, α3, rfl, x23, w3, dfull⟩
def spM (g : Gm) (n : Nat) (F : List MV → Sto → R Er) : Sp := fun vs H Q _ => ∃ α S ds, Wd g α S H ∧ DenL g.K α H ds vs ∧ ds.length = n ∧ Post g W0 α H (F ds S) Q
noncomputable def callF (n : Nat) (F : List MV → Sto → R Er) (rs : List Er) (S : Sto) : R Er := if rs.length = n then (noX (F (enterA rs S).1 (enterA rs S).2)).bind fun r S2 => trimF S r S2 else .no
section
variable {X : Cx} {W : XW} {e : Expr} {es : List Expr} {af : Rho → Sto → R (List Er)} {pos : Pos}
theorem call_post {n : Nat} {F : List MV → Sto → R Er} {rs : List Er} {vs : List V} {α α1 : List Addr} {H H1 : Hp} {S1 : Sto} {Q : VK} (x1 : Ext α H α1 H1) (w1 : Wd X.g α1 S1 H1) (d1 : ArgsE X.K H α1 H1 rs vs) (q : Post X.g W α H (callF n F rs S1) Q) :
    spM X.g n F vs H1 Q E0 := by
  unfold callF at q
  split at q
  · rename_i hl
    obtain ⟨α2, x2, y2, w2, l2⟩ := enter_ok w1 x1 d1
    refine ⟨α2, _, _, w2, l2, by rw [enter_len]; exact hl, ?_⟩
    cases z : F (enterA rs S1).1 (enterA rs S1).2 with
    | ok r S3 =>
      rw [z] at q
      intro v α3 H3 x3 w3 d3
      obtain ⟨r', S', α', e', x', w', d'⟩ := trim_ok x1 w1 y2.pre x2 x3 w3 d3
      have q : Post X.g W α H (trimF S1 r S3) Q := q
      rw [e'] at q
      exact q v α' H3 x' w' d'
    | exc c fs S3 => rw [z] at q; exact q.elim
    | no => rw [z] at q; exact q.elim
  · exact q.elim
theorem pm_call {k n : Nat} {fa : Addr} {fd : FuncData} {ps : List Str} {F : List MV → Sto → R Er} {x : Str} {p : Pos} (G : FnOk X.prog X.w X.K X.mg X.base CX0 k fa fd ps (spM X.g n F)) (hr : Room k X.A) (hg : Gl X x) (hm : X.mg x = some (.ref fa))
    (hk : PySem.W.keepIn X.K (.ref fa) = true) (hb : Binds X.K fd ps []) (ha : PAm X W (e :: es) af) (hdb : (x == ("__debug__" : Str)) = false := by decide)
    (he : starEach (e :: es) X.env = (false, eval e X.env) :: starEach es X.env := by rfl) (hpl : (backTo pos (starEach es X.env)).any (·.1) = false := by rfl) :
    PEm X W (.Call (.Name x p) (e :: es) [] pos) (fun ρ S => (af ρ S).bind fun rs S1 => callF n F rs S1) := by
  obtain ⟨t, ha, kk⟩ := ha
  refine ⟨_, pe_call G hr hg hm hk hb .nil pass0 ha hdb he hpl, fun α ρ S σ H Q wd sl q => kk α ρ S σ H _ wd sl (q.bind fun vs rs S1 α1 H1 e1 x1 w1 d1 q1 => ?_)⟩
  rw [List.append_nil]
  exact call_post x1 w1 d1 q1
end
def startR (N : List Str) (ds : List MV) : Rho := ds.map some ++ List.replicate (N.length - ds.length) none
def finF : R Fl → R Er
  | .ok (.next _) S => .ok (.val .non) S
  | .ok (.ret r) S => .ok r S
  | .exc c fs S => .exc c fs S
  | _ => .no
theorem slots_start {K : PySem.W.Frag} {α : List Addr} {N : List Str} {H : Hp} {ds : List MV} {vs : List V} (l : DenL K α H ds vs) : Slots K α H (startR N ds) (start N vs) := by
  have hlen := l.length
  refine ⟨?_, fun i d e => ?_⟩
  · unfold start startR
    rw [List.length_append, List.length_append, List.length_map, List.length_map, List.length_replicate, List.length_replicate, hlen]
  · unfold startR at e
    by_cases hi : i < ds.length
    · rw [List.getElem?_append_left (by simpa using hi), List.getElem?_map] at e
      cases z : ds[i]? with
      | none => rw [z] at e; cases e
      | some d' =>
        rw [z] at e
        obtain ⟨v, h1, h2⟩ := l.at z
        have e' : d' = d := Option.some.inj (Option.some.inj e)
        subst e'
        refine ⟨v, ?_, h2⟩
        unfold start
        rw [List.getElem?_append_left (by rw [List.length_map, hlen]; exact hi), List.getElem?_map, h1]; rfl
    · rw [List.getElem?_append_right (by simpa using hi), List.getElem?_replicate] at e
      split at e <;> cases e
section
variable {P : Program} {w : World} {K : PySem.W.Frag} {mg : Str → Option Value} {base : Heap}
theorem okM {x qual : Str} {st : Stmt} {f : Addr} {fd : FuncData} {N ps : List Str} {k : Nat} (Fb : Rho → Sto → R Fl) (F : Fun K x qual st f fd) (Sc : FnScope N ps (defScope st))
    (hbody : ∀ (cdv : Value) (A : Around) (outer : List Env) (s : Shared) (H : Hp) (E : XK), Room k (A.deeper (envOfC qual (defScope st) s.heap.objs.size f cdv)) →
      PSsm (cxOf CX0 P w K mg base N qual (defScope st) f cdv A outer s H E).nox W0 (defBody st) Fb) :
    FnOk P w K mg base CX0 (k + 1) f fd ps (spM ⟨K, mg, P, w⟩ ps.length fun ds S => finF (Fb (startR N ds) S)) := by
  refine F.ok Sc (fun vs H Q E h => ?_) (fun cdv A outer s H vs Q E hr h => ?_)
  · obtain ⟨α, S, ds, _, l, hl, _⟩ := h
    rw [l.length, hl]
  · obtain ⟨α, S, ds, wd, l, hl, q⟩ := h
    obtain ⟨t, ht, kk⟩ := hbody cdv A outer s H E hr
    refine ⟨t, ht, kk α (startR N ds) S (start N vs) H _ wd (slots_start l) ?_⟩
    dsimp only at q
    cases z : Fb (startR N ds) S with
    | ok fl S' =>
      rw [z] at q
      cases fl with
      | next ρ => exact fun σ α' H' x' w' s' => q .non α' H' x' w' (DenE.val den_non)
      | ret r => exact fun v α' H' x' w' d' => q v α' H' x' w' d'
      | brk ρ => exact q.elim
      | cont ρ => exact q.elim
    | exc c fs S' => rw [z] at q; exact fun α' H' x' w' => q α' H' x' w'
    | no => rw [z] at q; exact q
end
end M
end L2
namespace L2
namespace M
open PySem PySem.Spec PyProof.Rows
inductive Vw where
  | fl (v : V) | tp (ds : List MV) | ls (ds : List MV)
def lsOf (S : Sto) : Er → Option (List MV)
  | .new ds => some ds
  | .val (.scr ds) => some ds
  | .val (.loc l) => match S[l]? with
    | some (.lst ds) => some ds
    | _ => none
  | _ => none
def vwE (S : Sto) : Er → Option Vw
  | .val .non => some (.fl .non)
  | .val (.bl b) => some (.fl (.bl b))
  | .val (.int i) => some (.fl (.int i))
  | .val (.str x) => some (.fl (.str (mkS x)))
  | .val (.tup ds) => some (.tp ds)
  | .val (.typ _) => none
  | r => (lsOf S r).map .ls
def prs (e : MV → MV → Option Bool) : List MV → List MV → Option (List Bool)
  | d :: ds, f :: fs => (e d f).bind fun k => (prs e ds fs).map (k :: ·)
  | _, _ => some []
def eqW (e : MV → MV → Option Bool) : Vw → Vw → Option Bool
  | .fl x, .fl y => some (eqV x y)
  | .tp ds, .tp es => (prs e ds es).map fun bs => bs.all id && ds.length == es.length
  | .ls ds, .ls es => if ds.length = es.length then (prs e ds es).map fun bs => bs.all id else some false
  | _, _ => some false
theorem eqW_tp (e : MV → MV → Option Bool) (ds es : List MV) : eqW e (.tp ds) (.tp es) = (prs e ds es).map fun bs => bs.all id && ds.length == es.length := rfl
theorem eqW_ls (e : MV → MV → Option Bool) (ds es : List MV) : eqW e (.ls ds) (.ls es) = if ds.length = es.length then (prs e ds es).map fun bs => bs.all id else some false := rfl
def eqv (S : Sto) : Nat → MV → MV → Option Bool
  | 0, _, _ => none
  | n + 1, a, b => (vwE S (.val a)).bind fun x => (vwE S (.val b)).bind fun y => eqW (eqv S n) x y
def eqvE (S : Sto) (n : Nat) (a b : Er) : Option Bool := (vwE S a).bind fun x => (vwE S b).bind fun y => eqW (eqv S n) x y
section
variable {X : Cx} {α : List Addr} {S : Sto} {H : Hp}
theorem ls_of {K : PySem.W.Frag} {g : Gm} (hK : g.K = K) (wd : Wd g α S H) {r : Er} {ds : List MV} {x : V} (e : lsOf S r = some ds) (d : DenX K α H r x) : ∃ a vs, x = .ref a ∧ SqL K H a vs ∧ DenL K α H ds vs := by
  subst hK
  unfold lsOf at e
  split at e
  · cases e
    obtain ⟨b, vs, rfl, h, _, l⟩ := d
    exact ⟨b, vs, rfl, .of h, l⟩
  · cases e
    obtain ⟨a, vs, rfl, s, l⟩ := xe_scr d
    exact ⟨a, vs, rfl, s.l, l⟩
  · rename_i n
    obtain ⟨a, rfl, h⟩ := xe_loc d
    split at e
    · rename_i es hS
      cases e
      obtain ⟨vs, h1, l⟩ := wd.obj n a _ h hS
      exact ⟨a, vs, rfl, .of h1, l⟩
    · cases e
  · cases e
theorem vw_fl {r : Er} {x y : V} (e : vwE S r = some (.fl y)) (d : DenX X.K α H r x) : x = y ∧ flatV y = true := by
  unfold vwE at e
  split at e
  · cases e; exact ⟨xe_non d, rfl⟩
  · cases e; exact ⟨xe_bl d, rfl⟩
  · cases e; exact ⟨xe_int d, rfl⟩
  · cases e; exact ⟨xe_str d, rfl⟩
  · cases e
  · cases e
  · cases z : lsOf S r <;> rw [z] at e <;> cases e
theorem vw_tp {r : Er} {x : V} {ds : List MV} (e : vwE S r = some (.tp ds)) (d : DenX X.K α H r x) : ∃ a vs, x = .ref a ∧ SqT X.K H a vs ∧ DenL X.K α H ds vs := by
  unfold vwE at e
  split at e
  · cases e
  · cases e
  · cases e
  · cases e
  · cases e; exact xe_tup d
  · cases e
  · cases z : lsOf S r <;> rw [z] at e <;> cases e
theorem vw_ls (wd : Wd X.g α S H) {r : Er} {x : V} {ds : List MV} (e : vwE S r = some (.ls ds)) (d : DenX X.K α H r x) : ∃ a vs, x = .ref a ∧ SqL X.K H a vs ∧ DenL X.K α H ds vs := by
  unfold vwE at e
  split at e
  · cases e
  · cases e
  · cases e
  · cases e
  · cases e
  · cases e
  · cases z : lsOf S r with
    | none => rw [z] at e; cases e
    | some es => rw [z] at e; cases e; exact ls_of rfl wd z d
theorem prs_len {e : MV → MV → Option Bool} : ∀ {ds es : List MV} {bs : List Bool}, prs e ds es = some bs → bs.length = min ds.length es.length
  | [], _, _, h => by simp [prs] at h; subst h; simp
  | _ :: _, [], _, h => by simp [prs] at h; subst h; simp
  | d :: ds, f :: fs, bs, h => by
    unfold prs at h
    cases z : e d f with
    | none => rw [z] at h; cases h
    | some k =>
      rw [z] at h
      cases z2 : prs e ds fs with
      | none => simp [z2] at h
      | some cs =>
        simp [z2] at h
        subst h
        simp [prs_len z2]
theorem prs_get {e : MV → MV → Option Bool} : ∀ {ds es : List MV} {bs : List Bool} {j : Nat} {d f : MV}, prs e ds es = some bs → ds[j]? = some d → es[j]? = some f → e d f = some (bs.getD j true)
  | [], _, _, _, _, _, h, h1, _ => by simp at h1
  | _ :: _, [], _, _, _, _, h, _, h2 => by simp at h2
  | d :: ds, f :: fs, bs, j, d', f', h, h1, h2 => by
    unfold prs at h
    cases z : e d f with
    | none => rw [z] at h; cases h
    | some k =>
      rw [z] at h
      cases z2 : prs e ds fs with
      | none => simp [z2] at h
      | some cs =>
        simp [z2] at h
        subst h
        cases j with
        | zero => simp at h1 h2; subst h1 h2; simpa using z
        | succ j => simpa using prs_get z2 (by simpa using h1) (by simpa using h2)
theorem range_all {bs : List Bool} {n : Nat} (h : bs.length = n) : (List.range n).all (fun j => bs.getD j true) = bs.all id := by
  subst h
  rw [Bool.eq_iff_iff, List.all_eq_true, List.all_eq_true]
  constructor
  · intro h x hx
    obtain ⟨i, hi, rfl⟩ := List.getElem_of_mem hx
    have := h i (List.mem_range.mpr hi)
    simpa [List.getD_eq_getElem?_getD, hi] using this
  · intro h i hi
    have hi' := List.mem_range.mp hi
    have := h bs[i] (List.getElem_mem hi')
    simpa [List.getD_eq_getElem?_getD, hi'] using this
variable {pins : List (Addr × Obj)} {σ : St} {s : Shared}
theorem not_both (I : Inv X pins σ H s) {a : Addr} {xs ys : List V} (h : SqL X.K H a xs) (h' : SqT X.K H a ys) : False := by
  obtain ⟨_, _, pl, _⟩ := I.list h
  obtain ⟨_, _, pt, _⟩ := I.tuple h'
  obtain ⟨o, n, e, c, _, _⟩ := pl
  obtain ⟨o', e', c', _⟩ := pt
  rw [e] at e'
  cases e'
  rw [c] at c'
  exact absurd c' (by simp)
theorem eqW_same (I : Inv X pins σ H s) (wd : Wd X.g α S H) {e : MV → MV → Option Bool} (he : ∀ d f v k, Den X.K α H d v → Den X.K α H f v → e d f = some k → k = true) {a b : Er} {x : V} {p q : Vw} {k : Bool}
    (ha : vwE S a = some p) (hb : vwE S b = some q) (da : DenX X.K α H a x) (db : DenX X.K α H b x) (h : eqW e p q = some k) : k = true := by
  have hp : ∀ {ds es : List MV} {vs : List V} {bs : List Bool}, DenL X.K α H ds vs → DenL X.K α H es vs → prs e ds es = some bs → bs.all id = true := by
    intro ds es vs bs l1 l2 z
    rw [List.all_eq_true]
    intro k hk
    obtain ⟨i, hi, rfl⟩ := List.getElem_of_mem hk
    have hl := prs_len z
    have h1 : i < ds.length := by omega
    have h2 : i < es.length := by omega
    obtain ⟨v, g1, g2⟩ := l1.at (List.getElem?_eq_getElem h1)
    obtain ⟨v', g3, g4⟩ := l2.at (List.getElem?_eq_getElem h2)
    rw [g1] at g3; cases g3
    have := he _ _ _ _ g2 g4 (prs_get z (List.getElem?_eq_getElem h1) (List.getElem?_eq_getElem h2))
    simpa [List.getD_eq_getElem?_getD, hi] using this
  cases p with
  | fl y =>
    obtain ⟨rfl, f1⟩ := vw_fl ha da
    cases q with
    | fl z => obtain ⟨rfl, f2⟩ := vw_fl hb db; cases h; exact eqV_refl f1
    | tp ds => obtain ⟨a, vs, rfl, _⟩ := vw_tp hb db; exact absurd (show false = true from f1) Bool.false_ne_true
    | ls ds => obtain ⟨a, vs, rfl, _⟩ := vw_ls wd hb db; exact absurd (show false = true from f1) Bool.false_ne_true
  | tp ds =>
    obtain ⟨a1, vs, rfl, s1, l1⟩ := vw_tp ha da
    cases q with
    | fl z => obtain ⟨rfl, f2⟩ := vw_fl hb db; exact absurd (show false = true from f2) Bool.false_ne_true
    | tp es =>
      obtain ⟨a2, us, e2, s2, l2⟩ := vw_tp hb db
      cases e2
      cases I.tuple_inj s1 s2
      rw [eqW_tp] at h
      cases z : prs e ds es with
      | none => rw [z] at h; cases h
      | some bs =>
        rw [z] at h
        cases h
        show (bs.all id && ds.length == es.length) = true
        rw [hp l1 l2 z, ← l1.length, ← l2.length]; simp
    | ls es => obtain ⟨a2, us, e2, s2, l2⟩ := vw_ls wd hb db; cases e2; exact (not_both I s2 s1).elim
  | ls ds =>
    obtain ⟨a1, vs, rfl, s1, l1⟩ := vw_ls wd ha da
    cases q with
    | fl z => obtain ⟨rfl, f2⟩ := vw_fl hb db; exact absurd (show false = true from f2) Bool.false_ne_true
    | tp es => obtain ⟨a2, us, e2, s2, l2⟩ := vw_tp hb db; cases e2; exact (not_both I s1 s2).elim
    | ls es =>
      obtain ⟨a2, us, e2, s2, l2⟩ := vw_ls wd hb db
      cases e2
      cases I.list_inj s1 s2
      rw [eqW_ls] at h
      rw [if_pos (by rw [← l1.length, ← l2.length])] at h
      cases z : prs e ds es with
      | none => rw [z] at h; cases h
      | some bs => rw [z] at h; cases h; exact hp l1 l2 z
theorem eqv_same (I : Inv X pins σ H s) (wd : Wd X.g α S H) : ∀ (n : Nat) (d f : MV) (v : V) (k : Bool), Den X.K α H d v → Den X.K α H f v → eqv S n d f = some k → k = true
  | 0, _, _, _, _, _, _, h => by cases h
  | n + 1, d, f, v, k, h1, h2, h => by
    unfold eqv at h
    cases za : vwE S (.val d) with
    | none => rw [za] at h; cases h
    | some p =>
      cases zb : vwE S (.val f) with
      | none => rw [za, zb] at h; cases h
      | some q =>
        rw [za, zb] at h
        exact eqW_same I wd (eqv_same I wd n) za zb (a := .val d) (b := .val f) h1 h2 h
theorem items_at {e : MV → MV → Option Bool} {A : Around} (he : ∀ d f x y u v k, Den X.K α H d x → Den X.K α H f y → RelV x u → RelV y v → e d f = some k → SeqAt.EqAt A s u v k)
    {ds es : List MV} {vs us : List V} {its its2 : List Value} {bs : List Bool} (l1 : DenL X.K α H ds vs) (l2 : DenL X.K α H es us) (r1 : Vals vs its) (r2 : Vals us its2) (z : prs e ds es = some bs) :
    ∀ j (h1 : j < its.toArray.size) (h2 : j < its2.toArray.size), SeqAt.EqAt A s its.toArray[j] its2.toArray[j] (bs.getD j true) := by
  intro j h1 h2
  have g1 : j < vs.length := by rw [r1.length]; simpa using h1
  have g2 : j < us.length := by rw [r2.length]; simpa using h2
  obtain ⟨d, d1, d2⟩ := l1.get (List.getElem?_eq_getElem g1)
  obtain ⟨f, f1, f2⟩ := l2.get (List.getElem?_eq_getElem g2)
  obtain ⟨u, u1, u2⟩ := r1.get (List.getElem?_eq_getElem g1)
  obtain ⟨v, v1, v2⟩ := r2.get (List.getElem?_eq_getElem g2)
  have e1 : its.toArray[j] = u := by
    have : its[j]? = some (its[j]'(by simpa using h1)) := List.getElem?_eq_getElem _
    rw [u1] at this
    simpa using (Option.some.inj this).symm
  have e2 : its2.toArray[j] = v := by
    have : its2[j]? = some (its2[j]'(by simpa using h2)) := List.getElem?_eq_getElem _
    rw [v1] at this
    simpa using (Option.some.inj this).symm
  rw [e1, e2]
  exact he d f _ _ u v _ d2 f2 u2 v2 (prs_get z d1 f1)
theorem eqAt_m (I : Inv X pins σ H s) (wd : Wd X.g α S H) : ∀ (n : Nat) (A : Around) (d f : MV) (x y : V) (u v : Value) (k : Bool), A.units + n < cLine → Den X.K α H d x → Den X.K α H f y → RelV x u → RelV y v → eqv S n d f = some k → SeqAt.EqAt A s u v k
  | 0, _, _, _, _, _, _, _, _, _, _, _, _, _, h => by cases h
  | n + 1, A, d, f, x, y, u, v, k, hu, h1, h2, rx, ry, h => by
    have hu0 : A.units < cLine := by omega
    have hsame := h
    unfold eqv at h
    cases za : vwE S (.val d) with
    | none => rw [za] at h; cases h
    | some p =>
      cases zb : vwE S (.val f) with
      | none => rw [za, zb] at h; cases h
      | some q =>
        rw [za, zb] at h
        have h : eqW (eqv S n) p q = some k := h
        have he := fun d f x y u v k a b c d' e => eqAt_m I wd n A.in1 d f x y u v k (show A.units + 1 + n < cLine by omega) a b c d' e
        cases p with
        | fl x' =>
          obtain ⟨rfl, fx⟩ := vw_fl za (α := α) (H := H) (X := X) h1
          cases q with
          | fl y' => obtain ⟨rfl, fy⟩ := vw_fl zb (α := α) (H := H) (X := X) h2; cases h; exact eqAt_V rx ry fx fy
          | tp es =>
            obtain ⟨b, us, rfl, s2, l2⟩ := vw_tp zb (α := α) (H := H) (X := X) h2
            cases ry; cases h
            obtain ⟨its, _, pt, _⟩ := I.tuple s2
            exact eq_tr rx fx pt hu0
          | ls es =>
            obtain ⟨b, us, rfl, s2, l2⟩ := vw_ls wd zb h2
            cases ry; cases h
            obtain ⟨its, _, pl, _⟩ := I.list s2
            exact eq_lr rx fx pl.isList hu0
        | tp ds =>
          obtain ⟨a, vs, rfl, s1, l1⟩ := vw_tp za (α := α) (H := H) (X := X) h1
          cases rx
          obtain ⟨its, r1, pt, _⟩ := I.tuple s1
          cases q with
          | fl y' => obtain ⟨rfl, fy⟩ := vw_fl zb (α := α) (H := H) (X := X) h2; cases h; exact eq_tl ry fy pt hu0
          | tp es =>
            obtain ⟨b, us, rfl, s2, l2⟩ := vw_tp zb (α := α) (H := H) (X := X) h2
            cases ry
            by_cases hab : a = b
            · subst hab
              rw [eqv_same I wd (n + 1) d f _ k h1 h2 hsame]
              exact SeqAt.EqAt.same _
            · obtain ⟨its2, r2, pt2, _⟩ := I.tuple s2
              rw [eqW_tp] at h
              cases z : prs (eqv S n) ds es with
              | none => rw [z] at h; cases h
              | some bs =>
                rw [z] at h
                cases h
                have := SeqAt.RcAt.tuples pt pt2 hu0 (items_at he l1 l2 r1 r2 z)
                have hl := prs_len z
                rw [range_all (by rw [hl]; simp [← r1.length, ← r2.length, l1.length, l2.length])] at this
                have e3 : (its.toArray.size == its2.toArray.size) = (ds.length == es.length) := by simp [← r1.length, ← r2.length, l1.length, l2.length]
                rw [e3] at this
                exact SeqAt.EqAt.of_refs hab this
          | ls es =>
            obtain ⟨b, us, rfl, s2, l2⟩ := vw_ls wd zb h2
            cases ry; cases h
            obtain ⟨its2, _, pl, _⟩ := I.list s2
            exact SeqAt.EqAt.tuple_list pt pl.isList hu0
        | ls ds =>
          obtain ⟨a, vs, rfl, s1, l1⟩ := vw_ls wd za h1
          cases rx
          obtain ⟨its, r1, pl, _⟩ := I.list s1
          cases q with
          | fl y' => obtain ⟨rfl, fy⟩ := vw_fl zb (α := α) (H := H) (X := X) h2; cases h; exact eq_ll ry fy pl.isList hu0
          | tp es =>
            obtain ⟨b, us, rfl, s2, l2⟩ := vw_tp zb (α := α) (H := H) (X := X) h2
            cases ry; cases h
            obtain ⟨its2, _, pt, _⟩ := I.tuple s2
            exact SeqAt.EqAt.list_tuple pl.isList pt hu0
          | ls es =>
            obtain ⟨b, us, rfl, s2, l2⟩ := vw_ls wd zb h2
            cases ry
            by_cases hab : a = b
            · subst hab
              rw [eqv_same I wd (n + 1) d f _ k h1 h2 hsame]
              exact SeqAt.EqAt.same _
            · obtain ⟨its2, r2, pl2, _⟩ := I.list s2
              rw [eqW_ls] at h
              by_cases hl : ds.length = es.length
              · rw [if_pos hl] at h
                cases z : prs (eqv S n) ds es with
                | none => rw [z] at h; cases h
                | some bs =>
                  rw [z] at h
                  cases h
                  have hs : its.toArray.size = its2.toArray.size := by simp [← r1.length, ← r2.length, l1.length, l2.length, hl]
                  have := SeqAt.RcAt.lists pl.isList pl2.isList hs hu0 (items_at he l1 l2 r1 r2 z)
                  have hl' := prs_len z
                  rw [range_all (by rw [hl']; simp [← r1.length, l1.length, hl])] at this
                  exact SeqAt.EqAt.of_refs hab this
              · rw [if_neg hl] at h
                cases h
                exact SeqAt.EqAt.of_refs hab (SeqAt.RcAt.lists_lengths pl.isList pl2.isList (by simpa [← r1.length, ← r2.length, l1.length, l2.length] using hl) hu0)
theorem top_m {RC : Around → Shared → Value → Value → Bool → Prop} {tr : Bool → Bool} {A : Around}
    (hff : ∀ x y u v, RelV x u → RelV y v → flatV x = true → flatV y = true → RC A s u v (tr (eqV x y)))
    (hfl : ∀ x v l items, RelV x v → flatV x = true → s.heap.IsList l items → A.units < cLine → RC A s v (.ref l) (tr false) ∧ RC A s (.ref l) v (tr false))
    (hft : ∀ x v l items, RelV x v → flatV x = true → s.heap.IsTuple l items → A.units < cLine → RC A s v (.ref l) (tr false) ∧ RC A s (.ref l) v (tr false))
    (hlt : ∀ l b items items2, s.heap.IsList l items → s.heap.IsTuple b items2 → A.units < cLine → RC A s (.ref l) (.ref b) (tr false) ∧ RC A s (.ref b) (.ref l) (tr false))
    (htt : ∀ (l b : Addr) (items items2 : Array Value) (e : Nat → Bool), s.heap.IsTuple l items → s.heap.IsTuple b items2 → A.units < cLine → (∀ j (h1 : j < items.size) (h2 : j < items2.size), SeqAt.EqAt A.in1 s items[j] items2[j] (e j)) → RC A s (.ref l) (.ref b) (tr ((List.range (min items.size items2.size)).all e && items.size == items2.size)))
    (hll : ∀ (l b : Addr) (items items2 : Array Value) (e : Nat → Bool), s.heap.IsList l items → s.heap.IsList b items2 → items.size = items2.size → A.units < cLine → (∀ j (h1 : j < items.size) (h2 : j < items2.size), SeqAt.EqAt A.in1 s items[j] items2[j] (e j)) → RC A s (.ref l) (.ref b) (tr ((List.range items.size).all e)))
    (hln : ∀ (l b : Addr) (items items2 : Array Value), s.heap.IsList l items → s.heap.IsList b items2 → (items.size != items2.size) = true → A.units < cLine → RC A s (.ref l) (.ref b) (tr false))
    (I : Inv X pins σ H s) (wd : Wd X.g α S H) (n : Nat) {a b : Er} {x y : V} {u v : Value} {k : Bool} (hu : A.units + (n + 1) < cLine) (h1 : DenX X.K α H a x) (h2 : DenX X.K α H b y) (rx : RelV x u) (ry : RelV y v) (h : eqvE S n a b = some k) : RC A s u v (tr k) := by
  have hu0 : A.units < cLine := by omega
  unfold eqvE at h
  cases za : vwE S a with
  | none => rw [za] at h; cases h
  | some p =>
    cases zb : vwE S b with
    | none => rw [za, zb] at h; cases h
    | some q =>
      rw [za, zb] at h
      have h : eqW (eqv S n) p q = some k := h
      have he := fun d f x y u v k a b c d' e => eqAt_m I wd n A.in1 d f x y u v k (show A.units + 1 + n < cLine by omega) a b c d' e
      cases p with
      | fl x' =>
        obtain ⟨rfl, fx⟩ := vw_fl za h1
        cases q with
        | fl y' => obtain ⟨rfl, fy⟩ := vw_fl zb h2; cases h; exact hff _ _ _ _ rx ry fx fy
        | tp es =>
          obtain ⟨b, us, rfl, s2, l2⟩ := vw_tp zb h2
          cases ry; cases h
          obtain ⟨its, _, pt, _⟩ := I.tuple s2
          exact (hft _ _ _ _ rx fx pt hu0).1
        | ls es =>
          obtain ⟨b, us, rfl, s2, l2⟩ := vw_ls wd zb h2
          cases ry; cases h
          obtain ⟨its, _, pl, _⟩ := I.list s2
          exact (hfl _ _ _ _ rx fx pl.isList hu0).1
      | tp ds =>
        obtain ⟨a, vs, rfl, s1, l1⟩ := vw_tp za h1
        cases rx
        obtain ⟨its, r1, pt, _⟩ := I.tuple s1
        cases q with
        | fl y' => obtain ⟨rfl, fy⟩ := vw_fl zb h2; cases h; exact (hft _ _ _ _ ry fy pt hu0).2
        | tp es =>
          obtain ⟨b, us, rfl, s2, l2⟩ := vw_tp zb h2
          cases ry
          obtain ⟨its2, r2, pt2, _⟩ := I.tuple s2
          rw [eqW_tp] at h
          cases z : prs (eqv S n) ds es with
          | none => rw [z] at h; cases h
          | some bs =>
            rw [z] at h
            cases h
            have := htt _ _ _ _ _ pt pt2 hu0 (items_at he l1 l2 r1 r2 z)
            have hl := prs_len z
            rw [range_all (by rw [hl]; simp [← r1.length, ← r2.length, l1.length, l2.length])] at this
            have e3 : (its.toArray.size == its2.toArray.size) = (ds.length == es.length) := by simp [← r1.length, ← r2.length, l1.length, l2.length]
            rw [e3] at this
            exact this
        | ls es =>
          obtain ⟨b, us, rfl, s2, l2⟩ := vw_ls wd zb h2
          cases ry; cases h
          obtain ⟨its2, _, pl, _⟩ := I.list s2
          exact (hlt _ _ _ _ pl.isList pt hu0).2
      | ls ds =>
        obtain ⟨a, vs, rfl, s1, l1⟩ := vw_ls wd za h1
        cases rx
        obtain ⟨its, r1, pl, _⟩ := I.list s1
        cases q with
        | fl y' => obtain ⟨rfl, fy⟩ := vw_fl zb h2; cases h; exact (hfl _ _ _ _ ry fy pl.isList hu0).2
        | tp es =>
          obtain ⟨b, us, rfl, s2, l2⟩ := vw_tp zb h2
          cases ry; cases h
          obtain ⟨its2, _, pt, _⟩ := I.tuple s2
          exact (hlt _ _ _ _ pl.isList pt hu0).1
        | ls es =>
          obtain ⟨b, us, rfl, s2, l2⟩ := vw_ls wd zb h2
          cases ry
          obtain ⟨its2, r2, pl2, _⟩ := I.list s2
          rw [eqW_ls] at h
          by_cases hl : ds.length = es.length
          · rw [if_pos hl] at h
            cases z : prs (eqv S n) ds es with
            | none => rw [z] at h; cases h
            | some bs =>
              rw [z] at h
              cases h
              have hs : its.toArray.size = its2.toArray.size := by simp [← r1.length, ← r2.length, l1.length, l2.length, hl]
              have := hll _ _ _ _ _ pl.isList pl2.isList hs hu0 (items_at he l1 l2 r1 r2 z)
              have hl' := prs_len z
              rw [range_all (by rw [hl']; simp [← r1.length, l1.length, hl])] at this
              exact this
          · rw [if_neg hl] at h
            cases h
            exact hln _ _ _ _ pl.isList pl2.isList (by simpa [← r1.length, ← r2.length, l1.length, l2.length] using hl) hu0
theorem rcAt_m (I : Inv X pins σ H s) (wd : Wd X.g α S H) (n : Nat) {A : Around} {a b : Er} {x y : V} {u v : Value} {k : Bool} (hu : A.units + (n + 1) < cLine) (h1 : DenX X.K α H a x) (h2 : DenX X.K α H b y) (rx : RelV x u) (ry : RelV y v) (h : eqvE S n a b = some k) : SeqAt.RcAt A s u v k :=
  top_m (RC := SeqAt.RcAt) (tr := id) (fun _ _ _ _ a b c d => rcAt_V a b c d) (fun _ _ _ _ a b c d => ⟨rc_lr a b c d, rc_ll a b c d⟩) (fun _ _ _ _ a b c d => ⟨rc_tr a b c d, rc_tl a b c d⟩)
    (fun _ _ _ _ a b c => ⟨SeqAt.RcAt.list_tuple a b c, SeqAt.RcAt.tuple_list b a c⟩) (fun _ _ _ _ _ a b c d => SeqAt.RcAt.tuples a b c d) (fun _ _ _ _ _ a b c d e => SeqAt.RcAt.lists a b c d e) (fun _ _ _ _ a b c d => SeqAt.RcAt.lists_lengths a b c d)
    I wd n hu h1 h2 rx ry h
theorem rnAt_m (I : Inv X pins σ H s) (wd : Wd X.g α S H) (n : Nat) {A : Around} {a b : Er} {x y : V} {u v : Value} {k : Bool} (hu : A.units + (n + 1) < cLine) (h1 : DenX X.K α H a x) (h2 : DenX X.K α H b y) (rx : RelV x u) (ry : RelV y v) (h : eqvE S n a b = some k) : SeqAt.RcNeAt A s u v (!k) :=
  top_m (RC := SeqAt.RcNeAt) (tr := fun b => !b) (fun _ _ _ _ a b c d => rnAt_V a b c d) (fun _ _ _ _ a b c d => ⟨rn_lr a b c d, rn_ll a b c d⟩) (fun _ _ _ _ a b c d => ⟨rn_tr a b c d, rn_tl a b c d⟩)
    (fun _ _ _ _ a b c => ⟨SeqAt.RcNeAt.list_tuple a b c, SeqAt.RcNeAt.tuple_list b a c⟩) (fun _ _ _ _ _ a b c d => SeqAt.RcNeAt.tuples a b c d) (fun _ _ _ _ _ a b c d e => SeqAt.RcNeAt.lists a b c d e) (fun _ _ _ _ a b c d => SeqAt.RcNeAt.lists_lengths a b c d)
    I wd n hu h1 h2 rx ry h
mutual
theorem Den.inj (I : Inv X pins σ H s) (wd : Wd X.g α S H) : ∀ {d f : MV} {v : V}, Den X.K α H d v → Den X.K α H f v → d = f
  | .non, f, v, h, h' => by cases of_non h; cases f <;> first | rfl | (have := of_bl h'; cases this; done) | (have := of_int h'; cases this; done) | (have := of_str h'; cases this; done) | (have := of_typ h'; cases this; done) | (obtain ⟨_, _, e, _⟩ := of_tup h'; cases e; done) | (obtain ⟨_, _, e, _⟩ := of_scr h'; cases e; done) | (obtain ⟨_, e, _⟩ := of_loc h'; cases e; done)
  | .bl b, f, v, h, h' => by cases of_bl h; cases f <;> first | (have := of_bl h'; cases this; rfl; done) | (have := of_non h'; cases this; done) | (have := of_int h'; cases this; done) | (have := of_str h'; cases this; done) | (have := of_typ h'; cases this; done) | (obtain ⟨_, _, e, _⟩ := of_tup h'; cases e; done) | (obtain ⟨_, _, e, _⟩ := of_scr h'; cases e; done) | (obtain ⟨_, e, _⟩ := of_loc h'; cases e; done)
  | .int b, f, v, h, h' => by cases of_int h; cases f <;> first | (have := of_int h'; cases this; rfl; done) | (have := of_non h'; cases this; done) | (have := of_bl h'; cases this; done) | (have := of_str h'; cases this; done) | (have := of_typ h'; cases this; done) | (obtain ⟨_, _, e, _⟩ := of_tup h'; cases e; done) | (obtain ⟨_, _, e, _⟩ := of_scr h'; cases e; done) | (obtain ⟨_, e, _⟩ := of_loc h'; cases e; done)
  | .str b, f, v, h, h' => by cases of_str h; cases f <;> first | (have := of_str h'; rw [mkS_inj (V.str.inj this)]; done) | (have := of_non h'; cases this; done) | (have := of_bl h'; cases this; done) | (have := of_int h'; cases this; done) | (have := of_typ h'; cases this; done) | (obtain ⟨_, _, e, _⟩ := of_tup h'; cases e; done) | (obtain ⟨_, _, e, _⟩ := of_scr h'; cases e; done) | (obtain ⟨_, e, _⟩ := of_loc h'; cases e; done)
  | .typ b, f, v, h, h' => by cases of_typ h; cases f <;> first | (have := of_typ h'; cases this; rfl; done) | (have := of_non h'; cases this; done) | (have := of_bl h'; cases this; done) | (have := of_int h'; cases this; done) | (have := of_str h'; cases this; done) | (obtain ⟨_, _, e, _⟩ := of_tup h'; cases e; done) | (obtain ⟨_, _, e, _⟩ := of_scr h'; cases e; done) | (obtain ⟨_, e, _⟩ := of_loc h'; cases e; done)
  | .tup ds, f, v, h, h' => by
    obtain ⟨a, vs, rfl, s1, l1⟩ := of_tup h
    cases f with
    | tup es =>
      obtain ⟨a2, us, e2, s2, l2⟩ := of_tup h'
      cases e2
      cases I.tuple_inj s1 s2
      rw [DenL.inj I wd l1 l2]
    | scr es => obtain ⟨a2, us, e2, s2, l2⟩ := of_scr h'; cases e2; exact (not_both I s2.l s1).elim
    | loc l =>
      obtain ⟨a2, e2, h2⟩ := of_loc h'
      cases e2
      obtain ⟨ho, k1, k2, k3⟩ := wd.mem (List.mem_of_getElem? h2)
      rcases s1 with (s1 | ⟨o, s1⟩) | ⟨o, its, n, s1, _⟩
      · rw [k1] at s1; exact absurd (Option.some.inj s1) (k2 _)
      · rw [k1] at s1; exact absurd (Option.some.inj s1) (k3 _ _)
      · have := (I.bs a o (I.mod.kin a o s1)).2; rw [k1] at this; cases this
    | non => cases of_non h'
    | bl b => cases of_bl h'
    | int b => cases of_int h'
    | str b => cases of_str h'
    | typ b => cases of_typ h'
  | .scr ds, f, v, h, h' => by
    obtain ⟨a, vs, rfl, s1, l1⟩ := of_scr h
    cases f with
    | scr es =>
      obtain ⟨a2, us, e2, s2, l2⟩ := of_scr h'
      cases e2
      cases I.list_inj s1.l s2.l
      rw [DenL.inj I wd l1 l2]
    | tup es => obtain ⟨a2, us, e2, s2, l2⟩ := of_tup h'; cases e2; exact (not_both I s1.l s2).elim
    | loc l =>
      obtain ⟨a2, e2, h2⟩ := of_loc h'
      cases e2
      obtain ⟨ho, k1, k2, k3⟩ := wd.mem (List.mem_of_getElem? h2)
      rcases s1 with ⟨o, s1⟩ | ⟨o, its, n, s1, _⟩
      · rw [k1] at s1; exact absurd (Option.some.inj s1) (k3 _ _)
      · have := (I.bs a o (I.mod.kin a o s1)).2; rw [k1] at this; cases this
    | non => cases of_non h'
    | bl b => cases of_bl h'
    | int b => cases of_int h'
    | str b => cases of_str h'
    | typ b => cases of_typ h'
  | .loc l, f, v, h, h' => by
    obtain ⟨a, rfl, h1⟩ := of_loc h
    obtain ⟨ho, k1, k2, k3⟩ := wd.mem (List.mem_of_getElem? h1)
    cases f with
    | loc m =>
      obtain ⟨a2, e2, h2⟩ := of_loc h'
      cases e2
      by_cases hlm : l = m
      · rw [hlm]
      · exact absurd rfl (wd.ne h1 h2 hlm)
    | tup es =>
      obtain ⟨a2, us, e2, s1, l2⟩ := of_tup h'
      cases e2
      rcases s1 with (s1 | ⟨o, s1⟩) | ⟨o, its, n, s1, _⟩
      · rw [k1] at s1; exact absurd (Option.some.inj s1) (k2 _)
      · rw [k1] at s1; exact absurd (Option.some.inj s1) (k3 _ _)
      · have := (I.bs a o (I.mod.kin a o s1)).2; rw [k1] at this; cases this
    | scr es =>
      obtain ⟨a2, us, e2, s1, l2⟩ := of_scr h'
      cases e2
      rcases s1 with ⟨o, s1⟩ | ⟨o, its, n, s1, _⟩
      · rw [k1] at s1; exact absurd (Option.some.inj s1) (k3 _ _)
      · have := (I.bs a o (I.mod.kin a o s1)).2; rw [k1] at this; cases this
    | non => cases of_non h'
    | bl b => cases of_bl h'
    | int b => cases of_int h'
    | str b => cases of_str h'
    | typ b => cases of_typ h'
theorem DenL.inj (I : Inv X pins σ H s) (wd : Wd X.g α S H) : ∀ {ds fs : List MV} {vs : List V}, DenL X.K α H ds vs → DenL X.K α H fs vs → ds = fs
  | [], fs, vs, h, h' => by
    cases h.isnil
    cases fs with
    | nil => rfl
    | cons f fs => obtain ⟨_, _, e, _⟩ := h'.uncons; cases e
  | d :: ds, fs, vs, h, h' => by
    obtain ⟨v, r, rfl, a, l⟩ := h.uncons
    cases fs with
    | nil => cases h'.isnil
    | cons f fs =>
      obtain ⟨v', r', e, a', l'⟩ := h'.uncons
      cases e
      rw [Den.inj I wd a a', DenL.inj I wd l l']
end
end
end M
end L2
namespace L2
namespace M
open PySem PySem.Spec PyProof.Rows
inductive LexR (A : Around) (s : Shared) : List Value → List Value → Bool → Prop
  | nn : LexR A s [] [] false
  | nc (x xs) : LexR A s [] (x :: xs) true
  | cn (y ys) : LexR A s (y :: ys) [] false
  | eq {y x ys xs k} : SeqAt.EqAt A s y x true → LexR A s ys xs k → LexR A s (y :: ys) (x :: xs) k
  | ne {y x ys xs k} : SeqAt.EqAt A s y x false → (∀ (prog : Program) (w : World) (E Q : Value → Shared → Prop), Q (.bool k) s → wpAny (model prog w) A (richCompare .Lt y x) Q E s) → LexR A s (y :: ys) (x :: xs) k
section
open PySem.SeqAt
open PySem.AutoSeq1 (wpAny_loadPart')
open PySem.MeetsSeq PySem.MeetsSeq2 PySem.MeetsSeq3
theorem tuple_ltAt (l b : Addr) (its its2 : Array Value) (n n2 : Nat) (dd dd2 : Option Addr) (sl sl2 : Array (Option Value)) (k : Bool) :
    Meets (Builtin.«tuple.__lt__» ⟨[.ref l, .ref b], []⟩)
      (fun A R s => s.heap.get? l = some { cls := .type "tuple", dict := dd, data := .seq its n, slots := sl } ∧ s.heap.get? b = some { cls := .type "tuple", dict := dd2, data := .seq its2 n2, slots := sl2 } ∧
        LexR A.in1 s its.toList its2.toList k ∧ R (.ok (.ret (.bool k))) s) :=
  .of_wp fun prog w A R s h => by
    obtain ⟨hp, g, d, tk, os⟩ := s; obtain ⟨hl, hb, hx, h⟩ := h
    have f2 := AutoSeq1.sub_tuple_tuple
    wp_walk using wpAny_loadPart' hl, wpAny_loadPart' hb, wpAny_forIn_list _ (fun rest b s' => b.1 = none ∧ s' = ⟨hp, g, d, tk, os⟩ ∧ ∃ (vs ws : List Value), rest = vs.zip ws ∧
      LexR A.in1 ⟨hp, g, d, tk, os⟩ vs ws k ∧ vs.length + its2.size = ws.length + its.size) _
    case turn =>
      rintro ⟨y, x⟩ rest b s' ⟨hb', rfl, vs, ws, hz, hlx, hlen⟩
      cases hlx with
      | nn => rw [List.zip_nil_left] at hz; cases hz
      | nc x xs => rw [List.zip_nil_left] at hz; cases hz
      | cn y ys => rw [List.zip_nil_right] at hz; cases hz
      | @eq y' x' ys xs k' he hr =>
        rw [List.zip_cons_cons] at hz
        injection hz with hyx hrest
        injection hyx with hy hx
        subst hy hx
        simp only [List.length_cons] at hlen
        refine wpAny_bind (he prog w _ _ ?_)
        wp_walk
        exact ⟨rfl, rfl, _, _, hrest, hr, by omega⟩
      | @ne y' x' ys xs k' he hr =>
        rw [List.zip_cons_cons] at hz
        injection hz with hyx hrest
        injection hyx with hy hx
        subst hy hx
        refine wpAny_bind (he prog w _ _ ?_)
        have hri := hr prog w
        wp_walk using hri
        exact ⟨_, rfl, by simpa using h⟩
    case fin =>
      rintro ⟨b1, b2⟩ s' ⟨hb', rfl, vs, ws, hz, hlx, hlen⟩
      simp only at hb'
      subst hb'
      have hv : k = decide (its.size < its2.size) := by
        cases hlx with
        | nn => simp only [List.length_nil] at hlen; exact (decide_eq_false (by omega)).symm
        | nc x xs => simp only [List.length_nil, List.length_cons] at hlen; exact (decide_eq_true (by omega)).symm
        | cn y ys => simp only [List.length_nil, List.length_cons] at hlen; exact (decide_eq_false (by omega)).symm
        | eq he hr => rw [List.zip_cons_cons] at hz; cases hz
        | ne he hr => rw [List.zip_cons_cons] at hz; cases hz
      rw [hv] at h
      wp_walk
      exact ⟨_, rfl, by simpa [Builtin.Tuple.tupleCompareSizes] using h⟩
    case h =>
      exact ⟨rfl, rfl, its.toList, its2.toList, rfl, hx, by simp; omega⟩
end
theorem rcLt_tup {A : Around} {s : Shared} {l b : Addr} {its its2 : Array Value} {k : Bool} (hl : IsTup s.heap l its) (hb : IsTup s.heap b its2) (hx : LexR A.in1 s its.toList its2.toList k) (hu : A.units < cLine) (prog : Program) (w : World) (E Q : Value → Shared → Prop) (h : Q (.bool k) s) :
    wpAny (model prog w) A (richCompare .Lt (.ref l) (.ref b)) Q E s := by
  obtain ⟨⟨cls, dd, data, sl⟩, ho, hc, n, hd⟩ := id hl
  obtain ⟨⟨cls2, dd2, data2, sl2⟩, ho2, hc2, n2, hd2⟩ := id hb
  simp only at hc hd hc2 hd2
  subst hc hd hc2 hd2
  exact richCompare_meets_room (op := .Lt) ⟨_, ho, rfl⟩ ⟨_, ho2, rfl⟩ PySem.F.slot_tuple_lt PySem.F.entry_tuple_lt (PySem.F.args_tuple_lt_2 _ _) (tuple_ltAt l b its its2 n n2 dd dd2 sl sl2 k)
    ⟨ho, ho2, hx, show Value.bool k ≠ Value.notImplemented ∧ Q (.bool k) s from ⟨(fun x => nomatch x), h⟩⟩ hu
def lexv (e l : MV → MV → Option Bool) : List MV → List MV → Option Bool
  | [], [] => some false
  | [], _ :: _ => some true
  | _ :: _, [] => some false
  | d :: ds, f :: fs => (e d f).bind fun k => if k = true then lexv e l ds fs else l d f
def ltv (S : Sto) : Nat → MV → MV → Option Bool
  | 0, _, _ => none
  | n + 1, .int i, .int j => some (decide (i < j))
  | n + 1, .str x, .str y => some (decide (x < y))
  | n + 1, .tup ds, .tup es => lexv (eqv S n) (ltv S n) ds es
  | _, _, _ => none
section
variable {X : Cx} {α : List Addr} {S : Sto} {H : Hp} {pins : List (Addr × Obj)} {σ : St} {s : Shared}
theorem lex_m {A : Around} {e l : MV → MV → Option Bool} (he : ∀ d f x y u v k, Den X.K α H d x → Den X.K α H f y → RelV x u → RelV y v → e d f = some k → SeqAt.EqAt A s u v k)
    (hl : ∀ d f x y u v k, Den X.K α H d x → Den X.K α H f y → RelV x u → RelV y v → l d f = some k → ∀ (prog : Program) (w : World) (E Q : Value → Shared → Prop), Q (.bool k) s → wpAny (model prog w) A (richCompare .Lt u v) Q E s) :
    ∀ {ds fs : List MV} {vs us : List V} {its its2 : List Value} {k : Bool}, DenL X.K α H ds vs → DenL X.K α H fs us → Vals vs its → Vals us its2 → lexv e l ds fs = some k → LexR A s its its2 k
  | [], [], _, _, _, _, k, l1, l2, r1, r2, h => by
    cases l1.isnil; cases l2.isnil; cases r1; cases r2; cases h; exact .nn
  | [], f :: fs, _, _, _, _, k, l1, l2, r1, r2, h => by
    cases l1.isnil
    obtain ⟨v, r, rfl, a, l⟩ := l2.uncons
    cases r1
    cases r2 with
    | cons a b => cases h; exact .nc _ _
  | d :: ds, [], _, _, _, _, k, l1, l2, r1, r2, h => by
    cases l2.isnil
    obtain ⟨v, r, rfl, a, l⟩ := l1.uncons
    cases r2
    cases r1 with
    | cons a b => cases h; exact .cn _ _
  | d :: ds, f :: fs, _, _, _, _, k, l1, l2, r1, r2, h => by
    obtain ⟨v, r, rfl, a, l1'⟩ := l1.uncons
    obtain ⟨v2, r3, rfl, a2, l2'⟩ := l2.uncons
    cases r1 with
    | cons b1 c1 =>
      cases r2 with
      | cons b2 c2 =>
        unfold lexv at h
        cases z : e d f with
        | none => rw [z] at h; cases h
        | some kk =>
          rw [z] at h
          have h : (if kk = true then lexv e l ds fs else l d f) = some k := h
          cases kk with
          | true =>
            rw [if_pos rfl] at h
            exact .eq (he d f _ _ _ _ _ a a2 b1 b2 z) (lex_m he hl l1' l2' c1 c2 h)
          | false =>
            rw [if_neg Bool.false_ne_true] at h
            exact .ne (he d f _ _ _ _ _ a a2 b1 b2 z) (hl d f _ _ _ _ _ a a2 b1 b2 h)
theorem ltAt_m (I : Inv X pins σ H s) (wd : Wd X.g α S H) : ∀ (n : Nat) (A : Around) (d f : MV) (x y : V) (u v : Value) (k : Bool), A.units + n < cLine → Den X.K α H d x → Den X.K α H f y → RelV x u → RelV y v → ltv S n d f = some k →
    ∀ (prog : Program) (w : World) (E Q : Value → Shared → Prop), Q (.bool k) s → wpAny (model prog w) A (richCompare .Lt u v) Q E s
  | 0, _, _, _, _, _, _, _, _, _, _, _, _, _, h => by cases h
  | n + 1, A, d, f, x, y, u, v, k, hu, h1, h2, rx, ry, h => by
    intro prog w E Q hq
    unfold ltv at h
    split at h
    · cases h
    · cases h
      cases of_int h1; cases of_int h2
      obtain ⟨t, rfl⟩ := rx
      obtain ⟨t', rfl⟩ := ry
      exact (PyProof.Rows.lt_int hq : wpAny (model prog w) A (compareOp .Lt _ _) Q E s)
    · cases h
      cases of_str h1; cases of_str h2
      obtain ⟨t, rfl⟩ := rx
      obtain ⟨t', rfl⟩ := ry
      refine (PySem.P.lt_str ?_ : wpAny (model prog w) A (compareOp .Lt _ _) Q E s)
      rw [mkS_cps, mkS_cps]
      exact hq
    · rename_i n' ds es hn
      obtain ⟨a, vs, rfl, s1, l1⟩ := of_tup h1
      obtain ⟨b, us, rfl, s2, l2⟩ := of_tup h2
      cases rx; cases ry
      obtain ⟨its, r1, pt, _⟩ := I.tuple s1
      obtain ⟨its2, r2, pt2, _⟩ := I.tuple s2
      cases hn
      refine rcLt_tup pt pt2 ?_ (by omega) prog w E Q hq
      exact lex_m (fun d f x y u v k a b c d' e => eqAt_m I wd n A.in1 d f x y u v k (show A.units + 1 + n < cLine by omega) a b c d' e)
        (fun d f x y u v k a b c d' e => ltAt_m I wd n A.in1 d f x y u v k (show A.units + 1 + n < cLine by omega) a b c d' e) l1 l2 r1 r2 h
    · cases h
end
end M
end L2
namespace L2
namespace M
open PySem PySem.Spec PyProof.Rows
section
variable {X : Cx} {W : XW} {a b c e : Expr} {es : List Expr} {f g h : Rho → Sto → R Er} {af : Rho → Sto → R (List Er)} {pos : Pos}
def iiF (C : Int → Int → Prop) [∀ i j, Decidable (C i j)] (g : Int → Int → Int) : Er → Er → Sto → R Er
  | .val (.int i), .val (.int j), S => if C i j then .ok (.val (.int (g i j))) S else .no
  | _, _, _ => .no
def ibF (g : Int → Int → Bool) : Er → Er → Sto → R Er
  | .val (.int i), .val (.int j), S => .ok (.val (.bl (g i j))) S
  | _, _, _ => .no
theorem op2_ii {C C' : Int → Int → Prop} [∀ i j, Decidable (C i j)] {g : Int → Int → Int} (h : ∀ i j, C i j → C' i j) : Op2 X W (rI C' fun i j => .int (g i j)) (iiF C g) := by
  intro p q x y α S H Q wd dp dq post
  unfold iiF at post
  split at post
  · split at post
    · rename_i hc
      exact ⟨_, _, xe_int dp, xe_int dq, h _ _ hc, Post.val post wd (den_int _)⟩
    · exact post.elim
  · exact post.elim
theorem op2_ii0 {g : Int → Int → Int} : Op2 X W (rI0 fun i j => .int (g i j)) (iiF (fun _ _ => True) g) := by
  intro p q x y α S H Q wd dp dq post
  unfold iiF at post
  split at post
  · rw [if_pos trivial] at post
    exact ⟨_, _, xe_int dp, xe_int dq, Post.val post wd (den_int _)⟩
  · exact post.elim
theorem op2_ib {g : Int → Int → Bool} : Op2 X W (rI0 fun i j => .bl (g i j)) (ibF g) := by
  intro p q x y α S H Q wd dp dq post
  unfold ibF at post
  split at post
  · exact ⟨_, _, xe_int dp, xe_int dq, Post.val post wd (den_bl _)⟩
  · exact post.elim
abbrev subF := iiF (fun _ _ => True) fun i j => i - j
theorem pm_sub (ha : PEm X W a f) (hb : PEm X W b g) : PEm X W (.BinOp a .Sub b pos) (fun ρ S => (f ρ S).bind fun p S1 => (g ρ S1).bind fun q S2 => subF p q S2) := pm_op op_sub op2_ii0 ha hb
def divC (_ j : Int) : Prop := 0 < j ∧ j.natAbs.log2 < 9000
instance (i j : Int) : Decidable (divC i j) := inferInstanceAs (Decidable (_ ∧ _))
abbrev divF := iiF divC fun i j => i / j
theorem op_fdivB : OpR X (binaryOp .FloorDiv) (rI divC fun i j => .int (i / j)) := opI fun i j _ _ _ _ _ hc q => by
  have e : i.fdiv j = i / j := Int.fdiv_eq_ediv_of_nonneg i (Int.le_of_lt hc.1)
  refine floordiv_int (by have := hc.1; omega) ?_ (.inl (PyProof.noPylong_of_log2 hc.2))
  rw [e]
  exact q
theorem pm_div (ha : PEm X W a f) (hb : PEm X W b g) : PEm X W (.BinOp a .FloorDiv b pos) (fun ρ S => (f ρ S).bind fun p S1 => (g ρ S1).bind fun q S2 => divF p q S2) := pm_op op_fdivB (op2_ii fun i j h => h) ha hb
abbrev modF := iiF (fun _ j => 0 < j) fun i j => i % j
theorem pm_mod (ha : PEm X W a f) (hb : PEm X W b g) : PEm X W (.BinOp a .Mod b pos) (fun ρ S => (f ρ S).bind fun p S1 => (g ρ S1).bind fun q S2 => modF p q S2) := pm_op op_mod (op2_ii fun i j h => h) ha hb
def powC (i j : Int) : Prop := 0 ≤ j ∧ (Builtin.Int.intBits i : Int) * j ≤ 2 ^ 27
instance (i j : Int) : Decidable (powC i j) := inferInstanceAs (Decidable (_ ∧ _))
abbrev powF := iiF powC fun i j => i ^ j.toNat
theorem op_powB : OpR X (binaryOp .Pow) (rI powC fun i j => .int (i ^ j.toNat)) := opI fun _ _ _ _ _ _ _ hc q => pow_int hc.1 hc.2 q
theorem pm_pow (ha : PEm X W a f) (hb : PEm X W b g) : PEm X W (.BinOp a .Pow b pos) (fun ρ S => (f ρ S).bind fun p S1 => (g ρ S1).bind fun q S2 => powF p q S2) := pm_op op_powB (op2_ii fun i j h => h) ha hb
def shlC (i j : Int) : Prop := 0 ≤ j ∧ j ≤ 1000000 ∧ i.natAbs < 2 ^ 64
instance (i j : Int) : Decidable (shlC i j) := inferInstanceAs (Decidable (_ ∧ _ ∧ _))
def usubF : Er → Sto → R Er
  | .val (.int i), S => .ok (.val (.int (-i))) S
  | _, _ => .no
def lsW (S : Sto) : Er → Option (List MV)
  | .new ds => some ds
  | .val (.loc l) => match S[l]? with
    | some (.lst ds) => some ds
    | _ => none
  | _ => none
theorem lsW_of {α : List Addr} {S : Sto} {H : Hp} (wd : Wd X.g α S H) {r : Er} {ds : List MV} {x : V} (e : lsW S r = some ds) (d : DenX X.K α H r x) : ∃ a vs, x = .ref a ∧ H a = some (.lst vs) ∧ DenL X.K α H ds vs := by
  unfold lsW at e
  split at e
  · cases e
    obtain ⟨b, vs, rfl, h, _, l⟩ := d
    exact ⟨b, vs, rfl, h, l⟩
  · rename_i n
    obtain ⟨a, rfl, h⟩ := xe_loc d
    split at e
    · rename_i es hS
      cases e
      obtain ⟨vs, h1, l⟩ := wd.obj n a _ h hS
      exact ⟨a, vs, rfl, h1, l⟩
    · cases e
  · cases e
def catLF (p q : Er) (S : Sto) : R Er := match lsW S p, lsW S q with
  | some x, some y => if x.length + y.length ≤ sizeLine then .ok (.new (x ++ y)) S else .no
  | _, _ => .no
def addF : Er → Er → Sto → R Er
  | .val (.int i), .val (.int j), S => .ok (.val (.int (i + j))) S
  | .val (.str x), .val (.str y), S => if x.length + y.length ≤ sizeLine then .ok (.val (.str (x ++ y))) S else .no
  | .val (.tup x), .val (.tup y), S => if x.length + y.length ≤ sizeLine then .ok (.val (.tup (x ++ y))) S else .no
  | p, q, S => catLF p q S
theorem op_catT0 : OpR X (binaryOp .Add) (fun x y H Q => ∃ a b ys, x = .ref a ∧ y = .ref b ∧ SqT X.K H a [] ∧ SqT X.K H b ys ∧ Q (.ref b) H) := by
  intro pins s σ H x y v u Q I rx ry h
  obtain ⟨a, b, ys, rfl, rfl, ha, hb, q⟩ := h
  cases rx
  cases ry
  obtain ⟨its, r1, p1, _⟩ := I.tuple ha
  obtain ⟨its2, r2, p2, _⟩ := I.tuple hb
  have e0 : its = [] := r1.nil_iff.mpr rfl
  subst e0
  obtain ⟨⟨cls, dd, data, sl⟩, ho, hc, n, hd⟩ := id p1
  obtain ⟨⟨cls2, dd2, data2, sl2⟩, ho2, hc2, n2, hd2⟩ := id p2
  simp only at hc hd hc2 hd2
  subst hc hd hc2 hd2
  exact concat_meets ⟨_, ho, rfl⟩ ⟨_, ho2, rfl⟩ noFill_tuple_add seq_tuple_add PySem.F.slot_tuple_add PySem.F.entry_tuple_add (PySem.F.args_tuple_add_2 _ _)
    (tuple_addW0 a b _ _ n n2 dd dd2 sl sl2 rfl) ⟨ho, ho2, ⟨.ref b, H, I, rfl, q⟩⟩
theorem pm_add (ha : PEm X W a f) (hb : PEm X W b g) : PEm X W (.BinOp a .Add b pos) (fun ρ S => (f ρ S).bind fun p S1 => (g ρ S1).bind fun q S2 => addF p q S2) := by
  refine pm_op (op_add.or (op_add_str.or (op_cat.or (op_catT.or op_catT0)))) ?_ ha hb
  intro p q x y α S H Q wd dp dq post
  unfold addF at post
  split at post
  · exact .inl ⟨_, _, xe_int dp, xe_int dq, Post.val post wd (den_int _)⟩
  · split at post
    · rename_i hz
      refine .inr (.inl ⟨_, _, xe_str dp, xe_str dq, by rw [mkS_len, mkS_len]; exact hz, ?_⟩)
      rw [mkS_app]
      exact Post.val post wd (den_str _)
    · exact post.elim
  · split at post
    · rename_i xx yy hz
      obtain ⟨a1, vs, rfl, s1, l1⟩ := xe_tup dp
      obtain ⟨a2, us, rfl, s2, l2⟩ := xe_tup dq
      by_cases h0 : vs = []
      · subst h0
        have e0 := l1.length
        refine .inr (.inr (.inr (.inr ⟨a1, a2, us, rfl, rfl, s1, s2, ?_⟩)))
        have : xx = [] := by cases xx with | nil => rfl | cons _ _ => simp at e0
        subst this
        exact Post.val post wd (den_tup s2 l2)
      · refine .inr (.inr (.inr (.inl ⟨a1, a2, vs, us, rfl, rfl, s1, s2, h0, by rw [l1.length, l2.length]; exact hz, fun h1 => ?_, fun h1 p hp => Post.newt post wd hp (l1.append l2)⟩)))
        subst h1
        have e0 := l2.length
        have : yy = [] := by cases yy with | nil => rfl | cons _ _ => simp at e0
        subst this
        rw [List.append_nil] at post
        exact Post.val post wd (den_tup s1 l1)
    · exact post.elim
  · unfold catLF at post
    split at post
    · rename_i ds1 ds2 e1 e2
      split at post
      · rename_i hz
        obtain ⟨a1, vs, rfl, h1, l1⟩ := lsW_of wd e1 dp
        obtain ⟨a2, us, rfl, h2, l2⟩ := lsW_of wd e2 dq
        exact .inr (.inr (.inl ⟨a1, a2, vs, us, rfl, rfl, h1, h2, by rw [l1.length, l2.length]; exact hz, fun p hp => Post.newl post wd hp (l1.append l2)⟩))
      · exact post.elim
    · exact post.elim
def mulC (i j : Int) : Prop := (-(2 ^ 64) < i ∧ i < 2 ^ 64) ∨ (-(2 ^ 64) < j ∧ j < 2 ^ 64) ∨ (i.natAbs.log2 < 4000 ∧ j.natAbs.log2 < 4000)
theorem bits_of {i : Int} (h : i.natAbs.log2 < 4000) : Builtin.Int.intBits i ≤ 2 ^ 20 := by
  have e : (2 : Nat) ^ 20 = 1048576 := by decide
  unfold Builtin.Int.intBits
  split <;> omega
theorem mulC.ok {i j : Int} (h : mulC i j) : IntMulOk i j := by
  rcases h with h | h | ⟨h1, h2⟩
  · exact CMul.ok (.inl h)
  · exact CMul.ok (.inr h)
  · exact .of_bits (bits_of h1) (bits_of h2)
theorem op_mulM {X : Cx} : OpR X (binaryOp .Mult) (rI mulC fun i j => .int (i * j)) := opI fun _ _ _ _ _ _ _ hc q => mul_int q hc.ok
instance (i j : Int) : Decidable (mulC i j) := inferInstanceAs (Decidable (_ ∨ _ ∨ _))
def repLF (p : Er) (k : Int) (S : Sto) : R Er := match lsW S p with
  | some x => if 0 ≤ k ∧ k < 100000 ∧ x.length * k.toNat ≤ sizeLine then .ok (.new (List.replicate k.toNat x).flatten) S else .no
  | none => .no
def mulF : Er → Er → Sto → R Er
  | .val (.int i), .val (.int j), S => if mulC i j then .ok (.val (.int (i * j))) S else .no
  | .val (.str x), .val (.int k), S => if 0 ≤ k ∧ k < 1000 ∧ x.length ≤ 1000 then .ok (.val (.str (repL x k))) S else .no
  | p, .val (.int k), S => repLF p k S
  | _, _, _ => .no
theorem DenL.rep {K : PySem.W.Frag} {α : List Addr} {H : Hp} {ds : List MV} {vs : List V} (l : DenL K α H ds vs) : ∀ k : Nat, DenL K α H (List.replicate k ds).flatten (List.replicate k vs).flatten
  | 0 => denl_nil
  | k + 1 => by rw [List.replicate_succ, List.flatten_cons, List.replicate_succ, List.flatten_cons]; exact l.append (DenL.rep l k)
theorem pm_mul (ha : PEm X W a f) (hb : PEm X W b g) : PEm X W (.BinOp a .Mult b pos) (fun ρ S => (f ρ S).bind fun p S1 => (g ρ S1).bind fun q S2 => mulF p q S2) := by
  refine pm_op (op_mulM.or (op_mul_str.or op_rep)) ?_ ha hb
  intro p q x y α S H Q wd dp dq post
  unfold mulF at post
  split at post
  · split at post
    · rename_i hc
      exact .inl ⟨_, _, xe_int dp, xe_int dq, hc, Post.val post wd (den_int _)⟩
    · exact post.elim
  · split at post
    · rename_i hc
      exact .inr (.inl ⟨_, _, xe_str dp, xe_int dq, hc.1, hc.2.1, hc.2.2, Post.val post wd (den_str _)⟩)
    · exact post.elim
  · unfold repLF at post
    split at post
    · rename_i ds e1
      split at post
      · rename_i hc
        obtain ⟨a1, vs, rfl, h1, l1⟩ := lsW_of wd e1 dp
        exact .inr (.inr ⟨a1, _, vs, rfl, xe_int dq, h1, by omega, by omega, by rw [l1.length]; exact hc.2.2, fun p hp => Post.newl post wd hp (l1.rep _)⟩)
      · exact post.elim
    · exact post.elim
  · exact post.elim
def depthE : Nat := 40
def eqF (p q : Er) (S : Sto) : R Er := match eqvE S depthE p q with
  | some k => .ok (.val (.bl k)) S
  | none => .no
def neF (p q : Er) (S : Sto) : R Er := match eqvE S depthE p q with
  | some k => .ok (.val (.bl !k)) S
  | none => .no
theorem op_eqM (hu : X.A.units + 64 < cLine) : OpR X (compareOp .Eq) (fun x y H Q => ∃ α S p q k, Wd X.g α S H ∧ DenX X.K α H p x ∧ DenX X.K α H q y ∧ eqvE S depthE p q = some k ∧ Q (.bl k) H) := by
  intro pins s σ H x y v u Q I rx ry h
  obtain ⟨α, S, p, q, k, wd, dp, dq, e, hq⟩ := h
  exact rcAt_m I wd depthE (by unfold depthE; omega) dp dq rx ry e X.prog X.w _ _ ⟨.bl k, H, I, rfl, hq⟩
theorem op_neM (hu : X.A.units + 64 < cLine) : OpR X (compareOp .NotEq) (fun x y H Q => ∃ α S p q k, Wd X.g α S H ∧ DenX X.K α H p x ∧ DenX X.K α H q y ∧ eqvE S depthE p q = some k ∧ Q (.bl (!k)) H) := by
  intro pins s σ H x y v u Q I rx ry h
  obtain ⟨α, S, p, q, k, wd, dp, dq, e, hq⟩ := h
  exact rnAt_m I wd depthE (by unfold depthE; omega) dp dq rx ry e X.prog X.w _ _ ⟨.bl (!k), H, I, rfl, hq⟩
theorem op2_eqM : Op2 X W (fun x y H Q => ∃ α S p q k, Wd X.g α S H ∧ DenX X.K α H p x ∧ DenX X.K α H q y ∧ eqvE S depthE p q = some k ∧ Q (.bl k) H) eqF := by
  intro p q x y α S H Q wd dp dq post
  unfold eqF at post
  split at post
  · rename_i k e
    exact ⟨α, S, p, q, k, wd, dp, dq, e, Post.val post wd (den_bl _)⟩
  · exact post.elim
theorem op2_neM : Op2 X W (fun x y H Q => ∃ α S p q k, Wd X.g α S H ∧ DenX X.K α H p x ∧ DenX X.K α H q y ∧ eqvE S depthE p q = some k ∧ Q (.bl (!k)) H) neF := by
  intro p q x y α S H Q wd dp dq post
  unfold neF at post
  split at post
  · rename_i k e
    exact ⟨α, S, p, q, k, wd, dp, dq, e, Post.val post wd (den_bl _)⟩
  · exact post.elim
theorem pm_eq (hu : X.A.units + 64 < cLine) (ha : PEm X W a f) (hb : PEm X W b g) : PEm X W (.Compare a [.Eq] [b] pos) (fun ρ S => (f ρ S).bind fun p S1 => (g ρ S1).bind fun q S2 => eqF p q S2) := pm_cmp (op_eqM hu) op2_eqM ha hb
theorem tm_eq (hu : X.A.units + 64 < cLine) (ha : PEm X W a f) (hb : PEm X W b g) : PTm X W (.Compare a [.Eq] [b] pos) (fun ρ S => ((f ρ S).bind fun p S1 => (g ρ S1).bind fun q S2 => eqF p q S2).bind asB) := tm_cmp (op_eqM hu) op2_eqM ha hb
theorem tm_ne (hu : X.A.units + 64 < cLine) (ha : PEm X W a f) (hb : PEm X W b g) : PTm X W (.Compare a [.NotEq] [b] pos) (fun ρ S => ((f ρ S).bind fun p S1 => (g ρ S1).bind fun q S2 => neF p q S2).bind asB) := tm_cmp (op_neM hu) op2_neM ha hb
def ltF : Er → Er → Sto → R Er
  | .val d, .val f, S => match ltv S depthE d f with
    | some k => .ok (.val (.bl k)) S
    | none => .no
  | _, _, _ => .no
theorem op_ltM (hu : X.A.units + 64 < cLine) : OpR X (compareOp .Lt) (fun x y H Q => ∃ α S d f k, Wd X.g α S H ∧ Den X.K α H d x ∧ Den X.K α H f y ∧ ltv S depthE d f = some k ∧ Q (.bl k) H) := by
  intro pins s σ H x y v u Q I rx ry h
  obtain ⟨α, S, d, f, k, wd, dp, dq, e, hq⟩ := h
  exact ltAt_m I wd depthE X.A d f x y v u k (by unfold depthE; omega) dp dq rx ry e X.prog X.w _ _ ⟨.bl k, H, I, rfl, hq⟩
theorem op2_ltM : Op2 X W (fun x y H Q => ∃ α S d f k, Wd X.g α S H ∧ Den X.K α H d x ∧ Den X.K α H f y ∧ ltv S depthE d f = some k ∧ Q (.bl k) H) ltF := by
  intro p q x y α S H Q wd dp dq post
  unfold ltF at post
  split at post
  · split at post
    · rename_i k e
      exact ⟨α, S, _, _, k, wd, dp, dq, e, Post.val post wd (den_bl _)⟩
    · exact post.elim
  · exact post.elim
theorem pm_lt (hu : X.A.units + 64 < cLine) (ha : PEm X W a f) (hb : PEm X W b g) : PEm X W (.Compare a [.Lt] [b] pos) (fun ρ S => (f ρ S).bind fun p S1 => (g ρ S1).bind fun q S2 => ltF p q S2) := pm_cmp (op_ltM hu) op2_ltM ha hb
theorem tm_lt (hu : X.A.units + 64 < cLine) (ha : PEm X W a f) (hb : PEm X W b g) : PTm X W (.Compare a [.Lt] [b] pos) (fun ρ S => ((f ρ S).bind fun p S1 => (g ρ S1).bind fun q S2 => ltF p q S2).bind asB) := tm_cmp (op_ltM hu) op2_ltM ha hb
abbrev gtF := ibF fun i j => decide (j < i)
theorem tm_gt (ha : PEm X W a f) (hb : PEm X W b g) : PTm X W (.Compare a [.Gt] [b] pos) (fun ρ S => ((f ρ S).bind fun p S1 => (g ρ S1).bind fun q S2 => gtF p q S2).bind asB) := tm_cmp op_gt op2_ib ha hb
def isNF : Er → Er → Sto → R Er
  | .val .non, .val .non, S => .ok (.val (.bl true)) S
  | _, .val .non, S => .ok (.val (.bl false)) S
  | _, _, _ => .no
theorem not_none {α : List Addr} {H : Hp} {p : Er} {x : V} (d : DenX X.K α H p x) (n : p ≠ .val .non) : decide (x = .non) = false := by
  cases p with
  | new ds => obtain ⟨b, vs, rfl, _⟩ := d; rfl
  | val m =>
    cases m with
    | non => exact absurd rfl n
    | bl b => cases xe_bl d; rfl
    | int b => cases xe_int d; rfl
    | str b => cases xe_str d; rfl
    | typ b => cases xe_typ d; rfl
    | tup b => obtain ⟨_, _, rfl, _⟩ := xe_tup d; rfl
    | scr b => obtain ⟨_, _, rfl, _⟩ := xe_scr d; rfl
    | loc b => obtain ⟨_, rfl, _⟩ := xe_loc d; rfl
theorem op2_isN : Op2 X W (fun x y H Q => y = .non ∧ Q (.bl (decide (x = .non))) H) isNF := by
  intro p q x y α S H Q wd dp dq post
  unfold isNF at post
  split at post
  · cases xe_non dp; exact ⟨xe_non dq, Post.val post wd (den_bl _)⟩
  · rename_i p' S' hn
    rw [not_none dp (fun z => by first | exact hn z | exact hn z rfl | exact hn _ z | exact hn rfl z)]
    exact ⟨xe_non dq, Post.val post wd (den_bl _)⟩
  · exact post.elim
theorem pm_is (ha : PEm X W a f) (hb : PEm X W b g) : PEm X W (.Compare a [.Is] [b] pos) (fun ρ S => (f ρ S).bind fun p S1 => (g ρ S1).bind fun q S2 => isNF p q S2) := pm_cmp op_isN op2_isN ha hb
theorem tm_is (ha : PEm X W a f) (hb : PEm X W b g) : PTm X W (.Compare a [.Is] [b] pos) (fun ρ S => ((f ρ S).bind fun p S1 => (g ρ S1).bind fun q S2 => isNF p q S2).bind asB) := tm_cmp op_isN op2_isN ha hb
def getL (ds : List MV) : Er → Sto → R Er
  | .val (.int i), S => match atI ds i with | some d => .ok (.val d) S | none => .no
  | _, _ => .no
def ixF : Er → Er → Sto → R Er
  | .val (.str x), .val (.int i), S => if x.length ≤ sizeLine then match atI x i with | some c => .ok (.val (.str [c])) S | none => .no else .no
  | .val (.tup ds), q, S => getL ds q S
  | p, q, S => match lsOf S p with | some ds => getL ds q S | none => .no
theorem atI_den {K : PySem.W.Frag} {α : List Addr} {H : Hp} {ds : List MV} {vs : List V} {i : Int} {d : MV} (l : DenL K α H ds vs) (e : atI ds i = some d) : ∃ v, atI vs i = some v ∧ Den K α H d v := by
  unfold atI at e ⊢
  rw [l.length]
  cases z : ixN ds.length i with
  | none => rw [z] at e; cases e
  | some j =>
    rw [z] at e
    obtain ⟨v, h1, h2⟩ := l.at (show ds[j]? = some d from e)
    exact ⟨v, h1, h2⟩
theorem pm_at (ha : PEm X W a f) (hb : PEm X W b g) (hs : PlainIx b := by exact fun _ _ => rfl) : PEm X W (.Subscript a b pos) (fun ρ S => (f ρ S).bind fun p S1 => (g ρ S1).bind fun q S2 => ixF p q S2) := by
  refine pm_ix ix_seq ?_ ha hb hs
  intro p q x y α S H Q wd dp dq post
  have key : ∀ {ds : List MV} {vs : List V} {i : Int} {d : MV}, DenL X.K α H ds vs → atI ds i = some d → Post X.g W α H (.ok (Er.val d) S) Q → ∃ v, atI vs i = some v ∧ Q v H := fun l e post => by
    obtain ⟨v, h1, h2⟩ := atI_den l e
    exact ⟨v, h1, Post.val post wd h2⟩
  unfold ixF at post
  split at post
  · split at post
    · rename_i hz
      split at post
      · rename_i ch e
        refine .inr (.inr ⟨_, _, ch, xe_str dp, xe_int dq, by rw [mkS_len]; exact hz, by rw [mkS_cps]; exact e, ?_⟩)
        exact Post.val post wd (den_str [ch])
      · exact post.elim
    · exact post.elim
  · unfold getL at post
    split at post
    · split at post
      · rename_i d e
        obtain ⟨a1, vs, rfl, s1, l1⟩ := xe_tup dp
        obtain ⟨v, h1, h2⟩ := key l1 e post
        exact .inr (.inl ⟨a1, vs, _, v, rfl, xe_int dq, s1, h1, h2⟩)
      · exact post.elim
    · exact post.elim
  · split at post
    · rename_i ds el
      unfold getL at post
      split at post
      · split at post
        · rename_i d e
          obtain ⟨a1, vs, rfl, s1, l1⟩ := ls_of rfl wd el dp
          obtain ⟨v, h1, h2⟩ := key l1 e post
          exact .inl ⟨a1, vs, _, v, rfl, xe_int dq, s1, h1, h2⟩
        · exact post.elim
      · exact post.elim
    · exact post.elim
end
end M
end L2
namespace L2
namespace M
open PySem PySem.Spec PyProof.Rows
theorem getItem_whole {prog : Program} {w : World} {A : Around} {E : Value → Shared → Prop} {s : Shared} {t sl : Addr} {its : Array Value} {vl vu : Value} {lo hi : Option Int} {Q : Value → Shared → Prop} (ht : IsTup s.heap t its) (hs : s.heap.IsSliceOf sl vl vu .none) (pl : IsPart vl lo) (pu : IsPart vu hi)
    (h0 : HT.sIx its.size 0 lo = 0) (h1 : HT.sIx its.size its.size hi = its.size) (h : Q (.ref t) s) : wpAny (model prog w) A (getItem (.ref t) (.ref sl)) Q E s := by
  have hTs : s.TypeIs (.ref sl) "slice" := by obtain ⟨os, hos, hcs, _⟩ := id hs; exact ⟨os, hos, hcs⟩
  have hTt := ht.typeIs
  unfold getItem
  try with_reducible refine wpAny_holding ?_
  first | refine wpAny_bind (wpAny_pure ?_) | skip
  refine wpAny_bind (wpAny_sequenceKey hTt (by decide) ?_)
  refine wpAny_bind (wpAny_callSpecial?_slot (name := Str.ofString "__getitem__") hTt PyProof.Rows.slot_tuple_getitem (wpAny_call_entry PyProof.Rows.slot_tuple_getitem hTt entry_tuple_getitem ?_ (args_tuple_getitem _ _)))
  show wpAny _ _ (Builtin.Tuple.tupleItemsOf (.ref t) >>= _) _ _ s
  refine wpAny_bind (tupleItemsOf_ ht (wpAny_bind (wpAny_typeOf hTs ?_)))
  rw [if_pos (by decide)]
  refine wpAny_bind (HT.sliceApplied_gen hs pl pu ?_)
  show wpAny _ _ (if (((HT.sIx its.size 0 lo : Nat) : Int) == 0 && (1 : Int) == 1 && (HT.sIx its.size its.size hi - HT.sIx its.size 0 lo) == its.size) = true then _ else _) _ _ s
  rw [if_pos (by rw [h0, h1]; simp)]
  unfold Builtin.Tuple.tupleIsExact
  refine wpAny_bind (wpAny_bind (wpAny_typeOf hTt (wpAny_pure ?_)))
  rw [if_pos (by decide)]
  refine wpAny_bind (wpAny_rule ?_)
  first
    | exact wpAny_pure ⟨_, rfl, wpAny_pure h⟩
    | exact wpAny_bind (wpAny_pure (wpAny_pure ⟨_, rfl, wpAny_pure h⟩))
    | exact wpAny_bind (wpAny_pure ⟨_, rfl, wpAny_pure h⟩)
section
variable {X : Cx} {W : XW} {a b c e : Expr} {es : List Expr} {f g h : Rho → Sto → R Er} {af : Rho → Sto → R (List Er)} {pos : Pos}
theorem sl_tupW : SlR X (fun x lo hi H Q => ∃ a xs, x = .ref a ∧ SqT X.K H a xs ∧ HT.sIx xs.length 0 lo = 0 ∧ HT.sIx xs.length xs.length hi = xs.length ∧ Q (.ref a) H) := by
  intro pins s σ H x v vl vu lo hi sl Q I rx hs pl pu h
  obtain ⟨a, xs, rfl, hx, h0, h1, q⟩ := h
  cases rx
  obtain ⟨its, r, ht, hz⟩ := I.tuple hx
  have hlen : its.toArray.size = xs.length := by rw [List.size_toArray]; exact r.length.symm
  exact ⟨"tuple", _, PyProof.Rows.slot_tuple_getitem.lookup, ht.typeIs, getItem_whole ht hs pl pu (by rw [hlen]; exact h0) (by rw [hlen]; exact h1) ⟨.ref a, H, I, rfl, q⟩⟩
def cutF : Er → Option Int → Option Int → Sto → R Er
  | .val (.str x), lo, hi, S => if x.length ≤ sizeLine then .ok (.val (.str (cutL x lo hi))) S else .no
  | .val (.tup ds), lo, hi, S => .ok (.val (.tup (cutL ds lo hi))) S
  | p, lo, hi, S => match lsOf S p with | some ds => .ok (.new (cutL ds lo hi)) S | none => .no
theorem cut_whole {α : Type} {ds : List α} {lo hi : Option Int} (h0 : HT.sIx ds.length 0 lo = 0) (h1 : HT.sIx ds.length ds.length hi = ds.length) : cutL ds lo hi = ds := by
  unfold cutL
  rw [h0, h1]
  simp
theorem pm_cut {lo hi : Option Expr} {lf hf : Rho → Sto → R (Option Int)} {p2 : Pos} (ha : PEm X W a f) (hl : POm X W lo lf) (hh : POm X W hi hf) : PEm X W (.Subscript a (.Slice lo hi none p2) pos) (fun ρ S => (f ρ S).bind fun p S1 => (lf ρ S1).bind fun l S2 => (hf ρ S2).bind fun u S3 => cutF p l u S3) := by
  refine pm_slice (sl_str.or (sl_list.or (sl_tup.or sl_tupW))) ?_ ha hl hh
  intro p lo hi x α S H Q wd dp post
  unfold cutF at post
  split at post
  · split at post
    · rename_i hz
      exact .inl ⟨_, xe_str dp, hz, Post.val post wd (den_str _)⟩
    · exact post.elim
  · rename_i _ _ _ ds
    obtain ⟨a1, vs, rfl, s1, l1⟩ := xe_tup dp
    by_cases hw : HT.sIx vs.length 0 lo = 0 ∧ HT.sIx vs.length vs.length hi = vs.length
    · have e : cutL ds lo hi = ds := cut_whole (by rw [← l1.length]; exact hw.1) (by rw [← l1.length]; exact hw.2)
      rw [e] at post
      exact .inr (.inr (.inr ⟨a1, vs, rfl, s1, hw.1, hw.2, Post.val post wd (den_tup s1 l1)⟩))
    · exact .inr (.inr (.inl ⟨a1, vs, rfl, s1, hw, fun p hp => Post.newt post wd hp (l1.cut lo hi)⟩))
  · split at post
    · rename_i ds el
      obtain ⟨a1, vs, rfl, s1, l1⟩ := ls_of rfl wd el dp
      exact .inr (.inl ⟨a1, vs, rfl, s1, fun p hp => Post.newl post wd hp (l1.cut lo hi)⟩)
    · exact post.elim
def pickL {α : Type} (ds : List α) (lo hi st : Option Int) : List α := (sliceRange (sliceBounds lo hi st ds.length).1 (sliceBounds lo hi st ds.length).2.1 (sliceBounds lo hi st ds.length).2.2).filterMap (ds[·]?)
theorem DenL.pick {K : PySem.W.Frag} {α : List Addr} {H : Hp} {ds : List MV} {vs : List V} (l : DenL K α H ds vs) : ∀ idx : List Nat, DenL K α H (idx.filterMap (ds[·]?)) (idx.filterMap (vs[·]?))
  | [] => denl_nil
  | i :: idx => by
    cases z : ds[i]? with
    | none =>
      have z2 : vs[i]? = none := by rw [List.getElem?_eq_none_iff, l.length]; exact List.getElem?_eq_none_iff.mp z
      rw [List.filterMap_cons_none z, List.filterMap_cons_none z2]
      exact DenL.pick l idx
    | some d =>
      obtain ⟨v, h1, h2⟩ := l.at z
      rw [List.filterMap_cons_some z, List.filterMap_cons_some h1]
      exact denl_cons h2 (DenL.pick l idx)
theorem Vals.pick {xs : List V} {us : List Value} (r : Vals xs us) : ∀ idx : List Nat, Vals (idx.filterMap (xs[·]?)) (idx.filterMap (us[·]?))
  | [] => .nil
  | i :: idx => by
    cases z : xs[i]? with
    | none => rw [List.filterMap_cons_none z, List.filterMap_cons_none (r.none_of z)]; exact Vals.pick r idx
    | some d =>
      obtain ⟨v, h1, h2⟩ := r.get z
      rw [List.filterMap_cons_some z, List.filterMap_cons_some h1]
      exact .cons h2 (Vals.pick r idx)
def stepF (st : Int) (p : Er) (lo hi : Option Int) (S : Sto) : R Er := match lsOf S p with
  | some ds => if (pickL ds lo hi (some st)).length ≤ sizeLine then .ok (.new (pickL ds lo hi (some st))) S else .no
  | none => .no
theorem pm_step {st : Int} {lo hi : Option Expr} {lf hf : Rho → Sto → R (Option Int)} {p2 : Pos} {ste : Expr} (h0 : st ≠ 0) (ha : PEm X W a f) (hl : POm X W lo lf) (hh : POm X W hi hf)
    (hst : ∀ pins s σ H (Q : VK), Inv X pins σ H s → Q (.int st) H → wpAny (model X.prog X.w) X.A (eval ste X.env) (EP X pins σ Q) X.xe s) :
    PEm X W (.Subscript a (.Slice lo hi (some ste) p2) pos) (fun ρ S => (f ρ S).bind fun p S1 => (lf ρ S1).bind fun l S2 => (hf ρ S2).bind fun u S3 => stepF st p l u S3) := by
  obtain ⟨ta, ha, fa⟩ := ha
  obtain ⟨tl, hl, fl⟩ := hl
  obtain ⟨th, hh, fh⟩ := hh
  refine ⟨fun σ H Q => ta σ H fun x H1 => tl σ H1 fun l H2 => th σ H2 fun u H3 => ∃ a xs, x = .ref a ∧ SqL X.K H3 a xs ∧ (pickL xs l u (some st)).length ≤ sizeLine ∧ ∀ p, H3 p = none → Q (.ref p) (upd H3 p (.lst (pickL xs l u (some st)))), ?_, fun α ρ S σ H Q wd sl q => fa α ρ S σ H _ wd sl (q.bind fun u p S1 α1 H1 e1 x1 w1 d1 q1 => fl α1 ρ S1 σ H1 _ w1 (sl.ext x1) ((q1.shift x1).bind fun u2 l S2 α2 H2 e2 x2 w2 d2 q2 =>
    fh α2 ρ S2 σ H2 _ w2 ((sl.ext x1).ext x2) ((q2.shift x2).bind fun u3 m S3 α3 H3 e3 x3 w3 d3 q3 => ?_)))⟩
  · intro pins s σ H Q I h
    refine Subscript_ (thn (ha pins s σ H _ I h) fun v s1 ⟨x, H1, I1, r1, q1⟩ => ?_)
    refine wpAny_Slice (thn (hl pins s1 σ H1 _ I1 q1) fun vl s2 ⟨l, H2, I2, pl, q2⟩ => thn (hh pins s2 σ H2 _ I2 q2) fun vu s3 ⟨u, H3, I3, pu, q3⟩ => ?_)
    rw [evalPart_some]
    refine thn (hst pins s3 σ H3 (fun w' H' => w' = .int st ∧ H' = H3) I3 ⟨rfl, rfl⟩) fun vs s4 ⟨y, H4, I4, r4, ey, eH⟩ => ?_
    subst ey eH
    obtain ⟨t4, rfl⟩ := r4
    obtain ⟨a, xs, rfl, sq, hz2, q⟩ := q3
    cases r1
    have I5 : Inv X pins σ H4 { s4 with heap := s4.heap.push { cls := .type "slice", data := .fields #[vl, vu, .int st t4] } } := I4.kept (t' := s4.toks) fun b ob q => Heap.get?_push_of_some _ q
    obtain ⟨its, r, ht, hz⟩ := I5.list sq
    have hlen := r.length
    refine tail_any (ops := [.ref a, .ref s4.heap.objs.size]) (T := "list") ht.isList.typeIs slot_list_getitem.lookup ?_ (by with_unfolding_all rfl)
    refine wpAny_getItem_list_slice ht.isList (Heap.IsSliceOf.new ..) pl pu (.int st t4) (by intro z; exact h0 (Option.some.inj z)) ?_ (by rw [List.size_toArray]; omega)
    have ep : slicePick its.toArray l u (some st) = (pickL its l u (some st)).toArray := by
      unfold slicePick pickL
      simp
    rw [ep]
    have el : xs.length = its.length := hlen
    refine ⟨.ref _, _, I5.laid (t' := s4.toks) (o := .lst (pickL xs l u (some st))) (fun b ob q => Heap.get?_push_of_some _ q) (Nat.le_refl _) ?_, rfl, q _ (I5.hok.fresh (Nat.le_refl _))⟩
    refine ⟨hz2, _, 0, ?_, Heap.get?_push_size _ rfl⟩
    unfold pickL
    rw [el]
    exact Vals.pick r _
  · cases d2
    cases d3
    replace q3 := q3.shift x3
    unfold stepF at q3
    split at q3
    · rename_i ds el
      split at q3
      · rename_i hz
        obtain ⟨a1, vs, e5, s1, l1⟩ := ls_of rfl w3 el ((d1.1.ext x2).ext x3)
        have lp : DenL X.K α3 H3 (pickL ds u2 u3 (some st)) (pickL vs u2 u3 (some st)) := by
          unfold pickL
          rw [← l1.length]
          exact l1.pick _
        exact ⟨a1, vs, e5, s1, by rw [lp.length]; exact hz, fun p hp => Post.newl q3 w3 hp lp⟩
      · exact q3.elim
    · exact q3.elim
theorem step_neg {i : Int} {j : Nat} {p3 : Pos} : ∀ pins s σ H (Q : VK), Inv X pins σ H s → Q (.int (-i)) H → wpAny (model X.prog X.w) X.A (eval (.UnaryOp .USub (.Constant (.int i) j p3) pos) X.env) (EP X pins σ Q) X.xe s := fun pins s σ H Q I h => pe_un un_neg pe_int pins s σ H Q I ⟨i, rfl, h⟩
end
end M
end L2
namespace L2
namespace M
open PySem PySem.Spec PyProof.Rows
section
variable {X : Cx} {W : XW} {a b c e : Expr} {es : List Expr} {f g h : Rho → Sto → R Er} {af : Rho → Sto → R (List Er)} {pos : Pos}
def ansL (S : Sto) (n : Nat) (d : MV) : List MV → Option (List Bool)
  | [] => some []
  | y :: ys => (eqv S n y d).bind fun k => (ansL S n d ys).map (k :: ·)
section
variable {α : List Addr} {S : Sto} {H : Hp} {pins : List (Addr × Obj)} {σ : St} {s : Shared}
noncomputable def ansV (X : Cx) (α : List Addr) (S : Sto) (H : Hp) (n : Nat) (d : MV) (u : Value) : Bool := open Classical in decide (∃ y x, Den X.K α H y x ∧ RelV x u ∧ eqv S n y d = some true)
open Classical in
theorem ansV_is (I : Inv X pins σ H s) (wd : Wd X.g α S H) {n : Nat} {d y : MV} {x : V} {u : Value} {k : Bool} (dy : Den X.K α H y x) (r : RelV x u) (e : eqv S n y d = some k) : ansV X α S H n d u = k := by
  unfold ansV
  cases k with
  | true => exact decide_eq_true ⟨y, x, dy, r, e⟩
  | false =>
    refine decide_eq_false fun ⟨y', x', dy', r', e'⟩ => ?_
    have ex := r.inj r'
    subst ex
    rw [dy.inj I wd dy'] at e
    rw [e] at e'
    cases e'
theorem ans_all (I : Inv X pins σ H s) (wd : Wd X.g α S H) {n : Nat} {A : Around} {d : MV} {x : V} {v : Value} (hu : A.units + n < cLine) (dd : Den X.K α H d x) (rx : RelV x v) : ∀ {ys : List MV} {vs : List V} {us : List Value} {bs : List Bool}, DenL X.K α H ys vs → Vals vs us → ansL S n d ys = some bs →
    us.map (ansV X α S H n d) = bs ∧ ∀ u ∈ us, SeqAt.EqAt A s u v (ansV X α S H n d u)
  | [], _, _, bs, l, r, e => by
    cases l.isnil; cases r; cases e
    exact ⟨rfl, fun u hu => by cases hu⟩
  | y :: ys, _, _, bs, l, r, e => by
    obtain ⟨v', r', rfl, dy, l'⟩ := l.uncons
    cases r with
    | cons r1 r2 =>
      unfold ansL at e
      cases z : eqv S n y d with
      | none => rw [z] at e; cases e
      | some k =>
        rw [z] at e
        cases z2 : ansL S n d ys with
        | none => simp [z2] at e
        | some cs =>
          simp [z2] at e
          subst e
          obtain ⟨h1, h2⟩ := ans_all I wd hu dd rx l' r2 z2
          have h3 := ansV_is I wd dy r1 z
          refine ⟨by rw [List.map_cons, h1, h3], fun u hu' => ?_⟩
          rcases List.mem_cons.mp hu' with rfl | hu'
          · rw [h3]; exact eqAt_m I wd n A y d _ _ _ _ k hu dy dd r1 rx z
          · exact h2 u hu'
end
theorem any_map {us : List Value} {f : Value → Bool} {bs : List Bool} (h : us.map f = bs) : us.toArray.any f = bs.any id := by
  subst h
  simp [List.any_map]
def itemsOf (S : Sto) : Er → Option (List MV)
  | .val (.tup ds) => some ds
  | r => lsOf S r
theorem items_of {α : List Addr} {S : Sto} {H : Hp} (wd : Wd X.g α S H) {r : Er} {ds : List MV} {x : V} (e : itemsOf S r = some ds) (d : DenX X.K α H r x) : ∃ a vs, x = .ref a ∧ (SqL X.K H a vs ∨ SqT X.K H a vs) ∧ DenL X.K α H ds vs := by
  unfold itemsOf at e
  split at e
  · cases e
    obtain ⟨a, vs, rfl, s, l⟩ := xe_tup d
    exact ⟨a, vs, rfl, .inr s, l⟩
  · obtain ⟨a, vs, rfl, s, l⟩ := ls_of rfl wd e d
    exact ⟨a, vs, rfl, .inl s, l⟩
def inSeqF (neg : Bool) (p q : Er) (S : Sto) : R Er := match p with
  | .val d => match itemsOf S q with
    | some ys => match ansL S depthE d ys with
      | some bs => .ok (.val (.bl (if neg = true then !bs.any id else bs.any id))) S
      | none => .no
    | none => .no
  | .new _ => .no
def inF (neg : Bool) : Er → Er → Sto → R Er
  | .val (.str [c]), .val (.str y), S => .ok (.val (.bl (if neg = true then !decide (c ∈ y) else decide (c ∈ y)))) S
  | p, q, S => inSeqF neg p q S
abbrev rInM (X : Cx) (neg : Bool) : R2 := fun x y H Q => ∃ α S d q ys bs, Wd X.g α S H ∧ Den X.K α H d x ∧ DenX X.K α H q y ∧ itemsOf S q = some ys ∧ ansL S depthE d ys = some bs ∧ Q (.bl (if neg = true then !bs.any id else bs.any id)) H
theorem op_notinM (hu : X.A.units + 64 < cLine) : OpR X (compareOp .NotIn) (rInM X true) := by
  intro pins s σ H x y v u Q I rx ry h
  obtain ⟨α, S, d, q, ys, bs, wd, dd, dq, ei, ea, hq⟩ := h
  obtain ⟨a, vs, rfl, sq, l⟩ := items_of wd ei dq
  cases ry
  rcases sq with sq | sq
  · obtain ⟨its, r, pl, _⟩ := I.list sq
    obtain ⟨h1, h2⟩ := ans_all I wd (A := X.A.in1) (by show X.A.units + 1 + depthE < cLine; unfold depthE; omega) dd rx l r ea
    refine SeqAt.notIn_listAt (ansV X α S H depthE d) pl.isList (fun w hw => h2 w (by simpa using hw)) ⟨.bl _, H, I, rfl, ?_⟩
    rw [any_map h1]
    exact hq
  · obtain ⟨its, r, pl, _⟩ := I.tuple sq
    obtain ⟨h1, h2⟩ := ans_all I wd (A := X.A.in1) (by show X.A.units + 1 + depthE < cLine; unfold depthE; omega) dd rx l r ea
    refine SeqAt.notIn_tupleAt (ansV X α S H depthE d) pl (fun w hw => h2 w (by simpa using hw)) ⟨.bl _, H, I, rfl, ?_⟩
    rw [any_map h1]
    exact hq
theorem op2_inM {neg : Bool} : Op2 X W (fun x y H Q => (∃ i j, x = .str i ∧ y = .str j ∧ Q (.bl (if neg = true then !(!(Builtin.Str.occurrences j i 0 j.length 1).isEmpty) else !(Builtin.Str.occurrences j i 0 j.length 1).isEmpty)) H) ∨ rInM X neg x y H Q) (inF neg) := by
  intro p q x y α S H Q wd dp dq post
  unfold inF at post
  split at post
  · refine .inl ⟨_, _, xe_str dp, xe_str dq, ?_⟩
    rw [← mkS_one, PySem.StrLaws.found_one, mkS_cps]
    exact Post.val post wd (den_bl _)
  · unfold inSeqF at post
    split at post
    · rename_i d _
      split at post
      · rename_i ys ei
        split at post
        · rename_i bs ea
          exact .inr ⟨α, S, _, q, ys, bs, wd, dp, dq, ei, ea, Post.val post wd (den_bl _)⟩
        · exact post.elim
      · exact post.elim
    · exact post.elim
theorem OpR.imp {f : Value → Value → Sem Value} {r r' : R2} (h : OpR X f r) (i : ∀ x y H Q, r' x y H Q → r x y H Q) : OpR X f r' := fun pins s σ H x y v u Q I rx ry q => h pins s σ H x y v u Q I rx ry (i x y H Q q)
theorem op_notinA (hu : X.A.units + 64 < cLine) : OpR X (compareOp .NotIn) (fun x y H Q => (∃ i j, x = .str i ∧ y = .str j ∧ Q (.bl (if (true : Bool) = true then !(!(Builtin.Str.occurrences j i 0 j.length 1).isEmpty) else !(Builtin.Str.occurrences j i 0 j.length 1).isEmpty)) H) ∨ rInM X true x y H Q) :=
  OpR.imp (op_notin_str.or (op_notinM hu)) fun x y H Q q => q.imp (fun q => q) fun q => q
theorem tm_notin (hu : X.A.units + 64 < cLine) (ha : PEm X W a f) (hb : PEm X W b g) (hm : behindInMarks .NotIn b = false := by with_unfolding_all rfl) : PTm X W (.Compare a [.NotIn] [b] pos) (fun ρ S => ((f ρ S).bind fun p S1 => (g ρ S1).bind fun q S2 => inF true p q S2).bind asB) := tm_cmp (op_notinA hu) op2_inM ha hb hm
theorem argx1 {K : PySem.W.Frag} {α : List Addr} {H : Hp} {r : Er} {vs : List V} (d : ArgsX K α H [r] vs) : ∃ v, vs = [v] ∧ DenX K α H r v := by
  cases d with
  | cons a l => cases l; exact ⟨_, rfl, a⟩
theorem argx2 {K : PySem.W.Frag} {α : List Addr} {H : Hp} {r r' : Er} {vs : List V} (d : ArgsX K α H [r, r'] vs) : ∃ v u, vs = [v, u] ∧ DenX K α H r v ∧ DenX K α H r' u := by
  cases d with
  | cons a l => obtain ⟨u, rfl, l'⟩ := argx1 l; exact ⟨_, u, rfl, a, l'⟩
def lenF : List Er → Sto → R Er
  | [.val (.str x)], S => if x.length ≤ sizeLine then .ok (.val (.int x.length)) S else .no
  | [r], S => match itemsOf S r with | some ds => .ok (.val (.int ds.length)) S | none => .no
  | _, _ => .no
theorem cm_len : CallM X W (fun xs H Q => (∃ z, xs = [.str z] ∧ z.length ≤ sizeLine ∧ Q (.int z.length) H) ∨ ∃ p ys, xs = [.ref p] ∧ (SqL X.K H p ys ∨ SqT X.K H p ys) ∧ Q (.int ys.length) H) lenF := by
  intro rs vs α S H Q wd d post
  unfold lenF at post
  split at post
  · split at post
    · rename_i hz
      obtain ⟨v, rfl, dv⟩ := argx1 d
      cases xe_str dv
      refine .inl ⟨_, rfl, by rw [mkS_len]; exact hz, ?_⟩
      rw [mkS_len]
      exact Post.val post wd (den_int _)
    · exact post.elim
  · split at post
    · rename_i ds e
      obtain ⟨v, rfl, dv⟩ := argx1 d
      obtain ⟨a, us, rfl, sq, l⟩ := items_of wd e dv
      refine .inr ⟨a, us, rfl, sq, ?_⟩
      rw [l.length]
      exact Post.val post wd (den_int _)
    · exact post.elim
  · exact post.elim
theorem call_lenM : CallR X (.builtin "len") (fun xs H Q => (∃ z, xs = [.str z] ∧ z.length ≤ sizeLine ∧ Q (.int z.length) H) ∨ ∃ p ys, xs = [.ref p] ∧ (SqL X.K H p ys ∨ SqT X.K H p ys) ∧ Q (.int ys.length) H) := call_len_str.or call_len_seq
def blsOf : List MV → Option (List Bool)
  | [] => some []
  | .bl b :: r => (blsOf r).map (b :: ·)
  | _ :: _ => none
theorem blsOf_den {K : PySem.W.Frag} {α : List Addr} {H : Hp} : ∀ {ds : List MV} {bs : List Bool} {vs : List V}, blsOf ds = some bs → DenL K α H ds vs → vs = bs.map V.bl
  | [], _, _, e, l => by cases e; exact l.isnil
  | d :: r, bs, _, e, l => by
    cases d with
    | bl b =>
      unfold blsOf at e
      cases z : blsOf r with
      | none => rw [z] at e; cases e
      | some cs =>
        rw [z] at e
        cases e
        obtain ⟨v, us, rfl, dv, l'⟩ := l.uncons
        rw [of_bl dv, blsOf_den z l']
        rfl
    | _ => cases e
def allF : List Er → Sto → R Er
  | [r], S => match (lsOf S r).bind blsOf with | some bs => .ok (.val (.bl (bs.all id))) S | none => .no
  | _, _ => .no
theorem cm_all (hc : X.calm = true) : CallM X W (fun xs H Q => ∃ (a : Addr) (bs : List Bool), xs = [.ref a] ∧ SqL X.K H a (bs.map V.bl) ∧ X.calm = true ∧ Q (.bl (bs.all id)) H) allF := by
  intro rs vs α S H Q wd d post
  unfold allF at post
  split at post
  · split at post
    · rename_i bs e
      obtain ⟨v, rfl, dv⟩ := argx1 d
      cases z : lsOf S _ with
      | none => rw [z] at e; cases e
      | some ds =>
        rw [z] at e
        obtain ⟨a1, us, rfl, s, l⟩ := ls_of rfl wd z dv
        refine ⟨a1, bs, rfl, ?_, hc, Post.val post wd (den_bl _)⟩
        rw [← blsOf_den e l]
        exact s
    · exact post.elim
  · exact post.elim
def tyName (S : Sto) : Er → Option String
  | .val .non => some "NoneType"
  | .val (.bl _) => some "bool"
  | .val (.int _) => some "int"
  | .val (.str _) => some "str"
  | .val (.tup _) => some "tuple"
  | .val (.typ _) => none
  | r => (lsOf S r).map fun _ => "list"
def isiB (t T : String) : Bool := t == T || (t == "bool" && T == "int")
def known (T : String) : Bool := T == "int" || T == "bool" || T == "str" || T == "tuple" || T == "list"
def isiF : List Er → Sto → R Er
  | [r, .val (.typ T)], S => match tyName S r with
    | some t => if known T = true then .ok (.val (.bl (isiB t T))) S else .no
    | none => .no
  | _, _ => .no
theorem kit_table (K : PySem.W.Frag) {t T : String} (ht : t = "NoneType" ∨ t = "bool" ∨ t = "int" ∨ t = "str" ∨ t = "tuple" ∨ t = "list") (hT : known T = true) : PySem.W.kitOne K (.type t) (.type T) = some (isiB t T) := by
  have hT' : T = "int" ∨ T = "bool" ∨ T = "str" ∨ T = "tuple" ∨ T = "list" := by
    unfold known at hT
    simp only [Bool.or_eq_true, beq_iff_eq] at hT
    rcases hT with (((h | h) | h) | h) | h
    · exact .inl h
    · exact .inr (.inl h)
    · exact .inr (.inr (.inl h))
    · exact .inr (.inr (.inr (.inl h)))
    · exact .inr (.inr (.inr (.inr h)))
  rcases ht with rfl | rfl | rfl | rfl | rfl | rfl <;> rcases hT' with rfl | rfl | rfl | rfl | rfl <;> kernel_rfl
theorem call_isi : CallR X (.builtin "isinstance") (fun xs H Q => ∃ α S r x t T, xs = [x, .ty T] ∧ Wd X.g α S H ∧ DenX X.K α H r x ∧ tyName S r = some t ∧ known T = true ∧ Q (.bl (isiB t T)) H) := by
  intro pins s σ H xs us Q I rr h
  obtain ⟨α, S, r, x, t, T, rfl, wd, d, et, hk, q⟩ := h
  obtain ⟨u, w', rfl, rx, rT⟩ := vals2 rr
  cases rT
  have fin : ∀ tk, EP X pins σ Q (.bool (isiB t T)) { s with toks := tk } := fun tk => ⟨.bl _, H, I.tok _, rfl, q⟩
  unfold tyName at et
  split at et
  · cases et
    cases xe_non d
    cases rx
    exact PySem.W.kia_one PySem.W.kitx_none I.kIn True.intro (kit_table X.K (.inl rfl) hk) (fun z => nomatch z) fin
  · cases et
    cases xe_bl d
    cases rx
    exact PySem.W.kia_one PySem.W.kitx_bool I.kIn True.intro (kit_table X.K (.inr (.inl rfl)) hk) (fun z => nomatch z) fin
  · cases et
    cases xe_int d
    obtain ⟨t, rfl⟩ := rx
    exact PySem.W.kia_one PySem.W.kitx_int I.kIn True.intro (kit_table X.K (.inr (.inr (.inl rfl))) hk) (fun z => nomatch z) fin
  · cases et
    cases xe_str d
    obtain ⟨t, rfl⟩ := rx
    exact PySem.W.kia_one PySem.W.kitx_str I.kIn True.intro (kit_table X.K (.inr (.inr (.inr (.inl rfl)))) hk) (fun z => nomatch z) fin
  · cases et
    obtain ⟨a, vs, rfl, sq, l⟩ := xe_tup d
    cases rx
    obtain ⟨its, r1, p1, _⟩ := I.tuple sq
    obtain ⟨o, h1, h2, _⟩ := p1
    exact PySem.W.kia_one PySem.W.kitx_tuple I.kIn ⟨o, h1, h2⟩ (kit_table X.K (.inr (.inr (.inr (.inr (.inl rfl))))) hk) (fun z => nomatch z) fin
  · cases et
  · cases z : lsOf S r with
    | none => rw [z] at et; cases et
    | some ds =>
      rw [z] at et
      cases et
      obtain ⟨a, vs, rfl, sq, l⟩ := ls_of rfl wd z d
      cases rx
      obtain ⟨its, r1, p1, _⟩ := I.list sq
      obtain ⟨o, h1, h2, _⟩ := p1.isList
      exact PySem.W.kia_one PySem.W.kitx_list I.kIn ⟨o, h1, h2⟩ (kit_table X.K (.inr (.inr (.inr (.inr (.inr rfl))))) hk) (fun z => nomatch z) fin
theorem cm_isi : CallM X W (fun xs H Q => ∃ α S r x t T, xs = [x, .ty T] ∧ Wd X.g α S H ∧ DenX X.K α H r x ∧ tyName S r = some t ∧ known T = true ∧ Q (.bl (isiB t T)) H) isiF := by
  intro rs vs α S H Q wd d post
  unfold isiF at post
  split at post
  · split at post
    · rename_i t et
      split at post
      · rename_i hk
        obtain ⟨v, u, rfl, d1, d2⟩ := argx2 d
        cases xe_typ d2
        exact ⟨α, S, _, v, t, _, rfl, wd, d1, et, hk, Post.val post wd (den_bl _)⟩
      · exact post.elim
    · exact post.elim
  · exact post.elim
def tupleF : List Er → Sto → R Er
  | [.val (.tup ds)], S => .ok (.val (.tup ds)) S
  | [r], S => match lsOf S r with | some ds => .ok (.val (.tup ds)) S | none => .no
  | _, _ => .no
theorem cm_tuple : CallM X W (fun xs H Q => ∃ p ys, xs = [.ref p] ∧ ((SqL X.K H p ys ∧ ∀ l, H l = none → Q (.ref l) (upd H l (.tup ys))) ∨ (SqT X.K H p ys ∧ Q (.ref p) H))) tupleF := by
  intro rs vs α S H Q wd d post
  unfold tupleF at post
  split at post
  · obtain ⟨v, rfl, dv⟩ := argx1 d
    obtain ⟨a, us, rfl, sq, l⟩ := xe_tup dv
    exact ⟨a, us, rfl, .inr ⟨sq, Post.val post wd (den_tup sq l)⟩⟩
  · split at post
    · rename_i ds e
      obtain ⟨v, rfl, dv⟩ := argx1 d
      obtain ⟨a, us, rfl, sq, l⟩ := ls_of rfl wd e dv
      exact ⟨a, us, rfl, .inl ⟨sq, fun p hp => Post.newt post wd hp l⟩⟩
    · exact post.elim
  · exact post.elim
def listF : List Er → Sto → R Er
  | [r], S => match itemsOf S r with | some ds => .ok (.new ds) S | none => .no
  | _, _ => .no
theorem cm_list : CallM X W (fun xs H Q => ∃ p ys, xs = [.ref p] ∧ (SqL X.K H p ys ∨ SqT X.K H p ys) ∧ ∀ l, H l = none → Q (.ref l) (upd H l (.lst ys))) listF := by
  intro rs vs α S H Q wd d post
  unfold listF at post
  split at post
  · split at post
    · rename_i ds e
      obtain ⟨v, rfl, dv⟩ := argx1 d
      obtain ⟨a, us, rfl, sq, l⟩ := items_of wd e dv
      exact ⟨a, us, rfl, sq, fun p hp => Post.newl post wd hp l⟩
    · exact post.elim
  · exact post.elim
theorem bt_len : bootBuiltins "len" = some (.builtin "len") := by decide +kernel
theorem bt_all : bootBuiltins "all" = some (.builtin "all") := by decide +kernel
theorem bt_isinstance : bootBuiltins "isinstance" = some (.builtin "isinstance") := by decide +kernel
theorem bt_int : bootBuiltins "int" = some (.type "int") := by decide +kernel
theorem bt_bool : bootBuiltins "bool" = some (.type "bool") := by decide +kernel
theorem bt_str : bootBuiltins "str" = some (.type "str") := by decide +kernel
theorem bt_tuple : bootBuiltins "tuple" = some (.type "tuple") := by decide +kernel
theorem bt_list : bootBuiltins "list" = some (.type "list") := by decide +kernel
end
end M
end L2
namespace L2
namespace M
open PySem PySem.Spec PyProof.Rows
def digN (n : Nat) : List Nat := (Nat.toDigits 10 n).map Char.toNat
def decL (i : Int) : List Nat := if i < 0 then 45 :: digN i.natAbs else digN i.natAbs
section
variable {X : Cx} {W : XW} {a b c e o i : Expr} {es : List Expr} {f g h : Rho → Sto → R Er} {af : Rho → Sto → R (List Er)} {pos apos : Pos}
def strF : List Er → Sto → R Er
  | [.val (.int i)], S => if i.natAbs.log2 < 1920 then .ok (.val (.str (decL i))) S else .no
  | [.val (.str x)], S => .ok (.val (.str x)) S
  | _, _ => .no
def isStrE : Er → Sto → Bool
  | .val (.str _), _ => true
  | _, _ => false
theorem ty_str : TyM X "str" isStrE := by
  intro p x α S H wd d h
  unfold isStrE at h
  split at h
  · cases xe_str d; rfl
  · cases h
def isLst (p : Er) (S : Sto) : Bool := (lsOf S p).isSome
theorem ty_lst : TyM X "list" isLst := by
  intro p x α S H wd d h
  unfold isLst at h
  cases z : lsOf S p with
  | none => rw [z] at h; cases h
  | some ds =>
    obtain ⟨a, vs, rfl, s, l⟩ := ls_of rfl wd z d
    exact .inl ⟨rfl, vs, s⟩
def swF : Er → List Er → Sto → R Er
  | .val (.str x), [.val (.str y)], S => .ok (.val (.bl (decide (y.length ≤ x.length) && decide (x.take y.length = y)))) S
  | _, _, _ => .no
def strIdx (x y : List Nat) : Option Nat := (Builtin.Str.occurrences (mkS x) (mkS y) 0 (mkS x).length 1).head?
def sidxF : Er → List Er → Sto → R Er
  | .val (.str x), [.val (.str y)], S => match strIdx x y with | some i => .ok (.val (.int (i : Nat))) S | none => .no
  | _, _, _ => .no
theorem mt_sidx : MtR X "str.index" (fun x xs H Q => ∃ y z i, x = .str (mkS y) ∧ xs = [.str (mkS z)] ∧ strIdx y z = some i ∧ Q (.int (i : Nat)) H) := by
  intro pins s σ H x xs v us Q I rx rs h
  obtain ⟨y, z, i, rfl, rfl, hi, q⟩ := h
  obtain ⟨t, rfl⟩ := rx
  obtain ⟨u, rfl, t', rfl⟩ := vals1 rs
  unfold strIdx at hi
  cases zz : Builtin.Str.occurrences (mkS y) (mkS z) 0 (mkS y).length 1 with
  | nil => rw [zz] at hi; cases hi
  | cons k r =>
    rw [zz] at hi
    cases hi
    exact PySem.SC.index zz ⟨.int _, H, I.tok _, ⟨_, rfl⟩, q⟩
theorem mm_sidx : MtdM X W (fun x xs H Q => ∃ y z i, x = .str (mkS y) ∧ xs = [.str (mkS z)] ∧ strIdx y z = some i ∧ Q (.int (i : Nat)) H) sidxF := by
  intro p rs x vs α S H0 H Q α0 wd x0 dp da post
  replace post := post.shift x0
  unfold sidxF at post
  split at post
  · split at post
    · rename_i i hi
      obtain ⟨v, rfl, dv⟩ := args1 da
      exact ⟨_, _, i, xe_str dp, by rw [xe_str dv], hi, Post.val post wd (den_int _)⟩
    · exact post.elim
  · exact post.elim
theorem pm_sidx (ho : PEm X W a f) (ha : PAm X W (e :: es) af)
    (hbase : attributeBase a "index" X.env (eval a X.env) = eval a X.env := by rfl)
    (hfew : ((backTo pos (starEach (e :: es) X.env)).all (fun x => !x.1) && (backToKw pos (keywordEach [] X.env)).all (fun x => x.1.isSome)
      && decide ((e :: es).length + ([] : List Keyword).length + (if ([] : List Keyword).isEmpty then 0 else 1) < 30)) = true := by rfl)
    (hline : (apos.endLine == pos.line) = true := by rfl) (hs : starEach (e :: es) X.env = (false, eval e X.env) :: starEach es X.env := by rfl) (hplain : (backTo pos (starEach es X.env)).any (·.1) = false := by rfl) :
    PEm X W (.Call (.Attribute a "index" apos) (e :: es) [] pos) (fun ρ S => (f ρ S).bind fun p S1 => if isStrE p S1 = true then (af ρ S1).bind fun rs S2 => sidxF p rs S2 else .no) :=
  pm_meth PySem.F.plainAttrs_str PySem.F.slot_str_index PySem.F.type_str_index mt_sidx mm_sidx ty_str ho ha hbase hfew hline hs hplain
def updL (p : Er) (S : Sto) (G : List MV → Option (List MV)) : R Er := match p with
  | .val (.loc l) => match S[l]? with
    | some (.lst ds) => match G ds with
      | some es => .ok (.val .non) (S.set l (.lst es))
      | none => .no
    | _ => .no
  | _ => .no
theorem updL_post {α0 α : List Addr} {H0 H : Hp} {S : Sto} {p : Er} {x : V} {G : List MV → Option (List MV)} {Q : VK} (wd : Wd X.g α S H) (x0 : Ext α0 H0 α H) (dp : DenX X.K α H p x) (post : Post X.g W α0 H0 (updL p S G) Q) :
    ∃ a vs ds es, x = .ref a ∧ H a = some (.lst vs) ∧ DenL X.K α H ds vs ∧ G ds = some es ∧ ∀ us, DenL X.K α H es us → Q .non (upd H a (.lst us)) := by
  unfold updL at post
  split at post
  · rename_i l
    obtain ⟨a, rfl, h⟩ := xe_loc dp
    obtain ⟨ob, h1, h2⟩ := wd.of h
    rw [h1] at post
    cases ob with
    | lst ds =>
      obtain ⟨vs, h3, l1⟩ := h2
      have post : Post X.g W α0 H0 (match G ds with | some es => R.ok (Er.val .non) (S.set l (.lst es)) | none => R.no) Q := post
      split at post
      · rename_i es eg
        refine ⟨a, vs, ds, es, rfl, h3, l1, eg, fun us lu => ?_⟩
        have xw := wd.writex h (o := .lst us)
        exact (post.shift (x0.trans xw)).val (wd.write h ⟨us, upd_same, lu.ext xw⟩) den_non
      · exact post.elim
    | dic _ => exact post.elim
    | ins _ _ => exact post.elim
  · exact post.elim
def appF : Er → List Er → Sto → R Er
  | p, [r], S => (enter1 r S).bind fun y S1 => updL p S1 fun ds => if ds.length < sizeLine then some (ds ++ [y]) else none
  | _, _, _ => .no
theorem mm_append : MtdM X W rAppend appF := by
  intro p rs x vs α S H0 H Q α0 wd x0 dp da post
  match rs, da, post with
  | [], _, post => exact post.elim
  | _ :: _ :: _, _, post => exact post.elim
  | [r], da, post =>
    cases da with
    | cons d n l =>
      cases l
      obtain ⟨d', S', α', e', x', y', w', dd⟩ := enter1_ok wd x0 d
      have post : Post X.g W α0 H0 ((enter1 r S).bind fun y S1 => updL p S1 fun ds => if ds.length < sizeLine then some (ds ++ [y]) else none) Q := post
      rw [e'] at post
      have dp' : DenX X.K α' H p x := by
        cases p with
        | val m => exact Den.ex0 y' dp
        | new ds => exact post.elim
      obtain ⟨a, us, ds, es, rfl, h1, l1, eg, k⟩ := updL_post w' x' dp' post
      split at eg
      · rename_i hz
        cases eg
        exact ⟨a, us, _, rfl, rfl, h1, by rw [l1.length]; exact hz, k _ (l1.append (denl_cons dd denl_nil))⟩
      · cases eg
theorem pm_append (ho : PEm X W a f) (ha : PAm X W (e :: es) af)
    (hbase : attributeBase a "append" X.env (eval a X.env) = eval a X.env := by rfl)
    (hfew : ((backTo pos (starEach (e :: es) X.env)).all (fun x => !x.1) && (backToKw pos (keywordEach [] X.env)).all (fun x => x.1.isSome)
      && decide ((e :: es).length + ([] : List Keyword).length + (if ([] : List Keyword).isEmpty then 0 else 1) < 30)) = true := by rfl)
    (hline : (apos.endLine == pos.line) = true := by rfl) (hs : starEach (e :: es) X.env = (false, eval e X.env) :: starEach es X.env := by rfl) (hplain : (backTo pos (starEach es X.env)).any (·.1) = false := by rfl) :
    PEm X W (.Call (.Attribute a "append" apos) (e :: es) [] pos) (fun ρ S => (f ρ S).bind fun p S1 => if isLst p S1 = true then (af ρ S1).bind fun rs S2 => appF p rs S2 else .no) :=
  pm_meth PySem.F.plainAttrs_list PySem.F.slot_list_append PySem.F.type_list_append mt_append mm_append ty_lst ho ha hbase hfew hline hs hplain
end
end M
end L2
namespace L2
namespace M
open PySem PySem.Spec PyProof.Rows
theorem _root_.L2.Inv.turnedL {X : Cx} {pins : List (Addr × Obj)} {σ : St} {H : Hp} {s : Shared} {h' : Heap} {t' : Nat} {fp : List Addr} (I : Inv X pins σ H s) (k : ∀ b o, b ∉ fp → s.heap.get? b = some o → h'.get? b = some o)
    (hf : ∀ b ∈ fp, FpOk X pins H b) : Inv X pins σ H { s with heap := h', toks := t' } := by
  have nit : ∀ b u, H b = some u → b ∉ fp := fun b u e z => by rw [(hf b z).1] at e; cases e
  refine I.step (g' := s.gens) (d' := s.drawn) (ch := fp) (fun b hb => ⟨(hf b hb).2.2.2.1, (hf b hb).2.1, (hf b hb).2.2.2.2.1, (hf b hb).2.2.2.2.2⟩) (fun b o _ _ hc e _ => k b o hc e) (fun b o _ _ hc e _ => ⟨o.slots, k b o hc e⟩) (fun _ _ _ _ n => n)
    (fun b o hc e => ⟨o, k b o hc e⟩) (fun _ _ e => e) (fun _ _ _ e => e) (fun b ps e => ⟨#[], by rw [e]; simp⟩) (fun m hm => ?_) (fun b u e => ?_) I.bare
  · obtain ⟨o, es, ep, ho, r⟩ := hm
    exact ⟨o, es, ep, k _ o (fun z => (hf _ z).2.1 rfl) ho, r⟩
  · refine (I.hok b u e).stay (fun c v hc q => k c v ?_ q) (fun _ q => q) fun _ _ q => q
    rcases hc with z | z
    · rw [z]; exact nit b u e
    · exact nit c _ z
def IsSub (k : Bool) (h : Heap) (it l : Addr) (i : Nat) : Prop := if k = true then h.IsListIter it l i else h.IsTupleIter it l i
def IsSeq (k : Bool) (h : Heap) (l : Addr) (its : Array Value) : Prop := if k = true then h.IsList l its else h.IsTuple l its
def subObj (k : Bool) (l : Addr) : Obj := { cls := .type (if k = true then "list_iterator" else "tuple_iterator"), data := .fields #[.ref l, .int 0 0] }
theorem IsSub.mk' {k : Bool} {h : Heap} {it l : Addr} (e : h.get? it = some (subObj k l)) : IsSub k h it l 0 := by
  cases k with
  | true => exact ⟨_, e, rfl, rfl⟩
  | false => exact ⟨_, e, rfl, rfl⟩
theorem IsSub.there {k : Bool} {h : Heap} {it l : Addr} {i : Nat} (x : IsSub k h it l i) : ∃ o, h.get? it = some o ∧ ∀ v, o.data ≠ .cell v := by
  cases k with
  | true => obtain ⟨o, e, _, d⟩ := (x : h.IsListIter it l i); exact ⟨o, e, fun v z => by rw [d] at z; cases z⟩
  | false => obtain ⟨o, e, _, d⟩ := (x : h.IsTupleIter it l i); exact ⟨o, e, fun v z => by rw [d] at z; cases z⟩
theorem IsSub.move {k : Bool} {h h' : Heap} {it l : Addr} {i : Nat} (x : IsSub k h it l i) (f : ∀ o, h.get? it = some o → h'.get? it = some o) : IsSub k h' it l i := by
  cases k with
  | true => obtain ⟨o, e, r⟩ := (x : h.IsListIter it l i); exact ⟨o, f o e, r⟩
  | false => obtain ⟨o, e, r⟩ := (x : h.IsTupleIter it l i); exact ⟨o, f o e, r⟩
theorem IsSeq.move {k : Bool} {h h' : Heap} {l : Addr} {its : Array Value} (x : IsSeq k h l its) (f : ∀ o, h.get? l = some o → h'.get? l = some o) : IsSeq k h' l its := by
  cases k with
  | true => obtain ⟨o, e, r⟩ := (x : h.IsList l its); exact ⟨o, f o e, r⟩
  | false => obtain ⟨o, e, r⟩ := (x : h.IsTuple l its); exact ⟨o, f o e, r⟩
section
variable {prog : Program} {w : World} {A : Around} {E : Value → Shared → Prop} {s : Shared}
theorem iter_sub {k : Bool} {l : Addr} {its : Array Value} {Q : Value → Shared → Prop} (hl : IsSeq k s.heap l its) (h : Q (.ref s.heap.objs.size) { s with heap := s.heap.push (subObj k l) }) : wpAny (model prog w) A (pyIter (.ref l)) Q E s := by
  cases k with
  | true => exact wpAny_pyIter_list hl h
  | false => exact wpAny_pyIter_tuple hl h
theorem next_sub {k : Bool} {it l : Addr} {i : Nat} {its : Array Value} {x : Value} {Q : Value → Shared → Prop} (hit : IsSub k s.heap it l i) (hl : IsSeq k s.heap l its) (hx : its[i]? = some x)
    (hQ : ∀ h', IsSub k h' it l (i + 1) → Heap.SameBut it s.heap h' → Q x { s with heap := h' }) : wpAny (model prog w) A (Builtin.SmallTypes.nextOf (.ref it)) Q E s := by
  cases k with
  | true => exact wpAny_nextOf_list_item hit hl hx hQ
  | false =>
    have hit' : s.heap.IsTupleIter it l i := hit
    obtain ⟨o, ho, hc, hd⟩ := id hit'
    obtain ⟨ol, hol, _, nl, hdl⟩ := (hl : s.heap.IsTuple l its)
    unfold Builtin.SmallTypes.nextOf
    refine wpAny_bind (wpAny_callSpecial?_slot (name := Str.ofString "__next__") hit'.typeIs F.slot_tuple_iterator_next (wpAny_call_entry F.slot_tuple_iterator_next hit'.typeIs F.entry_tuple_iterator_next ?_ (F.args_tuple_iterator_next_1 _)))
    show wpAny _ _ (field (.ref it) 0 >>= _) _ _ s
    refine wpAny_bind (wpAny_field ho hd (x := .ref l) rfl ?_)
    show wpAny _ _ (if (Value.ref l == Value.none) = true then _ else _) _ _ s
    rw [if_neg (show ¬ ((Value.ref l == Value.none) = true) from Bool.false_ne_true)]
    show wpAny _ _ (field (.ref it) 1 >>= _) _ _ s
    refine wpAny_bind (wpAny_field ho hd (x := .int i 0) rfl ?_)
    show wpAny _ _ (seqItems? (.ref l) >>= _) _ _ s
    refine wpAny_bind (wpAny_seqItems hol hdl ?_)
    simp only [Int.toNat_natCast, hx]
    refine wpAny_bind (wpAny_setField ho hd (by simp) (wpAny_pure ⟨x, rfl, wpAny_pure (hQ _ ?_ (Heap.SameBut.update ..))⟩))
    exact ⟨_, Heap.get?_update_self _ ho (Obj.isFreed_of_fields (Obj.data_mapFields hd _)), (Obj.cls_mapFields ..).trans hc, by rw [Obj.data_mapFields hd]; simp [rawInt]⟩
theorem end_sub {k : Bool} {it l : Addr} {i : Nat} {its : Array Value} {Q : Value → Shared → Prop} (hh : A.handled = none) (hit : IsSub k s.heap it l i) (hl : IsSeq k s.heap l its) (hx : its[i]? = none)
    (hE : ∀ h' e, Heap.ExtBut it s.heap h' → (∃ o, h'.get? e = some o ∧ o.cls = .type "StopIteration") → E (.ref e) { s with heap := h' }) : wpAny (model prog w) A (Builtin.SmallTypes.nextOf (.ref it)) Q E s := by
  cases k with
  | true => exact wpAny_nextOf_list_end hh hit hl hx hE
  | false =>
    have hit' : s.heap.IsTupleIter it l i := hit
    obtain ⟨o, ho, hc, hd⟩ := id hit'
    obtain ⟨ol, hol, _, nl, hdl⟩ := (hl : s.heap.IsTuple l its)
    unfold Builtin.SmallTypes.nextOf
    refine wpAny_bind (wpAny_callSpecial?_slot (name := Str.ofString "__next__") hit'.typeIs F.slot_tuple_iterator_next (wpAny_call_entry F.slot_tuple_iterator_next hit'.typeIs F.entry_tuple_iterator_next ?_ (F.args_tuple_iterator_next_1 _)))
    show wpAny _ _ (field (.ref it) 0 >>= _) _ _ s
    refine wpAny_bind (wpAny_field ho hd (x := .ref l) rfl ?_)
    show wpAny _ _ (if (Value.ref l == Value.none) = true then _ else _) _ _ s
    rw [if_neg (show ¬ ((Value.ref l == Value.none) = true) from Bool.false_ne_true)]
    show wpAny _ _ (field (.ref it) 1 >>= _) _ _ s
    refine wpAny_bind (wpAny_field ho hd (x := .int i 0) rfl ?_)
    show wpAny _ _ (seqItems? (.ref l) >>= _) _ _ s
    refine wpAny_bind (wpAny_seqItems hol hdl ?_)
    simp only [Int.toNat_natCast, hx]
    refine wpAny_bind (wpAny_rule (wpAny_bind (wpAny_setField ho hd (by simp) ?_)))
    show wpAny _ _ (newExc (.type "StopIteration") [] >>= _) _ _ _
    refine wpAny_bind ?_
    simp only [newExc, newTuple]
    refine wpAny_bind (wpAny_newObj_type ?_ (by size_fits))
    refine wpAny_bind (m := firstArgMember _ _) (wpAny_of_eq (a := Value.none) (by first | rfl | (simp only [firstArgMember]; rfl)) ?_)
    refine wpAny_newObj_type ?_ (by size_fits)
    simp only [raiseNew]
    refine wpAny_bind (wpAny_handled ?_)
    first | rw [show A.in1.handled = none from hh] | rw [hh]
    refine wpAny_bind (wpAny_pure (wpAny_throw ?_))
    exact hE _ _ (((Heap.SameBut.update ..).extBut.push _).push _) ⟨_, Heap.get?_push_size _ rfl, rfl⟩
end
structure ZipSt (k1 k2 : Bool) (z TI TO i1 i2 l1 l2 : Addr) (i : Nat) (h : Heap) : Prop where
  z : IsZip h z TI TO .none
  ti : IsPair h TI (.ref i1) (.ref i2)
  to : ∃ a b, IsPair h TO a b
  s1 : IsSub k1 h i1 l1 i
  s2 : IsSub k2 h i2 l2 i
structure Apart5 (z TI TO i1 i2 : Addr) : Prop where
  TIz : TI ≠ z
  TOz : TO ≠ z
  i1z : i1 ≠ z
  i2z : i2 ≠ z
  TITO : TI ≠ TO
  TIi1 : TI ≠ i1
  TIi2 : TI ≠ i2
  TOi1 : TO ≠ i1
  TOi2 : TO ≠ i2
  i12 : i1 ≠ i2
section
variable {prog : Program} {w : World} {A : Around} {E : Value → Shared → Prop} {s : Shared} {k1 k2 : Bool} {z TI TO i1 i2 l1 l2 : Addr} {i : Nat} {xs ys : Array Value}
def Off (l z TO i1 i2 : Addr) : Prop := l ≠ z ∧ l ≠ TO ∧ l ≠ i1 ∧ l ≠ i2
theorem zip_item {x y : Value} {Q : Value → Shared → Prop} (D : Apart5 z TI TO i1 i2) (o1 : Off l1 z TO i1 i2) (o2 : Off l2 z TO i1 i2) (st : ZipSt k1 k2 z TI TO i1 i2 l1 l2 i s.heap) (hl1 : IsSeq k1 s.heap l1 xs) (hl2 : IsSeq k2 s.heap l2 ys) (hx : xs[i]? = some x) (hy : ys[i]? = some y)
    (hQ : ∀ h', IsZip h' z TI TO (rawInt s.heap.objs.size) → IsPair h' TO x y → IsSub k1 h' i1 l1 (i + 1) → IsSub k2 h' i2 l2 (i + 1) → IsPair h' s.heap.objs.size x y →
      (∀ c o, c ≠ z → c ≠ TO → c ≠ i1 → c ≠ i2 → s.heap.get? c = some o → h'.get? c = some o) → Q (.ref s.heap.objs.size) { s with heap := h' }) :
    wpAny (model prog w) A (Builtin.«zip.__next__» ⟨[.ref z], []⟩) (fun fin s' => ∃ v, fin = .done (.ret v) ∧ Q v s') E s := by
  obtain ⟨hz, hTI, ⟨a, b, hTO⟩, h1, h2⟩ := st
  show wpAny _ _ (field (.ref z) 2 >>= _) _ _ _
  refine wpAny_bind (wpAny_field hz rfl (x := .bool false) rfl ?_)
  show wpAny _ _ (field (.ref z) 3 >>= _) _ _ _
  refine wpAny_bind (wpAny_field hz rfl (x := .ref TI) rfl (wpAny_bind (wpAny_seqItems hTI rfl ?_)))
  show wpAny _ _ (Builtin.SmallTypes.ownedTupleIsFree (.ref z) >>= _) _ _ _
  refine wpAny_bind ?_
  unfold Builtin.SmallTypes.ownedTupleIsFree
  refine wpAny_bind (wpAny_field hz rfl (x := .none) rfl (wpAny_pure ?_))
  simp only [if_true]
  refine wpAny_bind (wpAny_rule (wpAny_bind (wpAny_field hz rfl (x := .ref TO) rfl (wpAny_bind (wpAny_setField_rec hz (by simp) fun ha hza hsa => ?_)))))
  replace hza : IsZip ha z TI TO .ellipsis := hza
  refine wpAny_bind ?_
  simp only [List.zipIdx_cons, List.zipIdx_nil, List.forIn_cons, List.forIn_nil]
  refine wpAny_bind (wpAny_bind (wpAny_onRaise ?_))
  show wpAny _ _ (Builtin.SmallTypes.nextOf (.ref i1) >>= _) _ _ _
  refine wpAny_bind (next_sub (h1.move fun o e => hsa.extBut _ _ D.i1z e) (hl1.move fun o e => hsa.extBut _ _ o1.1 e) hx fun hb h1b hsb => wpAny_pure ?_)
  have tob : IsPair hb TO a b := hsb.extBut _ _ D.TOi1 (hsa.extBut _ _ D.TOz hTO)
  refine wpAny_bind (wpAny_seqItems tob rfl (wpAny_bind (wpAny_updateSeq_pair tob fun hc toc hsc => wpAny_bind (wpAny_letGo (wpAny_pure ?_)))))
  replace toc : IsPair hc TO x b := toc
  refine wpAny_bind (wpAny_bind (wpAny_onRaise ?_))
  show wpAny _ _ (Builtin.SmallTypes.nextOf (.ref i2) >>= _) _ _ _
  have mv : ∀ c o, c ≠ z → c ≠ TO → c ≠ i1 → s.heap.get? c = some o → hc.get? c = some o := fun c o n1 n2 n3 e => hsc.extBut _ _ n2 (hsb.extBut _ _ n3 (hsa.extBut _ _ n1 e))
  refine wpAny_bind (next_sub (h2.move fun o e => mv _ o D.i2z D.TOi2.symm D.i12.symm e) (hl2.move fun o e => mv _ o o2.1 o2.2.1 o2.2.2.1 e) hy fun hd h2d hsd => wpAny_pure ?_)
  have tod : IsPair hd TO x b := hsd.extBut _ _ D.TOi2 toc
  refine wpAny_bind (wpAny_seqItems tod rfl (wpAny_bind (wpAny_updateSeq_pair tod fun he toe hse => wpAny_bind (wpAny_letGo (wpAny_pure (wpAny_pure ?_))))))
  replace toe : IsPair he TO x y := toe
  refine wpAny_bind (wpAny_seqItems toe rfl (wpAny_bind (wpAny_newTuple ?_)))
  have hsz : he.objs.size = s.heap.objs.size := by rw [hse.1, hsd.1, hsc.1, hsb.1, hsa.1]
  have ze : IsZip he z TI TO .ellipsis := hse.extBut _ _ D.TOz.symm (hsd.extBut _ _ D.i2z.symm (hsc.extBut _ _ D.TOz.symm (hsb.extBut _ _ D.i1z.symm hza)))
  have mve : ∀ c o, c ≠ z → c ≠ TO → c ≠ i1 → c ≠ i2 → s.heap.get? c = some o → he.get? c = some o := fun c o n1 n2 n3 n4 e => hse.extBut _ _ n2 (hsd.extBut _ _ n4 (mv c o n1 n2 n3 e))
  have s1e : IsSub k1 he i1 l1 (i + 1) := h1b.move fun o e => hse.extBut _ _ D.TOi1.symm (hsd.extBut _ _ D.i12 (hsc.extBut _ _ D.TOi1.symm e))
  have s2e : IsSub k2 he i2 l2 (i + 1) := h2d.move fun o e => hse.extBut _ _ D.TOi2.symm e
  have hzlt : z < he.objs.size := Heap.lt_size ze
  show wpAny _ _ (Builtin.SmallTypes.ownedTupleHandOut (.ref z) (.ref he.objs.size) >>= _) _ _ _
  refine wpAny_bind ?_
  unfold Builtin.SmallTypes.ownedTupleHandOut
  have zf : IsZip (he.push { cls := .type "tuple", data := .seq #[x, y] }) z TI TO .ellipsis := Heap.get?_push_of_some _ ze
  refine wpAny_bind (wpAny_setField_rec zf (by simp) fun hg' zg hsg => ?_)
  replace zg : IsZip hg' z TI TO (rawInt he.objs.size) := zg
  refine wpAny_setField_rec zg (by simp) fun hh' zh hsh => ?_
  replace zh : IsZip hh' z TI TO (rawInt he.objs.size) := zh
  have up : ∀ c o, c ≠ z → he.get? c = some o → hh'.get? c = some o := fun c o c1 e => hsh.extBut _ _ c1 (hsg.extBut _ _ c1 (Heap.get?_push_of_some _ e))
  have tT : IsPair hh' he.objs.size x y := hsh.extBut _ _ (Nat.ne_of_gt hzlt) (hsg.extBut _ _ (Nat.ne_of_gt hzlt) (Heap.get?_push_size _ rfl))
  rw [hsz] at zh tT
  refine wpAny_pure ⟨_, rfl, ?_⟩
  show Q (.ref he.objs.size) _
  rw [hsz]
  exact hQ hh' zh (up _ _ D.TOz toe) (s1e.move fun o e => up _ o D.i1z e) (s2e.move fun o e => up _ o D.i2z e) tT fun c o c1 c2 c3 c4 e => up c o c1 (mve c o c1 c2 c3 c4 e)
theorem zip_end {Q : Fin → Shared → Prop} (hh : A.handled = none) (D : Apart5 z TI TO i1 i2) (o1 : Off l1 z TO i1 i2) (o2 : Off l2 z TO i1 i2) (st : ZipSt k1 k2 z TI TO i1 i2 l1 l2 i s.heap) (hl1 : IsSeq k1 s.heap l1 xs) (hl2 : IsSeq k2 s.heap l2 ys) (hend : xs[i]? = none ∨ ys[i]? = none)
    (hE : ∀ h' e, (∀ c o, c ≠ z → c ≠ TO → c ≠ i1 → c ≠ i2 → s.heap.get? c = some o → h'.get? c = some o) → (∃ o, h'.get? e = some o ∧ o.cls = .type "StopIteration") → E (.ref e) { s with heap := h' }) :
    wpAny (model prog w) A (Builtin.«zip.__next__» ⟨[.ref z], []⟩) Q E s := by
  obtain ⟨hz, hTI, ⟨a, b, hTO⟩, h1, h2⟩ := st
  show wpAny _ _ (field (.ref z) 2 >>= _) _ _ _
  refine wpAny_bind (wpAny_field hz rfl (x := .bool false) rfl ?_)
  show wpAny _ _ (field (.ref z) 3 >>= _) _ _ _
  refine wpAny_bind (wpAny_field hz rfl (x := .ref TI) rfl (wpAny_bind (wpAny_seqItems hTI rfl ?_)))
  show wpAny _ _ (Builtin.SmallTypes.ownedTupleIsFree (.ref z) >>= _) _ _ _
  refine wpAny_bind ?_
  unfold Builtin.SmallTypes.ownedTupleIsFree
  refine wpAny_bind (wpAny_field hz rfl (x := .none) rfl (wpAny_pure ?_))
  simp only [if_true]
  refine wpAny_bind (wpAny_rule (wpAny_bind (wpAny_field hz rfl (x := .ref TO) rfl (wpAny_bind (wpAny_setField_rec hz (by simp) fun ha hza hsa => ?_)))))
  replace hza : IsZip ha z TI TO .ellipsis := hza
  refine wpAny_bind ?_
  simp only [List.zipIdx_cons, List.zipIdx_nil, List.forIn_cons, List.forIn_nil]
  refine wpAny_bind (wpAny_bind (wpAny_onRaise ?_))
  show wpAny _ _ (Builtin.SmallTypes.nextOf (.ref i1) >>= _) _ _ _
  cases hx : xs[i]? with
  | none =>
    refine wpAny_bind (end_sub hh (h1.move fun o e => hsa.extBut _ _ D.i1z e) (hl1.move fun o e => hsa.extBut _ _ o1.1 e) hx fun hb e hsb he => ?_)
    obtain ⟨oe, hoe, hce⟩ := he
    have hzb : IsZip hb z TI TO .ellipsis := hsb _ _ D.i1z.symm hza
    have hez : e ≠ z := fun q => by subst q; rw [hzb] at hoe; cases hoe; simp at hce
    exact wpAny_setField_rec hzb (by simp) fun hc _ hsc => hE hc e (fun c o c1 _ c3 _ q => hsc.extBut _ _ c1 (hsb _ _ c3 (hsa.extBut _ _ c1 q))) ⟨oe, hsc.extBut _ _ hez hoe, hce⟩
  | some x =>
    have hy : ys[i]? = none := by rcases hend with h | h; (rw [hx] at h; cases h); exact h
    refine wpAny_bind (next_sub (h1.move fun o e => hsa.extBut _ _ D.i1z e) (hl1.move fun o e => hsa.extBut _ _ o1.1 e) hx fun hb h1b hsb => wpAny_pure ?_)
    have tob : IsPair hb TO a b := hsb.extBut _ _ D.TOi1 (hsa.extBut _ _ D.TOz hTO)
    refine wpAny_bind (wpAny_seqItems tob rfl (wpAny_bind (wpAny_updateSeq_pair tob fun hc toc hsc => wpAny_bind (wpAny_letGo (wpAny_pure ?_)))))
    refine wpAny_bind (wpAny_bind (wpAny_onRaise ?_))
    show wpAny _ _ (Builtin.SmallTypes.nextOf (.ref i2) >>= _) _ _ _
    have mv : ∀ c o, c ≠ z → c ≠ TO → c ≠ i1 → s.heap.get? c = some o → hc.get? c = some o := fun c o n1 n2 n3 e => hsc.extBut _ _ n2 (hsb.extBut _ _ n3 (hsa.extBut _ _ n1 e))
    refine wpAny_bind (end_sub hh (h2.move fun o e => mv _ o D.i2z D.TOi2.symm D.i12.symm e) (hl2.move fun o e => mv _ o o2.1 o2.2.1 o2.2.2.1 e) hy fun hd e hsd he => ?_)
    obtain ⟨oe, hoe, hce⟩ := he
    have hzd : IsZip hd z TI TO .ellipsis := hsd _ _ D.i2z.symm (hsc.extBut _ _ D.TOz.symm (hsb.extBut _ _ D.i1z.symm hza))
    have hez : e ≠ z := fun q => by subst q; rw [hzd] at hoe; cases hoe; simp at hce
    exact wpAny_setField_rec hzd (by simp) fun hg' _ hsg => hE hg' e (fun c o c1 c2 c3 c4 q => hsg.extBut _ _ c1 (hsd _ _ c4 (mv c o c1 c2 c3 q))) ⟨oe, hsg.extBut _ _ hez hoe, hce⟩
theorem meets_zip2 (k1 k2 : Bool) (l1 l2 : Addr) (xs ys : Array Value) :
    Meets (Builtin.«zip.__new__» ⟨[.type "zip", .ref l1, .ref l2], []⟩) (fun _ R s => IsSeq k1 s.heap l1 xs ∧ IsSeq k2 s.heap l2 ys ∧
      R (.ok (.ret (.ref (s.heap.objs.size + 4)))) { s with heap := ((((s.heap.push (subObj k1 l1)).push (subObj k2 l2)).push { cls := .type "tuple", data := .seq #[.ref s.heap.objs.size, .ref (s.heap.objs.size + 1)] }).push { cls := .type "tuple", data := .seq #[.none, .none] }).push { cls := .type "zip", data := .fields #[.none, .bool false, .bool false, .ref (s.heap.objs.size + 2), .ref (s.heap.objs.size + 3)] } }) :=
  .of_wp fun prog w A R s h => by
    obtain ⟨hp, g, d, tk, os⟩ := s; obtain ⟨hl1, hl2, h⟩ := h
    have hsub := sub_zip
    have hL1 : IsSeq k1 (Shared.heap ⟨hp, g, d, tk, os⟩) l1 xs := hl1
    have hL2 : IsSeq k2 (Shared.heap ⟨hp.push (subObj k1 l1), g, d, tk, os⟩) l2 ys := hl2.move fun o e => Heap.get?_push_of_some _ e
    have z1 : ∀ (h : Heap) (o : Obj), (h.push o).objs.size = h.objs.size + 1 := fun h o => Heap.size_push ..
    simp only [z1] at h ⊢
    wp_walk using iter_sub hL1, iter_sub hL2
    exact ⟨_, rfl, by simp only [z1]; exact h⟩
theorem call_zip (hl1 : IsSeq k1 s.heap l1 xs) (hl2 : IsSeq k2 s.heap l2 ys) {Q : Value → Shared → Prop}
    (h : ∀ h', ZipSt k1 k2 (s.heap.objs.size + 4) (s.heap.objs.size + 2) (s.heap.objs.size + 3) s.heap.objs.size (s.heap.objs.size + 1) l1 l2 0 h' → (∀ c o, s.heap.get? c = some o → h'.get? c = some o) → Q (.ref (s.heap.objs.size + 4)) { s with heap := h' }) :
    wpAny (model prog w) A (call (.type "zip") [.ref l1, .ref l2]) Q E s := by
  refine callType_new F.called_zip (by decide) (F.typeCall_zip_2 _ _) (F.newCall_zip_2 _ _) (fun obj => F.args_object_init_3 obj _ _) F.entry_zip_new (meets_zip2 k1 k2 l1 l2 xs ys) ⟨hl1, hl2, ?_⟩
  have z1 : ∀ (h : Heap) (o : Obj), (h.push o).objs.size = h.objs.size + 1 := fun h o => Heap.size_push ..
  have pg : ∀ (h : Heap) (o : Obj) (n : Nat), o.isFreed = false → h.objs.size = n → (h.push o).get? n = some o := fun h o n hf e => by subst e; exact Heap.get?_push_size _ hf
  have up : ∀ (h : Heap) (o u : Obj) (n : Nat), h.get? n = some u → (h.push o).get? n = some u := fun h o u n e => Heap.get?_push_of_some _ e
  refine ⟨⟨_, pg _ _ _ rfl (by simp only [z1]), rfl⟩, h _ ⟨pg _ _ _ rfl (by simp only [z1]), up _ _ _ _ (up _ _ _ _ (pg _ _ _ rfl (by simp only [z1]))), ⟨.none, .none, up _ _ _ _ (pg _ _ _ rfl (by simp only [z1]))⟩, ?_, ?_⟩ fun c o e => up _ _ _ _ (up _ _ _ _ (up _ _ _ _ (up _ _ _ _ (up _ _ _ _ e))))⟩
  · exact IsSub.mk' (up _ _ _ _ (up _ _ _ _ (up _ _ _ _ (up _ _ _ _ (pg _ _ _ rfl rfl)))))
  · exact IsSub.mk' (up _ _ _ _ (up _ _ _ _ (up _ _ _ _ (pg _ _ _ rfl (by simp only [z1])))))
end
theorem apart_new (n : Nat) : Apart5 (n + 4) (n + 2) (n + 3) n (n + 1) := by
  constructor <;> (show (_ : Nat) ≠ _; omega)
def SqK (k : Bool) (K : PySem.W.Frag) (H : Hp) (a : Addr) (xs : List V) : Prop := if k = true then SqL K H a xs else SqT K H a xs
def Itz (K : PySem.W.Frag) (k1 k2 : Bool) (l1 l2 : Addr) : It :=
  ⟨fun i H => ∃ xs ys x y, SqK k1 K H l1 xs ∧ SqK k2 K H l2 ys ∧ xs[i]? = some x ∧ ys[i]? = some y,
   fun i H v H' => ∃ p x y, H p = none ∧ v = .ref p ∧ H' = upd H p (.tup [x, y]) ∧ (∀ xs, SqK k1 K H l1 xs → xs[i]? = some x) ∧ ∀ ys, SqK k2 K H l2 ys → ys[i]? = some y,
   fun i H => ∃ xs ys, SqK k1 K H l1 xs ∧ SqK k2 K H l2 ys ∧ (xs.length ≤ i ∨ ys.length ≤ i)⟩
section
variable {X : Cx} {pins : List (Addr × Obj)} {σ : St} {H : Hp} {s : Shared}
theorem _root_.L2.Inv.seqK (I : Inv X pins σ H s) {k : Bool} {a : Addr} {xs : List V} (h : SqK k X.K H a xs) : ∃ its : List Value, Vals xs its ∧ IsSeq k s.heap a its.toArray ∧ xs.length ≤ sizeLine := by
  cases k with
  | true => obtain ⟨its, r, p, z⟩ := I.list h; exact ⟨its, r, p.isList, z⟩
  | false => obtain ⟨its, r, p, z⟩ := I.tuple h; exact ⟨its, r, p, z⟩
theorem _root_.L2.Inv.seqK_inj (I : Inv X pins σ H s) {k : Bool} {a : Addr} {xs ys : List V} (h : SqK k X.K H a xs) (h' : SqK k X.K H a ys) : xs = ys := by
  cases k with
  | true => exact I.list_inj h h'
  | false => exact I.tuple_inj h h'
theorem off_rec (I : Inv X pins σ H s) {k : Bool} {l b : Addr} {xs : List V} (h : SqK k X.K H l xs) (hb : FpOk X pins H b) : l ≠ b := by
  rintro rfl
  have kk : ∀ o, X.K.lookup l = some o → False := fun o e => by
    have e1 := I.mod.kin l o e
    rcases hb.2.2.2.1 with z | z
    · exact I.ok.noex l o e1 z
    · exact absurd (Nat.lt_of_lt_of_le (Heap.lt_size e1) (Nat.le_trans I.ok.bsz z)) (Nat.lt_irrefl _)
  cases k with
  | true =>
    rcases (h : SqL X.K H l xs) with (h | ⟨o, h⟩) | ⟨o, its, n, h, _⟩
    · rw [hb.1] at h; cases h
    · rw [hb.1] at h; cases h
    · exact kk o h
  | false =>
    rcases (h : SqT X.K H l xs) with (h | ⟨o, h⟩) | ⟨o, its, n, h, _⟩
    · rw [hb.1] at h; cases h
    · rw [hb.1] at h; cases h
    · exact kk o h
end
theorem turn_zip {P : Program} {w : World} {K : PySem.W.Frag} {elts : List Expr} {kt : Nat} {pt : Pos} {k1 k2 : Bool} {z TI TO i1 i2 l1 l2 : Addr} (D : Apart5 z TI TO i1 i2) :
    Turn P w K (.Tuple elts kt pt) (Itz K k1 k2 l1 l2) [z, TI, TO, i1, i2] z (fun i h => ZipSt k1 k2 z TI TO i1 i2 l1 l2 i h) where
  mem := by simp
  obj := fun i h st b hb => by
    obtain ⟨hz, hTI, ⟨a, b', hTO⟩, h1, h2⟩ := st
    have hb' : b = z ∨ b = TI ∨ b = TO ∨ b = i1 ∨ b = i2 := by simpa using hb
    rcases hb' with rfl | rfl | rfl | rfl | rfl
    · exact ⟨_, hz, fun v q => by cases q⟩
    · exact ⟨_, hTI, fun v q => by cases q⟩
    · exact ⟨_, hTO, fun v q => by cases q⟩
    · exact h1.there
    · exact h2.there
  keep := fun i h h' st k => by
    obtain ⟨hz, hTI, ⟨a, b', hTO⟩, h1, h2⟩ := st
    exact ⟨k z (by simp) _ hz, k TI (by simp) _ hTI, ⟨a, b', k TO (by simp) _ hTO⟩, h1.move fun o e => k i1 (by simp) o e, h2.move fun o e => k i2 (by simp) o e⟩
  item := by
    intro X hP hw hK hc i pins s σ H E I hf st hg
    subst hP hw hK
    obtain ⟨xs, ys, x, y, q1, q2, hx, hy⟩ := hg
    obtain ⟨its, r1, p1, _⟩ := I.seqK q1
    obtain ⟨its2, r2, p2, _⟩ := I.seqK q2
    obtain ⟨u, hu, ru⟩ := r1.get hx
    obtain ⟨v, hv, rv⟩ := r2.get hy
    have off : ∀ {k : Bool} {l : Addr} {xs : List V}, SqK k X.K H l xs → Off l z TO i1 i2 := fun q => ⟨off_rec I q (hf z (by simp)), off_rec I q (hf TO (by simp)), off_rec I q (hf i1 (by simp)), off_rec I q (hf i2 (by simp))⟩
    have hT : s.TypeIs (.ref z) "zip" := ⟨_, st.z, rfl⟩
    unfold pyNext
    refine wpAny_bind (wpAny_attempt (wpAny_callSpecial?_slot (name := Str.ofString "__next__") hT F.slot_zip_next (wpAny_call_entry F.slot_zip_next hT F.entry_zip_next
      (zip_item D (off q1) (off q2) st p1 p2 (x := u) (y := v) (by simpa using hu) (by simpa using hv) fun h' a1 a2 a3 a4 a5 a6 => wpAny_pure ⟨_, rfl, ?_⟩) (F.args_zip_next_1 _))))
    refine wpAny_letOwnedTupleGo_zip a1 fun h2 z2 sb2 => ?_
    have hpn : H s.heap.objs.size = none := I.hok.fresh (Nat.le_refl _)
    have I0 : Inv X pins σ (upd H s.heap.objs.size (.tup [x, y])) { s with heap := s.heap.push { cls := .type "tuple", data := .seq #[u, v] } } :=
      I.laid (t' := s.toks) (o := .tup [x, y]) (fun b o e => Heap.get?_push_of_some _ e) (Nat.le_refl _) ⟨by show 2 ≤ sizeLine; decide, [u, v], .cons ru (.cons rv .nil), ⟨_, Heap.get?_push_size _ rfl, rfl, _, rfl⟩⟩
    have lt : ∀ b ∈ [z, TI, TO, i1, i2], b < s.heap.objs.size := fun b hb => by
      have : ∃ o, s.heap.get? b = some o := by
        obtain ⟨hz, hTI, ⟨a, b', hTO⟩, g1, g2⟩ := st
        have hb' : b = z ∨ b = TI ∨ b = TO ∨ b = i1 ∨ b = i2 := by simpa using hb
        rcases hb' with rfl | rfl | rfl | rfl | rfl
        · exact ⟨_, hz⟩
        · exact ⟨_, hTI⟩
        · exact ⟨_, hTO⟩
        · obtain ⟨o, e, _⟩ := g1.there; exact ⟨o, e⟩
        · obtain ⟨o, e, _⟩ := g2.there; exact ⟨o, e⟩
      obtain ⟨o, e⟩ := this
      exact Heap.lt_size e
    have fr : ∀ b ∈ [z, TI, TO, i1, i2], upd H s.heap.objs.size (.tup [x, y]) b = none := fun b hb => by rw [upd_ne (Nat.ne_of_lt (lt b hb))]; exact (hf b hb).1
    have zne : s.heap.objs.size ≠ z := Nat.ne_of_gt (lt z (by simp))
    have mv : ∀ b o, b ∉ [z, TI, TO, i1, i2] → (s.heap.push { cls := .type "tuple", data := .seq #[u, v] }).get? b = some o → h2.get? b = some o := fun b o hb e => by
      simp only [List.mem_cons, List.not_mem_nil, or_false, not_or] at hb
      refine sb2.extBut _ _ hb.1 ?_
      by_cases hbs : b = s.heap.objs.size
      · subst hbs
        rw [Heap.get?_push_size _ rfl] at e
        cases e
        exact a5
      · rw [Heap.get?_push_ne _ _ _ hbs] at e
        exact a6 b o hb.1 hb.2.2.1 hb.2.2.2.1 hb.2.2.2.2 e
    have I2 := I0.turnedL (h' := h2) (t' := s.toks) mv fun b hb => let ⟨_, c2, c3, c4, c5, c6⟩ := hf b hb; ⟨fr b hb, c2, c3, c4, c5, c6⟩
    refine ⟨.ref s.heap.objs.size, _, I2, rfl, ⟨s.heap.objs.size, x, y, hpn, rfl, rfl, fun zs hz => ?_, fun zs hz => ?_⟩, ⟨z2, ?_, ⟨u, v, ?_⟩, ?_, ?_⟩, fr⟩
    · rw [I.seqK_inj hz q1]; exact hx
    · rw [I.seqK_inj hz q2]; exact hy
    · exact sb2.extBut _ _ D.TIz (a6 TI _ D.TIz D.TITO D.TIi1 D.TIi2 st.ti)
    · exact sb2.extBut _ _ D.TOz a2
    · exact a3.move fun o e => sb2.extBut _ _ D.i1z e
    · exact a4.move fun o e => sb2.extBut _ _ D.i2z e
  done := by
    intro X hP hw hK hc i pins s σ H E I hf st hg
    subst hP hw hK
    obtain ⟨xs, ys, q1, q2, hx⟩ := hg
    obtain ⟨its, r1, p1, _⟩ := I.seqK q1
    obtain ⟨its2, r2, p2, _⟩ := I.seqK q2
    have off : ∀ {k : Bool} {l : Addr} {xs : List V}, SqK k X.K H l xs → Off l z TO i1 i2 := fun q => ⟨off_rec I q (hf z (by simp)), off_rec I q (hf TO (by simp)), off_rec I q (hf i1 (by simp)), off_rec I q (hf i2 (by simp))⟩
    have hT : s.TypeIs (.ref z) "zip" := ⟨_, st.z, rfl⟩
    have e1 := r1.length
    have e2 := r2.length
    unfold pyNext
    refine wpAny_bind (wpAny_attempt (wpAny_callSpecial?_slot (name := Str.ofString "__next__") hT F.slot_zip_next (wpAny_call_entry F.slot_zip_next hT F.entry_zip_next
      (zip_end (I.ok.hd hc) D (off q1) (off q2) st p1 p2 (by rcases hx with h | h; (exact .inl (by simp; omega)); exact .inr (by simp; omega)) fun h' e hk he => ?_) (F.args_zip_next_1 _))))
    obtain ⟨o, ho, hcl⟩ := he
    refine wpAny_bind (wpAny_isInstance (T := "StopIteration") (b := true) ⟨o, ho, hcl⟩ isSubtype_stop (wpAny_pure ⟨rfl, ?_⟩))
    refine I.turnedL (h' := h') (t' := s.toks) (fun b o hb e => ?_) hf
    simp only [List.mem_cons, List.not_mem_nil, or_false, not_or] at hb
    exact hk b o hb.1 hb.2.2.1 hb.2.2.2.1 hb.2.2.2.2 e
  self := fun _ _ _ _ _ st h => wpAny_pyIter_zip st.z h
end M
end L2
namespace L2
namespace M
open PySem PySem.Spec PyProof.Rows
structure Sr where
  k : Bool
  ds : List MV
  gs : List (Nat × List MV)
def srcOf (S : Sto) : Er → Option Sr
  | .val (.tup ds) => some ⟨false, ds, []⟩
  | .new ds => some ⟨true, ds, []⟩
  | .val (.scr ds) => some ⟨true, ds, []⟩
  | .val (.loc l) => match S[l]? with
    | some (.lst ds) => some ⟨true, ds, [(l, ds)]⟩
    | _ => none
  | _ => none
structure SrcD (X : Cx) (q : Sr) (l : Addr) (P : List Addr → Sto → Hp → Prop) : Prop where
  get : ∀ α S H, P α S H → ∃ vs, SqK q.k X.K H l vs ∧ DenL X.K α H q.ds vs
  stays : ∀ α1 S1 H1 α2 S2 H2, P α1 S1 H1 → Ext α1 H1 α2 H2 → Wd X.g α2 S2 H2 → stay q.gs S2 → P α2 S2 H2
  st : ∀ α S H, P α S H → stay q.gs S
theorem src_ok {X : Cx} {α : List Addr} {S : Sto} {H : Hp} (wd : Wd X.g α S H) {r : Er} {x : V} {q : Sr} (e : srcOf S r = some q) (d : DenX X.K α H r x) : ∃ l P, x = .ref l ∧ P α S H ∧ SrcD X q l P := by
  unfold srcOf at e
  split at e
  · rename_i ds
    cases e
    obtain ⟨a, vs, rfl, s, l⟩ := xe_tup d
    exact ⟨a, fun α S H => ∃ vs, SqT X.K H a vs ∧ DenL X.K α H ds vs, rfl, ⟨vs, s, l⟩, fun α S H h => h, fun α1 S1 H1 α2 S2 H2 ⟨vs, h1, h2⟩ x w _ => ⟨vs, x.sqT h1, h2.ext x⟩, fun _ _ _ _ => stay_nil⟩
  · rename_i ds
    cases e
    obtain ⟨b, vs, rfl, h, n, l⟩ := d
    exact ⟨b, fun α S H => ∃ vs, H b = some (.lst vs) ∧ b ∉ α ∧ DenL X.K α H ds vs, rfl, ⟨vs, h, n, l⟩, fun α S H ⟨vs, h1, _, h2⟩ => ⟨vs, (SqL.of h1 : SqL X.K H b vs), h2⟩,
      fun α1 S1 H1 α2 S2 H2 ⟨vs, h1, h2, h3⟩ x w _ => ⟨vs, x.keep b _ h1 h2, x.out h1 h2, h3.ext x⟩, fun _ _ _ _ => stay_nil⟩
  · rename_i ds
    cases e
    obtain ⟨a, vs, rfl, s, l⟩ := xe_scr d
    exact ⟨a, fun α S H => ∃ vs, SqF X.K H a vs ∧ DenL X.K α H ds vs, rfl, ⟨vs, s, l⟩, fun α S H ⟨vs, h1, h2⟩ => ⟨vs, h1.l, h2⟩, fun α1 S1 H1 α2 S2 H2 ⟨vs, h1, h2⟩ x w _ => ⟨vs, x.sqF h1, h2.ext x⟩, fun _ _ _ _ => stay_nil⟩
  · rename_i n
    split at e
    · rename_i ds hS
      cases e
      obtain ⟨a, rfl, h⟩ := xe_loc d
      obtain ⟨vs, h1, h2⟩ := wd.obj n a _ h hS
      refine ⟨a, fun α S H => ∃ vs, H a = some (.lst vs) ∧ DenL X.K α H ds vs ∧ α[n]? = some a ∧ S[n]? = some (.lst ds), rfl, ⟨vs, h1, h2, h, hS⟩, fun α S H ⟨vs, h1, h2, _⟩ => ⟨vs, (SqL.of h1 : SqL X.K H a vs), h2⟩, ?_, ?_⟩
      · intro α1 S1 H1 α2 S2 H2 ⟨vs, a1, a2, a3, a4⟩ x w hs
        have hs' := hs (n, ds) (by simp)
        obtain ⟨us, b1, b2⟩ := w.obj n a _ (x.at a3) hs'
        exact ⟨us, b1, b2, x.at a3, hs'⟩
      · intro α S H ⟨vs, _, _, _, a4⟩ p hp
        have : p = (n, ds) := by simpa using hp
        subst this
        exact a4
    · cases e
  · cases e
def iZip (K : PySem.W.Frag) (ta : TA) : TI := fun σ H R => ta σ H fun vs H1 => ∃ k1 k2 l1 l2, vs = [.ref l1, .ref l2] ∧ (∃ xs, SqK k1 K H1 l1 xs) ∧ (∃ ys, SqK k2 K H1 l2 ys) ∧ R (Itz K k1 k2 l1 l2) H1
section
variable {X : Cx} {W : XW} {a b : Expr} {elts : List Expr} {kt : Nat} {pt p pos : Pos} {ta : TA} {af : Rho → Sto → R (List Er)}
theorem bt_zip : bootBuiltins "zip" = some (.type "zip") := by decide +kernel
theorem pi_zip (hg : Gl X "zip") (hm : X.mg "zip" = none) (ha : PA X [a, b] ta) (hs : starEach [a, b] X.env = [(false, eval a X.env), (false, eval b X.env)] := by rfl) (hs2 : starEach [b] X.env = [(false, eval b X.env)] := by rfl) :
    PI X (.Tuple elts kt pt) (.Call (.Name "zip" p) [a, b] [] pos) (iZip X.K ta) := by
  intro pins s σ H R I h
  refine Call_ (ld_blt I hg hm bt_zip (PyProof.Rows.callWith_type1 (thn (ha pos pins s σ H _ I h) fun us s1 ⟨vs, H1, I1, r1, q1⟩ => ?_) (by rw [hs, hs2]) (by rw [hs2]; rfl)))
  obtain ⟨k1, k2, l1, l2, rfl, ⟨xs, c1⟩, ⟨ys, c2⟩, q⟩ := q1
  cases r1 with
  | cons r rr =>
    cases rr with
    | cons r' rr =>
      cases rr
      cases r
      cases r'
      obtain ⟨its, v1, p1, _⟩ := I1.seqK c1
      obtain ⟨its2, v2, p2, _⟩ := I1.seqK c2
      refine call_zip p1 p2 fun h' st hk => wpAny_pyIter_zip st.z ?_
      have I2 : Inv X pins σ H1 { s1 with heap := h' } := I1.kept (t' := s1.toks) hk
      refine ⟨_, _, _, _, H1, rfl, I2, turn_zip (apart_new _), st, fun b hb => ?_, q⟩
      have hle : s1.heap.objs.size ≤ b := by
        have hb' : b = s1.heap.objs.size + 4 ∨ b = s1.heap.objs.size + 2 ∨ b = s1.heap.objs.size + 3 ∨ b = s1.heap.objs.size ∨ b = s1.heap.objs.size + 1 := by simpa using hb
        rcases hb' with h | h | h | h | h <;> rw [h] <;> (first | exact Nat.le_refl _ | exact Nat.le_add_right _ _)
      exact I1.fpOk hle (I1.hok.fresh hle)
def pairs (xs ys : List MV) : List MV := List.zipWith (fun x y => .tup [x, y]) xs ys
def itZ (rs : List Er) (S : Sto) : R Wk := match rs with
  | [p, q] => match srcOf S p with
    | some a => match srcOf S q with
      | some b => .ok ⟨pairs a.ds b.ds, a.gs ++ b.gs⟩ S
      | none => .no
    | none => .no
  | _ => .no
theorem im_zip (hg : Gl X "zip") (hm : X.mg "zip" = none) (ha : PAm X W [a, b] af) (hs : starEach [a, b] X.env = [(false, eval a X.env), (false, eval b X.env)] := by rfl) (hs2 : starEach [b] X.env = [(false, eval b X.env)] := by rfl) :
    PIm X W (.Tuple elts kt pt) (.Call (.Name "zip" p) [a, b] [] pos) (fun ρ S => (af ρ S).bind itZ) := by
  obtain ⟨t, ha, k⟩ := ha
  refine ⟨_, pi_zip hg hm ha hs hs2, fun α ρ S σ H Rc wd sl q => k α ρ S σ H _ wd sl (q.bind fun vs rs S1 α1 H1 e x1 w1 d1 q1 => ?_)⟩
  replace q1 := q1.shift x1
  unfold itZ at q1
  split at q1
  · rename_i r1 r2
    split at q1
    · rename_i s1 e1
      split at q1
      · rename_i s2 e2
        obtain ⟨u, v, rfl, du, dv⟩ := args2 d1
        obtain ⟨l1, P1, rfl, p1, D1⟩ := src_ok w1 e1 du
        obtain ⟨l2, P2, rfl, p2, D2⟩ := src_ok w1 e2 dv
        have g1 := D1.get _ _ _ p1
        have g2 := D2.get _ _ _ p2
        refine ⟨s1.k, s2.k, l1, l2, rfl, ⟨_, g1.choose_spec.1⟩, ⟨_, g2.choose_spec.1⟩, q1.here (u := Itz X.K s1.k s2.k l1 l2) w1 ⟨fun α S H => P1 α S H ∧ P2 α S H, ?_, ⟨p1, p2⟩, ?_, ?_⟩⟩
        · intro i α2 S2 H2 ⟨b1, b2⟩ w2
          obtain ⟨us, c1, c2⟩ := D1.get _ _ _ b1
          obtain ⟨ws, c3, c4⟩ := D2.get _ _ _ b2
          have hl : (pairs s1.ds s2.ds).length = min us.length ws.length := by unfold pairs; rw [List.length_zipWith, c2.length, c4.length]
          refine ⟨fun hi => ?_, fun hi => ?_⟩
          · have hi : i < (pairs s1.ds s2.ds).length := hi
            have h1 : i < us.length := by omega
            have h2 : i < ws.length := by omega
            refine ⟨⟨us, ws, us[i], ws[i], c1, c3, List.getElem?_eq_getElem h1, List.getElem?_eq_getElem h2⟩, ?_⟩
            rintro x H' ⟨pp, xx, yy, hp, rfl, rfl, hx, hy⟩
            obtain ⟨d, hd, dd⟩ := c2.get (hx us c1)
            obtain ⟨f, hf, df⟩ := c4.get (hy ws c3)
            have xn := w2.newx (o := .tup [xx, yy]) hp
            have wn := w2.new (o := .tup [xx, yy]) hp
            refine ⟨xn, wn, ⟨D1.stays _ _ _ _ _ _ b1 xn wn (D1.st _ _ _ b1), D2.stays _ _ _ _ _ _ b2 xn wn (D2.st _ _ _ b2)⟩, .tup [d, f], ?_, ?_⟩
            · unfold pairs; rw [List.getElem?_zipWith, hd, hf]
            · exact den_tup (.of upd_same) (denl_cons (dd.ext xn) (denl_cons (df.ext xn) denl_nil))
          · have hi : (pairs s1.ds s2.ds).length ≤ i := hi
            refine ⟨us, ws, c1, c3, ?_⟩
            by_cases h1 : us.length ≤ i
            · exact .inl h1
            · exact .inr (by omega)
        · intro α1 S1 H1 α2 S2 H2 ⟨b1, b2⟩ x w hs
          exact ⟨D1.stays _ _ _ _ _ _ b1 x w fun p hp => hs p (List.mem_append_left _ hp), D2.stays _ _ _ _ _ _ b2 x w fun p hp => hs p (List.mem_append_right _ hp)⟩
        · intro p hp
          rcases List.mem_append.mp hp with h | h
          · exact D1.st _ _ _ p1 p h
          · exact D2.st _ _ _ p2 p h
      · exact q1.elim
    · exact q1.elim
  · exact q1.elim
end
end M
end L2
namespace L2
namespace M
open PySem PySem.Spec PyProof.Rows
def spLaw (K : PySem.W.Frag) (F : List MV → Sto → R Er) : Sp := fun vs H Q _ => ∃ ds, DenL K [] H ds vs ∧ ds.length = 1 ∧ ∀ g : Gm, g.K = K → Post g W0 [] H (F ds []) Q
theorem spLaw_of {g : Gm} {F : List MV → Sto → R Er} : ∀ vs H Q E, spLaw g.K F vs H Q E → spM g 1 F vs H Q E := fun vs H Q E ⟨ds, l, hl, q⟩ => ⟨[], [], ds, ⟨rfl, by simp, fun l a o h => by simp at h⟩, l, hl, q g rfl⟩
theorem sqF_of {K : PySem.W.Frag} {H : Hp} {a : Addr} {xs : List V} (hO : Only H) (h : SqL K H a xs) : SqF K H a xs := by
  rcases h with (h | ⟨o, h⟩) | h
  · rcases hO a with z | ⟨o, ys, z⟩
    · rw [z] at h; cases h
    · rw [z] at h; cases h
  · exact .inl ⟨o, h⟩
  · exact .inr h
theorem law_head {K : PySem.W.Frag} {F : List MV → Sto → R Er} {H : Hp} {a : Addr} {ns : List Int} (hO : Only H) (hS : SqL K H a (ns.map V.int)) (h : ∃ S, F [.scr (ns.map MV.int)] [] = .ok (.val (.bl true)) S) : spLaw K F [.ref a] H (fun v _ => v = .bl true) fun _ _ _ => False := by
  obtain ⟨S, h⟩ := h
  refine ⟨_, denl_cons (den_scr (sqF_of hO hS) (denl_ints ns)) denl_nil, rfl, fun g _ => ?_⟩
  rw [h]
  exact fun v α' H' x w d => xe_bl d.1
theorem bok {β γ : Type} (b : β) (S : Sto) (k : β → Sto → R γ) : (R.ok b S).bind k = k b S := by
  have h := R.bind_ok b S k
  exact Eq.trans h rfl
theorem rd_some (d : MV) (S : Sto) : rdSl (some (some d)) S = .ok (.val d) S := rfl
theorem cut_refl {S T : Sto} : cutOk S (S ++ T) := ⟨by rw [List.length_append]; omega, fun l hl => .inl (List.getElem?_append_left hl)⟩
theorem lo_int (n : Nat) (i : Int) : lo n (.int i) := by unfold lo; trivial
theorem lo_str (n : Nat) (i : List Nat) : lo n (.str i) := by unfold lo; trivial
theorem lo_bl (n : Nat) (i : Bool) : lo n (.bl i) := by unfold lo; trivial
theorem lo_tup {n : Nat} {ds : List MV} (h : loL n ds) : lo n (.tup ds) := by unfold lo; exact h
theorem loL_of {n : Nat} : ∀ {ds : List MV}, (∀ d ∈ ds, lo n d) → loL n ds
  | [], _ => by unfold loL; trivial
  | d :: ds, h => by unfold loL; exact ⟨h d List.mem_cons_self, loL_of fun e he => h e (List.mem_cons_of_mem _ he)⟩
theorem trim_val {S T : Sto} {d : MV} (h : lo S.length d) (hn : ∀ l, d ≠ .loc l) : trimF S (.val d) (S ++ T) = .ok (.val d) S := by
  unfold trimF
  rw [if_pos cut_refl]
  have e : (S ++ T).take S.length = S := by simp
  cases d with
  | loc l => exact absurd rfl (hn l)
  | _ => dsimp only; rw [if_pos h, e]
theorem trim_new {S T : Sto} {ds : List MV} (h : loL S.length ds) : trimF S (.new ds) (S ++ T) = .ok (.new ds) S := by
  unfold trimF
  rw [if_pos cut_refl]
  have e : (S ++ T).take S.length = S := by simp
  dsimp only
  rw [if_pos h, e]
theorem trim_loc {S T : Sto} {l : Nat} {ds : List MV} (hl : S.length ≤ l) (hS : (S ++ T)[l]? = some (.lst ds)) (h : loL S.length ds) : trimF S (.val (.loc l)) (S ++ T) = .ok (.new ds) S := by
  unfold trimF
  rw [if_pos cut_refl]
  have e : (S ++ T).take S.length = S := by simp
  dsimp only
  rw [if_neg (by omega), hS]
  dsimp only
  rw [if_pos h, e]
theorem call_val {n : Nat} {F : List MV → Sto → R Er} {rs : List Er} {S T : Sto} {d : MV} (hn : rs.length = n) (hF : F (enterA rs S).1 (enterA rs S).2 = .ok (.val d) (S ++ T)) (h : lo S.length d) (hd : ∀ l, d ≠ .loc l) : callF n F rs S = .ok (.val d) S := by
  unfold callF
  rw [if_pos hn, hF]
  exact trim_val h hd
theorem call_new {n : Nat} {F : List MV → Sto → R Er} {rs : List Er} {S T : Sto} {ds : List MV} (hn : rs.length = n) (hF : F (enterA rs S).1 (enterA rs S).2 = .ok (.new ds) (S ++ T)) (h : loL S.length ds) : callF n F rs S = .ok (.new ds) S := by
  unfold callF
  rw [if_pos hn, hF]
  exact trim_new h
theorem call_loc {n : Nat} {F : List MV → Sto → R Er} {rs : List Er} {S T : Sto} {l : Nat} {ds : List MV} (hn : rs.length = n) (hF : F (enterA rs S).1 (enterA rs S).2 = .ok (.val (.loc l)) (S ++ T)) (hl : S.length ≤ l) (hS : (S ++ T)[l]? = some (.lst ds)) (h : loL S.length ds) : callF n F rs S = .ok (.new ds) S := by
  unfold callF
  rw [if_pos hn, hF]
  exact trim_loc hl hS h
theorem call_pure {n : Nat} {F : List MV → Sto → R Er} {rs : List Er} {S : Sto} {d : MV} (hn : rs.length = n) (hF : F (enterA rs S).1 (enterA rs S).2 = .ok (.val d) S) (h : lo S.length d) (hd : ∀ l, d ≠ .loc l) : callF n F rs S = .ok (.val d) S := call_val (T := []) hn (by rw [List.append_nil]; exact hF) h hd
theorem for_from {gf : MV → Rho → Sto → R Rho} {body : Rho → Sto → R Fl} {gs : List (Nat × List MV)} {L : List MV} (I : Nat → Rho → Sto → Prop)
    (st : ∀ i d, L[i]? = some d → ∀ ρ S, I i ρ S → ∃ ρ' S', ((gf d ρ S).bind fun ρ0 S0 => body ρ0 S0) = .ok (.next ρ') S' ∧ stay gs S' ∧ I (i + 1) ρ' S') :
    ∀ (n i : Nat) {ρ : Rho} {S : Sto}, n + i = L.length → I i ρ S → ∃ ρ' S', forF gf body gs (L.drop i) ρ S = .ok (.next ρ') S' ∧ I L.length ρ' S'
  | 0, i, ρ, S, hn, h => by
    have e : i = L.length := by omega
    subst e
    rw [List.drop_length]
    exact ⟨ρ, S, rfl, h⟩
  | n + 1, i, ρ, S, hn, h => by
    have hi : i < L.length := by omega
    obtain ⟨ρ1, S1, e, hs, h1⟩ := st i L[i] (List.getElem?_eq_getElem hi) ρ S h
    obtain ⟨ρ2, S2, e2, h2⟩ := for_from I st n (i + 1) (by omega) h1
    refine ⟨ρ2, S2, ?_, h2⟩
    rw [List.drop_eq_getElem_cons hi]
    unfold forF
    cases z : gf L[i] ρ S with
    | ok ρ0 S0 =>
      rw [z] at e
      have e : body ρ0 S0 = .ok (.next ρ1) S1 := e
      rw [bok]
      show (body ρ0 S0).bind _ = _
      rw [e, bok]
      dsimp only
      rw [if_pos hs]
      exact e2
    | exc c fs S0 => rw [z] at e; cases e
    | no => rw [z] at e; cases e
theorem for_ix {gf : MV → Rho → Sto → R Rho} {body : Rho → Sto → R Fl} {gs : List (Nat × List MV)} {L : List MV} (I : Nat → Rho → Sto → Prop)
    (st : ∀ i d, L[i]? = some d → ∀ ρ S, I i ρ S → ∃ ρ' S', ((gf d ρ S).bind fun ρ0 S0 => body ρ0 S0) = .ok (.next ρ') S' ∧ stay gs S' ∧ I (i + 1) ρ' S') {ρ : Rho} {S : Sto} (h : I 0 ρ S) :
    ∃ ρ' S', forF gf body gs L ρ S = .ok (.next ρ') S' ∧ I L.length ρ' S' := for_from I st L.length 0 (by omega) h
end M
end L2
namespace L2
namespace M
open PySem PySem.Spec PyProof.Rows
section
variable {S : Sto}
theorem as_bl (b : Bool) (S : Sto) : asB (.val (.bl b)) S = .ok b S := rfl
theorem as_int (i : Int) (S : Sto) : asI (.val (.int i)) S = .ok (some i) S := rfl
theorem tru_bl (b : Bool) (S : Sto) : truF (.val (.bl b)) S = .ok b S := rfl
theorem add_int (i j : Int) (S : Sto) : addF (.val (.int i)) (.val (.int j)) S = .ok (.val (.int (i + j))) S := rfl
theorem sub_int (i j : Int) (S : Sto) : subF (.val (.int i)) (.val (.int j)) S = .ok (.val (.int (i - j))) S := rfl
theorem add_str {x y : List Nat} (h : x.length + y.length ≤ sizeLine) : addF (.val (.str x)) (.val (.str y)) S = .ok (.val (.str (x ++ y))) S := if_pos h
theorem add_ls {p q : Er} {x y : List MV} (h1 : lsW S p = some x) (h2 : lsW S q = some y) (h : x.length + y.length ≤ sizeLine) : addF p q S = .ok (.new (x ++ y)) S := by
  have e : catLF p q S = .ok (.new (x ++ y)) S := by
    unfold catLF
    rw [h1, h2]
    exact if_pos h
  unfold addF
  split
  · cases h1
  · cases h1
  · cases h1
  · exact e
theorem ib_int {g : Int → Int → Bool} (i j : Int) (S : Sto) : ibF g (.val (.int i)) (.val (.int j)) S = .ok (.val (.bl (g i j))) S := rfl
theorem eqV_int (i j : Int) : eqV (.int i) (.int j) = decide (i = j) := by
  show (i == j) = _
  by_cases h : i = j
  · subst h; simp
  · rw [decide_eq_false h]; simpa using h
theorem eqV_str (x y : List Nat) : eqV (.str (mkS x)) (.str (mkS y)) = decide (x = y) := by
  show (mkS x == mkS y) = _
  by_cases h : x = y
  · subst h; simp
  · rw [decide_eq_false h]
    have : mkS x ≠ mkS y := fun z => h (mkS_inj z)
    simpa using this
theorem eqv_int (n : Nat) (i j : Int) : eqv S (n + 1) (.int i) (.int j) = some (decide (i = j)) := by rw [← eqV_int]; rfl
theorem eqv_str (n : Nat) (x y : List Nat) : eqv S (n + 1) (.str x) (.str y) = some (decide (x = y)) := by rw [← eqV_str]; rfl
theorem eqv_is (n : Nat) (x : Int) (y : List Nat) : eqv S (n + 1) (.int x) (.str y) = some false := rfl
theorem eqv_si (n : Nat) (x : List Nat) (y : Int) : eqv S (n + 1) (.str x) (.int y) = some false := rfl
theorem eqv_bl (n : Nat) (x y : Bool) : eqv S (n + 1) (.bl x) (.bl y) = some (x == y) := rfl
theorem eqF_val (d f : MV) : eqF (.val d) (.val f) S = match eqv S (depthE + 1) d f with | some k => .ok (.val (.bl k)) S | none => .no := rfl
theorem neF_val (d f : MV) : neF (.val d) (.val f) S = match eqv S (depthE + 1) d f with | some k => .ok (.val (.bl !k)) S | none => .no := rfl
theorem eq_val {d f : MV} {k : Bool} (h : eqv S (depthE + 1) d f = some k) : eqF (.val d) (.val f) S = .ok (.val (.bl k)) S := by rw [eqF_val, h]
theorem ne_val {d f : MV} {k : Bool} (h : eqv S (depthE + 1) d f = some k) : neF (.val d) (.val f) S = .ok (.val (.bl !k)) S := by rw [neF_val, h]
theorem eq_int (i j : Int) (S : Sto) : eqF (.val (.int i)) (.val (.int j)) S = .ok (.val (.bl (decide (i = j)))) S := eq_val (eqv_int _ i j)
theorem eq_str (x y : List Nat) (S : Sto) : eqF (.val (.str x)) (.val (.str y)) S = .ok (.val (.bl (decide (x = y)))) S := eq_val (eqv_str _ x y)
theorem ne_bl (x y : Bool) (S : Sto) : neF (.val (.bl x)) (.val (.bl y)) S = .ok (.val (.bl (!(x == y)))) S := ne_val (eqv_bl _ x y)
theorem lt_int (i j : Int) (S : Sto) : ltF (.val (.int i)) (.val (.int j)) S = .ok (.val (.bl (decide (i < j)))) S := rfl
theorem lt_str (i j : List Nat) (S : Sto) : ltF (.val (.str i)) (.val (.str j)) S = .ok (.val (.bl (decide (i < j)))) S := rfl
theorem div_lit {b : Int} (h : 0 < b) (h2 : b < 1073741824) (a : Int) (S : Sto) : divF (.val (.int a)) (.val (.int b)) S = .ok (.val (.int (a / b))) S := by
  refine if_pos ⟨h, ?_⟩
  have h3 : b.natAbs < 2 ^ 30 := by omega
  have := (Nat.log2_lt (by omega : b.natAbs ≠ 0)).mpr h3
  omega
theorem mod_lit {b : Int} (h : 0 < b) (a : Int) (S : Sto) : modF (.val (.int a)) (.val (.int b)) S = .ok (.val (.int (a % b))) S := if_pos h
theorem mul_lit {b : Int} (h : -(2 ^ 64) < b ∧ b < 2 ^ 64) (a : Int) (S : Sto) : mulF (.val (.int a)) (.val (.int b)) S = .ok (.val (.int (a * b))) S := if_pos (Or.inr (Or.inl h))
theorem mul_litL {a : Int} (h : -(2 ^ 64) < a ∧ a < 2 ^ 64) (b : Int) (S : Sto) : mulF (.val (.int a)) (.val (.int b)) S = .ok (.val (.int (a * b))) S := if_pos (Or.inl h)
theorem pow_lit {a b : Int} (h : powC a b) (S : Sto) : powF (.val (.int a)) (.val (.int b)) S = .ok (.val (.int (a ^ b.toNat))) S := if_pos h
theorem set_val (ρ : Rho) (i : Nat) (d : MV) (S : Sto) : setF ρ i (.val d) S = .ok (.next (ρ.set i (some d))) S := rfl
theorem set_new (ρ : Rho) (i : Nat) (ds : List MV) (S : Sto) : setF ρ i (.new ds) S = .ok (.next (ρ.set i (some (.loc S.length)))) (S ++ [.lst ds]) := rfl
theorem ent_nil (S : Sto) : enterA [] S = ([], S) := rfl
theorem ent_val (d : MV) (rs : List Er) (S : Sto) : enterA (.val d :: rs) S = (d :: (enterA rs S).1, (enterA rs S).2) := rfl
theorem seq_next {F G : Rho → Sto → R Fl} {ρ ρ' : Rho} {S S' : Sto} (h : F ρ S = .ok (.next ρ') S') : seqF F G ρ S = G ρ' S' := by unfold seqF; rw [h]; rfl
theorem seq_ret {F G : Rho → Sto → R Fl} {ρ : Rho} {S S' : Sto} {r : Er} (h : F ρ S = .ok (.ret r) S') : seqF F G ρ S = .ok (.ret r) S' := by unfold seqF; rw [h]; rfl
theorem stay0 (S : Sto) : stay [] S := stay_nil
theorem for_next {gf : MV → Rho → Sto → R Rho} {b : Rho → Sto → R Fl} {gs : List (Nat × List MV)} {d : MV} {ds : List MV} {ρ ρ0 ρ' : Rho} {S0 S' : Sto} (hg : gf d ρ S = .ok ρ0 S0) (h : b ρ0 S0 = .ok (.next ρ') S') (hs : stay gs S') : forF gf b gs (d :: ds) ρ S = forF gf b gs ds ρ' S' := by
  conv => lhs; unfold forF
  rw [hg, bok, h, bok]
  dsimp only
  rw [if_pos hs]
theorem for_ret {gf : MV → Rho → Sto → R Rho} {b : Rho → Sto → R Fl} {gs : List (Nat × List MV)} {d : MV} {ds : List MV} {ρ ρ0 : Rho} {S0 S' : Sto} {r : Er} (hg : gf d ρ S = .ok ρ0 S0) (h : b ρ0 S0 = .ok (.ret r) S') : forF gf b gs (d :: ds) ρ S = .ok (.ret r) S' := by
  conv => lhs; unfold forF
  rw [hg, bok, h, bok]
theorem atI_pos {α : Type} {xs : List α} {i : Int} (h0 : 0 ≤ i) (h1 : i < xs.length) : ∃ c, atI xs i = some c := by
  refine ⟨xs[i.toNat]'(by omega), ?_⟩
  unfold atI ixN
  rw [if_pos h0, if_pos h1]
  exact List.getElem?_eq_getElem _
theorem atI_all {α : Type} {P : α → Prop} {xs : List α} {i : Int} {e : α} (h : ∀ e ∈ xs, P e) (z : atI xs i = some e) : P e := by
  unfold atI at z
  cases q : ixN xs.length i with
  | none => rw [q] at z; cases z
  | some j => rw [q] at z; exact h e (List.mem_of_getElem? (show xs[j]? = some e from z))
theorem ix_str {x : List Nat} {i : Int} {c : Nat} (h : x.length ≤ sizeLine) (hk : atI x i = some c) : ixF (.val (.str x)) (.val (.int i)) S = .ok (.val (.str [c])) S := by
  show (if x.length ≤ sizeLine then match atI x i with | some c => R.ok (Er.val (.str [c])) S | none => .no else .no) = _
  rw [if_pos h, hk]
theorem ix_new {ds : List MV} {i : Int} {d : MV} (hk : atI ds i = some d) : ixF (.new ds) (.val (.int i)) S = .ok (.val d) S := by
  show (match atI ds i with | some d => R.ok (Er.val d) S | none => .no) = _
  rw [hk]
theorem ix_loc {l : Nat} {ds : List MV} {i : Int} {d : MV} (hS : S[l]? = some (.lst ds)) (hk : atI ds i = some d) : ixF (.val (.loc l)) (.val (.int i)) S = .ok (.val d) S := by
  have e : lsOf S (.val (.loc l)) = some ds := by unfold lsOf; dsimp only; rw [hS]
  show (match lsOf S (.val (.loc l)) with | some ds => getL ds (.val (.int i)) S | none => .no) = _
  rw [e]
  show (match atI ds i with | some d => R.ok (Er.val d) S | none => .no) = _
  rw [hk]
theorem len_loc {l : Nat} {ds : List MV} (hS : S[l]? = some (.lst ds)) : lenF [.val (.loc l)] S = .ok (.val (.int ds.length)) S := by
  have e : lsOf S (.val (.loc l)) = some ds := by unfold lsOf; dsimp only; rw [hS]
  have e2 : itemsOf S (.val (.loc l)) = some ds := by unfold itemsOf; exact e
  show (match itemsOf S (.val (.loc l)) with | some ds => R.ok (Er.val (.int ds.length)) S | none => .no) = _
  rw [e2]
theorem lsOf_loc {l : Nat} {ds : List MV} (hS : S[l]? = some (.lst ds)) : lsOf S (.val (.loc l)) = some ds := by unfold lsOf; dsimp only; rw [hS]
theorem lsW_loc {l : Nat} {ds : List MV} (hS : S[l]? = some (.lst ds)) : lsW S (.val (.loc l)) = some ds := by unfold lsW; dsimp only; rw [hS]
theorem itL_loc {l : Nat} {ds : List MV} (hS : S[l]? = some (.lst ds)) : itL (.val (.loc l)) S = .ok ⟨ds, [(l, ds)]⟩ S := by unfold itL; dsimp only; rw [hS]
theorem rng_ok {j : Int} (h : -(2 ^ 62) ≤ j ∧ j < 2 ^ 62) : rng1F [.val (.int j)] S = .ok ⟨(List.range j.toNat).map fun k => .int (k : Nat), []⟩ S := if_pos h
theorem cut_str {x : List Nat} (h : x.length ≤ sizeLine) (lo hi : Option Int) : cutF (.val (.str x)) lo hi S = .ok (.val (.str (cutL x lo hi))) S := if_pos h
theorem cutL_mem {α : Type} {x : List α} {lo hi : Option Int} {a : α} (h : a ∈ cutL x lo hi) : a ∈ x := List.mem_of_mem_drop (List.mem_of_mem_take h)
theorem cutL_to {α : Type} (x : List α) (k : Int) (h0 : 0 ≤ k) : cutL x none (some k) = x.take k.toNat := by
  unfold cutL
  have h1 : HT.sIx x.length 0 none = 0 := rfl
  rw [h1]
  have h2 : HT.sIx x.length x.length (some k) = min k.toNat x.length := by
    unfold HT.sIx
    simp only
    split <;> omega
  rw [h2, List.drop_zero, Nat.sub_zero]
  by_cases hk : k.toNat ≤ x.length
  · rw [Nat.min_eq_left hk]
  · rw [Nat.min_eq_right (by omega), List.take_length, List.take_of_length_le (by omega)]
theorem fits {n : Nat} (h : n ≤ 1000000) : n ≤ sizeLine := by rw [sizeLine_eq]; exact Nat.le_trans h (by decide)
theorem lst_ok {rs : List Er} (h : rs.length ≤ 1000000) : lstF rs S = .ok (.new (enterA rs S).1) (enterA rs S).2 := if_pos (fits h)
theorem tup_ok {rs : List Er} (h : rs.length ≤ 1000000) : tupF rs S = .ok (.val (.tup (enterA rs S).1)) (enterA rs S).2 := if_pos (fits h)
theorem lst0 (S : Sto) : lstF [] S = .ok (.new []) S := lst_ok (by simp)
theorem lst1 (a : MV) (S : Sto) : lstF [.val a] S = .ok (.new [a]) S := lst_ok (by simp)
theorem lst2 (a b : MV) (S : Sto) : lstF [.val a, .val b] S = .ok (.new [a, b]) S := lst_ok (by simp)
theorem lst3 (a b c : MV) (S : Sto) : lstF [.val a, .val b, .val c] S = .ok (.new [a, b, c]) S := lst_ok (by simp)
theorem lst6 (a b c d e f : MV) (S : Sto) : lstF [.val a, .val b, .val c, .val d, .val e, .val f] S = .ok (.new [a, b, c, d, e, f]) S := lst_ok (by simp)
theorem tup2 (a b : MV) (S : Sto) : tupF [.val a, .val b] S = .ok (.val (.tup [a, b])) S := tup_ok (by simp)
theorem tup3 (a b c : MV) (S : Sto) : tupF [.val a, .val b, .val c] S = .ok (.val (.tup [a, b, c])) S := tup_ok (by simp)
theorem isi_is (i : Int) (S : Sto) : isiF [.val (.int i), .val (.typ "str")] S = .ok (.val (.bl false)) S := rfl
theorem isi_ss (i : List Nat) (S : Sto) : isiF [.val (.str i), .val (.typ "str")] S = .ok (.val (.bl true)) S := rfl
theorem isi_it (i : Int) (S : Sto) : isiF [.val (.int i), .val (.typ "tuple")] S = .ok (.val (.bl false)) S := rfl
theorem isi_st (i : List Nat) (S : Sto) : isiF [.val (.str i), .val (.typ "tuple")] S = .ok (.val (.bl false)) S := rfl
theorem isi_tt (i : List MV) (S : Sto) : isiF [.val (.tup i), .val (.typ "tuple")] S = .ok (.val (.bl true)) S := rfl
theorem isi_bb (i : Bool) (S : Sto) : isiF [.val (.bl i), .val (.typ "bool")] S = .ok (.val (.bl true)) S := rfl
theorem comp_all {gf : MV → Rho → Sto → R Rho} {cf : Rho → Sto → R Bool} {ef : Rho → Sto → R Er} {ρb : Rho} {gs : List (Nat × List MV)} {P : MV → Prop} (hs : stay gs S) :
    ∀ {ds : List MV}, (∀ d ∈ ds, ∃ ρ1 y, gf d ρb S = .ok ρ1 S ∧ cf ρ1 S = .ok true S ∧ ef ρ1 S = .ok (.val y) S ∧ P y) → ∃ out, compF gf cf ef ρb gs ds S = .ok out S ∧ out.length = ds.length ∧ ∀ o ∈ out, P o
  | [], _ => ⟨[], rfl, rfl, fun o h => by simp at h⟩
  | d :: ds, st => by
    obtain ⟨ρ1, y, h1, h2, h3, h4⟩ := st d List.mem_cons_self
    obtain ⟨out, e, hl, hp⟩ := comp_all hs (ds := ds) fun d hd => st d (List.mem_cons_of_mem _ hd)
    refine ⟨y :: out, ?_, by rw [List.length_cons, List.length_cons, hl], fun o ho => (List.mem_cons.mp ho).elim (fun z => z ▸ h4) (hp o)⟩
    unfold compF
    rw [h1, noX_ok, bok, h2, noX_ok, bok, if_pos rfl, h3, noX_ok, bok]
    unfold enter1
    rw [bok, if_pos hs, e]
    rfl
theorem comp_map {gf : MV → Rho → Sto → R Rho} {cf : Rho → Sto → R Bool} {ef : Rho → Sto → R Er} {ρb : Rho} {gs : List (Nat × List MV)} {F : MV → MV} (hs : stay gs S) :
    ∀ {ds : List MV}, (∀ d ∈ ds, ∃ ρ1, gf d ρb S = .ok ρ1 S ∧ cf ρ1 S = .ok true S ∧ ef ρ1 S = .ok (.val (F d)) S) → compF gf cf ef ρb gs ds S = .ok (ds.map F) S
  | [], _ => rfl
  | d :: ds, st => by
    obtain ⟨ρ1, h1, h2, h3⟩ := st d List.mem_cons_self
    have e := comp_map hs (ds := ds) fun d hd => st d (List.mem_cons_of_mem _ hd)
    unfold compF
    rw [h1, noX_ok, bok, h2, noX_ok, bok, if_pos rfl, h3, noX_ok, bok]
    unfold enter1
    rw [bok, if_pos hs, e]
    rfl
theorem comp_none {gf : MV → Rho → Sto → R Rho} {cf : Rho → Sto → R Bool} {ef : Rho → Sto → R Er} {ρb : Rho} {gs : List (Nat × List MV)} (hs : stay gs S) :
    ∀ {ds : List MV}, (∀ d ∈ ds, ∃ ρ1, gf d ρb S = .ok ρ1 S ∧ cf ρ1 S = .ok false S) → compF gf cf ef ρb gs ds S = .ok [] S
  | [], _ => rfl
  | d :: ds, st => by
    obtain ⟨ρ1, h1, h2⟩ := st d List.mem_cons_self
    have e := comp_none hs (ef := ef) (ds := ds) fun d hd => st d (List.mem_cons_of_mem _ hd)
    unfold compF
    rw [h1, noX_ok, bok, h2, noX_ok, bok, if_neg Bool.false_ne_true, if_pos hs, e]
def Nm (x : List Nat) : Prop := 1 ≤ x.length ∧ x.length ≤ 8 ∧ ∀ c ∈ x, 97 ≤ c ∧ c ≤ 122
def Vl : MV → Prop
  | .int i => -(10 ^ 30) < i ∧ i < 10 ^ 30
  | .str x => Nm x
  | _ => False
theorem Vl.cases {d : MV} (h : Vl d) : (∃ i, d = .int i ∧ -(10 ^ 30) < i ∧ i < 10 ^ 30) ∨ ∃ x, d = .str x ∧ Nm x := by
  cases d with
  | int i => exact .inl ⟨i, rfl, h⟩
  | str x => exact .inr ⟨x, rfl, h⟩
  | _ => exact h.elim
theorem Vl.lo {d : MV} (h : Vl d) (n : Nat) : lo n d := by
  rcases h.cases with ⟨i, rfl, _⟩ | ⟨x, rfl, _⟩
  · exact lo_int n i
  · exact lo_str n x
end
end M
end L2
namespace L2
namespace M
open PySem PySem.Spec PyProof.Rows
noncomputable instance : DecidableEq MV := fun _ _ => Classical.propDecidable _
section
variable {X : Cx} {W : XW} {a b o i : Expr} {f g : Rho → Sto → R Er} {pos : Pos}
theorem DenN.length {α : List Addr} {H : Hp} : ∀ {kvs xs}, DenN X.K α H kvs xs → xs.length = kvs.length
  | _, _, .nil => rfl
  | _, _, .cons _ _ _ _ _ l => by rw [List.length_cons, List.length_cons, DenN.length l]
end
end M
end L2
namespace L2
namespace M
open PySem PySem.Spec PyProof.Rows
theorem fn_no {P : Program} {w : World} {K : PySem.W.Frag} {mg : Str → Option Value} {base : Heap} {k m : Nat} {f : Addr} {fd : FuncData} {ps : List Str} {g : Gm} : FnOk P w K mg base CX0 k f fd ps (spM g m fun _ _ => .no) :=
  ⟨fun vs H Q E ⟨_, _, _, _, _, _, q⟩ => q.elim, fun _ _ _ _ _ _ _ _ _ _ _ _ _ ⟨_, _, _, _, _, _, q⟩ => q.elim⟩
end M
end L2
namespace L2
namespace M
open PySem PySem.Spec PyProof.Rows
def XCl (K : PySem.W.Frag) (C : Addr) (bm : List Value) (init : Option Value) : Prop :=
  ∃ nm q N bs hd sn sub ab col dd k0 k1 k2 k3 k5, K.lookup C = some (excClassObj nm q C N bs bm hd sn sub ab col dd k0 k1 k2 k3 k5 "ValueError.__new__") ∧ PySem.W.nsOkIn K N = true ∧ PySem.W.nsIn K N "__init__" = some init ∧ ∀ n ∈ qn, PySem.W.nsIn K N n = some none
def XEach (K : PySem.W.Frag) (mg : Str → Option Value) (M : Addr) : List (Str × Addr) → Prop
  | [] => True
  | (c, C) :: r => (mg c = some (.ref C) ∧ ∃ i, XCl K C (.ref M :: bmV) i) ∧ XEach K mg M r
theorem XEach.at {K : PySem.W.Frag} {mg : Str → Option Value} {M : Addr} : ∀ {cs : List (Str × Addr)}, XEach K mg M cs → ∀ {c C}, (c, C) ∈ cs → mg c = some (.ref C) ∧ ∃ i, XCl K C (.ref M :: bmV) i
  | (c, C) :: r, h, c', C', z => by
    rcases List.mem_cons.mp z with z | z
    · cases z; exact h.1
    · exact XEach.at h.2 z
end M
end L2
namespace L2
open PySem PySem.Spec PyProof.Rows
structure Out (X : Cx) (pins : List (Addr × Obj)) (H : Hp) (s : Shared) (b : Addr) : Prop where
  s0 : X.s₀.heap.get? b = none
  h : H b = none
  pin : ∀ p ∈ X.pn ++ pins, p.1 ≠ b
  fld : ∃ o vs, s.heap.get? b = some o ∧ o.data = .fields vs
section
variable {X : Cx} {pins : List (Addr × Obj)} {σ : St} {H : Hp} {s : Shared} {e T b : Addr} {h' : Heap}
theorem Out.ne (o : Out X pins H s b) {c : Addr} {oc : Obj} (hc : s.heap.get? c = some oc) (nf : ∀ vs, oc.data ≠ .fields vs) : c ≠ b := fun z => by
  obtain ⟨ob, vs, h1, h2⟩ := o.fld
  rw [z, h1] at hc; cases hc
  exact nf vs h2
theorem Out.loc (o : Out X pins H s b) (I : Inv X pins σ H s) : X.env.locals ≠ b := by
  obtain ⟨m, ⟨oL, es, ep, h1, h2, _⟩, _⟩ := I.loc
  exact o.ne h1 fun vs z => by rw [h2] at z; cases z
end
end L2
namespace Srt
open PySem PyProof.Rows
def gallop' : Bool → Keyed → Array Keyed → Nat → Nat → Nat → StateT SortSt Sem (Option Nat) := sortPriv% PySem.Builtin.gallop
def setMinGallop' : Nat → StateT SortSt Sem Unit := sortPriv% PySem.Builtin.setMinGallop
def mergeLo' : Array Keyed → Array Keyed → StateT SortSt Sem (Array Keyed) := sortPriv% PySem.Builtin.mergeLo
def mergeHi' : Array Keyed → Array Keyed → StateT SortSt Sem (Array Keyed) := sortPriv% PySem.Builtin.mergeHi
section
variable {M : Model} {A : Around} {E : Value → Shared → Prop} {s : Shared} {σ : Type}
theorem wpS_set {x : σ} {Q : PUnit → σ → Prop} {st : σ} (h : Q ⟨⟩ x) : wpS M A E s (set x : StateT σ Sem PUnit) Q st := by
  unfold wpS; rw [StateT.run_set]; exact wpAny_pure ⟨rfl, h⟩
theorem wpS_rule {x : String} {Q : Unit → σ → Prop} {st : σ} (h : Q () st) : wpS M A E s (liftM (rule x) : StateT σ Sem Unit) Q st := wpS_lift (wpAny_rule ⟨rfl, h⟩)
end
end Srt
set_option autoImplicit false
namespace Srt
variable {β : Type} {le : β → β → Prop}
structure Two (le : β → β → Prop) (T out xs ys : List β) : Prop where
  hx : (out ++ xs).Pairwise le
  hy : (out ++ ys).Pairwise le
  pm : (out ++ (xs ++ ys)).Perm T
theorem Two.movexs {T out zs xs ys : List β} (h : Two le T out (zs ++ xs) ys) (hl : ∀ z, z ∈ zs → ∀ y, y ∈ ys → le z y) : Two le T (out ++ zs) xs ys := by
  refine ⟨by simpa only [List.append_assoc] using h.hx, ?_, by simpa only [List.append_assoc] using h.pm⟩
  have a := List.pairwise_append.mp h.hx
  have b := List.pairwise_append.mp h.hy
  have c := List.pairwise_append.mp a.2.1
  refine List.pairwise_append.mpr ⟨List.pairwise_append.mpr ⟨a.1, c.1, fun x hx y hy => a.2.2 x hx y (List.mem_append_left _ hy)⟩, b.2.1, fun x hx y hy => ?_⟩
  cases List.mem_append.mp hx with
  | inl q => exact b.2.2 x q y hy
  | inr q => exact hl x q y hy
theorem Two.swap {T out xs ys : List β} (h : Two le T out xs ys) : Two le T out ys xs :=
  ⟨h.hy, h.hx, (List.Perm.append_left out List.perm_append_comm).trans h.pm⟩
theorem Two.moveys {T out zs xs ys : List β} (h : Two le T out xs (zs ++ ys)) (hl : ∀ z, z ∈ zs → ∀ x, x ∈ xs → le z x) : Two le T (out ++ zs) xs ys :=
  (h.swap.movexs hl).swap
theorem Two.fin {T out xs ys : List β} (h : Two le T out xs ys) (hl : ∀ x, x ∈ xs → ∀ y, y ∈ ys → le x y) : (out ++ xs ++ ys).Pairwise le ∧ (out ++ xs ++ ys).Perm T := by
  have a := List.pairwise_append.mp h.hx
  have b := List.pairwise_append.mp h.hy
  refine ⟨List.pairwise_append.mpr ⟨h.hx, b.2.1, fun x hx y hy => ?_⟩, by rw [List.append_assoc]; exact h.pm⟩
  cases List.mem_append.mp hx with
  | inl q => exact b.2.2 x q y hy
  | inr q => exact hl x q y hy
structure TwoR (le : β → β → Prop) (T xs ys R : List β) : Prop where
  hx : (xs ++ R).Pairwise le
  hy : (ys ++ R).Pairwise le
  pm : (xs ++ ys ++ R).Perm T
theorem TwoR.swap {T R xs ys : List β} (h : TwoR le T xs ys R) : TwoR le T ys xs R :=
  ⟨h.hy, h.hx, (List.Perm.append_right R List.perm_append_comm).trans h.pm⟩
theorem TwoR.moveys {T R zs xs ys : List β} (h : TwoR le T xs (ys ++ zs) R) (hl : ∀ x, x ∈ xs → ∀ z, z ∈ zs → le x z) : TwoR le T xs ys (zs ++ R) := by
  refine ⟨?_, by simpa only [List.append_assoc] using h.hy, by simpa only [List.append_assoc] using h.pm⟩
  have a := List.pairwise_append.mp h.hx
  have b := List.pairwise_append.mp h.hy
  have c := List.pairwise_append.mp b.1
  refine List.pairwise_append.mpr ⟨a.1, List.pairwise_append.mpr ⟨c.2.1, a.2.1, fun z hz y hy => b.2.2 z (List.mem_append_right _ hz) y hy⟩, fun x hx y hy => ?_⟩
  cases List.mem_append.mp hy with
  | inl q => exact hl x hx y q
  | inr q => exact a.2.2 x hx y q
theorem TwoR.movexs {T R zs xs ys : List β} (h : TwoR le T (xs ++ zs) ys R) (hl : ∀ y, y ∈ ys → ∀ z, z ∈ zs → le y z) : TwoR le T xs ys (zs ++ R) :=
  (h.swap.moveys hl).swap
theorem TwoR.fin {T R xs ys : List β} (h : TwoR le T xs ys R) (hl : ∀ x, x ∈ xs → ∀ y, y ∈ ys → le x y) : (xs ++ ys ++ R).Pairwise le ∧ (xs ++ ys ++ R).Perm T := by
  have a := List.pairwise_append.mp h.hx
  have b := List.pairwise_append.mp h.hy
  refine ⟨List.pairwise_append.mpr ⟨List.pairwise_append.mpr ⟨a.1, b.1, hl⟩, a.2.1, fun x hx y hy => ?_⟩, h.pm⟩
  cases List.mem_append.mp hx with
  | inl q => exact a.2.2 x q y hy
  | inr q => exact b.2.2 x q y hy
theorem drop_cut (l : List β) (i k : Nat) : l.drop i = (l.drop i).take k ++ l.drop (i + k) := by
  rw [← List.drop_drop, List.take_append_drop]
theorem take_cut (l : List β) (i k : Nat) (h : i ≤ k) : l.take k = l.take i ++ (l.take k).drop i := by
  have := List.take_append_drop i (l.take k)
  rw [List.take_take, Nat.min_eq_left h] at this
  exact this.symm
end Srt
set_option autoImplicit false
namespace Srt
open PySem PyProof.Rows
abbrev SM := StateT SortSt Sem
noncomputable def bey (lf : Bool) (x : Keyed) (v : Array Keyed) (b i : Nat) : SM (Option Bool) :=
  elem' v (b + i) >>= fun y => if lf = true then lt' y x else lt' x y >>= fun r => pure (r.map fun q => !q)
abbrev G3 := Option (Option Nat) × Nat × Nat
noncomputable def gUp (f : Nat → SM (Option Bool)) (n m h : Nat) : SM G3 :=
  forIn [0:n] ((none, 0, 1) : G3) fun _ c =>
    if c.2.2 ≥ m then pure (.done (none, c.2.1, c.2.2)) else f (h + c.2.2) >>= fun o => match o with
      | some q => if (!q) = true then pure (.done (none, c.2.1, c.2.2)) else pure (.yield (none, c.2.2, 2 * c.2.2 + 1))
      | _ => pure (.done (some none, c.2.1, c.2.2))
noncomputable def gDn (f : Nat → SM (Option Bool)) (n m h : Nat) : SM G3 :=
  forIn [0:n] ((none, 0, 1) : G3) fun _ c =>
    if c.2.2 ≥ m then pure (.done (none, c.2.1, c.2.2)) else f (h - c.2.2) >>= fun o => match o with
      | some q => if q = true then pure (.done (none, c.2.1, c.2.2)) else pure (.yield (none, c.2.2, 2 * c.2.2 + 1))
      | _ => pure (.done (some none, c.2.1, c.2.2))
noncomputable def gBin (f : Nat → SM (Option Bool)) (n lo hi : Nat) : SM G3 :=
  forIn [0:n] ((none, lo, hi) : G3) fun _ c =>
    if c.2.1 ≥ c.2.2 then pure (.done (none, c.2.1, c.2.2)) else f (c.2.1 + (c.2.2 - c.2.1) / 2) >>= fun o => match o with
      | some q => if q = true then pure (.yield (none, c.2.1 + (c.2.2 - c.2.1) / 2 + 1, c.2.2)) else pure (.yield (none, c.2.1, c.2.1 + (c.2.2 - c.2.1) / 2))
      | _ => pure (.done (some none, c.2.1, c.2.2))
noncomputable def gEnd (f : Nat → SM (Option Bool)) (n lo hi : Nat) : SM (Option Nat) :=
  gBin f n lo hi >>= fun c => match c.1 with
    | some r => pure r
    | none => pure (some c.2.2)
noncomputable def gal (f : Nat → SM (Option Bool)) (n h : Nat) : SM (Option Nat) :=
  f h >>= fun o => match o with
    | some q => if q = true then gUp f n (n - h) h >>= fun c => (match c.1 with
          | some r => pure r
          | none => gEnd f n (h + c.2.1 + 1) (h + min c.2.2 (n - h)))
        else gDn f n (h + 1) h >>= fun c => (match c.1 with
          | some r => pure r
          | none => gEnd f n (h + 1 - min c.2.2 (h + 1)) (h - c.2.1))
    | _ => pure none
theorem gallop_gal (lf : Bool) (x : Keyed) (v : Array Keyed) (b n h : Nat) : gallop' lf x v b n h = gal (bey lf x v b) n h := by kernel_rfl
section
variable {M : Model} {A : Around} {E : Value → Shared → Prop} {s : Shared}
def Tells (M : Model) (A : Around) (E : Value → Shared → Prop) (s : Shared) (st : SortSt) (f : Nat → SM (Option Bool)) (p : Nat → Bool) (n : Nat) : Prop :=
  ∀ i, i < n → ∀ Q : Option Bool → SortSt → Prop, Q (some (p i)) st → wpS M A E s (f i) Q st
variable {st : SortSt} {f : Nat → SM (Option Bool)} {p : Nat → Bool} {n h : Nat}
theorem wp_gUp {Q : G3 → SortSt → Prop} (hf : Tells M A E s st f p n) (hh : h < n) (h0 : p h = true)
    (hq : ∀ l o, l < o → h + l < n → p (h + l) = true → (n - h ≤ o ∨ (h + o < n ∧ p (h + o) = false)) → Q (none, l, o) st) :
    wpS M A E s (gUp f n (n - h) h) Q st := by
  unfold gUp
  refine wpS_forRange (I := fun x c st' => st' = st ∧ ∃ l o, c = (none, l, o) ∧ x + 1 ≤ o ∧ l < o ∧ h + l < n ∧ p (h + l) = true) ?_ ?_ ⟨rfl, 0, 1, rfl, by omega, by omega, by omega, h0⟩
  · rintro x c st' _ hx ⟨rfl, l, o, rfl, h1, h2, h3, h4⟩
    dsimp only
    by_cases hge : o ≥ n - h
    · rw [if_pos hge]; exact wpS_pure (hq l o h2 h3 h4 (.inl hge))
    · rw [if_neg hge]
      refine wpS_bind (hf (h + o) (by omega) _ ?_)
      cases hp : p (h + o) with
      | false => exact wpS_pure (hq l o h2 h3 h4 (.inr ⟨by omega, hp⟩))
      | true => exact wpS_pure ⟨rfl, o, 2 * o + 1, rfl, by omega, by omega, by omega, hp⟩
  · rintro c st' ⟨rfl, l, o, rfl, h1, h2, h3, h4⟩
    exact hq l o h2 h3 h4 (.inl (by omega))
theorem wp_gDn {Q : G3 → SortSt → Prop} (hf : Tells M A E s st f p n) (hh : h < n) (h0 : p h = false)
    (hq : ∀ l o, l < o → l ≤ h → p (h - l) = false → (h + 1 ≤ o ∨ (o ≤ h ∧ p (h - o) = true)) → Q (none, l, o) st) :
    wpS M A E s (gDn f n (h + 1) h) Q st := by
  unfold gDn
  refine wpS_forRange (I := fun x c st' => st' = st ∧ ∃ l o, c = (none, l, o) ∧ x + 1 ≤ o ∧ l < o ∧ l ≤ h ∧ p (h - l) = false) ?_ ?_ ⟨rfl, 0, 1, rfl, by omega, by omega, by omega, h0⟩
  · rintro x c st' _ hx ⟨rfl, l, o, rfl, h1, h2, h3, h4⟩
    dsimp only
    by_cases hge : o ≥ h + 1
    · rw [if_pos hge]; exact wpS_pure (hq l o h2 h3 h4 (.inl hge))
    · rw [if_neg hge]
      refine wpS_bind (hf (h - o) (by omega) _ ?_)
      cases hp : p (h - o) with
      | true => exact wpS_pure (hq l o h2 h3 h4 (.inr ⟨by omega, hp⟩))
      | false => exact wpS_pure ⟨rfl, o, 2 * o + 1, rfl, by omega, by omega, by omega, hp⟩
  · rintro c st' ⟨rfl, l, o, rfl, h1, h2, h3, h4⟩
    exact hq l o h2 h3 h4 (.inl (by omega))
theorem wp_gEnd {Q : Option Nat → SortSt → Prop} {lo hi : Nat} (hf : Tells M A E s st f p n) (hm : ∀ i j, i ≤ j → j < n → p j = true → p i = true)
    (h1 : lo ≤ hi) (h2 : hi ≤ n) (h3 : ∀ i, i < lo → p i = true) (h4 : ∀ i, hi ≤ i → i < n → p i = false)
    (hq : ∀ r, r ≤ n → (∀ i, i < r → p i = true) → (∀ i, r ≤ i → i < n → p i = false) → Q (some r) st) :
    wpS M A E s (gEnd f n lo hi) Q st := by
  unfold gEnd gBin
  refine wpS_bind (wpS_mono (wpS_forRange (I := fun x c st' => st' = st ∧ ∃ l r, c = (none, l, r) ∧ l ≤ r ∧ r ≤ n ∧ r - l ≤ n - x ∧ (∀ i, i < l → p i = true) ∧ (∀ i, r ≤ i → i < n → p i = false))
    (Q := fun c st' => st' = st ∧ ∃ l r, c = (none, l, r) ∧ r ≤ n ∧ (∀ i, i < r → p i = true) ∧ (∀ i, r ≤ i → i < n → p i = false)) ?_ ?_ ⟨rfl, lo, hi, rfl, h1, h2, by omega, h3, h4⟩) ?_)
  · rintro x c st' _ hx ⟨rfl, l, r, rfl, a1, a2, a3, a4, a5⟩
    dsimp only
    by_cases hge : l ≥ r
    · rw [if_pos hge]
      have : l = r := by omega
      subst this
      exact wpS_pure ⟨rfl, l, l, rfl, a2, a4, a5⟩
    · rw [if_neg hge]
      refine wpS_bind (hf (l + (r - l) / 2) (by omega) _ ?_)
      cases hp : p (l + (r - l) / 2) with
      | true => exact wpS_pure ⟨rfl, _, r, rfl, by omega, a2, by omega, fun i hi => hm i _ (by omega) (by omega) hp, a5⟩
      | false =>
        refine wpS_pure ⟨rfl, l, _, rfl, by omega, by omega, by omega, a4, fun i hi1 hi2 => ?_⟩
        cases hpi : p i with
        | false => rfl
        | true => rw [hm _ i hi1 hi2 hpi] at hp; cases hp
  · rintro c st' ⟨rfl, l, r, rfl, a1, a2, a3, a4, a5⟩
    have : l = r := by omega
    subst this
    exact ⟨rfl, l, l, rfl, a2, a4, a5⟩
  · rintro c st' ⟨rfl, l, r, rfl, a2, a4, a5⟩
    exact wpS_pure (hq r a2 a4 a5)
theorem wp_gal {Q : Option Nat → SortSt → Prop} (hf : Tells M A E s st f p n) (hm : ∀ i j, i ≤ j → j < n → p j = true → p i = true) (hh : h < n)
    (hq : ∀ r, r ≤ n → (∀ i, i < r → p i = true) → (∀ i, r ≤ i → i < n → p i = false) → Q (some r) st) :
    wpS M A E s (gal f n h) Q st := by
  have hn : ∀ i j, i ≤ j → j < n → p i = false → p j = false := by
    intro i j h1 h2 h3
    cases hj : p j with
    | false => rfl
    | true => rw [hm i j h1 h2 hj] at h3; cases h3
  unfold gal
  refine wpS_bind (hf h hh _ ?_)
  cases hp : p h with
  | true =>
    refine wpS_bind (wp_gUp hf hh hp fun l o h1 h2 h3 h4 => ?_)
    dsimp only
    refine wp_gEnd hf hm (by omega) (by omega) (fun i hi => hm i (h + l) (by omega) h2 h3) (fun i h5 h6 => ?_) hq
    rcases h4 with h4 | ⟨h4, h7⟩
    · omega
    · exact hn _ i (by omega) h6 h7
  | false =>
    refine wpS_bind (wp_gDn hf hh hp fun l o h1 h2 h3 h4 => ?_)
    dsimp only
    refine wp_gEnd hf hm (by omega) (by omega) (fun i hi => ?_) (fun i h5 h6 => hn _ i h5 h6 h3) hq
    rcases h4 with h4 | ⟨h4, h7⟩
    · omega
    · exact hm i (h - o) (by omega) (by omega) h7
end
end Srt
set_option autoImplicit false
namespace Srt
open PySem PyProof.Rows
theorem mem_drop_at {β : Type} {l : List β} {i : Nat} {z : β} (h : z ∈ l.drop i) : ∃ j, i + j < l.length ∧ l[i + j]? = some z := by
  obtain ⟨j, hj, e⟩ := List.mem_iff_getElem.mp h
  rw [List.length_drop] at hj
  refine ⟨j, by omega, ?_⟩
  rw [List.getElem_drop] at e
  rw [← e, List.getElem?_eq_getElem (by omega)]
theorem mem_cut_at {β : Type} {l : List β} {i k : Nat} {z : β} (h : z ∈ (l.drop i).take k) : ∃ j, j < k ∧ i + j < l.length ∧ l[i + j]? = some z := by
  obtain ⟨j, hj, e⟩ := List.mem_iff_getElem.mp h
  rw [List.length_take, List.length_drop] at hj
  refine ⟨j, by omega, by omega, ?_⟩
  rw [List.getElem_take, List.getElem_drop] at e
  rw [← e, List.getElem?_eq_getElem (by omega)]
theorem mem_take_at {β : Type} {l : List β} {k : Nat} {z : β} (h : z ∈ l.take k) : ∃ j, j < k ∧ j < l.length ∧ l[j]? = some z := by
  obtain ⟨j, hj, e⟩ := List.mem_iff_getElem.mp h
  rw [List.length_take] at hj
  refine ⟨j, by omega, by omega, ?_⟩
  rw [List.getElem_take] at e
  rw [← e, List.getElem?_eq_getElem (by omega)]
section
variable {M : Model} {A : Around} {E : Value → Shared → Prop} {s : Shared}
structure Cmp (M : Model) (A : Around) (E : Value → Shared → Prop) (s : Shared) (kd : SortKind) (D : Keyed → Prop) (lt : Keyed → Keyed → Bool) : Prop where
  go : ∀ x y, D x → D y → ∀ st : SortSt, kindOf st = kd → ∀ Q : Option Bool → SortSt → Prop, Q (some (lt x y)) st → wpS M A E s (lt' x y) Q st
  tr : ∀ x y z, lt y x = false → lt z y = false → lt z x = false
  as : ∀ x y, lt x y = true → lt y x = false
variable {kd : SortKind} {D : Keyed → Prop} {lt : Keyed → Keyed → Bool}
abbrev Le (lt : Keyed → Keyed → Bool) (x y : Keyed) : Prop := lt y x = false
theorem Cmp.rf (C : Cmp M A E s kd D lt) (x : Keyed) : Le lt x x := by
  show lt x x = false
  cases h : lt x x with
  | false => rfl
  | true => exact absurd h (by rw [C.as x x h]; simp)
def SL (lt : Keyed → Keyed → Bool) (l : List Keyed) (b n : Nat) : Prop := ∀ i j x y, i ≤ j → j < n → l[b + i]? = some x → l[b + j]? = some y → lt y x = false
theorem wp_elem {st : SortSt} {v : Array Keyed} {i : Nat} {Q : Keyed → SortSt → Prop} {x : Keyed} (e : v.toList[i]? = some x) (h : Q x st) : wpS M A E s (elem' v i) Q st := by
  rw [elem'_eq]
  have : v[i]? = some x := by rw [← Array.getElem?_toList]; exact e
  rw [this]
  exact wpS_pure h
theorem at_lt {v : Array Keyed} {i : Nat} (h : i < v.size) : ∃ x, v.toList[i]? = some x := ⟨v.toList[i]'(by simpa using h), List.getElem?_eq_getElem _⟩
def pB (lt : Keyed → Keyed → Bool) (lf : Bool) (x : Keyed) (l : List Keyed) (b i : Nat) : Bool := (l[b + i]?).elim false fun y => if lf = true then lt y x else !lt x y
theorem tells (C : Cmp M A E s kd D lt) {st : SortSt} (hk : kindOf st = kd) {v : Array Keyed} (hD : ∀ y, y ∈ v.toList → D y) {x : Keyed} (hx : D x) {b n : Nat} (hn : b + n ≤ v.size) (lf : Bool) :
    Tells M A E s st (bey lf x v b) (pB lt lf x v.toList b) n := by
  intro i hi Q hq
  obtain ⟨y, hy⟩ := at_lt (v := v) (i := b + i) (by omega)
  have hDy := hD y (List.mem_of_getElem? hy)
  unfold bey
  unfold pB at hq
  rw [hy] at hq
  refine wpS_bind (wp_elem hy ?_)
  cases lf with
  | true => exact C.go y x hDy hx st hk _ hq
  | false =>
    show wpS M A E s (lt' x y >>= fun r => pure (r.map fun q => !q)) Q st
    exact wpS_bind (C.go x y hx hDy st hk _ (wpS_pure hq))
theorem wp_galR (C : Cmp M A E s kd D lt) {st : SortSt} (hk : kindOf st = kd) {v : Array Keyed} (hD : ∀ y, y ∈ v.toList → D y) {x : Keyed} (hx : D x) {b n h : Nat} (hn : b + n ≤ v.size) (hh : h < n)
    (hs : SL lt v.toList b n) {Q : Option Nat → SortSt → Prop}
    (hq : ∀ r, r ≤ n → (∀ i y, i < r → v.toList[b + i]? = some y → lt x y = false) → (∀ i y, r ≤ i → i < n → v.toList[b + i]? = some y → lt x y = true) → Q (some r) st) :
    wpS M A E s (gallop' false x v b n h) Q st := by
  rw [gallop_gal]
  refine wp_gal (tells C hk hD hx hn false) (fun i j h1 h2 h3 => ?_) hh (fun r h1 h2 h3 => hq r h1 (fun i y h4 h5 => ?_) (fun i y h4 h5 h6 => ?_))
  · obtain ⟨y, hy⟩ := at_lt (v := v) (i := b + i) (by omega)
    obtain ⟨z, hz⟩ := at_lt (v := v) (i := b + j) (by omega)
    unfold pB at h3 ⊢
    rw [hz] at h3; rw [hy]
    have h3' : (!lt x z) = true := h3
    show (!lt x y) = true
    have := hs i j y z h1 h2 hy hz
    have h4 : lt x z = false := by simpa using h3'
    rw [C.tr y z x this h4]; rfl
  · have := h2 i h4
    unfold pB at this
    rw [h5] at this
    have h' : (!lt x y) = true := this
    simpa using h'
  · have := h3 i h4 h5
    unfold pB at this
    rw [h6] at this
    have h' : (!lt x y) = false := this
    simpa using h'
theorem wp_galL (C : Cmp M A E s kd D lt) {st : SortSt} (hk : kindOf st = kd) {v : Array Keyed} (hD : ∀ y, y ∈ v.toList → D y) {x : Keyed} (hx : D x) {b n h : Nat} (hn : b + n ≤ v.size) (hh : h < n)
    (hs : SL lt v.toList b n) {Q : Option Nat → SortSt → Prop}
    (hq : ∀ r, r ≤ n → (∀ i y, i < r → v.toList[b + i]? = some y → lt y x = true) → (∀ i y, r ≤ i → i < n → v.toList[b + i]? = some y → lt y x = false) → Q (some r) st) :
    wpS M A E s (gallop' true x v b n h) Q st := by
  rw [gallop_gal]
  refine wp_gal (tells C hk hD hx hn true) (fun i j h1 h2 h3 => ?_) hh (fun r h1 h2 h3 => hq r h1 (fun i y h4 h5 => ?_) (fun i y h4 h5 h6 => ?_))
  · obtain ⟨y, hy⟩ := at_lt (v := v) (i := b + i) (by omega)
    obtain ⟨z, hz⟩ := at_lt (v := v) (i := b + j) (by omega)
    unfold pB at h3 ⊢
    rw [hz] at h3; rw [hy]
    have h3' : lt z x = true := h3
    show lt y x = true
    have := hs i j y z h1 h2 hy hz
    cases hyx : lt y x with
    | true => rfl
    | false => exact absurd h3' (by rw [C.tr x y z hyx this]; simp)
  · have := h2 i h4
    unfold pB at this
    rw [h5] at this
    exact this
  · have := h3 i h4 h5
    unfold pB at this
    rw [h6] at this
    exact this
end
end Srt
set_option autoImplicit false
namespace Srt
open PySem PyProof.Rows
abbrev V := Array Keyed
abbrev L5 := Option V × V × Nat × Nat × Nat
abbrev L6 := Option V × V × Nat × Nat × Nat × Nat
abbrev L7 := Option V × V × Nat × Nat × Nat × Nat × Nat
abbrev dnL (a b o : V) (i j : Nat) : V := o ++ a.extract i a.size ++ b.extract j b.size
abbrev laL (a b o : V) (i j : Nat) : V := o ++ b.extract j b.size ++ a.extract i a.size
noncomputable def one1 (a b : V) (g : Nat) (c : L6) : SM (ForInStep L6) :=
  elem' b c.2.2.2.1 >>= fun y => elem' a c.2.2.1 >>= fun x => lt' y x >>= fun r => match r with
    | some q => if q = true then elem' b c.2.2.2.1 >>= fun y =>
          if (c.2.2.2.1 + 1 == b.size) = true then pure (.done (some (dnL a b (c.2.1.push y) c.2.2.1 (c.2.2.2.1 + 1)), c.2.1.push y, c.2.2.1, c.2.2.2.1 + 1, 0, c.2.2.2.2.2 + 1))
          else if c.2.2.2.2.2 + 1 ≥ g then pure (.done (none, c.2.1.push y, c.2.2.1, c.2.2.2.1 + 1, 0, c.2.2.2.2.2 + 1))
          else pure (.yield (none, c.2.1.push y, c.2.2.1, c.2.2.2.1 + 1, 0, c.2.2.2.2.2 + 1))
        else elem' a c.2.2.1 >>= fun x =>
          if (c.2.2.1 + 1 + 1 == a.size) = true then pure (.done (some (laL a b (c.2.1.push x) (c.2.2.1 + 1) c.2.2.2.1), c.2.1.push x, c.2.2.1 + 1, c.2.2.2.1, c.2.2.2.2.1 + 1, 0))
          else if c.2.2.2.2.1 + 1 ≥ g then pure (.done (none, c.2.1.push x, c.2.2.1 + 1, c.2.2.2.1, c.2.2.2.2.1 + 1, 0))
          else pure (.yield (none, c.2.1.push x, c.2.2.1 + 1, c.2.2.2.1, c.2.2.2.2.1 + 1, 0))
    | _ => pure (.done (some (dnL a b c.2.1 c.2.2.1 c.2.2.2.1), c.2.1, c.2.2.1, c.2.2.2.1, c.2.2.2.2.1, c.2.2.2.2.2))
noncomputable def in1 (a b : V) (t g : Nat) (c : L6) : SM L6 := forIn [0:t] c fun _ c => one1 a b g c
noncomputable def two4 (a b o : V) (i j g p q : Nat) : SM (ForInStep L7) :=
  elem' a i >>= fun x => if (i + 1 + 1 == a.size) = true then pure (.done (some (laL a b (o.push x) (i + 1) j), o.push x, i + 1, j, g, p, q))
    else if (decide (p < 7) && decide (q < 7)) = true then pure (.done (none, o.push x, i + 1, j, g, p, q)) else pure (.yield (none, o.push x, i + 1, j, g, p, q))
noncomputable def two3 (a b o : V) (i j g p q : Nat) : SM (ForInStep L7) :=
  elem' b j >>= fun y => if (j + 1 == b.size) = true then pure (.done (some (dnL a b (o.push y) i (j + 1)), o.push y, i, j + 1, g, p, q))
    else elem' a i >>= fun x => gallop' true x b (j + 1) (b.size - (j + 1)) 0 >>= fun r => match r with
      | some k => if k > 0 then
            if (j + 1 + k == b.size) = true then pure (.done (some (dnL a b (o.push y ++ b.extract (j + 1) (j + 1 + k)) i (j + 1 + k)), o.push y ++ b.extract (j + 1) (j + 1 + k), i, j + 1 + k, g, p, k))
            else two4 a b (o.push y ++ b.extract (j + 1) (j + 1 + k)) i (j + 1 + k) g p k
          else two4 a b (o.push y) i (j + 1) g p k
      | _ => pure (.done (some (dnL a b (o.push y) i (j + 1)), o.push y, i, j + 1, g, p, q))
noncomputable def two2 (a b o : V) (i j g p q : Nat) : SM (ForInStep L7) :=
  setMinGallop' g >>= fun _ => elem' b j >>= fun y => gallop' false y a i (a.size - i) 0 >>= fun r => match r with
    | some k => if k > 0 then
          if (i + k + 1 == a.size) = true then pure (.done (some (laL a b (o ++ a.extract i (i + k)) (i + k) j), o ++ a.extract i (i + k), i + k, j, g, k, q))
          else if (i + k == a.size) = true then pure (.done (some (dnL a b (o ++ a.extract i (i + k)) (i + k) j), o ++ a.extract i (i + k), i + k, j, g, k, q))
          else two3 a b (o ++ a.extract i (i + k)) (i + k) j g k q
        else two3 a b o i j g k q
    | _ => pure (.done (some (dnL a b o i j), o, i, j, g, p, q))
noncomputable def in2 (a b : V) (t : Nat) (c : L7) : SM L7 := forIn [0:t] c fun _ c =>
  if c.2.2.2.2.1 > 1 then two2 a b c.2.1 c.2.2.1 c.2.2.2.1 (c.2.2.2.2.1 - 1) c.2.2.2.2.2.1 c.2.2.2.2.2.2
  else two2 a b c.2.1 c.2.2.1 c.2.2.2.1 c.2.2.2.2.1 c.2.2.2.2.2.1 c.2.2.2.2.2.2
noncomputable def outL (a b : V) (t : Nat) (c : L5) : SM L5 := forIn [0:t] c fun _ c =>
  in1 a b t c.2.2.2.2 (none, c.2.1, c.2.2.1, c.2.2.2.1, 0, 0) >>= fun d => match d.1 with
    | some r => pure (.done (some r, d.2.1, d.2.2.1, d.2.2.2.1, c.2.2.2.2))
    | none => liftM (rule "list.sort.gallop") >>= fun _ => in2 a b t (none, d.2.1, d.2.2.1, d.2.2.2.1, c.2.2.2.2 + 1, d.2.2.2.2.1, d.2.2.2.2.2) >>= fun e => match e.1 with
      | some r => pure (.done (some r, e.2.1, e.2.2.1, e.2.2.2.1, e.2.2.2.2.1))
      | none => setMinGallop' (e.2.2.2.2.1 + 1) >>= fun _ => pure (.yield (none, e.2.1, e.2.2.1, e.2.2.2.1, e.2.2.2.2.1 + 1))
noncomputable def mLo (a b : V) : SM V :=
  liftM (rule "list.sort.merge-lo") >>= fun _ => elem' b 0 >>= fun y => if (1 == b.size) = true then pure (dnL a b #[y] 0 1)
    else if (0 + 1 == a.size) = true then pure (laL a b #[y] 0 1)
    else get >>= fun st => outL a b (a.size + b.size) (none, #[y], 0, 1, gallopOf st) >>= fun c => match c.1 with
      | some r => pure r
      | none => liftM (unsupported "internal:list.sort.merge-bound")
theorem mergeLo_mLo (a b : V) : mergeLo' a b = mLo a b := by kernel_rfl
end Srt
set_option autoImplicit false
namespace Srt
open PySem PyProof.Rows
theorem ex_end (v : V) (i : Nat) : (v.extract i v.size).toList = v.toList.drop i := by
  rw [Array.toList_extract, List.extract_eq_take_drop]
  exact List.take_of_length_le (by simp)
theorem ex_cut (v : V) (i k : Nat) : (v.extract i (i + k)).toList = (v.toList.drop i).take k := by
  rw [Array.toList_extract, List.extract_eq_take_drop, Nat.add_sub_cancel_left]
theorem setG_eq (g : Nat) : setMinGallop' g = modify fun s => SortSt.mk' (kindOf s) (arrOf s) (pendingOf s) g (failedOf s) := rfl
def Sg (st st' : SortSt) : Prop := ∃ g, st' = SortSt.mk' (kindOf st) (arrOf st) (pendingOf st) g (failedOf st)
theorem Sg.refl (st : SortSt) : Sg st st := ⟨gallopOf st, rfl⟩
theorem Sg.kind {st st' : SortSt} (h : Sg st st') : kindOf st' = kindOf st := by obtain ⟨g, rfl⟩ := h; rfl
section
variable {M : Model} {A : Around} {E : Value → Shared → Prop} {s : Shared} {kd : SortKind} {D : Keyed → Prop} {lt : Keyed → Keyed → Bool} {a b : V}
theorem wp_setG {st st' : SortSt} (h : Sg st st') {g : Nat} {Q : Unit → SortSt → Prop} (hq : ∀ st', Sg st st' → Q () st') : wpS M A E s (setMinGallop' g) Q st' := by
  rw [setG_eq]
  obtain ⟨g', rfl⟩ := h
  exact wpS_modify (hq _ ⟨g, rfl⟩)
abbrev TwoA (lt : Keyed → Keyed → Bool) (a b o : V) (i j : Nat) : Prop := Two (Le lt) (a.toList ++ b.toList) o.toList (a.toList.drop i) (b.toList.drop j)
def FinA (lt : Keyed → Keyed → Bool) (a b r : V) : Prop := r.toList.Pairwise (Le lt) ∧ r.toList.Perm (a.toList ++ b.toList)
theorem drop_at {β : Type} {l : List β} {i : Nat} {x : β} (h : l[i]? = some x) : l.drop i = x :: l.drop (i + 1) := by
  obtain ⟨hi, e⟩ := List.getElem?_eq_some_iff.mp h
  rw [← e]; exact List.drop_eq_getElem_cons hi
theorem heads {β : Type} {le : β → β → Prop} (rf : ∀ x, le x x) {l : List β} {i : Nat} {x : β} (h : (l.drop i).Pairwise le) (e : l[i]? = some x) : ∀ z, z ∈ l.drop i → le x z := by
  rw [drop_at e] at h ⊢
  intro z hz
  cases hz with
  | head => exact rf x
  | tail _ hz => exact (List.pairwise_cons.mp h).1 z hz
theorem TwoA.sa {o : V} {i j : Nat} (h : TwoA lt a b o i j) : (a.toList.drop i).Pairwise (Le lt) := (List.pairwise_append.mp h.hx).2.1
theorem TwoA.sb {o : V} {i j : Nat} (h : TwoA lt a b o i j) : (b.toList.drop j).Pairwise (Le lt) := (List.pairwise_append.mp h.hy).2.1
theorem sl_drop {l : List Keyed} {i n : Nat} (h : (l.drop i).Pairwise (Le lt)) (rf : ∀ x, Le lt x x) : SL lt l i n := by
  intro p q x y h1 h2 hx hy
  by_cases e : p = q
  · subst e; rw [hx] at hy; cases hy; exact rf x
  · obtain ⟨b1, e1⟩ := List.getElem?_eq_some_iff.mp hx
    obtain ⟨b2, e2⟩ := List.getElem?_eq_some_iff.mp hy
    have := List.pairwise_iff_getElem.mp h p q (by rw [List.length_drop]; omega) (by rw [List.length_drop]; omega) (by omega)
    rw [List.getElem_drop, List.getElem_drop, e1, e2] at this
    exact this
theorem TwoA.pushB {o : V} {i j : Nat} {y : Keyed} (h : TwoA lt a b o i j) (e : b.toList[j]? = some y) (hl : ∀ x, x ∈ a.toList.drop i → Le lt y x) : TwoA lt a b (o.push y) i (j + 1) := by
  have h' : Two (Le lt) (a.toList ++ b.toList) o.toList (a.toList.drop i) ([y] ++ b.toList.drop (j + 1)) := by rw [show [y] ++ b.toList.drop (j + 1) = b.toList.drop j from (drop_at e).symm]; exact h
  have := h'.moveys fun z hz x hx => by rw [List.mem_singleton.mp hz]; exact hl x hx
  show Two _ _ (o.push y).toList _ _
  rw [Array.toList_push]; exact this
theorem TwoA.pushA {o : V} {i j : Nat} {x : Keyed} (h : TwoA lt a b o i j) (e : a.toList[i]? = some x) (hl : ∀ y, y ∈ b.toList.drop j → Le lt x y) : TwoA lt a b (o.push x) (i + 1) j := by
  have h' : Two (Le lt) (a.toList ++ b.toList) o.toList ([x] ++ a.toList.drop (i + 1)) (b.toList.drop j) := by rw [show [x] ++ a.toList.drop (i + 1) = a.toList.drop i from (drop_at e).symm]; exact h
  have := h'.movexs fun z hz y hy => by rw [List.mem_singleton.mp hz]; exact hl y hy
  show Two _ _ (o.push x).toList _ _
  rw [Array.toList_push]; exact this
theorem TwoA.cutA {o : V} {i j k : Nat} (h : TwoA lt a b o i j) (hl : ∀ n z, n < k → a.toList[i + n]? = some z → ∀ y, y ∈ b.toList.drop j → Le lt z y) : TwoA lt a b (o ++ a.extract i (i + k)) (i + k) j := by
  have h' : Two (Le lt) (a.toList ++ b.toList) o.toList ((a.toList.drop i).take k ++ a.toList.drop (i + k)) (b.toList.drop j) := by rw [← drop_cut]; exact h
  have := h'.movexs fun z hz y hy => by obtain ⟨n, h1, _, h2⟩ := mem_cut_at hz; exact hl n z h1 h2 y hy
  show Two _ _ (o ++ a.extract i (i + k)).toList _ _
  rw [Array.toList_append, ex_cut]; exact this
theorem TwoA.cutB {o : V} {i j k : Nat} (h : TwoA lt a b o i j) (hl : ∀ n z, n < k → b.toList[j + n]? = some z → ∀ x, x ∈ a.toList.drop i → Le lt z x) : TwoA lt a b (o ++ b.extract j (j + k)) i (j + k) := by
  have h' : Two (Le lt) (a.toList ++ b.toList) o.toList (a.toList.drop i) ((b.toList.drop j).take k ++ b.toList.drop (j + k)) := by rw [← drop_cut]; exact h
  have := h'.moveys fun z hz y hy => by obtain ⟨n, h1, _, h2⟩ := mem_cut_at hz; exact hl n z h1 h2 y hy
  show Two _ _ (o ++ b.extract j (j + k)).toList _ _
  rw [Array.toList_append, ex_cut]; exact this
theorem TwoA.dnB {o : V} {i j : Nat} (h : TwoA lt a b o i j) (hj : b.size ≤ j) : FinA lt a b (dnL a b o i j) := by
  have e : (dnL a b o i j).toList = o.toList ++ a.toList.drop i ++ b.toList.drop j := by rw [Array.toList_append, Array.toList_append, ex_end, ex_end]
  unfold FinA; rw [e]
  exact h.fin fun x _ y hy => by rw [List.drop_of_length_le (by simpa using hj)] at hy; cases hy
theorem TwoA.dnA {o : V} {i j : Nat} (h : TwoA lt a b o i j) (hi : a.size ≤ i) : FinA lt a b (dnL a b o i j) := by
  have e : (dnL a b o i j).toList = o.toList ++ a.toList.drop i ++ b.toList.drop j := by rw [Array.toList_append, Array.toList_append, ex_end, ex_end]
  unfold FinA; rw [e]
  exact h.fin fun x hx y _ => by rw [List.drop_of_length_le (by simpa using hi)] at hx; cases hx
theorem TwoA.la {o : V} {i j : Nat} (h : TwoA lt a b o i j) (hi : i + 1 = a.size) (hz : ∀ x y, a.toList[a.size - 1]? = some x → y ∈ b.toList → Le lt y x) : FinA lt a b (laL a b o i j) := by
  have e : (laL a b o i j).toList = o.toList ++ b.toList.drop j ++ a.toList.drop i := by rw [Array.toList_append, Array.toList_append, ex_end, ex_end]
  unfold FinA; rw [e]
  refine h.swap.fin fun y hy x hx => ?_
  obtain ⟨n, h1, h2⟩ := mem_drop_at hx
  have hl : a.toList.length = a.size := by simp
  exact hz x y (by rw [show a.size - 1 = i + n by omega]; exact h2) (List.mem_of_mem_drop hy)
theorem TwoA.len {o : V} {i j : Nat} (h : TwoA lt a b o i j) : o.size + ((a.size - i) + (b.size - j)) = a.size + b.size := by
  have := h.pm.length_eq
  simpa [List.length_append, List.length_drop] using this
def I1 (lt : Keyed → Keyed → Bool) (a b o : V) (i j : Nat) : Prop := i + 1 < a.size ∧ j < b.size ∧ TwoA lt a b o i j
structure Set2 (M : Model) (A : Around) (E : Value → Shared → Prop) (s : Shared) (kd : SortKind) (D : Keyed → Prop) (lt : Keyed → Keyed → Bool) (a b : V) : Prop where
  C : Cmp M A E s kd D lt
  da : ∀ x, x ∈ a.toList → D x
  db : ∀ x, x ∈ b.toList → D x
  lst : ∀ x y, a.toList[a.size - 1]? = some x → y ∈ b.toList → Le lt y x
def N6 (lt : Keyed → Keyed → Bool) (a b : V) (n : Nat) (c : L6) : Prop := ∃ o i j p q, c = (none, o, i, j, p, q) ∧ I1 lt a b o i j ∧ n ≤ o.size
def P6 (lt : Keyed → Keyed → Bool) (a b : V) (n : Nat) (c : L6) : Prop := (∃ r e, c = (some r, e) ∧ FinA lt a b r) ∨ N6 lt a b n c
def N7 (lt : Keyed → Keyed → Bool) (a b : V) (n : Nat) (c : L7) : Prop := ∃ o i j g p q, c = (none, o, i, j, g, p, q) ∧ I1 lt a b o i j ∧ n ≤ o.size
def P7 (lt : Keyed → Keyed → Bool) (a b : V) (n : Nat) (c : L7) : Prop := (∃ r e, c = (some r, e) ∧ FinA lt a b r) ∨ N7 lt a b n c
theorem wp_one1 (Z : Set2 M A E s kd D lt a b) {st : SortSt} (hk : kindOf st = kd) {o : V} {i j p q g : Nat} (h : I1 lt a b o i j) {Q : ForInStep L6 → SortSt → Prop}
    (hd : ∀ c, P6 lt a b (o.size + 1) c → Q (.done c) st) (hy : ∀ c, N6 lt a b (o.size + 1) c → Q (.yield c) st) : wpS M A E s (one1 a b g (none, o, i, j, p, q)) Q st := by
  obtain ⟨h1, h2, h3⟩ := h
  obtain ⟨y, ey⟩ := at_lt h2
  obtain ⟨x, ex⟩ := at_lt (v := a) (i := i) (by omega)
  have hb := heads Z.C.rf h3.sb ey
  have ha := heads Z.C.rf h3.sa ex
  unfold one1
  refine wpS_bind (wp_elem ey (wpS_bind (wp_elem ex (wpS_bind (Z.C.go y x (Z.db y (List.mem_of_getElem? ey)) (Z.da x (List.mem_of_getElem? ex)) st hk _ ?_)))))
  cases hlt : lt y x with
  | true =>
    have T' := h3.pushB ey fun z hz => Z.C.tr y x z (Z.C.as y x hlt) (ha z hz)
    have hs : (o.push y).size = o.size + 1 := Array.size_push ..
    refine wpS_bind (wp_elem ey ?_)
    dsimp only
    by_cases c1 : j + 1 = b.size
    · rw [if_pos (by simpa using c1)]
      exact wpS_pure (hd _ (.inl ⟨_, _, rfl, T'.dnB (by omega)⟩))
    · rw [if_neg (by simpa using c1)]
      have I' : I1 lt a b (o.push y) i (j + 1) := ⟨h1, by omega, T'⟩
      split
      · exact wpS_pure (hd _ (.inr ⟨_, _, _, _, _, rfl, I', by omega⟩))
      · exact wpS_pure (hy _ ⟨_, _, _, _, _, rfl, I', by omega⟩)
  | false =>
    have T' := h3.pushA ex fun z hz => Z.C.tr x y z hlt (hb z hz)
    have hs : (o.push x).size = o.size + 1 := Array.size_push ..
    refine wpS_bind (wp_elem ex ?_)
    dsimp only
    by_cases c1 : i + 1 + 1 = a.size
    · rw [if_pos (by simpa using c1)]
      exact wpS_pure (hd _ (.inl ⟨_, _, rfl, T'.la c1 Z.lst⟩))
    · rw [if_neg (by simpa using c1)]
      have I' : I1 lt a b (o.push x) (i + 1) j := ⟨by omega, h2, T'⟩
      split
      · exact wpS_pure (hd _ (.inr ⟨_, _, _, _, _, rfl, I', by omega⟩))
      · exact wpS_pure (hy _ ⟨_, _, _, _, _, rfl, I', by omega⟩)
theorem N6.mono {n m : Nat} {c : L6} (h : N6 lt a b n c) (e : m ≤ n) : N6 lt a b m c := by
  obtain ⟨o, i, j, p, q, h1, h2, h3⟩ := h; exact ⟨o, i, j, p, q, h1, h2, by omega⟩
theorem P6.mono {n m : Nat} {c : L6} (h : P6 lt a b n c) (e : m ≤ n) : P6 lt a b m c := h.imp id fun h => h.mono e
theorem wp_in1 (Z : Set2 M A E s kd D lt a b) {st : SortSt} (hk : kindOf st = kd) {o : V} {i j g t : Nat} (ht : 1 ≤ t) (h : I1 lt a b o i j) {Q : L6 → SortSt → Prop}
    (hq : ∀ c, P6 lt a b (o.size + 1) c → Q c st) : wpS M A E s (in1 a b t g (none, o, i, j, 0, 0)) Q st := by
  unfold in1
  refine wpS_forRange (I := fun x c st' => st' = st ∧ N6 lt a b (o.size + x) c) ?_ ?_ ⟨rfl, o, i, j, 0, 0, rfl, h, by omega⟩
  · rintro x c st' _ _ ⟨rfl, o', i', j', p', q', rfl, h', hn⟩
    refine wp_one1 Z hk h' (fun c hc => hq c (hc.mono (by omega))) (fun c hc => ⟨rfl, hc.mono (by omega)⟩)
  · rintro c st' ⟨rfl, hN⟩
    exact hq c (.inr (hN.mono (by omega)))
theorem wp_two4 (Z : Set2 M A E s kd D lt a b) {st : SortSt} {o : V} {i j g p q : Nat} (h1 : i + 1 < a.size) (h2 : j < b.size) (h3 : TwoA lt a b o i j)
    (hl : ∀ x, a.toList[i]? = some x → ∀ y, y ∈ b.toList.drop j → Le lt x y) {n : Nat} (hn : n ≤ o.size) {Q : ForInStep L7 → SortSt → Prop}
    (hd : ∀ c, P7 lt a b n c → Q (.done c) st) (hy : ∀ c, N7 lt a b n c → Q (.yield c) st) : wpS M A E s (two4 a b o i j g p q) Q st := by
  obtain ⟨x, ex⟩ := at_lt (v := a) (i := i) (by omega)
  have T' := h3.pushA ex (hl x ex)
  have hs : (o.push x).size = o.size + 1 := Array.size_push ..
  unfold two4
  refine wpS_bind (wp_elem ex ?_)
  by_cases c1 : i + 1 + 1 = a.size
  · rw [if_pos (by simpa using c1)]
    exact wpS_pure (hd _ (.inl ⟨_, _, rfl, T'.la c1 Z.lst⟩))
  · rw [if_neg (by simpa using c1)]
    have I' : I1 lt a b (o.push x) (i + 1) j := ⟨by omega, h2, T'⟩
    split
    · exact wpS_pure (hd _ (.inr ⟨_, _, _, _, _, _, rfl, I', by omega⟩))
    · exact wpS_pure (hy _ ⟨_, _, _, _, _, _, rfl, I', by omega⟩)
theorem wp_two3 (Z : Set2 M A E s kd D lt a b) {st : SortSt} (hk : kindOf st = kd) {o : V} {i j g p q : Nat} (h1 : i + 1 < a.size) (h2 : j < b.size) (h3 : TwoA lt a b o i j)
    (hl : ∀ y, b.toList[j]? = some y → ∀ x, x ∈ a.toList.drop i → Le lt y x) {n : Nat} (hn : n ≤ o.size) {Q : ForInStep L7 → SortSt → Prop}
    (hd : ∀ c, P7 lt a b n c → Q (.done c) st) (hy : ∀ c, N7 lt a b n c → Q (.yield c) st) : wpS M A E s (two3 a b o i j g p q) Q st := by
  obtain ⟨y, ey⟩ := at_lt h2
  obtain ⟨x, ex⟩ := at_lt (v := a) (i := i) (by omega)
  have T' := h3.pushB ey (hl y ey)
  have hs : (o.push y).size = o.size + 1 := Array.size_push ..
  have ha := heads Z.C.rf h3.sa ex
  unfold two3
  refine wpS_bind (wp_elem ey ?_)
  by_cases c1 : j + 1 = b.size
  · rw [if_pos (by simpa using c1)]
    exact wpS_pure (hd _ (.inl ⟨_, _, rfl, T'.dnB (by omega)⟩))
  · rw [if_neg (by simpa using c1)]
    refine wpS_bind (wp_elem ex (wpS_bind (wp_galL Z.C hk Z.db (Z.da x (List.mem_of_getElem? ex)) (by omega) (by omega) (sl_drop T'.sb Z.C.rf) fun k k1 k2 k3 => ?_)))
    dsimp only
    by_cases ck : k > 0
    · rw [if_pos ck]
      have T2 := T'.cutB (k := k) fun m z hm hz x' hx' => Z.C.tr z x x' (Z.C.as z x (k2 m z hm hz)) (ha x' hx')
      have hs2 : (o.push y ++ b.extract (j + 1) (j + 1 + k)).size ≥ o.size + 1 := by rw [Array.size_append]; omega
      by_cases c2 : j + 1 + k = b.size
      · rw [if_pos (by simpa using c2)]
        exact wpS_pure (hd _ (.inl ⟨_, _, rfl, T2.dnB (by omega)⟩))
      · rw [if_neg (by simpa using c2)]
        refine wp_two4 Z h1 (by omega) T2 (fun x' hx' y' hy' => ?_) (by omega) hd hy
        rw [ex] at hx'; cases hx'
        obtain ⟨m, m1, m2⟩ := mem_drop_at hy'
        rw [Array.length_toList] at m1
        exact k3 (k + m) y' (by omega) (by omega) (by rw [← Nat.add_assoc]; exact m2)
    · rw [if_neg ck]
      refine wp_two4 Z h1 (by omega) T' (fun x' hx' y' hy' => ?_) (by omega) hd hy
      rw [ex] at hx'; cases hx'
      obtain ⟨m, m1, m2⟩ := mem_drop_at hy'
      rw [Array.length_toList] at m1
      exact k3 m y' (by omega) (by omega) m2
theorem wp_two2 (Z : Set2 M A E s kd D lt a b) {st0 st : SortSt} (hg : Sg st0 st) (hk : kindOf st0 = kd) {o : V} {i j g p q : Nat} (h : I1 lt a b o i j) {n : Nat} (hn : n ≤ o.size)
    {Q : ForInStep L7 → SortSt → Prop} (hd : ∀ c st, Sg st0 st → P7 lt a b n c → Q (.done c) st) (hy : ∀ c st, Sg st0 st → N7 lt a b n c → Q (.yield c) st) :
    wpS M A E s (two2 a b o i j g p q) Q st := by
  obtain ⟨h1, h2, h3⟩ := h
  obtain ⟨y, ey⟩ := at_lt h2
  have hb := heads Z.C.rf h3.sb ey
  unfold two2
  refine wpS_bind (wp_setG hg fun st' hg' => ?_)
  have hk' : kindOf st' = kd := hg'.kind.trans hk
  refine wpS_bind (wp_elem ey (wpS_bind (wp_galR Z.C hk' Z.da (Z.db y (List.mem_of_getElem? ey)) (by omega) (by omega) (sl_drop h3.sa Z.C.rf) fun k k1 k2 k3 => ?_)))
  dsimp only
  by_cases ck : k > 0
  · rw [if_pos ck]
    have T2 := h3.cutA (k := k) fun m z hm hz y' hy' => Z.C.tr z y y' (k2 m z hm hz) (hb y' hy')
    have hs2 : (o ++ a.extract i (i + k)).size ≥ o.size := by rw [Array.size_append]; omega
    by_cases c1 : i + k + 1 = a.size
    · rw [if_pos (by simpa using c1)]
      exact wpS_pure (hd _ _ hg' (.inl ⟨_, _, rfl, T2.la c1 Z.lst⟩))
    · rw [if_neg (by simpa using c1)]
      by_cases c2 : i + k = a.size
      · rw [if_pos (by simpa using c2)]
        exact wpS_pure (hd _ _ hg' (.inl ⟨_, _, rfl, T2.dnA (by omega)⟩))
      · rw [if_neg (by simpa using c2)]
        refine wp_two3 Z hk' (by omega) h2 T2 (fun y' hy' x' hx' => ?_) (by omega) (fun c hc => hd c _ hg' hc) (fun c hc => hy c _ hg' hc)
        rw [ey] at hy'; cases hy'
        obtain ⟨m, m1, m2⟩ := mem_drop_at hx'
        rw [Array.length_toList] at m1
        exact Z.C.as _ _ (k3 (k + m) x' (by omega) (by omega) (by rw [← Nat.add_assoc]; exact m2))
  · rw [if_neg ck]
    refine wp_two3 Z hk' h1 h2 h3 (fun y' hy' x' hx' => ?_) hn (fun c hc => hd c _ hg' hc) (fun c hc => hy c _ hg' hc)
    rw [ey] at hy'; cases hy'
    obtain ⟨m, m1, m2⟩ := mem_drop_at hx'
    rw [Array.length_toList] at m1
    exact Z.C.as _ _ (k3 m x' (by omega) (by omega) m2)
theorem wp_in2 (Z : Set2 M A E s kd D lt a b) {st0 st : SortSt} (hg : Sg st0 st) (hk : kindOf st0 = kd) {o : V} {i j g p q t : Nat} (h : I1 lt a b o i j) {n : Nat} (hn : n ≤ o.size)
    {Q : L7 → SortSt → Prop} (hq : ∀ c st, Sg st0 st → P7 lt a b n c → Q c st) : wpS M A E s (in2 a b t (none, o, i, j, g, p, q)) Q st := by
  unfold in2
  refine wpS_forRange (I := fun x c st' => Sg st0 st' ∧ N7 lt a b n c) ?_ ?_ ⟨hg, o, i, j, g, p, q, rfl, h, hn⟩
  · rintro x c st' _ _ ⟨hg', o', i', j', g', p', q', rfl, h', hn'⟩
    dsimp only
    split
    · exact wp_two2 Z hg' hk h' hn' (fun c st hs hc => hq c st hs hc) (fun c st hs hc => ⟨hs, hc⟩)
    · exact wp_two2 Z hg' hk h' hn' (fun c st hs hc => hq c st hs hc) (fun c st hs hc => ⟨hs, hc⟩)
  · rintro c st' ⟨hg', hN⟩
    exact hq c st' hg' (.inr hN)
theorem wp_mLo (Z : Set2 M A E s kd D lt a b) {st : SortSt} (hk : kindOf st = kd) (sa : a.toList.Pairwise (Le lt)) (sb : b.toList.Pairwise (Le lt)) (na : 1 ≤ a.size) (nb : 1 ≤ b.size)
    (h0 : ∀ x y, a.toList[0]? = some x → b.toList[0]? = some y → Le lt y x)
    {Q : V → SortSt → Prop} (hq : ∀ r st', Sg st st' → FinA lt a b r → Q r st') : wpS M A E s (mergeLo' a b) Q st := by
  rw [mergeLo_mLo]
  unfold mLo
  refine wpS_bind (wpS_rule ?_)
  obtain ⟨y, ey⟩ := at_lt (v := b) (i := 0) (by omega)
  obtain ⟨x, ex⟩ := at_lt (v := a) (i := 0) (by omega)
  have T0 : TwoA lt a b #[] 0 0 := ⟨by simpa using sa, by simpa using sb, by simp⟩
  have hax := heads Z.C.rf T0.sa ex
  have T1 : TwoA lt a b #[y] 0 1 := T0.pushB ey fun z hz => Z.C.tr y x z (h0 x y ex ey) (hax z hz)
  refine wpS_bind (wp_elem ey ?_)
  by_cases c1 : 1 = b.size
  · rw [if_pos (by simpa using c1)]
    exact wpS_pure (hq _ _ (Sg.refl st) (T1.dnB (by omega)))
  · rw [if_neg (by simpa using c1)]
    by_cases c2 : 0 + 1 = a.size
    · rw [if_pos (by simpa using c2)]
      exact wpS_pure (hq _ _ (Sg.refl st) (T1.la c2 Z.lst))
    · rw [if_neg (by simpa using c2)]
      refine wpS_bind (wpS_get ?_)
      refine wpS_bind (wpS_mono (m := outL a b (a.size + b.size) (none, #[y], 0, 1, gallopOf st)) (Q := fun c st' => Sg st st' ∧ ∃ r e, c = (some r, e) ∧ FinA lt a b r) ?_ ?_)
      · unfold outL
        refine wpS_forRange (I := fun x c st' => Sg st st' ∧ ∃ o i j g, c = (none, o, i, j, g) ∧ I1 lt a b o i j ∧ x + 1 ≤ o.size) ?_ ?_ ⟨Sg.refl st, _, _, _, _, rfl, ⟨by omega, by omega, T1⟩, by simp⟩
        · rintro n c st' _ _ ⟨hg, o, i, j, g, rfl, hI, hn⟩
          dsimp only
          refine wpS_bind (wp_in1 Z (hg.kind.trans hk) (by omega) hI fun d hd => ?_)
          rcases hd with ⟨r, e, rfl, hF⟩ | ⟨o', i', j', p', q', rfl, hI', hn'⟩
          · exact wpS_pure ⟨hg, r, _, rfl, hF⟩
          · dsimp only
            refine wpS_bind (wpS_rule ?_)
            refine wpS_bind (wp_in2 Z hg hk hI' hn' fun e st2 hg2 he => ?_)
            rcases he with ⟨r, e, rfl, hF⟩ | ⟨o2, i2, j2, g2, p2, q2, rfl, hI2, hn2⟩
            · exact wpS_pure ⟨hg2, r, _, rfl, hF⟩
            · dsimp only
              refine wpS_bind (wp_setG hg2 fun st3 hg3 => ?_)
              exact wpS_pure ⟨hg3, o2, i2, j2, _, rfl, hI2, by omega⟩
        · rintro c st' ⟨hg, o, i, j, g, rfl, hI, hn⟩
          have := hI.2.2.len
          omega
      · rintro c st' ⟨hg, r, e, rfl, hF⟩
        exact wpS_pure (hq r st' hg hF)
end
end Srt
set_option autoImplicit false
namespace Srt
open PySem PyProof.Rows
abbrev H5 := Option V × Nat × Nat × V × Nat
abbrev H6 := Option V × Nat × Nat × V × Nat × Nat
abbrev H7 := Option V × Nat × Nat × V × Nat × Nat × Nat
abbrev dnH (a b o : V) (i j : Nat) : V := a.extract 0 i ++ b.extract 0 j ++ o.reverse
abbrev fbH (a b o : V) (i j : Nat) : V := b.extract 0 j ++ a.extract 0 i ++ o.reverse
noncomputable def hone (a b : V) (g : Nat) (c : H6) : SM (ForInStep H6) :=
  elem' b (c.2.2.1 - 1) >>= fun y => elem' a (c.2.1 - 1) >>= fun x => lt' y x >>= fun r => match r with
    | some q => if q = true then elem' a (c.2.1 - 1) >>= fun x =>
          if (c.2.1 - 1 == 0) = true then pure (.done (some (dnH a b (c.2.2.2.1.push x) (c.2.1 - 1) c.2.2.1), c.2.1 - 1, c.2.2.1, c.2.2.2.1.push x, c.2.2.2.2.1 + 1, 0))
          else if c.2.2.2.2.1 + 1 ≥ g then pure (.done (none, c.2.1 - 1, c.2.2.1, c.2.2.2.1.push x, c.2.2.2.2.1 + 1, 0))
          else pure (.yield (none, c.2.1 - 1, c.2.2.1, c.2.2.2.1.push x, c.2.2.2.2.1 + 1, 0))
        else elem' b (c.2.2.1 - 1) >>= fun y =>
          if (c.2.2.1 - 1 == 1) = true then pure (.done (some (fbH a b (c.2.2.2.1.push y) c.2.1 (c.2.2.1 - 1)), c.2.1, c.2.2.1 - 1, c.2.2.2.1.push y, 0, c.2.2.2.2.2 + 1))
          else if c.2.2.2.2.2 + 1 ≥ g then pure (.done (none, c.2.1, c.2.2.1 - 1, c.2.2.2.1.push y, 0, c.2.2.2.2.2 + 1))
          else pure (.yield (none, c.2.1, c.2.2.1 - 1, c.2.2.2.1.push y, 0, c.2.2.2.2.2 + 1))
    | _ => pure (.done (some (dnH a b c.2.2.2.1 c.2.1 c.2.2.1), c.2.1, c.2.2.1, c.2.2.2.1, c.2.2.2.2.1, c.2.2.2.2.2))
noncomputable def hin1 (a b : V) (t g : Nat) (c : H6) : SM H6 := forIn [0:t] c fun _ c => hone a b g c
noncomputable def hw4 (a b o : V) (i j g p q : Nat) : SM (ForInStep H7) :=
  elem' a (i - 1) >>= fun x => if (i - 1 == 0) = true then pure (.done (some (dnH a b (o.push x) (i - 1) j), i - 1, j, o.push x, g, p, q))
    else if (decide (p < 7) && decide (q < 7)) = true then pure (.done (none, i - 1, j, o.push x, g, p, q)) else pure (.yield (none, i - 1, j, o.push x, g, p, q))
noncomputable def hw3 (a b o : V) (i j g p q : Nat) : SM (ForInStep H7) :=
  elem' b (j - 1) >>= fun y => if (j - 1 == 1) = true then pure (.done (some (fbH a b (o.push y) i (j - 1)), i, j - 1, o.push y, g, p, q))
    else elem' a (i - 1) >>= fun x => gallop' true x b 0 (j - 1) (j - 1 - 1) >>= fun r => match r with
      | some k => if j - 1 - k > 0 then
            if (k == 1) = true then pure (.done (some (fbH a b (o.push y ++ (b.extract k (j - 1)).reverse) i k), i, k, o.push y ++ (b.extract k (j - 1)).reverse, g, p, j - 1 - k))
            else if (k == 0) = true then pure (.done (some (dnH a b (o.push y ++ (b.extract k (j - 1)).reverse) i k), i, k, o.push y ++ (b.extract k (j - 1)).reverse, g, p, j - 1 - k))
            else hw4 a b (o.push y ++ (b.extract k (j - 1)).reverse) i k g p (j - 1 - k)
          else hw4 a b (o.push y) i (j - 1) g p (j - 1 - k)
      | _ => pure (.done (some (dnH a b (o.push y) i (j - 1)), i, j - 1, o.push y, g, p, q))
noncomputable def hw2 (a b o : V) (i j g p q : Nat) : SM (ForInStep H7) :=
  setMinGallop' g >>= fun _ => elem' b (j - 1) >>= fun y => gallop' false y a 0 i (i - 1) >>= fun r => match r with
    | some k => if i - k > 0 then
          if (k == 0) = true then pure (.done (some (dnH a b (o ++ (a.extract k i).reverse) k j), k, j, o ++ (a.extract k i).reverse, g, i - k, q))
          else hw3 a b (o ++ (a.extract k i).reverse) k j g (i - k) q
        else hw3 a b o i j g (i - k) q
    | _ => pure (.done (some (dnH a b o i j), i, j, o, g, p, q))
noncomputable def hin2 (a b : V) (t : Nat) (c : H7) : SM H7 := forIn [0:t] c fun _ c =>
  if c.2.2.2.2.1 > 1 then hw2 a b c.2.2.2.1 c.2.1 c.2.2.1 (c.2.2.2.2.1 - 1) c.2.2.2.2.2.1 c.2.2.2.2.2.2
  else hw2 a b c.2.2.2.1 c.2.1 c.2.2.1 c.2.2.2.2.1 c.2.2.2.2.2.1 c.2.2.2.2.2.2
noncomputable def outH (a b : V) (t : Nat) (c : H5) : SM H5 := forIn [0:t] c fun _ c =>
  hin1 a b t c.2.2.2.2 (none, c.2.1, c.2.2.1, c.2.2.2.1, 0, 0) >>= fun d => match d.1 with
    | some r => pure (.done (some r, d.2.1, d.2.2.1, d.2.2.2.1, c.2.2.2.2))
    | none => liftM (rule "list.sort.gallop") >>= fun _ => hin2 a b t (none, d.2.1, d.2.2.1, d.2.2.2.1, c.2.2.2.2 + 1, d.2.2.2.2.1, d.2.2.2.2.2) >>= fun e => match e.1 with
      | some r => pure (.done (some r, e.2.1, e.2.2.1, e.2.2.2.1, e.2.2.2.2.1))
      | none => setMinGallop' (e.2.2.2.2.1 + 1) >>= fun _ => pure (.yield (none, e.2.1, e.2.2.1, e.2.2.2.1, e.2.2.2.2.1 + 1))
noncomputable def mHi (a b : V) : SM V :=
  liftM (rule "list.sort.merge-hi") >>= fun _ => elem' a (a.size - 1) >>= fun x => if (a.size - 1 == 0) = true then pure (dnH a b #[x] (a.size - 1) b.size)
    else if (b.size == 1) = true then pure (fbH a b #[x] (a.size - 1) b.size)
    else get >>= fun st => outH a b (a.size + b.size) (none, a.size - 1, b.size, #[x], gallopOf st) >>= fun c => match c.1 with
      | some r => pure r
      | none => liftM (unsupported "internal:list.sort.merge-bound")
theorem mergeHi_mHi (a b : V) : mergeHi' a b = mHi a b := by kernel_rfl
theorem ex_fst (v : V) (i : Nat) : (v.extract 0 i).toList = v.toList.take i := by
  rw [Array.toList_extract, List.extract_eq_take_drop]; rfl
theorem ex_mid (v : V) (t i : Nat) : (v.extract t i).toList = (v.toList.take i).drop t := by
  rw [Array.toList_extract, List.extract_eq_take_drop, List.drop_take]
theorem mem_mid_at {β : Type} {l : List β} {t i : Nat} {z : β} (h : z ∈ (l.take i).drop t) : ∃ n, t ≤ n ∧ n < i ∧ l[n]? = some z := by
  obtain ⟨j, h1, h2⟩ := mem_drop_at h
  rw [List.length_take] at h1
  rw [List.getElem?_take_of_lt (by omega)] at h2
  exact ⟨t + j, by omega, by omega, h2⟩
theorem take_at {β : Type} {l : List β} {i : Nat} {x : β} (h : l[i]? = some x) : l.take (i + 1) = l.take i ++ [x] := by
  obtain ⟨hi, e⟩ := List.getElem?_eq_some_iff.mp h
  rw [← e]; exact (List.take_append_getElem hi).symm
theorem tails {β : Type} {le : β → β → Prop} (rf : ∀ x, le x x) {l : List β} {i : Nat} {x : β} (h : (l.take (i + 1)).Pairwise le) (e : l[i]? = some x) : ∀ z, z ∈ l.take (i + 1) → le z x := by
  rw [take_at e] at h ⊢
  intro z hz
  rcases List.mem_append.mp hz with q | q
  · exact (List.pairwise_append.mp h).2.2 z q x (List.mem_singleton.mpr rfl)
  · rw [List.mem_singleton.mp q]; exact rf x
section
variable {M : Model} {A : Around} {E : Value → Shared → Prop} {s : Shared} {kd : SortKind} {D : Keyed → Prop} {lt : Keyed → Keyed → Bool} {a b : V}
theorem sl_take {l : List Keyed} {n : Nat} (h : (l.take n).Pairwise (Le lt)) (rf : ∀ x, Le lt x x) : SL lt l 0 n := by
  intro p q x y h1 h2 hx hy
  rw [Nat.zero_add] at hx hy
  by_cases e : p = q
  · subst e; rw [hx] at hy; cases hy; exact rf x
  · obtain ⟨b1, e1⟩ := List.getElem?_eq_some_iff.mp hx
    obtain ⟨b2, e2⟩ := List.getElem?_eq_some_iff.mp hy
    have := List.pairwise_iff_getElem.mp h p q (by rw [List.length_take]; omega) (by rw [List.length_take]; omega) (by omega)
    rw [List.getElem_take, List.getElem_take, e1, e2] at this
    exact this
abbrev TwoH (lt : Keyed → Keyed → Bool) (a b o : V) (i j : Nat) : Prop := TwoR (Le lt) (a.toList ++ b.toList) (a.toList.take i) (b.toList.take j) o.toList.reverse
theorem TwoH.sa {o : V} {i j : Nat} (h : TwoH lt a b o i j) : (a.toList.take i).Pairwise (Le lt) := (List.pairwise_append.mp h.hx).1
theorem TwoH.sb {o : V} {i j : Nat} (h : TwoH lt a b o i j) : (b.toList.take j).Pairwise (Le lt) := (List.pairwise_append.mp h.hy).1
theorem TwoH.pushA {o : V} {i j : Nat} {x : Keyed} (h : TwoH lt a b o (i + 1) j) (e : a.toList[i]? = some x) (hl : ∀ y, y ∈ b.toList.take j → Le lt y x) : TwoH lt a b (o.push x) i j := by
  have h' : TwoR (Le lt) (a.toList ++ b.toList) (a.toList.take i ++ [x]) (b.toList.take j) o.toList.reverse := by rw [← take_at e]; exact h
  have := h'.movexs fun y hy z hz => by rw [List.mem_singleton.mp hz]; exact hl y hy
  show TwoR _ _ _ _ (o.push x).toList.reverse
  rw [Array.toList_push, List.reverse_append]; exact this
theorem TwoH.pushB {o : V} {i j : Nat} {y : Keyed} (h : TwoH lt a b o i (j + 1)) (e : b.toList[j]? = some y) (hl : ∀ x, x ∈ a.toList.take i → Le lt x y) : TwoH lt a b (o.push y) i j := by
  have h' : TwoR (Le lt) (a.toList ++ b.toList) (a.toList.take i) (b.toList.take j ++ [y]) o.toList.reverse := by rw [← take_at e]; exact h
  have := h'.moveys fun x hx z hz => by rw [List.mem_singleton.mp hz]; exact hl x hx
  show TwoR _ _ _ _ (o.push y).toList.reverse
  rw [Array.toList_push, List.reverse_append]; exact this
theorem rev_cut (o v : V) (t i : Nat) : (o ++ (v.extract t i).reverse).toList.reverse = (v.toList.take i).drop t ++ o.toList.reverse := by
  rw [Array.toList_append, List.reverse_append, Array.toList_reverse, List.reverse_reverse, ex_mid]
theorem TwoH.cutA {o : V} {i j t : Nat} (ht : t ≤ i) (h : TwoH lt a b o i j) (hl : ∀ n z, t ≤ n → n < i → a.toList[n]? = some z → ∀ y, y ∈ b.toList.take j → Le lt y z) : TwoH lt a b (o ++ (a.extract t i).reverse) t j := by
  have h' : TwoR (Le lt) (a.toList ++ b.toList) (a.toList.take t ++ (a.toList.take i).drop t) (b.toList.take j) o.toList.reverse := by rw [← take_cut _ t i ht]; exact h
  have := h'.movexs fun y hy z hz => by obtain ⟨n, h1, h2, h3⟩ := mem_mid_at hz; exact hl n z h1 h2 h3 y hy
  show TwoR _ _ _ _ (o ++ (a.extract t i).reverse).toList.reverse
  rw [rev_cut]; exact this
theorem TwoH.cutB {o : V} {i j t : Nat} (ht : t ≤ j) (h : TwoH lt a b o i j) (hl : ∀ n z, t ≤ n → n < j → b.toList[n]? = some z → ∀ x, x ∈ a.toList.take i → Le lt x z) : TwoH lt a b (o ++ (b.extract t j).reverse) i t := by
  have h' : TwoR (Le lt) (a.toList ++ b.toList) (a.toList.take i) (b.toList.take t ++ (b.toList.take j).drop t) o.toList.reverse := by rw [← take_cut _ t j ht]; exact h
  have := h'.moveys fun x hx z hz => by obtain ⟨n, h1, h2, h3⟩ := mem_mid_at hz; exact hl n z h1 h2 h3 x hx
  show TwoR _ _ _ _ (o ++ (b.extract t j).reverse).toList.reverse
  rw [rev_cut]; exact this
theorem TwoH.dn {o : V} {i j : Nat} (h : TwoH lt a b o i j) (hz : i = 0 ∨ j = 0) : FinA lt a b (dnH a b o i j) := by
  have e : (dnH a b o i j).toList = a.toList.take i ++ b.toList.take j ++ o.toList.reverse := by rw [Array.toList_append, Array.toList_append, ex_fst, ex_fst, Array.toList_reverse]
  unfold FinA; rw [e]
  refine h.fin fun x hx y hy => ?_
  rcases hz with rfl | rfl
  · cases hx
  · cases hy
theorem TwoH.fb {o : V} {i : Nat} (h : TwoH lt a b o i 1) (hz : ∀ x y, x ∈ a.toList → b.toList[0]? = some y → Le lt y x) : FinA lt a b (fbH a b o i 1) := by
  have e : (fbH a b o i 1).toList = b.toList.take 1 ++ a.toList.take i ++ o.toList.reverse := by rw [Array.toList_append, Array.toList_append, ex_fst, ex_fst, Array.toList_reverse]
  unfold FinA; rw [e]
  refine h.swap.fin fun y hy x hx => ?_
  obtain ⟨n, h1, h2, h3⟩ := mem_take_at hy
  exact hz x y (List.mem_of_mem_take hx) (by rw [show 0 = n by omega]; exact h3)
theorem TwoH.len {o : V} {i j : Nat} (h : TwoH lt a b o i j) (h1 : i ≤ a.size) (h2 : j ≤ b.size) : o.size + (i + j) = a.size + b.size := by
  have := h.pm.length_eq
  simp only [List.length_append, List.length_take, List.length_reverse, Array.length_toList] at this
  omega
def J1 (lt : Keyed → Keyed → Bool) (a b o : V) (i j : Nat) : Prop := 1 ≤ i ∧ i ≤ a.size ∧ 2 ≤ j ∧ j ≤ b.size ∧ TwoH lt a b o i j
structure Set3 (M : Model) (A : Around) (E : Value → Shared → Prop) (s : Shared) (kd : SortKind) (D : Keyed → Prop) (lt : Keyed → Keyed → Bool) (a b : V) : Prop extends Set2 M A E s kd D lt a b where
  fst : ∀ x y, x ∈ a.toList → b.toList[0]? = some y → Le lt y x
def R6 (lt : Keyed → Keyed → Bool) (a b : V) (n : Nat) (c : H6) : Prop := ∃ i j o p q, c = (none, i, j, o, p, q) ∧ J1 lt a b o i j ∧ n ≤ o.size
def S6 (lt : Keyed → Keyed → Bool) (a b : V) (n : Nat) (c : H6) : Prop := (∃ r e, c = (some r, e) ∧ FinA lt a b r) ∨ R6 lt a b n c
def R7 (lt : Keyed → Keyed → Bool) (a b : V) (n : Nat) (c : H7) : Prop := ∃ i j o g p q, c = (none, i, j, o, g, p, q) ∧ J1 lt a b o i j ∧ n ≤ o.size
def S7 (lt : Keyed → Keyed → Bool) (a b : V) (n : Nat) (c : H7) : Prop := (∃ r e, c = (some r, e) ∧ FinA lt a b r) ∨ R7 lt a b n c
theorem R6.mono {n m : Nat} {c : H6} (h : R6 lt a b n c) (e : m ≤ n) : R6 lt a b m c := by
  obtain ⟨o, i, j, p, q, h1, h2, h3⟩ := h; exact ⟨o, i, j, p, q, h1, h2, by omega⟩
theorem S6.mono {n m : Nat} {c : H6} (h : S6 lt a b n c) (e : m ≤ n) : S6 lt a b m c := h.imp id fun h => h.mono e
theorem wp_hone (Z : Set3 M A E s kd D lt a b) {st : SortSt} (hk : kindOf st = kd) {o : V} {i j p q g : Nat} (h : J1 lt a b o i j) {Q : ForInStep H6 → SortSt → Prop}
    (hd : ∀ c, S6 lt a b (o.size + 1) c → Q (.done c) st) (hy : ∀ c, R6 lt a b (o.size + 1) c → Q (.yield c) st) : wpS M A E s (hone a b g (none, i, j, o, p, q)) Q st := by
  obtain ⟨h1, h2, h3, h4, h5⟩ := h
  obtain ⟨i, rfl⟩ : ∃ k, i = k + 1 := ⟨i - 1, by omega⟩
  obtain ⟨j, rfl⟩ : ∃ k, j = k + 1 := ⟨j - 1, by omega⟩
  obtain ⟨y, ey⟩ := at_lt (v := b) (i := j) (by omega)
  obtain ⟨x, ex⟩ := at_lt (v := a) (i := i) (by omega)
  have hb := tails Z.C.rf h5.sb ey
  have ha := tails Z.C.rf h5.sa ex
  unfold hone
  simp only [Nat.add_sub_cancel]
  refine wpS_bind (wp_elem ey (wpS_bind (wp_elem ex (wpS_bind (Z.C.go y x (Z.db y (List.mem_of_getElem? ey)) (Z.da x (List.mem_of_getElem? ex)) st hk _ ?_)))))
  cases hlt : lt y x with
  | true =>
    have T' := h5.pushA ex fun z hz => Z.C.tr z y x (hb z hz) (Z.C.as y x hlt)
    have hs : (o.push x).size = o.size + 1 := Array.size_push ..
    refine wpS_bind (wp_elem ex ?_)
    by_cases c1 : i = 0
    · rw [if_pos (by simpa using c1)]
      exact wpS_pure (hd _ (.inl ⟨_, _, rfl, T'.dn (.inl c1)⟩))
    · rw [if_neg (by simpa using c1)]
      have I' : J1 lt a b (o.push x) i (j + 1) := ⟨by omega, by omega, h3, h4, T'⟩
      split
      · exact wpS_pure (hd _ (.inr ⟨_, _, _, _, _, rfl, I', by omega⟩))
      · exact wpS_pure (hy _ ⟨_, _, _, _, _, rfl, I', by omega⟩)
  | false =>
    have T' := h5.pushB ey fun z hz => Z.C.tr z x y (ha z hz) hlt
    have hs : (o.push y).size = o.size + 1 := Array.size_push ..
    refine wpS_bind (wp_elem ey ?_)
    by_cases c1 : j = 1
    · rw [if_pos (by simpa using c1)]
      subst c1
      exact wpS_pure (hd _ (.inl ⟨_, _, rfl, T'.fb Z.fst⟩))
    · rw [if_neg (by simpa using c1)]
      have I' : J1 lt a b (o.push y) (i + 1) j := ⟨h1, h2, by omega, by omega, T'⟩
      split
      · exact wpS_pure (hd _ (.inr ⟨_, _, _, _, _, rfl, I', by omega⟩))
      · exact wpS_pure (hy _ ⟨_, _, _, _, _, rfl, I', by omega⟩)
theorem wp_hin1 (Z : Set3 M A E s kd D lt a b) {st : SortSt} (hk : kindOf st = kd) {o : V} {i j g t : Nat} (ht : 1 ≤ t) (h : J1 lt a b o i j) {Q : H6 → SortSt → Prop}
    (hq : ∀ c, S6 lt a b (o.size + 1) c → Q c st) : wpS M A E s (hin1 a b t g (none, i, j, o, 0, 0)) Q st := by
  unfold hin1
  refine wpS_forRange (I := fun x c st' => st' = st ∧ R6 lt a b (o.size + x) c) ?_ ?_ ⟨rfl, i, j, o, 0, 0, rfl, h, by omega⟩
  · rintro x c st' _ _ ⟨rfl, i', j', o', p', q', rfl, h', hn⟩
    refine wp_hone Z hk h' (fun c hc => hq c (hc.mono (by omega))) (fun c hc => ⟨rfl, hc.mono (by omega)⟩)
  · rintro c st' ⟨rfl, hN⟩
    exact hq c (.inr (hN.mono (by omega)))
theorem wp_hw4 (Z : Set3 M A E s kd D lt a b) {st : SortSt} {o : V} {i j g p q : Nat} (h1 : i + 1 ≤ a.size) (h2 : 2 ≤ j) (h2' : j ≤ b.size) (h3 : TwoH lt a b o (i + 1) j)
    (hl : ∀ x, a.toList[i]? = some x → ∀ y, y ∈ b.toList.take j → Le lt y x) {n : Nat} (hn : n ≤ o.size) {Q : ForInStep H7 → SortSt → Prop}
    (hd : ∀ c, S7 lt a b n c → Q (.done c) st) (hy : ∀ c, R7 lt a b n c → Q (.yield c) st) : wpS M A E s (hw4 a b o (i + 1) j g p q) Q st := by
  obtain ⟨x, ex⟩ := at_lt (v := a) (i := i) (by omega)
  have T' := h3.pushA ex (hl x ex)
  have hs : (o.push x).size = o.size + 1 := Array.size_push ..
  unfold hw4
  simp only [Nat.add_sub_cancel]
  refine wpS_bind (wp_elem ex ?_)
  by_cases c1 : i = 0
  · rw [if_pos (by simpa using c1)]
    exact wpS_pure (hd _ (.inl ⟨_, _, rfl, T'.dn (.inl c1)⟩))
  · rw [if_neg (by simpa using c1)]
    have I' : J1 lt a b (o.push x) i j := ⟨by omega, by omega, h2, h2', T'⟩
    split
    · exact wpS_pure (hd _ (.inr ⟨_, _, _, _, _, _, rfl, I', by omega⟩))
    · exact wpS_pure (hy _ ⟨_, _, _, _, _, _, rfl, I', by omega⟩)
theorem wp_hw3 (Z : Set3 M A E s kd D lt a b) {st : SortSt} (hk : kindOf st = kd) {o : V} {i j g p q : Nat} (h1 : i + 1 ≤ a.size) (h2 : 1 ≤ j) (h2' : j + 1 ≤ b.size) (h3 : TwoH lt a b o (i + 1) (j + 1))
    (hl : ∀ y, b.toList[j]? = some y → ∀ x, x ∈ a.toList.take (i + 1) → Le lt x y) {n : Nat} (hn : n ≤ o.size) {Q : ForInStep H7 → SortSt → Prop}
    (hd : ∀ c, S7 lt a b n c → Q (.done c) st) (hy : ∀ c, R7 lt a b n c → Q (.yield c) st) : wpS M A E s (hw3 a b o (i + 1) (j + 1) g p q) Q st := by
  obtain ⟨y, ey⟩ := at_lt (v := b) (i := j) (by omega)
  obtain ⟨x, ex⟩ := at_lt (v := a) (i := i) (by omega)
  have T' := h3.pushB ey (hl y ey)
  have hs : (o.push y).size = o.size + 1 := Array.size_push ..
  have ha := tails Z.C.rf h3.sa ex
  unfold hw3
  simp only [Nat.add_sub_cancel]
  refine wpS_bind (wp_elem ey ?_)
  by_cases c1 : j = 1
  · rw [if_pos (by simpa using c1)]
    subst c1
    exact wpS_pure (hd _ (.inl ⟨_, _, rfl, T'.fb Z.fst⟩))
  · rw [if_neg (by simpa using c1)]
    refine wpS_bind (wp_elem ex (wpS_bind (wp_galL Z.C hk Z.db (Z.da x (List.mem_of_getElem? ex)) (by omega) (by omega) (sl_take T'.sb Z.C.rf) fun k k1 k2 k3 => ?_)))
    dsimp only
    have hle : ∀ y', y' ∈ b.toList.take k → Le lt y' x := by
      intro y' hy'
      obtain ⟨m, m1, m2, m3⟩ := mem_take_at hy'
      exact Z.C.as _ _ (k2 m y' m1 (by rw [Nat.zero_add]; exact m3))
    by_cases ck : j - k > 0
    · rw [if_pos ck]
      have T2 := T'.cutB k1 fun m z hm1 hm2 hz x' hx' => Z.C.tr x' x z (ha x' hx') (k3 m z hm1 hm2 (by rw [Nat.zero_add]; exact hz))
      have hs2 : (o.push y ++ (b.extract k j).reverse).size ≥ o.size + 1 := by rw [Array.size_append]; omega
      by_cases c2 : k = 1
      · rw [if_pos (by simpa using c2)]
        subst c2
        exact wpS_pure (hd _ (.inl ⟨_, _, rfl, T2.fb Z.fst⟩))
      · rw [if_neg (by simpa using c2)]
        by_cases c3 : k = 0
        · rw [if_pos (by simpa using c3)]
          exact wpS_pure (hd _ (.inl ⟨_, _, rfl, T2.dn (.inr c3)⟩))
        · rw [if_neg (by simpa using c3)]
          refine wp_hw4 Z h1 (by omega) (by omega) T2 (fun x' hx' y' hy' => ?_) (by omega) hd hy
          rw [ex] at hx'; cases hx'
          exact hle y' hy'
    · rw [if_neg ck]
      have hkj : k = j := by omega
      subst hkj
      refine wp_hw4 Z h1 (by omega) (by omega) T' (fun x' hx' y' hy' => ?_) (by omega) hd hy
      rw [ex] at hx'; cases hx'
      exact hle y' hy'
theorem wp_hw2 (Z : Set3 M A E s kd D lt a b) {st0 st : SortSt} (hg : Sg st0 st) (hk : kindOf st0 = kd) {o : V} {i j g p q : Nat} (h : J1 lt a b o i j) {n : Nat} (hn : n ≤ o.size)
    {Q : ForInStep H7 → SortSt → Prop} (hd : ∀ c st, Sg st0 st → S7 lt a b n c → Q (.done c) st) (hy : ∀ c st, Sg st0 st → R7 lt a b n c → Q (.yield c) st) :
    wpS M A E s (hw2 a b o i j g p q) Q st := by
  obtain ⟨h1, h2, h3, h4, h5⟩ := h
  obtain ⟨j, rfl⟩ : ∃ k, j = k + 1 := ⟨j - 1, by omega⟩
  obtain ⟨y, ey⟩ := at_lt (v := b) (i := j) (by omega)
  have hb := tails Z.C.rf h5.sb ey
  unfold hw2
  simp only [Nat.add_sub_cancel]
  refine wpS_bind (wp_setG hg fun st' hg' => ?_)
  have hk' : kindOf st' = kd := hg'.kind.trans hk
  refine wpS_bind (wp_elem ey (wpS_bind (wp_galR Z.C hk' Z.da (Z.db y (List.mem_of_getElem? ey)) (by omega) (by omega) (sl_take h5.sa Z.C.rf) fun k k1 k2 k3 => ?_)))
  dsimp only
  have hle : ∀ x', x' ∈ a.toList.take k → Le lt x' y := by
    intro x' hx'
    obtain ⟨m, m1, m2, m3⟩ := mem_take_at hx'
    exact k2 m x' m1 (by rw [Nat.zero_add]; exact m3)
  by_cases ck : i - k > 0
  · rw [if_pos ck]
    have T2 := h5.cutA k1 fun m z hm1 hm2 hz y' hy' => Z.C.tr y' y z (hb y' hy') (Z.C.as _ _ (k3 m z hm1 hm2 (by rw [Nat.zero_add]; exact hz)))
    have hs2 : (o ++ (a.extract k i).reverse).size ≥ o.size := by rw [Array.size_append]; omega
    by_cases c1 : k = 0
    · rw [if_pos (by simpa using c1)]
      exact wpS_pure (hd _ _ hg' (.inl ⟨_, _, rfl, T2.dn (.inl c1)⟩))
    · rw [if_neg (by simpa using c1)]
      obtain ⟨k, rfl⟩ : ∃ m, k = m + 1 := ⟨k - 1, by omega⟩
      refine wp_hw3 Z hk' (by omega) (by omega) (by omega) T2 (fun y' hy' x' hx' => ?_) (by omega) (fun c hc => hd c _ hg' hc) (fun c hc => hy c _ hg' hc)
      rw [ey] at hy'; cases hy'
      exact hle x' hx'
  · rw [if_neg ck]
    have hki : k = i := by omega
    subst hki
    obtain ⟨k, rfl⟩ : ∃ m, k = m + 1 := ⟨k - 1, by omega⟩
    refine wp_hw3 Z hk' (by omega) (by omega) (by omega) h5 (fun y' hy' x' hx' => ?_) hn (fun c hc => hd c _ hg' hc) (fun c hc => hy c _ hg' hc)
    rw [ey] at hy'; cases hy'
    exact hle x' hx'
theorem wp_hin2 (Z : Set3 M A E s kd D lt a b) {st0 st : SortSt} (hg : Sg st0 st) (hk : kindOf st0 = kd) {o : V} {i j g p q t : Nat} (h : J1 lt a b o i j) {n : Nat} (hn : n ≤ o.size)
    {Q : H7 → SortSt → Prop} (hq : ∀ c st, Sg st0 st → S7 lt a b n c → Q c st) : wpS M A E s (hin2 a b t (none, i, j, o, g, p, q)) Q st := by
  unfold hin2
  refine wpS_forRange (I := fun x c st' => Sg st0 st' ∧ R7 lt a b n c) ?_ ?_ ⟨hg, i, j, o, g, p, q, rfl, h, hn⟩
  · rintro x c st' _ _ ⟨hg', i', j', o', g', p', q', rfl, h', hn'⟩
    dsimp only
    split
    · exact wp_hw2 Z hg' hk h' hn' (fun c st hs hc => hq c st hs hc) (fun c st hs hc => ⟨hs, hc⟩)
    · exact wp_hw2 Z hg' hk h' hn' (fun c st hs hc => hq c st hs hc) (fun c st hs hc => ⟨hs, hc⟩)
  · rintro c st' ⟨hg', hN⟩
    exact hq c st' hg' (.inr hN)
theorem wp_mHi (Z : Set3 M A E s kd D lt a b) {st : SortSt} (hk : kindOf st = kd) (sa : a.toList.Pairwise (Le lt)) (sb : b.toList.Pairwise (Le lt)) (na : 1 ≤ a.size) (nb : 1 ≤ b.size)
    {Q : V → SortSt → Prop} (hq : ∀ r st', Sg st st' → FinA lt a b r → Q r st') : wpS M A E s (mergeHi' a b) Q st := by
  rw [mergeHi_mHi]
  unfold mHi
  refine wpS_bind (wpS_rule ?_)
  obtain ⟨x, ex⟩ := at_lt (v := a) (i := a.size - 1) (by omega)
  have T0 : TwoH lt a b #[] (a.size - 1 + 1) b.size := by
    rw [Nat.sub_add_cancel na]
    refine ⟨?_, ?_, ?_⟩
    · rw [List.take_of_length_le (by simp)]; simpa using sa
    · rw [List.take_of_length_le (by simp)]; simpa using sb
    · rw [List.take_of_length_le (by simp), List.take_of_length_le (by simp)]; simp
  have T1 : TwoH lt a b #[x] (a.size - 1) b.size := T0.pushA ex fun y hy => Z.lst x y ex (List.mem_of_mem_take hy)
  refine wpS_bind (wp_elem ex ?_)
  by_cases c1 : a.size - 1 = 0
  · rw [if_pos (by simpa using c1)]
    exact wpS_pure (hq _ _ (Sg.refl st) (T1.dn (.inl c1)))
  · rw [if_neg (by simpa using c1)]
    by_cases c2 : b.size = 1
    · rw [if_pos (by simpa using c2)]
      rw [c2] at T1 ⊢
      exact wpS_pure (hq _ _ (Sg.refl st) (T1.fb Z.fst))
    · rw [if_neg (by simpa using c2)]
      refine wpS_bind (wpS_get ?_)
      refine wpS_bind (wpS_mono (m := outH a b (a.size + b.size) (none, a.size - 1, b.size, #[x], gallopOf st)) (Q := fun c st' => Sg st st' ∧ ∃ r e, c = (some r, e) ∧ FinA lt a b r) ?_ ?_)
      · unfold outH
        refine wpS_forRange (I := fun x c st' => Sg st st' ∧ ∃ i j o g, c = (none, i, j, o, g) ∧ J1 lt a b o i j ∧ x + 1 ≤ o.size) ?_ ?_ ⟨Sg.refl st, _, _, _, _, rfl, ⟨by omega, by omega, by omega, by omega, T1⟩, by simp⟩
        · rintro n c st' _ _ ⟨hg, i, j, o, g, rfl, hI, hn⟩
          dsimp only
          refine wpS_bind (wp_hin1 Z (hg.kind.trans hk) (by omega) hI fun d hd => ?_)
          rcases hd with ⟨r, e, rfl, hF⟩ | ⟨i', j', o', p', q', rfl, hI', hn'⟩
          · exact wpS_pure ⟨hg, r, _, rfl, hF⟩
          · dsimp only
            refine wpS_bind (wpS_rule ?_)
            refine wpS_bind (wp_hin2 Z hg hk hI' hn' fun e st2 hg2 he => ?_)
            rcases he with ⟨r, e, rfl, hF⟩ | ⟨i2, j2, o2, g2, p2, q2, rfl, hI2, hn2⟩
            · exact wpS_pure ⟨hg2, r, _, rfl, hF⟩
            · dsimp only
              refine wpS_bind (wp_setG hg2 fun st3 hg3 => ?_)
              exact wpS_pure ⟨hg3, i2, j2, o2, _, rfl, hI2, by omega⟩
        · rintro c st' ⟨hg, i, j, o, g, rfl, hI, hn⟩
          have := hI.2.2.2.2.len hI.2.1 hI.2.2.2.1
          omega
      · rintro c st' ⟨hg, r, e, rfl, hF⟩
        exact wpS_pure (hq r st' hg hF)
end
end Srt
set_option autoImplicit false
namespace Srt
open PySem PyProof.Rows
abbrev C2 := Option (Option Nat) × Nat
abbrev C3 := Option (Option Nat) × Nat × Nat
noncomputable def ascL (lo a n : Nat) : SM C2 := forIn [a:n] ((none, a) : C2) fun _ c => ltAt' (lo + c.2) (lo + c.2 - 1) >>= fun o => match o with
  | some q => if q = true then pure (.done (none, c.2)) else pure (.yield (none, c.2 + 1))
  | _ => pure (.done (some none, c.2))
noncomputable def tl3 (lo m n : Nat) : SM (Option Nat) := reverseSlice' lo (lo + m) >>= fun _ => ascL lo m n >>= fun c => match c.1 with
  | some r => pure r
  | none => pure (some c.2)
noncomputable def dscL (lo a n : Nat) : SM C3 := forIn [a:n] ((none, a, 0) : C3) fun _ c => ltAt' (lo + c.2.1) (lo + c.2.1 - 1) >>= fun o => match o with
  | some q => if q = true then
        if c.2.2 > 0 then reverseSlice' (lo + c.2.1 - (c.2.2 + 1)) (lo + c.2.1) >>= fun _ => pure (.yield (none, c.2.1 + 1, 0)) else pure (.yield (none, c.2.1 + 1, 0))
      else ltAt' (lo + c.2.1 - 1) (lo + c.2.1) >>= fun o => match o with
        | some q => if q = true then pure (.done (none, c.2.1, c.2.2)) else pure (.yield (none, c.2.1 + 1, c.2.2 + 1))
        | _ => pure (.done (some none, c.2.1, c.2.2))
  | _ => pure (.done (some none, c.2.1, c.2.2))
noncomputable def dscP (lo m n : Nat) : SM (Option Nat) := liftM (rule "list.sort.descending-run") >>= fun _ => dscL lo (m + 1) n >>= fun c => match c.1 with
  | some r => pure r
  | none => if c.2.2 > 0 then reverseSlice' (lo + c.2.1 - (c.2.2 + 1)) (lo + c.2.1) >>= fun _ => tl3 lo c.2.1 n else tl3 lo c.2.1 n
noncomputable def cntR (lo n : Nat) : SM (Option Nat) := ascL lo 1 n >>= fun c => match c.1 with
  | some r => pure r
  | none => if (c.2 == n) = true then pure (some c.2) else if c.2 > 1 then ltAt' lo (lo + c.2 - 1) >>= fun o => (match o with
        | some q => if q = true then pure (some c.2) else reverseSlice' lo (lo + c.2) >>= fun _ => dscP lo c.2 n
        | _ => pure none)
      else dscP lo c.2 n
theorem countRun_cntR (lo n : Nat) : countRun' lo n = cntR lo n := by kernel_rfl
noncomputable def binI (lo k : Nat) : SM (Option Bool × Nat × Nat) := forIn [0:k] ((none, 0, k) : Option Bool × Nat × Nat) fun _ c =>
  if c.2.1 ≥ c.2.2 then pure (.done (none, c.2.1, c.2.2)) else ltAt' (lo + k) (lo + (c.2.1 + c.2.2) / 2) >>= fun o => match o with
    | some q => if q = true then pure (.yield (none, c.2.1, (c.2.1 + c.2.2) / 2)) else pure (.yield (none, (c.2.1 + c.2.2) / 2 + 1, c.2.2))
    | _ => pure (.done (some false, c.2.1, c.2.2))
noncomputable def binS (lo n ok : Nat) : SM Bool := (forIn [max ok 1:n] ((none, ()) : Option Bool × Unit) fun k _ => binI lo k >>= fun c => match c.1 with
    | some r => pure (.done (some r, ()))
    | none => moveDown' (lo + k) (lo + c.2.1) >>= fun _ => pure (.yield (none, ()))) >>= fun c => match c.1 with
  | some r => pure r
  | none => pure true
theorem binarySort_binS (lo n ok : Nat) : binarySort' lo n ok = binS lo n ok := by kernel_rfl
def Kx (d : Keyed) (v : V) (i : Nat) : Keyed := (v[i]?).getD d
theorem Kx_congr {d : Keyed} {v u : V} {i j : Nat} (h : v[i]? = u[j]?) : Kx d v i = Kx d u j := by unfold Kx; rw [h]
theorem Kx_mirror {d : Keyed} {v : V} {i j : Nat} (hj : j ≤ v.size) (k : Nat) : Kx d (mirror v i j ((j - i) / 2)) k = if i ≤ k ∧ k < j then Kx d v (i + j - 1 - k) else Kx d v k := by
  have e := getElem?_mirror_all (i := i) hj k
  by_cases h1 : i ≤ k ∧ k < j
  · rw [if_pos h1] at e ⊢; exact Kx_congr e
  · rw [if_neg h1] at e ⊢; exact Kx_congr e
theorem Kx_bubble {d : Keyed} {v : V} {src m : Nat} (hs : src < v.size) (hm : m ≤ src) (k : Nat) :
    Kx d (bubble v src m) k = if k = src - m then Kx d v src else if src - m < k ∧ k ≤ src then Kx d v (k - 1) else Kx d v k := by
  have e := getElem?_bubble hs m hm k
  by_cases h1 : k = src - m
  · rw [if_pos h1] at e ⊢; exact Kx_congr e
  · rw [if_neg h1] at e ⊢
    by_cases h2 : src - m < k ∧ k ≤ src
    · rw [if_pos h2] at e ⊢; exact Kx_congr e
    · rw [if_neg h2] at e ⊢; exact Kx_congr e
structure SB (a₀ : V) (kd : SortKind) (pd : Array (Nat × Nat × Nat)) (f : V) (lo : Nat) (st : SortSt) : Prop where
  pm : (arrOf st).Perm a₀
  kind : kindOf st = kd
  fl : failedOf st = none
  pd : pendingOf st = pd
  fx : ∀ i, i < lo → (arrOf st)[i]? = f[i]?
section
variable {M : Model} {A : Around} {E : Value → Shared → Prop} {s : Shared} {kd : SortKind} {D : Keyed → Prop} {lt : Keyed → Keyed → Bool} {a₀ f : V} {pd : Array (Nat × Nat × Nat)} {lo : Nat} {st : SortSt} {d : Keyed}
theorem SB.size (h : SB a₀ kd pd f lo st) : (arrOf st).size = a₀.size := h.pm.size_eq
theorem SB.rev (h : SB a₀ kd pd f lo st) {i j : Nat} (hi : lo ≤ i) (hj : j ≤ a₀.size) : SB a₀ kd pd f lo (setArr st (mirror (arrOf st) i j ((j - i) / 2))) :=
  ⟨(mirror_perm _ _ _ _).trans h.pm, h.kind, h.fl, h.pd, fun k hk => by
    show (mirror (arrOf st) i j ((j - i) / 2))[k]? = _
    rw [getElem?_mirror_all (by rw [h.size]; exact hj), if_neg (by omega)]; exact h.fx k hk⟩
theorem SB.bub (h : SB a₀ kd pd f lo st) {i m : Nat} (hi : lo + m ≤ i) (hj : i < a₀.size) : SB a₀ kd pd f lo (setArr st (bubble (arrOf st) i m)) :=
  ⟨(bubble_perm _ _ _).trans h.pm, h.kind, h.fl, h.pd, fun k hk => by
    show (bubble (arrOf st) i m)[k]? = _
    rw [getElem?_bubble (by rw [h.size]; exact hj) _ (by omega), if_neg (by omega), if_neg (by omega)]; exact h.fx k hk⟩
theorem wp_ltAt (C : Cmp M A E s kd D lt) (h : SB a₀ kd pd f lo st) (hD : ∀ x, x ∈ a₀.toList → D x) {i j : Nat} (hi : i < a₀.size) (hj : j < a₀.size) {Q : Option Bool → SortSt → Prop}
    (hq : Q (some (lt (Kx d (arrOf st) i) (Kx d (arrOf st) j))) st) : wpS M A E s (ltAt' i j) Q st := by
  obtain ⟨x, ex⟩ := at_lt (v := arrOf st) (i := i) (by rw [h.size]; exact hi)
  obtain ⟨y, ey⟩ := at_lt (v := arrOf st) (i := j) (by rw [h.size]; exact hj)
  have mx : x ∈ a₀.toList := (Array.perm_iff_toList_perm.mp h.pm).mem_iff.mp (List.mem_of_getElem? ex)
  have my : y ∈ a₀.toList := (Array.perm_iff_toList_perm.mp h.pm).mem_iff.mp (List.mem_of_getElem? ey)
  have e1 : Kx d (arrOf st) i = x := by unfold Kx; rw [← Array.getElem?_toList, ex]; rfl
  have e2 : Kx d (arrOf st) j = y := by unfold Kx; rw [← Array.getElem?_toList, ey]; rfl
  rw [e1, e2] at hq
  rw [ltAt'_eq]
  refine wpS_bind (wpS_get ?_)
  exact wpS_bind (wp_elem ex (wpS_bind (wp_elem ey (C.go x y (hD x mx) (hD y my) st h.kind _ hq))))
theorem wp_rev {i j : Nat} {Q : Unit → SortSt → Prop} (h : Q () (setArr st (mirror (arrOf st) i j ((j - i) / 2)))) : wpS M A E s (reverseSlice' i j) Q st := by
  rw [reverseSlice'_eq]; exact wpS_modify h
def Up (lt : Keyed → Keyed → Bool) (d : Keyed) (v : V) (lo n : Nat) : Prop := ∀ i j, i ≤ j → j < n → Le lt (Kx d v (lo + i)) (Kx d v (lo + j))
def Dn (lt : Keyed → Keyed → Bool) (d : Keyed) (v : V) (lo n : Nat) : Prop := ∀ i j, i ≤ j → j < n → Le lt (Kx d v (lo + j)) (Kx d v (lo + i))
theorem Up.step (C : Cmp M A E s kd D lt) {v : V} {x : Nat} (hs : Up lt d v lo x) (hx : 1 ≤ x) (hl : lt (Kx d v (lo + x)) (Kx d v (lo + x - 1)) = false) : Up lt d v lo (x + 1) := by
  intro i j hij hj
  by_cases hjx : j < x
  · exact hs i j hij hjx
  · have hj' : j = x := by omega
    subst hj'
    by_cases hi' : i = j
    · subst hi'; exact C.rf _
    · have := hs i (j - 1) (by omega) (by omega)
      rw [show lo + (j - 1) = lo + j - 1 by omega] at this
      exact C.tr _ _ _ this hl
theorem wp_ascL (C : Cmp M A E s kd D lt) (hD : ∀ x, x ∈ a₀.toList → D x) (h : SB a₀ kd pd f lo st) {a n : Nat} (hn : lo + n ≤ a₀.size) (ha : 1 ≤ a) (han : a ≤ n) (hs : Up lt d (arrOf st) lo a) {Q : C2 → SortSt → Prop}
    (hq : ∀ m, a ≤ m → m ≤ n → Up lt d (arrOf st) lo m → (m = n ∨ lt (Kx d (arrOf st) (lo + m)) (Kx d (arrOf st) (lo + m - 1)) = true) → Q (none, m) st) : wpS M A E s (ascL lo a n) Q st := by
  unfold ascL
  refine wpS_forRange (I := fun x c st' => st' = st ∧ c = (none, x) ∧ Up lt d (arrOf st) lo x) ?_ ?_ ⟨rfl, rfl, hs⟩
  · rintro x c st' hax hxn ⟨rfl, rfl, hs'⟩
    dsimp only
    refine wpS_bind (wp_ltAt (d := d) C h hD (by omega) (by omega) ?_)
    cases hl : lt (Kx d (arrOf st') (lo + x)) (Kx d (arrOf st') (lo + x - 1)) with
    | true => exact wpS_pure (hq x hax (by omega) hs' (.inr hl))
    | false => exact wpS_pure ⟨rfl, rfl, hs'.step C (by omega) hl⟩
  · rintro c st' ⟨rfl, rfl, hs'⟩
    rw [show max a n = n by omega] at hs' ⊢
    exact hq n han (Nat.le_refl _) hs' (.inl rfl)
theorem Up.of_mirror (h : SB a₀ kd pd f lo st) {m : Nat} (hm : lo + m ≤ a₀.size) (hs : Dn lt d (arrOf st) lo m) : Up lt d (mirror (arrOf st) lo (lo + m) ((lo + m - lo) / 2)) lo m := by
  intro i j hij hj
  rw [Kx_mirror (by rw [h.size]; exact hm), Kx_mirror (by rw [h.size]; exact hm), if_pos (by omega), if_pos (by omega)]
  have := hs (m - 1 - j) (m - 1 - i) (by omega) (by omega)
  rw [show lo + (m - 1 - j) = lo + (lo + m) - 1 - (lo + j) by omega, show lo + (m - 1 - i) = lo + (lo + m) - 1 - (lo + i) by omega] at this
  exact this
theorem wp_tl3 (C : Cmp M A E s kd D lt) (hD : ∀ x, x ∈ a₀.toList → D x) (h : SB a₀ kd pd f lo st) {m n : Nat} (hn : lo + n ≤ a₀.size) (h1 : 1 ≤ m) (hm : m ≤ n) (hs : Dn lt d (arrOf st) lo m) {Q : Option Nat → SortSt → Prop}
    (hq : ∀ m st', SB a₀ kd pd f lo st' → 1 ≤ m → m ≤ n → Up lt d (arrOf st') lo m → Q (some m) st') : wpS M A E s (tl3 lo m n) Q st := by
  unfold tl3
  refine wpS_bind (wp_rev ?_)
  have h' := h.rev (i := lo) (j := lo + m) (Nat.le_refl _) (by omega)
  exact wpS_bind (wp_ascL C hD h' hn h1 hm (Up.of_mirror h (by omega) hs) fun k k1 k2 k3 _ => wpS_pure (hq k _ h' (by omega) k2 k3))
def Eqs (lt : Keyed → Keyed → Bool) (d : Keyed) (v : V) (i j : Nat) : Prop := ∀ k l, i ≤ k → k < j → i ≤ l → l < j → Le lt (Kx d v k) (Kx d v l)
theorem Dn.mirror (C : Cmp M A E s kd D lt) (h : SB a₀ kd pd f lo st) {i j n : Nat} (hj : j ≤ a₀.size) (he : Eqs lt d (arrOf st) i j) (hs : Dn lt d (arrOf st) lo n) : Dn lt d (mirror (arrOf st) i j ((j - i) / 2)) lo n := by
  have key : ∀ k, Le lt (Kx d (PyProof.Rows.mirror (arrOf st) i j ((j - i) / 2)) k) (Kx d (arrOf st) k) ∧ Le lt (Kx d (arrOf st) k) (Kx d (PyProof.Rows.mirror (arrOf st) i j ((j - i) / 2)) k) := by
    intro k
    rw [Kx_mirror (by rw [h.size]; exact hj)]
    split
    · exact ⟨he _ _ (by omega) (by omega) (by omega) (by omega), he _ _ (by omega) (by omega) (by omega) (by omega)⟩
    · exact ⟨C.rf _, C.rf _⟩
  intro p q hpq hq
  exact C.tr _ _ _ (key _).1 (C.tr _ _ _ (hs p q hpq hq) (key _).2)
theorem wp_dscL (C : Cmp M A E s kd D lt) (hD : ∀ x, x ∈ a₀.toList → D x) (h : SB a₀ kd pd f lo st) {a n : Nat} (hn : lo + n ≤ a₀.size) (h1 : 1 ≤ a) (han : a ≤ n) (hs : Dn lt d (arrOf st) lo a) {Q : C3 → SortSt → Prop}
    (hq : ∀ m e st', SB a₀ kd pd f lo st' → a ≤ m → m ≤ n → Dn lt d (arrOf st') lo m → e + 1 ≤ m → Eqs lt d (arrOf st') (lo + m - (e + 1)) (lo + m) → Q (none, m, e) st') : wpS M A E s (dscL lo a n) Q st := by
  unfold dscL
  refine wpS_forRange (I := fun x c st' => ∃ e, c = (none, x, e) ∧ SB a₀ kd pd f lo st' ∧ Dn lt d (arrOf st') lo x ∧ e + 1 ≤ x ∧ Eqs lt d (arrOf st') (lo + x - (e + 1)) (lo + x)) ?_ ?_
    ⟨0, rfl, h, hs, by omega, fun k l h1 h2 h3 h4 => by rw [show k = l by omega]; exact C.rf _⟩
  · rintro x c st' hax hxn ⟨e, rfl, hB, hs', hq', he⟩
    dsimp only
    have one : ∀ v : V, Eqs lt d v (lo + (x + 1) - (0 + 1)) (lo + (x + 1)) := fun v k l h1 h2 h3 h4 => by rw [show k = l by omega]; exact C.rf _
    refine wpS_bind (wp_ltAt (d := d) C hB hD (by omega) (by omega) ?_)
    cases hl : lt (Kx d (arrOf st') (lo + x)) (Kx d (arrOf st') (lo + x - 1)) with
    | true =>
      have nx : Dn lt d (arrOf st') lo (x + 1) := by
        intro i j hij hj
        by_cases hjx : j < x
        · exact hs' i j hij hjx
        · have hj' : j = x := by omega
          subst hj'
          by_cases hi' : i = j
          · subst hi'; exact C.rf _
          · have := hs' i (j - 1) (by omega) (by omega)
            rw [show lo + (j - 1) = lo + j - 1 by omega] at this
            exact C.tr _ _ _ (C.as _ _ hl) this
      dsimp only
      rw [if_pos rfl]
      by_cases ce : e > 0
      · rw [if_pos ce]
        refine wpS_bind (wp_rev (wpS_pure ⟨0, rfl, hB.rev (by omega) (by omega), nx.mirror C hB (by omega) he, by omega, one _⟩))
      · rw [if_neg ce]
        exact wpS_pure ⟨0, rfl, hB, nx, by omega, one _⟩
    | false =>
      dsimp only
      rw [if_neg (by simp)]
      refine wpS_bind (wp_ltAt (d := d) C hB hD (by omega) (by omega) ?_)
      cases hr : lt (Kx d (arrOf st') (lo + x - 1)) (Kx d (arrOf st') (lo + x)) with
      | true => exact wpS_pure (hq x e st' hB hax (by omega) hs' hq' he)
      | false =>
        refine wpS_pure ⟨e + 1, rfl, hB, fun i j hij hj => ?_, by omega, fun k l k1 k2 k3 k4 => ?_⟩
        · by_cases hjx : j < x
          · exact hs' i j hij hjx
          · have hj' : j = x := by omega
            subst hj'
            by_cases hi' : i = j
            · subst hi'; exact C.rf _
            · have := hs' i (j - 1) (by omega) (by omega)
              rw [show lo + (j - 1) = lo + j - 1 by omega] at this
              exact C.tr _ _ _ hr this
        · by_cases ck : k = lo + x
          · subst ck
            by_cases cl : l = lo + x
            · subst cl; exact C.rf _
            · exact C.tr _ _ _ hr (he _ _ (by omega) (by omega) (by omega) (by omega))
          · by_cases cl : l = lo + x
            · subst cl
              exact C.tr _ _ _ (he k (lo + x - 1) (by omega) (by omega) (by omega) (by omega)) hl
            · exact he _ _ (by omega) (by omega) (by omega) (by omega)
  · rintro c st' ⟨e, rfl, hB, hs', hq', he⟩
    rw [show max a n = n by omega] at hs' hq' he ⊢
    exact hq n e st' hB han (Nat.le_refl _) hs' hq' he
theorem wp_dscP (C : Cmp M A E s kd D lt) (hD : ∀ x, x ∈ a₀.toList → D x) (h : SB a₀ kd pd f lo st) {m n : Nat} (hn : lo + n ≤ a₀.size) (hm : m + 1 ≤ n) (hs : Dn lt d (arrOf st) lo (m + 1)) {Q : Option Nat → SortSt → Prop}
    (hq : ∀ m st', SB a₀ kd pd f lo st' → 1 ≤ m → m ≤ n → Up lt d (arrOf st') lo m → Q (some m) st') : wpS M A E s (dscP lo m n) Q st := by
  unfold dscP
  refine wpS_bind (wpS_rule ?_)
  refine wpS_bind (wp_dscL C hD h hn (by omega) hm hs fun k e st' hB k1 k2 k3 k4 k5 => ?_)
  dsimp only
  by_cases ce : e > 0
  · rw [if_pos ce]
    exact wpS_bind (wp_rev (wp_tl3 C hD (hB.rev (by omega) (by omega)) hn (by omega) k2 (k3.mirror C hB (by omega) k5) hq))
  · rw [if_neg ce]
    exact wp_tl3 C hD hB hn (by omega) k2 k3 hq
theorem wp_cntR (C : Cmp M A E s kd D lt) (hD : ∀ x, x ∈ a₀.toList → D x) (h : SB a₀ kd pd f lo st) {n : Nat} (hn : lo + n ≤ a₀.size) (h1 : 1 ≤ n) {Q : Option Nat → SortSt → Prop}
    (hq : ∀ m st', SB a₀ kd pd f lo st' → 1 ≤ m → m ≤ n → Up lt d (arrOf st') lo m → Q (some m) st') : wpS M A E s (countRun' lo n) Q st := by
  rw [countRun_cntR]
  unfold cntR
  refine wpS_bind (wp_ascL (d := d) C hD h hn (Nat.le_refl 1) h1 (fun i j hij hj => by rw [show i = j by omega]; exact C.rf _) fun m m1 m2 hs hor => ?_)
  dsimp only
  by_cases cm : m = n
  · rw [if_pos (by simpa using cm)]
    exact wpS_pure (hq m st h m1 m2 hs)
  · rw [if_neg (by simpa using cm)]
    have hlt := hor.resolve_left cm
    by_cases cg : m > 1
    · rw [if_pos cg]
      refine wpS_bind (wp_ltAt (d := d) C h hD (by omega) (by omega) ?_)
      cases hr : lt (Kx d (arrOf st) lo) (Kx d (arrOf st) (lo + m - 1)) with
      | true => exact wpS_pure (hq m st h m1 m2 hs)
      | false =>
        have all : Eqs lt d (arrOf st) lo (lo + m) := by
          intro k l k1 k2 k3 k4
          have a1 := hs 0 (l - lo) (by omega) (by omega)
          have a2 := hs (k - lo) (m - 1) (by omega) (by omega)
          rw [show lo + 0 = lo by omega, show lo + (l - lo) = l by omega] at a1
          rw [show lo + (k - lo) = k by omega, show lo + (m - 1) = lo + m - 1 by omega] at a2
          exact C.tr _ _ _ a2 (C.tr _ _ _ hr a1)
        have dn : Dn lt d (arrOf st) lo (m + 1) := by
          intro i j hij hj
          by_cases hjm : j < m
          · exact all _ _ (by omega) (by omega) (by omega) (by omega)
          · have hj' : j = m := by omega
            subst hj'
            by_cases hi' : i = j
            · subst hi'; exact C.rf _
            · exact C.tr _ _ _ (C.as _ _ hlt) (all _ _ (by omega) (by omega) (by omega) (by omega))
        dsimp only
        rw [if_neg (by simp)]
        exact wpS_bind (wp_rev (wp_dscP C hD (h.rev (Nat.le_refl _) (by omega)) hn (by omega) (dn.mirror C h (by omega) all) hq))
    · rw [if_neg cg]
      have : m = 1 := by omega
      subst this
      refine wp_dscP C hD h hn (by omega) (fun i j hij hj => ?_) hq
      by_cases hi' : i = j
      · subst hi'; exact C.rf _
      · rw [show i = 0 by omega, show j = 1 by omega]
        exact C.as _ _ hlt
theorem wp_binS (C : Cmp M A E s kd D lt) (hD : ∀ x, x ∈ a₀.toList → D x) (h : SB a₀ kd pd f lo st) {n ok : Nat} (hn : lo + n ≤ a₀.size) (hok : ok ≤ n) (hs : Up lt d (arrOf st) lo ok) {Q : Bool → SortSt → Prop}
    (hq : ∀ st', SB a₀ kd pd f lo st' → Up lt d (arrOf st') lo n → Q true st') : wpS M A E s (binarySort' lo n ok) Q st := by
  rw [binarySort_binS]
  unfold binS
  refine wpS_bind (wpS_mono (wpS_forRange (I := fun k c st' => c = (none, ()) ∧ SB a₀ kd pd f lo st' ∧ Up lt d (arrOf st') lo (min k n))
    (Q := fun c st' => c = (none, ()) ∧ SB a₀ kd pd f lo st' ∧ Up lt d (arrOf st') lo n) ?_ ?_ ?_) ?_)
  · rintro k c st' hak hkn ⟨rfl, hB, hs'⟩
    rw [show min k n = k by omega] at hs'
    unfold binI
    refine wpS_bind (wpS_mono (wpS_forRange (I := fun x c st'' => st'' = st' ∧ ∃ l r, c = (none, l, r) ∧ l ≤ r ∧ r ≤ k ∧ r - l ≤ k - x ∧
        (∀ i, i < l → Le lt (Kx d (arrOf st') (lo + i)) (Kx d (arrOf st') (lo + k))) ∧ (∀ i, r ≤ i → i < k → Le lt (Kx d (arrOf st') (lo + k)) (Kx d (arrOf st') (lo + i))))
      (Q := fun c st'' => st'' = st' ∧ ∃ l r, c = (none, l, r) ∧ l ≤ k ∧
        (∀ i, i < l → Le lt (Kx d (arrOf st') (lo + i)) (Kx d (arrOf st') (lo + k))) ∧ (∀ i, l ≤ i → i < k → Le lt (Kx d (arrOf st') (lo + k)) (Kx d (arrOf st') (lo + i)))) ?_ ?_ ?_) ?_)
    · rintro x c st'' _ hxk ⟨rfl, l, r, rfl, hlr, hrk, hm, hlo, hhi⟩
      dsimp only
      by_cases hge : l ≥ r
      · rw [if_pos hge]
        have : l = r := by omega
        subst this
        exact wpS_pure ⟨rfl, l, l, rfl, hrk, hlo, hhi⟩
      · rw [if_neg hge]
        refine wpS_bind (wp_ltAt (d := d) C hB hD (by omega) (by omega) ?_)
        cases hl : lt (Kx d (arrOf st'') (lo + k)) (Kx d (arrOf st'') (lo + (l + r) / 2)) with
        | true => exact wpS_pure ⟨rfl, l, (l + r) / 2, rfl, by omega, by omega, by omega, hlo, fun i h1 h2 => C.tr _ _ _ (C.as _ _ hl) (hs' _ _ h1 h2)⟩
        | false => exact wpS_pure ⟨rfl, (l + r) / 2 + 1, r, rfl, by omega, by omega, by omega, fun i h1 => C.tr _ _ _ (hs' i ((l + r) / 2) (by omega) (by omega)) hl, hhi⟩
    · rintro c st'' ⟨rfl, l, r, rfl, hlr, hrk, hm, hlo, hhi⟩
      have : l = r := by omega
      subst this
      exact ⟨rfl, l, l, rfl, hrk, hlo, hhi⟩
    · exact ⟨rfl, 0, k, rfl, by omega, by omega, by omega, fun i hi => by omega, fun i h1 h2 => by omega⟩
    · rintro c st'' ⟨rfl, l, r, rfl, hlk, hlo, hhi⟩
      dsimp only
      rw [moveDown'_eq]
      have hks : lo + k < (arrOf st'').size := by rw [hB.size]; omega
      refine wpS_bind (wpS_modify (wpS_pure ⟨rfl, ?_, ?_⟩))
      · exact hB.bub (by omega) (by omega)
      · rw [show min (k + 1) n = k + 1 by omega]
        intro i j hij hj
        show Le lt (Kx d (bubble (arrOf st'') (lo + k) (lo + k - (lo + l))) (lo + i)) (Kx d (bubble (arrOf st'') (lo + k) (lo + k - (lo + l))) (lo + j))
        rw [Kx_bubble hks (by omega), Kx_bubble hks (by omega), show lo + k - (lo + k - (lo + l)) = lo + l by omega]
        have sh : ∀ i, 1 ≤ i → lo + i - 1 = lo + (i - 1) := fun i hi => by omega
        repeat' split
        all_goals first
          | (exfalso; omega)
          | exact C.rf _
          | exact hlo _ (by omega)
          | (rw [sh _ (by omega)]; exact hhi _ (by omega) (by omega))
          | exact hhi _ (by omega) (by omega)
          | exact hs' _ _ (by omega) (by omega)
          | (rw [sh i (by omega)]; exact hs' _ _ (by omega) (by omega))
          | (rw [sh j (by omega)]; exact hs' _ _ (by omega) (by omega))
          | (rw [sh i (by omega), sh j (by omega)]; exact hs' _ _ (by omega) (by omega))
          | (rw [sh i (by omega)]; exact hlo _ (by omega))
  · rintro c st' ⟨hc, hB, hs'⟩
    refine ⟨hc, hB, ?_⟩
    rwa [show min (max (max ok 1) n) n = n by omega] at hs'
  · refine ⟨rfl, h, fun i j hij hj => ?_⟩
    by_cases h1 : ok = 0
    · rw [show i = j by omega]; exact C.rf _
    · exact hs i j hij (by omega)
  · rintro c st' ⟨rfl, hB, hs'⟩
    exact wpS_pure (hq st' hB hs')
end
end Srt
set_option autoImplicit false
namespace Srt
open PySem PyProof.Rows
abbrev putAll (w : V) (p : Nat) (v : V) : V := w.toList.zipIdx.foldl (fun a (x, j) => a.setIfInBounds (p + j) x) v
noncomputable def mEnd (p : Nat) (w : V) : SM Bool := (modify fun s => setArr s (putAll w p (arrOf s))) >>= fun _ => get >>= fun s => pure (failedOf s).isNone
noncomputable def mAt (i : Nat) : SM Bool := get >>= fun st => match (pendingOf st)[i]?, (pendingOf st)[i + 1]? with
  | some (sa, na, pw), some (sb, nb, _) => set (setPending st (((pendingOf st).setIfInBounds i (sa, na + nb, pw)).eraseIdxIfInBounds (i + 1))) >>= fun _ =>
    elem' (arrOf st) sb >>= fun y => gallop' false y (arrOf st) sa na 0 >>= fun r => (match r with
      | some k => if (na - k == 0) = true then pure true else elem' (arrOf st) (sa + k + (na - k) - 1) >>= fun x => gallop' true x (arrOf st) sb nb (nb - 1) >>= fun r => (match r with
        | some m => if (m == 0) = true then pure true
            else if na - k ≤ m then mergeLo' ((arrOf st).extract (sa + k) sb) ((arrOf st).extract sb (sb + m)) >>= fun w => mEnd (sa + k) w
            else mergeHi' ((arrOf st).extract (sa + k) sb) ((arrOf st).extract sb (sb + m)) >>= fun w => mEnd (sa + k) w
        | _ => pure false)
      | _ => pure false)
  | _, _ => liftM (unsupported "internal:list.sort.pending")
theorem mergeAt_mAt (i : Nat) : mergeAt' i = mAt i := by kernel_rfl
theorem er2 {β : Type} (x y z : β) : (#[x, y].setIfInBounds 0 z).eraseIdxIfInBounds (0 + 1) = #[z] := by simp [Array.eraseIdxIfInBounds]
theorem putAll_list (p : Nat) : ∀ (ws : List Keyed) (k : Nat) (v : V), p + k + ws.length ≤ v.size →
    ((ws.zipIdx k).foldl (fun a (x, j) => a.setIfInBounds (p + j) x) v).toList = v.toList.take (p + k) ++ ws ++ v.toList.drop (p + k + ws.length)
  | [], k, v, _ => by simp
  | x :: t, k, v, h => by
    rw [List.zipIdx_cons, List.foldl_cons]
    have hl : p + (k + 1) + t.length ≤ (v.setIfInBounds (p + k) x).size := by rw [Array.size_setIfInBounds]; simp only [List.length_cons] at h; omega
    rw [putAll_list p t (k + 1) _ hl]
    simp only [List.length_cons] at h ⊢
    have e : (v.setIfInBounds (p + k) x).toList = v.toList.set (p + k) x := Array.toList_setIfInBounds ..
    rw [e]
    have e1 : (v.toList.set (p + k) x).take (p + (k + 1)) = v.toList.take (p + k) ++ [x] := by
      rw [show p + (k + 1) = p + k + 1 by omega]
      have hx : (v.toList.set (p + k) x)[p + k]? = some x := by rw [List.getElem?_set_self]; simp; omega
      rw [take_at hx, List.take_set_of_le (Nat.le_refl _)]
    rw [e1, List.drop_set_of_lt (by omega)]
    rw [show p + (k + 1) + t.length = p + k + (t.length + 1) by omega]
    simp only [List.append_assoc, List.cons_append, List.nil_append]
section
variable {M : Model} {A : Around} {E : Value → Shared → Prop} {s : Shared} {kd : SortKind} {D : Keyed → Prop} {lt : Keyed → Keyed → Bool} {a₀ f : V} {pd : Array (Nat × Nat × Nat)} {lo : Nat} {st : SortSt} {d : Keyed}
theorem Up.sl {v : V} {n : Nat} (h : Up lt d v lo n) : SL lt v.toList lo n := by
  intro i j x y h1 h2 hx hy
  have e1 : Kx d v (lo + i) = x := by unfold Kx; rw [← Array.getElem?_toList, hx]; rfl
  have e2 : Kx d v (lo + j) = y := by unfold Kx; rw [← Array.getElem?_toList, hy]; rfl
  have := h i j h1 h2
  rw [e1, e2] at this
  exact this
theorem SL.pw {l : List Keyed} {n : Nat} (h : SL lt l lo n) : ((l.drop lo).take n).Pairwise (Le lt) := by
  rw [List.pairwise_iff_getElem]
  intro i j hi hj hij
  rw [List.length_take, List.length_drop] at hi hj
  rw [List.getElem_take, List.getElem_take, List.getElem_drop, List.getElem_drop]
  exact h i j _ _ (by omega) (by omega) (List.getElem?_eq_getElem _) (List.getElem?_eq_getElem _)
theorem four {β : Type} {le : β → β → Prop} {A1 A2 B1 B2 W : List β} (hA : (A1 ++ A2).Pairwise le) (hB : (B1 ++ B2).Pairwise le) (h1 : ∀ z, z ∈ A1 → ∀ w, w ∈ B1 ++ B2 → le z w) (h2 : ∀ z, z ∈ A1 ++ A2 → ∀ w, w ∈ B2 → le z w)
    (hW : W.Pairwise le) (pW : W.Perm (A2 ++ B1)) : (A1 ++ W ++ B2).Pairwise le ∧ (A1 ++ W ++ B2).Perm (A1 ++ (A2 ++ (B1 ++ B2))) := by
  have a := List.pairwise_append.mp hA
  have b := List.pairwise_append.mp hB
  refine ⟨List.pairwise_append.mpr ⟨List.pairwise_append.mpr ⟨a.1, hW, fun z hz w hw => ?_⟩, b.2.1, fun z hz w hw => ?_⟩, ?_⟩
  · rcases List.mem_append.mp (pW.mem_iff.mp hw) with q | q
    · exact a.2.2 z hz w q
    · exact h1 z hz w (List.mem_append_left _ q)
  · rcases List.mem_append.mp hz with q | q
    · exact h2 z (List.mem_append_left _ q) w hw
    · rcases List.mem_append.mp (pW.mem_iff.mp q) with r | r
      · exact h2 z (List.mem_append_right _ r) w hw
      · exact b.2.2 z r w hw
  · rw [← List.append_assoc A2 B1 B2, ← List.append_assoc]
    exact (pW.append_left A1).append_right B2
structure Out (a₀ : V) (kd : SortKind) (lt : Keyed → Keyed → Bool) (n : Nat) (st : SortSt) : Prop where
  pm : (arrOf st).toList.Perm a₀.toList
  kind : kindOf st = kd
  fl : failedOf st = none
  pd : ∃ w, pendingOf st = #[(0, n, w)]
  so : (arrOf st).toList.Pairwise (Le lt)
theorem wp_mEnd {st : SortSt} {l : List Keyed} {p n : Nat} {w : V} (hk : kindOf st = kd) (hf : failedOf st = none) (hp : ∃ w, pendingOf st = #[(0, n, w)])
    (hl : p + w.size ≤ (arrOf st).size) (e : (arrOf st).toList.take p ++ w.toList ++ (arrOf st).toList.drop (p + w.size) = l) (h1 : l.Pairwise (Le lt)) (h2 : l.Perm a₀.toList)
    {Q : Bool → SortSt → Prop} (hq : ∀ st', Out a₀ kd lt n st' → Q true st') : wpS M A E s (mEnd p w) Q st := by
  have e' : (putAll w p (arrOf st)).toList = l := by
    have := putAll_list p w.toList 0 (arrOf st) (by simpa using hl)
    rw [Nat.add_zero] at this
    exact this.trans (by simpa using e)
  unfold mEnd
  refine wpS_bind (wpS_modify (wpS_bind (wpS_get ?_)))
  have O : Out a₀ kd lt n (setArr st (putAll w p (arrOf st))) := ⟨by show (putAll w p (arrOf st)).toList.Perm _; rw [e']; exact h2, hk, hf, hp, by show (putAll w p (arrOf st)).toList.Pairwise _; rw [e']; exact h1⟩
  have : (failedOf (setArr st (putAll w p (arrOf st)))).isNone = true := by rw [O.fl]; rfl
  rw [this]
  exact wpS_pure (hq _ O)
theorem wp_mAt (C : Cmp M A E s kd D lt) (hD : ∀ x, x ∈ a₀.toList → D x) {n1 n2 pw : Nat} (h1 : 1 ≤ n1) (h2 : 1 ≤ n2) (hz : n1 + n2 = a₀.size) (h : SB a₀ kd #[(0, n1, pw), (n1, n2, 0)] f lo st)
    (hA : SL lt (arrOf st).toList 0 n1) (hB : SL lt (arrOf st).toList n1 n2) {Q : Bool → SortSt → Prop} (hq : ∀ st', Out a₀ kd lt (n1 + n2) st' → Q true st') : wpS M A E s (mergeAt' 0) Q st := by
  rw [mergeAt_mAt]
  unfold mAt
  refine wpS_bind (wpS_get ?_)
  rw [h.pd]
  have e0 : (#[(0, n1, pw), (n1, n2, 0)] : Array (Nat × Nat × Nat))[0]? = some (0, n1, pw) := rfl
  have e1 : (#[(0, n1, pw), (n1, n2, 0)] : Array (Nat × Nat × Nat))[0 + 1]? = some (n1, n2, 0) := rfl
  rw [e0, e1]
  dsimp only
  refine wpS_bind (wpS_set ?_)
  generalize hst : setPending st ((#[(0, n1, pw), (n1, n2, 0)].setIfInBounds 0 (0, n1 + n2, pw)).eraseIdxIfInBounds (0 + 1)) = st1
  have k1 : kindOf st1 = kd := by rw [← hst]; exact h.kind
  have f1 : failedOf st1 = none := by rw [← hst]; exact h.fl
  have p1 : ∃ w, pendingOf st1 = #[(0, n1 + n2, w)] := by rw [← hst]; exact ⟨pw, er2 _ _ _⟩
  have r1 : arrOf st1 = arrOf st := by rw [← hst]
  have sz : (arrOf st).size = n1 + n2 := by rw [h.size, hz]
  have pm0 : (arrOf st).toList.Perm a₀.toList := Array.perm_iff_toList_perm.mp h.pm
  have hDv : ∀ x, x ∈ (arrOf st).toList → D x := fun x hx => hD x (pm0.mem_iff.mp hx)
  generalize hv : arrOf st = v at *
  obtain ⟨y, ey⟩ := at_lt (v := v) (i := n1) (by omega)
  obtain ⟨x, ex⟩ := at_lt (v := v) (i := n1 - 1) (by omega)
  have hl : v.toList.length = n1 + n2 := by simpa using sz
  have pA := hA.pw
  have pB := hB.pw
  rw [List.drop_zero] at pA
  have tB : (v.toList.drop n1).take n2 = v.toList.drop n1 := List.take_of_length_le (by rw [List.length_drop]; omega)
  rw [tB] at pB
  have hyB := heads C.rf pB ey
  have hxA : ∀ z, z ∈ v.toList.take n1 → Le lt z x := by
    have := tails (i := n1 - 1) C.rf (by rw [Nat.sub_add_cancel h1]; exact pA) ex
    rwa [Nat.sub_add_cancel h1] at this
  refine wpS_bind (wp_elem ey (wpS_bind (wp_galR C k1 hDv (hDv y (List.mem_of_getElem? ey)) (by omega) (by omega) hA fun k ka kb kc => ?_)))
  dsimp only
  have g1 : ∀ z, z ∈ v.toList.take k → ∀ w, w ∈ v.toList.drop n1 → Le lt z w := by
    intro z hz' w hw
    obtain ⟨i, i1, i2, i3⟩ := mem_take_at hz'
    exact C.tr _ _ _ (kb i z i1 (by rw [Nat.zero_add]; exact i3)) (hyB w hw)
  have whole : v.toList.Pairwise (Le lt) → Out a₀ kd lt (n1 + n2) st1 := fun hp => ⟨by rw [r1]; exact pm0, k1, f1, p1, by rw [r1]; exact hp⟩
  by_cases c1 : n1 - k = 0
  · rw [if_pos (by simpa using c1)]
    refine wpS_pure (hq _ (whole ?_))
    have hk : k = n1 := by omega
    subst hk
    rw [← List.take_append_drop k v.toList]
    exact List.pairwise_append.mpr ⟨pA, pB, g1⟩
  · rw [if_neg (by simpa using c1)]
    have ex' : v.toList[0 + k + (n1 - k) - 1]? = some x := by rw [show 0 + k + (n1 - k) - 1 = n1 - 1 by omega]; exact ex
    refine wpS_bind (wp_elem ex' (wpS_bind (wp_galL C k1 hDv (hDv x (List.mem_of_getElem? ex)) (by omega) (by omega) hB fun m ma mb mc => ?_)))
    dsimp only
    have g2 : ∀ z, z ∈ v.toList.take n1 → ∀ w, w ∈ v.toList.drop (n1 + m) → Le lt z w := by
      intro z hz' w hw
      obtain ⟨i, i1, i2⟩ := mem_drop_at hw
      exact C.tr _ _ _ (hxA z hz') (mc (m + i) w (by omega) (by omega) (by rw [← Nat.add_assoc]; exact i2))
    by_cases c2 : m = 0
    · rw [if_pos (by simpa using c2)]
      refine wpS_pure (hq _ (whole ?_))
      subst c2
      rw [← List.take_append_drop n1 v.toList]
      exact List.pairwise_append.mpr ⟨pA, pB, g2⟩
    · rw [if_neg (by simpa using c2), Nat.zero_add]
      generalize ha : v.extract k n1 = a
      generalize hb : v.extract n1 (n1 + m) = b
      have la : a.toList = (v.toList.drop k).take (n1 - k) := by rw [← ha, show n1 = k + (n1 - k) by omega, ex_cut]; congr 1; omega
      have lb : b.toList = (v.toList.drop n1).take m := by rw [← hb, ex_cut]
      have za : a.size = n1 - k := by rw [← Array.length_toList, la, List.length_take, List.length_drop]; omega
      have zb : b.size = m := by rw [← Array.length_toList, lb, List.length_take, List.length_drop]; omega
      have eA : v.toList.take n1 = v.toList.take k ++ a.toList := by rw [la, ← List.drop_take]; exact take_cut _ _ _ (by omega)
      have eB : v.toList.drop n1 = b.toList ++ v.toList.drop (n1 + m) := by rw [lb]; exact drop_cut _ _ _
      have mA : ∀ z, z ∈ a.toList → ∃ i, k ≤ i ∧ i < n1 ∧ v.toList[i]? = some z := by
        intro z hz'
        rw [la, ← List.drop_take] at hz'
        exact mem_mid_at hz'
      have mB : ∀ z, z ∈ b.toList → ∃ i, i < m ∧ v.toList[n1 + i]? = some z := by
        intro z hz'
        rw [lb] at hz'
        obtain ⟨i, i1, _, i2⟩ := mem_cut_at hz'
        exact ⟨i, i1, i2⟩
      have Z : Set3 M A E s kd D lt a b := {
        C := C
        da := fun z hz' => by obtain ⟨i, _, _, e⟩ := mA z hz'; exact hDv z (List.mem_of_getElem? e)
        db := fun z hz' => by obtain ⟨i, _, e⟩ := mB z hz'; exact hDv z (List.mem_of_getElem? e)
        lst := fun x' y' hx' hy' => by
          rw [la, List.getElem?_take_of_lt (by omega), List.getElem?_drop, show k + (a.size - 1) = n1 - 1 by omega, ex] at hx'
          cases hx'
          obtain ⟨i, i1, e⟩ := mB y' hy'
          exact C.as _ _ (mb i y' i1 e)
        fst := fun x' y' hx' hy' => by
          rw [lb, List.getElem?_take_of_lt (by omega), List.getElem?_drop, Nat.add_zero, ey] at hy'
          cases hy'
          obtain ⟨i, i1, i2, e⟩ := mA x' hx'
          exact C.as _ _ (kc i x' i1 i2 (by rw [Nat.zero_add]; exact e)) }
      have sA : a.toList.Pairwise (Le lt) := by rw [eA] at pA; exact (List.pairwise_append.mp pA).2.1
      have sB : b.toList.Pairwise (Le lt) := by rw [eB] at pB; exact (List.pairwise_append.mp pB).1
      have fin : ∀ r st2, Sg st1 st2 → FinA lt a b r → wpS M A E s (mEnd k r) Q st2 := by
        rintro r st2 ⟨g, rfl⟩ ⟨fa, fb⟩
        have zr : r.size = n1 - k + m := by
          have := fb.length_eq
          simp only [List.length_append, Array.length_toList] at this
          omega
        have F := four (W := r.toList) (A1 := v.toList.take k) (A2 := a.toList) (B1 := b.toList) (B2 := v.toList.drop (n1 + m)) (by rw [← eA]; exact pA) (by rw [← eB]; exact pB)
          (fun z hz' w hw => g1 z hz' w (by rw [eB]; exact hw)) (fun z hz' w hw => g2 z (by rw [eA]; exact hz') w hw) fa fb
        have F2 := F.2
        rw [← eB, ← List.append_assoc, ← eA, List.take_append_drop] at F2
        refine wp_mEnd (st := SortSt.mk' (kindOf st1) (arrOf st1) (pendingOf st1) g (failedOf st1)) (l := v.toList.take k ++ r.toList ++ v.toList.drop (n1 + m)) k1 f1 p1 ?_ ?_ F.1 (F2.trans pm0) hq
        · show k + r.size ≤ (arrOf st1).size
          rw [r1]; omega
        · show (arrOf st1).toList.take k ++ r.toList ++ (arrOf st1).toList.drop (k + r.size) = _
          rw [r1, zr, show k + (n1 - k + m) = n1 + m by omega]
      split
      · exact wpS_bind (wp_mLo Z.toSet2 k1 sA sB (by omega) (by omega) (fun x' y' hx' hy' => Z.fst x' y' (List.mem_of_getElem? hx') hy') fin)
      · exact wpS_bind (wp_mHi Z k1 sA sB (by omega) (by omega) fin)
end
end Srt
set_option autoImplicit false
namespace Srt
open PySem PyProof.Rows
abbrev U2 := Option Unit × Nat
abbrev U1 := Option Unit × Unit
noncomputable def psh (lo n : Nat) : SM (ForInStep U2) := (modify fun s => setPending s ((pendingOf s).push (lo, n, 0))) >>= fun _ => pure (.yield (none, lo + n))
noncomputable def nxt (N lo n : Nat) : SM (ForInStep U2) := get >>= fun st => match (pendingOf st).back? with
  | some (a, b, _) => (forIn [0:N] ((none, ()) : U1) fun _ _ => get >>= fun st => (match (if (pendingOf st).size > 1 then (pendingOf st)[(pendingOf st).size - 2]? else none) with
      | some (_, _, z) => if z ≤ power' N (2 * a + b) (2 * a + b + b + n) N then pure (.done (none, ())) else mergeAt' ((pendingOf st).size - 2) >>= fun q => if (!q) = true then pure (.done (some (), ())) else pure (.yield (none, ()))
      | _ => pure (.done (none, ())))) >>= fun c => (match c.1 with
    | some r => pure (.done (some r, lo))
    | none => (modify fun s => setPending s ((pendingOf s).modify ((pendingOf s).size - 1) fun (u, v, _) => (u, v, power' N (2 * a + b) (2 * a + b + b + n) N))) >>= fun _ => psh lo n)
  | _ => psh lo n
noncomputable def runs (N r : Nat) : SM U2 := forIn [0:N] ((none, 0) : U2) fun _ c => if c.2 ≥ N then pure (.done (none, c.2)) else countRun' c.2 (N - c.2) >>= fun o => match o with
  | some m => if m < r then liftM (rule "list.sort.binary-insertion") >>= fun _ => binarySort' c.2 (min (N - c.2) r) m >>= fun q => if (!q) = true then pure (.done (some (), c.2)) else nxt N c.2 (min (N - c.2) r)
      else nxt N c.2 m
  | _ => pure (.done (some (), c.2))
noncomputable def colp (N : Nat) : SM U1 := forIn [0:N] ((none, ()) : U1) fun _ _ => get >>= fun st => if (pendingOf st).size ≤ 1 then pure (.done (none, ())) else
  mergeAt' (if Option.any (fun x => decide (x < ((pendingOf st)[(pendingOf st).size - 2 + 1]?).elim 0 fun x => x.2.1)) (if (pendingOf st).size - 2 > 0 then Option.map (fun x => x.2.1) (pendingOf st)[(pendingOf st).size - 2 - 1]? else none) = true
    then (pendingOf st).size - 2 - 1 else (pendingOf st).size - 2) >>= fun q => if (!q) = true then pure (.done (some (), ())) else pure (.yield (none, ()))
noncomputable def sRun : SM Unit := get >>= fun st => runs (arrOf st).size (minRun' (arrOf st).size (arrOf st).size 0) >>= fun c => match c.1 with
  | some r => pure r
  | none => colp (arrOf st).size >>= fun c => match c.1 with
    | some r => pure r
    | none => pure ()
theorem sortRuns_sRun : sortRuns' = sRun := by kernel_rfl
theorem minRun_ok {N : Nat} (h2 : 2 ≤ N) (h : N < 128) : 1 ≤ minRun' N N 0 ∧ minRun' N N 0 ≤ N ∧ N ≤ 2 * minRun' N N 0 := by
  obtain ⟨g, rfl⟩ : ∃ g, N = g + 2 := ⟨N - 2, by omega⟩
  have e : minRun' (g + 2) (g + 2) 0 = if g + 2 < 64 then g + 2 + 0 else if (g + 2) / 2 < 64 then (g + 2) / 2 + max 0 ((g + 2) % 2) else minRun' g ((g + 2) / 2 / 2) (max (max 0 ((g + 2) % 2)) ((g + 2) / 2 % 2)) := by
    rw [minRun'_succ, minRun'_succ]
  rw [e]
  split
  · omega
  · rw [if_pos (by omega)]; omega
section
variable {M : Model} {A : Around} {E : Value → Shared → Prop} {s : Shared} {kd : SortKind} {D : Keyed → Prop} {lt : Keyed → Keyed → Bool} {a₀ f : V} {pd : Array (Nat × Nat × Nat)} {lo : Nat} {st : SortSt} {d : Keyed}
def PhC (a₀ : V) (kd : SortKind) (lt : Keyed → Keyed → Bool) (st : SortSt) : Prop :=
  (SB a₀ kd #[(0, a₀.size, 0)] a₀ 0 st ∧ SL lt (arrOf st).toList 0 a₀.size) ∨ ∃ n1 n2 pw, n1 + n2 = a₀.size ∧ 1 ≤ n1 ∧ 1 ≤ n2 ∧ SB a₀ kd #[(0, n1, pw), (n1, n2, 0)] a₀ 0 st ∧ SL lt (arrOf st).toList 0 n1 ∧ SL lt (arrOf st).toList n1 n2
theorem SB.free {pd' : Array (Nat × Nat × Nat)} (h : SB a₀ kd pd f lo st) (g : V) : SB a₀ kd pd' g 0 (setPending st pd') := ⟨h.pm, h.kind, h.fl, rfl, fun _ hi => by omega⟩
theorem wp_psh {lo n : Nat} {Q : ForInStep U2 → SortSt → Prop} (h : Q (.yield (none, lo + n)) (setPending st ((pendingOf st).push (lo, n, 0)))) : wpS M A E s (psh lo n) Q st :=
  wpS_bind (wpS_modify (wpS_pure h))
theorem wp_runs (C : Cmp M A E s kd D lt) (hD : ∀ x, x ∈ a₀.toList → D x) (d : Keyed) (h2 : 2 ≤ a₀.size) {r : Nat} (r1 : 1 ≤ r) (r2 : r ≤ a₀.size) (r3 : a₀.size ≤ 2 * r) (h : SB a₀ kd #[] a₀ 0 st) {Q : U2 → SortSt → Prop}
    (hq : ∀ st', PhC a₀ kd lt st' → Q (none, a₀.size) st') : wpS M A E s (runs a₀.size r) Q st := by
  unfold runs
  refine wpS_forRange (I := fun x c st' => (x = 0 ∧ c = (none, 0) ∧ SB a₀ kd #[] a₀ 0 st') ∨ (x = 1 ∧ ∃ n, c = (none, n) ∧ r ≤ n ∧ n < a₀.size ∧ SB a₀ kd #[(0, n, 0)] a₀ 0 st' ∧ SL lt (arrOf st').toList 0 n) ∨ (1 ≤ x ∧ c = (none, a₀.size) ∧ PhC a₀ kd lt st')) ?_ ?_ (.inl ⟨rfl, rfl, h⟩)
  · rintro x c st' _ hx (⟨rfl, rfl, hB⟩ | ⟨rfl, n, rfl, n1, n2, hB, hs⟩ | ⟨hx1, rfl, hC⟩)
    · dsimp only
      rw [if_neg (by omega)]
      have go : ∀ m st2, SB a₀ kd #[] a₀ 0 st2 → r ≤ m → m ≤ a₀.size → Up lt d (arrOf st2) 0 m → ∀ R : ForInStep U2 → SortSt → Prop, (∀ c' st', ((0 + 1 = 0 ∧ c' = (none, 0) ∧ SB a₀ kd #[] a₀ 0 st') ∨ (0 + 1 = 1 ∧ ∃ n, c' = (none, n) ∧ r ≤ n ∧ n < a₀.size ∧ SB a₀ kd #[(0, n, 0)] a₀ 0 st' ∧ SL lt (arrOf st').toList 0 n) ∨ (1 ≤ 0 + 1 ∧ c' = (none, a₀.size) ∧ PhC a₀ kd lt st')) → R (.yield c') st') → wpS M A E s (nxt a₀.size 0 m) R st2 := by
        intro m st2 hB2 hm1 hm2 hu R hR
        unfold nxt
        refine wpS_bind (wpS_get ?_)
        have hb : (pendingOf st2).back? = none := by rw [hB2.pd]; rfl
        rw [hb]
        dsimp only
        refine wp_psh ?_
        have e : (pendingOf st2).push (0, m, 0) = #[(0, m, 0)] := by rw [hB2.pd]; rfl
        rw [e, Nat.zero_add]
        by_cases cm : m = a₀.size
        · subst cm
          exact hR _ _ (.inr (.inr ⟨by omega, rfl, .inl ⟨hB2.free a₀, hu.sl⟩⟩))
        · exact hR _ _ (.inr (.inl ⟨rfl, m, rfl, hm1, by omega, hB2.free a₀, hu.sl⟩))
      refine wpS_bind (wp_cntR (d := d) C hD hB (by omega) (by omega) fun m st2 hB2 hm1 hm2 hu => ?_)
      dsimp only
      by_cases cm : m < r
      · rw [if_pos cm]
        refine wpS_bind (wpS_rule ?_)
        refine wpS_bind (wp_binS C hD hB2 (by omega) (by omega) hu fun st3 hB3 hu3 => ?_)
        rw [if_neg (by simp)]
        exact go _ st3 hB3 (by omega) (by omega) hu3 _ fun _ _ q => q
      · rw [if_neg cm]
        exact go m st2 hB2 (by omega) (by omega) hu _ fun _ _ q => q
    · dsimp only
      rw [if_neg (by omega)]
      have hB' : SB a₀ kd #[(0, n, 0)] (arrOf st') n st' := ⟨hB.pm, hB.kind, hB.fl, hB.pd, fun _ _ => rfl⟩
      have go : ∀ st2, SB a₀ kd #[(0, n, 0)] (arrOf st') n st2 → Up lt d (arrOf st2) n (a₀.size - n) → ∀ R : ForInStep U2 → SortSt → Prop, (∀ st', PhC a₀ kd lt st' → R (.yield (none, a₀.size)) st') → wpS M A E s (nxt a₀.size n (a₀.size - n)) R st2 := by
        intro st2 hB2 hu R hR
        have hs2 : SL lt (arrOf st2).toList 0 n := by
          intro i j x y h1 h2 hx hy
          rw [Nat.zero_add] at hx hy
          rw [Array.getElem?_toList, hB2.fx i (by omega), ← Array.getElem?_toList] at hx
          rw [Array.getElem?_toList, hB2.fx j (by omega), ← Array.getElem?_toList] at hy
          exact hs i j x y h1 h2 (by rw [Nat.zero_add]; exact hx) (by rw [Nat.zero_add]; exact hy)
        unfold nxt
        refine wpS_bind (wpS_get ?_)
        have hb : (pendingOf st2).back? = some (0, n, 0) := by rw [hB2.pd]; rfl
        rw [hb]
        dsimp only
        refine wpS_bind (wpS_mono (wpS_forRange (I := fun _ c st3 => c = (none, ()) ∧ st3 = st2) (Q := fun c st3 => c = (none, ()) ∧ st3 = st2) ?_ (fun _ _ hh => hh) ⟨rfl, rfl⟩) ?_)
        · rintro x c st3 _ _ ⟨rfl, rfl⟩
          refine wpS_bind (wpS_get ?_)
          rw [if_neg (by rw [hB2.pd]; simp)]
          exact wpS_pure ⟨rfl, rfl⟩
        · rintro c st3 ⟨rfl, rfl⟩
          dsimp only
          refine wpS_bind (wpS_modify ?_)
          refine wp_psh ?_
          rw [show n + (a₀.size - n) = a₀.size by omega]
          refine hR _ (.inr ⟨n, a₀.size - n, power' a₀.size (2 * 0 + n) (2 * 0 + n + n + (a₀.size - n)) a₀.size, by omega, by omega, by omega, ?_, hs2, hu.sl⟩)
          refine ⟨hB2.pm, hB2.kind, hB2.fl, ?_, fun _ hi => by omega⟩
          show ((pendingOf st3).modify _ _).push _ = _
          rw [hB2.pd]
          rfl
      refine wpS_bind (wp_cntR (d := d) C hD hB' (by omega) (by omega) fun m st2 hB2 hm1 hm2 hu => ?_)
      dsimp only
      by_cases cm : m < r
      · rw [if_pos cm]
        refine wpS_bind (wpS_rule ?_)
        rw [show min (a₀.size - n) r = a₀.size - n by omega]
        refine wpS_bind (wp_binS C hD hB2 (by omega) (by omega) hu fun st3 hB3 hu3 => ?_)
        rw [if_neg (by simp)]
        exact go st3 hB3 hu3 _ fun _ q => .inr (.inr ⟨by omega, rfl, q⟩)
      · rw [if_neg cm]
        have : m = a₀.size - n := by omega
        subst this
        exact go st2 hB2 hu _ fun _ q => .inr (.inr ⟨by omega, rfl, q⟩)
    · dsimp only
      rw [if_pos (Nat.le_refl _)]
      exact wpS_pure (hq st' hC)
  · rintro c st' (⟨hx, _⟩ | ⟨hx, _⟩ | ⟨_, rfl, hC⟩)
    · omega
    · omega
    · exact hq st' hC
def Dun (a₀ : V) (lt : Keyed → Keyed → Bool) (st : SortSt) : Prop := (arrOf st).toList.Perm a₀.toList ∧ failedOf st = none ∧ (arrOf st).toList.Pairwise (Le lt)
theorem wp_colp (C : Cmp M A E s kd D lt) (hD : ∀ x, x ∈ a₀.toList → D x) (h2 : 2 ≤ a₀.size) (h : PhC a₀ kd lt st) {Q : U1 → SortSt → Prop} (hq : ∀ st', Dun a₀ lt st' → Q (none, ()) st') : wpS M A E s (colp a₀.size) Q st := by
  unfold colp
  refine wpS_forRange (I := fun x c st' => c = (none, ()) ∧ ((x = 0 ∧ PhC a₀ kd lt st') ∨ (1 ≤ x ∧ Dun a₀ lt st' ∧ (pendingOf st').size ≤ 1))) ?_ ?_ ⟨rfl, .inl ⟨rfl, h⟩⟩
  · rintro x c st' _ _ ⟨rfl, ⟨rfl, hC⟩ | ⟨_, hd, hp⟩⟩
    · refine wpS_bind (wpS_get ?_)
      rcases hC with ⟨hB, hs⟩ | ⟨n1, n2, pw, hz, g1, g2, hB, sa, sb⟩
      · rw [if_pos (by rw [hB.pd]; simp)]
        refine wpS_pure (hq st' ⟨Array.perm_iff_toList_perm.mp hB.pm, hB.fl, ?_⟩)
        have := hs.pw
        rwa [List.drop_zero, List.take_of_length_le (by rw [Array.length_toList, hB.size]; omega)] at this
      · rw [if_neg (by rw [hB.pd]; simp)]
        have e : (if Option.any (fun x => decide (x < ((pendingOf st')[(pendingOf st').size - 2 + 1]?).elim 0 fun x => x.2.1)) (if (pendingOf st').size - 2 > 0 then Option.map (fun x => x.2.1) (pendingOf st')[(pendingOf st').size - 2 - 1]? else none) = true
            then (pendingOf st').size - 2 - 1 else (pendingOf st').size - 2) = 0 := by rw [hB.pd]; rfl
        rw [e]
        refine wpS_bind (wp_mAt C hD g1 g2 hz hB sa sb fun st2 O => ?_)
        rw [if_neg (by simp)]
        refine wpS_pure ⟨rfl, .inr ⟨by omega, ⟨O.pm, O.fl, O.so⟩, ?_⟩⟩
        obtain ⟨w, hw⟩ := O.pd
        rw [hw]; simp
    · refine wpS_bind (wpS_get ?_)
      rw [if_pos hp]
      exact wpS_pure (hq st' hd)
  · rintro c st' ⟨rfl, ⟨hx, _⟩ | ⟨_, hd, _⟩⟩
    · omega
    · exact hq st' hd
theorem wp_sortRuns (C : Cmp M A E s kd D lt) (hD : ∀ x, x ∈ (arrOf st).toList → D x) (d : Keyed) (h2 : 2 ≤ (arrOf st).size) (h128 : (arrOf st).size < 128) (hk : kindOf st = kd) (hp : pendingOf st = #[]) (hf : failedOf st = none)
    {Q : Unit → SortSt → Prop} (hq : ∀ st', Dun (arrOf st) lt st' → Q () st') : wpS M A E s sortRuns' Q st := by
  rw [sortRuns_sRun]
  unfold sRun
  refine wpS_bind (wpS_get ?_)
  obtain ⟨m1, m2, m3⟩ := minRun_ok h2 h128
  refine wpS_bind (wp_runs C hD d h2 m1 m2 m3 ⟨Array.Perm.refl _, hk, hf, hp, fun _ hi => by omega⟩ fun st1 hC => ?_)
  dsimp only
  refine wpS_bind (wp_colp C hD h2 hC fun st2 hd => ?_)
  exact wpS_pure (hq st2 hd)
end
end Srt
set_option autoImplicit false
namespace Srt
open PySem PyProof.Rows
def kStep (a f : Addr) (its : Array Value) (ks x : Value) : Sem (ForInStep PUnit) := (call (.ref f) [x]).attempt >>= fun r => match r with
  | .ok k => Builtin.List.listUpdate ks (fun v => v.push k) >>= fun _ => pure (.yield ⟨⟩)
  | .error e => do
    rule "list.sort.key-raised"
    let m ← Builtin.List.listItems ks
    Builtin.List.listUpdate ks fun _ => #[]
    letGo m.toList.reverse [e]
    Builtin.List.listUpdate (.ref a) fun _ => its
    let _ : PUnit ← throw e
    pure (.yield ⟨⟩)
section
variable {prog : Program} {w : World} {A : Around} {E : Value → Shared → Prop} {s : Shared}
structure Kd (prog : Program) (w : World) (A : Around) (E : Value → Shared → Prop) (a KS : Addr) (e1 : Nat) (vs : List Value) (P : PySem.Fin → Shared → Prop) (s2 : Shared) : Prop where
  go : ∃ (keys : List Value) (n : Nat) (kd : SortKind) (D : Keyed → Prop) (lt : Keyed → Keyed → Bool), s2.heap.get? a = some (seqObj "list" #[] e1) ∧ s2.heap.get? KS = some (seqObj "list" keys.toArray n) ∧ keys.length = vs.length ∧
    (2 ≤ vs.length → wpAny (model prog w) A (keyKind' keys.toArray) (fun k s' => s' = s2 ∧ k = kd) E s2 ∧ Cmp (model prog w) A E s2 kd D lt ∧ ∀ p, p ∈ keys.zip vs → D p) ∧
    ∀ out : List Keyed, out.Perm (keys.zip vs) → out.Pairwise (Le lt) → P (.done (.ret .none)) { s2 with heap := (s2.heap.update KS (Obj.mapSeq fun _ => #[])).update a (Obj.mapSeq fun _ => (out.map (·.2)).toArray) }
theorem sort_keyed {a f : Addr} {vs : List Value} {n0 : Nat} {P : PySem.Fin → Shared → Prop} (ho : s.heap.get? a = some (seqObj "list" vs.toArray n0)) (hl : vs.length < 128)
    (hk : ∀ e1, (s.heap.update a (Obj.mapSeq fun _ => #[])).get? a = some (seqObj "list" #[] e1) → wpAny (model prog w) A (forIn vs PUnit.unit fun x _ => kStep a f vs.toArray (.ref (s.heap.objs.size + 1)) x)
      (fun _ s2 => a ≠ s.heap.objs.size + 1 → Kd prog w A E a (s.heap.objs.size + 1) e1 vs P s2) E { s with heap := ((s.heap.update a (Obj.mapSeq fun _ => #[])).push (seqObj "tuple" vs.toArray 0)).push (seqObj "list" #[] 0) }) :
    wpAny (model prog w) A (Builtin.«list.sort» ⟨[.ref a], [("key", .ref f)]⟩) P E s := by
  unfold Builtin.«list.sort»
  dsimp only
  rw [if_neg (by simp), if_neg (by simp)]
  have e1 : List.lookup (Str.ofString "key") [(Str.ofString "key", Value.ref f)] = some (.ref f) := by simp [List.lookup]
  have e2 : List.lookup (Str.ofString "reverse") [(Str.ofString "key", Value.ref f)] = none := by
    have : (Str.ofString "reverse" == Str.ofString "key") = false := by decide +kernel
    simp [List.lookup, this]
  rw [List.forIn_cons, e1, e2]
  refine wpAny_bind (wpAny_bind ?_)
  dsimp only
  rw [if_neg (by simp)]
  refine wpAny_pure ?_
  dsimp only
  rw [List.forIn_nil]
  refine wpAny_pure ?_
  refine wpAny_bind (wpAny_pure ?_)
  have ha : a < s.heap.objs.size := Heap.lt_size ho
  refine wpAny_bind (listItems_at ho rfl ?_)
  refine wpAny_bind (listUpdate_at ho rfl ?_)
  obtain ⟨q, hq⟩ : ∃ q, (s.heap.update a (Obj.mapSeq fun _ => #[])).get? a = some (seqObj "list" #[] q) := ⟨_, get?_update_seq ho (fun _ => #[])⟩
  dsimp only
  refine wpAny_bind (seqEpoch_at hq rfl ?_)
  refine wpAny_bind (wpAny_newTuple ?_)
  refine wpAny_bind (wpAny_newList ?_)
  refine wpAny_holding ?_
  rw [if_pos (by rfl)]
  refine wpAny_bind (wpAny_rule ?_)
  have hsz : ((s.heap.update a (Obj.mapSeq fun _ => #[])).push (seqObj "tuple" vs.toArray 0)).objs.size = s.heap.objs.size + 1 := by rw [size_push', Heap.size_update]
  dsimp only
  rw [hsz, List.forIn_toArray]
  refine wpAny_bind (wpAny_mono (hk q hq) (fun u s2 h2 => ?_) fun _ _ e => e)
  obtain ⟨keys, n, kd, D, lt, g1, g2, g3, g4, g5⟩ := (h2 (Nat.ne_of_lt (Nat.lt_succ_of_lt ha))).go
  have hne : a ≠ s.heap.objs.size + 1 := Nat.ne_of_lt (Nat.lt_succ_of_lt ha)
  rw [if_pos (by rfl)]
  refine wpAny_bind (listItems_at g2 rfl ?_)
  rw [if_neg (by simp)]
  have fin : ∀ st : SortSt, failedOf st = none → (arrOf st).toList.Perm (keys.zip vs) → (arrOf st).toList.Pairwise (Le lt) →
      wpAny (model prog w) A (do
        Builtin.List.listUpdate (.ref (s.heap.objs.size + 1)) fun _ => #[]
        letGo ((arrOf st).map (·.1)).toList (failedOf st).toList
        let e ← seqEpoch a
        Builtin.List.listUpdate (.ref a) fun _ => (arrOf st).map (·.2)
        if (e != q) = true then rule "list.sort.modified" >>= fun _ => raiseErrorWords "ValueError" "list modified during sort" >>= fun (_ : Unit) => ret .none else ret .none) P E s2 := by
    intro st hf hp hs
    refine wpAny_bind (listUpdate_at g2 rfl ?_ (by rw [List.size_toArray, g3]; have := sizeLine_eq; omega))
    refine wpAny_bind (wpAny_letGo ?_)
    have g1' : (s2.heap.update (s.heap.objs.size + 1) (Obj.mapSeq fun _ => #[])).get? a = some (seqObj "list" #[] q) := by
      rw [Heap.get?_update_other _ _ (Ne.symm hne)]; exact g1
    refine wpAny_bind (seqEpoch_at g1' rfl ?_)
    have hlen : ((arrOf st).map (·.2)).size ≤ sizeLine + 1 := by
      rw [Array.size_map, ← Array.length_toList, hp.length_eq, List.length_zip, g3]
      have := sizeLine_eq; omega
    refine wpAny_bind (listUpdate_at g1' rfl ?_ (hsz2 := hlen))
    rw [if_neg (by simp)]
    have e3 : (arrOf st).map (·.2) = ((arrOf st).toList.map (·.2)).toArray := by rw [← Array.toList_map]
    rw [e3]
    exact wpAny_pure (g5 _ hp hs)
  by_cases h2' : vs.toArray.size < 2
  · rw [if_pos h2', if_pos h2']
    refine wpAny_bind (wpAny_pure ?_)
    rw [StateT.run_pure]
    refine wpAny_bind (wpAny_pure ?_)
    rw [if_pos (by rfl)]
    have hz : (keys.zip vs).length ≤ 1 := by rw [List.length_zip, g3]; simp at h2'; omega
    refine fin (SortSt.mk' general' (keys.toArray.zip vs.toArray) #[] 7 none) rfl ?_ ?_
    · show (keys.toArray.zip vs.toArray).toList.Perm _
      simp
    · show (keys.toArray.zip vs.toArray).toList.Pairwise _
      have : (keys.toArray.zip vs.toArray).toList = keys.zip vs := by simp
      rw [this]
      match keys.zip vs, hz with
      | [], _ => exact .nil
      | [x], _ => exact List.pairwise_singleton _ _
      | x :: y :: r, h => simp at h
  · rw [if_neg h2', if_neg h2']
    obtain ⟨k1, k2, k3⟩ := g4 (by simp at h2'; omega)
    refine wpAny_bind (wpAny_mono k1 (fun k s' hk' => ?_) fun _ _ e => e)
    obtain ⟨rfl, rfl⟩ := hk'
    have za : (arrOf (SortSt.mk' k (keys.toArray.zip vs.toArray) #[] 7 none)).toList = keys.zip vs := by
      show (keys.toArray.zip vs.toArray).toList = _
      simp
    have zs : (arrOf (SortSt.mk' k (keys.toArray.zip vs.toArray) #[] 7 none)).size = vs.length := by
      rw [← Array.length_toList, za, List.length_zip, g3, Nat.min_self]
    refine wpAny_bind (wpAny_mono (wp_sortRuns (st := SortSt.mk' k (keys.toArray.zip vs.toArray) #[] 7 none) k2 (fun p hp => k3 p (by rw [za] at hp; exact hp)) (.none, .none) (by rw [zs]; simp at h2'; omega) (by rw [zs]; exact hl) rfl rfl rfl
      (Q := fun _ st' => Dun (arrOf (SortSt.mk' k (keys.toArray.zip vs.toArray) #[] 7 none)) lt st') fun st' h => h) (fun r s3 hr => ?_) fun _ _ e => e)
    obtain ⟨⟨⟩, st'⟩ := r
    obtain ⟨rfl, d1, d2, d3⟩ := hr
    dsimp only
    rw [if_pos (by rfl)]
    have F := fin st' d2 (by rw [← za]; exact d1) d3
    have d4 : failedOf st' = none := d2
    unfold failedOf at d4
    simp only [failedOf] at F
    rw [d4] at F ⊢
    exact F
end
end Srt
set_option autoImplicit false
namespace Srt
open PySem PyProof.Rows
section
variable {prog : Program} {w : World} {A : Around} {E : Value → Shared → Prop} {s : Shared}
theorem wp_mapM {α β : Type} {f : α → Sem β} {g : α → β} {M : Model} (l : List α) (h : ∀ x, x ∈ l → wpAny M A (f x) (fun r s' => s' = s ∧ r = g x) E s) : wpAny M A (l.mapM f) (fun r s' => s' = s ∧ r = l.map g) E s := by
  induction l with
  | nil => rw [List.mapM_nil]; exact wpAny_pure ⟨rfl, rfl⟩
  | cons x l ih =>
    rw [List.mapM_cons]
    refine wpAny_bind (wpAny_mono (h x List.mem_cons_self) (fun r s' hr => ?_) fun _ _ e => e)
    rw [hr.1, hr.2]
    refine wpAny_bind (wpAny_mono (ih fun y hy => h y (List.mem_cons_of_mem _ hy)) (fun r s' hr => ?_) fun _ _ e => e)
    rw [hr.1, hr.2]
    exact wpAny_pure ⟨rfl, rfl⟩
theorem wp_mapMA {α β : Type} {f : α → Sem β} {g : α → β} {M : Model} {l : List α} (h : ∀ x, x ∈ l → wpAny M A (f x) (fun r s' => s' = s ∧ r = g x) E s) : wpAny M A (l.toArray.mapM f) (fun r s' => s' = s ∧ r = (l.map g).toArray) E s := by
  rw [List.mapM_toArray]
  show wpAny M A (List.toArray <$> l.mapM f) _ E s
  rw [map_eq_pure_bind]
  refine wpAny_bind (wpAny_mono (wp_mapM l h) (fun r s' hr => ?_) fun _ _ e => e)
  obtain ⟨rfl, rfl⟩ := hr
  exact wpAny_pure ⟨rfl, rfl⟩
def TupAt (h : Heap) (a : Addr) (its : List Value) : Prop := ∃ o n, h.get? a = some o ∧ o.cls = .type "tuple" ∧ o.data = .seq its.toArray n
theorem firstOfTuple'_eq (v : Value) : firstOfTuple' v = (do
    if (← typeOf v) != .type "tuple" then return none
    return (← Builtin.List.listItems v)[0]?) := rfl
theorem wp_first {M : Model} {a : Addr} {its : List Value} (h : TupAt s.heap a its) : wpAny M A (firstOfTuple' (.ref a)) (fun r s' => s' = s ∧ r = its[0]?) E s := by
  obtain ⟨o, n, h1, h2, h3⟩ := h
  rw [firstOfTuple'_eq]
  refine wpAny_bind (wpAny_typeOf (T := "tuple") ⟨o, h1, h2⟩ ?_)
  rw [if_neg (by simp)]
  refine wpAny_bind (listItems_at h1 h3 ?_)
  exact wpAny_pure ⟨rfl, by simp⟩
theorem wp_oneType {M : Model} {l : List Value} (hl : l ≠ []) (h : ∀ x, x ∈ l → ∃ a its, x = .ref a ∧ TupAt s.heap a its) : wpAny M A (oneTypeOnly' l.toArray) (fun r s' => s' = s ∧ r = some (.type "tuple")) E s := by
  rw [oneTypeOnly'_eq]
  refine wpAny_bind (wpAny_mono (wp_mapMA (g := fun _ => Value.type "tuple") fun x hx => ?_) (fun r s' hr => ?_) fun _ _ e => e)
  · obtain ⟨a, its, rfl, o, n, h1, h2, h3⟩ := h x hx
    exact wpAny_typeOf (T := "tuple") ⟨o, h1, h2⟩ ⟨rfl, rfl⟩
  · obtain ⟨rfl, rfl⟩ := hr
    match l, hl with
    | x :: l, _ =>
      have h0 : (List.map (fun _ => Value.type "tuple") (x :: l)).toArray[0]? = some (Value.type "tuple") := by simp
      have hall : ((List.map (fun _ => Value.type "tuple") (x :: l)).toArray.all fun x => x == Value.type "tuple") = true := by
        simp only [List.all_toArray, List.all_map, List.all_eq_true]
        intro _ _
        rfl
      rw [h0]
      dsimp only
      rw [hall]
      exact wpAny_pure ⟨rfl, rfl⟩
theorem wp_kindT {M : Model} {keys : List Value} (hl : keys ≠ []) (h : ∀ x, x ∈ keys → ∃ a its b r jts, x = .ref a ∧ TupAt s.heap a its ∧ its = .ref b :: r ∧ TupAt s.heap b jts) :
    wpAny M A (keyKind' keys.toArray) (fun k s' => s' = s ∧ k = tuples' false) E s := by
  rw [keyKind'_eq]
  have hg : ∀ x, ∃ y : Option Value, x ∈ keys → (∃ b jts, y = some (.ref b) ∧ TupAt s.heap b jts) ∧ ∀ M : Model, wpAny M A (firstOfTuple' x) (fun r s' => s' = s ∧ r = y) E s := by
    intro x
    by_cases hx : x ∈ keys
    · obtain ⟨a, its, b, r, jts, rfl, h1, rfl, h2⟩ := h x hx
      exact ⟨some (.ref b), fun _ => ⟨⟨b, jts, rfl, h2⟩, fun M => wp_first h1⟩⟩
    · exact ⟨none, fun z => absurd z hx⟩
  let g := fun x => Classical.choose (hg x)
  have gs : ∀ x, x ∈ keys → (∃ b jts, g x = some (.ref b) ∧ TupAt s.heap b jts) ∧ ∀ M : Model, wpAny M A (firstOfTuple' x) (fun r s' => s' = s ∧ r = g x) E s := fun x hx => Classical.choose_spec (hg x) hx
  refine wpAny_bind (wpAny_mono (wp_mapMA (g := g) fun x hx => (gs x hx).2 M) (fun r s' hr => ?_) fun _ _ e => e)
  obtain ⟨rfl, rfl⟩ := hr
  rw [if_pos (by
    simp only [List.all_toArray, List.all_map, List.all_eq_true]
    intro x hx
    obtain ⟨⟨b, jts, e, _⟩, _⟩ := gs x hx
    show (g x).isSome = true
    rw [e]; rfl)]
  refine wpAny_bind (wpAny_rule ?_)
  have ef : (keys.map g).toArray.filterMap id = ((keys.map g).filterMap id).toArray := by simp
  rw [ef]
  refine wpAny_bind (wpAny_mono (wp_oneType (l := (keys.map g).filterMap id) ?_ ?_) (fun r s' hr => ?_) fun _ _ e => e)
  · match keys, hl, gs with
    | x :: l, _, gs =>
      obtain ⟨⟨b, jts, e, _⟩, _⟩ := gs x List.mem_cons_self
      rw [List.map_cons, e]
      simp
  · intro x hx
    obtain ⟨y, hy, e⟩ := List.mem_filterMap.mp hx
    obtain ⟨z, hz, e'⟩ := List.mem_map.mp hy
    obtain ⟨⟨b, jts, e2, t⟩, _⟩ := gs z hz
    have : some x = some (Value.ref b) := by rw [← e2, e']; exact e.symm
    cases this
    exact ⟨b, jts, rfl, t⟩
  · obtain ⟨rfl, rfl⟩ := hr
    refine wpAny_pure ⟨rfl, ?_⟩
    have : ((some (Value.type "tuple")).any fun x => x != Value.type "tuple") = false := by rfl
    rw [this]
theorem wp_kindE {M : Model} {keys : List Value} (hl : keys ≠ []) (h : ∀ x, x ∈ keys → ∃ a, x = .ref a ∧ TupAt s.heap a []) :
    wpAny M A (keyKind' keys.toArray) (fun k s' => s' = s ∧ k = oneType') E s := by
  rw [keyKind'_eq]
  refine wpAny_bind (wpAny_mono (wp_mapMA (g := fun _ => (none : Option Value)) fun x hx => ?_) (fun r s' hr => ?_) fun _ _ e => e)
  · obtain ⟨a, rfl, t⟩ := h x hx
    exact wp_first t
  · obtain ⟨rfl, rfl⟩ := hr
    match keys, hl, h with
    | x :: l, hl, h =>
      rw [if_neg (by simp), if_neg (by simp)]
      refine wpAny_bind (wpAny_mono (wp_oneType hl fun x hx => let ⟨a, e, t⟩ := h x hx; ⟨a, [], e, t⟩) (fun r s' hr => ?_) fun _ _ e => e)
      obtain ⟨rfl, rfl⟩ := hr
      exact wpAny_pure ⟨rfl, rfl⟩
end
end Srt
set_option autoImplicit false
namespace Srt
open PySem PyProof.Rows
inductive LexS (A : Around) (s : Shared) : List Value → List Value → Bool → Prop
  | nn : LexS A s [] [] false
  | nc (x xs) : LexS A s [] (x :: xs) true
  | cn (y ys) : LexS A s (y :: ys) [] false
  | eq {y x ys xs k} : SeqAt.EqAt A s y x true → LexS A s ys xs k → LexS A s (y :: ys) (x :: xs) k
  | ne {y x ys xs k} : SeqAt.EqAt A s y x false → (∀ (prog : Program) (w : World) (E Q : Value → Shared → Prop), Q (.bool k) s → wpAny (model prog w) A (richCompare .Lt y x) Q E s) → LexS A s (y :: ys) (x :: xs) k
section
variable {prog : Program} {w : World} {A : Around} {E : Value → Shared → Prop} {s : Shared}
theorem keyLtT (c : Bool) (x y : Value) : keyLt' (tuples' c) x y = (Builtin.List.listItems x >>= fun xs => Builtin.List.listItems y >>= fun ys =>
    (forIn (xs.toList.zip ys.toList).zipIdx ((none, ()) : Option Bool × Unit) fun z _ => eqBool z.1.1 z.1.2 >>= fun e => if (!e) = true then oneLt' (c && z.2 == 0) z.1.1 z.1.2 >>= fun r => pure (.done (some r, ())) else pure (.yield (none, ()))) >>= fun r =>
    match r.1 with
    | some r => pure r
    | none => pure (decide (xs.size < ys.size))) := by kernel_rfl
theorem oneLtF (x y : Value) : oneLt' false x y = richCompare .Lt x y >>= fun v => truthOfDropped v := by rw [oneLt'_eq]; rfl
theorem wp_dropped {b : Bool} {Q : Bool → Shared → Prop} (h : Q b s) : wpAny (model prog w) A (truthOfDropped (.bool b)) Q E s := wpAny_truthy_bool h
theorem lexLoop {m n : Nat} {k : Bool} (vs ws : List Value) (i : Nat) (hx : LexS A s vs ws k) : vs.length + n = ws.length + m →
      wpAny (model prog w) A (forIn ((vs.zip ws).zipIdx i) ((none, ()) : Option Bool × Unit) fun z _ => eqBool z.1.1 z.1.2 >>= fun e => if (!e) = true then oneLt' (false && z.2 == 0) z.1.1 z.1.2 >>= fun r => pure (.done (some r, ())) else pure (.yield (none, ())))
        (fun r s' => s' = s ∧ (r = (some k, ()) ∨ (r = (none, ()) ∧ k = decide (m < n)))) E s := by
  induction hx generalizing i with
  | nn => intro h; rw [List.zip_nil_left, List.zipIdx_nil, List.forIn_nil]; exact wpAny_pure ⟨rfl, .inr ⟨rfl, (decide_eq_false (by simp at h; omega)).symm⟩⟩
  | nc x xs => intro h; rw [List.zip_nil_left, List.zipIdx_nil, List.forIn_nil]; exact wpAny_pure ⟨rfl, .inr ⟨rfl, (decide_eq_true (by simp at h; omega)).symm⟩⟩
  | cn y ys => intro h; rw [List.zip_nil_right, List.zipIdx_nil, List.forIn_nil]; exact wpAny_pure ⟨rfl, .inr ⟨rfl, (decide_eq_false (by simp at h; omega)).symm⟩⟩
  | eq he hr ih =>
    intro h
    rw [List.zip_cons_cons, List.zipIdx_cons, List.forIn_cons]
    refine wpAny_bind (wpAny_bind (he prog w E _ ?_))
    rw [if_neg (by simp)]
    exact wpAny_pure (ih (i + 1) (by simpa using (by simp at h; omega)))
  | ne he hr =>
    intro h
    rw [List.zip_cons_cons, List.zipIdx_cons, List.forIn_cons]
    refine wpAny_bind (wpAny_bind (he prog w E _ ?_))
    rw [if_pos (by simp)]
    simp only [Bool.false_and]
    rw [oneLtF]
    refine wpAny_bind (wpAny_bind (hr prog w E _ (wp_dropped ?_)))
    exact wpAny_pure (wpAny_pure ⟨rfl, .inl rfl⟩)
theorem wp_keyLtT {l b : Addr} {its its2 : List Value} {k : Bool} {Q : Bool → Shared → Prop} (hl : TupAt s.heap l its) (hb : TupAt s.heap b its2) (hx : LexS A s its its2 k) (hq : Q k s) :
    wpAny (model prog w) A (keyLt' (tuples' false) (.ref l) (.ref b)) Q E s := by
  obtain ⟨o1, n1, a1, _, a3⟩ := hl
  obtain ⟨o2, n2, b1, _, b3⟩ := hb
  rw [keyLtT]
  refine wpAny_bind (listItems_at a1 a3 (wpAny_bind (listItems_at b1 b3 ?_)))
  simp only [List.size_toArray]
  refine wpAny_bind (wpAny_mono (lexLoop its its2 0 hx (m := its.length) (n := its2.length) (by omega)) (fun r s' h => ?_) fun _ _ e => e)
  obtain ⟨rfl, rfl | ⟨rfl, e⟩⟩ := h
  · exact wpAny_pure hq
  · dsimp only
    rw [← e]
    exact wpAny_pure hq
theorem wp_lt {kd : SortKind} {x y : Keyed} {k : Bool} {st : SortSt} (hk : kindOf st = kd) (h : ∀ (E : Value → Shared → Prop) (Q : Bool → Shared → Prop), Q k s → wpAny (model prog w) A (keyLt' kd x.1 y.1) Q E s) {Q : Option Bool → SortSt → Prop} (hq : Q (some k) st) :
    wpS (model prog w) A E s (lt' x y) Q st := by
  rw [lt'_eq]
  refine wpS_bind (wpS_get ?_)
  rw [hk]
  refine wpS_bind (wpS_lift (wpAny_attempt (h _ _ ⟨rfl, ?_⟩)))
  exact wpS_pure hq
end
end Srt
namespace L2
namespace M
open PySem PySem.Spec PyProof.Rows
mutual
def pureD : MV → Bool
  | .int _ => true
  | .str _ => true
  | .tup ds => pureL ds
  | _ => false
def pureL : List MV → Bool
  | [] => true
  | d :: ds => pureD d && pureL ds
end
theorem perm_lift {α β : Type} {g : α → β} {p m : List β} (h : p.Perm m) : ∀ l : List α, l.map g = p → ∃ l' : List α, l'.Perm l ∧ l'.map g = m := by
  induction h with
  | nil => intro l e; exact ⟨l, .refl _, e⟩
  | cons x _ ih =>
    intro l e
    cases l with
    | nil => cases e
    | cons a l =>
      rw [List.map_cons] at e
      injection e with e1 e2
      obtain ⟨l', p', q'⟩ := ih l e2
      exact ⟨a :: l', p'.cons a, by rw [List.map_cons, e1, q']⟩
  | swap x y t =>
    intro l e
    match l, e with
    | a :: b :: l, e =>
      rw [List.map_cons, List.map_cons] at e
      injection e with e1 e2
      injection e2 with e2 e3
      exact ⟨b :: a :: l, .swap _ _ _, by rw [List.map_cons, List.map_cons, e1, e2, e3]⟩
  | trans _ _ ih1 ih2 =>
    intro l e
    obtain ⟨l1, p1, q1⟩ := ih1 l e
    obtain ⟨l2, p2, q2⟩ := ih2 l1 q1
    exact ⟨l2, p2.trans p1, q2⟩
section
variable {X : Cx} {α : List Addr} {S : Sto} {H : Hp} {pins : List (Addr × Obj)} {σ : St} {s : Shared}
mutual
theorem den_inj (I : Inv X pins σ H s) : ∀ {d d' : MV} {v : V}, pureD d = true → pureD d' = true → Den X.K α H d v → Den X.K α H d' v → d = d'
  | .int i, d', v, _, h', q, q' => by
    cases of_int q
    cases d' with
    | int j => cases of_int q'; rfl
    | str x => cases of_str q'
    | tup ds => obtain ⟨a, vs, e, _⟩ := of_tup q'; cases e
    | _ => simp [pureD] at h'
  | .str x, d', v, _, h', q, q' => by
    have e := of_str q
    cases d' with
    | int j => rw [of_int q'] at e; cases e
    | str y => rw [of_str q'] at e; injection e with e; rw [mkS_inj e]
    | tup ds => obtain ⟨a, vs, e', _⟩ := of_tup q'; rw [e'] at e; cases e
    | _ => simp [pureD] at h'
  | .tup ds, d', v, h, h', q, q' => by
    obtain ⟨a, vs, e, t, l⟩ := of_tup q
    cases d' with
    | int j => rw [of_int q'] at e; cases e
    | str y => rw [of_str q'] at e; cases e
    | tup es =>
      obtain ⟨a', vs', e', t', l'⟩ := of_tup q'
      rw [e] at e'; cases e'
      have := I.tuple_inj t t'
      subst this
      rw [denl_inj I (by unfold pureD at h; exact h) (by unfold pureD at h'; exact h') l l']
    | _ => simp [pureD] at h'
theorem denl_inj (I : Inv X pins σ H s) : ∀ {ds es : List MV} {vs : List V}, pureL ds = true → pureL es = true → DenL X.K α H ds vs → DenL X.K α H es vs → ds = es
  | [], [], _, _, _, _, _ => rfl
  | [], e :: es, _, _, _, q, q' => by obtain ⟨v, r, e, _⟩ := q'.uncons; rw [q.isnil] at e; cases e
  | d :: ds, [], _, _, _, q, q' => by obtain ⟨v, r, e, _⟩ := q.uncons; rw [q'.isnil] at e; cases e
  | d :: ds, e :: es, _, h, h', q, q' => by
    obtain ⟨v, r, rfl, a, l⟩ := q.uncons
    obtain ⟨v', r', e', a', l'⟩ := q'.uncons
    cases e'
    unfold pureL at h h'
    rw [Bool.and_eq_true] at h h'
    rw [den_inj I h.1 h'.1 a a', denl_inj I h.2 h'.2 l l']
end
theorem lexRS {A : Around} {xs ys : List Value} {k : Bool} (h : LexR A s xs ys k) : Srt.LexS A s xs ys k := by
  induction h with
  | nn => exact .nn
  | nc x xs => exact .nc x xs
  | cn x xs => exact .cn x xs
  | eq a _ ih => exact .eq a ih
  | ne a b => exact .ne a b
inductive KindD : Bool → MV → Prop
  | t (es r) : KindD true (.tup (.tup es :: r))
  | e : KindD false (.tup [])
abbrev kindK (b : Bool) : SortKind := if b = true then tuples' false else oneType'
theorem tup_at (I : Inv X pins σ H s) {ds : List MV} {x : V} {u : Value} (d : Den X.K α H (.tup ds) x) (r : RelV x u) : ∃ a vs its, u = .ref a ∧ DenL X.K α H ds vs ∧ Vals vs its ∧ Srt.TupAt s.heap a its ∧ IsTup s.heap a its.toArray := by
  obtain ⟨a, vs, rfl, t, l⟩ := of_tup d
  cases r
  obtain ⟨its, r1, pt, _⟩ := I.tuple t
  obtain ⟨o, h1, h2, n, h3⟩ := id pt
  exact ⟨a, vs, its, rfl, l, r1, ⟨o, n, h1, h2, h3⟩, pt⟩
theorem keyLt_m (I : Inv X pins σ H s) (wd : Wd X.g α S H) {A : Around} (hu : A.units + 64 < cLine) {b : Bool} {d f : MV} {x y : V} {u v : Value} {k : Bool} (kd : KindD b d) (kf : KindD b f) (h1 : Den X.K α H d x) (h2 : Den X.K α H f y) (rx : RelV x u) (ry : RelV y v)
    (h : ltv S depthE d f = some k) (prog : Program) (w : World) (E : Value → Shared → Prop) (Q : Bool → Shared → Prop) (hq : Q k s) : wpAny (model prog w) A (keyLt' (kindK b) u v) Q E s := by
  cases kd with
  | t es r =>
    cases kf with
    | t es' r' =>
      obtain ⟨a1, vs1, its1, rfl, l1, v1, t1, _⟩ := tup_at I h1 rx
      obtain ⟨a2, vs2, its2, rfl, l2, v2, t2, _⟩ := tup_at I h2 ry
      have h' : lexv (eqv S 39) (ltv S 39) (.tup es :: r) (.tup es' :: r') = some k := h
      refine Srt.wp_keyLtT t1 t2 (lexRS (lex_m (fun d f x y u v k a b c d' e => eqAt_m I wd 39 A d f x y u v k (by omega) a b c d' e)
        (fun d f x y u v k a b c d' e => ltAt_m I wd 39 A d f x y u v k (by omega) a b c d' e) l1 l2 v1 v2 h')) hq
  | e =>
    cases kf
    obtain ⟨a1, vs1, its1, rfl, l1, v1, t1, p1⟩ := tup_at I h1 rx
    obtain ⟨a2, vs2, its2, rfl, l2, v2, t2, p2⟩ := tup_at I h2 ry
    cases l1.isnil; cases l2.isnil; cases v1; cases v2
    have hk : k = false := by have h' : (some false : Option Bool) = some k := h; cases h'; rfl
    subst hk
    show wpAny (model prog w) A (keyLt' oneType' _ _) Q E s
    rw [keyLt'_oneType, oneLt'_eq]
    simp only [if_true]
    obtain ⟨⟨cls, dd, data, sl⟩, ho, hc, n, hd⟩ := id p1
    obtain ⟨⟨cls2, dd2, data2, sl2⟩, ho2, hc2, n2, hd2⟩ := id p2
    simp only at hc hd hc2 hd2
    subst hc hd hc2 hd2
    refine wpAny_bind (wpAny_cRoomFor (by omega) ?_)
    refine wpAny_bind (wpAny_callSpecialIfBound?_slot ⟨_, ho, rfl⟩ PySem.F.slot_tuple_lt (call_meets PySem.F.slot_tuple_lt ⟨_, ho, rfl⟩ PySem.F.entry_tuple_lt (PySem.F.args_tuple_lt_2 _ _) (tuple_ltAt a1 a2 _ _ n n2 dd dd2 sl sl2 false) ⟨ho, ho2, .nn, ?_⟩))
    exact wpAny_truthy_bool hq
end
structure OrdD (S : Sto) (ks : List MV) : Prop where
  any : ∀ a, a ∈ ks → ∀ b, b ∈ ks → ∃ t, ltv S depthE a b = some t
  tr : ∀ a, a ∈ ks → ∀ b, b ∈ ks → ∀ c, c ∈ ks → ltv S depthE b a = some false → ltv S depthE c b = some false → ltv S depthE c a = some false
  as : ∀ a, a ∈ ks → ∀ b, b ∈ ks → ltv S depthE a b = some true → ltv S depthE b a = some false
end M
end L2
namespace L2
namespace M
open PySem PySem.Spec PyProof.Rows
theorem args_sortedK (a f : Value) : argsOk "sorted" ⟨[a], [("key", f)]⟩ := by unfold argsOk; kernel_rfl
theorem args_sortK (a f : Value) : argsOk "list.sort" ⟨[a], [("key", f)]⟩ := by unfold argsOk; kernel_rfl
section
variable {X : Cx} {α : List Addr} {S : Sto} {H : Hp} {pins : List (Addr × Obj)} {σ : St} {s : Shared} {k : Nat} {fa : Addr} {fd : FuncData} {ps : List Str} {Fd : List MV → Sto → R Er}
theorem run_fn2 {sp : Sp} {Q : VK} {us : List Value} {vs : List V} {E' : Value → Shared → Prop} (F : FnOk X.prog X.w X.K X.mg X.base CX0 k fa fd ps sp) (hr : Room (k + 2) X.A) (hb : Binds X.K fd ps [])
    (I : Inv X pins σ H s) (r : Vals vs us) (h : sp vs H Q E0) : wpAny (model X.prog X.w) X.A.in1.in1 (call (.ref fa) us) (EP X pins σ Q) E' s := by
  have hl : (us ++ []).length = ps.length := by rw [List.append_nil, ← r.length]; exact F.len _ _ _ _ h
  have b := hb s us I.kIn hl
  rw [List.append_nil] at b
  refine wpAny_call (codeAny_mono (F.run X.A.in1.in1 X.stack s H ⟨us, []⟩ us vs Q E0 hr.in1.in1 I.env0.in1.in1 b r h) fun r s' hq => ?_)
  cases r with
  | error e => exact False.elim hq
  | ok fl =>
    cases fl with
    | ret u => exact I.after hq
    | next => exact False.elim hq
    | brk => exact False.elim hq
    | cont => exact False.elim hq
theorem same_α {g : Gm} {α α' : List Addr} {S : Sto} {H H' : Hp} (w : Wd g α S H) (x : Ext α H α' H') (w' : Wd g α' S H') : α' = α := by
  obtain ⟨t, e⟩ := x.pre
  have h1 := w.len
  have h2 := w'.len
  rw [e, List.length_append] at h2
  have : t = [] := List.length_eq_zero_iff.mp (by omega)
  rw [e, this, List.append_nil]
structure Lp (X : Cx) (pins : List (Addr × Obj)) (σ : St) (α : List Addr) (S : Sto) (H : Hp) (L KS : Addr) (e1 : Nat) (kds : List MV) (m : Nat) (s' : Shared) : Prop where
  go : ∃ (H' : Hp) (ks : List Value) (n : Nat) (kvs : List V), Inv X pins σ H' s' ∧ Ext α H α H' ∧ Wd X.g α S H' ∧ s'.heap.get? L = some (seqObj "list" #[] e1) ∧ s'.heap.get? KS = some (seqObj "list" ks.toArray n) ∧ H' L = none ∧ H' KS = none ∧
    Vals kvs ks ∧ DenL X.K α H' (kds.take m) kvs
theorem lp_step (F : FnOk X.prog X.w X.K X.mg X.base CX0 k fa fd ps (spM X.g 1 Fd)) (hr : Room (k + 2) X.A) (hb : Binds X.K fd ps []) {L KS : Addr} {e1 : Nat} {ds kds : List MV} {xs : List V} {its : List Value} (hne : L ≠ KS)
    (fL : ∀ H', H' L = none → FpOk X pins H' L) (fK : ∀ H', H' KS = none → FpOk X pins H' KS) (dl : DenL X.K α H ds xs) (rv : Vals xs its) (hlen : ds.length < 128) (hkl : kds.length = ds.length)
    (hk : ∀ (m : Nat) d kd, ds[m]? = some d → kds[m]? = some kd → callF 1 Fd [.val d] S = .ok (.val kd) S) {m : Nat} {x : Value} (hx : its[m]? = some x) {A' : Array Value} {E' : Value → Shared → Prop} {P : ForInStep PUnit → Shared → Prop}
    (h : Lp X pins σ α S H L KS e1 kds m s) (hp : ∀ s', Lp X pins σ α S H L KS e1 kds (m + 1) s' → P (.yield ⟨⟩) s') : wpAny (model X.prog X.w) X.A.in1.in1 (Srt.kStep L fa A' (.ref KS) x) P E' s := by
  obtain ⟨H', ks, n, kvs, I, xt, wd, gL, gK, nL, nK, vk, dk⟩ := h.go
  have hm : m < xs.length := by rw [rv.length]; exact (List.getElem?_eq_some_iff.mp hx).1
  obtain ⟨xv, hxv⟩ : ∃ xv, xs[m]? = some xv := ⟨xs[m], List.getElem?_eq_getElem hm⟩
  obtain ⟨x', hx', rx⟩ := rv.get hxv
  rw [hx] at hx'; cases hx'
  obtain ⟨d, hd, dd⟩ := dl.get hxv
  obtain ⟨kd, hkd⟩ : ∃ kd, kds[m]? = some kd := ⟨kds[m]'(by rw [hkl, ← dl.length]; exact hm), List.getElem?_eq_getElem _⟩
  have hc := hk m d kd hd hkd
  have I2 := I.pinned (fp := [L, KS]) (fun b hb => by
    rcases List.mem_cons.mp hb with rfl | hb
    · exact fL _ nL
    · rw [List.mem_singleton.mp hb]; exact fK _ nK) (fun b hb => by
    rcases List.mem_cons.mp hb with rfl | hb
    · exact ⟨_, gL, fun v z => by cases z⟩
    · rw [List.mem_singleton.mp hb]; exact ⟨_, gK, fun v z => by cases z⟩)
  have pl : pinsAt [L, KS] s.heap = [(L, seqObj "list" #[] e1), (KS, seqObj "list" ks.toArray n)] := by
    unfold pinsAt
    simp [gL, gK]
  rw [pl] at I2
  unfold Srt.kStep
  refine wpAny_bind (wpAny_attempt (wpAny_mono (run_fn2 (Q := fun u H2 => ∃ α2, Ext α H' α2 H2 ∧ Wd X.g α2 S H2 ∧ Den X.K α2 H2 kd u) F hr hb I2 (us := [x]) (vs := [xv]) (.cons rx .nil) ?_) (fun u s2 h2 => ?_) fun _ _ e => e))
  · refine call_post (W := W0) (Ext.refl α H') wd (rs := [.val d]) (.cons (DenE.val (dd.ext xt)) (fun ds b e => by cases e) .nil) ?_
    rw [hc]
    exact fun u α2 H2 x2 w2 d2 => ⟨α2, x2, w2, d2.1⟩
  · obtain ⟨v, H2, I3, rv2, α2, x2, w2, d2⟩ := h2
    have hα := same_α wd x2 w2
    subst hα
    have pL := I3.pin (L, seqObj "list" #[] e1) (by simp)
    have pK := I3.pin (KS, seqObj "list" ks.toArray n) (by simp)
    have I4 := I3.unpinned
    dsimp only
    have kl : ks.length < 128 := by
      rw [← vk.length, dk.length, List.length_take]; omega
    refine wpAny_bind (listUpdate_at pK.1 rfl ?_ (by rw [List.size_toArray]; have := sizeLine_eq; omega) (by rw [Array.size_push, List.size_toArray]; have := sizeLine_eq; omega))
    obtain ⟨n', gK'⟩ : ∃ n', (s2.heap.update KS (Obj.mapSeq fun v => v.push u)).get? KS = some (seqObj "list" (ks ++ [u]).toArray n') := ⟨_, by
      have := get?_update_seq pK.1 (fun v => v.push u)
      rw [List.push_toArray] at this
      exact this⟩
    refine wpAny_pure (hp _ ⟨H2, ks ++ [u], n', kvs ++ [v], ?_, xt.trans x2, w2, ?_, gK', pL.2.1, pK.2.1, vk.append (.cons rv2 .nil), ?_⟩)
    · obtain ⟨f0, f1, f2, f3, f4, f5⟩ := fK H2 pK.2.1
      exact I4.turned (t' := s2.toks) (fun b o hb e => (Heap.get?_update_other _ _ (Ne.symm hb)).trans e) f0 f1 f3 f4 f5
    · exact (Heap.get?_update_other _ _ (Ne.symm hne)).trans pL.1
    · rw [List.take_succ, hkd]
      exact (dk.ext x2).append (denl_cons d2 denl_nil)
end
end M
end L2
namespace L2
namespace M
open PySem PySem.Spec PyProof.Rows
section
variable {X : Cx} {α : List Addr} {S : Sto} {H : Hp} {pins : List (Addr × Obj)} {σ : St} {s : Shared} {k : Nat} {fa : Addr} {fd : FuncData} {ps : List Str} {Fd : List MV → Sto → R Er}
theorem inv_adopt {e : Addr} {ys : List V} {its : List Value} {n : Nat} (J : Inv X pins σ H s) (f : FpOk X pins H e) (h0 : X.s₀.heap.objs.size ≤ e) (he : s.heap.get? e = some (seqObj "list" its.toArray n)) (hv : Vals ys its) (hz : ys.length ≤ sizeLine) : Inv X pins σ (upd H e (.lst ys)) s := by
  have s0 : ∀ o, X.s₀.heap.get? e ≠ some o := fun o z => absurd (Nat.lt_of_lt_of_le (Heap.lt_size z) h0) (Nat.lt_irrefl _)
  refine ⟨J.ok, J.os, J.bare, ⟨J.base.keep, J.base.slot, fun b ob' q n hx => ?_, J.base.there, fun b xs q => ?_, fun b o' u q => ?_, fun b ps q => ?_⟩, J.loc, J.cell, ?_, fun x c hc => ?_, fun p hp => ?_, fun b u q => ?_, J.len⟩
  · rw [upd_ne fun z => s0 ob' (by rw [← z]; exact q)]
    exact J.base.free b ob' q n hx
  · rw [upd_ne (ne_of_none (J.base.tups b xs q) f.1)]; exact J.base.tups b xs q
  · rw [upd_ne (ne_of_none (J.base.frzs b o' u q) f.1)]; exact J.base.frzs b o' u q
  · obtain ⟨mo, z⟩ := J.base.tbls b ps q
    exact ⟨mo, by rw [upd_ne (ne_of_none z f.1)]; exact z⟩
  · rw [upd_ne (Ne.symm f.2.1)]; exact J.free
  · rw [upd_ne (f.2.2.2.2.1 x c hc)]; exact J.freeC x c hc
  · obtain ⟨e1, n, ne, nf, dd⟩ := J.pin p hp
    exact ⟨e1, by rw [upd_ne (f.2.2.2.2.2 p hp)]; exact n, ne, nf, dd⟩
  · by_cases z : b = e
    · subst z
      rw [upd_same] at q
      cases q
      exact ⟨hz, its, n, hv, he⟩
    · rw [upd_ne z] at q
      exact (J.hok b u q).stay (fun _ _ _ r => r) (fun c r => by rw [upd_ne (ne_of_none r f.1)]; exact r) fun c xs r => by rw [upd_ne (ne_of_none r f.1)]; exact r
noncomputable def datV (K : PySem.W.Frag) (α : List Addr) (H : Hp) (kds : List MV) (u : Value) : MV :=
  open Classical in if h : ∃ d v, d ∈ kds ∧ Den K α H d v ∧ RelV v u then Classical.choose h else kds.headD .non
noncomputable def ltV (K : PySem.W.Frag) (α : List Addr) (H : Hp) (S : Sto) (kds : List MV) (p q : Keyed) : Bool := (ltv S depthE (datV K α H kds p.1) (datV K α H kds q.1)).getD false
theorem dat_mem {K : PySem.W.Frag} {kds : List MV} (hne : kds ≠ []) (u : Value) : datV K α H kds u ∈ kds := by
  unfold datV
  split
  · rename_i h
    obtain ⟨v, h1, _⟩ := Classical.choose_spec h
    exact h1
  · match kds, hne with
    | x :: l, _ => exact List.mem_cons_self
theorem dat_spec {K : PySem.W.Frag} {kds : List MV} {u : Value} (h : ∃ d v, d ∈ kds ∧ Den K α H d v ∧ RelV v u) : ∃ v, Den K α H (datV K α H kds u) v ∧ RelV v u := by
  unfold datV
  rw [dif_pos h]
  obtain ⟨v, _, h2, h3⟩ := Classical.choose_spec h
  exact ⟨v, h2, h3⟩
theorem dat_at (I : Inv X pins σ H s) {kds : List MV} {kvs : List V} {ks : List Value} (hpu : ∀ d, d ∈ kds → pureD d = true) (dk : DenL X.K α H kds kvs) (vk : Vals kvs ks) {i : Nat} {u : Value} {a : MV} (hu : ks[i]? = some u) (ha : kds[i]? = some a) :
    datV X.K α H kds u = a := by
  obtain ⟨v, hv, da⟩ := dk.at ha
  obtain ⟨u', hu', r⟩ := vk.get hv
  rw [hu] at hu'; cases hu'
  have ma : a ∈ kds := List.mem_of_getElem? ha
  have ne : kds ≠ [] := fun z => by rw [z] at ma; cases ma
  obtain ⟨v', d', r'⟩ := dat_spec (K := X.K) (α := α) (H := H) ⟨a, v, ma, da, r⟩
  rw [r'.inj r] at d'
  exact den_inj I (hpu _ (dat_mem ne u)) (hpu a ma) d' da
theorem cmp_m (I : Inv X pins σ H s) (wd : Wd X.g α S H) {A : Around} (hu : A.units + 64 < cLine) {kds : List MV} (hne : kds ≠ []) {b : Bool} (hkind : ∀ d, d ∈ kds → KindD b d) (ho : OrdD S kds) {E' : Value → Shared → Prop} :
    Srt.Cmp (model X.prog X.w) A E' s (kindK b) (fun p => ∃ d v, d ∈ kds ∧ Den X.K α H d v ∧ RelV v p.1) (ltV X.K α H S kds) where
  go x y hx hy st hk Q hq := by
    obtain ⟨v1, d1, r1⟩ := dat_spec hx
    obtain ⟨v2, d2, r2⟩ := dat_spec hy
    obtain ⟨t, ht⟩ := ho.any _ (dat_mem (K := X.K) (α := α) (H := H) hne x.1) _ (dat_mem (K := X.K) (α := α) (H := H) hne y.1)
    have e : ltV X.K α H S kds x y = t := by unfold ltV; rw [ht]; rfl
    rw [e] at hq
    exact Srt.wp_lt hk (fun E Q hq => keyLt_m I wd hu (hkind _ (dat_mem hne x.1)) (hkind _ (dat_mem hne y.1)) d1 d2 r1 r2 ht X.prog X.w E Q hq) hq
  tr x y z h1 h2 := by
    unfold ltV at h1 h2 ⊢
    have mx := dat_mem (K := X.K) (α := α) (H := H) hne x.1
    have my := dat_mem (K := X.K) (α := α) (H := H) hne y.1
    have mz := dat_mem (K := X.K) (α := α) (H := H) hne z.1
    obtain ⟨t1, e1⟩ := ho.any _ my _ mx
    obtain ⟨t2, e2⟩ := ho.any _ mz _ my
    rw [e1] at h1; rw [e2] at h2
    have h1 : t1 = false := h1
    have h2 : t2 = false := h2
    subst h1 h2
    rw [ho.tr _ mx _ my _ mz e1 e2]; rfl
  as x y h := by
    unfold ltV at h ⊢
    have mx := dat_mem (K := X.K) (α := α) (H := H) hne x.1
    have my := dat_mem (K := X.K) (α := α) (H := H) hne y.1
    obtain ⟨t1, e1⟩ := ho.any _ mx _ my
    rw [e1] at h
    have h : t1 = true := h
    subst h
    rw [ho.as _ mx _ my e1]; rfl
theorem kind_m (I : Inv X pins σ H s) {A : Around} {kds : List MV} {kvs : List V} {ks : List Value} (hne : kds ≠ []) {b : Bool} (hkind : ∀ d, d ∈ kds → KindD b d) (dk : DenL X.K α H kds kvs) (vk : Vals kvs ks) {E' : Value → Shared → Prop} :
    wpAny (model X.prog X.w) A (keyKind' ks.toArray) (fun q s' => s' = s ∧ q = kindK b) E' s := by
  have ne : ks ≠ [] := fun z => by
    have h1 := vk.length; have h2 := dk.length
    rw [z] at h1
    exact hne (List.length_eq_zero_iff.mp (by rw [← h2, h1]; rfl))
  have all : ∀ u, u ∈ ks → ∃ d v, d ∈ kds ∧ Den X.K α H d v ∧ RelV v u := by
    intro u hu
    obtain ⟨i, hi⟩ := List.getElem?_of_mem hu
    have hl : i < kvs.length := by rw [vk.length]; exact (List.getElem?_eq_some_iff.mp hi).1
    obtain ⟨u', h1, r⟩ := vk.get (List.getElem?_eq_getElem hl)
    rw [hi] at h1; cases h1
    obtain ⟨d, h2, h3⟩ := dk.get (List.getElem?_eq_getElem hl)
    exact ⟨d, _, List.mem_of_getElem? h2, h3, r⟩
  cases b with
  | true =>
    refine Srt.wp_kindT ne fun u hu => ?_
    obtain ⟨d, v, md, dd, r⟩ := all u hu
    cases hkind d md with
    | t es rr =>
      obtain ⟨a, vs, its, rfl, l, vv, t, _⟩ := tup_at I dd r
      obtain ⟨v1, r1, rfl, d1, _⟩ := l.uncons
      cases vv with
      | @cons _ u1 _ us1 rv rr' =>
        obtain ⟨a2, _, its2, rfl, _, _, t2, _⟩ := tup_at I d1 rv
        exact ⟨a, _, a2, us1, its2, rfl, t, rfl, t2⟩
  | false =>
    refine Srt.wp_kindE ne fun u hu => ?_
    obtain ⟨d, v, md, dd, r⟩ := all u hu
    cases hkind d md
    obtain ⟨a, vs, its, rfl, l, vv, t, _⟩ := tup_at I dd r
    cases l.isnil; cases vv
    exact ⟨a, rfl, t⟩
end
end M
end L2
namespace L2
namespace M
open PySem PySem.Spec PyProof.Rows
section
variable {X : Cx} {α : List Addr} {S : Sto} {H : Hp} {pins : List (Addr × Obj)} {σ : St} {s : Shared} {k : Nat} {fa : Addr} {fd : FuncData} {ps : List Str} {Fd : List MV → Sto → R Er}
theorem zip_range {ks its : List Value} {N : Nat} (h1 : ks.length = N) (h2 : its.length = N) : (List.range N).map (fun i => ((ks[i]?).getD .none, (its[i]?).getD .none)) = ks.zip its := by
  apply List.ext_getElem?
  intro i
  rw [List.getElem?_map]
  by_cases hi : i < N
  · have e : (ks.zip its)[i]? = some (ks[i]'(by omega), its[i]'(by omega)) := by
      rw [List.getElem?_zip_eq_some]
      exact ⟨List.getElem?_eq_getElem _, List.getElem?_eq_getElem _⟩
    rw [List.getElem?_range hi, e]
    show some ((ks[i]?).getD .none, (its[i]?).getD .none) = _
    rw [List.getElem?_eq_getElem (by omega), List.getElem?_eq_getElem (by omega)]
    rfl
  · rw [List.getElem?_eq_none (by rw [List.length_range]; omega), List.getElem?_eq_none (by rw [List.length_zip]; omega)]
    rfl
theorem pick_map {β : Type} {l : List β} {d : β} {idx : List Nat} (h : ∀ i, i ∈ idx → i < l.length) : idx.map (fun i => (l[i]?).getD d) = idx.filterMap (l[·]?) := by
  induction idx with
  | nil => rfl
  | cons i idx ih =>
    have hi := h i List.mem_cons_self
    rw [List.map_cons, List.filterMap_cons_some (List.getElem?_eq_getElem hi), ih fun j hj => h j (List.mem_cons_of_mem _ hj), List.getElem?_eq_getElem hi]
    rfl
theorem sorted_m (F : FnOk X.prog X.w X.K X.mg X.base CX0 k fa fd ps (spM X.g 1 Fd)) (hr : Room (k + 2) X.A) (hb : Binds X.K fd ps []) (I : Inv X pins σ H s) (wd : Wd X.g α S H) {l : Addr} {xs : List V} {ds kds : List MV} (hl : SqL X.K H l xs) (dl : DenL X.K α H ds xs)
    (hlen : ds.length < 128) (hkl : kds.length = ds.length) (hk : ∀ (m : Nat) d kd, ds[m]? = some d → kds[m]? = some kd → callF 1 Fd [.val d] S = .ok (.val kd) S) (hpu : ∀ d, d ∈ kds → pureD d = true) {b : Bool} (hkind : ∀ d, d ∈ kds → KindD b d) (hord : OrdD S kds) {Q : VK}
    (hQ : ∀ (idx : List Nat) (H' : Hp) (p : Addr) (ys : List V), idx.Perm (List.range ds.length) → idx.Pairwise (fun i j => ∀ a c, kds[i]? = some a → kds[j]? = some c → ltv S depthE c a = some false) → Ext α H α H' → Wd X.g α S H' → H' p = none → H p = none →
      DenL X.K α H' (idx.filterMap (ds[·]?)) ys → Q (.ref p) (upd H' p (.lst ys))) : wpAny (model X.prog X.w) X.A (call (.builtin "sorted") [.ref l] [("key", .ref fa)]) (EP X pins σ Q) X.xe s := by
  obtain ⟨its, rv, ⟨o, n0, e0, hc0, _, hd0⟩, _⟩ := I.list hl
  have isl : s.heap.IsList l its.toArray := ⟨o, e0, hc0, n0, hd0⟩
  have hil : its.length = ds.length := by rw [← rv.length, dl.length]
  have hln := sizeLine_eq
  refine call_function_entry_kw kind_sorted plain_sorted entry_sorted (args_sortedK _ _) ?_
  unfold Builtin.«sorted»
  refine wpAny_bind (m := checkCount "sorted" 1 1 _) (wpAny_pure ?_)
  refine wpAny_bind (collect_list isl ?_ (by omega))
  refine wpAny_bind (wpAny_newList ?_)
  generalize hh1 : (s.heap.push (seqObj "list" #[] 0)).update s.heap.objs.size (Obj.mapSeq (· ++ its.toArray)) = h1
  have hsz : h1.objs.size = s.heap.objs.size + 1 := by rw [← hh1, Heap.size_update, size_push']
  have k1 : ∀ b u, s.heap.get? b = some u → h1.get? b = some u := fun b u e => by
    rw [← hh1, Heap.get?_update_other _ _ (Nat.ne_of_gt (Heap.lt_size e))]
    exact Heap.get?_push_of_some _ e
  have hoL : (h1.push (seqObj "list" its.toArray 0)).get? h1.objs.size = some (seqObj "list" its.toArray 0) := Heap.get?_push_size _ rfl
  show wpAny _ _ _ _ _ { s with heap := h1.push (seqObj "list" its.toArray 0) }
  dsimp only
  generalize hL : h1.objs.size = L at *
  have sL : s.heap.objs.size ≤ L := by omega
  refine wpAny_bind (wpAny_holding (wpAny_call_entry_kw slot_list_sort ⟨_, hoL, rfl⟩ entry_list_sort (Srt.sort_keyed hoL (by omega) fun e1 he1 => ?_) (args_sortK _ _)))
  dsimp only at he1 ⊢
  generalize hh2 : h1.push (seqObj "list" its.toArray 0) = h2 at *
  have sz2 : h2.objs.size = L + 1 := by rw [← hh2, size_push', hL]
  generalize hKS : h2.objs.size + 1 = KS
  have sK : s.heap.objs.size ≤ KS := by omega
  have hne : L ≠ KS := by omega
  have fL : ∀ H', H' L = none → FpOk X pins H' L := fun H' hn => I.fpOk sL hn
  have fK : ∀ H', H' KS = none → FpOk X pins H' KS := fun H' hn => I.fpOk sK hn
  have k3 : ∀ b u, s.heap.get? b = some u → (((h2.update L (Obj.mapSeq fun _ => #[])).push (seqObj "tuple" its.toArray 0)).push (seqObj "list" #[] 0)).get? b = some u := fun b u e => by
    refine Heap.get?_push_of_some _ (Heap.get?_push_of_some _ ?_)
    rw [Heap.get?_update_other _ _ (Nat.ne_of_gt (Nat.lt_of_lt_of_le (Heap.lt_size e) sL)), ← hh2]
    exact Heap.get?_push_of_some _ (k1 b u e)
  have I3 : Inv X pins σ H { s with heap := ((h2.update L (Obj.mapSeq fun _ => #[])).push (seqObj "tuple" its.toArray 0)).push (seqObj "list" #[] 0) } := I.kept (t' := s.toks) k3
  have base : Lp X pins σ α S H L KS e1 kds 0 { s with heap := ((h2.update L (Obj.mapSeq fun _ => #[])).push (seqObj "tuple" its.toArray 0)).push (seqObj "list" #[] 0) } := by
    refine ⟨H, [], 0, [], I3, Ext.refl α H, wd, Heap.get?_push_of_some _ (Heap.get?_push_of_some _ he1), ?_, I.hok.fresh sL, I.hok.fresh sK, .nil, by rw [List.take_zero]; exact denl_nil⟩
    rw [← hKS]
    have e : h2.objs.size + 1 = ((h2.update L (Obj.mapSeq fun _ => #[])).push (seqObj "tuple" its.toArray 0)).objs.size := by rw [size_push', Heap.size_update]
    rw [e]
    exact Heap.get?_push_size _ rfl
  refine wpAny_mono (wpAny_forIn_list (α := Value) (β := PUnit) _ (fun rest _ s' => ∃ m, rest = its.drop m ∧ Lp X pins σ α S H L KS e1 kds m s') (fun _ s' => Lp X pins σ α S H L KS e1 kds its.length s') ?_ ?_ its PUnit.unit ⟨0, rfl, base⟩) (fun _ s2 hlp hne' => ?_) fun _ _ e => e
  · rintro x rest _ s' ⟨m, e, hlp⟩
    have hx : its[m]? = some x := by
      have := congrArg (·[0]?) e
      simp only [List.getElem?_cons_zero, List.getElem?_drop, Nat.add_zero] at this
      exact this.symm
    refine lp_step F hr hb hne fL fK dl rv hlen hkl hk hx hlp fun s'' h'' => ⟨m + 1, ?_, h''⟩
    have := congrArg List.tail e
    rw [List.tail_cons, List.tail_drop] at this
    exact this
  · rintro _ s' ⟨m, e, hlp⟩
    have hm : its.length ≤ m := List.drop_eq_nil_iff.mp e.symm
    obtain ⟨H', ks, n, kvs, a1, a2, a3, a4, a5, a6, a7, a8, a9⟩ := hlp.go
    exact ⟨H', ks, n, kvs, a1, a2, a3, a4, a5, a6, a7, a8, by rw [List.take_of_length_le (by omega)] at a9 ⊢; exact a9⟩
  · obtain ⟨H', ks, n, kvs, I', xt, wd', gL, gK, nL, nK, vk, dk⟩ := hlp.go
    rw [List.take_of_length_le (by omega)] at dk
    have hksl : ks.length = ds.length := by rw [← vk.length, dk.length, hkl]
    have hu : X.A.in1.in1.units + 64 < cLine := by have := hr.un; show X.A.units + 1 + 1 + 64 < cLine; omega
    refine ⟨ks, n, kindK b, (fun p => ∃ d v, d ∈ kds ∧ Den X.K α H' d v ∧ RelV v p.1), ltV X.K α H' S kds, gL, gK, by omega, fun hge => ?_, fun out op os => ?_⟩
    · have ne : kds ≠ [] := fun z => by rw [z] at hkl; simp at hkl; omega
      refine ⟨kind_m I' ne hkind dk vk, cmp_m I' wd' hu ne hkind hord, fun p hp => ?_⟩
      have hp1 : p.1 ∈ ks := (List.of_mem_zip hp).1
      obtain ⟨i, hi⟩ := List.getElem?_of_mem hp1
      have hl' : i < kvs.length := by rw [vk.length]; exact (List.getElem?_eq_some_iff.mp hi).1
      obtain ⟨u', h1', r⟩ := vk.get (List.getElem?_eq_getElem hl')
      rw [hi] at h1'; cases h1'
      obtain ⟨d, h2', h3'⟩ := dk.get (List.getElem?_eq_getElem hl')
      exact ⟨d, _, List.mem_of_getElem? h2', h3', r⟩
    · obtain ⟨idx, ip, ie⟩ := perm_lift op.symm (List.range ds.length) (zip_range hksl hil)
      have ib : ∀ i, i ∈ idx → i < ds.length := fun i hi => List.mem_range.mp (ip.mem_iff.mp hi)
      have eo : out.map (·.2) = idx.filterMap (its[·]?) := by
        rw [← ie, List.map_map]
        exact pick_map fun i hi => by rw [hil]; exact ib i hi
      have po : idx.Pairwise (fun i j => ∀ a c, kds[i]? = some a → kds[j]? = some c → ltv S depthE c a = some false) := by
        rw [← ie, List.pairwise_map] at os
        refine List.Pairwise.imp_of_mem (fun {i j} hi hj h a c ha hc => ?_) os
        have ui : ks[i]? = some (ks[i]'(by rw [hksl]; exact ib i hi)) := List.getElem?_eq_getElem _
        have uj : ks[j]? = some (ks[j]'(by rw [hksl]; exact ib j hj)) := List.getElem?_eq_getElem _
        have h' : (ltv S depthE (datV X.K α H' kds ((ks[j]?).getD .none)) (datV X.K α H' kds ((ks[i]?).getD .none))).getD false = false := h
        rw [ui, uj] at h'
        simp only [Option.getD_some] at h'
        rw [dat_at I' hpu dk vk ui ha, dat_at I' hpu dk vk uj hc] at h'
        obtain ⟨t, ht⟩ := hord.any c (List.mem_of_getElem? hc) a (List.mem_of_getElem? ha)
        rw [ht] at h'
        have h' : t = false := h'
        rw [ht, h']
      have vy := Vals.pick rv idx
      refine ⟨_, rfl, wpAny_pure ⟨_, rfl, .ref L, upd H' L (.lst (idx.filterMap (xs[·]?))), ?_, rfl, hQ idx H' L _ ip po xt wd' nL (I.hok.fresh sL) ((dl.ext xt).pick idx)⟩⟩
      have I5 : Inv X pins σ H' { s2 with heap := s2.heap.update KS (Obj.mapSeq fun _ => #[]) } := by
        obtain ⟨f0, f1, f2, f3, f4, f5⟩ := fK H' nK
        exact I'.turned (t' := s2.toks) (fun b o hb e => (Heap.get?_update_other _ _ (Ne.symm hb)).trans e) f0 f1 f3 f4 f5
      have gL' : (s2.heap.update KS (Obj.mapSeq fun _ => #[])).get? L = some (seqObj "list" #[] e1) := (Heap.get?_update_other _ _ (Ne.symm hne)).trans gL
      obtain ⟨f0, f1, f2, f3, f4, f5⟩ := fL H' nL
      have I6 : Inv X pins σ H' { s2 with heap := (s2.heap.update KS (Obj.mapSeq fun _ => #[])).update L (Obj.mapSeq fun _ => (out.map (·.2)).toArray) } :=
        I5.turned (t' := s2.toks) (fun b o hb e => (Heap.get?_update_other _ _ (Ne.symm hb)).trans e) f0 f1 f3 f4 f5
      obtain ⟨n', gL2⟩ : ∃ n', ((s2.heap.update KS (Obj.mapSeq fun _ => #[])).update L (Obj.mapSeq fun _ => (out.map (·.2)).toArray)).get? L = some (seqObj "list" (idx.filterMap (its[·]?)).toArray n') := ⟨_, by
        have := get?_update_seq gL' (fun _ => (out.map (·.2)).toArray)
        rw [eo] at this ⊢
        exact this⟩
      refine inv_adopt (its := idx.filterMap (its[·]?)) I6 (fL H' nL) (Nat.le_trans I.sz sL) gL2 vy ?_
      · have := List.length_filterMap_le (xs[·]?) idx
        have h3 := ip.length_eq
        rw [List.length_range] at h3
        omega
end
end M
end L2
namespace L2
namespace M
open PySem PySem.Spec PyProof.Rows
structure SrtOk (Fd : List MV → Sto → R Er) (S : Sto) (ds kds : List MV) (b : Bool) : Prop where
  len : ds.length < 128
  kl : kds.length = ds.length
  call : ∀ (m : Nat) d kd, ds[m]? = some d → kds[m]? = some kd → callF 1 Fd [.val d] S = .ok (.val kd) S
  pu : ∀ d, d ∈ kds → pureD d = true
  kind : ∀ d, d ∈ kds → KindD b d
  ord : OrdD S kds
def SrtTo (S : Sto) (ds kds r : List MV) : Prop := ∃ idx : List Nat, idx.Perm (List.range ds.length) ∧ idx.Pairwise (fun i j => ∀ a c, kds[i]? = some a → kds[j]? = some c → ltv S depthE c a = some false) ∧ r = idx.filterMap (ds[·]?)
open Classical in
noncomputable def srtF (Fd : List MV → Sto → R Er) (rs : List Er) (S : Sto) : R Er := match rs with
  | [p] => match lsOf S p with
    | some ds => if h : ∃ r, ∃ kds b, SrtOk Fd S ds kds b ∧ ∀ r', SrtTo S ds kds r' → r' = r then .ok (.new (Classical.choose h)) S else .no
    | none => .no
  | _ => .no
theorem srt_eq {Fd : List MV → Sto → R Er} {p : Er} {S : Sto} {ds kds r : List MV} {b : Bool} (e : lsOf S p = some ds) (ok : SrtOk Fd S ds kds b) (u : ∀ r', SrtTo S ds kds r' → r' = r) (ex : SrtTo S ds kds r) (fn : ∀ kds' b', SrtOk Fd S ds kds' b' → kds' = kds) :
    srtF Fd [p] S = .ok (.new r) S := by
  unfold srtF
  dsimp only
  rw [e]
  dsimp only
  have h : ∃ r, ∃ kds b, SrtOk Fd S ds kds b ∧ ∀ r', SrtTo S ds kds r' → r' = r := ⟨r, kds, b, ok, u⟩
  rw [dif_pos h]
  obtain ⟨kds', b', ok', u'⟩ := Classical.choose_spec h
  rw [fn kds' b' ok'] at u'
  rw [← u' r ex]
def idxM (S : Sto) (d : MV) : List MV → Option Nat
  | [] => none
  | x :: xs => (eqv S depthE x d).bind fun k => if k = true then some 0 else (idxM S d xs).map (· + 1)
open Classical in
noncomputable def lidxF (p : Er) (rs : List Er) (S : Sto) : R Er := match rs with
  | [.val d] => match lsOf S p with
    | some ds => if ∀ x, x ∈ ds → pureD x = true ∧ (eqv S depthE x d).isSome = true then (match idxM S d ds with | some j => .ok (.val (.int (j : Nat))) S | none => .no) else .no
    | none => .no
  | _ => .no
theorem idxM_spec {S : Sto} {d : MV} : ∀ {ds : List MV} {j : Nat}, idxM S d ds = some j → (∃ x, ds[j]? = some x ∧ eqv S depthE x d = some true) ∧ ∀ m x, m < j → ds[m]? = some x → eqv S depthE x d = some false
  | [], j, h => by cases h
  | x :: xs, j, h => by
    unfold idxM at h
    cases z : eqv S depthE x d with
    | none => rw [z] at h; cases h
    | some k =>
      rw [z] at h
      have h : (if k = true then some 0 else (idxM S d xs).map (· + 1)) = some j := h
      cases k with
      | true =>
        rw [if_pos rfl] at h
        cases h
        exact ⟨⟨x, rfl, z⟩, fun m y hm _ => by omega⟩
      | false =>
        rw [if_neg Bool.false_ne_true] at h
        cases zz : idxM S d xs with
        | none => rw [zz] at h; cases h
        | some i =>
          rw [zz] at h
          cases h
          obtain ⟨⟨y, h1, h2⟩, h3⟩ := idxM_spec zz
          refine ⟨⟨y, by simpa using h1, h2⟩, fun m w hm hw => ?_⟩
          cases m with
          | zero => simp at hw; subst hw; exact z
          | succ m => exact h3 m w (Nat.lt_of_succ_lt_succ hm) (by simpa using hw)
section
variable {X : Cx} {W : XW} {a e : Expr} {es : List Expr} {f : Rho → Sto → R Er} {af : Rho → Sto → R (List Er)} {pos apos : Pos}
theorem bt_sorted : bootBuiltins "sorted" = some (.builtin "sorted") := by decide +kernel
theorem pm_sorted {k : Nat} {fa : Addr} {fd : FuncData} {ps : List Str} {Fd : List MV → Sto → R Er} {x : Str} {p kp kq : Pos} (F : FnOk X.prog X.w X.K X.mg X.base CX0 k fa fd ps (spM X.g 1 Fd)) (hr : Room (k + 2) X.A) (hg : Gl X "sorted") (hm : X.mg "sorted" = none)
    (hgk : Gl X x) (hmk : X.mg x = some (.ref fa)) (hb : Binds X.K fd ps []) (ha : PAm X W [a] af) (hd : (x == ("__debug__" : Str)) = false := by decide)
    (he : backTo pos (starEach [a] X.env) = (false, eval a X.env) :: backTo pos (starEach [] X.env) := by rfl) (hpl : (backTo pos (starEach [a] X.env)).any (·.1) = false := by rfl) :
    PEm X W (.Call (.Name "sorted" p) [a] [⟨some "key", .Name x kp, kq⟩] pos) (fun ρ S => (af ρ S).bind fun rs S1 => srtF Fd rs S1) := by
  obtain ⟨t, ha, kk⟩ := ha
  refine ⟨fun σ H Q => t σ H fun vs H1 => ∃ α S l xs ds kds b, vs = [.ref l] ∧ Wd X.g α S H1 ∧ SqL X.K H1 l xs ∧ DenL X.K α H1 ds xs ∧ SrtOk Fd S ds kds b ∧
      ∀ (idx : List Nat) (H' : Hp) (p : Addr) (ys : List V), idx.Perm (List.range ds.length) → idx.Pairwise (fun i j => ∀ a c, kds[i]? = some a → kds[j]? = some c → ltv S depthE c a = some false) → Ext α H1 α H' → Wd X.g α S H' → H' p = none → H1 p = none →
      DenL X.K α H' (idx.filterMap (ds[·]?)) ys → Q (.ref p) (upd H' p (.lst ys)), ?_, fun α ρ S σ H Q wd sl q => kk α ρ S σ H _ wd sl (q.bind fun vs rs S1 α1 H1 e1 x1 w1 d1 q1 => ?_)⟩
  · intro pins s σ H Q I h
    refine wpAny_Call_Name_kw (ld_blt I hg hm bt_sorted ?_)
    refine callWith_kw (thn (ha pos pins s σ H _ I h) fun us s1 ⟨vs, H1, I1, r1, q1⟩ => ?_) he hpl
    obtain ⟨α, S, l, xs, ds, kds, b, rfl, wd, hl, dl, ok, hq⟩ := q1
    obtain ⟨u, rfl, ru⟩ := r1.one
    cases ru
    refine kws_cons (ld_glob I1 hgk hmk (kws_nil ?_) hd)
    exact sorted_m F hr hb I1 wd hl dl ok.len ok.kl ok.call ok.pu ok.kind ok.ord hq
  · replace q1 := q1.shift x1
    unfold srtF at q1
    split at q1
    · rename_i p0
      split at q1
      · rename_i ds el
        split at q1
        · rename_i h
          obtain ⟨v, rfl, dv⟩ := args1 d1
          obtain ⟨l, xs, rfl, sq, dl⟩ := ls_of rfl w1 el dv
          obtain ⟨kds, b, ok, u⟩ := Classical.choose_spec h
          refine ⟨α1, S1, l, xs, ds, kds, b, rfl, w1, sq, dl, ok, fun idx H' pp ys i1 i2 i3 i4 i5 i6 i7 => ?_⟩
          have er := u _ ⟨idx, i1, i2, rfl⟩
          rw [er] at i7
          exact (q1.shift i3).newl i4 i5 i7
        · exact q1.elim
      · exact q1.elim
    · exact q1.elim
theorem mt_lidx (hu : X.A.units + 64 < cLine) : MtR X "list.index" (fun x xs H Q => ∃ α S l vs ds d y j, x = .ref l ∧ xs = [y] ∧ Wd X.g α S H ∧ SqL X.K H l vs ∧ DenL X.K α H ds vs ∧ Den X.K α H d y ∧ (∀ x, x ∈ ds → pureD x = true ∧ (eqv S depthE x d).isSome = true) ∧ idxM S d ds = some j ∧ Q (.int (j : Nat)) H) := by
  intro pins s σ H x xs v us Q I rx rs h
  obtain ⟨α, S, l, vs, ds, d, y, j, rfl, rfl, wd, sq, dl, dd, hp, hj, q⟩ := h
  cases rx
  obtain ⟨u, rfl, ru⟩ := rs.one
  obtain ⟨its, rv, ⟨o, n, e0, hc, hd0, hd⟩, hz⟩ := I.list sq
  obtain ⟨cls, dct, dat, slt⟩ := o
  simp only at hc hd hd0
  subst hc hd hd0
  obtain ⟨⟨x, hx, ex⟩, hno⟩ := idxM_spec hj
  have hln := sizeLine_eq
  have hjl : j < its.length := by rw [← rv.length, dl.length]; exact (List.getElem?_eq_some_iff.mp hx).1
  have hpu : ∀ x, x ∈ ds → pureD x = true := fun x hx => (hp x hx).1
  have at_ : ∀ m (hm : m < its.length), ∃ x, ds[m]? = some x ∧ datV X.K α H ds its[m] = x := fun m hm => by
    have hm' : m < ds.length := by rw [← dl.length, rv.length]; exact hm
    exact ⟨ds[m], List.getElem?_eq_getElem hm', dat_at I hpu dl rv (List.getElem?_eq_getElem hm) (List.getElem?_eq_getElem hm')⟩
  refine call_meets PySem.F.slot_list_index ⟨_, e0, rfl⟩ PySem.F.entry_list_index (PySem.F.args_list_index_2 _ _)
    (SeqAt.list_indexAt l its.toArray n _ _ u (fun w => (eqv S depthE (datV X.K α H ds w) d).getD false) j (by simpa using hjl) (by have := rv.length; omega) ?_ ?_) ⟨e0, fun w hw => ?_, ?_⟩
  · obtain ⟨x', h1, h2⟩ := at_ j hjl
    show (eqv S depthE (datV X.K α H ds its[j]) d).getD false = true
    rw [h2]
    rw [hx] at h1; cases h1
    rw [ex]; rfl
  · intro m hm hlt
    have hm' : m < its.length := by simpa using hm
    obtain ⟨x', h1, h2⟩ := at_ m hm'
    show (eqv S depthE (datV X.K α H ds its[m]) d).getD false = false
    rw [h2, hno m x' hlt h1]; rfl
  · have hw' : w ∈ its := by simpa using hw
    obtain ⟨m, hm, rfl⟩ := List.mem_iff_getElem.mp hw'
    obtain ⟨x', h1, h2⟩ := at_ m hm
    obtain ⟨xv, h3, h4⟩ := dl.at h1
    obtain ⟨w', h5, h6⟩ := rv.get h3
    rw [List.getElem?_eq_getElem hm] at h5; cases h5
    have hs := (hp x' (List.mem_of_getElem? h1)).2
    obtain ⟨kk, hk⟩ := Option.isSome_iff_exists.mp hs
    show SeqAt.EqAt _ _ _ _ ((eqv S depthE (datV X.K α H ds its[m]) d).getD false)
    rw [h2, hk]
    exact eqAt_m I wd depthE X.A.in1 x' d xv y _ _ kk (by unfold depthE; show X.A.units + 1 + 40 < cLine; omega) h4 dd h6 ru hk
  · exact ⟨.int _, H, I.tok _, ⟨_, rfl⟩, q⟩
theorem mm_lidx : MtdM X W (fun x xs H Q => ∃ α S l vs ds d y j, x = .ref l ∧ xs = [y] ∧ Wd X.g α S H ∧ SqL X.K H l vs ∧ DenL X.K α H ds vs ∧ Den X.K α H d y ∧ (∀ x, x ∈ ds → pureD x = true ∧ (eqv S depthE x d).isSome = true) ∧ idxM S d ds = some j ∧ Q (.int (j : Nat)) H) lidxF := by
  intro p rs x vs α S H0 H Q α0 wd x0 dp da post
  replace post := post.shift x0
  unfold lidxF at post
  split at post
  · split at post
    · rename_i ds el
      split at post
      · rename_i hp
        split at post
        · rename_i j hj
          obtain ⟨v, rfl, dv⟩ := args1 da
          obtain ⟨l, xs, rfl, sq, dl⟩ := ls_of rfl wd el dp
          exact ⟨α, S, l, xs, ds, _, v, j, rfl, rfl, wd, sq, dl, dv, hp, hj, Post.val post wd (den_int _)⟩
        · exact post.elim
      · exact post.elim
    · exact post.elim
  · exact post.elim
theorem pm_lidx (hu : X.A.units + 64 < cLine) (ho : PEm X W a f) (ha : PAm X W (e :: es) af)
    (hbase : attributeBase a "index" X.env (eval a X.env) = eval a X.env := by rfl)
    (hfew : ((backTo pos (starEach (e :: es) X.env)).all (fun x => !x.1) && (backToKw pos (keywordEach [] X.env)).all (fun x => x.1.isSome)
      && decide ((e :: es).length + ([] : List Keyword).length + (if ([] : List Keyword).isEmpty then 0 else 1) < 30)) = true := by rfl)
    (hline : (apos.endLine == pos.line) = true := by rfl) (hs : starEach (e :: es) X.env = (false, eval e X.env) :: starEach es X.env := by rfl) (hplain : (backTo pos (starEach es X.env)).any (·.1) = false := by rfl) :
    PEm X W (.Call (.Attribute a "index" apos) (e :: es) [] pos) (fun ρ S => (f ρ S).bind fun p S1 => if isLst p S1 = true then (af ρ S1).bind fun rs S2 => lidxF p rs S2 else .no) :=
  pm_meth PySem.F.plainAttrs_list PySem.F.slot_list_index PySem.F.type_list_index (mt_lidx hu) mm_lidx ty_lst ho ha hbase hfew hline hs hplain
end
end M
end L2
namespace L2
namespace M
namespace My
open PySem PySem.Spec PyProof.Rows
local macro_rules
  | `(tactic| simp? [$xs,*] $[$l:location]?) => `(tactic| simp only [List.getElem?_cons_zero, List.getElem?_cons_succ, rd_some, bok, as_int, as_bl, tru_bl, add_int, sub_int, eq_int, ib_int, lst0, lst1, lst2, lst3, lst6, tup2, tup3, isi_is, isi_ss, isi_it, isi_st, isi_tt, isi_bb, set_val, set_new, List.set_cons_zero, List.set_cons_succ, if_true, ent_val, ent_nil, $xs,*] $[$l:location]?)
noncomputable def F_value_rank_1 : Rho → Sto → R Fl := (fun ρ S => ((((rdSl (ρ[0]?) S).bind fun p1 S2 => ((R.ok (.val (.typ "str")) S2).bind fun p5 S6 => (R.ok [] S6).bind fun l7 S8 => .ok (p5 :: l7) S8).bind fun l3 S4 => .ok (p1 :: l3) S4).bind isiF).bind truF).bind fun k S1 => if k = true then ((fun ρ S => (((R.ok (.val (.int 1)) S).bind fun p9 S10 => ((R.ok (.val (.int 0)) S10).bind fun p13 S14 => ((rdSl (ρ[0]?) S14).bind fun p17 S18 => (R.ok [] S18).bind fun l19 S20 => .ok (p17 :: l19) S20).bind fun l15 S16 => .ok (p13 :: l15) S16).bind fun l11 S12 => .ok (p9 :: l11) S12).bind tupF).bind fun r S1 => .ok (.ret r) S1)) ρ S1 else (fun ρ S => .ok (.next ρ) S) ρ S1)
noncomputable def F_value_rank_2 : Rho → Sto → R Fl := (fun ρ S => (((R.ok (.val (.int 0)) S).bind fun p21 S22 => ((rdSl (ρ[0]?) S22).bind fun p25 S26 => ((R.ok (.val (.str [])) S26).bind fun p29 S30 => (R.ok [] S30).bind fun l31 S32 => .ok (p29 :: l31) S32).bind fun l27 S28 => .ok (p25 :: l27) S28).bind fun l23 S24 => .ok (p21 :: l23) S24).bind tupF).bind fun r S1 => .ok (.ret r) S1)
noncomputable def F_value_rank : Rho → Sto → R Fl := seqF (F_value_rank_1) ((F_value_rank_2))
noncomputable def f_value_rank (ds : List MV) (S : Sto) : R Er := finF (F_value_rank (startR ["value"] ds) S)
noncomputable def C_tuple_rank_1_c : Rho → Sto → R Bool := fun ρ S => (R.ok true S)
noncomputable def C_tuple_rank_1_e : Rho → Sto → R Er := fun ρ S => (((rdSl (ρ[0]?) S).bind fun p39 S40 => (R.ok [] S40).bind fun l41 S42 => .ok (p39 :: l41) S42).bind fun r37 S38 => callF 1 f_value_rank r37 S38)
noncomputable def F_tuple_rank_1 : Rho → Sto → R Fl := (fun ρ S => (((((rdSl (ρ[0]?) S).bind itT).bind fun k33 S34 => if k33.ds.length < 1000000 then (compF (gNm 0) (C_tuple_rank_1_c) (C_tuple_rank_1_e) (blk 1 [] ρ) k33.gs k33.ds S34).bind fun o35 S36 => .ok (.new o35) S36 else .no).bind fun p43 S44 => (R.ok [] S44).bind fun l45 S46 => .ok (p43 :: l45) S46).bind tupleF).bind fun r S1 => .ok (.ret r) S1)
noncomputable def F_tuple_rank : Rho → Sto → R Fl := (F_tuple_rank_1)
noncomputable def f_tuple_rank (ds : List MV) (S : Sto) : R Er := finF (F_tuple_rank (startR ["values"] ds) S)
noncomputable def B_in_order_1_1 : Rho → Sto → R Fl := (fun ρ S => ((((rdSl (ρ[1]?) S).bind truF).bind fun k53 S54 => .ok (!k53) S54).bind fun k55 S56 => if k55 = true then .ok true S56 else ((((rdSl (ρ[1]?) S56).bind fun p57 S58 => (R.ok (.val (.int (-1))) S58).bind fun q59 S60 => ixF p57 q59 S60).bind fun p61 S62 => (rdSl (ρ[2]?) S62).bind fun q63 S64 => neF p61 q63 S64).bind asB)).bind fun k S1 => if k = true then ((fun ρ S => ((rdSl (ρ[1]?) S).bind fun p65 S66 => if isLst p65 S66 = true then ((rdSl (ρ[2]?) S66).bind fun p69 S70 => (R.ok [] S70).bind fun l71 S72 => .ok (p69 :: l71) S72).bind fun r67 S68 => appF p65 r67 S68 else .no).bind fun _ S1 => .ok (.next ρ) S1)) ρ S1 else (fun ρ S => .ok (.next ρ) S) ρ S1)
noncomputable def B_in_order_1 : Rho → Sto → R Fl := (B_in_order_1_1)
noncomputable def F_in_order_1 : Rho → Sto → R Fl := (fun ρ S => ((R.ok [] S).bind lstF).bind (setF ρ 1))
noncomputable def F_in_order_2 : Rho → Sto → R Fl := (fun ρ S => ((((rdSl (ρ[0]?) S).bind fun p49 S50 => (R.ok [] S50).bind fun l51 S52 => .ok (p49 :: l51) S52).bind fun r47 S48 => srtF f_tuple_rank r47 S48).bind itL).bind fun k S1 => forF (gNm 2) (B_in_order_1) k.gs k.ds ρ S1)
noncomputable def F_in_order_3 : Rho → Sto → R Fl := (fun ρ S => (rdSl (ρ[1]?) S).bind fun r S1 => .ok (.ret r) S1)
noncomputable def F_in_order : Rho → Sto → R Fl := seqF (F_in_order_1) (seqF (F_in_order_2) ((F_in_order_3)))
noncomputable def f_in_order (ds : List MV) (S : Sto) : R Er := finF (F_in_order (startR ["some", "ordered", "values"] ds) S)
noncomputable def F__law_cell_at_1 : Rho → Sto → R Fl := (fun ρ S => (((rdSl (ρ[1]?) S).bind fun p73 S74 => (((rdSl (ρ[0]?) S74).bind fun p77 S78 => (R.ok [] S78).bind fun l79 S80 => .ok (p77 :: l79) S80).bind lenF).bind fun q75 S76 => ltF p73 q75 S76).bind asB).bind fun k S1 => if k = true then ((fun ρ S => ((rdSl (ρ[0]?) S).bind fun p81 S82 => (rdSl (ρ[1]?) S82).bind fun q83 S84 => ixF p81 q83 S84).bind fun r S1 => .ok (.ret r) S1)) ρ S1 else (fun ρ S => .ok (.next ρ) S) ρ S1)
noncomputable def F__law_cell_at_2 : Rho → Sto → R Fl := (fun ρ S => (R.ok (.val (.int 0)) S).bind fun r S1 => .ok (.ret r) S1)
noncomputable def F__law_cell_at : Rho → Sto → R Fl := seqF (F__law_cell_at_1) ((F__law_cell_at_2))
noncomputable def f__law_cell_at (ds : List MV) (S : Sto) : R Er := finF (F__law_cell_at (startR ["_law_script", "_law_k"] ds) S)
noncomputable def F__law_mix_1 : Rho → Sto → R Fl := (fun ρ S => ((((rdSl (ρ[0]?) S).bind fun p85 S86 => (R.ok (.val (.int 2)) S86).bind fun q87 S88 => modF p85 q87 S88).bind fun p89 S90 => (R.ok (.val (.int 0)) S90).bind fun q91 S92 => eqF p89 q91 S92).bind asB).bind fun k S1 => if k = true then ((fun ρ S => (((rdSl (ρ[0]?) S).bind fun p93 S94 => (R.ok (.val (.int 2)) S94).bind fun q95 S96 => divF p93 q95 S96).bind fun p97 S98 => (((R.ok (.val (.int 10)) S98).bind fun p101 S102 => (R.ok (.val (.int 60)) S102).bind fun q103 S104 => powF p101 q103 S104).bind fun p105 S106 => (R.ok (.val (.int 10)) S106).bind fun q107 S108 => powF p105 q107 S108).bind fun q99 S100 => modF p97 q99 S100).bind fun r S1 => .ok (.ret r) S1)) ρ S1 else (fun ρ S => .ok (.next ρ) S) ρ S1)
noncomputable def F__law_mix_2 : Rho → Sto → R Fl := (fun ρ S => (((((rdSl (ρ[0]?) S).bind fun p109 S110 => (R.ok (.val (.int 2147483629)) S110).bind fun q111 S112 => modF p109 q111 S112).bind fun p113 S114 => (R.ok (.val (.int 7)) S114).bind fun q115 S116 => addF p113 q115 S116).bind fun p117 S118 => (R.ok (.val (.int 48271)) S118).bind fun q119 S120 => mulF p117 q119 S120).bind fun p121 S122 => (rdSl (ρ[1]?) S122).bind fun q123 S124 => modF p121 q123 S124).bind (setF ρ 2))
noncomputable def F__law_mix_3 : Rho → Sto → R Fl := (fun ρ S => (((((rdSl (ρ[2]?) S).bind fun p125 S126 => (rdSl (ρ[2]?) S126).bind fun q127 S128 => mulF p125 q127 S128).bind fun p129 S130 => (R.ok (.val (.int 2147483579)) S130).bind fun q131 S132 => modF p129 q131 S132).bind fun p133 S134 => (R.ok (.val (.int 1000003)) S134).bind fun q135 S136 => mulF p133 q135 S136).bind fun p137 S138 => (rdSl (ρ[2]?) S138).bind fun q139 S140 => addF p137 q139 S140).bind fun r S1 => .ok (.ret r) S1)
noncomputable def F__law_mix : Rho → Sto → R Fl := seqF (F__law_mix_1) (seqF (F__law_mix_2) ((F__law_mix_3)))
noncomputable def f__law_mix (ds : List MV) (S : Sto) : R Er := finF (F__law_mix (startR ["_law_cell", "_law_prime", "_law_number"] ds) S)
noncomputable def B__law_name_1_1 : Rho → Sto → R Fl := (fun ρ S => ((rdSl (ρ[3]?) S).bind fun p157 S158 => ((rdSl (ρ[1]?) S158).bind fun p161 S162 => ((rdSl (ρ[2]?) S162).bind fun p165 S166 => (R.ok (.val (.int 26)) S166).bind fun q167 S168 => modF p165 q167 S168).bind fun q163 S164 => ixF p161 q163 S164).bind fun q159 S160 => addF p157 q159 S160).bind (setF ρ 3))
noncomputable def B__law_name_1_2 : Rho → Sto → R Fl := (fun ρ S => ((rdSl (ρ[2]?) S).bind fun p169 S170 => (R.ok (.val (.int 26)) S170).bind fun q171 S172 => divF p169 q171 S172).bind (setF ρ 2))
noncomputable def B__law_name_1 : Rho → Sto → R Fl := seqF (B__law_name_1_1) ((B__law_name_1_2))
noncomputable def F__law_name_1 : Rho → Sto → R Fl := (fun ρ S => (R.ok (.val (.str [97, 98, 99, 100, 101, 102, 103, 104, 105, 106, 107, 108, 109, 110, 111, 112, 113, 114, 115, 116, 117, 118, 119, 120, 121, 122])) S).bind (setF ρ 1))
noncomputable def F__law_name_2 : Rho → Sto → R Fl := (fun ρ S => ((rdSl (ρ[0]?) S).bind fun p141 S142 => (R.ok (.val (.int 8)) S142).bind fun q143 S144 => divF p141 q143 S144).bind (setF ρ 2))
noncomputable def F__law_name_3 : Rho → Sto → R Fl := (fun ρ S => (R.ok (.val (.str [])) S).bind (setF ρ 3))
noncomputable def F__law_name_4 : Rho → Sto → R Fl := (fun ρ S => ((((R.ok (.val (.int 1)) S).bind fun p145 S146 => ((rdSl (ρ[0]?) S146).bind fun p149 S150 => (R.ok (.val (.int 8)) S150).bind fun q151 S152 => modF p149 q151 S152).bind fun q147 S148 => addF p145 q147 S148).bind fun p153 S154 => (R.ok [] S154).bind fun l155 S156 => .ok (p153 :: l155) S156).bind rng1F).bind fun k S1 => forF (gNm 4) (B__law_name_1) k.gs k.ds ρ S1)
noncomputable def F__law_name_5 : Rho → Sto → R Fl := (fun ρ S => (rdSl (ρ[3]?) S).bind fun r S1 => .ok (.ret r) S1)
noncomputable def F__law_name : Rho → Sto → R Fl := seqF (F__law_name_1) (seqF (F__law_name_2) (seqF (F__law_name_3) (seqF (F__law_name_4) ((F__law_name_5)))))
noncomputable def f__law_name (ds : List MV) (S : Sto) : R Er := finF (F__law_name (startR ["_law_cell", "_law_letters", "_law_number", "_law_name_here", "_law_k"] ds) S)
noncomputable def F__law_pool_1 : Rho → Sto → R Fl := (fun ρ S => (((rdSl (ρ[0]?) S).bind fun p175 S176 => ((R.ok (.val (.int 2147483587)) S176).bind fun p179 S180 => (R.ok [] S180).bind fun l181 S182 => .ok (p179 :: l181) S182).bind fun l177 S178 => .ok (p175 :: l177) S178).bind fun r173 S174 => callF 2 f__law_mix r173 S174).bind (setF ρ 1))
noncomputable def F__law_pool_2 : Rho → Sto → R Fl := (fun ρ S => (R.ok (.val (.str [97, 98, 99, 100, 101, 102, 103, 104, 105, 106, 107, 108, 109, 110, 111, 112, 113, 114, 115, 116, 117, 118, 119, 120, 121, 122])) S).bind (setF ρ 2))
noncomputable def F__law_pool_3 : Rho → Sto → R Fl := (fun ρ S => (((rdSl (ρ[1]?) S).bind fun p185 S186 => (R.ok [] S186).bind fun l187 S188 => .ok (p185 :: l187) S188).bind fun r183 S184 => callF 1 f__law_name r183 S184).bind (setF ρ 3))
noncomputable def F__law_pool_4 : Rho → Sto → R Fl := (fun ρ S => ((rdSl (ρ[1]?) S).bind fun p189 S190 => ((R.ok (.val (.int 8)) S190).bind fun p193 S194 => ((R.ok (.val (.int 26)) S194).bind fun p197 S198 => (R.ok (.val (.int 8)) S198).bind fun q199 S200 => powF p197 q199 S200).bind fun q195 S196 => mulF p193 q195 S196).bind fun q191 S192 => divF p189 q191 S192).bind (setF ρ 1))
noncomputable def F__law_pool_5 : Rho → Sto → R Fl := (fun ρ S => ((rdSl (ρ[1]?) S).bind fun p201 S202 => (((rdSl (ρ[3]?) S202).bind fun p205 S206 => (R.ok [] S206).bind fun l207 S208 => .ok (p205 :: l207) S208).bind lenF).bind fun q203 S204 => modF p201 q203 S204).bind (setF ρ 4))
noncomputable def F__law_pool_6 : Rho → Sto → R Fl := (fun ρ S => ((((rdSl (ρ[2]?) S).bind fun p209 S210 => if isStrE p209 S210 = true then (((rdSl (ρ[3]?) S210).bind fun p213 S214 => (rdSl (ρ[4]?) S214).bind fun q215 S216 => ixF p213 q215 S216).bind fun p217 S218 => (R.ok [] S218).bind fun l219 S220 => .ok (p217 :: l219) S220).bind fun r211 S212 => sidxF p209 r211 S212 else .no).bind fun p221 S222 => (R.ok (.val (.int 1)) S222).bind fun q223 S224 => addF p221 q223 S224).bind fun p225 S226 => (((rdSl (ρ[1]?) S226).bind fun p229 S230 => (R.ok (.val (.int 8)) S230).bind fun q231 S232 => divF p229 q231 S232).bind fun p233 S234 => (R.ok (.val (.int 25)) S234).bind fun q235 S236 => modF p233 q235 S236).bind fun q227 S228 => addF p225 q227 S228).bind (setF ρ 5))
noncomputable def F__law_pool_7 : Rho → Sto → R Fl := (fun ρ S => ((((rdSl (ρ[3]?) S).bind fun p237 S238 => (R.ok none S238).bind fun l239 S240 => ((rdSl (ρ[4]?) S240).bind asI).bind fun u241 S242 => cutF p237 l239 u241 S242).bind fun p243 S244 => ((rdSl (ρ[2]?) S244).bind fun p247 S248 => ((rdSl (ρ[5]?) S248).bind fun p251 S252 => (R.ok (.val (.int 26)) S252).bind fun q253 S254 => modF p251 q253 S254).bind fun q249 S250 => ixF p247 q249 S250).bind fun q245 S246 => addF p243 q245 S246).bind fun p255 S256 => ((rdSl (ρ[3]?) S256).bind fun p259 S260 => (((rdSl (ρ[4]?) S260).bind fun p265 S266 => (R.ok (.val (.int 1)) S266).bind fun q267 S268 => addF p265 q267 S268).bind asI).bind fun l261 S262 => (R.ok none S262).bind fun u263 S264 => cutF p259 l261 u263 S264).bind fun q257 S258 => addF p255 q257 S258).bind (setF ρ 6))
noncomputable def F__law_pool_8 : Rho → Sto → R Fl := (fun ρ S => ((rdSl (ρ[1]?) S).bind fun p269 S270 => (R.ok (.val (.int 200)) S270).bind fun q271 S272 => divF p269 q271 S272).bind (setF ρ 1))
noncomputable def F__law_pool_9 : Rho → Sto → R Fl := (fun ρ S => (((((((rdSl (ρ[1]?) S).bind fun p273 S274 => ((R.ok (.val (.int 10)) S274).bind fun p277 S278 => (R.ok (.val (.int 30)) S278).bind fun q279 S280 => powF p277 q279 S280).bind fun q275 S276 => modF p273 q275 S276).bind fun p281 S282 => (R.ok (.val (.int 48271)) S282).bind fun q283 S284 => mulF p281 q283 S284).bind fun p285 S286 => (R.ok (.val (.int 11)) S286).bind fun q287 S288 => addF p285 q287 S288).bind fun p289 S290 => (R.ok (.val (.int 4)) S290).bind fun q291 S292 => powF p289 q291 S292).bind fun p293 S294 => (((R.ok (.val (.int 10)) S294).bind fun p297 S298 => (R.ok (.val (.int 30)) S298).bind fun q299 S300 => powF p297 q299 S300).bind fun p301 S302 => (R.ok (.val (.int 3)) S302).bind fun q303 S304 => subF p301 q303 S304).bind fun q295 S296 => modF p293 q295 S296).bind fun p305 S306 => (R.ok (.val (.int 1)) S306).bind fun q307 S308 => addF p305 q307 S308).bind (setF ρ 7))
noncomputable def F__law_pool_10 : Rho → Sto → R Fl := (fun ρ S => ((((rdSl (ρ[1]?) S).bind fun p309 S310 => (R.ok (.val (.int 2)) S310).bind fun q311 S312 => modF p309 q311 S312).bind fun p313 S314 => (R.ok (.val (.int 1)) S314).bind fun q315 S316 => eqF p313 q315 S316).bind asB).bind fun k S1 => if k = true then ((fun ρ S => ((((rdSl (ρ[1]?) S).bind fun p317 S318 => (R.ok (.val (.int 2)) S318).bind fun q319 S320 => divF p317 q319 S320).bind fun p321 S322 => (((R.ok (.val (.int 10)) S322).bind fun p325 S326 => (R.ok (.val (.int 30)) S326).bind fun q327 S328 => powF p325 q327 S328).bind fun p329 S330 => (R.ok (.val (.int 3)) S330).bind fun q331 S332 => subF p329 q331 S332).bind fun q323 S324 => modF p321 q323 S324).bind fun p333 S334 => (R.ok (.val (.int 1)) S334).bind fun q335 S336 => addF p333 q335 S336).bind (setF ρ 7))) ρ S1 else (fun ρ S => .ok (.next ρ) S) ρ S1)
noncomputable def F__law_pool_11 : Rho → Sto → R Fl := (fun ρ S => (((((rdSl (ρ[1]?) S).bind fun p337 S338 => (R.ok (.val (.int 64)) S338).bind fun q339 S340 => divF p337 q339 S340).bind fun p341 S342 => (R.ok (.val (.int 5)) S342).bind fun q343 S344 => modF p341 q343 S344).bind fun p345 S346 => ((rdSl (ρ[7]?) S346).bind fun p349 S350 => ((rdSl (ρ[3]?) S350).bind fun p353 S354 => (((R.ok (.val (.int 0)) S354).bind fun p357 S358 => (rdSl (ρ[7]?) S358).bind fun q359 S360 => subF p357 q359 S360).bind fun p361 S362 => ((rdSl (ρ[6]?) S362).bind fun p365 S366 => (((((rdSl (ρ[1]?) S366).bind fun p369 S370 => (R.ok (.val (.int 320)) S370).bind fun q371 S372 => divF p369 q371 S372).bind fun p373 S374 => (R.ok (.val (.int 5)) S374).bind fun q375 S376 => modF p373 q375 S376).bind fun p377 S378 => (R.ok (.val (.int 7)) S378).bind fun q379 S380 => addF p377 q379 S380).bind fun p381 S382 => (((rdSl (ρ[7]?) S382).bind fun p385 S386 => (R.ok (.val (.int 1)) S386).bind fun q387 S388 => addF p385 q387 S388).bind fun p389 S390 => (R.ok [] S390).bind fun l391 S392 => .ok (p389 :: l391) S392).bind fun l383 S384 => .ok (p381 :: l383) S384).bind fun l367 S368 => .ok (p365 :: l367) S368).bind fun l363 S364 => .ok (p361 :: l363) S364).bind fun l355 S356 => .ok (p353 :: l355) S356).bind fun l351 S352 => .ok (p349 :: l351) S352).bind fun l347 S348 => .ok (p345 :: l347) S348).bind lstF).bind fun r S1 => .ok (.ret r) S1)
noncomputable def F__law_pool : Rho → Sto → R Fl := seqF (F__law_pool_1) (seqF (F__law_pool_2) (seqF (F__law_pool_3) (seqF (F__law_pool_4) (seqF (F__law_pool_5) (seqF (F__law_pool_6) (seqF (F__law_pool_7) (seqF (F__law_pool_8) (seqF (F__law_pool_9) (seqF (F__law_pool_10) ((F__law_pool_11)))))))))))
noncomputable def f__law_pool (ds : List MV) (S : Sto) : R Er := finF (F__law_pool (startR ["_law_cell", "_law_number", "_law_letters", "_law_name_here", "_law_at", "_law_turned", "_law_other", "_law_great"] ds) S)
noncomputable def C__law_alike_1_c (self : List MV → Sto → R Er) : Rho → Sto → R Bool := fun ρ S => (R.ok true S)
noncomputable def C__law_alike_1_e (self : List MV → Sto → R Er) : Rho → Sto → R Er := fun ρ S => (((rdSl (ρ[0]?) S).bind fun p531 S532 => ((rdSl (ρ[1]?) S532).bind fun p535 S536 => (R.ok [] S536).bind fun l537 S538 => .ok (p535 :: l537) S538).bind fun l533 S534 => .ok (p531 :: l533) S534).bind fun r529 S530 => callF 2 self r529 S530)
noncomputable def F__law_alike_1 (self : List MV → Sto → R Er) : Rho → Sto → R Fl := (fun ρ S => (((rdSl (ρ[1]?) S).bind fun p393 S394 => (R.ok (.val .non) S394).bind fun q395 S396 => isNF p393 q395 S396).bind asB).bind fun k S1 => if k = true then ((fun ρ S => ((rdSl (ρ[0]?) S).bind fun p397 S398 => (R.ok (.val .non) S398).bind fun q399 S400 => isNF p397 q399 S400).bind fun r S1 => .ok (.ret r) S1)) ρ S1 else (fun ρ S => .ok (.next ρ) S) ρ S1)
noncomputable def F__law_alike_2 (self : List MV → Sto → R Er) : Rho → Sto → R Fl := (fun ρ S => ((((rdSl (ρ[1]?) S).bind fun p401 S402 => ((R.ok (.val (.typ "str")) S402).bind fun p405 S406 => (R.ok [] S406).bind fun l407 S408 => .ok (p405 :: l407) S408).bind fun l403 S404 => .ok (p401 :: l403) S404).bind isiF).bind truF).bind fun k S1 => if k = true then ((fun ρ S => ((((rdSl (ρ[0]?) S).bind fun p409 S410 => ((R.ok (.val (.typ "str")) S410).bind fun p413 S414 => (R.ok [] S414).bind fun l415 S416 => .ok (p413 :: l415) S416).bind fun l411 S412 => .ok (p409 :: l411) S412).bind isiF).bind fun p417 S418 => andF p417 S418 fun S419 => ((rdSl (ρ[0]?) S419).bind fun p420 S421 => (rdSl (ρ[1]?) S421).bind fun q422 S423 => eqF p420 q422 S423)).bind fun r S1 => .ok (.ret r) S1)) ρ S1 else (fun ρ S => .ok (.next ρ) S) ρ S1)
noncomputable def F__law_alike_3 (self : List MV → Sto → R Er) : Rho → Sto → R Fl := (fun ρ S => ((((rdSl (ρ[1]?) S).bind fun p424 S425 => ((R.ok (.val (.typ "int")) S425).bind fun p428 S429 => (R.ok [] S429).bind fun l430 S431 => .ok (p428 :: l430) S431).bind fun l426 S427 => .ok (p424 :: l426) S427).bind isiF).bind truF).bind fun k S1 => if k = true then ((fun ρ S => ((((rdSl (ρ[0]?) S).bind fun p432 S433 => ((R.ok (.val (.typ "int")) S433).bind fun p436 S437 => (R.ok [] S437).bind fun l438 S439 => .ok (p436 :: l438) S439).bind fun l434 S435 => .ok (p432 :: l434) S435).bind isiF).bind fun p440 S441 => andF p440 S441 fun S442 => (((((rdSl (ρ[0]?) S442).bind fun p443 S444 => ((R.ok (.val (.typ "bool")) S444).bind fun p447 S448 => (R.ok [] S448).bind fun l449 S450 => .ok (p447 :: l449) S450).bind fun l445 S446 => .ok (p443 :: l445) S446).bind isiF).bind fun p451 S452 => (asB p451 S452).bind fun k453 S454 => .ok (.val (.bl !k453)) S454).bind fun p455 S456 => andF p455 S456 fun S457 => ((rdSl (ρ[0]?) S457).bind fun p458 S459 => (rdSl (ρ[1]?) S459).bind fun q460 S461 => eqF p458 q460 S461))).bind fun r S1 => .ok (.ret r) S1)) ρ S1 else (fun ρ S => .ok (.next ρ) S) ρ S1)
noncomputable def F__law_alike_4 (self : List MV → Sto → R Er) : Rho → Sto → R Fl := (fun ρ S => (((((rdSl (ρ[1]?) S).bind fun p462 S463 => ((R.ok (.val (.typ "list")) S463).bind fun p466 S467 => (R.ok [] S467).bind fun l468 S469 => .ok (p466 :: l468) S469).bind fun l464 S465 => .ok (p462 :: l464) S465).bind isiF).bind truF).bind fun k470 S471 => if k470 = true then (((((rdSl (ρ[0]?) S471).bind fun p472 S473 => ((R.ok (.val (.typ "list")) S473).bind fun p476 S477 => (R.ok [] S477).bind fun l478 S479 => .ok (p476 :: l478) S479).bind fun l474 S475 => .ok (p472 :: l474) S475).bind isiF).bind truF).bind fun k480 S481 => .ok (!k480) S481) else .ok false S471).bind fun k S1 => if k = true then ((fun ρ S => (R.ok (.val (.bl false)) S).bind fun r S1 => .ok (.ret r) S1)) ρ S1 else (fun ρ S => .ok (.next ρ) S) ρ S1)
noncomputable def F__law_alike_5 (self : List MV → Sto → R Er) : Rho → Sto → R Fl := (fun ρ S => (((((rdSl (ρ[1]?) S).bind fun p482 S483 => ((R.ok (.val (.typ "tuple")) S483).bind fun p486 S487 => (R.ok [] S487).bind fun l488 S489 => .ok (p486 :: l488) S489).bind fun l484 S485 => .ok (p482 :: l484) S485).bind isiF).bind truF).bind fun k490 S491 => if k490 = true then (((((rdSl (ρ[0]?) S491).bind fun p492 S493 => ((R.ok (.val (.typ "tuple")) S493).bind fun p496 S497 => (R.ok [] S497).bind fun l498 S499 => .ok (p496 :: l498) S499).bind fun l494 S495 => .ok (p492 :: l494) S495).bind isiF).bind truF).bind fun k500 S501 => .ok (!k500) S501) else .ok false S491).bind fun k S1 => if k = true then ((fun ρ S => (R.ok (.val (.bl false)) S).bind fun r S1 => .ok (.ret r) S1)) ρ S1 else (fun ρ S => .ok (.next ρ) S) ρ S1)
noncomputable def F__law_alike_6 (self : List MV → Sto → R Er) : Rho → Sto → R Fl := (fun ρ S => (((((rdSl (ρ[0]?) S).bind fun p502 S503 => (R.ok [] S503).bind fun l504 S505 => .ok (p502 :: l504) S505).bind lenF).bind fun p506 S507 => (((rdSl (ρ[1]?) S507).bind fun p510 S511 => (R.ok [] S511).bind fun l512 S513 => .ok (p510 :: l512) S513).bind lenF).bind fun q508 S509 => eqF p506 q508 S509).bind fun p514 S515 => andF p514 S515 fun S516 => ((((((rdSl (ρ[0]?) S516).bind fun p517 S518 => ((rdSl (ρ[1]?) S518).bind fun p521 S522 => (R.ok [] S522).bind fun l523 S524 => .ok (p521 :: l523) S524).bind fun l519 S520 => .ok (p517 :: l519) S520).bind itZ).bind fun k525 S526 => if k525.ds.length < 1000000 then (compF (gTp 2 (gsCons (gNm 0) (gsCons (gNm 1) gsNil))) (C__law_alike_1_c self) (C__law_alike_1_e self) (blk 2 [] ρ) k525.gs k525.ds S526).bind fun o527 S528 => .ok (.new o527) S528 else .no).bind fun p539 S540 => (R.ok [] S540).bind fun l541 S542 => .ok (p539 :: l541) S542).bind allF)).bind fun r S1 => .ok (.ret r) S1)
noncomputable def F__law_alike (self : List MV → Sto → R Er) : Rho → Sto → R Fl := seqF (F__law_alike_1 self) (seqF (F__law_alike_2 self) (seqF (F__law_alike_3 self) (seqF (F__law_alike_4 self) (seqF (F__law_alike_5 self) ((F__law_alike_6 self))))))
noncomputable def f__law_alike : Nat → List MV → Sto → R Er
  | 0 => fun _ _ => .no
  | n + 1 => fun ds S => finF (F__law_alike (f__law_alike n) (startR ["_law_told", "_law_due"] ds) S)
noncomputable def B__law_before_1_1 : Rho → Sto → R Fl := (fun ρ S => (((rdSl (ρ[2]?) S).bind fun p551 S552 => (rdSl (ρ[3]?) S552).bind fun q553 S554 => neF p551 q553 S554).bind asB).bind fun k S1 => if k = true then (seqF (fun ρ S => (((((rdSl (ρ[2]?) S).bind fun p555 S556 => ((R.ok (.val (.typ "str")) S556).bind fun p559 S560 => (R.ok [] S560).bind fun l561 S562 => .ok (p559 :: l561) S562).bind fun l557 S558 => .ok (p555 :: l557) S558).bind isiF).bind fun p563 S564 => (((rdSl (ρ[3]?) S564).bind fun p567 S568 => ((R.ok (.val (.typ "str")) S568).bind fun p571 S572 => (R.ok [] S572).bind fun l573 S574 => .ok (p571 :: l573) S574).bind fun l569 S570 => .ok (p567 :: l569) S570).bind isiF).bind fun q565 S566 => neF p563 q565 S566).bind asB).bind fun k S1 => if k = true then ((fun ρ S => (((rdSl (ρ[3]?) S).bind fun p575 S576 => ((R.ok (.val (.typ "str")) S576).bind fun p579 S580 => (R.ok [] S580).bind fun l581 S582 => .ok (p579 :: l581) S582).bind fun l577 S578 => .ok (p575 :: l577) S578).bind isiF).bind fun r S1 => .ok (.ret r) S1)) ρ S1 else (fun ρ S => .ok (.next ρ) S) ρ S1) ((fun ρ S => ((rdSl (ρ[2]?) S).bind fun p583 S584 => (rdSl (ρ[3]?) S584).bind fun q585 S586 => ltF p583 q585 S586).bind fun r S1 => .ok (.ret r) S1))) ρ S1 else (fun ρ S => .ok (.next ρ) S) ρ S1)
noncomputable def B__law_before_1 : Rho → Sto → R Fl := (B__law_before_1_1)
noncomputable def F__law_before_1 : Rho → Sto → R Fl := (fun ρ S => (((rdSl (ρ[0]?) S).bind fun p543 S544 => ((rdSl (ρ[1]?) S544).bind fun p547 S548 => (R.ok [] S548).bind fun l549 S550 => .ok (p547 :: l549) S550).bind fun l545 S546 => .ok (p543 :: l545) S546).bind itZ).bind fun k S1 => forF (gTp 2 (gsCons (gNm 2) (gsCons (gNm 3) gsNil))) (B__law_before_1) k.gs k.ds ρ S1)
noncomputable def F__law_before_2 : Rho → Sto → R Fl := (fun ρ S => (R.ok (.val (.bl false)) S).bind fun r S1 => .ok (.ret r) S1)
noncomputable def F__law_before : Rho → Sto → R Fl := seqF (F__law_before_1) ((F__law_before_2))
noncomputable def f__law_before (ds : List MV) (S : Sto) : R Er := finF (F__law_before (startR ["_law_one", "_law_other", "_law_here", "_law_there"] ds) S)
noncomputable def C_law_2_c : Rho → Sto → R Bool := fun ρ S => (R.ok true S)
noncomputable def C_law_2_e : Rho → Sto → R Er := fun ρ S => ((rdSl (ρ[1]?) S).bind fun p645 S646 => (((rdSl (ρ[2]?) S646).bind fun p649 S650 => ((((R.ok (.val (.int 1)) S650).bind fun p653 S654 => ((R.ok (.val (.int 7)) S654).bind fun p657 S658 => ((R.ok (.val (.int 49)) S658).bind fun p661 S662 => ((R.ok (.val (.int 343)) S662).bind fun p665 S666 => (R.ok [] S666).bind fun l667 S668 => .ok (p665 :: l667) S668).bind fun l663 S664 => .ok (p661 :: l663) S664).bind fun l659 S660 => .ok (p657 :: l659) S660).bind fun l655 S656 => .ok (p653 :: l655) S656).bind lstF).bind fun p669 S670 => (rdSl (ρ[0]?) S670).bind fun q671 S672 => ixF p669 q671 S672).bind fun q651 S652 => divF p649 q651 S652).bind fun p673 S674 => (R.ok (.val (.int 7)) S674).bind fun q675 S676 => modF p673 q675 S676).bind fun q647 S648 => ixF p645 q647 S648)
noncomputable def B_law_1_1 : Rho → Sto → R Fl := (fun ρ S => (((rdSl (ρ[4]?) S).bind fun p625 S626 => ((R.ok (.val (.int 2147483563)) S626).bind fun p629 S630 => (R.ok [] S630).bind fun l631 S632 => .ok (p629 :: l631) S632).bind fun l627 S628 => .ok (p625 :: l627) S628).bind fun r623 S624 => callF 2 f__law_mix r623 S624).bind (setF ρ 5))
noncomputable def B_law_1_2 : Rho → Sto → R Fl := (fun ρ S => ((rdSl (ρ[3]?) S).bind fun p633 S634 => if isLst p633 S634 = true then (((((((rdSl (ρ[2]?) S634).bind fun p637 S638 => (R.ok [] S638).bind fun l639 S640 => .ok (p637 :: l639) S640).bind rng1F).bind fun k641 S642 => if k641.ds.length < 1000000 then (compF (gNm 0) (C_law_2_c) (C_law_2_e) (blk 1 [1, 5] ρ) k641.gs k641.ds S642).bind fun o643 S644 => .ok (.new o643) S644 else .no).bind fun p677 S678 => (R.ok [] S678).bind fun l679 S680 => .ok (p677 :: l679) S680).bind tupleF).bind fun p681 S682 => (R.ok [] S682).bind fun l683 S684 => .ok (p681 :: l683) S684).bind fun r635 S636 => appF p633 r635 S636 else .no).bind fun _ S1 => .ok (.next ρ) S1)
noncomputable def B_law_1 : Rho → Sto → R Fl := seqF (B_law_1_1) ((B_law_1_2))
noncomputable def B_law_3_1 : Rho → Sto → R Fl := (fun ρ S => (((((rdSl (ρ[7]?) S).bind fun p719 S720 => (rdSl (ρ[8]?) S720).bind fun q721 S722 => ixF p719 q721 S722).bind fun p723 S724 => (rdSl (ρ[3]?) S724).bind fun q725 S726 => inF true p723 q725 S726).bind asB).bind fun k727 S728 => if k727 = true then .ok true S728 else ((((((rdSl (ρ[7]?) S728).bind fun p731 S732 => (rdSl (ρ[8]?) S732).bind fun q733 S734 => ixF p731 q733 S734).bind fun p735 S736 => (((rdSl (ρ[3]?) S736).bind fun p739 S740 => ((rdSl (ρ[3]?) S740).bind fun p743 S744 => if isLst p743 S744 = true then (((rdSl (ρ[7]?) S744).bind fun p747 S748 => (rdSl (ρ[8]?) S748).bind fun q749 S750 => ixF p747 q749 S750).bind fun p751 S752 => (R.ok [] S752).bind fun l753 S754 => .ok (p751 :: l753) S754).bind fun r745 S746 => lidxF p743 r745 S746 else .no).bind fun q741 S742 => ixF p739 q741 S742).bind fun p755 S756 => (R.ok [] S756).bind fun l757 S758 => .ok (p755 :: l757) S758).bind fun l737 S738 => .ok (p735 :: l737) S738).bind fun r729 S730 => callF 2 (f__law_alike 8) r729 S730).bind truF).bind fun k759 S760 => .ok (!k759) S760)).bind fun k S1 => if k = true then ((fun ρ S => (R.ok (.val (.bl false)) S).bind fun r S1 => .ok (.ret r) S1)) ρ S1 else (fun ρ S => .ok (.next ρ) S) ρ S1)
noncomputable def B_law_3_2 : Rho → Sto → R Fl := (fun ρ S => ((((rdSl (ρ[8]?) S).bind fun p761 S762 => (R.ok (.val (.int 0)) S762).bind fun q763 S764 => gtF p761 q763 S764).bind asB).bind fun k765 S766 => if k765 = true then ((((((rdSl (ρ[7]?) S766).bind fun p769 S770 => ((rdSl (ρ[8]?) S770).bind fun p773 S774 => (R.ok (.val (.int 1)) S774).bind fun q775 S776 => subF p773 q775 S776).bind fun q771 S772 => ixF p769 q771 S772).bind fun p777 S778 => (((rdSl (ρ[7]?) S778).bind fun p781 S782 => (rdSl (ρ[8]?) S782).bind fun q783 S784 => ixF p781 q783 S784).bind fun p785 S786 => (R.ok [] S786).bind fun l787 S788 => .ok (p785 :: l787) S788).bind fun l779 S780 => .ok (p777 :: l779) S780).bind fun r767 S768 => callF 2 f__law_before r767 S768).bind truF).bind fun k789 S790 => .ok (!k789) S790) else .ok false S766).bind fun k S1 => if k = true then ((fun ρ S => (R.ok (.val (.bl false)) S).bind fun r S1 => .ok (.ret r) S1)) ρ S1 else (fun ρ S => .ok (.next ρ) S) ρ S1)
noncomputable def B_law_3 : Rho → Sto → R Fl := seqF (B_law_3_1) ((B_law_3_2))
noncomputable def C_law_4_c : Rho → Sto → R Bool := fun ρ S => (((rdSl (ρ[0]?) S).bind fun p795 S796 => (rdSl (ρ[1]?) S796).bind fun q797 S798 => inF true p795 q797 S798).bind asB)
noncomputable def C_law_4_e : Rho → Sto → R Er := fun ρ S => (rdSl (ρ[0]?) S)
noncomputable def F_law_1 : Rho → Sto → R Fl := (fun ρ S => (((((rdSl (ρ[0]?) S).bind fun p591 S592 => ((R.ok (.val (.int 0)) S592).bind fun p595 S596 => (R.ok [] S596).bind fun l597 S598 => .ok (p595 :: l597) S598).bind fun l593 S594 => .ok (p591 :: l593) S594).bind fun r589 S590 => callF 2 f__law_cell_at r589 S590).bind fun p599 S600 => (R.ok [] S600).bind fun l601 S602 => .ok (p599 :: l601) S602).bind fun r587 S588 => callF 1 f__law_pool r587 S588).bind (setF ρ 1))
noncomputable def F_law_2 : Rho → Sto → R Fl := (fun ρ S => ((((rdSl (ρ[0]?) S).bind fun p605 S606 => ((R.ok (.val (.int 1)) S606).bind fun p609 S610 => (R.ok [] S610).bind fun l611 S612 => .ok (p609 :: l611) S612).bind fun l607 S608 => .ok (p605 :: l607) S608).bind fun r603 S604 => callF 2 f__law_cell_at r603 S604).bind fun p613 S614 => (R.ok (.val (.int 5)) S614).bind fun q615 S616 => modF p613 q615 S616).bind (setF ρ 2))
noncomputable def F_law_3 : Rho → Sto → R Fl := (fun ρ S => ((R.ok [] S).bind lstF).bind (setF ρ 3))
noncomputable def F_law_4 : Rho → Sto → R Fl := (fun ρ S => (((rdSl (ρ[0]?) S).bind fun p617 S618 => ((R.ok (.val (.int 2)) S618).bind asI).bind fun l619 S620 => ((R.ok (.val (.int 42)) S620).bind asI).bind fun u621 S622 => cutF p617 l619 u621 S622).bind itL).bind fun k S1 => forF (gNm 4) (B_law_1) k.gs k.ds ρ S1)
noncomputable def F_law_5 : Rho → Sto → R Fl := (fun ρ S => (((rdSl (ρ[3]?) S).bind fun p685 S686 => (R.ok [] S686).bind fun l687 S688 => .ok (p685 :: l687) S688).bind listF).bind (setF ρ 6))
noncomputable def F_law_6 : Rho → Sto → R Fl := (fun ρ S => (((rdSl (ρ[6]?) S).bind fun p691 S692 => (R.ok [] S692).bind fun l693 S694 => .ok (p691 :: l693) S694).bind fun r689 S690 => callF 1 f_in_order r689 S690).bind (setF ρ 7))
noncomputable def F_law_7 : Rho → Sto → R Fl := (fun ρ S => ((((((rdSl (ρ[7]?) S).bind fun p695 S696 => ((R.ok (.val (.typ "list")) S696).bind fun p699 S700 => (R.ok [] S700).bind fun l701 S702 => .ok (p699 :: l701) S702).bind fun l697 S698 => .ok (p695 :: l697) S698).bind isiF).bind truF).bind fun k703 S704 => .ok (!k703) S704).bind fun k705 S706 => if k705 = true then .ok true S706 else (((rdSl (ρ[6]?) S706).bind fun p707 S708 => (rdSl (ρ[3]?) S708).bind fun q709 S710 => neF p707 q709 S710).bind asB)).bind fun k S1 => if k = true then ((fun ρ S => (R.ok (.val (.bl false)) S).bind fun r S1 => .ok (.ret r) S1)) ρ S1 else (fun ρ S => .ok (.next ρ) S) ρ S1)
noncomputable def F_law_8 : Rho → Sto → R Fl := (fun ρ S => (((((rdSl (ρ[7]?) S).bind fun p711 S712 => (R.ok [] S712).bind fun l713 S714 => .ok (p711 :: l713) S714).bind lenF).bind fun p715 S716 => (R.ok [] S716).bind fun l717 S718 => .ok (p715 :: l717) S718).bind rng1F).bind fun k S1 => forF (gNm 8) (B_law_3) k.gs k.ds ρ S1)
noncomputable def F_law_9 : Rho → Sto → R Fl := (fun ρ S => (((((rdSl (ρ[3]?) S).bind itL).bind fun k791 S792 => if k791.ds.length < 1000000 then (compF (gNm 0) (C_law_4_c) (C_law_4_e) (blk 1 [7] ρ) k791.gs k791.ds S792).bind fun o793 S794 => .ok (.new o793) S794 else .no).bind fun p799 S800 => ((R.ok [] S800).bind lstF).bind fun q801 S802 => neF p799 q801 S802).bind asB).bind fun k S1 => if k = true then ((fun ρ S => (R.ok (.val (.bl false)) S).bind fun r S1 => .ok (.ret r) S1)) ρ S1 else (fun ρ S => .ok (.next ρ) S) ρ S1)
noncomputable def F_law_10 : Rho → Sto → R Fl := (fun ρ S => (((((rdSl (ρ[3]?) S).bind fun p805 S806 => (R.ok none S806).bind fun l807 S808 => (R.ok none S808).bind fun u809 S810 => stepF (-1) p805 l807 u809 S810).bind fun p811 S812 => (rdSl (ρ[3]?) S812).bind fun q813 S814 => addF p811 q813 S814).bind fun p815 S816 => (R.ok [] S816).bind fun l817 S818 => .ok (p815 :: l817) S818).bind fun r803 S804 => callF 1 f_in_order r803 S804).bind (setF ρ 9))
noncomputable def F_law_11 : Rho → Sto → R Fl := (fun ρ S => ((rdSl (ρ[9]?) S).bind fun p819 S820 => if isLst p819 S820 = true then (((R.ok [] S820).bind tupF).bind fun p823 S824 => (R.ok [] S824).bind fun l825 S826 => .ok (p823 :: l825) S826).bind fun r821 S822 => appF p819 r821 S822 else .no).bind fun _ S1 => .ok (.next ρ) S1)
noncomputable def F_law_12 : Rho → Sto → R Fl := (fun ρ S => (((((((rdSl (ρ[3]?) S).bind fun p829 S830 => (R.ok none S830).bind fun l831 S832 => (R.ok none S832).bind fun u833 S834 => stepF (-1) p829 l831 u833 S834).bind fun p835 S836 => (rdSl (ρ[3]?) S836).bind fun q837 S838 => addF p835 q837 S838).bind fun p839 S840 => (R.ok [] S840).bind fun l841 S842 => .ok (p839 :: l841) S842).bind fun r827 S828 => callF 1 f_in_order r827 S828).bind fun p843 S844 => (rdSl (ρ[7]?) S844).bind fun q845 S846 => eqF p843 q845 S846).bind fun p847 S848 => andF p847 S848 fun S849 => (((rdSl (ρ[9]?) S849).bind fun p850 S851 => (R.ok none S851).bind fun l852 S853 => ((R.ok (.val (.int (-1))) S853).bind asI).bind fun u854 S855 => cutF p850 l852 u854 S855).bind fun p856 S857 => (rdSl (ρ[7]?) S857).bind fun q858 S859 => eqF p856 q858 S859)).bind fun r S1 => .ok (.ret r) S1)
noncomputable def F_law : Rho → Sto → R Fl := seqF (F_law_1) (seqF (F_law_2) (seqF (F_law_3) (seqF (F_law_4) (seqF (F_law_5) (seqF (F_law_6) (seqF (F_law_7) (seqF (F_law_8) (seqF (F_law_9) (seqF (F_law_10) (seqF (F_law_11) ((F_law_12))))))))))))
noncomputable def f_law (ds : List MV) (S : Sto) : R Er := finF (F_law (startR ["_law_script", "_law_pool_here", "_law_wide", "_law_some", "_law_cell", "_law_number", "_law_handed", "_law_told", "_law_k", "_law_again"] ds) S)
def abc : List Nat := [97, 98, 99, 100, 101, 102, 103, 104, 105, 106, 107, 108, 109, 110, 111, 112, 113, 114, 115, 116, 117, 118, 119, 120, 121, 122]
theorem name_turn (c n : Int) (x : List Nat) (s : Option MV) (S : Sto) (h : x.length ≤ 1000) : ∃ k, (97 ≤ k ∧ k ≤ 122) ∧ B__law_name_1 [some (.int c), some (.str abc), some (.int n), some (.str x), s] S =
    .ok (.next [some (.int c), some (.str abc), some (.int (n / 26)), some (.str (x ++ [k])), s]) S := by
  obtain ⟨k, hk⟩ := atI_pos (xs := abc) (i := n % 26) (Int.emod_nonneg _ (by decide)) (by have := Int.emod_lt_of_pos n (show (0 : Int) < 26 by decide); show n % 26 < 26; exact this)
  refine ⟨k, atI_all (P := fun k => 97 ≤ k ∧ k ≤ 122) (by decide) hk, ?_⟩
  have h1 : B__law_name_1_1 [some (.int c), some (.str abc), some (.int n), some (.str x), s] S = .ok (.next [some (.int c), some (.str abc), some (.int n), some (.str (x ++ [k])), s]) S := by
    unfold B__law_name_1_1
    simp? [mod_lit (show (0 : Int) < 26 by decide), ix_str (show abc.length ≤ sizeLine by rw [sizeLine_eq]; decide) hk]
    rw [add_str (fits (by rw [List.length_singleton]; omega))]
    rfl
  have h2 : B__law_name_1_2 [some (.int c), some (.str abc), some (.int n), some (.str (x ++ [k])), s] S = .ok (.next [some (.int c), some (.str abc), some (.int (n / 26)), some (.str (x ++ [k])), s]) S := by
    unfold B__law_name_1_2
    simp? [div_lit (show (0 : Int) < 26 by decide) (show (26 : Int) < 1073741824 by decide)]
  unfold B__law_name_1
  rw [seq_next h1, h2]
theorem name_loop (c : Int) (S : Sto) : ∀ (ds : List MV) (n : Int) (x : List Nat) (s : Option MV), x.length + ds.length ≤ 1000 → (∀ c ∈ x, 97 ≤ c ∧ c ≤ 122) → ∃ n' x' s', forF (gNm 4) B__law_name_1 [] ds [some (.int c), some (.str abc), some (.int n), some (.str x), s] S =
    .ok (.next [some (.int c), some (.str abc), some (.int n'), some (.str x'), s']) S ∧ x'.length = x.length + ds.length ∧ ∀ c ∈ x', 97 ≤ c ∧ c ≤ 122
  | [], n, x, s, _, hx => ⟨n, x, s, rfl, rfl, hx⟩
  | d :: ds, n, x, s, h, hx => by
    rw [List.length_cons] at h
    obtain ⟨k, hl, hk⟩ := name_turn c n x (some d) S (by omega)
    obtain ⟨n', x', s', h1, h2, h3⟩ := name_loop c S ds (n / 26) (x ++ [k]) (some d) (by rw [List.length_append, List.length_singleton]; omega) (by
      intro c hc
      rw [List.mem_append, List.mem_singleton] at hc
      rcases hc with hc | rfl
      · exact hx c hc
      · exact hl)
    refine ⟨n', x', s', ?_, by rw [h2, List.length_append, List.length_singleton, List.length_cons]; omega, h3⟩
    rw [for_next rfl hk (stay0 S)]
    exact h1
theorem name_ok (c : Int) (S : Sto) : ∃ x, f__law_name [.int c] S = .ok (.val (.str x)) S ∧ Nm x := by
  have hm0 : 0 ≤ c % 8 := Int.emod_nonneg _ (by decide)
  have hm1 : c % 8 < 8 := Int.emod_lt_of_pos _ (by decide)
  have hn : ((List.range (1 + c % 8).toNat).map fun k => MV.int (k : Nat)).length = (1 + c % 8).toNat := by rw [List.length_map, List.length_range]
  obtain ⟨n', x', s', h1, h2, h3⟩ := name_loop c S ((List.range (1 + c % 8).toNat).map fun k => MV.int (k : Nat)) (c / 8) [] none (by rw [hn]; simp only [List.length_nil]; omega) (by simp)
  rw [hn, List.length_nil] at h2
  refine ⟨x', ?_, by omega, by omega, h3⟩
  have e1 : F__law_name_1 [some (.int c), none, none, none, none] S = .ok (.next [some (.int c), some (.str abc), none, none, none]) S := rfl
  have e2 : F__law_name_2 [some (.int c), some (.str abc), none, none, none] S = .ok (.next [some (.int c), some (.str abc), some (.int (c / 8)), none, none]) S := by
    unfold F__law_name_2
    simp? [div_lit (show (0 : Int) < 8 by decide) (show (8 : Int) < 1073741824 by decide)]
  have e3 : F__law_name_3 [some (.int c), some (.str abc), some (.int (c / 8)), none, none] S = .ok (.next [some (.int c), some (.str abc), some (.int (c / 8)), some (.str []), none]) S := rfl
  have e4 : F__law_name_4 [some (.int c), some (.str abc), some (.int (c / 8)), some (.str []), none] S = .ok (.next [some (.int c), some (.str abc), some (.int n'), some (.str x'), s']) S := by
    unfold F__law_name_4
    simp? [mod_lit (show (0 : Int) < 8 by decide)]
    rw [rng_ok (by omega), bok]
    exact h1
  have hs : startR ["_law_cell", "_law_letters", "_law_number", "_law_name_here", "_law_k"] [.int c] = [some (.int c), none, none, none, none] := rfl
  unfold f__law_name F__law_name
  rw [hs, seq_next e1, seq_next e2, seq_next e3, seq_next e4]
  rfl
theorem p1060 (S : Sto) : powF (.val (.int 10)) (.val (.int 60)) S = .ok (.val (.int (10 ^ 60))) S := rfl
theorem p600 (S : Sto) : powF (.val (.int (10 ^ 60))) (.val (.int 10)) S = .ok (.val (.int ((10 ^ 60) ^ 10))) S := by
  show (if powC (10 ^ 60) 10 then R.ok (Er.val (.int ((10 ^ 60) ^ (10 : Int).toNat))) S else .no) = _
  rw [if_pos (by decide +kernel)]
  rfl
theorem pp30 (S : Sto) : powF (.val (.int 10)) (.val (.int 30)) S = .ok (.val (.int (10 ^ 30))) S := rfl
theorem pp268 (S : Sto) : powF (.val (.int 26)) (.val (.int 8)) S = .ok (.val (.int 208827064576)) S := rfl
theorem div_gen {b : Int} (h : divC 0 b) (a : Int) (S : Sto) : divF (.val (.int a)) (.val (.int b)) S = .ok (.val (.int (a / b))) S := if_pos (show divC a b from h)
theorem mul_31 {a : Int} (h : 0 ≤ a ∧ a < 4294967296) (S : Sto) : mulF (.val (.int a)) (.val (.int a)) S = .ok (.val (.int (a * a))) S :=
  mul_lit ⟨Int.lt_of_lt_of_le (by decide) h.1, Int.lt_trans h.2 (by decide)⟩ a S
theorem mix_ok (c p : Int) (hp : 0 < p ∧ p < 4294967296) (S : Sto) : ∃ n, callF 2 f__law_mix [.val (.int c), .val (.int p)] S = .ok (.val (.int n)) S := by
  have hs : startR ["_law_cell", "_law_prime", "_law_number"] [.int c, .int p] = [some (.int c), some (.int p), none] := rfl
  have h600 : (0 : Int) < (10 ^ 60) ^ 10 := Int.pow_pos (Int.pow_pos (by decide))
  have e1 : F__law_mix_1 [some (.int c), some (.int p), none] S = if decide (c % 2 = 0) = true then .ok (.ret (.val (.int (c / 2 % (10 ^ 60) ^ 10)))) S else .ok (.next [some (.int c), some (.int p), none]) S := by
    unfold F__law_mix_1
    simp? [mod_lit (show (0 : Int) < 2 by decide), div_lit (show (0 : Int) < 2 by decide) (show (2 : Int) < 1073741824 by decide), p1060, p600, mod_lit h600]
  have fin : ∀ n, f__law_mix [.int c, .int p] S = .ok (.val (.int n)) S → ∃ n, callF 2 f__law_mix [.val (.int c), .val (.int p)] S = .ok (.val (.int n)) S := fun n h => ⟨n, call_pure rfl h (lo_int _ _) (fun l => by simp)⟩
  cases hb : decide (c % 2 = 0) with
  | true =>
    refine fin (c / 2 % (10 ^ 60) ^ 10) ?_
    rw [hb, if_pos rfl] at e1
    unfold f__law_mix F__law_mix
    rw [hs, seq_ret e1]
    rfl
  | false =>
    rw [hb, if_neg Bool.false_ne_true] at e1
    have hn0 : 0 ≤ (c % 2147483629 + 7) * 48271 % p := Int.emod_nonneg _ (by omega)
    have hn1 : (c % 2147483629 + 7) * 48271 % p < p := Int.emod_lt_of_pos _ hp.1
    have e2 : F__law_mix_2 [some (.int c), some (.int p), none] S = .ok (.next [some (.int c), some (.int p), some (.int ((c % 2147483629 + 7) * 48271 % p))]) S := by
      unfold F__law_mix_2
      simp? [mod_lit (show (0 : Int) < 2147483629 by decide), mul_lit (show -(2 ^ 64) < (48271 : Int) ∧ (48271 : Int) < 2 ^ 64 by decide), mod_lit hp.1]
    generalize (c % 2147483629 + 7) * 48271 % p = m at hn0 hn1 e2
    have e3 : F__law_mix_3 [some (.int c), some (.int p), some (.int m)] S = .ok (.ret (.val (.int (m * m % 2147483579 * 1000003 + m)))) S := by
      unfold F__law_mix_3
      simp? [mul_31 (a := m) ⟨hn0, by omega⟩, mod_lit (show (0 : Int) < 2147483579 by decide), mul_lit (show -(2 ^ 64) < (1000003 : Int) ∧ (1000003 : Int) < 2 ^ 64 by decide)]
    refine fin (m * m % 2147483579 * 1000003 + m) ?_
    unfold f__law_mix F__law_mix
    rw [hs, seq_next e1, seq_next e2, e3]
    rfl
theorem idx_abc : ∀ k, k < 26 → strIdx abc [97 + k] = some k := by decide +kernel
abbrev P8 (c n : Int) (a b x4 x5 x6 x7 : Option MV) : Rho := [some (.int c), some (.int n), a, b, x4, x5, x6, x7]
section
variable {c n : Int} {a b x4 x5 x6 x7 : Option MV} {S : Sto} {x : List Nat} {at' tn : Int}
theorem po4 : F__law_pool_4 (P8 c n a b x4 x5 x6 x7) S = .ok (.next (P8 c (n / 1670616516608) a b x4 x5 x6 x7)) S := by
  unfold F__law_pool_4
  simp? [pp268, mul_litL (show -(2 ^ 64) < (8 : Int) ∧ (8 : Int) < 2 ^ 64 by decide), div_gen (show divC 0 (8 * 208827064576) by decide +kernel)]
  rfl
theorem po5 (hx : Nm x) : F__law_pool_5 (P8 c n a (some (.str x)) x4 x5 x6 x7) S = .ok (.next (P8 c n a (some (.str x)) (some (.int (n % x.length))) x5 x6 x7)) S := by
  have hl : lenF [.val (.str x)] S = .ok (.val (.int x.length)) S := if_pos (fits (by have := hx.2.1; omega))
  have hp : (0 : Int) < (x.length : Int) := by have := hx.1; omega
  unfold F__law_pool_5
  simp? [hl, mod_lit hp]
theorem po6 (hx : Nm x) (h0 : 0 ≤ at') (h1 : at' < x.length) : ∃ tn, F__law_pool_6 (P8 c n (some (.str abc)) (some (.str x)) (some (.int at')) x5 x6 x7) S = .ok (.next (P8 c n (some (.str abc)) (some (.str x)) (some (.int at')) (some (.int tn)) x6 x7)) S := by
  obtain ⟨k, hk⟩ := atI_pos (xs := x) h0 h1
  obtain ⟨k0, k1⟩ := atI_all (P := fun c => 97 ≤ c ∧ c ≤ 122) hx.2.2 hk
  have hi := idx_abc (k - 97) (by omega)
  rw [show 97 + (k - 97) = k by omega] at hi
  have hsi : sidxF (.val (.str abc)) [.val (.str [k])] S = .ok (.val (.int ((k - 97 : Nat) : Int))) S := by
    show (match strIdx abc [k] with | some i => R.ok (Er.val (.int (i : Nat))) S | none => .no) = _
    rw [hi]
  refine ⟨((k - 97 : Nat) : Int) + 1 + n / 8 % 25, ?_⟩
  unfold F__law_pool_6
  simp? [ix_str (S := S) (fits (show x.length ≤ 1000000 by have := hx.2.1; omega)) hk, show isStrE (.val (.str abc)) S = true from rfl, hsi, div_lit (show (0 : Int) < 8 by decide) (show (8 : Int) < 1073741824 by decide), mod_lit (show (0 : Int) < 25 by decide)]
theorem po7 (hx : Nm x) (h0 : 0 ≤ at') (h1 : at' < x.length) : ∃ y, Nm y ∧ F__law_pool_7 (P8 c n (some (.str abc)) (some (.str x)) (some (.int at')) (some (.int tn)) x6 x7) S = .ok (.next (P8 c n (some (.str abc)) (some (.str x)) (some (.int at')) (some (.int tn)) (some (.str y)) x7)) S := by
  obtain ⟨k, hk⟩ := atI_pos (xs := abc) (i := tn % 26) (Int.emod_nonneg _ (by decide)) (by have := Int.emod_lt_of_pos tn (show (0 : Int) < 26 by decide); show tn % 26 < 26; exact this)
  have hkl := atI_all (P := fun k => 97 ≤ k ∧ k ≤ 122) (by decide) hk
  have c1 : cutL x none (some at') = x.take at'.toNat := cutL_to _ _ h0
  have c2 : cutL x (some (at' + 1)) none = x.drop (at'.toNat + 1) := by
    unfold cutL
    have z1 : HT.sIx x.length 0 (some (at' + 1)) = at'.toNat + 1 := by
      unfold HT.sIx
      simp only
      split <;> omega
    have z2 : HT.sIx x.length x.length none = x.length := rfl
    rw [z1, z2]
    rw [List.take_of_length_le (by rw [List.length_drop]; omega)]
  have hlen := hx.2.1
  refine ⟨x.take at'.toNat ++ [k] ++ x.drop (at'.toNat + 1), ⟨?_, ?_, ?_⟩, ?_⟩
  · simp only [List.length_append, List.length_singleton]; omega
  · simp only [List.length_append, List.length_singleton, List.length_take, List.length_drop]; omega
  · intro z hz
    rw [List.mem_append, List.mem_append, List.mem_singleton] at hz
    rcases hz with (hz | rfl) | hz
    · exact hx.2.2 z (List.mem_of_mem_take hz)
    · exact hkl
    · exact hx.2.2 z (List.mem_of_mem_drop hz)
  · unfold F__law_pool_7
    simp? [cut_str (S := S) (fits (show x.length ≤ 1000000 by omega)), c1, mod_lit (show (0 : Int) < 26 by decide), ix_str (show abc.length ≤ sizeLine by rw [sizeLine_eq]; decide) hk, c2]
    rw [add_str (x := x.take at'.toNat) (y := [k]) (fits (by rw [List.length_singleton, List.length_take]; omega)), bok]
    simp? [cut_str (S := S) (fits (show x.length ≤ 1000000 by omega)), c2]
    rw [add_str (fits (by simp only [List.length_append, List.length_singleton, List.length_take, List.length_drop]; omega)), bok]
    rfl
theorem po8 : F__law_pool_8 (P8 c n a b x4 x5 x6 x7) S = .ok (.next (P8 c (n / 200) a b x4 x5 x6 x7)) S := by
  unfold F__law_pool_8
  simp? [div_lit (show (0 : Int) < 200 by decide) (show (200 : Int) < 1073741824 by decide)]
theorem po9 : ∃ g, (1 ≤ g ∧ g ≤ 10 ^ 30 - 3) ∧ F__law_pool_9 (P8 c n a b x4 x5 x6 x7) S = .ok (.next (P8 c n a b x4 x5 x6 (some (.int g)))) S := by
  have h0 : 0 ≤ n % 10 ^ 30 := Int.emod_nonneg _ (by decide)
  have h1 : n % 10 ^ 30 < 10 ^ 30 := Int.emod_lt_of_pos _ (by decide)
  have h2 : 0 ≤ (n % 10 ^ 30 * 48271 + 11) ^ (4 : Int).toNat % (10 ^ 30 - 3) := Int.emod_nonneg _ (by decide)
  have h3 : (n % 10 ^ 30 * 48271 + 11) ^ (4 : Int).toNat % (10 ^ 30 - 3) < 10 ^ 30 - 3 := Int.emod_lt_of_pos _ (by decide)
  have h4 : powC (n % 10 ^ 30 * 48271 + 11) 4 := by
    refine ⟨by decide, ?_⟩
    have hb : Builtin.Int.intBits (n % 10 ^ 30 * 48271 + 11) ≤ 200 := by
      unfold Builtin.Int.intBits
      split
      · omega
      · rename_i hn
        have hn' : (n % 10 ^ 30 * 48271 + 11).natAbs ≠ 0 := by omega
        have := (Nat.log2_lt hn').mpr (show (n % 10 ^ 30 * 48271 + 11).natAbs < 2 ^ 199 by omega)
        omega
    omega
  refine ⟨(n % 10 ^ 30 * 48271 + 11) ^ (4 : Int).toNat % (10 ^ 30 - 3) + 1, ⟨by omega, by omega⟩, ?_⟩
  unfold F__law_pool_9
  simp? [pp30, mod_lit (show (0 : Int) < 10 ^ 30 by decide), mul_lit (show -(2 ^ 64) < (48271 : Int) ∧ (48271 : Int) < 2 ^ 64 by decide), pow_lit h4, mod_lit (show (0 : Int) < 10 ^ 30 - 3 by decide)]
theorem po10 {g : Int} (hg : 1 ≤ g ∧ g ≤ 10 ^ 30 - 3) : ∃ g', (1 ≤ g' ∧ g' ≤ 10 ^ 30 - 3) ∧ F__law_pool_10 (P8 c n a b x4 x5 x6 (some (.int g))) S = .ok (.next (P8 c n a b x4 x5 x6 (some (.int g')))) S := by
  have h2 : 0 ≤ n / 2 % (10 ^ 30 - 3) := Int.emod_nonneg _ (by decide)
  have h3 : n / 2 % (10 ^ 30 - 3) < 10 ^ 30 - 3 := Int.emod_lt_of_pos _ (by decide)
  have e : F__law_pool_10 (P8 c n a b x4 x5 x6 (some (.int g))) S = if decide (n % 2 = 1) = true then .ok (.next (P8 c n a b x4 x5 x6 (some (.int (n / 2 % (10 ^ 30 - 3) + 1))))) S else .ok (.next (P8 c n a b x4 x5 x6 (some (.int g)))) S := by
    unfold F__law_pool_10
    simp? [mod_lit (show (0 : Int) < 2 by decide), div_lit (show (0 : Int) < 2 by decide) (show (2 : Int) < 1073741824 by decide), pp30, mod_lit (show (0 : Int) < 10 ^ 30 - 3 by decide)]
  cases hb : decide (n % 2 = 1) with
  | true => exact ⟨n / 2 % (10 ^ 30 - 3) + 1, ⟨by omega, by omega⟩, by rw [e, hb, if_pos rfl]⟩
  | false => exact ⟨g, hg, by rw [e, hb, if_neg Bool.false_ne_true]⟩
theorem lst7 (a b c d e f g : MV) (S : Sto) : lstF [.val a, .val b, .val c, .val d, .val e, .val f, .val g] S = .ok (.new [a, b, c, d, e, f, g]) S := lst_ok (by simp)
theorem po11 {g : Int} {y : List Nat} (hg : 1 ≤ g ∧ g ≤ 10 ^ 30 - 3) (hx : Nm x) (hy : Nm y) : ∃ vs, vs.length = 7 ∧ (∀ d ∈ vs, Vl d) ∧ F__law_pool_11 (P8 c n a (some (.str x)) x4 x5 (some (.str y)) (some (.int g))) S = .ok (.ret (.new vs)) S := by
  have h0 : 0 ≤ n / 64 % 5 := Int.emod_nonneg _ (by decide)
  have h1 : n / 64 % 5 < 5 := Int.emod_lt_of_pos _ (by decide)
  have h2 : 0 ≤ n / 320 % 5 := Int.emod_nonneg _ (by decide)
  have h3 : n / 320 % 5 < 5 := Int.emod_lt_of_pos _ (by decide)
  refine ⟨[.int (n / 64 % 5), .int g, .str x, .int (0 - g), .str y, .int (n / 320 % 5 + 7), .int (g + 1)], rfl, ?_, ?_⟩
  · intro d hd
    simp only [List.mem_cons, List.not_mem_nil, or_false] at hd
    rcases hd with rfl | rfl | rfl | rfl | rfl | rfl | rfl
    · exact ⟨by omega, by omega⟩
    · exact ⟨by omega, by omega⟩
    · exact hx
    · exact ⟨by omega, by omega⟩
    · exact hy
    · exact ⟨by omega, by omega⟩
    · exact ⟨by omega, by omega⟩
  · unfold F__law_pool_11
    simp? [div_lit (show (0 : Int) < 64 by decide) (show (64 : Int) < 1073741824 by decide), mod_lit (show (0 : Int) < 5 by decide), div_lit (show (0 : Int) < 320 by decide) (show (320 : Int) < 1073741824 by decide), lst7]
end
theorem pool_ok (c : Int) (S : Sto) : ∃ vs, vs.length = 7 ∧ (∀ d ∈ vs, Vl d) ∧ callF 1 f__law_pool [.val (.int c)] S = .ok (.new vs) S := by
  obtain ⟨n, hn⟩ := mix_ok c 2147483587 ⟨by decide, by decide⟩ S
  obtain ⟨x, hx, nx⟩ := name_ok n S
  have hc : callF 1 f__law_name [.val (.int n)] S = .ok (.val (.str x)) S := call_pure rfl hx (lo_str _ x) (fun l => by simp)
  have hs : startR ["_law_cell", "_law_number", "_law_letters", "_law_name_here", "_law_at", "_law_turned", "_law_other", "_law_great"] [.int c] = [some (.int c), none, none, none, none, none, none, none] := rfl
  have e1 : F__law_pool_1 [some (.int c), none, none, none, none, none, none, none] S = .ok (.next (P8 c n none none none none none none)) S := by
    unfold F__law_pool_1
    simp? [hn]
  have e2 : F__law_pool_2 (P8 c n none none none none none none) S = .ok (.next (P8 c n (some (.str abc)) none none none none none)) S := rfl
  have e3 : F__law_pool_3 (P8 c n (some (.str abc)) none none none none none) S = .ok (.next (P8 c n (some (.str abc)) (some (.str x)) none none none none)) S := by
    unfold F__law_pool_3
    simp? [hc]
  have hp : 0 < x.length := by have := nx.1; omega
  have hm0 : 0 ≤ n / 1670616516608 % (x.length : Int) := Int.emod_nonneg _ (by omega)
  have hm1 : n / 1670616516608 % (x.length : Int) < x.length := Int.emod_lt_of_pos _ (by omega)
  obtain ⟨tn, e6⟩ := po6 (c := c) (n := n / 1670616516608) (x5 := none) (x6 := none) (x7 := none) (S := S) nx hm0 hm1
  obtain ⟨y, ny, e7⟩ := po7 (c := c) (n := n / 1670616516608) (tn := tn) (x6 := none) (x7 := none) (S := S) nx hm0 hm1
  obtain ⟨g, hg, e9⟩ := po9 (c := c) (n := n / 1670616516608 / 200) (a := some (.str abc)) (b := some (.str x)) (x4 := some (.int (n / 1670616516608 % (x.length : Int)))) (x5 := some (.int tn)) (x6 := some (.str y)) (x7 := none) (S := S)
  obtain ⟨g', hg', e10⟩ := po10 (c := c) (n := n / 1670616516608 / 200) (a := some (.str abc)) (b := some (.str x)) (x4 := some (.int (n / 1670616516608 % (x.length : Int)))) (x5 := some (.int tn)) (x6 := some (.str y)) (S := S) hg
  obtain ⟨vs, hl, hv, e11⟩ := po11 (c := c) (n := n / 1670616516608 / 200) (a := some (.str abc)) (x4 := some (.int (n / 1670616516608 % (x.length : Int)))) (x5 := some (.int tn)) (S := S) hg' nx ny
  refine ⟨vs, hl, hv, call_new (T := []) rfl ?_ (loL_of fun d hd => (hv d hd).lo _)⟩
  rw [List.append_nil]
  show f__law_pool [.int c] S = _
  unfold f__law_pool F__law_pool
  rw [hs, seq_next e1, seq_next e2, seq_next e3, seq_next po4, seq_next (po5 nx), seq_next e6, seq_next e7, seq_next po8, seq_next e9, seq_next e10, e11]
  rfl
theorem app_loc {S : Sto} {l : Nat} {ds : List MV} {d : MV} (hS : S[l]? = some (.lst ds)) (hz : ds.length < 1000000) : appF (.val (.loc l)) [.val d] S = .ok (.val .non) (S.set l (.lst (ds ++ [d]))) := by
  show updL (.val (.loc l)) S (fun ds => if ds.length < sizeLine then some (ds ++ [d]) else none) = _
  unfold updL
  dsimp only
  rw [hS]
  dsimp only
  rw [if_pos (Nat.lt_of_lt_of_le hz (fits (Nat.le_refl _)))]
theorem isl_loc {S : Sto} {l : Nat} {ds : List MV} (hS : S[l]? = some (.lst ds)) : isLst (.val (.loc l)) S = true := by
  unfold isLst
  rw [lsOf_loc hS]; rfl
theorem get_set {S : Sto} {l : Nat} {o o' : MO} (h : S[l]? = some o) : (S.set l o')[l]? = some o' := List.getElem?_set_self (List.getElem?_eq_some_iff.mp h).1
theorem len_tup (ds : List MV) (S : Sto) : lenF [.val (.tup ds)] S = .ok (.val (.int ds.length)) S := rfl
theorem isi_ii (i : Int) (S : Sto) : isiF [.val (.int i), .val (.typ "int")] S = .ok (.val (.bl true)) S := rfl
theorem isi_ib (i : Int) (S : Sto) : isiF [.val (.int i), .val (.typ "bool")] S = .ok (.val (.bl false)) S := rfl
theorem bl_call {n : Nat} {F : List MV → Sto → R Er} {rs : List Er} {S : Sto} {b : Bool} (hn : rs.length = n) (hF : F (enterA rs S).1 (enterA rs S).2 = .ok (.val (.bl b)) S) : callF n F rs S = .ok (.val (.bl b)) S := call_pure hn hF (lo_bl _ _) (fun l => by simp)
theorem all_true : ∀ {n : Nat} {S : Sto}, allF [.new (List.replicate n (.bl true))] S = .ok (.val (.bl true)) S := by
  intro n S
  have h : ∀ n : Nat, blsOf (List.replicate n (.bl true)) = some (List.replicate n true) := by
    intro n
    induction n with
    | zero => rfl
    | succ n ih => rw [List.replicate_succ, List.replicate_succ]; unfold blsOf; rw [ih]; rfl
  show (match (some (List.replicate n (MV.bl true))).bind blsOf with | some bs => R.ok (Er.val (.bl (bs.all id))) S | none => .no) = _
  rw [show (some (List.replicate n (MV.bl true))).bind blsOf = some (List.replicate n true) from h n]
  show R.ok (Er.val (.bl ((List.replicate n true).all id))) S = _
  rw [show (List.replicate n true).all id = true by simp]
theorem map_true {ds : List MV} : ds.map (fun _ => MV.bl true) = List.replicate ds.length (.bl true) := by
  induction ds with
  | nil => rfl
  | cons d ds ih => rw [List.map_cons, List.length_cons, List.replicate_succ, ih]
mutual
def pd : MV → Bool
  | .int _ => true
  | .str _ => true
  | .tup ds => pdL ds
  | _ => false
def pdL : List MV → Bool
  | [] => true
  | d :: ds => pd d && pdL ds
end
mutual
def dpt : MV → Nat
  | .tup ds => dptL ds + 1
  | _ => 0
def dptL : List MV → Nat
  | [] => 0
  | d :: ds => max (dpt d) (dptL ds)
end
theorem pd_tup (ds : List MV) : pd (.tup ds) = pdL ds := by rw [pd]
theorem pdL_nil : pdL [] = true := by rw [pdL]
theorem pdL_cons (d : MV) (ds : List MV) : pdL (d :: ds) = (pd d && pdL ds) := by rw [pdL]
theorem dpt_tup (ds : List MV) : dpt (.tup ds) = dptL ds + 1 := by rw [dpt]
theorem dptL_cons (d : MV) (ds : List MV) : dptL (d :: ds) = max (dpt d) (dptL ds) := by rw [dptL]
theorem dptL_nil : dptL [] = 0 := by rw [dptL]
theorem pd_int (i : Int) : pd (.int i) = true := by rw [pd]
theorem pd_str (i : List Nat) : pd (.str i) = true := by rw [pd]
theorem dpt_int (i : Int) : dpt (.int i) = 0 := by simp [dpt]
theorem dpt_str (i : List Nat) : dpt (.str i) = 0 := by simp [dpt]
theorem pdL_all : ∀ {ds : List MV}, (∀ d ∈ ds, pd d = true) → pdL ds = true
  | [], _ => pdL_nil
  | d :: ds, h => by rw [pdL_cons, h d List.mem_cons_self, pdL_all fun e he => h e (List.mem_cons_of_mem _ he)]; rfl
theorem pdL_mem : ∀ {ds : List MV}, pdL ds = true → ∀ d ∈ ds, pd d = true
  | [], _, d, h => by simp at h
  | e :: ds, hp, d, h => by
    rw [pdL_cons, Bool.and_eq_true] at hp
    rcases List.mem_cons.mp h with rfl | h
    · exact hp.1
    · exact pdL_mem hp.2 d h
theorem dptL_le : ∀ {ds : List MV} {n : Nat}, (∀ d ∈ ds, dpt d ≤ n) → dptL ds ≤ n
  | [], n, _ => by rw [dptL_nil]; exact Nat.zero_le _
  | d :: ds, n, h => by
    rw [dptL_cons]
    have h1 := h d List.mem_cons_self
    have h2 := dptL_le fun e he => h e (List.mem_cons_of_mem _ he)
    omega
theorem dptL_mem : ∀ {ds : List MV}, ∀ d ∈ ds, dpt d ≤ dptL ds
  | [], d, h => by simp at h
  | e :: ds, d, h => by
    rw [dptL_cons]
    rcases List.mem_cons.mp h with rfl | h
    · exact Nat.le_max_left _ _
    · exact Nat.le_trans (dptL_mem d h) (Nat.le_max_right _ _)
theorem pd_cases {d : MV} (h : pd d = true) : (∃ i, d = .int i) ∨ (∃ x, d = .str x) ∨ ∃ ds, d = .tup ds ∧ pdL ds = true := by
  cases d with
  | int i => exact .inl ⟨i, rfl⟩
  | str x => exact .inr (.inl ⟨x, rfl⟩)
  | tup ds => exact .inr (.inr ⟨ds, rfl, by rw [← pd_tup]; exact h⟩)
  | _ => rw [pd] at h <;> first | cases h | (intros; simp)
theorem dec_is {p : Prop} [Decidable p] {q : Prop} [Decidable q] (h : p ↔ q) : decide p = decide q := by
  by_cases hq : q
  · rw [decide_eq_true hq, decide_eq_true (h.mpr hq)]
  · rw [decide_eq_false hq, decide_eq_false fun z => hq (h.mp z)]
theorem prs_pure {e : MV → MV → Option Bool} : ∀ {ds es : List MV}, (∀ d ∈ ds, ∀ f ∈ es, e d f = some (decide (d = f))) → ∃ bs, prs e ds es = some bs ∧ (bs.all id && ds.length == es.length) = decide (ds = es)
  | [], [], _ => ⟨[], rfl, by simp⟩
  | [], _ :: _, _ => ⟨[], rfl, by simp⟩
  | _ :: _, [], _ => ⟨[], rfl, by simp⟩
  | d :: ds, f :: es, h => by
    obtain ⟨bs, h1, h2⟩ := prs_pure (e := e) (ds := ds) (es := es) fun a ha b hb => h a (List.mem_cons_of_mem _ ha) b (List.mem_cons_of_mem _ hb)
    refine ⟨decide (d = f) :: bs, ?_, ?_⟩
    · unfold prs
      rw [h d List.mem_cons_self f List.mem_cons_self, h1]
      rfl
    · by_cases hd : d = f
      · subst hd
        rw [List.all_cons, decide_eq_true rfl]
        simp only [id, Bool.true_and, List.length_cons]
        rw [show (ds.length + 1 == es.length + 1) = (ds.length == es.length) by simp, h2]
        exact dec_is (by simp)
      · rw [List.all_cons, decide_eq_false hd]
        rw [decide_eq_false (show ¬ (d :: ds = f :: es) from fun z => hd (List.cons.inj z).1)]
        rfl
theorem eqv_pure {S : Sto} : ∀ (n : Nat) {d e : MV}, pd d = true → pd e = true → dpt d < n → eqv S n d e = some (decide (d = e))
  | 0, d, e, _, _, h => by omega
  | n + 1, d, e, hd, he, h => by
    rcases pd_cases hd with ⟨i, rfl⟩ | ⟨x, rfl⟩ | ⟨ds, rfl, pds⟩ <;> rcases pd_cases he with ⟨j, rfl⟩ | ⟨y, rfl⟩ | ⟨es, rfl, pes⟩
    · rw [eqv_int]; exact congrArg some (dec_is (by simp))
    · rw [eqv_is, decide_eq_false (by simp)]
    · rw [decide_eq_false (by simp)]; rfl
    · rw [eqv_si, decide_eq_false (by simp)]
    · rw [eqv_str]; exact congrArg some (dec_is (by simp))
    · rw [decide_eq_false (by simp)]; rfl
    · rw [decide_eq_false (by simp)]; rfl
    · rw [decide_eq_false (by simp)]; rfl
    · rw [dpt_tup] at h
      obtain ⟨bs, h1, h2⟩ := prs_pure (e := eqv S n) (ds := ds) (es := es) fun a ha b hb => eqv_pure n (pdL_mem pds a ha) (pdL_mem pes b hb) (by have := dptL_mem a ha; omega)
      show ((prs (eqv S n) ds es).map fun bs => bs.all id && ds.length == es.length) = _
      rw [h1]
      show some (bs.all id && ds.length == es.length) = _
      rw [h2]
      exact congrArg some (dec_is (by simp))
theorem ans_pure {S : Sto} {d : MV} (hd : pd d = true) : ∀ {ys : List MV}, (∀ y ∈ ys, pd y = true ∧ dpt y < 40) → ansL S depthE d ys = some (ys.map fun y => decide (y = d))
  | [], _ => rfl
  | y :: ys, h => by
    have h1 := h y List.mem_cons_self
    unfold ansL
    rw [eqv_pure depthE h1.1 hd (by unfold depthE; exact h1.2), ans_pure hd fun z hz => h z (List.mem_cons_of_mem _ hz)]
    rfl
theorem notin_pure {S : Sto} {l : Nat} {d : MV} {ys : List MV} (hS : S[l]? = some (.lst ys)) (hd : pd d = true) (hs : ∀ x, d ≠ .str x) (h : ∀ y ∈ ys, pd y = true ∧ dpt y < 40) : inF true (.val d) (.val (.loc l)) S = .ok (.val (.bl (!decide (d ∈ ys)))) S := by
  have e1 : itemsOf S (.val (.loc l)) = some ys := by unfold itemsOf; exact lsOf_loc hS
  have e2 : inSeqF true (.val d) (.val (.loc l)) S = .ok (.val (.bl (!decide (d ∈ ys)))) S := by
    unfold inSeqF
    dsimp only
    rw [e1]
    dsimp only
    rw [ans_pure hd h]
    dsimp only
    rw [if_pos rfl]
    congr 4
    rw [List.any_map]
    by_cases hm : d ∈ ys
    · rw [decide_eq_true hm, List.any_eq_true]
      exact ⟨d, hm, by simp⟩
    · rw [decide_eq_false hm]
      rw [List.any_eq_false]
      intro y hy
      simp only [Function.comp, id, decide_eq_true_eq]
      rintro rfl
      exact hm hy
  cases d with
  | str x => exact absurd rfl (hs x)
  | _ => exact e2
theorem isN_int (i : Int) (S : Sto) : isNF (.val (.int i)) (.val .non) S = .ok (.val (.bl false)) S := rfl
theorem isN_str (i : List Nat) (S : Sto) : isNF (.val (.str i)) (.val .non) S = .ok (.val (.bl false)) S := rfl
theorem isN_tup' (i : List MV) (S : Sto) : isNF (.val (.tup i)) (.val .non) S = .ok (.val (.bl false)) S := rfl
theorem isi_ts (i : List MV) (S : Sto) : isiF [.val (.tup i), .val (.typ "str")] S = .ok (.val (.bl false)) S := rfl
theorem isi_ti (i : List MV) (S : Sto) : isiF [.val (.tup i), .val (.typ "int")] S = .ok (.val (.bl false)) S := rfl
theorem isi_tl (i : List MV) (S : Sto) : isiF [.val (.tup i), .val (.typ "list")] S = .ok (.val (.bl false)) S := rfl
theorem pairs_self (ds : List MV) : pairs ds ds = ds.map fun d => .tup [d, d] := by
  induction ds with
  | nil => rfl
  | cons d ds ih => show MV.tup [d, d] :: pairs ds ds = _; rw [ih]; rfl
mutual
def sm : MV → Bool
  | .tup ds => decide (ds.length < 1000) && smL ds
  | _ => true
def smL : List MV → Bool
  | [] => true
  | d :: ds => sm d && smL ds
end
theorem sm_tup (ds : List MV) : sm (.tup ds) = (decide (ds.length < 1000) && smL ds) := by rw [sm]
theorem smL_cons (d : MV) (ds : List MV) : smL (d :: ds) = (sm d && smL ds) := by rw [smL]
theorem smL_mem : ∀ {ds : List MV}, smL ds = true → ∀ d ∈ ds, sm d = true
  | [], _, d, h => by simp at h
  | e :: ds, hp, d, h => by
    rw [smL_cons, Bool.and_eq_true] at hp
    rcases List.mem_cons.mp h with rfl | h
    · exact hp.1
    · exact smL_mem hp.2 d h
theorem smL_all : ∀ {ds : List MV}, (∀ d ∈ ds, sm d = true) → smL ds = true
  | [], _ => by rw [smL]
  | d :: ds, h => by rw [smL_cons, h d List.mem_cons_self, smL_all fun e he => h e (List.mem_cons_of_mem _ he)]; rfl
theorem alike_ok : ∀ (n : Nat) {d : MV} (S : Sto), pd d = true → sm d = true → dpt d < n → callF 2 (f__law_alike n) [.val d, .val d] S = .ok (.val (.bl true)) S
  | 0, d, S, _, _, h => by omega
  | n + 1, d, S, hp, hsm, h => bl_call rfl (by
    show finF (F__law_alike (f__law_alike n) [some d, some d] S) = _
    unfold F__law_alike
    rcases pd_cases hp with ⟨i, rfl⟩ | ⟨x, rfl⟩ | ⟨ds, rfl, pds⟩
    · rw [seq_next (show F__law_alike_1 (f__law_alike n) [some (.int i), some (.int i)] S = .ok (.next [some (.int i), some (.int i)]) S by unfold F__law_alike_1; simp? [isN_int]; rfl)]
      rw [seq_next (show F__law_alike_2 (f__law_alike n) [some (.int i), some (.int i)] S = .ok (.next [some (.int i), some (.int i)]) S by unfold F__law_alike_2; simp? [bok]; rfl)]
      rw [seq_ret (show F__law_alike_3 (f__law_alike n) [some (.int i), some (.int i)] S = .ok (.ret (.val (.bl true))) S by unfold F__law_alike_3; simp? [isi_ii, isi_ib, andF]; first | rfl | simp [bok])]
      rfl
    · rw [seq_next (show F__law_alike_1 (f__law_alike n) [some (.str x), some (.str x)] S = .ok (.next [some (.str x), some (.str x)]) S by unfold F__law_alike_1; simp? [isN_str]; rfl)]
      rw [seq_ret (show F__law_alike_2 (f__law_alike n) [some (.str x), some (.str x)] S = .ok (.ret (.val (.bl true))) S by unfold F__law_alike_2; simp? [andF, eq_str]; first | rfl | simp [bok])]
      rfl
    · rw [dpt_tup] at h
      rw [sm_tup, Bool.and_eq_true, decide_eq_true_eq] at hsm
      have hlen : ds.length < 1000000 := by omega
      have hc : compF (gTp 2 (gsCons (gNm 0) (gsCons (gNm 1) gsNil))) (C__law_alike_1_c (f__law_alike n)) (C__law_alike_1_e (f__law_alike n)) [none, none] [] (pairs ds ds) S = .ok ((pairs ds ds).map fun _ => .bl true) S := comp_map (stay0 S) fun e he => by
        rw [pairs_self] at he
        obtain ⟨x, hx, rfl⟩ := List.mem_map.mp he
        refine ⟨[some x, some x], rfl, rfl, ?_⟩
        unfold C__law_alike_1_e
        simp? [alike_ok n S (pdL_mem pds x hx) (smL_mem hsm.2 x hx) (by have := dptL_mem x hx; omega)]
      rw [seq_next (show F__law_alike_1 (f__law_alike n) [some (.tup ds), some (.tup ds)] S = .ok (.next [some (.tup ds), some (.tup ds)]) S by unfold F__law_alike_1; simp? [isN_tup']; rfl)]
      rw [seq_next (show F__law_alike_2 (f__law_alike n) [some (.tup ds), some (.tup ds)] S = .ok (.next [some (.tup ds), some (.tup ds)]) S by unfold F__law_alike_2; simp? [isi_ts]; rfl)]
      rw [seq_next (show F__law_alike_3 (f__law_alike n) [some (.tup ds), some (.tup ds)] S = .ok (.next [some (.tup ds), some (.tup ds)]) S by unfold F__law_alike_3; simp? [isi_ti]; rfl)]
      rw [seq_next (show F__law_alike_4 (f__law_alike n) [some (.tup ds), some (.tup ds)] S = .ok (.next [some (.tup ds), some (.tup ds)]) S by unfold F__law_alike_4; simp? [isi_tl]; rfl)]
      rw [seq_next (show F__law_alike_5 (f__law_alike n) [some (.tup ds), some (.tup ds)] S = .ok (.next [some (.tup ds), some (.tup ds)]) S by unfold F__law_alike_5; simp? [bok]; rfl)]
      unfold F__law_alike_6
      simp? [len_tup, andF, show itZ [.val (.tup ds), .val (.tup ds)] S = .ok ⟨pairs ds ds, []⟩ S from rfl]
      rw [if_pos (show (pairs ds ds).length < 1000000 by rw [pairs_self, List.length_map]; exact hlen)]
      rw [show blk 2 [] [some (.tup ds), some (.tup ds)] = [none, none] from rfl, hc, map_true]
      simp [bok, all_true]
      rfl)
def rk : MV → MV
  | .str x => .tup [.int 1, .int 0, .str x]
  | d => .tup [.int 0, d, .str []]
def bef : MV → MV → Bool
  | .int i, .int j => decide (i < j)
  | .str x, .str y => decide (x < y)
  | .int _, .str _ => true
  | _, _ => false
def same : MV → MV → Bool
  | .int i, .int j => decide (i = j)
  | .str x, .str y => decide (x = y)
  | _, _ => false
def rows : List MV → List MV → Bool
  | d :: ds, e :: es => if same d e = true then rows ds es else bef d e
  | _, _ => false
theorem rk_lo {d : MV} (h : Vl d) (n : Nat) : lo n (rk d) := by
  rcases h.cases with ⟨i, rfl, _⟩ | ⟨x, rfl, _⟩
  · exact lo_tup (loL_of (by intro e he; simp at he; rcases he with rfl | rfl | rfl <;> first | exact lo_int _ _ | exact lo_str _ _))
  · exact lo_tup (loL_of (by intro e he; simp at he; rcases he with rfl | rfl | rfl <;> first | exact lo_int _ _ | exact lo_str _ _))
theorem rk_noloc (d : MV) (l : Nat) : rk d ≠ .loc l := by cases d <;> (intro h; cases h)
theorem f_rank {d : MV} (h : Vl d) (S : Sto) : f_value_rank [d] S = .ok (.val (rk d)) S := by
  have hs : startR ["value"] [d] = [some d] := rfl
  rcases h.cases with ⟨i, rfl, _⟩ | ⟨x, rfl, _⟩
  · have e1 : F_value_rank_1 [some (.int i)] S = .ok (.next [some (.int i)]) S := by
      unfold F_value_rank_1
      simp? [bok]
      rfl
    unfold f_value_rank F_value_rank
    rw [hs, seq_next e1]
    unfold F_value_rank_2
    simp? [bok]
    rfl
  · have e1 : F_value_rank_1 [some (.str x)] S = .ok (.ret (.val (rk (.str x)))) S := by
      unfold F_value_rank_1
      simp? [bok]
      rfl
    unfold f_value_rank F_value_rank
    rw [hs, seq_ret e1]
    rfl
theorem c_rank {d : MV} (h : Vl d) (S : Sto) : callF 1 f_value_rank [.val d] S = .ok (.val (rk d)) S := call_pure rfl (f_rank h S) (rk_lo h _) (rk_noloc d)
theorem f_trank {ds : List MV} (h : ∀ d ∈ ds, Vl d) (hl : ds.length < 1000000) (S : Sto) : f_tuple_rank [.tup ds] S = .ok (.val (.tup (ds.map rk))) S := by
  have hs : startR ["values"] [.tup ds] = [some (.tup ds)] := rfl
  have hc : compF (gNm 0) C_tuple_rank_1_c C_tuple_rank_1_e (blk 1 [] [some (.tup ds)]) [] ds S = .ok (ds.map rk) S := comp_map (stay0 S) fun d hd => by
    refine ⟨[some d], rfl, rfl, ?_⟩
    unfold C_tuple_rank_1_e
    simp? [c_rank (h d hd)]
  have e1 : F_tuple_rank_1 [some (.tup ds)] S = .ok (.ret (.val (.tup (ds.map rk)))) S := by
    unfold F_tuple_rank_1
    simp? [bok]
    show ((((if ds.length < 1000000 then (compF (gNm 0) C_tuple_rank_1_c C_tuple_rank_1_e (blk 1 [] [some (.tup ds)]) [] ds S).bind fun o S => R.ok (Er.new o) S else .no).bind fun p S1 => R.ok [p] S1).bind tupleF).bind fun r S1 => R.ok (Fl.ret r) S1) = _
    rw [if_pos hl, hc]
    rfl
  unfold f_tuple_rank F_tuple_rank
  rw [hs, e1]
  rfl
theorem c_trank {ds : List MV} (h : ∀ d ∈ ds, Vl d) (hl : ds.length < 1000000) (S : Sto) : callF 1 f_tuple_rank [.val (.tup ds)] S = .ok (.val (.tup (ds.map rk))) S := call_pure rfl (f_trank h hl S) (lo_tup (loL_of fun e he => by
  obtain ⟨d, hd, rfl⟩ := List.mem_map.mp he
  exact rk_lo (h d hd) _)) (fun l => by simp)
theorem lex3 (e l : MV → MV → Option Bool) {a b c a' b' c' : MV} {x y z : Bool} (h1 : e a a' = some x) (h2 : e b b' = some y) (h3 : e c c' = some z) :
    lexv e l [a, b, c] [a', b', c'] = if x = true then (if y = true then (if z = true then some false else l c c') else l b b') else l a a' := by
  unfold lexv
  rw [h1]
  show (if x = true then lexv e l [b, c] [b', c'] else l a a') = _
  unfold lexv
  rw [h2]
  show (if x = true then (if y = true then lexv e l [c] [c'] else l b b') else l a a') = _
  unfold lexv
  rw [h3]
  rfl
theorem rk_lt {S : Sto} {d e : MV} (hd : Vl d) (he : Vl e) (n : Nat) : ltv S (n + 2) (rk d) (rk e) = some (bef d e) := by
  rcases hd.cases with ⟨i, rfl, _⟩ | ⟨x, rfl, _⟩ <;> rcases he.cases with ⟨j, rfl, _⟩ | ⟨y, rfl, _⟩
  · show lexv (eqv S (n + 1)) (ltv S (n + 1)) [.int 0, .int i, .str []] [.int 0, .int j, .str []] = some (decide (i < j))
    rw [lex3 _ _ (eqv_int n 0 0) (eqv_int n i j) (eqv_str n [] [])]
    by_cases h : i = j
    · subst h; simp
    · rw [if_pos (by decide), if_neg (by simpa using h)]; rfl
  · show lexv (eqv S (n + 1)) (ltv S (n + 1)) [.int 0, .int i, .str []] [.int 1, .int 0, .str y] = some true
    rw [lex3 _ _ (eqv_int n 0 1) (eqv_int n i 0) (eqv_str n [] y)]
    rfl
  · show lexv (eqv S (n + 1)) (ltv S (n + 1)) [.int 1, .int 0, .str x] [.int 0, .int j, .str []] = some false
    rw [lex3 _ _ (eqv_int n 1 0) (eqv_int n 0 j) (eqv_str n x [])]
    rfl
  · show lexv (eqv S (n + 1)) (ltv S (n + 1)) [.int 1, .int 0, .str x] [.int 1, .int 0, .str y] = some (decide (x < y))
    rw [lex3 _ _ (eqv_int n 1 1) (eqv_int n 0 0) (eqv_str n x y)]
    by_cases h : x = y
    · subst h; simp
    · rw [if_pos (by decide), if_pos (by decide), if_neg (by simpa using h)]; rfl
theorem prs3 (e : MV → MV → Option Bool) {a b c a' b' c' : MV} {x y z : Bool} (h1 : e a a' = some x) (h2 : e b b' = some y) (h3 : e c c' = some z) : prs e [a, b, c] [a', b', c'] = some [x, y, z] := by
  unfold prs
  rw [h1]
  unfold prs
  rw [h2]
  unfold prs
  rw [h3]
  rfl
theorem rk_eq {S : Sto} {d e : MV} (hd : Vl d) (he : Vl e) (n : Nat) : eqv S (n + 2) (rk d) (rk e) = some (same d e) := by
  rcases hd.cases with ⟨i, rfl, _⟩ | ⟨x, rfl, _⟩ <;> rcases he.cases with ⟨j, rfl, _⟩ | ⟨y, rfl, _⟩
  · show ((prs (eqv S (n + 1)) [.int 0, .int i, .str []] [.int 0, .int j, .str []]).map fun bs => bs.all id && (3 : Nat) == 3) = some (decide (i = j))
    rw [prs3 _ (eqv_int n 0 0) (eqv_int n i j) (eqv_str n [] [])]
    simp
  · show ((prs (eqv S (n + 1)) [.int 0, .int i, .str []] [.int 1, .int 0, .str y]).map fun bs => bs.all id && (3 : Nat) == 3) = some false
    rw [prs3 _ (eqv_int n 0 1) (eqv_int n i 0) (eqv_str n [] y)]
    simp
  · show ((prs (eqv S (n + 1)) [.int 1, .int 0, .str x] [.int 0, .int j, .str []]).map fun bs => bs.all id && (3 : Nat) == 3) = some false
    rw [prs3 _ (eqv_int n 1 0) (eqv_int n 0 j) (eqv_str n x [])]
    simp
  · show ((prs (eqv S (n + 1)) [.int 1, .int 0, .str x] [.int 1, .int 0, .str y]).map fun bs => bs.all id && (3 : Nat) == 3) = some (decide (x = y))
    rw [prs3 _ (eqv_int n 1 1) (eqv_int n 0 0) (eqv_str n x y)]
    simp
theorem v_eq {S : Sto} {d e : MV} (hd : Vl d) (he : Vl e) (n : Nat) : eqv S (n + 1) d e = some (same d e) := by
  rcases hd.cases with ⟨i, rfl, _⟩ | ⟨x, rfl, _⟩ <;> rcases he.cases with ⟨j, rfl, _⟩ | ⟨y, rfl, _⟩
  · exact eqv_int n i j
  · rfl
  · rfl
  · exact eqv_str n x y
theorem rows_lt {S : Sto} (n : Nat) : ∀ {ds es : List MV}, (∀ d ∈ ds, Vl d) → (∀ e ∈ es, Vl e) → ds.length = es.length → lexv (eqv S (n + 2)) (ltv S (n + 2)) (ds.map rk) (es.map rk) = some (rows ds es)
  | [], [], _, _, _ => rfl
  | [], _ :: _, _, _, h => by simp at h
  | _ :: _, [], _, _, h => by simp at h
  | d :: ds, e :: es, hd, he, h => by
    have ih := rows_lt (S := S) n (ds := ds) (es := es) (fun x hx => hd x (List.mem_cons_of_mem _ hx)) (fun x hx => he x (List.mem_cons_of_mem _ hx)) (by simpa using h)
    rw [List.map_cons, List.map_cons]
    unfold lexv rows
    rw [rk_eq (hd d List.mem_cons_self) (he e List.mem_cons_self)]
    show (if same d e = true then lexv (eqv S (n + 2)) (ltv S (n + 2)) (ds.map rk) (es.map rk) else ltv S (n + 2) (rk d) (rk e)) = _
    rw [ih, rk_lt (hd d List.mem_cons_self) (he e List.mem_cons_self)]
    split <;> rfl
theorem same_self {d : MV} (hd : Vl d) : same d d = true := by
  rcases hd.cases with ⟨i, rfl, _⟩ | ⟨x, rfl, _⟩
  · exact decide_eq_true rfl
  · exact decide_eq_true rfl
theorem rows_self : ∀ {ds : List MV}, (∀ d ∈ ds, Vl d) → rows ds ds = false
  | [], _ => rfl
  | d :: ds, h => by
    unfold rows
    rw [if_pos (same_self (h d List.mem_cons_self))]
    exact rows_self fun x hx => h x (List.mem_cons_of_mem _ hx)
theorem same_iff {d e : MV} (hd : Vl d) (he : Vl e) : same d e = true ↔ d = e := by
  rcases hd.cases with ⟨i, rfl, _⟩ | ⟨x, rfl, _⟩ <;> rcases he.cases with ⟨j, rfl, _⟩ | ⟨y, rfl, _⟩ <;> simp [same]
theorem bef_asymm {d e : MV} (hd : Vl d) (he : Vl e) (h : bef d e = true) : bef e d = false := by
  rcases hd.cases with ⟨i, rfl, _⟩ | ⟨x, rfl, _⟩ <;> rcases he.cases with ⟨j, rfl, _⟩ | ⟨y, rfl, _⟩ <;> simp [bef] at h ⊢
  · omega
  · exact List.le_of_lt h
theorem bef_tri {d e : MV} (hd : Vl d) (he : Vl e) (h : bef d e = false) (h' : bef e d = false) : d = e := by
  rcases hd.cases with ⟨i, rfl, _⟩ | ⟨x, rfl, _⟩ <;> rcases he.cases with ⟨j, rfl, _⟩ | ⟨y, rfl, _⟩ <;> simp [bef] at h h' ⊢
  · omega
  · exact List.le_antisymm h' h
theorem bef_trans {d e f : MV} (hd : Vl d) (he : Vl e) (hf : Vl f) (h : bef d e = true) (h' : bef e f = true) : bef d f = true := by
  rcases hd.cases with ⟨i, rfl, _⟩ | ⟨x, rfl, _⟩ <;> rcases he.cases with ⟨j, rfl, _⟩ | ⟨y, rfl, _⟩ <;> rcases hf.cases with ⟨k, rfl, _⟩ | ⟨z, rfl, _⟩ <;> simp [bef] at h h' ⊢
  · omega
  · exact List.lt_trans h h'
def Tp (w : Nat) (t : List MV) : Prop := t.length = w ∧ ∀ d ∈ t, Vl d
theorem Tp.tl {w : Nat} {d : MV} {t : List MV} (h : Tp (w + 1) (d :: t)) : Tp w t := ⟨by simpa using h.1, fun x hx => h.2 x (List.mem_cons_of_mem _ hx)⟩
theorem Tp.hd {w : Nat} {d : MV} {t : List MV} (h : Tp w (d :: t)) : Vl d := h.2 d List.mem_cons_self
theorem rows_asymm : ∀ {w : Nat} {a b : List MV}, Tp w a → Tp w b → rows a b = true → rows b a = false
  | _, [], [], _, _, h => rfl
  | w, [], _ :: _, ha, hb, h => by have := ha.1; have := hb.1; simp at *; omega
  | w, _ :: _, [], ha, hb, h => by have := ha.1; have := hb.1; simp at *; omega
  | 0, _ :: _, _ :: _, ha, _, _ => by have := ha.1; simp at this
  | w + 1, d :: a, e :: b, ha, hb, h => by
    unfold rows at h ⊢
    by_cases hs : same d e = true
    · rw [if_pos hs] at h
      rw [(same_iff ha.hd hb.hd).mp hs, if_pos (same_self hb.hd)]
      exact rows_asymm ha.tl hb.tl h
    · rw [if_neg hs] at h
      have hs' : ¬ same e d = true := fun z => hs ((same_iff ha.hd hb.hd).mpr ((same_iff hb.hd ha.hd).mp z).symm)
      rw [if_neg hs']
      exact bef_asymm ha.hd hb.hd h
theorem rows_tri : ∀ {w : Nat} {a b : List MV}, Tp w a → Tp w b → rows a b = false → rows b a = false → a = b
  | _, [], [], _, _, _, _ => rfl
  | w, [], _ :: _, ha, hb, _, _ => by have := ha.1; have := hb.1; simp at *; omega
  | w, _ :: _, [], ha, hb, _, _ => by have := ha.1; have := hb.1; simp at *; omega
  | 0, _ :: _, _ :: _, ha, _, _, _ => by have := ha.1; simp at this
  | w + 1, d :: a, e :: b, ha, hb, h, h' => by
    unfold rows at h h'
    by_cases hs : same d e = true
    · have e1 := (same_iff ha.hd hb.hd).mp hs
      rw [if_pos hs] at h
      rw [e1, if_pos (same_self hb.hd)] at h'
      rw [e1, rows_tri ha.tl hb.tl h h']
    · rw [if_neg hs] at h
      have hs' : ¬ same e d = true := fun z => hs ((same_iff ha.hd hb.hd).mpr ((same_iff hb.hd ha.hd).mp z).symm)
      rw [if_neg hs'] at h'
      exact absurd ((same_iff ha.hd hb.hd).mpr (bef_tri ha.hd hb.hd h h')) hs
theorem rows_trans : ∀ {w : Nat} {a b c : List MV}, Tp w a → Tp w b → Tp w c → rows a b = true → rows b c = true → rows a c = true
  | _, [], _, _, _, _, _, h, _ => by simp [rows] at h
  | _, _ :: _, [], _, _, _, _, h, _ => by simp [rows] at h
  | _, _ :: _, _ :: _, [], _, _, _, _, h => by simp [rows] at h
  | 0, _ :: _, _ :: _, _ :: _, ha, _, _, _, _ => by have := ha.1; simp at this
  | w + 1, d :: a, e :: b, f :: c, ha, hb, hc, h, h' => by
    unfold rows at h h' ⊢
    by_cases h1 : same d e = true
    · have e1 := (same_iff ha.hd hb.hd).mp h1
      subst e1
      rw [if_pos h1] at h
      by_cases h2 : same d f = true
      · rw [if_pos h2] at h' ⊢
        exact rows_trans ha.tl hb.tl hc.tl h h'
      · rw [if_neg h2] at h' ⊢
        exact h'
    · rw [if_neg h1] at h
      by_cases h2 : same e f = true
      · have e2 := (same_iff hb.hd hc.hd).mp h2
        subst e2
        rw [if_neg h1]
        exact h
      · rw [if_neg h2] at h'
        have h3 : ¬ same d f = true := fun z => by
          have e3 := (same_iff ha.hd hc.hd).mp z
          subst e3
          rw [bef_asymm ha.hd hb.hd h] at h'
          cases h'
        rw [if_neg h3]
        exact bef_trans ha.hd hb.hd hc.hd h h'
theorem rows_le {w : Nat} {a b c : List MV} (ha : Tp w a) (hb : Tp w b) (hc : Tp w c) (h : rows b a = false) (h' : rows c b = false) : rows c a = false := by
  cases z : rows c a with
  | false => rfl
  | true =>
    cases y : rows a b with
    | false => rw [rows_tri ha hb y h] at z; rw [z] at h'; cases h'
    | true => rw [rows_trans hc ha hb z y] at h'; cases h'
theorem sorted_uniq {α : Type} {le : α → α → Prop} : ∀ {l1 l2 : List α}, l1.Perm l2 → l1.Pairwise le → l2.Pairwise le → (∀ a ∈ l1, ∀ b ∈ l1, le a b → le b a → a = b) → l1 = l2
  | [], l2, p, _, _, _ => p.nil_eq
  | a :: l1, [], p, _, _, _ => by have := p.length_eq; simp at this
  | a :: l1, b :: l2, p, h1, h2, u => by
    have c1 := List.pairwise_cons.mp h1
    have c2 := List.pairwise_cons.mp h2
    have e : a = b := by
      rcases List.mem_cons.mp (p.mem_iff.mp (List.mem_cons_self (a := a) (l := l1))) with e | m2
      · exact e
      · rcases List.mem_cons.mp (p.mem_iff.mpr (List.mem_cons_self (a := b) (l := l2))) with e | m1
        · exact e.symm
        · exact u a List.mem_cons_self b (List.mem_cons_of_mem _ m1) (c1.1 b m1) (c2.1 a m2)
    subst e
    rw [sorted_uniq (p.cons_inv) c1.2 c2.2 fun x hx y hy => u x (List.mem_cons_of_mem _ hx) y (List.mem_cons_of_mem _ hy)]
theorem strict_uniq {w : Nat} {l1 l2 : List (List MV)} (t1 : ∀ t ∈ l1, Tp w t) (t2 : ∀ t ∈ l2, Tp w t) (h1 : l1.Pairwise fun a b => rows a b = true) (h2 : l2.Pairwise fun a b => rows a b = true) (h : ∀ t, t ∈ l1 ↔ t ∈ l2) : l1 = l2 := by
  have nd : ∀ {l : List (List MV)}, (∀ t ∈ l, Tp w t) → l.Pairwise (fun a b => rows a b = true) → l.Nodup := fun t q => by
    refine List.Pairwise.imp_of_mem (fun {a b} ha hb r e => ?_) q
    subst e
    rw [rows_self (t a ha).2] at r; cases r
  refine sorted_uniq ((List.perm_ext_iff_of_nodup (nd t1 h1) (nd t2 h2)).mpr h) h1 h2 fun a ha b hb r r' => ?_
  rw [rows_asymm (t1 a ha) (t1 b hb) r] at r'; cases r'
open Classical in
noncomputable def dd (O : List (List MV)) (t : List MV) : List (List MV) := if O.getLast? = some t then O else O ++ [t]
theorem dd_ok {w : Nat} : ∀ {L O : List (List MV)}, (∀ t ∈ L, Tp w t) → (∀ t ∈ O, Tp w t) → (∀ o ∈ O, ∀ x ∈ L, rows x o = false) → L.Pairwise (fun a b => rows b a = false) → O.Pairwise (fun a b => rows a b = true) →
    (L.foldl dd O).Pairwise (fun a b => rows a b = true) ∧ ∀ t, t ∈ L.foldl dd O ↔ t ∈ O ∨ t ∈ L
  | [], O, _, _, _, _, h => ⟨h, fun t => by simp⟩
  | x :: L, O, tL, tO, hle, hL, hO => by
    have c := List.pairwise_cons.mp hL
    have tx := tL x List.mem_cons_self
    rw [List.foldl_cons]
    by_cases hl : O.getLast? = some x
    · have e : dd O x = O := if_pos hl
      rw [e]
      have mx : x ∈ O := List.mem_of_getLast? hl
      obtain ⟨a, b⟩ := dd_ok (w := w) (L := L) (O := O) (fun t ht => tL t (List.mem_cons_of_mem _ ht)) tO (fun o ho y hy => hle o ho y (List.mem_cons_of_mem _ hy)) c.2 hO
      refine ⟨a, fun t => (b t).trans ⟨fun q => q.imp id (List.mem_cons_of_mem _), fun q => q.elim .inl fun q => ?_⟩⟩
      rcases List.mem_cons.mp q with e | q
      · exact .inl (by rw [e]; exact mx)
      · exact .inr q
    · have e : dd O x = O ++ [x] := if_neg hl
      rw [e]
      have st : ∀ o ∈ O, rows o x = true := by
        intro o ho
        have l1 := hle o ho x List.mem_cons_self
        cases z : rows o x with
        | true => rfl
        | false =>
          have eo := rows_tri (tO o ho) tx z l1
          subst eo
          exfalso
          have ne : O ≠ [] := fun q => by rw [q] at ho; cases ho
          have hlast : O.getLast? = some (O.getLast ne) := List.getLast?_eq_some_getLast ne
          have ml := List.getLast_mem ne
          have l2 := hle _ ml o List.mem_cons_self
          have e2 : O = O.dropLast ++ [O.getLast ne] := (List.dropLast_concat_getLast ne).symm
          rw [e2] at ho hO
          rcases List.mem_append.mp ho with q | q
          · have := (List.pairwise_append.mp hO).2.2 o q (O.getLast ne) (List.mem_singleton.mpr rfl)
            rw [this] at l2; cases l2
          · rw [List.mem_singleton.mp q] at hl
            exact hl hlast
      obtain ⟨a, b⟩ := dd_ok (w := w) (L := L) (O := O ++ [x]) (fun t ht => tL t (List.mem_cons_of_mem _ ht)) (fun t ht => (List.mem_append.mp ht).elim (tO t) fun q => by rw [List.mem_singleton.mp q]; exact tx)
        (fun o ho y hy => (List.mem_append.mp ho).elim (fun q => hle o q y (List.mem_cons_of_mem _ hy)) fun q => by rw [List.mem_singleton.mp q]; exact c.1 y hy) c.2
        (List.pairwise_append.mpr ⟨hO, List.pairwise_singleton _ _, fun o ho y hy => by rw [List.mem_singleton.mp hy]; exact st o ho⟩)
      refine ⟨a, fun t => (b t).trans ⟨fun q => ?_, fun q => ?_⟩⟩
      · rcases q with q | q
        · rcases List.mem_append.mp q with q | q
          · exact .inl q
          · exact .inr (by rw [List.mem_singleton.mp q]; exact List.mem_cons_self)
        · exact .inr (List.mem_cons_of_mem _ q)
      · rcases q with q | q
        · exact .inl (List.mem_append_left _ q)
        · rcases List.mem_cons.mp q with e | q
          · exact .inl (List.mem_append_right _ (by rw [e]; exact List.mem_singleton.mpr rfl))
          · exact .inr q
theorem pureL_all : ∀ {ds : List MV}, (∀ d ∈ ds, pureD d = true) → pureL ds = true
  | [], _ => by unfold pureL; rfl
  | d :: ds, h => by unfold pureL; rw [h d List.mem_cons_self, pureL_all fun x hx => h x (List.mem_cons_of_mem _ hx)]; rfl
theorem rk_pure {d : MV} (h : Vl d) : pureD (rk d) = true := by
  rcases h.cases with ⟨i, rfl, _⟩ | ⟨x, rfl, _⟩ <;> simp [rk, pureD, pureL]
theorem klt {w : Nat} {S : Sto} {a b : List MV} (ha : Tp w a) (hb : Tp w b) : ltv S depthE (.tup (a.map rk)) (.tup (b.map rk)) = some (rows a b) :=
  rows_lt (S := S) 37 ha.2 hb.2 (by rw [ha.1, hb.1])
theorem ex_ins {w : Nat} {t : List MV} (ht : Tp w t) : ∀ {R : List (List MV)}, (∀ x ∈ R, Tp w x) → R.Pairwise (fun a b => rows b a = false) → ∃ R' : List (List MV), R'.Perm (t :: R) ∧ R'.Pairwise (fun a b => rows b a = false)
  | [], _, _ => ⟨[t], .refl _, List.pairwise_singleton _ _⟩
  | a :: l, h, hp => by
    have c := List.pairwise_cons.mp hp
    have ta := h a List.mem_cons_self
    cases z : rows a t with
    | false =>
      refine ⟨t :: a :: l, .refl _, List.pairwise_cons.mpr ⟨fun x hx => ?_, hp⟩⟩
      rcases List.mem_cons.mp hx with e | hx
      · rw [e]; exact z
      · exact rows_le ht ta (h x (List.mem_cons_of_mem _ hx)) z (c.1 x hx)
    | true =>
      obtain ⟨R', p, q⟩ := ex_ins ht (R := l) (fun x hx => h x (List.mem_cons_of_mem _ hx)) c.2
      refine ⟨a :: R', (p.cons a).trans (.swap _ _ _), List.pairwise_cons.mpr ⟨fun x hx => ?_, q⟩⟩
      rcases List.mem_cons.mp (p.mem_iff.mp hx) with e | hx
      · rw [e]; exact rows_asymm ta ht z
      · exact c.1 x hx
theorem ex_sorted {w : Nat} : ∀ {T : List (List MV)}, (∀ x ∈ T, Tp w x) → ∃ R : List (List MV), R.Perm T ∧ R.Pairwise (fun a b => rows b a = false)
  | [], _ => ⟨[], .refl _, .nil⟩
  | t :: T, h => by
    obtain ⟨R, p, q⟩ := ex_sorted (T := T) fun x hx => h x (List.mem_cons_of_mem _ hx)
    obtain ⟨R', p', q'⟩ := ex_ins (h t List.mem_cons_self) (R := R) (fun x hx => h x (List.mem_cons_of_mem _ (p.mem_iff.mp hx))) q
    exact ⟨R', p'.trans (p.cons t), q'⟩
theorem range_pick {β : Type} (T : List β) : (List.range T.length).filterMap (T[·]?) = T := by
  induction T with
  | nil => rfl
  | cons t T ih =>
    rw [List.length_cons, List.range_succ_eq_map, List.filterMap_cons, List.filterMap_map]
    show t :: List.filterMap (fun i => (t :: T)[i + 1]?) (List.range T.length) = _
    simp only [List.getElem?_cons_succ]
    rw [ih]
theorem to_of {w : Nat} {S : Sto} {T : List (List MV)} (hT : ∀ t ∈ T, Tp w t) {r : List MV} (h : SrtTo S (T.map .tup) (T.map fun t => .tup (t.map rk)) r) : ∃ R : List (List MV), R.Perm T ∧ R.Pairwise (fun a b => rows b a = false) ∧ r = R.map .tup := by
  obtain ⟨idx, p, q, rfl⟩ := h
  rw [List.length_map] at p
  refine ⟨idx.filterMap (T[·]?), ?_, ?_, ?_⟩
  · have := p.filterMap (T[·]?)
    rwa [range_pick] at this
  · rw [List.pairwise_filterMap]
    refine q.imp fun {i j} h b hb c hc => ?_
    have h' := h (.tup (b.map rk)) (.tup (c.map rk)) (by rw [List.getElem?_map, hb]; rfl) (by rw [List.getElem?_map, hc]; rfl)
    rw [klt (hT c (List.mem_of_getElem? hc)) (hT b (List.mem_of_getElem? hb))] at h'
    exact Option.some.inj h'
  · rw [List.map_filterMap]
    congr 1
    funext i
    rw [List.getElem?_map]
theorem srt_ok {w : Nat} {T : List (List MV)} (hT : ∀ t ∈ T, Tp w t) (hw : w ≤ 4) (hl : T.length < 128) {p : Er} {S : Sto} (hp : lsOf S p = some (T.map .tup)) :
    ∃ R : List (List MV), R.Perm T ∧ R.Pairwise (fun a b => rows b a = false) ∧ srtF f_tuple_rank [p] S = .ok (.new (R.map .tup)) S := by
  obtain ⟨R, pR, qR⟩ := ex_sorted hT
  refine ⟨R, pR, qR, ?_⟩
  have mem : ∀ k ∈ T.map (fun t => MV.tup (t.map rk)), ∃ t, t ∈ T ∧ k = .tup (t.map rk) := fun k hk => by
    obtain ⟨t, h1, h2⟩ := List.mem_map.mp hk
    exact ⟨t, h1, h2.symm⟩
  have call : ∀ (m : Nat) (t : List MV), T[m]? = some t → callF 1 f_tuple_rank [.val (.tup t)] S = .ok (.val (.tup (t.map rk))) S := fun m t ht => c_trank (hT t (List.mem_of_getElem? ht)).2 (by rw [(hT t (List.mem_of_getElem? ht)).1]; omega) S
  have ok : SrtOk f_tuple_rank S (T.map .tup) (T.map fun t => .tup (t.map rk)) (decide (0 < w)) := by
    refine ⟨by rw [List.length_map]; exact hl, by rw [List.length_map, List.length_map], fun m d kd h1 h2 => ?_, fun d hd => ?_, fun d hd => ?_, ⟨fun a ha b hb => ?_, fun a ha b hb c hc h1 h2 => ?_, fun a ha b hb h1 => ?_⟩⟩
    · rw [List.getElem?_map] at h1 h2
      cases z : T[m]? with
      | none => rw [z] at h1; cases h1
      | some t => rw [z] at h1 h2; cases h1; cases h2; exact call m t z
    · obtain ⟨t, ht, rfl⟩ := mem d hd
      unfold pureD
      exact pureL_all fun x hx => by obtain ⟨y, hy, rfl⟩ := List.mem_map.mp hx; exact rk_pure ((hT t ht).2 y hy)
    · obtain ⟨t, ht, rfl⟩ := mem d hd
      have tt := hT t ht
      match t, w, tt with
      | [], 0, _ => exact .e
      | [], w + 1, tt => have := tt.1; simp at this
      | _ :: _, 0, tt => have := tt.1; simp at this
      | x :: t, w + 1, tt =>
        rw [decide_eq_true (by omega), List.map_cons]
        rcases tt.hd.cases with ⟨i, rfl, _⟩ | ⟨y, rfl, _⟩
        · exact .t _ _
        · exact .t _ _
    · obtain ⟨t, ht, rfl⟩ := mem a ha
      obtain ⟨u, hu, rfl⟩ := mem b hb
      exact ⟨_, klt (hT t ht) (hT u hu)⟩
    · obtain ⟨t, ht, rfl⟩ := mem a ha
      obtain ⟨u, hu, rfl⟩ := mem b hb
      obtain ⟨v, hv, rfl⟩ := mem c hc
      rw [klt (hT u hu) (hT t ht)] at h1
      rw [klt (hT v hv) (hT u hu)] at h2
      rw [klt (hT v hv) (hT t ht), rows_le (hT t ht) (hT u hu) (hT v hv) (Option.some.inj h1) (Option.some.inj h2)]
    · obtain ⟨t, ht, rfl⟩ := mem a ha
      obtain ⟨u, hu, rfl⟩ := mem b hb
      rw [klt (hT t ht) (hT u hu)] at h1
      rw [klt (hT u hu) (hT t ht), rows_asymm (hT t ht) (hT u hu) (Option.some.inj h1)]
  refine srt_eq hp ok (fun r' h => ?_) ?_ (fun kds' b' ok' => ?_)
  · obtain ⟨R', p', q', rfl⟩ := to_of hT h
    rw [sorted_uniq (p'.trans pR.symm) q' qR fun a ha b hb h1 h2 => rows_tri (hT a (p'.mem_iff.mp ha)) (hT b (p'.mem_iff.mp hb)) h2 h1]
  · have g : (List.range T.length).map (fun i => (T[i]?).getD []) = T := by
      rw [pick_map fun i hi => List.mem_range.mp hi, range_pick]
    obtain ⟨idx, ip, ie⟩ := perm_lift pR.symm (List.range T.length) g
    have ib : ∀ i, i ∈ idx → i < T.length := fun i hi => List.mem_range.mp (ip.mem_iff.mp hi)
    refine ⟨idx, by rw [List.length_map]; exact ip, ?_, ?_⟩
    · rw [← ie, List.pairwise_map] at qR
      refine List.Pairwise.imp_of_mem (fun {i j} hi hj h a c ha hc => ?_) qR
      have zi : T[i]? = some (T[i]'(ib i hi)) := List.getElem?_eq_getElem _
      have zj : T[j]? = some (T[j]'(ib j hj)) := List.getElem?_eq_getElem _
      rw [List.getElem?_map, zi] at ha
      rw [List.getElem?_map, zj] at hc
      cases ha; cases hc
      rw [zi, zj] at h
      rw [klt (hT _ (List.mem_of_getElem? zj)) (hT _ (List.mem_of_getElem? zi))]
      exact congrArg some h
    · have e2 : idx.map (fun i => (T[i]?).getD []) = idx.filterMap (T[·]?) := pick_map ib
      rw [← ie, e2, List.map_filterMap]
      congr 1
      funext i
      rw [List.getElem?_map]
  · apply List.ext_getElem?
    intro m
    have l1 := ok'.kl
    rw [List.length_map] at l1
    by_cases hm : m < T.length
    · have z : T[m]? = some (T[m]) := List.getElem?_eq_getElem hm
      have z' : kds'[m]? = some (kds'[m]'(by omega)) := List.getElem?_eq_getElem _
      have h1 := ok'.call m (.tup T[m]) _ (by rw [List.getElem?_map, z]; rfl) z'
      rw [call m _ z] at h1
      rw [z', List.getElem?_map, z]
      injection h1 with h1 _
      injection h1 with h1
      rw [← h1]; rfl
    · rw [List.getElem?_eq_none (by omega), List.getElem?_eq_none (by rw [List.length_map]; omega)]
theorem tup_pd {w : Nat} {t : List MV} (h : Tp w t) : pd (.tup t) = true := by
  rw [pd_tup]
  exact pdL_all fun d hd => by rcases (h.2 d hd).cases with ⟨i, rfl, _⟩ | ⟨x, rfl, _⟩; (· exact pd_int i); (· exact pd_str x)
theorem tup_dp {w : Nat} {t : List MV} (h : Tp w t) : dpt (.tup t) < 3 := by
  rw [dpt_tup]
  have : dptL t ≤ 0 := dptL_le fun d hd => by rcases (h.2 d hd).cases with ⟨i, rfl, _⟩ | ⟨x, rfl, _⟩; (· rw [dpt_int]; exact Nat.le_refl _); (· rw [dpt_str]; exact Nat.le_refl _)
  omega
theorem tup_lo {w : Nat} {t : List MV} (h : Tp w t) (n : Nat) : lo n (.tup t) := lo_tup (loL_of fun d hd => (h.2 d hd).lo n)
theorem tups_lo {w : Nat} {T : List (List MV)} (h : ∀ t ∈ T, Tp w t) (n : Nat) : loL n (T.map .tup) := loL_of fun d hd => by obtain ⟨t, ht, rfl⟩ := List.mem_map.mp hd; exact tup_lo (h t ht) n
theorem ne_tup {w : Nat} {S : Sto} {a b : List MV} (ha : Tp w a) (hb : Tp w b) : neF (.val (.tup a)) (.val (.tup b)) S = .ok (.val (.bl (!decide (MV.tup a = MV.tup b)))) S :=
  ne_val (eqv_pure (depthE + 1) (tup_pd ha) (tup_pd hb) (by have := tup_dp ha; unfold depthE; omega))
theorem tru_loc {S : Sto} {l : Nat} {ds : List MV} (h : S[l]? = some (.lst ds)) : truF (.val (.loc l)) S = .ok (!ds.isEmpty) S := by unfold truF; dsimp only; rw [h]
theorem at_last {ds : List MV} {d : MV} (hl : ds.length ≤ 100000) : atI (ds ++ [d]) (-1) = some d := by
  unfold atI
  have : ixN (ds ++ [d]).length (-1) = some ds.length := by
    unfold ixN
    simp
    omega
  rw [this]
  simp
theorem set_same {S : Sto} {m : Nat} {o : MO} (h : S[m]? = some o) : S.set m o = S := by
  obtain ⟨h1, h2⟩ := List.getElem?_eq_some_iff.mp h
  rw [← h2]; exact List.set_getElem_self h1
theorem dd_len (O : List (List MV)) (t : List MV) : (dd O t).length ≤ O.length + 1 := by
  unfold dd
  split
  · omega
  · simp
theorem dd_fold_len : ∀ (L O : List (List MV)), (L.foldl dd O).length ≤ O.length + L.length
  | [], O => Nat.le_refl _
  | t :: L, O => by
    have h1 := dd_fold_len L (dd O t)
    have h2 := dd_len O t
    rw [List.foldl_cons, List.length_cons]
    omega
theorem ord_step {w : Nat} {S : Sto} {m : Nat} {O : List (List MV)} {t : List MV} {a : Option MV} (hS : S[m]? = some (.lst (O.map .tup))) (hO : ∀ o ∈ O, Tp w o) (ht : Tp w t) (hl : O.length < 1000) :
    B_in_order_1 [a, some (.loc m), some (.tup t)] S = .ok (.next [a, some (.loc m), some (.tup t)]) (S.set m (.lst ((dd O t).map .tup))) := by
  have app : appF (.val (.loc m)) [.val (.tup t)] S = .ok (.val .non) (S.set m (.lst ((O ++ [t]).map .tup))) := by
    rw [app_loc hS (by rw [List.length_map]; omega), List.map_append]; rfl
  by_cases hn : O = []
  · subst hn
    have e : dd [] t = [] ++ [t] := if_neg (by simp)
    rw [e]
    unfold B_in_order_1 B_in_order_1_1
    simp? [tru_loc hS]
    rw [if_pos (show (!!(List.map MV.tup ([] : List (List MV))).isEmpty) = true from rfl), bok, if_pos rfl, if_pos (isl_loc hS), app]
    rfl
  · obtain ⟨P, z, rfl⟩ : ∃ P z, O = P ++ [z] := ⟨O.dropLast, O.getLast hn, (List.dropLast_concat_getLast hn).symm⟩
    have hz : Tp w z := hO z (by simp)
    have hx : ixF (.val (.loc m)) (.val (.int (-1))) S = .ok (.val (.tup z)) S := ix_loc hS (by
      rw [List.map_append]
      exact at_last (by rw [List.length_map]; simp at hl; omega))
    have he : (!((P ++ [z]).map MV.tup).isEmpty) = true := by simp
    by_cases hq : z = t
    · subst hq
      have e : dd (P ++ [z]) z = P ++ [z] := if_pos (by simp)
      rw [e, set_same hS]
      unfold B_in_order_1 B_in_order_1_1
      simp? [tru_loc hS, he, hx, ne_tup hz hz]
      rw [if_neg (by simp), bok, if_neg (by simp)]
    · have e : dd (P ++ [z]) t = P ++ [z] ++ [t] := if_neg (by simpa using hq)
      rw [e]
      have hq' : decide (MV.tup z = MV.tup t) = false := decide_eq_false (by simpa using hq)
      unfold B_in_order_1 B_in_order_1_1
      simp? [tru_loc hS, he, hx, ne_tup hz ht, hq']
      rw [if_neg (by simp), bok, if_pos (show (!false) = true from rfl), if_pos (isl_loc hS), app]
      rfl
theorem ord_loop {w : Nat} {m : Nat} {a : Option MV} : ∀ {L O : List (List MV)} {S : Sto} {x : Option MV}, S[m]? = some (.lst (O.map .tup)) → (∀ o ∈ O, Tp w o) → (∀ t ∈ L, Tp w t) → O.length + L.length < 1000 →
    ∃ y, forF (gNm 2) B_in_order_1 [] (L.map .tup) [a, some (.loc m), x] S = .ok (.next [a, some (.loc m), y]) (S.set m (.lst ((L.foldl dd O).map .tup)))
  | [], O, S, x, hS, _, _, _ => ⟨x, by rw [List.foldl_nil, set_same hS]; rfl⟩
  | t :: L, O, S, x, hS, hO, hL, hl => by
    have ht := hL t List.mem_cons_self
    have hd : ∀ o ∈ dd O t, Tp w o := fun o ho => by
      unfold dd at ho
      split at ho
      · exact hO o ho
      · rcases List.mem_append.mp ho with q | q
        · exact hO o q
        · rw [List.mem_singleton.mp q]; exact ht
    have hlen := dd_len O t
    simp only [List.length_cons] at hl
    obtain ⟨y, h⟩ := ord_loop (L := L) (O := dd O t) (S := S.set m (.lst ((dd O t).map .tup))) (x := some (.tup t)) (a := a) (get_set hS) hd (fun u hu => hL u (List.mem_cons_of_mem _ hu)) (by omega)
    refine ⟨y, ?_⟩
    rw [List.map_cons, for_next rfl (ord_step hS hO ht (by omega)) (stay0 _), h, List.foldl_cons, List.set_set]
theorem f_order {w : Nat} {T : List (List MV)} {l : Nat} {S : Sto} (hT : ∀ t ∈ T, Tp w t) (hw : w ≤ 4) (hl : T.length < 128) (hS : S[l]? = some (.lst (T.map .tup))) :
    ∃ R : List (List MV), R.Pairwise (fun a b => rows a b = true) ∧ (∀ t, t ∈ R ↔ t ∈ T) ∧ R.length ≤ T.length ∧ f_in_order [.loc l] S = .ok (.val (.loc S.length)) (S ++ [.lst (R.map .tup)]) := by
  have hS1 : (S ++ [.lst []])[l]? = some (.lst (T.map .tup)) := by rw [List.getElem?_append_left (List.getElem?_eq_some_iff.mp hS).1]; exact hS
  obtain ⟨R0, p0, q0, s0⟩ := srt_ok hT hw hl (p := .val (.loc l)) (S := S ++ [.lst []]) (by unfold lsOf; dsimp only; rw [hS1])
  obtain ⟨a, b⟩ := dd_ok (w := w) (L := R0) (O := []) (fun t ht => hT t (p0.mem_iff.mp ht)) (fun t ht => by cases ht) (fun o ho => by cases ho) q0 .nil
  refine ⟨R0.foldl dd [], a, fun t => (b t).trans ⟨fun q => q.elim (fun z => by cases z) fun z => p0.mem_iff.mp z, fun q => .inr (p0.mem_iff.mpr q)⟩, by have := dd_fold_len R0 []; have := p0.length_eq; simp at *; omega, ?_⟩
  have hs : startR ["some", "ordered", "values"] [.loc l] = [some (.loc l), none, none] := rfl
  have e1 : F_in_order_1 [some (.loc l), none, none] S = .ok (.next [some (.loc l), some (.loc S.length), none]) (S ++ [.lst []]) := by
    unfold F_in_order_1
    simp? [bok]
  have hm : (S ++ [MO.lst []])[S.length]? = some (.lst (([] : List (List MV)).map .tup)) := by simp
  obtain ⟨y, hy⟩ := ord_loop (w := w) (m := S.length) (a := some (.loc l)) (L := R0) (O := []) (S := S ++ [.lst []]) (x := none) hm (fun t ht => by cases ht) (fun t ht => hT t (p0.mem_iff.mp ht)) (by have := p0.length_eq; simp; omega)
  have e2 : F_in_order_2 [some (.loc l), some (.loc S.length), none] (S ++ [.lst []]) = .ok (.next [some (.loc l), some (.loc S.length), y]) (S ++ [.lst ((R0.foldl dd []).map .tup)]) := by
    unfold F_in_order_2
    simp? [s0]
    show forF (gNm 2) B_in_order_1 [] (R0.map .tup) [some (.loc l), some (.loc S.length), none] (S ++ [.lst []]) = _
    rw [hy]
    simp
  unfold f_in_order F_in_order
  rw [hs, seq_next e1, seq_next e2]
  unfold F_in_order_3
  simp? [bok]
  rfl
theorem c_order {w : Nat} {T : List (List MV)} {l : Nat} {S : Sto} (hT : ∀ t ∈ T, Tp w t) (hw : w ≤ 4) (hl : T.length < 128) (hS : S[l]? = some (.lst (T.map .tup))) :
    ∃ R : List (List MV), R.Pairwise (fun a b => rows a b = true) ∧ (∀ t, t ∈ R ↔ t ∈ T) ∧ R.length ≤ T.length ∧ callF 1 f_in_order [.val (.loc l)] S = .ok (.new (R.map .tup)) S := by
  obtain ⟨R, a, b, n, c⟩ := f_order hT hw hl hS
  exact ⟨R, a, b, n, call_loc rfl c (Nat.le_refl _) (by simp) (tups_lo (fun t ht => hT t ((b t).mp ht)) _)⟩
theorem c_orderN {w : Nat} {T : List (List MV)} {S : Sto} (hT : ∀ t ∈ T, Tp w t) (hw : w ≤ 4) (hl : T.length < 128) :
    ∃ R : List (List MV), R.Pairwise (fun a b => rows a b = true) ∧ (∀ t, t ∈ R ↔ t ∈ T) ∧ callF 1 f_in_order [.new (T.map .tup)] S = .ok (.new (R.map .tup)) S := by
  obtain ⟨R, a, b, _, c⟩ := f_order (l := S.length) (S := S ++ [.lst (T.map .tup)]) hT hw hl (by simp)
  rw [List.append_assoc] at c
  have c' : f_in_order (enterA [.new (T.map .tup)] S).1 (enterA [.new (T.map .tup)] S).2 = .ok (.val (.loc (S.length + 1))) (S ++ ([.lst (T.map .tup)] ++ [.lst (R.map .tup)])) := by
    rw [show enterA [.new (T.map .tup)] S = ([.loc S.length], S ++ [.lst (T.map .tup)]) from rfl]
    rw [List.length_append] at c
    exact c
  exact ⟨R, a, b, call_loc rfl c' (by omega) (by rw [List.getElem?_append_right (by omega)]; simp) (tups_lo (fun t ht => hT t ((b t).mp ht)) _)⟩
theorem cell_ok (ns : List Int) (k : Int) (hk : 0 ≤ k) (S : Sto) : ∃ c, callF 2 f__law_cell_at [.val (.scr (ns.map MV.int)), .val (.int k)] S = .ok (.val (.int c)) S := by
  have hlen : lenF [.val (.scr (ns.map MV.int))] S = .ok (.val (.int ns.length)) S := by
    show R.ok (Er.val (.int (((ns.map MV.int).length : Nat) : Int))) S = _
    rw [List.length_map]
  have e1 : F__law_cell_at_1 [some (.scr (ns.map MV.int)), some (.int k)] S = if decide (k < ns.length) = true then (ixF (.val (.scr (ns.map MV.int))) (.val (.int k)) S).bind fun r S1 => .ok (.ret r) S1 else .ok (.next [some (.scr (ns.map MV.int)), some (.int k)]) S := by
    unfold F__law_cell_at_1
    simp? [hlen, lt_int]
  have fin : ∀ c, f__law_cell_at [.scr (ns.map MV.int), .int k] S = .ok (.val (.int c)) S → ∃ c, callF 2 f__law_cell_at [.val (.scr (ns.map MV.int)), .val (.int k)] S = .ok (.val (.int c)) S := fun c h => ⟨c, call_pure rfl h (lo_int _ _) (fun l => by simp)⟩
  have hs : startR ["_law_script", "_law_k"] [.scr (ns.map MV.int), .int k] = [some (.scr (ns.map MV.int)), some (.int k)] := rfl
  by_cases hlt : k < ns.length
  · obtain ⟨d, hd⟩ := atI_pos (xs := ns.map MV.int) (i := k) hk (by rw [List.length_map]; exact hlt)
    obtain ⟨c, rfl⟩ : ∃ c, d = .int c := atI_all (P := fun d => ∃ c, d = .int c) (fun e he => by obtain ⟨c, _, rfl⟩ := List.mem_map.mp he; exact ⟨c, rfl⟩) hd
    have hix : ixF (.val (.scr (ns.map MV.int))) (.val (.int k)) S = .ok (.val (.int c)) S := by
      show (match atI (ns.map MV.int) k with | some d => R.ok (Er.val d) S | none => .no) = _
      rw [hd]
    refine fin c ?_
    rw [decide_eq_true hlt, if_pos rfl, hix, bok] at e1
    unfold f__law_cell_at F__law_cell_at
    rw [hs, seq_ret e1]
    rfl
  · refine fin 0 ?_
    rw [decide_eq_false hlt, if_neg Bool.false_ne_true] at e1
    unfold f__law_cell_at F__law_cell_at
    rw [hs, seq_next e1]
    rfl
theorem cut_len {x : List MV} : (cutL x (some 2) (some 42)).length ≤ 40 := by
  unfold cutL
  rw [List.length_take]
  have h2 : HT.sIx x.length x.length (some 42) ≤ min 42 x.length := by
    unfold HT.sIx
    simp only
    split <;> omega
  have h1 : HT.sIx x.length 0 (some 2) = min 2 x.length := by
    unfold HT.sIx
    simp only
    split <;> omega
  rw [h1]
  have : HT.sIx x.length x.length (some 42) - min 2 x.length ≤ 40 := by omega
  exact Nat.le_trans (Nat.min_le_left _ _) this
theorem four_at {j : Nat} (h : j < 4) : ∃ f : Int, (f = 1 ∨ f = 7 ∨ f = 49 ∨ f = 343) ∧ atI [MV.int 1, .int 7, .int 49, .int 343] (j : Int) = some (.int f) := by
  match j, h with
  | 0, _ => exact ⟨1, .inl rfl, rfl⟩
  | 1, _ => exact ⟨7, .inr (.inl rfl), rfl⟩
  | 2, _ => exact ⟨49, .inr (.inr (.inl rfl)), rfl⟩
  | 3, _ => exact ⟨343, .inr (.inr (.inr rfl)), rfl⟩
theorem div_four {n f : Int} (h : f = 1 ∨ f = 7 ∨ f = 49 ∨ f = 343) (S : Sto) : divF (.val (.int n)) (.val (.int f)) S = .ok (.val (.int (n / f))) S := by
  rcases h with rfl | rfl | rfl | rfl
  · exact div_gen (show divC 0 1 by decide +kernel) n S
  · exact div_gen (show divC 0 7 by decide +kernel) n S
  · exact div_gen (show divC 0 49 by decide +kernel) n S
  · exact div_gen (show divC 0 343 by decide +kernel) n S
theorem lst4 (a b c d : MV) (S : Sto) : lstF [.val a, .val b, .val c, .val d] S = .ok (.new [a, b, c, d]) S := lst_ok (by simp)
abbrev L10 (q : MV) (w : Int) (a b c d e f : Option MV) : Rho := [some q, some (.loc 0), some (.int w), some (.loc 1), a, b, c, d, e, f]
theorem draw_tup {vs : List MV} {S : Sto} {n w : Int} (hv : vs.length = 7) (hV : ∀ d ∈ vs, Vl d) (hS : S[0]? = some (.lst vs)) (hw : 0 ≤ w ∧ w < 5) :
    ∃ t, Tp w.toNat t ∧ compF (gNm 0) C_law_2_c C_law_2_e [none, some (.loc 0), some (.int n)] [] ((List.range w.toNat).map fun k => MV.int (k : Nat)) S = .ok t S := by
  obtain ⟨out, c, l, p⟩ := comp_all (S := S) (gf := gNm 0) (cf := C_law_2_c) (ef := C_law_2_e) (ρb := [none, some (.loc 0), some (.int n)]) (gs := []) (P := Vl) (stay0 _) (ds := (List.range w.toNat).map fun j => MV.int (j : Nat)) (fun d hd => by
    obtain ⟨j, hj, rfl⟩ := List.mem_map.mp hd
    rw [List.mem_range] at hj
    obtain ⟨f, hf, hf'⟩ := four_at (j := j) (by omega)
    obtain ⟨y, hy⟩ := atI_pos (xs := vs) (i := n / f % 7) (Int.emod_nonneg _ (by decide)) (by rw [hv]; exact Int.emod_lt_of_pos _ (by decide))
    refine ⟨[some (.int (j : Nat)), some (.loc 0), some (.int n)], y, rfl, rfl, ?_, atI_all hV hy⟩
    unfold C_law_2_e
    simp? [lst4, ix_new (S := S) hf', div_four hf, mod_lit (show (0 : Int) < 7 by decide), ix_loc hS hy])
  rw [List.length_map, List.length_range] at l
  exact ⟨out, ⟨l, p⟩, c⟩
theorem some_step {q : MV} {w c : Int} {vs : List MV} {T : List (List MV)} {x5 : Option MV} (hv : vs.length = 7) (hV : ∀ d ∈ vs, Vl d) (hw : 0 ≤ w ∧ w < 5) (hl : T.length < 1000) :
    ∃ t y5, Tp w.toNat t ∧ B_law_1 (L10 q w (some (.int c)) x5 none none none none) [.lst vs, .lst (T.map .tup)] = .ok (.next (L10 q w (some (.int c)) y5 none none none none)) [.lst vs, .lst ((T ++ [t]).map .tup)] := by
  obtain ⟨n, hn⟩ := mix_ok c 2147483563 (by decide) [.lst vs, .lst (T.map .tup)]
  have hS0 : ([.lst vs, .lst (T.map .tup)] : Sto)[0]? = some (.lst vs) := rfl
  have hS1 : ([.lst vs, .lst (T.map .tup)] : Sto)[1]? = some (.lst (T.map .tup)) := rfl
  obtain ⟨t, ht, hc⟩ := draw_tup (n := n) hv hV hS0 hw
  refine ⟨t, some (.int n), ht, ?_⟩
  have e1 : B_law_1_1 (L10 q w (some (.int c)) x5 none none none none) [.lst vs, .lst (T.map .tup)] = .ok (.next (L10 q w (some (.int c)) (some (.int n)) none none none none)) [.lst vs, .lst (T.map .tup)] := by
    unfold B_law_1_1
    simp? [hn]
  have hlen : ((List.range w.toNat).map fun k => MV.int (k : Nat)).length < 1000000 := by rw [List.length_map, List.length_range]; omega
  have e2 : B_law_1_2 (L10 q w (some (.int c)) (some (.int n)) none none none none) [.lst vs, .lst (T.map .tup)] = .ok (.next (L10 q w (some (.int c)) (some (.int n)) none none none none)) [.lst vs, .lst ((T ++ [t]).map .tup)] := by
    unfold B_law_1_2
    simp? [isl_loc hS1, rng_ok (S := [.lst vs, .lst (T.map .tup)]) (j := w) (by omega), hlen, show blk 1 [1, 5] (L10 q w (some (.int c)) (some (.int n)) none none none none) = [none, some (.loc 0), some (.int n)] from rfl, hc, show ∀ (o : List MV) (S : Sto), tupleF [.new o] S = .ok (.val (.tup o)) S from fun o S => rfl]
    rw [app_loc hS1 (by rw [List.length_map]; omega), bok, List.map_append]
    rfl
  unfold B_law_1
  rw [seq_next e1, e2]
theorem some_loop {q : MV} {w : Int} {vs : List MV} (hv : vs.length = 7) (hV : ∀ d ∈ vs, Vl d) (hw : 0 ≤ w ∧ w < 5) {L : List MV} (hL : ∀ d ∈ L, ∃ c, d = .int c) (hn : L.length ≤ 40) :
    ∃ (T : List (List MV)) (x4 x5 : Option MV), (∀ t ∈ T, Tp w.toNat t) ∧ T.length ≤ 40 ∧ forF (gNm 4) B_law_1 [] L (L10 q w none none none none none none) [.lst vs, .lst []] = .ok (.next (L10 q w x4 x5 none none none none)) [.lst vs, .lst (T.map .tup)] := by
  obtain ⟨ρ', S', e, x4, x5, T, hρ, hS, hTl, hT⟩ := for_ix (L := L) (gf := gNm 4) (body := B_law_1) (gs := []) (S := [.lst vs, .lst []]) (ρ := L10 q w none none none none none none)
    (fun i ρ S => ∃ (x4 x5 : Option MV) (T : List (List MV)), ρ = L10 q w x4 x5 none none none none ∧ S = [.lst vs, .lst (T.map .tup)] ∧ T.length = i ∧ ∀ t ∈ T, Tp w.toNat t) (fun i d hi ρ S ⟨x4, x5, T, hρ, hS, hTl, hT⟩ => by
      obtain ⟨c, rfl⟩ := hL d (List.mem_of_getElem? hi)
      have hil : i < L.length := (List.getElem?_eq_some_iff.mp hi).1
      obtain ⟨t, y5, ht, hb⟩ := some_step (q := q) (c := c) (T := T) (x5 := x5) hv hV hw (by omega)
      subst hρ hS
      refine ⟨_, _, hb, stay0 _, some (.int c), y5, T ++ [t], rfl, rfl, by rw [List.length_append, hTl]; rfl, fun u hu => ?_⟩
      rcases List.mem_append.mp hu with z | z
      · exact hT u z
      · rw [List.mem_singleton.mp z]; exact ht) ⟨none, none, [], rfl, rfl, rfl, fun t ht => by cases ht⟩
  exact ⟨T, x4, x5, hT, by omega, by rw [e, hρ, hS]⟩
theorem bf_turn {d e : MV} (vd : Vl d) (ve : Vl e) (hk : same d e = false) (a b : Option MV) (S : Sto) : B__law_before_1 [a, b, some d, some e] S = .ok (.ret (.val (.bl (bef d e)))) S := by
  have hne := ne_val (v_eq (S := S) vd ve depthE)
  rw [hk] at hne
  rcases vd.cases with ⟨i, rfl, _⟩ | ⟨x, rfl, _⟩ <;> rcases ve.cases with ⟨j, rfl, _⟩ | ⟨y, rfl, _⟩
  · unfold B__law_before_1 B__law_before_1_1
    simp? [hne, seqF, ne_bl, lt_int]
    rfl
  · unfold B__law_before_1 B__law_before_1_1
    simp? [hne, seqF, ne_bl]
    rfl
  · unfold B__law_before_1 B__law_before_1_1
    simp? [hne, seqF, ne_bl]
    rfl
  · unfold B__law_before_1 B__law_before_1_1
    simp? [hne, seqF, ne_bl, lt_str]
    rfl
theorem bf_loop (S : Sto) (a b : Option MV) : ∀ {ds es : List MV} {x y : Option MV}, (∀ d ∈ ds, Vl d) → (∀ e ∈ es, Vl e) → ds.length = es.length →
    (∃ ρ, forF (gTp 2 (gsCons (gNm 2) (gsCons (gNm 3) gsNil))) B__law_before_1 [] (pairs ds es) [a, b, x, y] S = .ok (.next ρ) S ∧ rows ds es = false) ∨
    forF (gTp 2 (gsCons (gNm 2) (gsCons (gNm 3) gsNil))) B__law_before_1 [] (pairs ds es) [a, b, x, y] S = .ok (.ret (.val (.bl (rows ds es)))) S
  | [], [], x, y, _, _, _ => .inl ⟨_, rfl, rfl⟩
  | [], _ :: _, _, _, _, _, h => by simp at h
  | _ :: _, [], _, _, _, _, h => by simp at h
  | d :: ds, e :: es, x, y, hd, he, h => by
    have ih := bf_loop S a b (ds := ds) (es := es) (x := some d) (y := some e) (fun z hz => hd z (List.mem_cons_of_mem _ hz)) (fun z hz => he z (List.mem_cons_of_mem _ hz)) (by simpa using h)
    have vd := hd d List.mem_cons_self
    have ve := he e List.mem_cons_self
    have hp : pairs (d :: ds) (e :: es) = .tup [d, e] :: pairs ds es := rfl
    rw [hp]
    unfold rows
    cases hk : same d e with
    | true =>
      have hb : B__law_before_1 [a, b, some d, some e] S = .ok (.next [a, b, some d, some e]) S := by
        unfold B__law_before_1 B__law_before_1_1
        simp? [ne_val (v_eq (S := S) vd ve depthE), hk]
        rfl
      rw [for_next rfl hb (stay0 S), if_pos rfl]
      exact ih
    | false =>
      rw [for_ret rfl (bf_turn vd ve hk a b S), if_neg Bool.false_ne_true]
      exact .inr rfl
theorem c_before {w : Nat} {a b : List MV} (ha : Tp w a) (hb : Tp w b) (S : Sto) : callF 2 f__law_before [.val (.tup a), .val (.tup b)] S = .ok (.val (.bl (rows a b))) S := bl_call rfl (by
  show f__law_before [.tup a, .tup b] S = _
  have hs : startR ["_law_one", "_law_other", "_law_here", "_law_there"] [.tup a, .tup b] = [some (.tup a), some (.tup b), none, none] := rfl
  have e0 : F__law_before_1 [some (.tup a), some (.tup b), none, none] S = forF (gTp 2 (gsCons (gNm 2) (gsCons (gNm 3) gsNil))) B__law_before_1 [] (pairs a b) [some (.tup a), some (.tup b), none, none] S := by
    unfold F__law_before_1
    simp? [bok]
    rfl
  unfold f__law_before F__law_before
  rw [hs]
  rcases bf_loop S (some (.tup a)) (some (.tup b)) (x := none) (y := none) ha.2 hb.2 (by rw [ha.1, hb.1]) with ⟨ρ, h, hf⟩ | h
  · rw [seq_next (e0.trans h), hf]
    rfl
  · rw [seq_ret (e0.trans h)]
    rfl)
theorem ls_same {S : Sto} {p q : Er} {ds : List MV} (hp : vwE S p = some (.ls ds)) (hq : vwE S q = some (.ls ds)) (hd : ∀ d ∈ ds, pd d = true ∧ dpt d < 40) : eqvE S depthE p q = some true := by
  unfold eqvE
  rw [hp, hq]
  show eqW (eqv S depthE) (.ls ds) (.ls ds) = some true
  obtain ⟨bs, h1, h2⟩ := prs_pure (e := eqv S depthE) (ds := ds) (es := ds) fun a ha b hb => eqv_pure depthE (hd a ha).1 (hd b hb).1 (by unfold depthE; exact (hd a ha).2)
  rw [eqW_ls, if_pos rfl, h1]
  rw [decide_eq_true rfl] at h2
  show some (bs.all id) = some true
  rw [Bool.and_eq_true] at h2
  rw [h2.1]
theorem eq_ls {S : Sto} {p q : Er} {ds : List MV} (hp : vwE S p = some (.ls ds)) (hq : vwE S q = some (.ls ds)) (hd : ∀ d ∈ ds, pd d = true ∧ dpt d < 40) : eqF p q S = .ok (.val (.bl true)) S := by unfold eqF; rw [ls_same hp hq hd]
theorem ne_ls {S : Sto} {p q : Er} {ds : List MV} (hp : vwE S p = some (.ls ds)) (hq : vwE S q = some (.ls ds)) (hd : ∀ d ∈ ds, pd d = true ∧ dpt d < 40) : neF p q S = .ok (.val (.bl false)) S := by unfold neF; rw [ls_same hp hq hd]; rfl
theorem tups_pd {w : Nat} {T : List (List MV)} (h : ∀ t ∈ T, Tp w t) : ∀ d ∈ T.map MV.tup, pd d = true ∧ dpt d < 40 := fun d hd => by
  obtain ⟨t, ht, rfl⟩ := List.mem_map.mp hd
  exact ⟨tup_pd (h t ht), by have := tup_dp (h t ht); omega⟩
theorem pure_of {w : Nat} {t : List MV} (h : Tp w t) : pureD (.tup t) = true := by
  unfold pureD
  exact pureL_all fun d hd => by rcases (h.2 d hd).cases with ⟨i, rfl, _⟩ | ⟨x, rfl, _⟩ <;> simp [pureD]
theorem idx_pure {S : Sto} {d : MV} (hd : pd d = true) : ∀ {ds : List MV}, (∀ y ∈ ds, pd y = true ∧ dpt y < 40) → d ∈ ds → ∃ j, idxM S d ds = some j ∧ ds[j]? = some d
  | [], _, h => by cases h
  | y :: ys, hy, h => by
    have h1 := hy y List.mem_cons_self
    unfold idxM
    rw [eqv_pure depthE h1.1 hd (by unfold depthE; exact h1.2)]
    show ∃ j, (if decide (y = d) = true then some 0 else (idxM S d ys).map (· + 1)) = some j ∧ _
    by_cases e : y = d
    · exact ⟨0, by rw [decide_eq_true e, if_pos rfl], by rw [e]; rfl⟩
    · rcases List.mem_cons.mp h with e' | m
      · exact absurd e'.symm e
      · obtain ⟨j, j1, j2⟩ := idx_pure hd (fun z hz => hy z (List.mem_cons_of_mem _ hz)) m
        exact ⟨j + 1, by rw [decide_eq_false e, if_neg Bool.false_ne_true, j1]; rfl, by simpa using j2⟩
theorem lidx_ok {w : Nat} {S : Sto} {l : Nat} {T : List (List MV)} {t : List MV} (hS : S[l]? = some (.lst (T.map .tup))) (hT : ∀ t ∈ T, Tp w t) (ht : t ∈ T) :
    ∃ j, lidxF (.val (.loc l)) [.val (.tup t)] S = .ok (.val (.int (j : Nat))) S ∧ (T.map MV.tup)[j]? = some (.tup t) := by
  obtain ⟨j, j1, j2⟩ := idx_pure (S := S) (d := .tup t) (tup_pd (hT t ht)) (tups_pd hT) (List.mem_map.mpr ⟨t, ht, rfl⟩)
  refine ⟨j, ?_, j2⟩
  unfold lidxF
  dsimp only
  rw [lsOf_loc hS]
  dsimp only
  rw [if_pos (fun x hx => ?_), j1]
  obtain ⟨u, hu, rfl⟩ := List.mem_map.mp hx
  refine ⟨pure_of (hT u hu), ?_⟩
  rw [eqv_pure depthE (tup_pd (hT u hu)) (tup_pd (hT t ht)) (by have := tup_dp (hT u hu); unfold depthE; omega)]
  rfl
theorem at_nat {α : Type} {xs : List α} {j : Nat} {x : α} (h : xs[j]? = some x) : atI xs (j : Int) = some x := by
  have hj := (List.getElem?_eq_some_iff.mp h).1
  unfold atI
  have : ixN xs.length (j : Int) = some j := by
    unfold ixN
    simp
    omega
  rw [this]
  exact h
theorem alike_tup {w : Nat} {t : List MV} (h : Tp w t) (hw : w ≤ 4) (S : Sto) : callF 2 (f__law_alike 8) [.val (.tup t), .val (.tup t)] S = .ok (.val (.bl true)) S := by
  refine alike_ok 8 S (tup_pd h) ?_ (by have := tup_dp h; omega)
  rw [sm_tup, decide_eq_true (by rw [h.1]; omega), smL_all fun d hd => ?_]
  · rfl
  · rcases (h.2 d hd).cases with ⟨i, rfl, _⟩ | ⟨x, rfl, _⟩ <;> simp [sm]
section
variable {q : MV} {w : Int} {vs : List MV} {T R : List (List MV)} {x4 x5 x8 x9 : Option MV}
abbrev S3 (vs : List MV) (T R : List (List MV)) : Sto := [.lst vs, .lst (T.map .tup), .lst (T.map .tup), .lst (R.map .tup)]
abbrev r3 (q : MV) (w : Int) (x4 x5 x8 x9 : Option MV) : Rho := L10 q w x4 x5 (some (.loc 2)) (some (.loc 3)) x8 x9
theorem gt_int (i j : Int) (S : Sto) : gtF (.val (.int i)) (.val (.int j)) S = .ok (.val (.bl (decide (i > j)))) S := rfl
theorem law5 : F_law_5 (L10 q w x4 x5 none none none none) [.lst vs, .lst (T.map .tup)] = .ok (.next (L10 q w x4 x5 (some (.loc 2)) none none none)) [.lst vs, .lst (T.map .tup), .lst (T.map .tup)] := by
  have hl : listF [.val (.loc 1)] [.lst vs, .lst (T.map .tup)] = .ok (.new (T.map .tup)) [.lst vs, .lst (T.map .tup)] := rfl
  unfold F_law_5
  simp? [hl]
  rfl
theorem law7 (hT : ∀ t ∈ T, Tp w.toNat t) : F_law_7 (r3 q w x4 x5 none none) (S3 vs T R) = .ok (.next (r3 q w x4 x5 none none)) (S3 vs T R) := by
  have h1 : isiF [.val (.loc 3), .val (.typ "list")] (S3 vs T R) = .ok (.val (.bl true)) (S3 vs T R) := rfl
  have h2 : neF (.val (.loc 2)) (.val (.loc 1)) (S3 vs T R) = .ok (.val (.bl false)) (S3 vs T R) := ne_ls (ds := T.map .tup) rfl rfl (tups_pd hT)
  unfold F_law_7
  simp? [h1, h2]
  rfl
theorem law8_turn {k : Nat} (hT : ∀ t ∈ T, Tp w.toNat t) (hw : 0 ≤ w ∧ w < 5) (hR : R.Pairwise fun a b => rows a b = true) (hm : ∀ t, t ∈ R ↔ t ∈ T) (hk : k < R.length) :
    B_law_3 (r3 q w x4 x5 (some (.int (k : Nat))) none) (S3 vs T R) = .ok (.next (r3 q w x4 x5 (some (.int (k : Nat))) none)) (S3 vs T R) := by
  have hr : R[k]? = some R[k] := List.getElem?_eq_getElem hk
  generalize hrr : R[k] = r at hr
  have mr : r ∈ R := List.mem_of_getElem? hr
  have tr := hT r ((hm r).mp mr)
  have hS1 : (S3 vs T R)[1]? = some (.lst (T.map .tup)) := rfl
  have hS3 : (S3 vs T R)[3]? = some (.lst (R.map .tup)) := rfl
  have ix : ixF (.val (.loc 3)) (.val (.int (k : Nat))) (S3 vs T R) = .ok (.val (.tup r)) (S3 vs T R) := ix_loc hS3 (at_nat (by rw [List.getElem?_map, hr]; rfl))
  have hin : inF true (.val (.tup r)) (.val (.loc 1)) (S3 vs T R) = .ok (.val (.bl false)) (S3 vs T R) := by
    rw [notin_pure hS1 (tup_pd tr) (fun x => by simp) (tups_pd hT), decide_eq_true (List.mem_map.mpr ⟨r, (hm r).mp mr, rfl⟩)]
    rfl
  obtain ⟨j, j1, j2⟩ := lidx_ok hS1 hT ((hm r).mp mr)
  have ij : ixF (.val (.loc 1)) (.val (.int (j : Nat))) (S3 vs T R) = .ok (.val (.tup r)) (S3 vs T R) := ix_loc hS1 (at_nat j2)
  have e1 : B_law_3_1 (r3 q w x4 x5 (some (.int (k : Nat))) none) (S3 vs T R) = .ok (.next (r3 q w x4 x5 (some (.int (k : Nat))) none)) (S3 vs T R) := by
    unfold B_law_3_1
    simp? [ix, hin, isl_loc hS1, j1, ij, alike_tup tr (by omega)]
    rfl
  have e2 : B_law_3_2 (r3 q w x4 x5 (some (.int (k : Nat))) none) (S3 vs T R) = .ok (.next (r3 q w x4 x5 (some (.int (k : Nat))) none)) (S3 vs T R) := by
    by_cases h0 : k = 0
    · have hg : decide ((k : Int) > 0) = false := decide_eq_false (by omega)
      unfold B_law_3_2
      simp? [gt_int, hg]
      rfl
    · have hg : decide ((k : Int) > 0) = true := decide_eq_true (by omega)
      have hp : R[k - 1]? = some (R[k - 1]'(by omega)) := List.getElem?_eq_getElem _
      generalize hpp : R[k - 1]'(by omega) = p at hp
      have tp := hT p ((hm p).mp (List.mem_of_getElem? hp))
      have iy : ixF (.val (.loc 3)) (.val (.int ((k : Nat) - 1))) (S3 vs T R) = .ok (.val (.tup p)) (S3 vs T R) := by
        rw [show ((k : Nat) : Int) - 1 = ((k - 1 : Nat) : Int) by omega]
        exact ix_loc hS3 (at_nat (by rw [List.getElem?_map, hp]; rfl))
      have hrow : rows p r = true := by
        have := List.pairwise_iff_getElem.mp hR (k - 1) k (by omega) hk (by omega)
        rw [hrr, hpp] at this
        exact this
      unfold B_law_3_2
      simp? [gt_int, hg, iy, ix, c_before tp tr, hrow]
      rfl
  unfold B_law_3
  rw [seq_next e1, e2]
theorem law8 (hT : ∀ t ∈ T, Tp w.toNat t) (hw : 0 ≤ w ∧ w < 5) (hR : R.Pairwise fun a b => rows a b = true) (hm : ∀ t, t ∈ R ↔ t ∈ T) (hl : R.length < 1000) :
    ∃ y, F_law_8 (r3 q w x4 x5 none none) (S3 vs T R) = .ok (.next (r3 q w x4 x5 y none)) (S3 vs T R) := by
  have hS3 : (S3 vs T R)[3]? = some (.lst (R.map .tup)) := rfl
  obtain ⟨ρ', S', e, y, hρ, hS⟩ := for_ix (L := (List.range ((R.length : Nat) : Int).toNat).map fun k => MV.int (k : Nat)) (gf := gNm 8) (body := B_law_3) (gs := []) (S := S3 vs T R) (ρ := r3 q w x4 x5 none none)
    (fun i ρ S => ∃ y, ρ = r3 q w x4 x5 y none ∧ S = S3 vs T R) (fun i d hi ρ S ⟨y, hρ, hS⟩ => by
      obtain ⟨k, hk, rfl⟩ := List.mem_map.mp (List.mem_of_getElem? hi)
      rw [List.mem_range] at hk
      subst hρ hS
      refine ⟨_, _, ?_, stay0 _, some (.int (k : Nat)), rfl, rfl⟩
      rw [show gNm 8 (.int (k : Nat)) (r3 q w x4 x5 y none) (S3 vs T R) = .ok (r3 q w x4 x5 (some (.int (k : Nat))) none) (S3 vs T R) from rfl, bok]
      exact law8_turn hT hw hR hm (by omega)) ⟨none, rfl, rfl⟩
  refine ⟨y, ?_⟩
  unfold F_law_8
  simp? [len_loc hS3]
  rw [List.length_map, rng_ok (by omega), bok, e, hρ, hS]
theorem law9 (hT : ∀ t ∈ T, Tp w.toNat t) (hm : ∀ t, t ∈ R ↔ t ∈ T) (hl : T.length ≤ 40) : F_law_9 (r3 q w x4 x5 x8 none) (S3 vs T R) = .ok (.next (r3 q w x4 x5 x8 none)) (S3 vs T R) := by
  have hS3 : (S3 vs T R)[3]? = some (.lst (R.map .tup)) := rfl
  have hS1 : (S3 vs T R)[1]? = some (.lst (T.map .tup)) := rfl
  have hR : ∀ t ∈ R, Tp w.toNat t := fun t ht => hT t ((hm t).mp ht)
  have hc : compF (gNm 0) C_law_4_c C_law_4_e [none, some (.loc 3)] [(1, T.map .tup)] (T.map .tup) (S3 vs T R) = .ok [] (S3 vs T R) := comp_none (fun p hp => by rw [List.mem_singleton.mp hp]; rfl) fun d hd => by
    obtain ⟨t, ht, rfl⟩ := List.mem_map.mp hd
    refine ⟨[some (.tup t), some (.loc 3)], rfl, ?_⟩
    unfold C_law_4_c
    simp? [notin_pure hS3 (tup_pd (hT t ht)) (fun x => by simp) (tups_pd hR)]
    rw [decide_eq_true (List.mem_map.mpr ⟨t, (hm t).mpr ht, rfl⟩)]
    rfl
  have hlen : (T.map MV.tup).length < 1000000 := by rw [List.length_map]; omega
  have hne : neF (.new []) (.new []) (S3 vs T R) = .ok (.val (.bl false)) (S3 vs T R) := rfl
  unfold F_law_9
  simp? [itL_loc hS1, hlen, show blk 1 [7] (r3 q w x4 x5 x8 none) = [none, some (.loc 3)] from rfl, hc, hne]
  rfl
theorem step_rev {S : Sto} {l : Nat} (hS : S[l]? = some (.lst (T.map .tup))) (hl : T.length ≤ 40) : ∃ T' : List (List MV), T'.length ≤ 40 ∧ (∀ t ∈ T', t ∈ T) ∧ stepF (-1) (.val (.loc l)) none none S = .ok (.new (T'.map .tup)) S := by
  refine ⟨pickL T none none (some (-1)), ?_, fun t ht => ?_, ?_⟩
  · unfold pickL
    refine Nat.le_trans (List.length_filterMap_le _ _) (Nat.le_trans (sliceRange_length_le _ _ _ T.length (fun hc => ?_) fun hc => ?_) hl)
    · simp [sliceBounds] at hc
    · simp [sliceBounds]
  · obtain ⟨i, _, hi⟩ := List.mem_filterMap.mp ht
    exact List.mem_of_getElem? hi
  · have e : pickL (T.map MV.tup) none none (some (-1)) = (pickL T none none (some (-1))).map MV.tup := by
      unfold pickL
      rw [List.length_map, List.map_filterMap]
      congr 1
      funext i
      rw [List.getElem?_map]
    unfold stepF
    rw [lsOf_loc hS]
    dsimp only
    rw [if_pos, e]
    rw [e, List.length_map]
    refine fits (Nat.le_trans ?_ (show 40 ≤ 1000000 by decide))
    unfold pickL
    refine Nat.le_trans (List.length_filterMap_le _ _) (Nat.le_trans (sliceRange_length_le _ _ _ T.length (fun hc => ?_) fun hc => ?_) hl)
    · simp [sliceBounds] at hc
    · simp [sliceBounds]
theorem again_ok {S : Sto} (hS : S[1]? = some (.lst (T.map .tup))) (hT : ∀ t ∈ T, Tp w.toNat t) (hw : 0 ≤ w ∧ w < 5) (hl : T.length ≤ 40) (hR : R.Pairwise fun a b => rows a b = true) (hm : ∀ t, t ∈ R ↔ t ∈ T) :
    ∃ T' : List (List MV), stepF (-1) (.val (.loc 1)) none none S = .ok (.new (T'.map .tup)) S ∧ addF (.new (T'.map .tup)) (.val (.loc 1)) S = .ok (.new ((T' ++ T).map .tup)) S ∧ callF 1 f_in_order [.new ((T' ++ T).map .tup)] S = .ok (.new (R.map .tup)) S := by
  obtain ⟨T', l', m', s'⟩ := step_rev hS hl
  have ht : ∀ t ∈ T' ++ T, Tp w.toNat t := fun t ht => (List.mem_append.mp ht).elim (fun z => hT t (m' t z)) (hT t)
  obtain ⟨R', a, b, c⟩ := c_orderN (S := S) ht (by omega) (by rw [List.length_append]; omega)
  have e : R' = R := strict_uniq (fun t h => ht t ((b t).mp h)) (fun t h => hT t ((hm t).mp h)) a hR fun t => (b t).trans ((List.mem_append.trans ⟨fun z => z.elim (m' t) id, .inr⟩).trans (hm t).symm)
  refine ⟨T', s', ?_, by rw [← e]; exact c⟩
  rw [add_ls (S := S) (p := .new (T'.map .tup)) (q := .val (.loc 1)) rfl (lsW_loc hS) (fits (by rw [List.length_map, List.length_map]; omega)), List.map_append]
end
theorem law_true (ns : List Int) (h : ns.length ≤ 63) : ∃ S, f_law [.scr (ns.map MV.int)] [] = .ok (.val (.bl true)) S := by
  have hs : startR ["_law_script", "_law_pool_here", "_law_wide", "_law_some", "_law_cell", "_law_number", "_law_handed", "_law_told", "_law_k", "_law_again"] [.scr (ns.map MV.int)] = [some (.scr (ns.map MV.int)), none, none, none, none, none, none, none, none, none] := rfl
  obtain ⟨c0, hc0⟩ := cell_ok ns 0 (by decide) []
  obtain ⟨vs, hv, hV, hpool⟩ := pool_ok c0 []
  obtain ⟨c1, hc1⟩ := cell_ok ns 1 (by decide) [.lst vs]
  have e1 : F_law_1 [some (.scr (ns.map MV.int)), none, none, none, none, none, none, none, none, none] [] = .ok (.next [some (.scr (ns.map MV.int)), some (.loc 0), none, none, none, none, none, none, none, none]) [.lst vs] := by
    unfold F_law_1
    simp? [hc0, hpool]
    rfl
  have e2 : F_law_2 [some (.scr (ns.map MV.int)), some (.loc 0), none, none, none, none, none, none, none, none] [.lst vs] = .ok (.next [some (.scr (ns.map MV.int)), some (.loc 0), some (.int (c1 % 5)), none, none, none, none, none, none, none]) [.lst vs] := by
    unfold F_law_2
    simp? [hc1, mod_lit (show (0 : Int) < 5 by decide)]
  have hw : 0 ≤ c1 % 5 ∧ c1 % 5 < 5 := ⟨Int.emod_nonneg _ (by decide), Int.emod_lt_of_pos _ (by decide)⟩
  generalize c1 % 5 = w at e2 hw
  have e3 : F_law_3 [some (.scr (ns.map MV.int)), some (.loc 0), some (.int w), none, none, none, none, none, none, none] [.lst vs] = .ok (.next (L10 (.scr (ns.map MV.int)) w none none none none none none)) [.lst vs, .lst []] := by
    unfold F_law_3
    simp? [bok]
    rfl
  obtain ⟨T, x4, x5, hT, hl, hloop⟩ := some_loop (q := .scr (ns.map MV.int)) hv hV hw (L := cutL (ns.map MV.int) (some 2) (some 42)) (fun d hd => by obtain ⟨c, _, rfl⟩ := List.mem_map.mp (cutL_mem hd); exact ⟨c, rfl⟩) cut_len
  have e4 : F_law_4 (L10 (.scr (ns.map MV.int)) w none none none none none none) [.lst vs, .lst []] = .ok (.next (L10 (.scr (ns.map MV.int)) w x4 x5 none none none none)) [.lst vs, .lst (T.map .tup)] := by
    unfold F_law_4
    simp? [bok]
    rw [show cutF (.val (.scr (ns.map MV.int))) (some 2) (some 42) [.lst vs, .lst []] = .ok (.new (cutL (ns.map MV.int) (some 2) (some 42))) [.lst vs, .lst []] from rfl]
    exact hloop
  obtain ⟨R, hR, hm, hRl, hord⟩ := c_order (l := 2) (S := [.lst vs, .lst (T.map .tup), .lst (T.map .tup)]) hT (by omega) (by omega) rfl
  have e6 : F_law_6 (L10 (.scr (ns.map MV.int)) w x4 x5 (some (.loc 2)) none none none) [.lst vs, .lst (T.map .tup), .lst (T.map .tup)] = .ok (.next (r3 (.scr (ns.map MV.int)) w x4 x5 none none)) (S3 vs T R) := by
    unfold F_law_6
    simp? [hord]
    rfl
  obtain ⟨y, e8⟩ := law8 (q := .scr (ns.map MV.int)) (x4 := x4) (x5 := x5) (vs := vs) hT hw hR hm (by omega)
  obtain ⟨T', a1, a2, a3⟩ := again_ok (S := S3 vs T R) rfl hT hw hl hR hm
  have e10 : F_law_10 (r3 (.scr (ns.map MV.int)) w x4 x5 y none) (S3 vs T R) = .ok (.next (r3 (.scr (ns.map MV.int)) w x4 x5 y (some (.loc 4)))) (S3 vs T R ++ [.lst (R.map .tup)]) := by
    unfold F_law_10
    simp? [a1, a2, a3]
    rfl
  have hS4 : (S3 vs T R ++ [.lst (R.map .tup)])[4]? = some (.lst (R.map .tup)) := rfl
  have e11 : F_law_11 (r3 (.scr (ns.map MV.int)) w x4 x5 y (some (.loc 4))) (S3 vs T R ++ [.lst (R.map .tup)]) = .ok (.next (r3 (.scr (ns.map MV.int)) w x4 x5 y (some (.loc 4)))) (S3 vs T R ++ [.lst (R.map .tup ++ [.tup []])]) := by
    have ha := app_loc (d := .tup []) hS4 (by rw [List.length_map]; omega)
    have ht : tupF [] (S3 vs T R ++ [.lst (R.map .tup)]) = .ok (.val (.tup [])) (S3 vs T R ++ [.lst (R.map .tup)]) := rfl
    unfold F_law_11
    simp? [isl_loc hS4, ht, ha]
    rfl
  obtain ⟨T2, b1, b2, b3⟩ := again_ok (S := S3 vs T R ++ [.lst (R.map .tup ++ [.tup []])]) rfl hT hw hl hR hm
  have hRp := tups_pd fun t ht => hT t ((hm t).mp ht)
  have q1 : eqF (.new (R.map .tup)) (.val (.loc 3)) (S3 vs T R ++ [.lst (R.map .tup ++ [.tup []])]) = .ok (.val (.bl true)) (S3 vs T R ++ [.lst (R.map .tup ++ [.tup []])]) := eq_ls (ds := R.map .tup) rfl rfl hRp
  have hcut : cutF (.val (.loc 4)) none (some (-1)) (S3 vs T R ++ [.lst (R.map .tup ++ [.tup []])]) = .ok (.new (R.map .tup)) (S3 vs T R ++ [.lst (R.map .tup ++ [.tup []])]) := by
    have e : cutL (R.map MV.tup ++ [.tup []]) none (some (-1)) = R.map .tup := by
      unfold cutL
      have h1 : HT.sIx (R.map MV.tup ++ [MV.tup []]).length 0 none = 0 := rfl
      have h2 : HT.sIx (R.map MV.tup ++ [MV.tup []]).length (R.map MV.tup ++ [MV.tup []]).length (some (-1)) = (R.map MV.tup).length := by
        unfold HT.sIx
        simp
        omega
      rw [h1, h2, List.drop_zero, Nat.sub_zero, List.take_left]
    show L2.M.R.ok (Er.new (cutL (R.map MV.tup ++ [.tup []]) none (some (-1)))) _ = _
    rw [e]
  have q2 : eqF (.new (R.map .tup)) (.val (.loc 3)) (S3 vs T R ++ [.lst (R.map .tup ++ [.tup []])]) = .ok (.val (.bl true)) (S3 vs T R ++ [.lst (R.map .tup ++ [.tup []])]) := q1
  have e12 : ∃ S', F_law_12 (r3 (.scr (ns.map MV.int)) w x4 x5 y (some (.loc 4))) (S3 vs T R ++ [.lst (R.map .tup ++ [.tup []])]) = .ok (.ret (.val (.bl true))) S' := by
    refine ⟨S3 vs T R ++ [.lst (R.map .tup ++ [.tup []])], ?_⟩
    unfold F_law_12
    simp? [b1, b2, b3, q1, show ∀ (S : Sto) (k : Sto → L2.M.R Er), andF (.val (.bl true)) S k = k S from fun S k => rfl, hcut]
  obtain ⟨S', e12⟩ := e12
  refine ⟨S', ?_⟩
  unfold f_law F_law
  rw [hs, seq_next e1, seq_next e2, seq_next e3, seq_next e4, seq_next law5, seq_next e6, seq_next (law7 hT), seq_next e8, seq_next (law9 hT hm hl), seq_next e10, seq_next e11, e12]
  rfl
section
variable {P : Program} {w : World} {K : PySem.W.Frag} {mg : Str → Option Value} {base : Heap}
def top (i : Nat) : Stmt := PySem.Challenge.pw_mendsure_k03_tuples_in_order.main.body.getD i (.Pass ⟨0, 0, 0, 0⟩)
abbrev s_value_rank : Stmt := top 1
theorem sc_value_rank : FnScope ["value"] ["value"] (defScope s_value_rank) := ⟨rfl, rfl, rfl, by decide +kernel, rfl, by decide +kernel, by decide +kernel⟩
theorem ok_value_rank {f : Addr} {fd : FuncData} (F : Fun K "value_rank" "value_rank" s_value_rank f fd) (z_str : mg "str" = none) (z_isinstance : mg "isinstance" = none) : FnOk P w K mg base CX0 1 f fd ["value"] (spM ⟨K, mg, P, w⟩ 1 f_value_rank) :=
  okM (k := 0) F_value_rank F sc_value_rank fun cdv A outer s H E hr => (sm_cons (sm_if (tm_plain (pm_callB call_isi cm_isi rfl z_isinstance bt_isinstance (am_cons (pm_var 0) (am_cons (pm_ty rfl z_str bt_str) am_nil)))) (sm_one (sm_ret (pm_tup (am_cons pm_int (am_cons pm_int (am_cons (pm_var 0) am_nil)))))) sm_nil) (sm_one (sm_ret (pm_tup (am_cons pm_int (am_cons (pm_var 0) (am_cons (pm_str []) am_nil)))))))
abbrev s_tuple_rank : Stmt := top 2
theorem sc_tuple_rank : FnScope ["values"] ["values"] (defScope s_tuple_rank) := ⟨rfl, rfl, rfl, by decide +kernel, rfl, by decide +kernel, by decide +kernel⟩
theorem ok_tuple_rank {f : Addr} {fd : FuncData} (F : Fun K "tuple_rank" "tuple_rank" s_tuple_rank f fd) {fa_value_rank : Addr} {fd_value_rank : FuncData} (G_value_rank : FnOk P w K mg base CX0 1 fa_value_rank fd_value_rank ["value"] (spM ⟨K, mg, P, w⟩ 1 f_value_rank)) (m_value_rank : mg "value_rank" = some (.ref fa_value_rank)) (kp_value_rank : PySem.W.keepIn K (.ref fa_value_rank) = true) (b_value_rank : Binds K fd_value_rank ["value"] []) (z_tuple : mg "tuple" = none) : FnOk P w K mg base CX0 2 f fd ["values"] (spM ⟨K, mg, P, w⟩ 1 f_tuple_rank) :=
  okM (k := 1) F_tuple_rank F sc_tuple_rank fun cdv A outer s H E hr => (sm_one (sm_ret (pm_callTy call_tuple_of cm_tuple rfl z_tuple bt_tuple (am_cons (pm_comp (defScope s_tuple_rank) ["values"] ["value"] [] (im_tup (pm_var 0)) rfl (fun _ _ _ _ hN => (gn_name 0 hN)) (fun _ _ _ _ => ifm_nil) (fun _ _ _ _ => (pm_call G_value_rank (hr.mono (by decide)) rfl m_value_rank kp_value_rank b_value_rank (am_cons (pm_var 0) am_nil)))) am_nil))))
abbrev s_in_order : Stmt := top 3
theorem sc_in_order : FnScope ["some", "ordered", "values"] ["some"] (defScope s_in_order) := ⟨rfl, rfl, rfl, by decide +kernel, rfl, by decide +kernel, by decide +kernel⟩
theorem ok_in_order {f : Addr} {fd : FuncData} (F : Fun K "in_order" "in_order" s_in_order f fd) {fa_tuple_rank : Addr} {fd_tuple_rank : FuncData} (G_tuple_rank : FnOk P w K mg base CX0 2 fa_tuple_rank fd_tuple_rank ["values"] (spM ⟨K, mg, P, w⟩ 1 f_tuple_rank)) (m_tuple_rank : mg "tuple_rank" = some (.ref fa_tuple_rank)) (kp_tuple_rank : PySem.W.keepIn K (.ref fa_tuple_rank) = true) (b_tuple_rank : Binds K fd_tuple_rank ["values"] []) (z_sorted : mg "sorted" = none) : FnOk P w K mg base CX0 5 f fd ["some"] (spM ⟨K, mg, P, w⟩ 1 f_in_order) :=
  okM (k := 4) F_in_order F sc_in_order fun cdv A outer s H E hr => (sm_cons (sm_set 1 sc_in_order.nd (pm_lst am_nil)) (sm_cons (sm_for PassesOwn.never rfl (im_list (pm_sorted G_tuple_rank (hr.mono (by decide)) rfl z_sorted rfl m_tuple_rank b_tuple_rank (am_cons (pm_var 0) am_nil))) (gm_name 2 sc_in_order.nd) (sm_one (sm_if (wm_pt (wm_or (tm_not (tm_plain (pm_var 1))) (wm_or1 (tm_ne hr.units (pm_at (pm_var 1) pm_neg) (pm_var 2))))) (sm_one (sm_expr (pm_append (pm_var 1) (am_cons (pm_var 2) am_nil)))) sm_nil))) (sm_one (sm_ret (pm_var 1)))))
abbrev s__law_cell_at : Stmt := top 5
theorem sc__law_cell_at : FnScope ["_law_script", "_law_k"] ["_law_script", "_law_k"] (defScope s__law_cell_at) := ⟨rfl, rfl, rfl, by decide +kernel, rfl, by decide +kernel, by decide +kernel⟩
theorem ok__law_cell_at {f : Addr} {fd : FuncData} (F : Fun K "_law_cell_at" "_law_cell_at" s__law_cell_at f fd) (z_len : mg "len" = none) : FnOk P w K mg base CX0 1 f fd ["_law_script", "_law_k"] (spM ⟨K, mg, P, w⟩ 2 f__law_cell_at) :=
  okM (k := 0) F__law_cell_at F sc__law_cell_at fun cdv A outer s H E hr => (sm_cons (sm_if (tm_lt hr.units (pm_var 1) (pm_callB call_lenM cm_len rfl z_len bt_len (am_cons (pm_var 0) am_nil))) (sm_one (sm_ret (pm_at (pm_var 0) (pm_var 1)))) sm_nil) (sm_one (sm_ret pm_int)))
abbrev s__law_mix : Stmt := top 6
theorem sc__law_mix : FnScope ["_law_cell", "_law_prime", "_law_number"] ["_law_cell", "_law_prime"] (defScope s__law_mix) := ⟨rfl, rfl, rfl, by decide +kernel, rfl, by decide +kernel, by decide +kernel⟩
theorem ok__law_mix {f : Addr} {fd : FuncData} (F : Fun K "_law_mix" "_law_mix" s__law_mix f fd)  : FnOk P w K mg base CX0 1 f fd ["_law_cell", "_law_prime"] (spM ⟨K, mg, P, w⟩ 2 f__law_mix) :=
  okM (k := 0) F__law_mix F sc__law_mix fun cdv A outer s H E hr => (sm_cons (sm_if (tm_eq hr.units (pm_mod (pm_var 0) pm_int) pm_int) (sm_one (sm_ret (pm_mod (pm_div (pm_var 0) pm_int) (pm_pow (pm_pow pm_int pm_int) pm_int)))) sm_nil) (sm_cons (sm_set 2 sc__law_mix.nd (pm_mod (pm_mul (pm_add (pm_mod (pm_var 0) pm_int) pm_int) pm_int) (pm_var 1))) (sm_one (sm_ret (pm_add (pm_mul (pm_mod (pm_mul (pm_var 2) (pm_var 2)) pm_int) pm_int) (pm_var 2))))))
abbrev s__law_name : Stmt := top 7
theorem sc__law_name : FnScope ["_law_cell", "_law_letters", "_law_number", "_law_name_here", "_law_k"] ["_law_cell"] (defScope s__law_name) := ⟨rfl, rfl, rfl, by decide +kernel, rfl, by decide +kernel, by decide +kernel⟩
theorem ok__law_name {f : Addr} {fd : FuncData} (F : Fun K "_law_name" "_law_name" s__law_name f fd) (z_range : mg "range" = none) : FnOk P w K mg base CX0 1 f fd ["_law_cell"] (spM ⟨K, mg, P, w⟩ 1 f__law_name) :=
  okM (k := 0) F__law_name F sc__law_name fun cdv A outer s H E hr => (sm_cons (sm_set 1 sc__law_name.nd (pm_str [97, 98, 99, 100, 101, 102, 103, 104, 105, 106, 107, 108, 109, 110, 111, 112, 113, 114, 115, 116, 117, 118, 119, 120, 121, 122])) (sm_cons (sm_set 2 sc__law_name.nd (pm_div (pm_var 0) pm_int)) (sm_cons (sm_set 3 sc__law_name.nd (pm_str [])) (sm_cons (sm_for PassesOwn.never rfl (im_range1 rfl z_range (am_cons (pm_add pm_int (pm_mod (pm_var 0) pm_int)) am_nil)) (gm_name 4 sc__law_name.nd) (sm_cons (sm_set 3 sc__law_name.nd (pm_add (pm_var 3) (pm_at (pm_var 1) (pm_mod (pm_var 2) pm_int)))) (sm_one (sm_set 2 sc__law_name.nd (pm_div (pm_var 2) pm_int))))) (sm_one (sm_ret (pm_var 3)))))))
abbrev s__law_pool : Stmt := top 8
theorem sc__law_pool : FnScope ["_law_cell", "_law_number", "_law_letters", "_law_name_here", "_law_at", "_law_turned", "_law_other", "_law_great"] ["_law_cell"] (defScope s__law_pool) := ⟨rfl, rfl, rfl, by decide +kernel, rfl, by decide +kernel, by decide +kernel⟩
theorem ok__law_pool {f : Addr} {fd : FuncData} (F : Fun K "_law_pool" "_law_pool" s__law_pool f fd) {fa__law_mix : Addr} {fd__law_mix : FuncData} (G__law_mix : FnOk P w K mg base CX0 1 fa__law_mix fd__law_mix ["_law_cell", "_law_prime"] (spM ⟨K, mg, P, w⟩ 2 f__law_mix)) (m__law_mix : mg "_law_mix" = some (.ref fa__law_mix)) (kp__law_mix : PySem.W.keepIn K (.ref fa__law_mix) = true) (b__law_mix : Binds K fd__law_mix ["_law_cell", "_law_prime"] []) {fa__law_name : Addr} {fd__law_name : FuncData} (G__law_name : FnOk P w K mg base CX0 1 fa__law_name fd__law_name ["_law_cell"] (spM ⟨K, mg, P, w⟩ 1 f__law_name)) (m__law_name : mg "_law_name" = some (.ref fa__law_name)) (kp__law_name : PySem.W.keepIn K (.ref fa__law_name) = true) (b__law_name : Binds K fd__law_name ["_law_cell"] []) (z_len : mg "len" = none) : FnOk P w K mg base CX0 2 f fd ["_law_cell"] (spM ⟨K, mg, P, w⟩ 1 f__law_pool) :=
  okM (k := 1) F__law_pool F sc__law_pool fun cdv A outer s H E hr => (sm_cons (sm_set 1 sc__law_pool.nd (pm_call G__law_mix (hr.mono (by decide)) rfl m__law_mix kp__law_mix b__law_mix (am_cons (pm_var 0) (am_cons pm_int am_nil)))) (sm_cons (sm_set 2 sc__law_pool.nd (pm_str [97, 98, 99, 100, 101, 102, 103, 104, 105, 106, 107, 108, 109, 110, 111, 112, 113, 114, 115, 116, 117, 118, 119, 120, 121, 122])) (sm_cons (sm_set 3 sc__law_pool.nd (pm_call G__law_name (hr.mono (by decide)) rfl m__law_name kp__law_name b__law_name (am_cons (pm_var 1) am_nil))) (sm_cons (sm_set 1 sc__law_pool.nd (pm_div (pm_var 1) (pm_mul pm_int (pm_pow pm_int pm_int)))) (sm_cons (sm_set 4 sc__law_pool.nd (pm_mod (pm_var 1) (pm_callB call_lenM cm_len rfl z_len bt_len (am_cons (pm_var 3) am_nil)))) (sm_cons (sm_set 5 sc__law_pool.nd (pm_add (pm_add (pm_sidx (pm_var 2) (am_cons (pm_at (pm_var 3) (pm_var 4)) am_nil)) pm_int) (pm_mod (pm_div (pm_var 1) pm_int) pm_int))) (sm_cons (sm_set 6 sc__law_pool.nd (pm_add (pm_add (pm_cut (pm_var 3) om_none (om_some (pm_var 4))) (pm_at (pm_var 2) (pm_mod (pm_var 5) pm_int))) (pm_cut (pm_var 3) (om_some (pm_add (pm_var 4) pm_int)) om_none))) (sm_cons (sm_set 1 sc__law_pool.nd (pm_div (pm_var 1) pm_int)) (sm_cons (sm_set 7 sc__law_pool.nd (pm_add (pm_mod (pm_pow (pm_add (pm_mul (pm_mod (pm_var 1) (pm_pow pm_int pm_int)) pm_int) pm_int) pm_int) (pm_sub (pm_pow pm_int pm_int) pm_int)) pm_int)) (sm_cons (sm_if (tm_eq hr.units (pm_mod (pm_var 1) pm_int) pm_int) (sm_one (sm_set 7 sc__law_pool.nd (pm_add (pm_mod (pm_div (pm_var 1) pm_int) (pm_sub (pm_pow pm_int pm_int) pm_int)) pm_int))) sm_nil) (sm_one (sm_ret (pm_lst (am_cons (pm_mod (pm_div (pm_var 1) pm_int) pm_int) (am_cons (pm_var 7) (am_cons (pm_var 3) (am_cons (pm_sub pm_int (pm_var 7)) (am_cons (pm_var 6) (am_cons (pm_add (pm_mod (pm_div (pm_var 1) pm_int) pm_int) pm_int) (am_cons (pm_add (pm_var 7) pm_int) am_nil))))))))))))))))))))
abbrev s__law_alike : Stmt := top 9
theorem sc__law_alike : FnScope ["_law_told", "_law_due"] ["_law_told", "_law_due"] (defScope s__law_alike) := ⟨rfl, rfl, rfl, by decide +kernel, rfl, by decide +kernel, by decide +kernel⟩
theorem ok__law_alike {f : Addr} {fd : FuncData} (F : Fun K "_law_alike" "_law_alike" s__law_alike f fd) (hself : mg "_law_alike" = some (.ref f)) (kself : PySem.W.keepIn K (.ref f) = true) (bself : Binds K fd ["_law_told", "_law_due"] []) (z_str : mg "str" = none) (z_isinstance : mg "isinstance" = none) (z_int : mg "int" = none) (z_bool : mg "bool" = none) (z_list : mg "list" = none) (z_tuple : mg "tuple" = none) (z_len : mg "len" = none) (z_zip : mg "zip" = none) (z_all : mg "all" = none) : ∀ n, FnOk P w K mg base CX0 (0 + n) f fd ["_law_told", "_law_due"] (spM ⟨K, mg, P, w⟩ 2 (f__law_alike n)) := by
  intro n
  induction n with
  | zero => exact fn_no
  | succ n ih0 =>
    have ih : ∀ m, m = n → FnOk P w K mg base CX0 (0 + m) f fd ["_law_told", "_law_due"] (spM ⟨K, mg, P, w⟩ 2 (f__law_alike m)) := fun m e => e ▸ ih0
    exact okM (k := 0 + n) (F__law_alike (f__law_alike n)) F sc__law_alike fun cdv A outer s H E hr => (sm_cons (sm_if (tm_is (pm_var 1) pm_non) (sm_one (sm_ret (pm_is (pm_var 0) pm_non))) sm_nil) (sm_cons (sm_if (tm_plain (pm_callB call_isi cm_isi rfl z_isinstance bt_isinstance (am_cons (pm_var 1) (am_cons (pm_ty rfl z_str bt_str) am_nil)))) (sm_one (sm_ret (pm_and (pm_callB call_isi cm_isi rfl z_isinstance bt_isinstance (am_cons (pm_var 0) (am_cons (pm_ty rfl z_str bt_str) am_nil))) (pm_one (pm_eq hr.units (pm_var 0) (pm_var 1)))))) sm_nil) (sm_cons (sm_if (tm_plain (pm_callB call_isi cm_isi rfl z_isinstance bt_isinstance (am_cons (pm_var 1) (am_cons (pm_ty rfl z_int bt_int) am_nil)))) (sm_one (sm_ret (pm_and (pm_callB call_isi cm_isi rfl z_isinstance bt_isinstance (am_cons (pm_var 0) (am_cons (pm_ty rfl z_int bt_int) am_nil))) (pm_and (pm_not (pm_callB call_isi cm_isi rfl z_isinstance bt_isinstance (am_cons (pm_var 0) (am_cons (pm_ty rfl z_bool bt_bool) am_nil)))) (pm_one (pm_eq hr.units (pm_var 0) (pm_var 1))))))) sm_nil) (sm_cons (sm_if (wm_pt (wm_and (tm_plain (pm_callB call_isi cm_isi rfl z_isinstance bt_isinstance (am_cons (pm_var 1) (am_cons (pm_ty rfl z_list bt_list) am_nil)))) (wm_and1 (tm_not (tm_plain (pm_callB call_isi cm_isi rfl z_isinstance bt_isinstance (am_cons (pm_var 0) (am_cons (pm_ty rfl z_list bt_list) am_nil)))))))) (sm_one (sm_ret pm_bl)) sm_nil) (sm_cons (sm_if (wm_pt (wm_and (tm_plain (pm_callB call_isi cm_isi rfl z_isinstance bt_isinstance (am_cons (pm_var 1) (am_cons (pm_ty rfl z_tuple bt_tuple) am_nil)))) (wm_and1 (tm_not (tm_plain (pm_callB call_isi cm_isi rfl z_isinstance bt_isinstance (am_cons (pm_var 0) (am_cons (pm_ty rfl z_tuple bt_tuple) am_nil)))))))) (sm_one (sm_ret pm_bl)) sm_nil) (sm_one (sm_ret (pm_and (pm_eq hr.units (pm_callB call_lenM cm_len rfl z_len bt_len (am_cons (pm_var 0) am_nil)) (pm_callB call_lenM cm_len rfl z_len bt_len (am_cons (pm_var 1) am_nil))) (pm_one (pm_callB call_all_bls (cm_all rfl) rfl z_all bt_all (am_cons (pm_comp (defScope s__law_alike) ["_law_told", "_law_due"] ["_law_one", "_law_other"] [] (im_zip rfl z_zip (am_cons (pm_var 0) (am_cons (pm_var 1) am_nil))) rfl (fun _ _ _ _ hN => (gn_tup rfl (gn_cons (gn_name 0 hN) (gn_cons (gn_name 1 hN) gn_nil)))) (fun _ _ _ _ => ifm_nil) (fun _ _ _ _ => (pm_call (ih n rfl) (hr.mono (by omega)) rfl hself kself bself (am_cons (pm_var 0) (am_cons (pm_var 1) am_nil))))) am_nil)))))))))))
abbrev s__law_before : Stmt := top 10
theorem sc__law_before : FnScope ["_law_one", "_law_other", "_law_here", "_law_there"] ["_law_one", "_law_other"] (defScope s__law_before) := ⟨rfl, rfl, rfl, by decide +kernel, rfl, by decide +kernel, by decide +kernel⟩
theorem ok__law_before {f : Addr} {fd : FuncData} (F : Fun K "_law_before" "_law_before" s__law_before f fd) (z_zip : mg "zip" = none) (z_str : mg "str" = none) (z_isinstance : mg "isinstance" = none) : FnOk P w K mg base CX0 1 f fd ["_law_one", "_law_other"] (spM ⟨K, mg, P, w⟩ 2 f__law_before) :=
  okM (k := 0) F__law_before F sc__law_before fun cdv A outer s H E hr => (sm_cons (sm_for PassesOwn.never rfl (im_zip rfl z_zip (am_cons (pm_var 0) (am_cons (pm_var 1) am_nil))) (gm_tup rfl (gm_cons (gm_name 2 sc__law_before.nd) (gm_cons (gm_name 3 sc__law_before.nd) gm_nil))) (sm_one (sm_if (tm_ne hr.units (pm_var 2) (pm_var 3)) (sm_cons (sm_if (tm_ne hr.units (pm_callB call_isi cm_isi rfl z_isinstance bt_isinstance (am_cons (pm_var 2) (am_cons (pm_ty rfl z_str bt_str) am_nil))) (pm_callB call_isi cm_isi rfl z_isinstance bt_isinstance (am_cons (pm_var 3) (am_cons (pm_ty rfl z_str bt_str) am_nil)))) (sm_one (sm_ret (pm_callB call_isi cm_isi rfl z_isinstance bt_isinstance (am_cons (pm_var 3) (am_cons (pm_ty rfl z_str bt_str) am_nil))))) sm_nil) (sm_one (sm_ret (pm_lt hr.units (pm_var 2) (pm_var 3))))) sm_nil))) (sm_one (sm_ret pm_bl)))
abbrev s_law : Stmt := top 11
theorem sc_law : FnScope ["_law_script", "_law_pool_here", "_law_wide", "_law_some", "_law_cell", "_law_number", "_law_handed", "_law_told", "_law_k", "_law_again"] ["_law_script"] (defScope s_law) := ⟨rfl, rfl, rfl, by decide +kernel, rfl, by decide +kernel, by decide +kernel⟩
theorem ok_law {f : Addr} {fd : FuncData} (F : Fun K "law" "law" s_law f fd) {fa__law_pool : Addr} {fd__law_pool : FuncData} (G__law_pool : FnOk P w K mg base CX0 2 fa__law_pool fd__law_pool ["_law_cell"] (spM ⟨K, mg, P, w⟩ 1 f__law_pool)) (m__law_pool : mg "_law_pool" = some (.ref fa__law_pool)) (kp__law_pool : PySem.W.keepIn K (.ref fa__law_pool) = true) (b__law_pool : Binds K fd__law_pool ["_law_cell"] []) {fa__law_cell_at : Addr} {fd__law_cell_at : FuncData} (G__law_cell_at : FnOk P w K mg base CX0 1 fa__law_cell_at fd__law_cell_at ["_law_script", "_law_k"] (spM ⟨K, mg, P, w⟩ 2 f__law_cell_at)) (m__law_cell_at : mg "_law_cell_at" = some (.ref fa__law_cell_at)) (kp__law_cell_at : PySem.W.keepIn K (.ref fa__law_cell_at) = true) (b__law_cell_at : Binds K fd__law_cell_at ["_law_script", "_law_k"] []) {fa__law_mix : Addr} {fd__law_mix : FuncData} (G__law_mix : FnOk P w K mg base CX0 1 fa__law_mix fd__law_mix ["_law_cell", "_law_prime"] (spM ⟨K, mg, P, w⟩ 2 f__law_mix)) (m__law_mix : mg "_law_mix" = some (.ref fa__law_mix)) (kp__law_mix : PySem.W.keepIn K (.ref fa__law_mix) = true) (b__law_mix : Binds K fd__law_mix ["_law_cell", "_law_prime"] []) (z_range : mg "range" = none) (z_tuple : mg "tuple" = none) (z_list : mg "list" = none) {fa_in_order : Addr} {fd_in_order : FuncData} (G_in_order : FnOk P w K mg base CX0 5 fa_in_order fd_in_order ["some"] (spM ⟨K, mg, P, w⟩ 1 f_in_order)) (m_in_order : mg "in_order" = some (.ref fa_in_order)) (kp_in_order : PySem.W.keepIn K (.ref fa_in_order) = true) (b_in_order : Binds K fd_in_order ["some"] []) (z_isinstance : mg "isinstance" = none) (z_len : mg "len" = none) {fa__law_alike : Addr} {fd__law_alike : FuncData} (G__law_alike : FnOk P w K mg base CX0 8 fa__law_alike fd__law_alike ["_law_told", "_law_due"] (spM ⟨K, mg, P, w⟩ 2 (f__law_alike 8))) (m__law_alike : mg "_law_alike" = some (.ref fa__law_alike)) (kp__law_alike : PySem.W.keepIn K (.ref fa__law_alike) = true) (b__law_alike : Binds K fd__law_alike ["_law_told", "_law_due"] []) {fa__law_before : Addr} {fd__law_before : FuncData} (G__law_before : FnOk P w K mg base CX0 1 fa__law_before fd__law_before ["_law_one", "_law_other"] (spM ⟨K, mg, P, w⟩ 2 f__law_before)) (m__law_before : mg "_law_before" = some (.ref fa__law_before)) (kp__law_before : PySem.W.keepIn K (.ref fa__law_before) = true) (b__law_before : Binds K fd__law_before ["_law_one", "_law_other"] []) : FnOk P w K mg base CX0 9 f fd ["_law_script"] (spM ⟨K, mg, P, w⟩ 1 f_law) :=
  okM (k := 8) F_law F sc_law fun cdv A outer s H E hr => (sm_cons (sm_set 1 sc_law.nd (pm_call G__law_pool (hr.mono (by decide)) rfl m__law_pool kp__law_pool b__law_pool (am_cons (pm_call G__law_cell_at (hr.mono (by decide)) rfl m__law_cell_at kp__law_cell_at b__law_cell_at (am_cons (pm_var 0) (am_cons pm_int am_nil))) am_nil))) (sm_cons (sm_set 2 sc_law.nd (pm_mod (pm_call G__law_cell_at (hr.mono (by decide)) rfl m__law_cell_at kp__law_cell_at b__law_cell_at (am_cons (pm_var 0) (am_cons pm_int am_nil))) pm_int)) (sm_cons (sm_set 3 sc_law.nd (pm_lst am_nil)) (sm_cons (sm_for PassesOwn.never rfl (im_list (pm_cut (pm_var 0) (om_some pm_int) (om_some pm_int))) (gm_name 4 sc_law.nd) (sm_cons (sm_set 5 sc_law.nd (pm_call G__law_mix (hr.mono (by decide)) rfl m__law_mix kp__law_mix b__law_mix (am_cons (pm_var 4) (am_cons pm_int am_nil)))) (sm_one (sm_expr (pm_append (pm_var 3) (am_cons (pm_callTy call_tuple_of cm_tuple rfl z_tuple bt_tuple (am_cons (pm_comp (defScope s_law) ["_law_script", "_law_pool_here", "_law_wide", "_law_some", "_law_cell", "_law_number", "_law_handed", "_law_told", "_law_k", "_law_again"] ["_law_k"] [1, 5] (im_range1 rfl z_range (am_cons (pm_var 2) am_nil)) rfl (fun _ _ _ _ hN => (gn_name 0 hN)) (fun _ _ _ _ => ifm_nil) (fun _ _ _ _ => (pm_at (pm_var 1) (pm_mod (pm_div (pm_var 2) (pm_at (pm_lst (am_cons pm_int (am_cons pm_int (am_cons pm_int (am_cons pm_int am_nil))))) (pm_var 0))) pm_int)))) am_nil)) am_nil)))))) (sm_cons (sm_set 6 sc_law.nd (pm_callTy call_list_of cm_list rfl z_list bt_list (am_cons (pm_var 3) am_nil))) (sm_cons (sm_set 7 sc_law.nd (pm_call G_in_order (hr.mono (by decide)) rfl m_in_order kp_in_order b_in_order (am_cons (pm_var 6) am_nil))) (sm_cons (sm_if (wm_pt (wm_or (tm_not (tm_plain (pm_callB call_isi cm_isi rfl z_isinstance bt_isinstance (am_cons (pm_var 7) (am_cons (pm_ty rfl z_list bt_list) am_nil))))) (wm_or1 (tm_ne hr.units (pm_var 6) (pm_var 3))))) (sm_one (sm_ret pm_bl)) sm_nil) (sm_cons (sm_for PassesOwn.never rfl (im_range1 rfl z_range (am_cons (pm_callB call_lenM cm_len rfl z_len bt_len (am_cons (pm_var 7) am_nil)) am_nil)) (gm_name 8 sc_law.nd) (sm_cons (sm_if (wm_pt (wm_or (tm_notin hr.units (pm_at (pm_var 7) (pm_var 8)) (pm_var 3)) (wm_or1 (tm_not (tm_plain (pm_call G__law_alike (hr.mono (by decide)) rfl m__law_alike kp__law_alike b__law_alike (am_cons (pm_at (pm_var 7) (pm_var 8)) (am_cons (pm_at (pm_var 3) (pm_lidx hr.units (pm_var 3) (am_cons (pm_at (pm_var 7) (pm_var 8)) am_nil))) am_nil)))))))) (sm_one (sm_ret pm_bl)) sm_nil) (sm_one (sm_if (wm_pt (wm_and (tm_gt (pm_var 8) pm_int) (wm_and1 (tm_not (tm_plain (pm_call G__law_before (hr.mono (by decide)) rfl m__law_before kp__law_before b__law_before (am_cons (pm_at (pm_var 7) (pm_sub (pm_var 8) pm_int)) (am_cons (pm_at (pm_var 7) (pm_var 8)) am_nil)))))))) (sm_one (sm_ret pm_bl)) sm_nil)))) (sm_cons (sm_if (tm_ne hr.units (pm_comp (defScope s_law) ["_law_script", "_law_pool_here", "_law_wide", "_law_some", "_law_cell", "_law_number", "_law_handed", "_law_told", "_law_k", "_law_again"] ["_law_one"] [7] (im_list (pm_var 3)) rfl (fun _ _ _ _ hN => (gn_name 0 hN)) (fun _ _ _ _ => (ifm_one (tm_notin hr.units (pm_var 0) (pm_var 1)))) (fun _ _ _ _ => (pm_var 0))) (pm_lst am_nil)) (sm_one (sm_ret pm_bl)) sm_nil) (sm_cons (sm_set 9 sc_law.nd (pm_call G_in_order (hr.mono (by decide)) rfl m_in_order kp_in_order b_in_order (am_cons (pm_add (pm_step (st := -1) (by decide) (pm_var 3) om_none om_none step_neg) (pm_var 3)) am_nil))) (sm_cons (sm_expr (pm_append (pm_var 9) (am_cons (pm_tup am_nil) am_nil))) (sm_one (sm_ret (pm_and (pm_eq hr.units (pm_call G_in_order (hr.mono (by decide)) rfl m_in_order kp_in_order b_in_order (am_cons (pm_add (pm_step (st := -1) (by decide) (pm_var 3) om_none om_none step_neg) (pm_var 3)) am_nil)) (pm_var 7)) (pm_one (pm_eq hr.units (pm_cut (pm_var 9) om_none (om_some pm_neg)) (pm_var 7)))))))))))))))))
end
theorem all_mk {l : PySem.W.OpenLaw} {w : World} {K : PySem.W.Frag} {h : Heap} {mg : Str → Option Value} {fa : Addr} (X : K.In h) (GG : h.Ns mainGlobals mg) (hfa : mg "law" = some (.ref fa))
    {g0 : Addr} {od0 an0 : Option Addr} {sl0 : Array (Option Value)} {oc0 kV0 dc0 pm0 cd0 ct0 : Value} (a0 : PySem.W.nsIn K mainGlobals "value_rank" = some (some (.ref g0))) (l0 : K.lookup g0 = some ⟨oc0, od0, .func (PySem.W.fnOf "value_rank" "value_rank" (defArgs s_value_rank) (defBody s_value_rank) (defScope s_value_rank) .none kV0 dc0 pm0 an0 cd0 ct0), sl0⟩) (c0 : PySem.W.codeIn K cd0 "value_rank" = true) (k0 : PySem.W.keepIn K (.ref g0) = true)
    {g1 : Addr} {od1 an1 : Option Addr} {sl1 : Array (Option Value)} {oc1 kV1 dc1 pm1 cd1 ct1 : Value} (a1 : PySem.W.nsIn K mainGlobals "tuple_rank" = some (some (.ref g1))) (l1 : K.lookup g1 = some ⟨oc1, od1, .func (PySem.W.fnOf "tuple_rank" "tuple_rank" (defArgs s_tuple_rank) (defBody s_tuple_rank) (defScope s_tuple_rank) .none kV1 dc1 pm1 an1 cd1 ct1), sl1⟩) (c1 : PySem.W.codeIn K cd1 "tuple_rank" = true) (k1 : PySem.W.keepIn K (.ref g1) = true)
    {g2 : Addr} {od2 an2 : Option Addr} {sl2 : Array (Option Value)} {oc2 kV2 dc2 pm2 cd2 ct2 : Value} (a2 : PySem.W.nsIn K mainGlobals "in_order" = some (some (.ref g2))) (l2 : K.lookup g2 = some ⟨oc2, od2, .func (PySem.W.fnOf "in_order" "in_order" (defArgs s_in_order) (defBody s_in_order) (defScope s_in_order) .none kV2 dc2 pm2 an2 cd2 ct2), sl2⟩) (c2 : PySem.W.codeIn K cd2 "in_order" = true) (k2 : PySem.W.keepIn K (.ref g2) = true)
    {g3 : Addr} {od3 an3 : Option Addr} {sl3 : Array (Option Value)} {oc3 kV3 dc3 pm3 cd3 ct3 : Value} (a3 : PySem.W.nsIn K mainGlobals "_law_cell_at" = some (some (.ref g3))) (l3 : K.lookup g3 = some ⟨oc3, od3, .func (PySem.W.fnOf "_law_cell_at" "_law_cell_at" (defArgs s__law_cell_at) (defBody s__law_cell_at) (defScope s__law_cell_at) .none kV3 dc3 pm3 an3 cd3 ct3), sl3⟩) (c3 : PySem.W.codeIn K cd3 "_law_cell_at" = true) (k3 : PySem.W.keepIn K (.ref g3) = true)
    {g4 : Addr} {od4 an4 : Option Addr} {sl4 : Array (Option Value)} {oc4 kV4 dc4 pm4 cd4 ct4 : Value} (a4 : PySem.W.nsIn K mainGlobals "_law_mix" = some (some (.ref g4))) (l4 : K.lookup g4 = some ⟨oc4, od4, .func (PySem.W.fnOf "_law_mix" "_law_mix" (defArgs s__law_mix) (defBody s__law_mix) (defScope s__law_mix) .none kV4 dc4 pm4 an4 cd4 ct4), sl4⟩) (c4 : PySem.W.codeIn K cd4 "_law_mix" = true) (k4 : PySem.W.keepIn K (.ref g4) = true)
    {g5 : Addr} {od5 an5 : Option Addr} {sl5 : Array (Option Value)} {oc5 kV5 dc5 pm5 cd5 ct5 : Value} (a5 : PySem.W.nsIn K mainGlobals "_law_name" = some (some (.ref g5))) (l5 : K.lookup g5 = some ⟨oc5, od5, .func (PySem.W.fnOf "_law_name" "_law_name" (defArgs s__law_name) (defBody s__law_name) (defScope s__law_name) .none kV5 dc5 pm5 an5 cd5 ct5), sl5⟩) (c5 : PySem.W.codeIn K cd5 "_law_name" = true) (k5 : PySem.W.keepIn K (.ref g5) = true)
    {g6 : Addr} {od6 an6 : Option Addr} {sl6 : Array (Option Value)} {oc6 kV6 dc6 pm6 cd6 ct6 : Value} (a6 : PySem.W.nsIn K mainGlobals "_law_pool" = some (some (.ref g6))) (l6 : K.lookup g6 = some ⟨oc6, od6, .func (PySem.W.fnOf "_law_pool" "_law_pool" (defArgs s__law_pool) (defBody s__law_pool) (defScope s__law_pool) .none kV6 dc6 pm6 an6 cd6 ct6), sl6⟩) (c6 : PySem.W.codeIn K cd6 "_law_pool" = true) (k6 : PySem.W.keepIn K (.ref g6) = true)
    {g7 : Addr} {od7 an7 : Option Addr} {sl7 : Array (Option Value)} {oc7 kV7 dc7 pm7 cd7 ct7 : Value} (a7 : PySem.W.nsIn K mainGlobals "_law_alike" = some (some (.ref g7))) (l7 : K.lookup g7 = some ⟨oc7, od7, .func (PySem.W.fnOf "_law_alike" "_law_alike" (defArgs s__law_alike) (defBody s__law_alike) (defScope s__law_alike) .none kV7 dc7 pm7 an7 cd7 ct7), sl7⟩) (c7 : PySem.W.codeIn K cd7 "_law_alike" = true) (k7 : PySem.W.keepIn K (.ref g7) = true)
    {g8 : Addr} {od8 an8 : Option Addr} {sl8 : Array (Option Value)} {oc8 kV8 dc8 pm8 cd8 ct8 : Value} (a8 : PySem.W.nsIn K mainGlobals "_law_before" = some (some (.ref g8))) (l8 : K.lookup g8 = some ⟨oc8, od8, .func (PySem.W.fnOf "_law_before" "_law_before" (defArgs s__law_before) (defBody s__law_before) (defScope s__law_before) .none kV8 dc8 pm8 an8 cd8 ct8), sl8⟩) (c8 : PySem.W.codeIn K cd8 "_law_before" = true) (k8 : PySem.W.keepIn K (.ref g8) = true)
    {g9 : Addr} {od9 an9 : Option Addr} {sl9 : Array (Option Value)} {oc9 kV9 dc9 pm9 cd9 ct9 : Value} (a9 : PySem.W.nsIn K mainGlobals "law" = some (some (.ref g9))) (l9 : K.lookup g9 = some ⟨oc9, od9, .func (PySem.W.fnOf "law" "law" (defArgs s_law) (defBody s_law) (defScope s_law) .none kV9 dc9 pm9 an9 cd9 ct9), sl9⟩) (c9 : PySem.W.codeIn K cd9 "law" = true) (k9 : PySem.W.keepIn K (.ref g9) = true)
    (z_all : PySem.W.nsIn K mainGlobals "all" = some none)
    (z_bool : PySem.W.nsIn K mainGlobals "bool" = some none)
    (z_int : PySem.W.nsIn K mainGlobals "int" = some none)
    (z_isinstance : PySem.W.nsIn K mainGlobals "isinstance" = some none)
    (z_len : PySem.W.nsIn K mainGlobals "len" = some none)
    (z_list : PySem.W.nsIn K mainGlobals "list" = some none)
    (z_range : PySem.W.nsIn K mainGlobals "range" = some none)
    (z_sorted : PySem.W.nsIn K mainGlobals "sorted" = some none)
    (z_str : PySem.W.nsIn K mainGlobals "str" = some none)
    (z_tuple : PySem.W.nsIn K mainGlobals "tuple" = some none)
    (z_zip : PySem.W.nsIn K mainGlobals "zip" = some none)
    : ∃ fd : FuncData, (∀ (s : Shared) (v : Value), BindsTo s fd ⟨[v], []⟩ [("_law_script", v)]) ∧ ∀ base : Heap, K.In base → base.Ns mainGlobals mg → FnOk l.prog w K mg base CX0 9 fa fd ["_law_script"] (spLaw K f_law) := by
  have e := hfa.symm.trans (PySem.W.mg_of X GG a9)
  cases e
  have Z_all := PySem.W.mg_none_of X GG z_all
  have Z_bool := PySem.W.mg_none_of X GG z_bool
  have Z_int := PySem.W.mg_none_of X GG z_int
  have Z_isinstance := PySem.W.mg_none_of X GG z_isinstance
  have Z_len := PySem.W.mg_none_of X GG z_len
  have Z_list := PySem.W.mg_none_of X GG z_list
  have Z_range := PySem.W.mg_none_of X GG z_range
  have Z_sorted := PySem.W.mg_none_of X GG z_sorted
  have Z_str := PySem.W.mg_none_of X GG z_str
  have Z_tuple := PySem.W.mg_none_of X GG z_tuple
  have Z_zip := PySem.W.mg_none_of X GG z_zip
  have F0 := fun_mk (st := s_value_rank) l0 c0 k0
  have b0 := F0.binds (ps := ["value"]) fun _ _ _ _ _ _ us hl => match us, hl with | [_], _ => rfl
  have m0 := PySem.W.mg_of X GG a0
  have F1 := fun_mk (st := s_tuple_rank) l1 c1 k1
  have b1 := F1.binds (ps := ["values"]) fun _ _ _ _ _ _ us hl => match us, hl with | [_], _ => rfl
  have m1 := PySem.W.mg_of X GG a1
  have F2 := fun_mk (st := s_in_order) l2 c2 k2
  have b2 := F2.binds (ps := ["some"]) fun _ _ _ _ _ _ us hl => match us, hl with | [_], _ => rfl
  have m2 := PySem.W.mg_of X GG a2
  have F3 := fun_mk (st := s__law_cell_at) l3 c3 k3
  have b3 := F3.binds (ps := ["_law_script", "_law_k"]) fun _ _ _ _ _ _ us hl => match us, hl with | [_, _], _ => rfl
  have m3 := PySem.W.mg_of X GG a3
  have F4 := fun_mk (st := s__law_mix) l4 c4 k4
  have b4 := F4.binds (ps := ["_law_cell", "_law_prime"]) fun _ _ _ _ _ _ us hl => match us, hl with | [_, _], _ => rfl
  have m4 := PySem.W.mg_of X GG a4
  have F5 := fun_mk (st := s__law_name) l5 c5 k5
  have b5 := F5.binds (ps := ["_law_cell"]) fun _ _ _ _ _ _ us hl => match us, hl with | [_], _ => rfl
  have m5 := PySem.W.mg_of X GG a5
  have F6 := fun_mk (st := s__law_pool) l6 c6 k6
  have b6 := F6.binds (ps := ["_law_cell"]) fun _ _ _ _ _ _ us hl => match us, hl with | [_], _ => rfl
  have m6 := PySem.W.mg_of X GG a6
  have F7 := fun_mk (st := s__law_alike) l7 c7 k7
  have b7 := F7.binds (ps := ["_law_told", "_law_due"]) fun _ _ _ _ _ _ us hl => match us, hl with | [_, _], _ => rfl
  have m7 := PySem.W.mg_of X GG a7
  have F8 := fun_mk (st := s__law_before) l8 c8 k8
  have b8 := F8.binds (ps := ["_law_one", "_law_other"]) fun _ _ _ _ _ _ us hl => match us, hl with | [_, _], _ => rfl
  have m8 := PySem.W.mg_of X GG a8
  have F9 := fun_mk (st := s_law) l9 c9 k9
  have b9 := F9.binds (ps := ["_law_script"]) fun _ _ _ _ _ _ us hl => match us, hl with | [_], _ => rfl
  have m9 := PySem.W.mg_of X GG a9
  refine ⟨PySem.W.fnOf "law" "law" (defArgs s_law) (defBody s_law) (defScope s_law) .none kV9 dc9 pm9 an9 cd9 ct9, fun s v => .of_eq rfl, fun base _ _ => ?_⟩
  have G0 := ok_value_rank (P := l.prog) (w := w) (mg := mg) (base := base) F0 Z_str Z_isinstance
  have G1 := ok_tuple_rank (P := l.prog) (w := w) (mg := mg) (base := base) F1 G0 m0 k0 b0 Z_tuple
  have G2 := ok_in_order (P := l.prog) (w := w) (mg := mg) (base := base) F2 G1 m1 k1 b1 Z_sorted
  have G3 := ok__law_cell_at (P := l.prog) (w := w) (mg := mg) (base := base) F3 Z_len
  have G4 := ok__law_mix (P := l.prog) (w := w) (mg := mg) (base := base) F4
  have G5 := ok__law_name (P := l.prog) (w := w) (mg := mg) (base := base) F5 Z_range
  have G6 := ok__law_pool (P := l.prog) (w := w) (mg := mg) (base := base) F6 G4 m4 k4 b4 G5 m5 k5 b5 Z_len
  have G7 := ok__law_alike (P := l.prog) (w := w) (mg := mg) (base := base) F7 m7 k7 b7 Z_str Z_isinstance Z_int Z_bool Z_list Z_tuple Z_len Z_zip Z_all 8
  have G8 := ok__law_before (P := l.prog) (w := w) (mg := mg) (base := base) F8 Z_zip Z_str Z_isinstance
  have G9 := ok_law (P := l.prog) (w := w) (mg := mg) (base := base) F9 G6 m6 k6 b6 G3 m3 k3 b3 G4 m4 k4 b4 Z_range Z_tuple Z_list G2 m2 k2 b2 Z_isinstance Z_len G7 m7 k7 b7 G8 m8 k8 b8
  exact G9.imp fun vs H Q E => spLaw_of (g := ⟨K, mg, l.prog, w⟩) vs H Q E
theorem walk {l : PySem.W.OpenLaw} {q : Program} {loose : List Str} {XP : (Str → Option Value) → Heap → Prop} {YP : World → Heap → Prop} {d : DefRec} {K : Params → PySem.W.Frag} (hn : l.most = some 63) (hdf : d.params.defaults = [])
    (hY : ∀ (w : World) (h : Heap), YP w h → (K w.params).In h)
    (F : ∀ (w : World) (mg : Str → Option Value) (fa : Addr) (h : Heap), (K w.params).In h → h.Ns mainGlobals mg → mg d.name = some (.ref fa) →
      ∃ fd : FuncData, (∀ (s : Shared) (u : Value), BindsTo s fd ⟨[u], []⟩ [("_law_script", u)]) ∧ ∀ base : Heap, (K w.params).In base → base.Ns mainGlobals mg → FnOk l.prog w (K w.params) mg base CX0 9 fa fd ["_law_script"] (spLaw (K w.params) f_law)) :
    PySem.W.WalkO q loose XP YP l.row.toRowW d [] (fun f vs => PySem.call f vs) :=
  L2.walk_of (n := 63) (k := 9) (x := "_law_script") (CX := fun _ => CX0) (sp := fun w => spLaw (K w.params) f_law) hn (by decide) hdf ⟨rfl, by decide, by decide⟩ hY F
    (fun w H a ns hl hO hS => law_head hO hS (law_true ns hl)) fun _ _ _ _ _ z => z
end My
end M
end L2
open PySem PySem.W PyProof.Rows
set_option maxRecDepth 100000 in
set_option maxHeartbeats 0 in
theorem PySem.Challenge.cw_mendsure_k03_tuples_in_order_holds : PySem.Challenge.rw_mendsure_k03_tuples_in_order.Holds := by
  w_on; o_law; k_head; (case hw => w_witness2)
  k_fill
  refine L2.M.My.walk (l := PySem.Challenge.rw_mendsure_k03_tuples_in_order) rfl rfl (fun w h Y => PySem.W.kIn_of Y) ?F
  case F =>
    intro w mg fa h KX G hmg
    refine' L2.M.My.all_mk KX G hmg ?a0 ?l0 ?c0 ?k0 ?a1 ?l1 ?c1 ?k1 ?a2 ?l2 ?c2 ?k2 ?a3 ?l3 ?c3 ?k3 ?a4 ?l4 ?c4 ?k4 ?a5 ?l5 ?c5 ?k5 ?a6 ?l6 ?c6 ?k6 ?a7 ?l7 ?c7 ?k7 ?a8 ?l8 ?c8 ?k8 ?a9 ?l9 ?c9 ?k9 ?z_all ?z_bool ?z_int ?z_isinstance ?z_len ?z_list ?z_range ?z_sorted ?z_str ?z_tuple ?z_zip
    (case a0 => k_is)
    (case l0 => k_is)
    (case c0 => k_is)
    (case k0 => k_is)
    (case a1 => k_is)
    (case l1 => k_is)
    (case c1 => k_is)
    (case k1 => k_is)
    (case a2 => k_is)
    (case l2 => k_is)
    (case c2 => k_is)
    (case k2 => k_is)
    (case a3 => k_is)
    (case l3 => k_is)
    (case c3 => k_is)
    (case k3 => k_is)
    (case a4 => k_is)
    (case l4 => k_is)
    (case c4 => k_is)
    (case k4 => k_is)
    (case a5 => k_is)
    (case l5 => k_is)
    (case c5 => k_is)
    (case k5 => k_is)
    (case a6 => k_is)
    (case l6 => k_is)
    (case c6 => k_is)
    (case k6 => k_is)
    (case a7 => k_is)
    (case l7 => k_is)
    (case c7 => k_is)
    (case k7 => k_is)
    (case a8 => k_is)
    (case l8 => k_is)
    (case c8 => k_is)
    (case k8 => k_is)
    (case a9 => k_is)
    (case l9 => k_is)
    (case c9 => k_is)
    (case k9 => k_is)
    (case z_all => k_is)
    (case z_bool => k_is)
    (case z_int => k_is)
    (case z_isinstance => k_is)
    (case z_len => k_is)
    (case z_list => k_is)
    (case z_range => k_is)
    (case z_sorted => k_is)
    (case z_str => k_is)
    (case z_tuple => k_is)
    (case z_zip => k_is)
