import PyProof.Rows.All
import Wide.All
import OpenK.AllK
import Wide.FinOn
import Lean
import PyProof.EqAt
import PyProof.EqKinds
import PyProof.TupleCall
import PySem.Challenge.RW_mendsure_k06_a_book_as_handed_in
set_option Elab.async false
set_option linter.all false
set_option maxRecDepth 100000
noncomputable section
namespace L2
open PySem PySem.Spec PyProof.Rows
abbrev Key := Sum Int Str
noncomputable def zOY : Key → Value → Bool
  | .inl k, v => Value.isInt k v
  | .inr x, v => Value.isStrOf x v
noncomputable def keyH (w : World) : Key → Int
  | .inl k => hashInt k
  | .inr x => hashStr w x
theorem wI : ∀ {k : Key} {v : Value}, zOY k v = true → (∃ i t, k = Sum.inl i ∧ v = Value.int i t) ∨ (∃ x t, k = Sum.inr x ∧ v = Value.str x t)
  | .inl i, v, h => by
    obtain ⟨t, e⟩ := Value.isInt_shape (k := i) (v := v) h
    exact .inl ⟨i, t, rfl, e⟩
  | .inr x, v, h => by
    obtain ⟨t, e⟩ := Value.isStrOf_shape (x := x) (v := v) h
    exact .inr ⟨x, t, rfl, e⟩
theorem yKS (a b : Int) : decide ((Sum.inl a : Key) = Sum.inl b) = (a == b) := by
  by_cases e : a = b
  · subst e; simp
  · have h : ¬ (Sum.inl a : Key) = Sum.inl b := fun q => e (Sum.inl.inj q)
    rw [decide_eq_false h]
    exact (beq_eq_false_iff_ne.mpr e).symm
theorem yKT (a b : Str) : decide ((Sum.inr a : Key) = Sum.inr b) = decide (a = b) := by
  by_cases e : a = b
  · subst e; simp
  · have h : ¬ (Sum.inr a : Key) = Sum.inr b := fun q => e (Sum.inr.inj q)
    rw [decide_eq_false h, decide_eq_false e]
theorem yKU (a : Int) (b : Str) : decide ((Sum.inl a : Key) = Sum.inr b) = false := decide_eq_false (fun q => nomatch q)
theorem yKV (a : Str) (b : Int) : decide ((Sum.inr a : Key) = Sum.inl b) = false := decide_eq_false (fun q => nomatch q)
noncomputable def zOL (prog : Program) (w : World) : PySem.KeyKind prog w Key where
  is := zOY
  hash := keyH w
  inj := fun v a b ha hb => by
    rcases wI ha with ⟨i, t, rfl, rfl⟩ | ⟨x, t, rfl, rfl⟩
    · rcases wI hb with ⟨j, u, rfl, e⟩ | ⟨y, u, rfl, e⟩
      · injection e with e1 _; rw [e1]
      · exact nomatch e
    · rcases wI hb with ⟨j, u, rfl, e⟩ | ⟨y, u, rfl, e⟩
      · exact nomatch e
      · injection e with e1 _; rw [e1]
  byValue := fun k v h => by
    rcases wI h with ⟨i, t, rfl, rfl⟩ | ⟨x, t, rfl, rfl⟩ <;> rfl
  pyHash := fun hv h => by
    rcases wI hv with ⟨i, t, rfl, rfl⟩ | ⟨x, t, rfl, rfl⟩
    · exact wpAny_pyHash_int h
    · exact wpAny_pyHash_str h
  eqBool := fun hu hv h => by
    rcases wI hu with ⟨i, t, rfl, rfl⟩ | ⟨x, t, rfl, rfl⟩
    · rcases wI hv with ⟨j, u, rfl, rfl⟩ | ⟨y, u, rfl, rfl⟩
      · rw [yKS] at h; exact wpAny_eqBool_int h
      · rw [yKU] at h; exact SeqAt.EqAt.int_str i t y u _ _ _ _ h
    · rcases wI hv with ⟨j, u, rfl, rfl⟩ | ⟨y, u, rfl, rfl⟩
      · rw [yKV] at h; exact SeqAt.EqAt.str_int x t j u _ _ _ _ h
      · rw [yKT] at h; exact wpAny_eqBool_str h
  «strs» := fun k x t v h => by
    rcases wI h with ⟨i, u, rfl, e⟩ | ⟨y, u, rfl, e⟩
    · exact nomatch e
    · injection e with e1 _
      subst e1
      cases v <;> rfl
end L2
namespace L2
open PySem PySem.Spec PyProof.Rows
inductive V where
  | non | bl (b : Bool) | int (i : Int) | str (x : Str) | byt (b : Array UInt8) | flt (b : UInt64) | ref (a : Addr) | ty (n : String)
  deriving DecidableEq
noncomputable def RelV : V → Value → Prop
  | .non, u => u = Value.none
  | .bl b, u => u = Value.bool b
  | .int i, u => ∃ t, u = Value.int i t
  | .str x, u => ∃ t, u = Value.str x t
  | .byt b, u => ∃ t, u = Value.bytes b t
  | .flt b, u => ∃ t, u = Value.float b t
  | .ref a, u => u = Value.ref a
  | .ty n, u => u = Value.type n
abbrev Vals : List V → List Value → Prop := Paired RelV
theorem Vals.length {xs : List V} {us : List Value} (r : Vals xs us) : xs.length = us.length := Paired.length r
theorem Vals.get : ∀ {xs : List V} {us : List Value} {i : Nat} {x : V}, Vals xs us → xs[i]? = some x → ∃ u, us[i]? = some u ∧ RelV x u
  | _, _, _, _, .nil, e => by simp at e
  | _, _, 0, _, .cons r _, e => by simp at e; subst e; exact ⟨_, rfl, r⟩
  | _, _, i + 1, x, .cons _ t, e => by
    obtain ⟨u, h1, h2⟩ := Vals.get (i := i) (x := x) t (by simpa using e)
    exact ⟨u, by simpa using h1, h2⟩
theorem Vals.set {x : V} {u : Value} (r : RelV x u) : ∀ {xs : List V} {us : List Value} (i : Nat), Vals xs us → Vals (xs.set i x) (us.set i u)
  | _, _, _, .nil => .nil
  | _, _, 0, .cons _ t => .cons r t
  | _, _, i + 1, .cons q t => .cons q (Vals.set r i t)
theorem Vals.append : ∀ {xs ys : List V} {us ws : List Value}, Vals xs us → Vals ys ws → Vals (xs ++ ys) (us ++ ws)
  | _, _, _, _, .nil, s => s
  | _, _, _, _, .cons r t, s => .cons r (Vals.append t s)
theorem Vals.take : ∀ {xs : List V} {us : List Value} (n : Nat), Vals xs us → Vals (xs.take n) (us.take n)
  | _, _, 0, _ => .nil
  | _, _, _ + 1, .nil => .nil
  | _, _, n + 1, .cons r t => .cons r (Vals.take n t)
theorem Vals.drop : ∀ {xs : List V} {us : List Value} (n : Nat), Vals xs us → Vals (xs.drop n) (us.drop n)
  | _, _, 0, r => r
  | _, _, _ + 1, .nil => .nil
  | _, _, n + 1, .cons _ t => Vals.drop n t
noncomputable def RelO : Option V → Option Value → Prop
  | some v, some u => RelV v u
  | none, none => True
  | _, _ => False
noncomputable def KV {κ : Type} : List (κ × V) → List (κ × Value) → Prop := Paired fun (p : κ × V) (q : κ × Value) => p.1 = q.1 ∧ RelV p.2 q.2
noncomputable def kV : Key → V
  | .inl i => .int i
  | .inr x => .str x
inductive HO where
  | lst (xs : List V)
  | tup (xs : List V)
  | dK (kvs : List (Key × V)) | dT (kvs : List (List Key × V))
  | set (S : Int → Bool) (n : Nat)
  | ins (C dx : Addr) (fs : List (Str × V))
  | own (x : Addr)
  | xd (fs : List (Str × V))
  | met (f x : Addr)
  | rng (lo hi : Int)
  | frz (o : Obj) (u : HO)
  | tbl (ps : Array Value)
  | ext (φ : Heap → Prop)
abbrev Hp := Addr → Option HO
noncomputable def upd (H : Hp) (a : Addr) (o : HO) : Hp := fun b => if b = a then some o else H b
theorem kP {H : Hp} {a : Addr} {o : HO} : upd H a o a = some o := by unfold upd; rw [if_pos rfl]
theorem yW {H : Hp} {a b : Addr} {o : HO} (h : b ≠ a) : upd H a o b = H b := by unfold upd; rw [if_neg h]
theorem xO {H : Hp} {a b : Addr} {o : HO} (h : H a = some o) (h' : H b = none) : a ≠ b := by
  intro e; subst e; rw [h] at h'; cases h'
section
variable (P : Program) (w : World)
noncomputable def ObjOk (H : Hp) (h : Heap) (a : Addr) : HO → Prop
  | .lst xs => xs.length ≤ sizeLine ∧ ∃ (its : List Value) (n : Nat), Vals xs its ∧ h.get? a = some { cls := .type "list", data := .seq its.toArray n }
  | .tup xs => xs.length ≤ sizeLine ∧ ∃ its : List Value, Vals xs its ∧ IsTup h a its.toArray
  | .dK kvs => kvs.length ≤ sizeLine ∧ (a == sysModules) = false ∧ ∃ vs, KV kvs vs ∧ h.DictOf (zOL P w) a vs
  | .dT kvs => kvs.length ≤ sizeLine ∧ (a == sysModules) = false ∧ ∃ xs : List (List Key × Addr × Value),
      Paired (fun (p : List Key × V) (q : List Key × Addr × Value) => p.1 = q.1 ∧ H q.2.1 = some (.tup (p.1.map kV)) ∧ RelV p.2 q.2.2) kvs xs ∧
      ∃ o es ep, h.get? a = some o ∧ o.ExactDict ∧ o.data = .dict es ep ∧ es.toList = xs.map (entryOfKey (tupleKind (zOL P w))) ∧ (xs.map (·.1)).Nodup
  | .set S n => h.SetOf (intKind P w) a S n
  | .ins C dx fs => H dx = some (.own a) ∧ fs.length ≤ 1000 ∧ dx ≠ a ∧ h.get? a = some (PySem.W.instObj C dx) ∧
      ∃ mA, h.Ns1 dx mA ∧ (∀ f, RelO (fs.lookup f) (mA f)) ∧ PySem.Within mA (fs.map (·.1))
  | .own _ => ∃ o, h.get? a = some o
  | .xd fs => ∃ mA, h.Ns1 a mA ∧ ∀ f, RelO (fs.lookup f) (mA f)
  | .rng lo hi => ∃ t u v, h.get? a = some { cls := .type "range", data := .fields #[.int lo t, .int hi u, .int 1 v] }
  | .frz o u => h.get? a = some o ∧ ObjOk H h a u
  | .tbl ps => h.get? a = some { cls := .none, data := .fields ps }
  | .met f x => h.get? a = some (PySem.W.methodObj (.ref f) (.ref x))
  | .ext φ => φ h ∧ (∃ o, h.get? a = some o) ∧ ∀ h1 h2 : Heap, φ h1 → (∀ o, h1.get? a = some o → h2.get? a = some o) → φ h2
noncomputable def HOk (H : Hp) (h : Heap) : Prop := ∀ a o, H a = some o → ObjOk P w H h a o
end
section
variable {P : Program} {w : World} {H H' : Hp} {h h' : Heap} {a : Addr} {o : HO}
theorem ObjOk.lt (x : ObjOk P w H h a o) : a < h.objs.size := by
  cases o with
  | lst xs => obtain ⟨_, _, _, _, e⟩ := x; exact Heap.lt_size e
  | tup xs => obtain ⟨_, _, _, p⟩ := x; exact p.lt
  | dK kvs => obtain ⟨_, _, _, _, o, _, _, e, _⟩ := x; exact Heap.lt_size e
  | dT kvs => obtain ⟨_, _, _, _, o, _, _, e, _⟩ := x; exact Heap.lt_size e
  | set S n => obtain ⟨o, _, _, _, e, _⟩ := x; exact Heap.lt_size e
  | ins C dx fs => obtain ⟨_, _, _, e, _⟩ := x; exact Heap.lt_size e
  | own y => obtain ⟨_, e⟩ := x; exact Heap.lt_size e
  | xd fs => obtain ⟨_, ⟨_, _, _, e, _⟩, _⟩ := x; exact Heap.lt_size e
  | rng lo hi => obtain ⟨_, _, _, e⟩ := x; exact Heap.lt_size e
  | frz ob u => obtain ⟨e, _⟩ := x; exact Heap.lt_size e
  | tbl ps => exact Heap.lt_size (show h.get? a = some _ from x)
  | met f y => exact Heap.lt_size (show h.get? a = some _ from x)
  | ext φ => obtain ⟨_, ⟨_, e⟩, _⟩ := x; exact Heap.lt_size e
theorem Paired.mapP {α β : Type} {F G : α → β → Prop} : ∀ {l₁ : List α} {l₂ : List β}, Paired F l₁ l₂ → (∀ a b, F a b → G a b) → Paired G l₁ l₂
  | _, _, .nil, _ => .nil
  | _, _, .cons r t, f => .cons (f _ _ r) (Paired.mapP t f)
theorem ObjOk.stay (x : ObjOk P w H h a o) (k : ∀ b u, (b = a ∨ H b = some (.own a)) → h.get? b = some u → h'.get? b = some u)
    (ho : ∀ b, H b = some (.own a) → H' b = some (.own a)) (ht : ∀ b xs, H b = some (.tup xs) → H' b = some (.tup xs)) : ObjOk P w H' h' a o := by
  induction o with
  | lst xs => obtain ⟨z, its, n, r, e⟩ := x; exact ⟨z, its, n, r, k _ _ (.inl rfl) e⟩
  | tup xs => obtain ⟨z, its, r, ob, e, c⟩ := x; exact ⟨z, its, r, ob, k _ _ (.inl rfl) e, c⟩
  | dK kvs => obtain ⟨z, y, vs, r, ob, es, ep, e, c⟩ := x; exact ⟨z, y, vs, r, ob, es, ep, k _ _ (.inl rfl) e, c⟩
  | dT kvs =>
    obtain ⟨z, y, xs, r, ob, es, ep, e, c⟩ := x
    exact ⟨z, y, xs, Paired.mapP r fun p q z => ⟨z.1, ht _ _ z.2.1, z.2.2⟩, ob, es, ep, k _ _ (.inl rfl) e, c⟩
  | set S n => obtain ⟨ob, es, ep, t, e, c⟩ := x; exact ⟨ob, es, ep, t, k _ _ (.inl rfl) e, c⟩
  | ins C dx fs =>
    obtain ⟨d, z, ne, e, mA, ⟨od, es, ep, e2, c⟩, r⟩ := x
    exact ⟨ho _ d, z, ne, k _ _ (.inl rfl) e, mA, ⟨od, es, ep, k _ _ (.inr d) e2, c⟩, r⟩
  | own y => obtain ⟨ob, e⟩ := x; exact ⟨ob, k _ _ (.inl rfl) e⟩
  | xd fs => obtain ⟨mA, ⟨od, es, ep, e, c⟩, r⟩ := x; exact ⟨mA, ⟨od, es, ep, k _ _ (.inl rfl) e, c⟩, r⟩
  | rng lo hi => obtain ⟨t, u, v, e⟩ := x; exact ⟨t, u, v, k _ _ (.inl rfl) e⟩
  | frz ob u ih => obtain ⟨e, q⟩ := x; exact ⟨k _ _ (.inl rfl) e, ih q⟩
  | tbl ps =>
    have e : h.get? a = some { cls := .none, data := .fields ps } := x
    show h'.get? a = some { cls := .none, data := .fields ps }
    exact k a _ (.inl rfl) e
  | met f y =>
    have e : h.get? a = some (PySem.W.methodObj (.ref f) (.ref y)) := x
    show h'.get? a = some (PySem.W.methodObj (.ref f) (.ref y))
    exact k a _ (.inl rfl) e
  | ext φ => obtain ⟨p, ⟨o, e⟩, st⟩ := x; exact ⟨st _ _ p fun o q => k _ _ (.inl rfl) q, ⟨o, k _ _ (.inl rfl) e⟩, st⟩
theorem HOk.lt (x : HOk P w H h) (e : H a = some o) : a < h.objs.size := (x a o e).lt
theorem HOk.fresh (x : HOk P w H h) (e : h.objs.size ≤ a) : H a = none := by
  cases q : H a with
  | none => rfl
  | some u => exact absurd (Nat.lt_of_lt_of_le (x.lt q) e) (Nat.lt_irrefl _)
theorem HOk.kept (x : HOk P w H h) (k : ∀ b u, h.get? b = some u → h'.get? b = some u) : HOk P w H h' := fun a o e =>
  (x a o e).stay (fun b u _ q => k b u q) (fun _ q => q) fun _ _ q => q
theorem HOk.laid (x : HOk P w H h) (k : ∀ b u, h.get? b = some u → h'.get? b = some u) (hp : h.objs.size ≤ a) (new : ObjOk P w (upd H a o) h' a o) : HOk P w (upd H a o) h' := fun b u e => by
  have hn := x.fresh hp
  by_cases hb : b = a
  · subst hb; rw [kP] at e; cases e; exact new
  · rw [yW hb] at e
    exact (x b u e).stay (fun c v _ q => k c v q) (fun c q => by rw [yW (xO q hn)]; exact q) fun c xs q => by rw [yW (xO q hn)]; exact q
end
noncomputable def Rd (H : Hp) (a : Addr) (u : HO) : Prop := H a = some u ∨ ∃ o, H a = some (.frz o u)
theorem Rd.ok {P : Program} {w : World} {H : Hp} {h : Heap} {a : Addr} {u : HO} (r : Rd H a u) (x : HOk P w H h) : ObjOk P w H h a u := by
  rcases r with r | ⟨o, r⟩
  · exact x a u r
  · obtain ⟨_, q⟩ := x a _ r
    exact q
noncomputable def Mut : Option HO → Prop
  | some (.lst _) => True
  | some (.dK _) => True
  | some (.dT _) => True
  | some (.set _ _) => True
  | some (.ins _ _ _) => True
  | some (.ext _) => True
  | _ => False
section
variable {P : Program} {w : World} {H : Hp} {h h' : Heap} {x e : Addr} {o' : HO}
theorem HOk.write (ok : HOk P w H h) (mu : Mut (H x)) (he : e = x ∨ H e = some (.own x)) (k : ∀ b u, b ≠ e → h.get? b = some u → h'.get? b = some u) (heo : ∃ u, h'.get? e = some u)
    (new : ObjOk P w (upd H x o') h' x o') : HOk P w (upd H x o') h' := fun b u q => by
  have nown : ∀ c y, H c = some (.own y) → c ≠ x := fun c y r z => by subst z; rw [r] at mu; exact mu
  have ntup : ∀ c xs, H c = some (.tup xs) → c ≠ x := fun c xs r z => by subst z; rw [r] at mu; exact mu
  by_cases hb : b = x
  · subst hb; rw [kP] at q; cases q; exact new
  · rw [yW hb] at q
    by_cases hbe : b = e
    · have q' : H b = some (.own x) := by
        rcases he with z | z
        · exact absurd (hbe.trans z) hb
        · rw [hbe]; exact z
      rw [q] at q'; cases q'
      obtain ⟨v, hv⟩ := heo
      exact ⟨v, by rw [hbe]; exact hv⟩
    · refine (ok b u q).stay (fun c v hc r => k c v ?_ r) (fun c r => by rw [yW (nown c b r)]; exact r) fun c xs r => by rw [yW (ntup c xs r)]; exact r
      rcases hc with rfl | hc
      · exact hbe
      · rintro rfl
        rcases he with z | z
        · exact nown c b hc z
        · rw [hc] at z; cases z; exact hb rfl
end
structure Un (fs ex : List Addr) (H H' : Hp) (h h' : Heap) : Prop where
  keep : ∀ b o, h.get? b = some o → H b = none → b ∉ fs → b ∉ ex → h'.get? b = some o
  slot : ∀ b o, h.get? b = some o → H b = none → b ∈ fs → b ∉ ex → ∃ sl, h'.get? b = some { o with slots := sl }
  free : ∀ b o, h.get? b = some o → H b = none → b ∉ ex → H' b = none
  there : ∀ b o, h.get? b = some o → b ∉ ex → ∃ o', h'.get? b = some o'
  tups : ∀ b xs, H b = some (.tup xs) → H' b = some (.tup xs)
  frzs : ∀ b o u, H b = some (.frz o u) → H' b = some (.frz o u)
  tbls : ∀ b ps, H b = some (.tbl ps) → ∃ more, H' b = some (.tbl (ps ++ more))
section
variable {fs fs' ex ex' : List Addr} {H H1 H2 : Hp} {h h1 h2 h' : Heap} {a x e : Addr} {o : HO}
theorem Un.any (u : Un fs ex H H1 h h1) {b : Addr} {ob : Obj} (q : h.get? b = some ob) (n : H b = none) (hx : b ∉ ex) : ∃ sl, h1.get? b = some { ob with slots := sl } := by
  by_cases hb : b ∈ fs
  · exact u.slot b ob q n hb hx
  · exact ⟨ob.slots, u.keep b ob q n hb hx⟩
theorem Un.kept (k : ∀ b u, h.get? b = some u → h'.get? b = some u) : Un fs ex H H h h' :=
  ⟨fun b ob q _ _ _ => k b ob q, fun b ob q _ _ _ => ⟨ob.slots, k b ob q⟩, fun _ _ _ n _ => n, fun b ob q _ => ⟨ob, k b ob q⟩, fun _ _ q => q, fun _ _ _ q => q, fun _ ps q => ⟨#[], by rw [q]; simp⟩⟩
theorem Un.refl : Un fs ex H H h h := Un.kept fun _ _ q => q
theorem Un.laid (k : ∀ b u, h.get? b = some u → h'.get? b = some u) (hp : h.objs.size ≤ a) (hn : H a = none) : Un fs ex H (upd H a o) h h' where
  keep := fun b u q _ _ _ => k b u q
  slot := fun b u q _ _ _ => ⟨u.slots, k b u q⟩
  free := fun b u q n _ => by rw [yW (Nat.ne_of_lt (Nat.lt_of_lt_of_le (Heap.lt_size q) hp))]; exact n
  there := fun b u q _ => ⟨u, k b u q⟩
  tups := fun b xs q => by rw [yW (xO q hn)]; exact q
  frzs := fun b u xs q => by rw [yW (xO q hn)]; exact q
  tbls := fun b ps q => ⟨#[], by rw [yW (xO q hn), q]; simp⟩
theorem Un.write (mu : Mut (H x)) (he : e = x ∨ H e = some (.own x)) (k : ∀ b u, b ≠ e → h.get? b = some u → h'.get? b = some u) (heo : ∃ u, h'.get? e = some u) : Un fs ex H (upd H x o) h h' := by
  have hx : ∀ b, H b = none → b ≠ x := fun b n z => by subst z; rw [n] at mu; exact mu
  have hb : ∀ b, H b = none → b ≠ e := fun b n z => by
    subst z
    rcases he with r | r
    · exact hx b n r
    · rw [n] at r; cases r
  have hm : ∀ b u, H b = some u → ¬ Mut (some u) → b ≠ x := fun b u q nm z => by subst z; rw [q] at mu; exact nm mu
  refine ⟨fun b u q n _ _ => k b u (hb b n) q, fun b u q n _ _ => ⟨u.slots, k b u (hb b n) q⟩, fun b u q n _ => by rw [yW (hx b n)]; exact n, fun b u q _ => ?_,
    fun b xs q => by rw [yW (hm b _ q fun z => z)]; exact q, fun b u xs q => by rw [yW (hm b _ q fun z => z)]; exact q, fun b ps q => ⟨#[], by rw [yW (hm b _ q fun z => z), q]; simp⟩⟩
  by_cases hbe : b = e
  · subst hbe; exact heo
  · exact ⟨u, k b u hbe q⟩
end
noncomputable def trk (h : Heap) (H : Hp) : List Addr := (List.range h.objs.size).filter fun a => (H a).isSome
noncomputable def zTJ (h : Heap) (H : Hp) : Heap := PySem.W.hideAll h (trk h H)
theorem yBY (h : Heap) (H : Hp) : (zTJ h H).objs.size = h.objs.size := PySem.W.hideAll_size _ _
theorem yDS {h : Heap} {H : Hp} {b : Addr} {o : Obj} (e : h.get? b = some o) (n : H b = none) : (zTJ h H).get? b = some o :=
  PySem.W.hideAll_get _ e fun hm => by
    have q : (H b).isSome = true := (List.mem_filter.mp hm).2
    rw [n] at q; simp at q
theorem yHF {h : Heap} {H : Hp} {b : Addr} {o : Obj} (e : (zTJ h H).get? b = some o) : h.get? b = some o ∧ H b = none := by
  have e' : h.get? b = some o := PySem.W.of_hideAll (trk h H) e
  refine ⟨e', ?_⟩
  cases q : H b with
  | none => rfl
  | some x =>
    have hm : b ∈ trk h H := List.mem_filter.mpr ⟨List.mem_range.mpr (Heap.lt_size e'), by simp [q]⟩
    have z : (zTJ h H).get? b = none := PySem.W.hideAll_none (trk h H) hm
    rw [z] at e; cases e
noncomputable def yHG (g h : Heap) (L : Addr) : List (Addr × Obj) := (List.range h.objs.size).filterMap fun a => if a = L ∨ (g.get? a).isSome = true then none else (h.get? a).map fun o => (a, o)
noncomputable def rest (g h : Heap) (L d : Addr) : List (Addr × Obj) := (yHG g h L).filter fun p => decide (p.1 ≠ d)
end L2
namespace L2
open PySem PySem.Spec PyProof.Rows
structure Mod (K : PySem.W.Frag) (mg : Str → Option Value) (base : Heap) : Prop where
  kin : K.In base
  glob : base.Ns mainGlobals mg
  blt : ∃ mb, base.Ns builtinsNs mb ∧ ∀ x : Str, x ≠ "__name__" → mb x = bootBuiltins x
  nolimit : base.NoLimit
structure Cx where
  prog : Program
  w : World
  K : PySem.W.Frag
  mg : Str → Option Value
  base : Heap
  A : Around
  N : List Str
  s₀ : Shared
  H₀ : Hp
  env : Env
  outer : List Env
  stack : List Env
  ex : List Addr
  fn : Str → Bool
  calm : Bool
  pn : List (Addr × Obj)
  xe : Value → Shared → Prop
noncomputable def frs (l : List Env) : List Addr := l.filterMap (·.frame)
abbrev Cx.fs (X : Cx) : List Addr := frs X.outer
noncomputable def Vis (sc : Scope) (x : Str) : Prop := sc.names.lookup x = some .local ∨ sc.names.lookup x = some .cell ∨ sc.names.lookup x = some .free
noncomputable def Loc (sc : Scope) (x : Str) : Prop := sc.names.lookup x = some .local ∨ sc.names.lookup x = some .cell
noncomputable def Look (env : Env) (h : Heap) (m : Str → Option Value) (x : Str) (u : Value) : Prop :=
  (env.kindOf x = some .local ∧ m x = some u) ∨ ((env.kindOf x = some .cell ∨ env.kindOf x = some .free) ∧ ∃ c, env.cells.lookup x = some c ∧ h.IsCell c (some u))
structure Cx.Ok (X : Cx) : Prop where
  mod : Mod X.K X.mg X.base
  kind : X.env.scope.kind = .function
  glob : X.env.globals = mainGlobals
  blt : X.env.builtins = builtinsNs
  above : X.s₀.heap.objs.size ≤ X.env.locals
  inj : ∀ x y c, X.env.cells.lookup x = some c → X.env.cells.lookup y = some c → x = y
  has : ∀ x, (X.env.kindOf x = some .cell ∨ X.env.kindOf x = some .free) → ∃ c, X.env.cells.lookup x = some c
  cab : ∀ x c, X.fn x = true → X.env.cells.lookup x = some c → X.s₀.heap.objs.size ≤ c
  hd : X.calm = true → X.A.handled = none
  frames : X.A.frames = some X.stack
  stk : X.stack = X.outer ∨ (X.stack = X.env :: X.outer ∧ X.env.frame = some X.env.locals)
  exf : ∀ b ∈ X.ex, b ≠ X.env.locals ∧ ∀ x c, X.env.cells.lookup x = some c → c ≠ b
  bs : ∀ b o, X.base.get? b = some o → X.s₀.heap.get? b = some o ∧ X.H₀ b = none
  bsz : X.base.objs.size ≤ X.s₀.heap.objs.size
  noex : ∀ b o, X.base.get? b = some o → b ∉ X.ex
  exfs : ∀ b ∈ X.ex, b ∉ X.fs
  funs : X.s₀.heap.FunFrames X.base X.outer
  frf : ∀ b ∈ X.fs, X.H₀ b = none
structure Inv (X : Cx) (pins : List (Addr × Obj)) (σ : List (Option V)) (H : Hp) (s : Shared) : Prop where
  ok : X.Ok
  os : s.os = X.s₀.os
  bare : AllBare s.gens
  base : Un X.fs X.ex X.H₀ H X.s₀.heap s.heap
  loc : ∃ m, s.heap.Ns X.env.locals m ∧ ∀ (i : Nat) (x : Str) (v : V), X.N[i]? = some x → σ[i]? = some (some v) → Vis X.env.scope x → ∃ u, RelV v u ∧ Look X.env s.heap m x u
  cell : ∀ x c, X.env.cells.lookup x = some c → ∃ v, s.heap.IsCell c v
  free : H X.env.locals = none
  freeC : ∀ x c, X.env.cells.lookup x = some c → H c = none
  pin : ∀ p ∈ X.pn ++ pins, s.heap.get? p.1 = some p.2 ∧ H p.1 = none ∧ p.1 ≠ X.env.locals ∧ p.1 ∉ X.fs ∧ ∀ v, p.2.data ≠ .cell v
  hok : HOk X.prog X.w H s.heap
  len : σ.length = X.N.length
section
variable {X : Cx} {pins : List (Addr × Obj)} {σ : List (Option V)} {H H' : Hp} {s : Shared} {h' : Heap}
theorem Cx.Ok.nofr (ok : X.Ok) {b : Addr} {o : Obj} (e : X.base.get? b = some o) : b ∉ X.fs := fun hb => by
  have := (ok.funs.mem hb).1
  rw [e] at this; cases this
theorem Inv.bs (I : Inv X pins σ H s) : ∀ b o, X.base.get? b = some o → s.heap.get? b = some o ∧ H b = none := fun b o e =>
  ⟨I.base.keep b o (I.ok.bs b o e).1 (I.ok.bs b o e).2 (I.ok.nofr e) (I.ok.noex b o e), I.base.free b o (I.ok.bs b o e).1 (I.ok.bs b o e).2 (I.ok.noex b o e)⟩
theorem Inv.bk (I : Inv X pins σ H s) : ∀ b o, X.base.get? b = some o → s.heap.get? b = some o := fun b o e => (I.bs b o e).1
theorem Inv.mod (I : Inv X pins σ H s) : Mod X.K X.mg X.base := I.ok.mod
theorem Inv.kIn (I : Inv X pins σ H s) : X.K.In s.heap := I.ok.mod.kin.keeps I.bk
theorem Inv.lt (I : Inv X pins σ H s) : X.env.locals < s.heap.objs.size := let ⟨_, hn, _⟩ := I.loc; hn.lt
theorem Inv.sz (I : Inv X pins σ H s) : X.s₀.heap.objs.size ≤ s.heap.objs.size := Nat.le_trans I.ok.above (Nat.le_of_lt I.lt)
theorem Inv.nofs (I : Inv X pins σ H s) {a : Addr} (h : s.heap.objs.size ≤ a) : a ∉ X.fs := fun hb => by
  obtain ⟨_, o, ho, _⟩ := I.ok.funs.mem hb
  exact absurd (Nat.lt_of_lt_of_le (Heap.lt_size ho) (Nat.le_trans I.sz h)) (Nat.lt_irrefl _)
theorem Inv.cne (I : Inv X pins σ H s) : ∀ x c, X.env.cells.lookup x = some c → c ≠ X.env.locals := fun x c e z => by
  obtain ⟨v, o, ho, hd⟩ := I.cell x c e
  obtain ⟨m, ⟨o', es, ep, ho', hd', _⟩, _⟩ := I.loc
  rw [z, ho'] at ho; cases ho; rw [hd'] at hd; cases hd
theorem Inv.funs (I : Inv X pins σ H s) : s.heap.FunFrames X.base X.outer := by
  have all : ∀ (l : List Env), (∀ b ∈ frs l, b ∈ X.fs) → X.s₀.heap.FunFrames X.base l → s.heap.FunFrames X.base l := by
    intro l
    induction l with
    | nil => intro _ _; trivial
    | cons env r ih =>
      intro hs hl
      obtain ⟨hk, ⟨L, o, hf, hn, ho, hd⟩, hr⟩ := hl
      have hL : L ∈ X.fs := hs L (by unfold frs; rw [List.filterMap_cons, hf]; exact List.mem_cons_self)
      obtain ⟨sl, e⟩ := I.base.slot L o ho (I.ok.frf L hL) hL fun z => I.ok.exfs L z hL
      exact ⟨hk, ⟨L, _, hf, hn, e, hd⟩, ih (fun b hb => hs b (by unfold frs; rw [List.filterMap_cons, hf]; exact List.mem_cons_of_mem _ hb)) hr⟩
  exact all X.outer (fun _ hb => hb) I.ok.funs
theorem Inv.stack (I : Inv X pins σ H s) : s.heap.FunFrames X.base X.stack := by
  rcases I.ok.stk with e | ⟨e, hf⟩
  · rw [e]; exact I.funs
  · rw [e]
    obtain ⟨m, hn, _⟩ := I.loc
    refine .cons (by rw [I.ok.kind]; decide) hf hn ?_ I.funs
    exact Heap.get?_none_of_le (Nat.le_trans I.ok.bsz I.ok.above)
theorem Inv.stkSub (I : Inv X pins σ H s) : ∀ b ∈ frs X.stack, b ∈ X.env.locals :: X.fs := fun b hb => by
  rcases I.ok.stk with e | ⟨e, hf⟩
  · rw [e] at hb; exact List.mem_cons_of_mem _ hb
  · rw [e] at hb
    unfold frs at hb
    rw [List.filterMap_cons, hf] at hb
    exact hb
theorem Inv.stkFree (I : Inv X pins σ H s) : ∀ b ∈ frs X.stack, H b = none := fun b hb => by
  rcases List.mem_cons.mp (I.stkSub b hb) with e | hb
  · rw [e]; exact I.free
  · obtain ⟨_, o, ho, _⟩ := I.ok.funs.mem hb
    exact I.base.free b o ho (I.ok.frf b hb) fun z => I.ok.exfs b z hb
theorem Inv.step {g' : Array GenState} {t' : Nat} {d' : Drawn} {ch : List Addr} (I : Inv X pins σ H s)
    (hch : ∀ b ∈ ch, (b ∈ X.ex ∨ X.s₀.heap.objs.size ≤ b) ∧ b ≠ X.env.locals ∧ (∀ x c, X.env.cells.lookup x = some c → c ≠ b) ∧ ∀ p ∈ X.pn ++ pins, p.1 ≠ b)
    (keep : ∀ b o, b ≠ X.env.locals → b ∉ X.fs → b ∉ ch → s.heap.get? b = some o → H b = none → h'.get? b = some o)
    (slot : ∀ b o, b ≠ X.env.locals → b ∈ X.fs → b ∉ ch → s.heap.get? b = some o → H b = none → ∃ sl, h'.get? b = some { o with slots := sl }) (free : ∀ b o, b ∉ ch → s.heap.get? b = some o → H b = none → H' b = none)
    (there : ∀ b o, b ∉ ch → s.heap.get? b = some o → ∃ o', h'.get? b = some o')
    (tups : ∀ b xs, H b = some (.tup xs) → H' b = some (.tup xs)) (frzs : ∀ b o u, H b = some (.frz o u) → H' b = some (.frz o u)) (tbls : ∀ b ps, H b = some (.tbl ps) → ∃ more, H' b = some (.tbl (ps ++ more)))
    (ns : ∀ m, s.heap.Ns X.env.locals m → h'.Ns X.env.locals m) (hok : HOk X.prog X.w H' h') (hg : AllBare g') :
    Inv X pins σ H' { s with heap := h', gens := g', drawn := d', toks := t' } := by
  have neL : ∀ b o, X.s₀.heap.get? b = some o → b ≠ X.env.locals := fun b o e => Nat.ne_of_lt (Nat.lt_of_lt_of_le (Heap.lt_size e) I.ok.above)
  have neC : ∀ b o, X.s₀.heap.get? b = some o → b ∉ X.ex → b ∉ ch := fun b o e hx hb => by
    rcases (hch b hb).1 with z | z
    · exact hx z
    · exact absurd (Nat.lt_of_lt_of_le (Heap.lt_size e) z) (Nat.lt_irrefl _)
  have cellK : ∀ x c, X.env.cells.lookup x = some c → ∀ v, s.heap.IsCell c v → h'.IsCell c v := fun x c e v ⟨o, ho, hd⟩ => by
    have nch : c ∉ ch := fun z => (hch c z).2.2.1 x c e rfl
    by_cases hc : c ∈ X.fs
    · obtain ⟨sl, q⟩ := slot c o (I.cne x c e) hc nch ho (I.freeC x c e)
      exact ⟨_, q, hd⟩
    · exact ⟨o, keep c o (I.cne x c e) hc nch ho (I.freeC x c e), hd⟩
  refine ⟨I.ok, I.os, hg, ⟨fun b o e n hb hx => ?_, fun b o e n hb hx => ?_, fun b o e n hx => ?_, fun b o e hx => ?_, fun b xs e => tups b xs (I.base.tups b xs e), fun b o xs e => frzs b o xs (I.base.frzs b o xs e), fun b ps e => ?_⟩, ?_, fun x c e => ?_, ?_, fun x c e => ?_, fun p hp => ?_, hok, I.len⟩
  · exact keep b o (neL b o e) hb (neC b o e hx) (I.base.keep b o e n hb hx) (I.base.free b o e n hx)
  · obtain ⟨sl, e1⟩ := I.base.slot b o e n hb hx
    obtain ⟨sl', e2⟩ := slot b _ (neL b o e) hb (neC b o e hx) e1 (I.base.free b o e n hx)
    exact ⟨sl', e2⟩
  · obtain ⟨o', e1⟩ := I.base.there b o e hx
    exact free b o' (neC b o e hx) e1 (I.base.free b o e n hx)
  · obtain ⟨o', e1⟩ := I.base.there b o e hx
    exact there b o' (neC b o e hx) e1
  · obtain ⟨m1, e1⟩ := I.base.tbls b ps e
    obtain ⟨m2, e2⟩ := tbls b _ e1
    exact ⟨m1 ++ m2, by rw [e2, Array.append_assoc]⟩
  · obtain ⟨m, hn, hl⟩ := I.loc
    refine ⟨m, ns m hn, fun i x v e1 e2 e3 => ?_⟩
    obtain ⟨u, r, l⟩ := hl i x v e1 e2 e3
    refine ⟨u, r, ?_⟩
    rcases l with l | ⟨k, c, e, z⟩
    · exact .inl l
    · exact .inr ⟨k, c, e, cellK x c e _ z⟩
  · obtain ⟨v, z⟩ := I.cell x c e
    exact ⟨v, cellK x c e v z⟩
  · obtain ⟨m, ⟨o, _, _, ho, _⟩, _⟩ := I.loc
    exact free _ o (fun z => (hch _ z).2.1 rfl) ho I.free
  · obtain ⟨v, o, ho, hd⟩ := I.cell x c e
    exact free c o (fun z => (hch c z).2.2.1 x c e rfl) ho (I.freeC x c e)
  · obtain ⟨e, n, ne, nf, d⟩ := I.pin p hp
    have nch : p.1 ∉ ch := fun z => (hch p.1 z).2.2.2 p hp rfl
    exact ⟨keep p.1 p.2 ne nf nch e n, free p.1 p.2 nch e n, ne, nf, d⟩
theorem Inv.un {t' : Nat} (I : Inv X pins σ H s) (u : Un X.fs [] H H' s.heap h') (hok : HOk X.prog X.w H' h') : Inv X pins σ H' { s with heap := h', toks := t' } := by
  obtain ⟨m, ⟨o, es, ep, ho, r⟩, _⟩ := id I.loc
  obtain ⟨sl, hL⟩ := u.any ho I.free (by simp)
  exact I.step (g' := s.gens) (d' := s.drawn) (ch := []) (fun _ z => nomatch z) (fun b o _ hb _ e n => u.keep b o e n hb (by simp)) (fun b o _ hb _ e n => u.slot b o e n hb (by simp)) (fun b o _ e n => u.free b o e n (by simp)) (fun b o _ e => u.there b o e (by simp)) u.tups u.frzs u.tbls (fun m' hm => by
    obtain ⟨o', es', ep', ho', r'⟩ := hm
    rw [ho] at ho'; cases ho'
    exact ⟨_, es', ep', hL, r'⟩) hok I.bare
theorem Inv.call {g' : Array GenState} {t' : Nat} {d' : Drawn} {ch : List Addr} (I : Inv X pins σ H s) (u : Un (frs X.stack) ch H H' s.heap h') (hok : HOk X.prog X.w H' h') (hg : AllBare g')
    (hch : ∀ b ∈ ch, (b ∈ X.ex ∨ X.s₀.heap.objs.size ≤ b) ∧ b ≠ X.env.locals ∧ (∀ x c, X.env.cells.lookup x = some c → c ≠ b) ∧ ∀ p ∈ X.pn ++ pins, p.1 ≠ b) :
    Inv X pins σ H' { s with heap := h', gens := g', drawn := d', toks := t' } := by
  obtain ⟨m, ⟨o, es, ep, ho, r⟩, _⟩ := id I.loc
  obtain ⟨sl, hL⟩ := u.any ho I.free fun z => (hch _ z).2.1 rfl
  exact I.step (ch := ch) hch (fun b o hL hb hc e n => u.keep b o e n (fun z => (List.mem_cons.mp (I.stkSub b z)).elim hL hb) hc) (fun b o _ _ hc e n => u.any e n hc) (fun b o hc e n => u.free b o e n hc) (fun b o hc e => u.there b o e hc) u.tups u.frzs u.tbls (fun m' hm => by
    obtain ⟨o', es', ep', ho', r'⟩ := hm
    rw [ho] at ho'; cases ho'
    exact ⟨_, es', ep', hL, r'⟩) hok hg
theorem Inv.turned {t' : Nat} {it : Addr} (I : Inv X pins σ H s) (k : ∀ b o, b ≠ it → s.heap.get? b = some o → h'.get? b = some o) (hn : H it = none) (hL : it ≠ X.env.locals)
    (h1 : it ∈ X.ex ∨ X.s₀.heap.objs.size ≤ it) (h2 : ∀ x c, X.env.cells.lookup x = some c → c ≠ it) (h3 : ∀ p ∈ X.pn ++ pins, p.1 ≠ it) : Inv X pins σ H { s with heap := h', toks := t' } := by
  have nit : ∀ b u, H b = some u → b ≠ it := fun b u e z => by rw [z, hn] at e; cases e
  refine I.step (g' := s.gens) (d' := s.drawn) (ch := [it]) (fun b hb => ?_) (fun b o _ _ hc e _ => k b o (fun z => hc (by simp [z])) e) (fun b o _ _ hc e _ => ⟨o.slots, k b o (fun z => hc (by simp [z])) e⟩) (fun _ _ _ _ n => n)
    (fun b o hc e => ⟨o, k b o (fun z => hc (by simp [z])) e⟩) (fun _ _ e => e) (fun _ _ _ e => e) (fun b ps e => ⟨#[], by rw [e]; simp⟩) (fun m hm => ?_) (fun b u e => ?_) I.bare
  · have e : b = it := by simpa using hb
    subst e
    exact ⟨h1, hL, h2, h3⟩
  · obtain ⟨o, es, ep, ho, r⟩ := hm
    exact ⟨o, es, ep, k _ o (Ne.symm hL) ho, r⟩
  · refine (I.hok b u e).stay (fun c v hc q => k c v ?_ q) (fun _ q => q) fun _ _ q => q
    rcases hc with z | z
    · rw [z]; exact nit b u e
    · exact nit c _ z
theorem Inv.tok (I : Inv X pins σ H s) (t : Nat) : Inv X pins σ H { s with toks := t } := I.un (h' := s.heap) (t' := t) Un.refl I.hok
theorem Inv.kept {t' : Nat} (I : Inv X pins σ H s) (k : ∀ b u, s.heap.get? b = some u → h'.get? b = some u) : Inv X pins σ H { s with heap := h', toks := t' } := I.un (Un.kept k) (I.hok.kept k)
theorem Inv.laid {a : Addr} {o : HO} {t' : Nat} (I : Inv X pins σ H s) (k : ∀ b u, s.heap.get? b = some u → h'.get? b = some u) (hp : s.heap.objs.size ≤ a) (new : ObjOk X.prog X.w (upd H a o) h' a o) :
    Inv X pins σ (upd H a o) { s with heap := h', toks := t' } := I.un (Un.laid k hp (I.hok.fresh hp)) (I.hok.laid k hp new)
theorem Inv.write {x e : Addr} {o : HO} {t' : Nat} (I : Inv X pins σ H s) (mu : Mut (H x)) (he : e = x ∨ H e = some (.own x)) (k : ∀ b u, b ≠ e → s.heap.get? b = some u → h'.get? b = some u) (heo : ∃ u, h'.get? e = some u)
    (new : ObjOk X.prog X.w (upd H x o) h' x o) : Inv X pins σ (upd H x o) { s with heap := h', toks := t' } := I.un (Un.write mu he k heo) (I.hok.write mu he k heo new)
theorem Inv.pins_of {pins' : List (Addr × Obj)} (I : Inv X pins σ H s) (h : ∀ p ∈ pins', s.heap.get? p.1 = some p.2 ∧ H p.1 = none ∧ p.1 ≠ X.env.locals ∧ p.1 ∉ X.fs ∧ ∀ v, p.2.data ≠ .cell v) : Inv X pins' σ H s :=
  ⟨I.ok, I.os, I.bare, I.base, I.loc, I.cell, I.free, I.freeC, fun p hp => (List.mem_append.mp hp).elim (fun z => I.pin p (List.mem_append_left _ z)) (h p), I.hok, I.len⟩
theorem zVH {N : List Str} (hN : N.Nodup) {i j : Nat} {x : Str} (a : N[i]? = some x) (b : N[j]? = some x) : i = j := by
  obtain ⟨h1, e1⟩ := List.getElem?_eq_some_iff.mp a
  obtain ⟨h2, e2⟩ := List.getElem?_eq_some_iff.mp b
  exact (List.getElem_inj hN).mp (e1.trans e2.symm)
theorem zSH {M : Model} {A : Around} {E : Value → Shared → Prop} {i : Nat} {x : Str} {v : V} {u : Value} {Q : Unit → Shared → Prop} (I : Inv X pins σ H s) (hN : X.N.Nodup) (hi : X.N[i]? = some x) (hx : Loc X.env.scope x) (r : RelV v u)
    (h : ∀ s', Inv X pins (σ.set i (some v)) H s' → (∃ a, Heap.SameBut a s.heap s'.heap ∧ (a = X.env.locals ∨ X.env.cells.lookup x = some a)) → Q () s') (hf : X.fn x = true ∨ X.env.scope.names.lookup x = some .local := by first | exact .inl rfl | exact .inr rfl | assumption) : wpAny M A (storeName X.env x u) Q E s := by
  obtain ⟨m, hn, hl⟩ := id I.loc
  have hcls : (X.env.scope.kind == .class || (X.env.scope.kind == .module && X.env.locals != X.env.globals)) = false := by rw [I.ok.kind]; rfl
  have hiσ : i < σ.length := by rw [I.len]; exact (List.getElem?_eq_some_iff.mp hi).1
  have cne := I.cne
  have tracked : ∀ {a : Addr} {h' : Heap}, (∃ o, s.heap.get? a = some o ∧ H a = none) → Heap.SameBut a s.heap h' → HOk X.prog X.w H h' := fun {a h'} ha hs b ob e => by
    obtain ⟨_, _, hfree⟩ := ha
    refine (I.hok b ob e).stay (fun c w' hc q => (hs.2 c ?_).trans q) (fun _ q => q) fun _ _ q => q
    rintro rfl
    rcases hc with rfl | hc
    · rw [hfree] at e; cases e
    · rw [hfree] at hc; cases hc
  rcases hx with hk | hk
  · refine wpAny_storeName_local hk hn (fun h' hn' hs => ?_) hcls
    obtain ⟨oL, _, _, hoL, _⟩ := id hn
    refine h _ ⟨I.ok, I.os, I.bare, ⟨fun b o e n hb hx => ?_, fun b o e n hb hx => ?_, I.base.free, fun b o e hx => ?_, I.base.tups, I.base.frzs, I.base.tbls⟩, ⟨_, hn', fun j y v' e1 e2 e3 => ?_⟩, fun y c e => ?_, I.free, I.freeC, fun p hp => ?_, tracked ⟨oL, hoL, I.free⟩ hs, by simpa using I.len⟩ ⟨_, hs, .inl rfl⟩
    · exact (hs.2 b (Nat.ne_of_lt (Nat.lt_of_lt_of_le (Heap.lt_size e) I.ok.above))).trans (I.base.keep b o e n hb hx)
    · obtain ⟨sl, e1⟩ := I.base.slot b o e n hb hx
      exact ⟨sl, (hs.2 b (Nat.ne_of_lt (Nat.lt_of_lt_of_le (Heap.lt_size e) I.ok.above))).trans e1⟩
    · obtain ⟨o', e1⟩ := I.base.there b o e hx
      exact ⟨o', (hs.2 b (Nat.ne_of_lt (Nat.lt_of_lt_of_le (Heap.lt_size e) I.ok.above))).trans e1⟩
    · by_cases hj : j = i
      · subst hj
        rw [hi] at e1; cases e1
        rw [List.getElem?_set_self hiσ] at e2
        cases e2
        exact ⟨u, r, .inl ⟨hk, by simp⟩⟩
      · rw [List.getElem?_set_ne (Ne.symm hj)] at e2
        obtain ⟨u', r', q⟩ := hl j y v' e1 e2 e3
        refine ⟨u', r', ?_⟩
        rcases q with ⟨k, e⟩ | ⟨k, c, e, z⟩
        · refine .inl ⟨k, ?_⟩
          have : y ≠ x := fun e => hj (zVH hN e1 (e ▸ hi))
          simp [this, e]
        · exact .inr ⟨k, c, e, z.sameBut hs (cne y c e)⟩
    · obtain ⟨w', z⟩ := I.cell y c e
      exact ⟨w', z.sameBut hs (cne y c e)⟩
    · obtain ⟨e, n, ne, nf, d⟩ := I.pin p hp
      exact ⟨(hs.2 p.1 ne).trans e, n, ne, nf, d⟩
  · have hfn : X.fn x = true := by
      rcases hf with z | z
      · exact z
      · rw [z] at hk; cases hk
    obtain ⟨c, hc⟩ := I.ok.has x (.inl hk)
    obtain ⟨w', z⟩ := I.cell x c hc
    refine wpAny_storeName_cell I.ok.kind hk hc z (fun h' hc' hs => ?_)
    obtain ⟨oc, hoc, hocd⟩ := id z
    refine h { s with heap := h' } ⟨I.ok, I.os, I.bare, ⟨fun b o e n hb hx => ?_, fun b o e n hb hx => ?_, I.base.free, fun b o e hx => ?_, I.base.tups, I.base.frzs, I.base.tbls⟩, ⟨m, hn.sameBut hs (Ne.symm (cne x c hc)), fun j y v' e1 e2 e3 => ?_⟩, fun y c' e => ?_, I.free, I.freeC, fun p hp => ?_, tracked ⟨oc, hoc, I.freeC x c hc⟩ hs, by simpa using I.len⟩ ⟨c, hs, .inr hc⟩
    · exact (hs.2 b (Nat.ne_of_lt (Nat.lt_of_lt_of_le (Heap.lt_size e) (I.ok.cab x c hfn hc)))).trans (I.base.keep b o e n hb hx)
    · obtain ⟨sl, e1⟩ := I.base.slot b o e n hb hx
      exact ⟨sl, (hs.2 b (Nat.ne_of_lt (Nat.lt_of_lt_of_le (Heap.lt_size e) (I.ok.cab x c hfn hc)))).trans e1⟩
    · obtain ⟨o', e1⟩ := I.base.there b o e hx
      exact ⟨o', (hs.2 b (Nat.ne_of_lt (Nat.lt_of_lt_of_le (Heap.lt_size e) (I.ok.cab x c hfn hc)))).trans e1⟩
    · by_cases hj : j = i
      · subst hj
        rw [hi] at e1; cases e1
        rw [List.getElem?_set_self hiσ] at e2
        cases e2
        exact ⟨u, r, .inr ⟨.inl hk, c, hc, hc'⟩⟩
      · rw [List.getElem?_set_ne (Ne.symm hj)] at e2
        obtain ⟨u', r', q⟩ := hl j y v' e1 e2 e3
        refine ⟨u', r', ?_⟩
        rcases q with q | ⟨k, c', e, z'⟩
        · exact .inl q
        · refine .inr ⟨k, c', e, z'.sameBut hs ?_⟩
          rintro rfl
          exact hj (zVH hN e1 (I.ok.inj _ _ _ e hc ▸ hi))
    · by_cases hcc : c' = c
      · subst hcc; exact ⟨_, hc'⟩
      · obtain ⟨w2, z2⟩ := I.cell y c' e
        exact ⟨w2, z2.sameBut hs hcc⟩
    · obtain ⟨e, n, ne, nf, d⟩ := I.pin p hp
      refine ⟨(hs.2 p.1 ?_).trans e, n, ne, nf, d⟩
      intro q
      rw [q, hoc] at e
      have q' : oc = p.2 := Option.some.inj e
      exact d w' (by rw [← q']; exact hocd)
theorem zVI {M : Model} {A : Around} {E : Value → Shared → Prop} {i : Nat} {x : Str} {v : V} {u : Value} {Q : Unit → Shared → Prop} (I : Inv X pins σ H s) (hN : X.N.Nodup) (hi : X.N[i]? = some x) (hx : Loc X.env.scope x) (r : RelV v u)
    (h : ∀ s', Inv X pins (σ.set i (some v)) H s' → Q () s') (hf : X.fn x = true ∨ X.env.scope.names.lookup x = some .local := by first | exact .inl rfl | exact .inr rfl | assumption) : wpAny M A (storeName X.env x u) Q E s :=
  zSH I hN hi hx r (fun s' I' _ => h s' I') hf
theorem Inv.call' {s' : Shared} {ch : List Addr} (I : Inv X pins σ H s) (ho : s'.os = s.os) (u : Un (frs X.stack) ch H H' s.heap s'.heap) (hok : HOk X.prog X.w H' s'.heap) (hg : AllBare s'.gens)
    (hch : ∀ b ∈ ch, (b ∈ X.ex ∨ X.s₀.heap.objs.size ≤ b) ∧ b ≠ X.env.locals ∧ (∀ x c, X.env.cells.lookup x = some c → c ≠ b) ∧ ∀ p ∈ X.pn ++ pins, p.1 ≠ b) : Inv X pins σ H' s' := by
  obtain ⟨h', g', d', t', o'⟩ := s'
  have e : o' = s.os := ho
  subst e
  exact I.call (g' := g') (t' := t') (d' := d') u hok hg hch
end
abbrev XK := Value → Option Addr → Hp → Prop
abbrev St := List (Option V)
abbrev VK := V → Hp → Prop
abbrev TE := St → Hp → VK → Prop
abbrev TT := St → Hp → (Bool → Hp → Prop) → Prop
abbrev TA := St → Hp → (List V → Hp → Prop) → Prop
structure Ends where
  nx : St → Hp → Prop
  rt : VK
  bk : St → Hp → Prop := fun _ _ => False
  ct : St → Hp → Prop := fun _ _ => False
abbrev TS := Ends → St → Hp → Prop
noncomputable def EP (X : Cx) (pins : List (Addr × Obj)) (σ : St) (Q : VK) (u : Value) (s' : Shared) : Prop := ∃ v H', Inv X pins σ H' s' ∧ RelV v u ∧ Q v H'
noncomputable def TP (X : Cx) (pins : List (Addr × Obj)) (σ : St) (Q : Bool → Hp → Prop) (b : Bool) (s' : Shared) : Prop := ∃ H', Inv X pins σ H' s' ∧ Q b H'
noncomputable def AP (X : Cx) (pins : List (Addr × Obj)) (σ : St) (Q : List V → Hp → Prop) (us : List Value) (s' : Shared) : Prop := ∃ vs H', Inv X pins σ H' s' ∧ Vals vs us ∧ Q vs H'
noncomputable def SP (X : Cx) (pins : List (Addr × Obj)) (D : Ends) (f : Flow) (s' : Shared) : Prop :=
  match f with
  | .next => ∃ σ' H', Inv X pins σ' H' s' ∧ D.nx σ' H'
  | .brk => ∃ σ' H', Inv X pins σ' H' s' ∧ D.bk σ' H'
  | .cont => ∃ σ' H', Inv X pins σ' H' s' ∧ D.ct σ' H'
  | .ret u => ∃ v σ' H', Inv X pins σ' H' s' ∧ RelV v u ∧ D.rt v H'
noncomputable def PE (X : Cx) (e : Expr) (t : TE) : Prop :=
  ∀ (pins : List (Addr × Obj)) (s : Shared) (σ : St) (H : Hp) (Q : VK), Inv X pins σ H s → t σ H Q → wpAny (model X.prog X.w) X.A (eval e X.env) (EP X pins σ Q) X.xe s
noncomputable def PT (X : Cx) (e : Expr) (t : TT) : Prop :=
  ∀ (pins : List (Addr × Obj)) (s : Shared) (σ : St) (H : Hp) (Q : Bool → Hp → Prop), Inv X pins σ H s → t σ H Q → wpAny (model X.prog X.w) X.A (isTrue e X.env (eval e X.env)) (TP X pins σ Q) X.xe s
noncomputable def PW (X : Cx) (e : Expr) (t : TT) : Prop :=
  ∀ (whole : Sem Value) (pins : List (Addr × Obj)) (s : Shared) (σ : St) (H : Hp) (Q : Bool → Hp → Prop), Inv X pins σ H s → t σ H Q → wpAny (model X.prog X.w) X.A (isTrue e X.env whole) (TP X pins σ Q) X.xe s
theorem PW.pt {X : Cx} {e : Expr} {t : TT} (h : PW X e t) : PT X e t := h _
noncomputable def PA (X : Cx) (es : List Expr) (t : TA) : Prop :=
  ∀ (pos : Pos) (pins : List (Addr × Obj)) (s : Shared) (σ : St) (H : Hp) (Q : List V → Hp → Prop), Inv X pins σ H s → t σ H Q → wpAny (model X.prog X.w) X.A (spliced (backTo pos (starEach es X.env))) (AP X pins σ Q) X.xe s
noncomputable def PS (X : Cx) (st : Stmt) (t : TS) : Prop :=
  ∀ (pins : List (Addr × Obj)) (s : Shared) (σ : St) (H : Hp) (D : Ends), Inv X pins σ H s → t D σ H → wpAny (model X.prog X.w) X.A (exec st X.env) (SP X pins D) X.xe s
noncomputable def PSs (X : Cx) (st : List Stmt) (t : TS) : Prop :=
  ∀ (pins : List (Addr × Obj)) (s : Shared) (σ : St) (H : Hp) (D : Ends), Inv X pins σ H s → t D σ H → wpAny (model X.prog X.w) X.A (execs st X.env) (SP X pins D) X.xe s
theorem thn {α : Type} {t : Sem α} {Q Q' : α → Shared → Prop} {M : Model} {A : Around} {E : Value → Shared → Prop} {s : Shared} (h : wpAny M A t Q E s) (hQ : ∀ a s, Q a s → Q' a s) : wpAny M A t Q' E s := wpAny_mono h hQ fun _ _ x => x
end L2
namespace L2
open PySem PySem.Spec PyProof.Rows
section
variable {X : Cx}
noncomputable def tVar (i : Nat) : TE := fun σ H Q => ∃ v, σ[i]? = some (some v) ∧ Q v H
noncomputable def tC (v : V) : TE := fun _ H Q => Q v H
theorem yKW {i : Nat} {x : Str} {pos : Pos} (hN : X.N[i]? = some x) (hv : Vis X.env.scope x) (hd : (x == ("__debug__" : Str)) = false := by decide) (hcd : (x == ("__classdict__" : Str)) = false := by decide) : PE X (.Name x pos) (tVar i) := by
  intro pins s σ H Q I h
  obtain ⟨v, e, h⟩ := h
  obtain ⟨m, hn, hl⟩ := I.loc
  obtain ⟨u, r, l⟩ := hl i x v hN e hv
  have fin : EP X pins σ Q u s := ⟨v, H, I, r, h⟩
  rcases l with ⟨hk, hm⟩ | ⟨hk, c, hc, hcell⟩
  · exact wpAny_Name (wpAny_loadName_local I.ok.kind hk hn hm fin) hd
  · rcases hk with hk | hk
    · exact wpAny_Name (wpAny_loadName_cell I.ok.kind hk hc hcell fin) hd
    · exact wpAny_Name (wpAny_loadName_free I.ok.kind hk hc hcell fin hcd) hd
theorem yKX {i j pos} : PE X (.Constant (.int i) j pos) (tC (.int i)) := fun _ _ _ H _ I h => wpAny_Constant_int ⟨.int i, H, I.tok _, ⟨_, rfl⟩, h⟩
theorem pe_bl {b j pos} : PE X (.Constant (.bool b) j pos) (tC (.bl b)) := fun _ _ _ H _ I h => Constant_bool ⟨.bl b, H, I, rfl, h⟩
theorem yKY {j pos} : PE X (.Constant .none j pos) (tC .non) := fun _ _ _ H _ I h => Constant_none ⟨.non, H, I, rfl, h⟩
theorem yKZ {x j pos} : PE X (.Constant (.str x) j pos) (tC (.str x)) := fun _ _ _ H _ I h => Calls.Constant_str ⟨.str x, H, I.tok _, ⟨_, rfl⟩, h⟩
noncomputable def Gl (X : Cx) (x : Str) : Prop := X.env.kindOf x = some .globalImplicit
theorem yAI {E : Value → Shared → Prop} {pins : List (Addr × Obj)} {s : Shared} {σ : St} {H : Hp} {x : Str} {u : Value} {pos : Pos} {Q : Value → Shared → Prop} (I : Inv X pins σ H s) (hg : Gl X x) (hm : X.mg x = some u) (h : Q u s)
    (hd : (x == ("__debug__" : Str)) = false := by decide) : wpAny (model X.prog X.w) X.A (eval (.Name x pos) X.env) Q E s :=
  Calls.Name_function_global I.ok.kind hg (Calls.loadGlobal_global (by rw [I.ok.glob]; exact I.mod.glob.keeps I.bk) hm h) hd
theorem zMR {E : Value → Shared → Prop} {pins : List (Addr × Obj)} {s : Shared} {σ : St} {H : Hp} {x : Str} {u : Value} {pos : Pos} {Q : Value → Shared → Prop} (I : Inv X pins σ H s) (hg : Gl X x) (hm : X.mg x = none) (hv : bootBuiltins x = some u) (h : Q u s)
    (hn : x ≠ "__name__" := by decide) (hd : (x == ("__debug__" : Str)) = false := by decide) : wpAny (model X.prog X.w) X.A (eval (.Name x pos) X.env) Q E s := by
  obtain ⟨mb, h1, h2⟩ := I.mod.blt
  exact Calls.Name_function_global I.ok.kind hg (Calls.loadGlobal_builtin (by rw [I.ok.glob]; exact I.mod.glob.keeps I.bk) hm (by rw [I.ok.blt]; exact h1.keeps I.bk) ((h2 x hn).trans hv) h) hd
theorem yAJ {x : Str} {v : V} {u : Value} {pos : Pos} (hg : Gl X x) (hm : X.mg x = some u) (r : RelV v u) (hd : (x == ("__debug__" : Str)) = false := by decide) : PE X (.Name x pos) (tC v) :=
  fun _ _ _ H _ I h => yAI I hg hm ⟨v, H, I, r, h⟩ hd
theorem yHH {x : Str} {v : V} {u : Value} {pos : Pos} (hg : Gl X x) (hm : X.mg x = none) (hv : bootBuiltins x = some u) (r : RelV v u) (hn : x ≠ "__name__" := by decide) (hd : (x == ("__debug__" : Str)) = false := by decide) : PE X (.Name x pos) (tC v) :=
  fun _ _ _ H _ I h => zMR I hg hm hv ⟨v, H, I, r, h⟩ hn hd
variable {a b : Expr} {ta tb : TE} {pos : Pos}
variable {tA tB' : TT} {rest : List Expr}
noncomputable def tAnd (t u : TT) : TT := fun σ H Q => t σ H fun c H1 => if c = true then u σ H1 Q else Q false H1
noncomputable def tOr (t u : TT) : TT := fun σ H Q => t σ H fun c H1 => if c = true then Q true H1 else u σ H1 Q
noncomputable def tNot (t : TT) : TT := fun σ H Q => t σ H fun c H1 => Q (!c) H1
theorem yHI (ha : PT X a tA) : PW X (.BoolOp .And [a] pos) tA := by
  intro wh pins s σ H Q I h
  refine isTrue_and (thn (ha pins s σ H Q I h) fun c s1 e => ?_)
  cases c with
  | true => exact isTrue_and_nil e
  | false => exact e
theorem yLA (ha : PT X a tA) : PW X (.BoolOp .Or [a] pos) tA := by
  intro wh pins s σ H Q I h
  refine isTrue_or (thn (ha pins s σ H Q I h) fun c s1 e => ?_)
  cases c with
  | false => exact isTrue_or_nil e
  | true => exact e
theorem yLB (ha : PT X a tA) (hb : PW X (.BoolOp .And (b :: rest) pos) tB') : PW X (.BoolOp .And (a :: b :: rest) pos) (tAnd tA tB') := by
  intro wh pins s σ H Q I h
  refine isTrue_and (thn (ha pins s σ H _ I h) fun c s1 ⟨H1, I1, q1⟩ => ?_)
  cases c with
  | true => exact hb wh pins s1 σ H1 Q I1 q1
  | false => exact ⟨H1, I1, q1⟩
theorem pw_or (ha : PT X a tA) (hb : PW X (.BoolOp .Or (b :: rest) pos) tB') : PW X (.BoolOp .Or (a :: b :: rest) pos) (tOr tA tB') := by
  intro wh pins s σ H Q I h
  refine isTrue_or (thn (ha pins s σ H _ I h) fun c s1 ⟨H1, I1, q1⟩ => ?_)
  cases c with
  | true => exact ⟨H1, I1, q1⟩
  | false => exact hb wh pins s1 σ H1 Q I1 q1
theorem yLC (ha : PT X a tA) : PT X (.UnaryOp .Not a pos) (tNot tA) := by
  intro pins s σ H Q I h
  exact isTrue_not (ha pins s σ H (fun c H1 => Q (!c) H1) I h)
noncomputable def tAndV (ta tb : TE) : TE := fun σ H Q => ta σ H fun x H1 => ∃ c, x = .bl c ∧ if c = true then tb σ H1 Q else Q (.bl false) H1
noncomputable def tNotV (ta : TE) : TE := fun σ H Q => ta σ H fun x H1 => ∃ c, x = .bl c ∧ Q (.bl (!c)) H1
theorem yLD {op} {t : TE} (h : PE X a t) : PE X (.BoolOp op [a] pos) t := fun pins s σ H Q I hw => BoolOp_one (h pins s σ H Q I hw)
theorem yLE (ha : PE X a ta) (hb : PE X (.BoolOp .And (b :: rest) pos) tb) : PE X (.BoolOp .And (a :: b :: rest) pos) (tAndV ta tb) := by
  intro pins s σ H Q I h
  refine BoolOp_and (thn (ha pins s σ H _ I h) fun v s1 ⟨x, H1, I1, r1, q1⟩ => ?_)
  obtain ⟨c, rfl, q1⟩ := q1
  cases r1
  refine wpAny_truthy_bool ?_
  cases c with
  | true => exact hb pins s1 σ H1 Q I1 q1
  | false => exact ⟨.bl false, H1, I1, rfl, q1⟩
theorem yLF (ha : PE X a ta) : PE X (.UnaryOp .Not a pos) (tNotV ta) := by
  intro pins s σ H Q I h
  refine UnaryOp_ (thn (ha pins s σ H _ I h) fun v s1 ⟨x, H1, I1, r1, q1⟩ => ?_)
  obtain ⟨c, rfl, q1⟩ := q1
  cases r1
  exact not_of (wpAny_truthy_bool ⟨.bl (!c), H1, I1, rfl, q1⟩)
end
end L2
namespace L2
open PySem PySem.Spec PyProof.Rows
noncomputable def SqL (K : PySem.W.Frag) (H : Hp) (a : Addr) (xs : List V) : Prop :=
  Rd H a (.lst xs) ∨
    ∃ (o : Obj) (its : Array Value) (n : Nat), K.lookup a = some o ∧ o.cls = .type "list" ∧ o.dict = none ∧ o.data = .seq its n ∧ its.size ≤ sizeLine ∧ Vals xs its.toList
noncomputable def SqT (K : PySem.W.Frag) (H : Hp) (a : Addr) (xs : List V) : Prop :=
  Rd H a (.tup xs) ∨
    ∃ (o : Obj) (its : Array Value) (n : Nat), K.lookup a = some o ∧ o.cls = .type "tuple" ∧ o.data = .seq its n ∧ its.size ≤ sizeLine ∧ Vals xs its.toList
noncomputable def absV : Value → Option V
  | .none => some .non
  | .bool b => some (.bl b)
  | .int i _ => some (.int i)
  | .str x _ => some (.str x)
  | .bytes b _ => some (.byt b)
  | .float b _ => some (.flt b)
  | .ref a => some (.ref a)
  | .type n => some (.ty n)
  | _ => none
theorem RelV.abs {x : V} {u : Value} (r : RelV x u) : absV u = some x := by
  cases x with
  | non => cases r; rfl
  | bl _ => cases r; rfl
  | int _ => obtain ⟨t, rfl⟩ := r; rfl
  | str _ => obtain ⟨t, rfl⟩ := r; rfl
  | byt _ => obtain ⟨t, rfl⟩ := r; rfl
  | flt _ => obtain ⟨t, rfl⟩ := r; rfl
  | ref _ => cases r; rfl
  | ty _ => cases r; rfl
theorem RelV.inj {x y : V} {u : Value} (r : RelV x u) (q : RelV y u) : x = y := Option.some.inj (r.abs.symm.trans q.abs)
theorem Vals.inj : ∀ {xs ys : List V} {us : List Value}, Vals xs us → Vals ys us → xs = ys
  | _, _, _, .nil, .nil => rfl
  | _, _, _, .cons r t, .cons r' t' => by rw [r.inj r', Vals.inj t t']
section
variable {X : Cx} {pins : List (Addr × Obj)} {σ : St} {H : Hp} {s : Shared} {a : Addr} {xs ys : List V}
theorem SqL.of {K : PySem.W.Frag} (h : H a = some (.lst xs)) : SqL K H a xs := .inl (.inl h)
theorem SqT.of {K : PySem.W.Frag} (h : H a = some (.tup xs)) : SqT K H a xs := .inl (.inl h)
theorem Inv.list (I : Inv X pins σ H s) (h : SqL X.K H a xs) : ∃ its : List Value, Vals xs its ∧ PlainL s.heap a its.toArray ∧ xs.length ≤ sizeLine := by
  rcases h with h | ⟨o, its, n, hk, hc, hd, hs, hz, r⟩
  · obtain ⟨z, its, n, r, e⟩ := h.ok I.hok
    exact ⟨its, r, ⟨_, n, e, rfl, rfl, rfl⟩, z⟩
  · refine ⟨its.toList, r, ⟨o, n, I.kIn a o hk, hc, hd, by simpa using hs⟩, ?_⟩
    have e := r.length
    simp only [Array.length_toList] at e
    (first | lia | omega)
theorem Inv.tuple (I : Inv X pins σ H s) (h : SqT X.K H a xs) : ∃ its : List Value, Vals xs its ∧ IsTup s.heap a its.toArray ∧ xs.length ≤ sizeLine := by
  rcases h with h | ⟨o, its, n, hk, hc, hs, hz, r⟩
  · obtain ⟨z, its, r, p⟩ := h.ok I.hok
    exact ⟨its, r, p, z⟩
  · refine ⟨its.toList, r, ⟨o, I.kIn a o hk, hc, n, by simpa using hs⟩, ?_⟩
    have e := r.length
    simp only [Array.length_toList] at e
    (first | lia | omega)
theorem Inv.list_inj (I : Inv X pins σ H s) (h : SqL X.K H a xs) (h' : SqL X.K H a ys) : xs = ys := by
  obtain ⟨its, r, ⟨o, n, e, _, _, d⟩, _⟩ := I.list h
  obtain ⟨its', r', ⟨o', n', e', _, _, d'⟩, _⟩ := I.list h'
  rw [e] at e'; cases e'
  rw [d] at d'
  injection d' with d1 _
  have : its = its' := by simpa using congrArg Array.toList d1
  subst this
  exact r.inj r'
theorem Inv.tuple_inj (I : Inv X pins σ H s) (h : SqT X.K H a xs) (h' : SqT X.K H a ys) : xs = ys := by
  obtain ⟨its, r, ⟨o, e, _, n, d⟩, _⟩ := I.tuple h
  obtain ⟨its', r', ⟨o', e', _, n', d'⟩, _⟩ := I.tuple h'
  rw [e] at e'; cases e'
  rw [d] at d'
  injection d' with d1 _
  have : its = its' := by simpa using congrArg Array.toList d1
  subst this
  exact r.inj r'
end
abbrev Cx.wish (X : Cx) (E : Value → Shared → Prop) : Cx := { X with xe := E }
abbrev Cx.nox (X : Cx) : Cx := X.wish fun _ _ => False
theorem Cx.Ok.wish {X : Cx} (ok : X.Ok) (E : Value → Shared → Prop) : (X.wish E).Ok :=
  ⟨ok.mod, ok.kind, ok.glob, ok.blt, ok.above, ok.inj, ok.has, ok.cab, ok.hd, ok.frames, ok.stk, ok.exf, ok.bs, ok.bsz, ok.noex, ok.exfs, ok.funs, ok.frf⟩
theorem Cx.Ok.unwish {X : Cx} {E : Value → Shared → Prop} (ok : (X.wish E).Ok) : X.Ok :=
  ⟨ok.mod, ok.kind, ok.glob, ok.blt, ok.above, ok.inj, ok.has, ok.cab, ok.hd, ok.frames, ok.stk, ok.exf, ok.bs, ok.bsz, ok.noex, ok.exfs, ok.funs, ok.frf⟩
section
variable {X : Cx} {pins : List (Addr × Obj)} {σ : St} {H : Hp} {s : Shared} {E : Value → Shared → Prop}
theorem Inv.wish (I : Inv X pins σ H s) (E : Value → Shared → Prop) : Inv (X.wish E) pins σ H s := ⟨I.ok.wish E, I.os, I.bare, I.base, I.loc, I.cell, I.free, I.freeC, I.pin, I.hok, I.len⟩
theorem Inv.unwish (I : Inv (X.wish E) pins σ H s) : Inv X pins σ H s := ⟨I.ok.unwish, I.os, I.bare, I.base, I.loc, I.cell, I.free, I.freeC, I.pin, I.hok, I.len⟩
theorem SP.unwish {D : Ends} {f : Flow} {s' : Shared} (h : SP (X.wish E) pins D f s') : SP X pins D f s' := by
  cases f with
  | next => obtain ⟨σ', H', I, q⟩ := h; exact ⟨σ', H', I.unwish, q⟩
  | brk => obtain ⟨σ', H', I, q⟩ := h; exact ⟨σ', H', I.unwish, q⟩
  | cont => obtain ⟨σ', H', I, q⟩ := h; exact ⟨σ', H', I.unwish, q⟩
  | ret u => obtain ⟨v, σ', H', I, r, q⟩ := h; exact ⟨v, σ', H', I.unwish, r, q⟩
theorem PSs.nox {st : List Stmt} {t : TS} (h : PSs X.nox st t) : PSs X st t := fun pins s σ H D I hw =>
  wpAny_mono (h pins s σ H D (I.wish _) hw) (fun _ _ q => q.unwish) fun _ _ z => False.elim z
end
section
variable {X : Cx} {st : Stmt} {rest : List Stmt} {t u : TS} {e : Expr} {te : TE} {pos : Pos}
noncomputable def tNext : TS := fun D σ H => D.nx σ H
noncomputable def tSeq (t u : TS) : TS := fun D σ H => t { D with nx := u D } σ H
theorem yHJ : PSs X [] tNext := fun _ _ σ H _ I h => wpAny_execs_nil ⟨σ, H, I, h⟩
theorem yDT (h1 : PS X st t) (h2 : PSs X rest u) : PSs X (st :: rest) (tSeq t u) := by
  intro pins s σ H D I h
  refine wpAny_execs_cons (thn (h1 pins s σ H { D with nx := u D } I h) fun f s1 q => ?_)
  cases f with
  | next =>
    obtain ⟨σ', H', I', q⟩ := q
    exact h2 pins s1 σ' H' D I' q
  | ret v => exact q
  | brk => exact q
  | cont => exact q
theorem yHK (h1 : PS X st t) : PSs X [st] t := by
  intro pins s σ H D I h
  refine wpAny_execs_cons (thn (h1 pins s σ H D I h) fun f s1 q => ?_)
  cases f with
  | next => exact wpAny_execs_nil q
  | ret v => exact q
  | brk => exact q
  | cont => exact q
theorem Inv.quiet {pins : List (Addr × Obj)} {σ : St} {H : Hp} {s : Shared} (I : Inv X pins σ H s) : interactive X.env = false := by simp [interactive, I.ok.kind]
noncomputable def tDrop (te : TE) : TS := fun D σ H => te σ H fun _ H1 => D.nx σ H1
theorem yHL (he : PE X e te) (hs : swapsWith e none pos.line X.env = pure false := by rfl) : PS X (.Expr e pos) (tDrop te) := by
  intro pins s σ H D I h
  exact wpAny_Expr_any (thn (he pins s σ H _ I h) fun v s1 ⟨x, H1, I1, r1, q1⟩ => ⟨σ, H1, I1, q1⟩) I.quiet hs
noncomputable def tRet (te : TE) : TS := fun D σ H => te σ H D.rt
theorem yLG (he : PE X e te) : PS X (.Return (some e) pos) (tRet te) := by
  intro pins s σ H D I h
  exact wpAny_Return_some (thn (he pins s σ H _ I h) fun v s1 ⟨x, H1, I1, r1, q1⟩ => ⟨x, σ, H1, I1, r1, q1⟩)
noncomputable def tIfS (c : TT) (t u : TS) : TS := fun D σ H => c σ H fun b H1 => if b = true then t D σ H1 else u D σ H1
theorem ps_if {c : Expr} {a b : List Stmt} {tc : TT} (hc : PT X c tc) (ha : PSs X a t) (hb : PSs X b u) : PS X (.If c a b pos) (tIfS tc t u) := by
  intro pins s σ H D I h
  refine wpAny_If (thn (hc pins s σ H _ I h) fun d s1 ⟨H1, I1, q1⟩ => ?_)
  cases d with
  | true => exact ha pins s1 σ H1 D I1 q1
  | false => exact hb pins s1 σ H1 D I1 q1
noncomputable def yLH : TS := fun _ _ _ => False
theorem yDU : PS X st yLH := fun _ _ _ _ _ _ h => h.elim
end
abbrev TG := V → St → Hp → (St → Hp → Prop) → Prop
abbrev TGs := List V → St → Hp → (St → Hp → Prop) → Prop
noncomputable def PG (X : Cx) (target : Expr) (t : TG) : Prop :=
  ∀ (pins : List (Addr × Obj)) (s : Shared) (σ : St) (H : Hp) (v : V) (u : Value) (Q : St → Hp → Prop), Inv X pins σ H s → RelV v u → t v σ H Q →
    wpAny (model X.prog X.w) X.A (assign target X.env u) (fun _ s' => ∃ σ' H', Inv X pins σ' H' s' ∧ Q σ' H') X.xe s
noncomputable def PGs (X : Cx) (ts : List Expr) (t : TGs) : Prop :=
  ∀ (pins : List (Addr × Obj)) (s : Shared) (σ : St) (H : Hp) (vs : List V) (us : List Value) (Q : St → Hp → Prop), Inv X pins σ H s → Vals vs us → t vs σ H Q →
    wpAny (model X.prog X.w) X.A (assignInOrder ((assignEach ts X.env).map (·.2)) us) (fun _ s' => ∃ σ' H', Inv X pins σ' H' s' ∧ Q σ' H') X.xe s
abbrev TSet := V → V → V → Hp → (Hp → Prop) → Prop
noncomputable def PSet (X : Cx) (t : TSet) : Prop :=
  ∀ (pins : List (Addr × Obj)) (s : Shared) (σ : St) (H : Hp) (o i v : V) (ov iv u : Value) (Q : Hp → Prop), Inv X pins σ H s → RelV o ov → RelV i iv → RelV v u → t o i v H Q →
    wpAny (model X.prog X.w) X.A (setItem ov iv u) (fun _ s' => ∃ H', Inv X pins σ H' s' ∧ Q H') X.xe s
section
variable {X : Cx} {pos : Pos}
noncomputable def yDV (i : Nat) : TG := fun v σ H Q => Q (σ.set i (some v)) H
theorem yAK {i : Nat} {x : Str} (hN : X.N.Nodup) (hi : X.N[i]? = some x) (hx : Loc X.env.scope x) (hf : X.fn x = true ∨ X.env.scope.names.lookup x = some .local := by first | exact .inl rfl | exact .inr rfl | assumption) : PG X (.Name x pos) (yDV i) := by
  intro pins s σ H v u Q I r h
  exact wpAny_assign_Name (zVI I hN hi hx r (fun s' I' => ⟨_, H, I', h⟩) hf)
noncomputable def gNil : TGs := fun vs σ H Q => vs = [] ∧ Q σ H
noncomputable def gCons (t : TG) (u : TGs) : TGs := fun vs σ H Q => ∃ v r, vs = v :: r ∧ t v σ H fun σ' H' => u r σ' H' Q
theorem yAL : PGs X [] gNil := by
  intro pins s σ H vs us Q I r h
  obtain ⟨e, h⟩ := h
  subst e
  cases r
  exact assignInOrder_nil ⟨σ, H, I, h⟩
theorem zVJ {e : Expr} {es : List Expr} {t : TG} {u : TGs} (h1 : PG X e t) (h2 : PGs X es u)
    (hs : (assignEach (e :: es) X.env).map (·.2) = assign e X.env :: (assignEach es X.env).map (·.2) := by rfl) : PGs X (e :: es) (gCons t u) := by
  intro pins s σ H vs us Q I r h
  obtain ⟨v, vr, e1, h⟩ := h
  subst e1
  cases r with
  | cons r rr =>
    rw [hs]
    refine assignInOrder_cons (thn (h1 pins s σ H _ _ _ I r h) fun _ s1 ⟨σ1, H1, I1, q1⟩ => ?_)
    exact h2 pins s1 σ1 H1 _ _ Q I1 rr q1
noncomputable def gTup (K : PySem.W.Frag) (n : Nat) (t : TGs) : TG := fun v σ H Q => ∃ a xs, v = .ref a ∧ SqT K H a xs ∧ xs.length = n ∧ t xs σ H Q
theorem yDW {es : List Expr} {k : Nat} {t : TGs} {n : Nat} (hc : X.calm = true) (h : PGs X es t)
    (hn : (assignEach es X.env).length = n := by rfl) (hst : (assignEach es X.env).findIdx? (·.1) = none := by rfl) : PG X (.Tuple es k pos) (gTup X.K n t) := by
  intro pins s σ H v u Q I r hw
  obtain ⟨a, xs, e1, hq, hl, hw⟩ := hw
  subst e1
  cases r
  obtain ⟨its, rv, ht, hz⟩ := I.tuple hq
  refine assign_Tuple_tuple (I.ok.hd hc) ht (by simp [hn, ← hl, rv.length]) hst fun h' hx => ?_
  have I1 : Inv X pins σ H { s with heap := h' } := I.kept (t' := s.toks) fun b o e => hx b o (Nat.ne_of_lt (Heap.lt_size e)) e
  exact h pins _ σ H xs _ Q I1 (by simpa using rv) hw
noncomputable def gSub (to ti : TE) (t : TSet) : TG := fun v σ H Q => to σ H fun o H1 => ti σ H1 fun i H2 => t o i v H2 fun H3 => Q σ H3
theorem yDX {o i : Expr} {to ti : TE} {t : TSet} (ho : PE X o to) (hi : PE X i ti) (hs : PSet X t)
    (ha : ∀ v, assign (.Subscript o i pos) X.env v = (do
      let ov ← holding [v] (eval o X.env)
      let iv ← holding [v, ov] (eval i X.env)
      standAt pos
      holding [v, ov, iv] (setItem ov iv v)
      release [v, ov, iv] []) := by intro _; rfl) : PG X (.Subscript o i pos) (gSub to ti t) := by
  intro pins s σ H v u Q I r h
  rw [ha]
  refine wpAny_bind (wpAny_holding (thn (ho pins s σ H _ I h) fun ov s1 ⟨x, H1, I1, r1, q1⟩ => ?_))
  refine wpAny_bind (wpAny_holding (thn (hi pins s1 σ H1 _ I1 q1) fun iv s2 ⟨y, H2, I2, r2, q2⟩ => ?_))
  refine wpAny_bind (wpAny_standAt (wpAny_bind (wpAny_holding (thn (hs pins s2 σ H2 x y v ov iv u _ I2 r1 r2 r q2) fun _ s3 ⟨H3, I3, q3⟩ => ?_))))
  exact wpAny_release ⟨σ, H3, I3, q3⟩
noncomputable def tAsg (te : TE) (g : TG) : TS := fun D σ H => te σ H fun x H1 => g x σ H1 D.nx
theorem yLI {tg e : Expr} {te : TE} {g : TG} (he : PE X e te) (hg : PG X tg g) (hs : swapsWithSole [tg] e pos.line X.env = pure false := by rfl) (hw : swappedStores [tg] e X.env = pure none := by rfl)
    (h1 : (assignEach [tg] X.env).map (·.2) = [assign tg X.env] := by rfl) : PS X (.Assign [tg] e pos) (tAsg te g) := by
  intro pins s σ H D I h
  refine wpAny_Assign_stores (thn (he pins s σ H _ I h) fun v s1 ⟨x, H1, I1, r1, q1⟩ => ?_) hs hw
  rw [h1]
  exact thn (hg pins s1 σ H1 x v _ I1 r1 q1) fun _ s2 q => q
theorem yLJ {i : Nat} {x : Str} {e : Expr} {te : TE} {pos' : Pos} (hN : X.N.Nodup) (hi : X.N[i]? = some x) (hx : Loc X.env.scope x) (he : PE X e te) (hs : swapsWith e (some (.Name x pos')) pos.line X.env = pure false := by rfl) (hf : X.fn x = true ∨ X.env.scope.names.lookup x = some .local := by first | exact .inl rfl | exact .inr rfl | assumption) :
    PS X (.Assign [.Name x pos'] e pos) (tAsg te (yDV i)) := by
  intro pins s σ H D I h
  refine wpAny_Assign_Name (thn (he pins s σ H _ I h) fun v s1 ⟨y, H1, I1, r1, q1⟩ => ?_) hs
  exact zVI I1 hN hi hx r1 (fun s2 I2 => ⟨_, H1, I2, q1⟩) hf
end
structure It where
  go : Nat → Hp → Prop
  yld : Nat → Hp → V → Hp → Prop
  stop : Nat → Hp → Prop
noncomputable def zKF (X : Cx) (pins : List (Addr × Obj)) (H : Hp) (b : Addr) : Prop :=
  H b = none ∧ b ≠ X.env.locals ∧ b ∉ X.fs ∧ (b ∈ X.ex ∨ X.s₀.heap.objs.size ≤ b) ∧ (∀ x c, X.env.cells.lookup x = some c → c ≠ b) ∧ ∀ p ∈ X.pn ++ pins, p.1 ≠ b
theorem Inv.fpOk {X : Cx} {pins : List (Addr × Obj)} {σ : St} {H H' : Hp} {s : Shared} {b : Addr} (I : Inv X pins σ H s) (hb : s.heap.objs.size ≤ b) (hn : H' b = none) : zKF X pins H' b := by
  refine ⟨hn, Nat.ne_of_gt (Nat.lt_of_lt_of_le I.lt hb), I.nofs hb, .inr (Nat.le_trans I.sz hb), fun x c e z => ?_, fun p hp z => ?_⟩
  · obtain ⟨v, q⟩ := I.cell x c e
    exact absurd (Nat.lt_of_lt_of_le q.lt (by rw [z]; exact hb)) (Nat.lt_irrefl _)
  · exact absurd (Nat.lt_of_lt_of_le (Heap.lt_size (I.pin p hp).1) (by rw [z]; exact hb)) (Nat.lt_irrefl _)
structure Turn (P : Program) (w : World) (K : PySem.W.Frag) (tg : Expr) (J : It) (fp : List Addr) (it : Addr) (tn : Nat → Heap → Prop) : Prop where
  mem : it ∈ fp
  obj : ∀ i h, tn i h → ∀ b ∈ fp, ∃ o, h.get? b = some o ∧ ∀ v, o.data ≠ .cell v
  keep : ∀ i h h', tn i h → (∀ b ∈ fp, ∀ o, h.get? b = some o → h'.get? b = some o) → tn i h'
  item : ∀ (X : Cx), X.prog = P → X.w = w → X.K = K → X.calm = true → ∀ (i : Nat) (pins : List (Addr × Obj)) (s : Shared) (σ : St) (H : Hp) (E : Value → Shared → Prop), Inv X pins σ H s → (∀ b ∈ fp, zKF X pins H b) → tn i s.heap → J.go i H →
    wpAny (model P w) X.A (pyNext (.ref it)) (fun r s1 => ∃ u, r = some u ∧
      wpAny (model P w) X.A (letOwnedTupleGo tg (.ref it) u) (fun _ s2 => ∃ x H', Inv X pins σ H' s2 ∧ RelV x u ∧ J.yld i H x H' ∧ tn (i + 1) s2.heap ∧ ∀ b ∈ fp, H' b = none) E s1) E s
  done : ∀ (X : Cx), X.prog = P → X.w = w → X.K = K → X.calm = true → ∀ (i : Nat) (pins : List (Addr × Obj)) (s : Shared) (σ : St) (H : Hp) (E : Value → Shared → Prop), Inv X pins σ H s → (∀ b ∈ fp, zKF X pins H b) → tn i s.heap → J.stop i H →
    wpAny (model P w) X.A (pyNext (.ref it)) (fun r s1 => r = none ∧ Inv X pins σ H s1) E s
  self : ∀ (A : Around) (i : Nat) (s : Shared) (Q : Value → Shared → Prop) (E : Value → Shared → Prop), tn i s.heap → Q (.ref it) s → wpAny (model P w) A (pyIter (.ref it)) Q E s
abbrev TI := St → Hp → (It → Hp → Prop) → Prop
noncomputable def PIE (X : Cx) (pins : List (Addr × Obj)) (σ : St) (tg : Expr) (R : It → Hp → Prop) (itv : Value) (s2 : Shared) : Prop :=
  ∃ (it : Addr) (fp : List Addr) (tn : Nat → Heap → Prop) (J : It) (H' : Hp), itv = .ref it ∧ Inv X pins σ H' s2 ∧ Turn X.prog X.w X.K tg J fp it tn ∧ tn 0 s2.heap ∧ (∀ b ∈ fp, zKF X pins H' b) ∧ R J H'
noncomputable def PI (X : Cx) (tg iter : Expr) (wi : TI) : Prop :=
  ∀ (pins : List (Addr × Obj)) (s : Shared) (σ : St) (H : Hp) (R : It → Hp → Prop), Inv X pins σ H s → wi σ H R →
    wpAny (model X.prog X.w) X.A (eval iter X.env) (fun v s1 => wpAny (model X.prog X.w) X.A (pyIter v) (PIE X pins σ tg R) X.xe s1) X.xe s
theorem yAM {M : Model} {A : Around} {E : Value → Shared → Prop} {s : Shared} {tg : Expr} {it : Addr} {u : Value} {o : Obj} {n : String} {vs : Array Value} {Q : Unit → Shared → Prop} (ho : s.heap.get? it = some o) (hc : o.cls = .type n) (hd : o.data = .fields vs)
    (hn : ["enumerate", "zip", "dict_itemiterator", "dict_reverseitemiterator", "odict_iterator", "itertools.zip_longest", "itertools.pairwise"].contains n = false) (hQ : Q () s) : wpAny M A (letOwnedTupleGo tg (.ref it) u) Q E s := by
  unfold letOwnedTupleGo
  cases tg <;> first
    | exact wpAny_pure hQ
    | (cases u <;> first
        | exact wpAny_pure hQ
        | (refine wpAny_bind (wpAny_load ho ?_)
           rw [hc, hd]
           show wpAny M A (if (["enumerate", "zip", "dict_itemiterator", "dict_reverseitemiterator", "odict_iterator", "itertools.zip_longest", "itertools.pairwise"].contains n && vs[0]? == some (rawInt _)) = true then _ else _) Q E s
           rw [if_neg (by intro h; rw [hn, Bool.false_and] at h; cases h)]
           exact wpAny_pure hQ))
noncomputable def Itl (K : PySem.W.Frag) (a : Addr) : It :=
  ⟨fun i H => ∃ xs x, SqL K H a xs ∧ xs[i]? = some x, fun i H x H' => H' = H ∧ ∀ xs, SqL K H a xs → xs[i]? = some x, fun i H => ∃ xs, SqL K H a xs ∧ xs.length ≤ i⟩
noncomputable def Itt (K : PySem.W.Frag) (a : Addr) : It :=
  ⟨fun i H => ∃ xs x, SqT K H a xs ∧ xs[i]? = some x, fun i H x H' => H' = H ∧ ∀ xs, SqT K H a xs → xs[i]? = some x, fun i H => ∃ xs, SqT K H a xs ∧ xs.length ≤ i⟩
noncomputable def Itr (lo : Int) (n : Nat) : It := ⟨fun i _ => i < n, fun i H x H' => H' = H ∧ x = .int (lo + i), fun i _ => n ≤ i⟩
theorem yBZ {P : Program} {w : World} {K : PySem.W.Frag} {tg : Expr} (a it : Addr) : Turn P w K tg (Itl K a) [it] it (fun i h => h.IsListIter it a i) where
  mem := by simp
  obj := fun i h st b hb => by
    have e : b = it := by simpa using hb
    subst e
    obtain ⟨o, e, c, d⟩ := st
    exact ⟨o, e, fun v z => by rw [d] at z; cases z⟩
  keep := fun i h h' st k => st.at fun o e => k it (by simp) o e
  item := by
    intro X hP hw hK hc i pins s σ H E I hf st hg
    subst hP hw hK
    obtain ⟨xs, x, hq, hx⟩ := hg
    obtain ⟨its, rv, p, hz⟩ := I.list hq
    obtain ⟨u, hu, ru⟩ := rv.get hx
    obtain ⟨f0, f1, f2, f3, f4, f5⟩ := hf it (by simp)
    refine wpAny_pyNext_list_item st p.isList (x := u) (by simpa using hu) fun h' st' sb => ?_
    have I1 : Inv X pins σ H { s with heap := h' } := I.turned (t' := s.toks) (fun b o hb e => (sb.2 b hb).trans e) f0 f1 f3 f4 f5
    obtain ⟨o, e, c, d⟩ := id st'
    exact ⟨u, rfl, yAM (s := { s with heap := h' }) e c d (by decide) ⟨x, H, I1, ru, ⟨rfl, fun ys hy => by rw [I.list_inj hy hq]; exact hx⟩, st', fun b hb => (hf b hb).1⟩⟩
  done := by
    intro X hP hw hK hc i pins s σ H E I hf st hg
    subst hP hw hK
    obtain ⟨xs, hq, hx⟩ := hg
    obtain ⟨its, rv, p, hz⟩ := I.list hq
    obtain ⟨f0, f1, f2, f3, f4, f5⟩ := hf it (by simp)
    have hl := rv.length
    exact wpAny_pyNext_list_end (I.ok.hd hc) st p.isList (by simp; (first | lia | omega)) fun h' eb => ⟨rfl, I.turned (t' := s.toks) (fun b o hb e => eb b o hb e) f0 f1 f3 f4 f5⟩
  self := fun _ _ _ _ _ st h => wpAny_pyIter_listiter st h
theorem zXX {P : Program} {w : World} {K : PySem.W.Frag} {tg : Expr} (a it : Addr) : Turn P w K tg (Itt K a) [it] it (fun i h => h.IsTupleIter it a i) where
  mem := by simp
  obj := fun i h st b hb => by
    have e : b = it := by simpa using hb
    subst e
    obtain ⟨o, e, c, d⟩ := st
    exact ⟨o, e, fun v z => by rw [d] at z; cases z⟩
  keep := fun i h h' st k => st.at fun o e => k it (by simp) o e
  item := by
    intro X hP hw hK hc i pins s σ H E I hf st hg
    subst hP hw hK
    obtain ⟨xs, x, hq, hx⟩ := hg
    obtain ⟨its, rv, p, hz⟩ := I.tuple hq
    obtain ⟨u, hu, ru⟩ := rv.get hx
    obtain ⟨f0, f1, f2, f3, f4, f5⟩ := hf it (by simp)
    refine wpAny_pyNext_tuple_item st (show s.heap.IsTuple a its.toArray from p) (x := u) (by simpa using hu) fun h' st' sb => ?_
    have I1 : Inv X pins σ H { s with heap := h' } := I.turned (t' := s.toks) (fun b o hb e => (sb.2 b hb).trans e) f0 f1 f3 f4 f5
    obtain ⟨o, e, c, d⟩ := id st'
    exact ⟨u, rfl, yAM (s := { s with heap := h' }) e c d (by decide) ⟨x, H, I1, ru, ⟨rfl, fun ys hy => by rw [I.tuple_inj hy hq]; exact hx⟩, st', fun b hb => (hf b hb).1⟩⟩
  done := by
    intro X hP hw hK hc i pins s σ H E I hf st hg
    subst hP hw hK
    obtain ⟨xs, hq, hx⟩ := hg
    obtain ⟨its, rv, p, hz⟩ := I.tuple hq
    obtain ⟨f0, f1, f2, f3, f4, f5⟩ := hf it (by simp)
    have hl := rv.length
    exact wpAny_pyNext_tuple_end (I.ok.hd hc) st (show s.heap.IsTuple a its.toArray from p) (by simp; (first | lia | omega)) fun h' eb => ⟨rfl, I.turned (t' := s.toks) (fun b o hb e => eb b o hb e) f0 f1 f3 f4 f5⟩
  self := fun _ _ _ _ _ st h => wpAny_pyIter_tupleiter st h
theorem zXY {P : Program} {w : World} {K : PySem.W.Frag} {tg : Expr} (it : Addr) (lo : Int) (n : Nat) : Turn P w K tg (Itr lo n) [it] it (fun i h => IsRangeIter h it (lo + (i : Nat) * 1) ((n : Int) - (i : Nat)) 1) where
  mem := by simp
  obj := fun i h st b hb => by
    have e : b = it := by simpa using hb
    subst e
    exact ⟨_, st, fun v z => by
      have z' : Data.fields _ = Data.cell v := z
      cases z'⟩
  keep := fun i h h' st k => k it (by simp) _ st
  item := by
    intro X hP hw hK hc i pins s σ H E I hf st hg
    subst hP hw hK
    obtain ⟨f0, f1, f2, f3, f4, f5⟩ := hf it (by simp)
    have W := Walks.range (prog := X.prog) (w := X.w) (I.ok.hd hc) it lo 1 n
    refine W.item i s _ _ hg st fun v h' tk hv st' kk => ?_
    obtain ⟨t, rfl⟩ := hv
    have I1 : Inv X pins σ H { s with heap := h', toks := tk } := I.turned (fun b o hb e => kk b o (by simpa using hb) e) f0 f1 f3 f4 f5
    refine ⟨_, rfl, yAM (s := { s with heap := h', toks := tk }) (n := "range_iterator") st' rfl rfl (by decide) ⟨.int (lo + i), H, I1, ⟨t, ?_⟩, ⟨rfl, rfl⟩, st', fun b hb => (hf b hb).1⟩⟩
    rw [Int.mul_one]
  done := by
    intro X hP hw hK hc i pins s σ H E I hf st hg
    subst hP hw hK
    obtain ⟨f0, f1, f2, f3, f4, f5⟩ := hf it (by simp)
    exact wpAny_pyNext_range_end (I.ok.hd hc) st (by have : n ≤ i := hg; (first | lia | omega)) fun h' eb => ⟨rfl, I.turned (t' := s.toks) (fun b o hb e => eb b o hb e) f0 f1 f3 f4 f5⟩
  self := fun _ _ _ _ _ st h => wpAny_pyIter_rangeiter st h
end L2
namespace L2
open PySem PySem.Spec PyProof.Rows
section
variable {X : Cx} {tg : Expr}
noncomputable def iList (K : PySem.W.Frag) (tl : TE) : TI := fun σ H R => tl σ H fun x H1 => ∃ a, x = .ref a ∧ (∃ xs, SqL K H1 a xs) ∧ R (Itl K a) H1
noncomputable def iTup (K : PySem.W.Frag) (tl : TE) : TI := fun σ H R => tl σ H fun x H1 => ∃ a, x = .ref a ∧ (∃ xs, SqT K H1 a xs) ∧ R (Itt K a) H1
theorem yHM {l : Expr} {tl : TE} (hl : PE X l tl) : PI X tg l (iList X.K tl) := by
  intro pins s σ H R I h
  refine thn (hl pins s σ H _ I h) fun v s1 ⟨x, H1, I1, r1, q1⟩ => ?_
  obtain ⟨a, e, ⟨xs, hq⟩, q⟩ := q1
  subst e
  cases r1
  obtain ⟨its, rv, p, hz⟩ := I1.list hq
  refine wpAny_pyIter_list p.isList ?_
  refine ⟨s1.heap.objs.size, [s1.heap.objs.size], _, _, H1, rfl, I1.kept (t' := s1.toks) fun b o e => Heap.get?_push_of_some _ e, yBZ a _, ⟨_, Heap.get?_push_size _ rfl, rfl, rfl⟩, fun b hb => ?_, q⟩
  have e : b = s1.heap.objs.size := by simpa using hb
  subst e
  exact I1.fpOk (Nat.le_refl _) (I1.hok.fresh (Nat.le_refl _))
theorem yLK {l : Expr} {tl : TE} (hl : PE X l tl) : PI X tg l (iTup X.K tl) := by
  intro pins s σ H R I h
  refine thn (hl pins s σ H _ I h) fun v s1 ⟨x, H1, I1, r1, q1⟩ => ?_
  obtain ⟨a, e, ⟨xs, hq⟩, q⟩ := q1
  subst e
  cases r1
  obtain ⟨its, rv, p, hz⟩ := I1.tuple hq
  refine wpAny_pyIter_tuple (show s1.heap.IsTuple a its.toArray from p) ?_
  refine ⟨s1.heap.objs.size, [s1.heap.objs.size], _, _, H1, rfl, I1.kept (t' := s1.toks) fun b o e => Heap.get?_push_of_some _ e, zXX a _, ⟨_, Heap.get?_push_size _ rfl, rfl, rfl⟩, fun b hb => ?_, q⟩
  have e : b = s1.heap.objs.size := by simpa using hb
  subst e
  exact I1.fpOk (Nat.le_refl _) (I1.hok.fresh (Nat.le_refl _))
theorem yDY {pins : List (Addr × Obj)} {σ : St} {H : Hp} {s : Shared} {R : It → Hp → Prop} {E : Value → Shared → Prop} {lo hi : Int} {t u v : Tok} {tk : Nat} (I : Inv X pins σ H s) (h1 : -(2 ^ 62) ≤ lo) (h2 : lo < 2 ^ 62) (h3 : -(2 ^ 62) ≤ hi) (h4 : hi < 2 ^ 62)
    (q : R (Itr lo (hi - lo).toNat) H) : wpAny (model X.prog X.w) X.A (pyIter (.ref s.heap.objs.size)) (PIE X pins σ tg R) E { s with heap := s.heap.push { cls := .type "range", data := .fields #[.int lo t, .int hi u, .int 1 v] }, toks := tk } := by
  refine wpAny_pyIter_range (IsRange.new ..) (small_one h1 h2 h3 h4) ?_
  have I1 : Inv X pins σ H { s with heap := s.heap.push { cls := .type "range", data := .fields #[.int lo t, .int hi u, .int 1 v] }, toks := tk } := I.kept fun b o e => Heap.get?_push_of_some _ e
  refine ⟨(s.heap.push { cls := .type "range", data := .fields #[.int lo t, .int hi u, .int 1 v] }).objs.size, [(s.heap.push { cls := .type "range", data := .fields #[.int lo t, .int hi u, .int 1 v] }).objs.size], _, _, H, rfl,
    I1.kept (t' := tk) fun b o e => Heap.get?_push_of_some _ e, zXY _ lo (hi - lo).toNat, ?_, fun b hb => ?_, q⟩
  · have e1 : lo + ((0 : Nat) : Int) * 1 = lo := by simp
    have e2 : (((hi - lo).toNat : Nat) : Int) - ((0 : Nat) : Int) = Builtin.Range.rangeSize lo hi 1 := by rw [rangeSize_one]; split <;> (first | lia | omega)
    show IsRangeIter _ _ (lo + ((0 : Nat) : Int) * 1) ((((hi - lo).toNat : Nat) : Int) - ((0 : Nat) : Int)) 1
    rw [e1, e2]
    exact Heap.get?_push_size _ rfl
  · have e : b = (s.heap.push { cls := .type "range", data := .fields #[.int lo t, .int hi u, .int 1 v] }).objs.size := by simpa using hb
    subst e
    exact I1.fpOk (Nat.le_refl _) (I1.hok.fresh (Nat.le_refl _))
noncomputable def iRng1 (ta : TA) : TI := fun σ H R => ta σ H fun vs H1 => ∃ j : Int, vs = [.int j] ∧ -(2 ^ 62) ≤ j ∧ j < 2 ^ 62 ∧ R (Itr 0 j.toNat) H1
theorem yCA {a : Expr} {ta : TA} {p pos : Pos} (hg : Gl X "range") (hm : X.mg "range" = none) (ha : PA X [a] ta) (hs : starEach [a] X.env = [(false, eval a X.env)] := by rfl) : PI X tg (.Call (.Name "range" p) [a] [] pos) (iRng1 ta) := by
  intro pins s σ H R I h
  refine Call_ (zMR I hg hm boot_range (PyProof.Rows.callWith_type1 (thn (ha pos pins s σ H _ I h) fun us s1 ⟨vs, H1, I1, r1, q1⟩ => ?_) hs rfl))
  obtain ⟨j, e, q1, q2, q⟩ := q1
  subst e
  cases r1 with
  | cons r rr =>
    cases rr
    obtain ⟨t, rfl⟩ := r
    exact call_range_1 (yDY I1 (by (first | lia | omega)) (by (first | lia | omega)) q1 q2 (by simpa using q))
noncomputable def tFor (wi : TI) (g : TG) (tb : TS) : TS := fun D σ H => wi σ H fun J H1 => ∃ W : Nat → Nat → St → Hp → Prop, (∃ m, W 0 m σ H1) ∧ ∀ i m σ H, W i m σ H →
  (J.stop i H ∧ D.nx σ H) ∨ (J.go i H ∧ ∃ N : St → Hp → Prop, (∀ σ' H', N σ' H' → ∃ m', m' < m ∧ W (i + 1) m' σ' H') ∧ ∀ x H', J.yld i H x H' → g x σ H' fun σ2 H2 => tb { D with nx := N, ct := N, bk := D.nx } σ2 H2)
noncomputable def zHC (fp : List Addr) (h : Heap) : List (Addr × Obj) := fp.filterMap fun b => (h.get? b).map fun o => (b, o)
theorem zEL {fp : List Addr} {h : Heap} {b : Addr} {o : Obj} (hb : b ∈ fp) (e : h.get? b = some o) : (b, o) ∈ zHC fp h := List.mem_filterMap.mpr ⟨b, hb, by rw [e]; rfl⟩
theorem yCB {fp : List Addr} {h : Heap} {p : Addr × Obj} (hp : p ∈ zHC fp h) : p.1 ∈ fp ∧ h.get? p.1 = some p.2 := by
  obtain ⟨b, hb, e⟩ := List.mem_filterMap.mp hp
  cases q : h.get? b with
  | none => rw [q] at e; cases e
  | some o =>
    rw [q] at e
    have e' : (b, o) = p := Option.some.inj e
    subst e'
    exact ⟨hb, q⟩
theorem Inv.pinned {pins : List (Addr × Obj)} {σ : St} {H : Hp} {s : Shared} {fp : List Addr} (I : Inv X pins σ H s) (hf : ∀ b ∈ fp, zKF X pins H b) (ho : ∀ b ∈ fp, ∃ o, s.heap.get? b = some o ∧ ∀ v, o.data ≠ .cell v) : Inv X (pins ++ zHC fp s.heap) σ H s :=
  I.pins_of fun p hp => (List.mem_append.mp hp).elim (fun z => I.pin p (List.mem_append_right _ z)) fun z => by
    obtain ⟨hb, e⟩ := yCB z
    obtain ⟨f0, f1, f2, _⟩ := hf p.1 hb
    obtain ⟨o, e', d⟩ := ho p.1 hb
    rw [e] at e'; cases e'
    exact ⟨e, f0, f1, f2, d⟩
theorem Inv.unpinned {pins pl : List (Addr × Obj)} {σ : St} {H : Hp} {s : Shared} (I : Inv X (pins ++ pl) σ H s) : Inv X pins σ H s := I.pins_of fun p hp => I.pin p (List.mem_append_right _ (List.mem_append_left _ hp))
theorem yLL {iter : Expr} {body : List Stmt} {wi : TI} {g : TG} {tb : TS} {pos : Pos} (hp : PassesOwn (model X.prog X.w) X.A X.env X.xe) (hc : X.calm = true) (hi : PI X tg iter wi) (hg : PG X tg g) (hb : PSs X body tb)
    (hs : ∀ x, foldedSetIterable iter X.env x = pure x := by intro _; rfl) : PS X (.For tg iter body [] pos) (tFor wi g tb) := by
  intro pins s σ H D I h
  refine wpAny_For (thn (hi pins s σ H _ I h) fun v s1 h1 => thn h1 fun itv s2 h2 => ?_) hs
  obtain ⟨it, fp, tn, J, H2, e, I2, T, st2, f2, W, ⟨m0, w0⟩, turn⟩ := h2
  subst e
  have stat : ∀ {H' : Hp}, (∀ b ∈ fp, H' b = none) → ∀ b ∈ fp, zKF X pins H' b := fun hn b hb => ⟨hn b hb, (f2 b hb).2⟩
  refine codeAny_forLoop_any (fun n s' => ∃ i σ' H', Inv X pins σ' H' s' ∧ tn i s'.heap ∧ (∀ b ∈ fp, H' b = none) ∧ W i n σ' H') ?_ m0 ⟨0, σ, H2, I2, st2, fun b hb => (f2 b hb).1, w0⟩
  rintro n s3 ⟨i, σ3, H3, I3, st3, fr3, w3⟩
  rcases turn i n σ3 H3 w3 with ⟨stop, qn⟩ | ⟨go, N, hN, step⟩
  · refine wpAny_passesOwn hp (thn (T.done X rfl rfl rfl hc i pins s3 σ3 H3 X.xe I3 (stat fr3) st3 stop) fun r s4 ⟨hr, I4⟩ => ?_)
    subst hr
    exact wpAny_execs_nil ⟨σ3, H3, I4, qn⟩
  · refine wpAny_passesOwn hp (thn (T.item X rfl rfl rfl hc i pins s3 σ3 H3 X.xe I3 (stat fr3) st3 go) fun r s4 ⟨u, hr, h4⟩ => ?_)
    subst hr
    refine wpAny_passesOwn hp (thn h4 fun _ s5 ⟨x, H5, I5, r5, y5, st5, fr5⟩ => ?_)
    have I5' := I5.pinned (stat fr5) (T.obj _ _ st5)
    refine wpAny_passesOwn hp (thn (hg _ s5 σ3 H5 x u _ I5' r5 (step x H5 y5)) fun _ s6 ⟨σ6, H6, I6, q6⟩ => ?_)
    refine wpAny_passesOwn hp (thn (hb _ s6 σ6 H6 _ I6 q6) fun f s7 q7 => ?_)
    have again : ∀ {σ7 : St} {H7 : Hp}, Inv X (pins ++ zHC fp s5.heap) σ7 H7 s7 → N σ7 H7 → ∃ m, m < n ∧ ∃ i σ' H', Inv X pins σ' H' s7 ∧ tn i s7.heap ∧ (∀ b ∈ fp, H' b = none) ∧ W i m σ' H' := fun {σ7 H7} I7 n7 => by
      obtain ⟨m', hm, w7⟩ := hN σ7 H7 n7
      refine ⟨m', hm, i + 1, σ7, H7, I7.unpinned, T.keep _ _ _ st5 fun b hb o e => (I7.pin (b, o) (List.mem_append_right _ (List.mem_append_right _ (zEL hb e)))).1, fun b hb => ?_, w7⟩
      obtain ⟨o, e, d⟩ := T.obj _ _ st5 b hb
      exact (I7.pin (b, o) (List.mem_append_right _ (List.mem_append_right _ (zEL hb e)))).2.1
    cases f with
    | next => obtain ⟨σ7, H7, I7, n7⟩ := q7; exact again I7 n7
    | cont => obtain ⟨σ7, H7, I7, n7⟩ := q7; exact again I7 n7
    | brk => obtain ⟨σ7, H7, I7, q7⟩ := q7; exact ⟨σ7, H7, I7.unpinned, q7⟩
    | ret v => obtain ⟨x7, σ7, H7, I7, r7, q7⟩ := q7; exact ⟨x7, σ7, H7, I7.unpinned, r7, q7⟩
end
end L2
namespace L2
open PySem PySem.Spec PyProof.Rows
abbrev R2 := V → V → Hp → VK → Prop
noncomputable def OpR (X : Cx) (f : Value → Value → Sem Value) (r : R2) : Prop :=
  ∀ (pins : List (Addr × Obj)) (s : Shared) (σ : St) (H : Hp) (x y : V) (v u : Value) (Q : VK), Inv X pins σ H s → RelV x v → RelV y u → r x y H Q →
    wpAny (model X.prog X.w) X.A (f v u) (EP X pins σ Q) X.xe s
noncomputable def CallR (X : Cx) (f : Value) (r : List V → Hp → VK → Prop) : Prop :=
  ∀ (pins : List (Addr × Obj)) (s : Shared) (σ : St) (H : Hp) (xs : List V) (us : List Value) (Q : VK), Inv X pins σ H s → Vals xs us → r xs H Q →
    wpAny (model X.prog X.w) X.A (call f us) (EP X pins σ Q) X.xe s
noncomputable def TruR (X : Cx) (r : V → Hp → (Bool → Hp → Prop) → Prop) : Prop :=
  ∀ (pins : List (Addr × Obj)) (s : Shared) (σ : St) (H : Hp) (x : V) (v : Value) (Q : Bool → Hp → Prop), Inv X pins σ H s → RelV x v → r x H Q →
    wpAny (model X.prog X.w) X.A (truthy v) (TP X pins σ Q) X.xe s
noncomputable def tOp (r : R2) (ta tb : TE) : TE := fun σ H Q => ta σ H fun x H1 => tb σ H1 fun y H2 => r x y H2 Q
noncomputable def rI (C : Int → Int → Prop) (g : Int → Int → V) : R2 := fun x y H Q => ∃ i j, x = .int i ∧ y = .int j ∧ C i j ∧ Q (g i j) H
noncomputable def rI0 (g : Int → Int → V) : R2 := fun x y H Q => ∃ i j, x = .int i ∧ y = .int j ∧ Q (g i j) H
section
variable {X : Cx} {a b c : Expr} {ta tb tc : TE} {pos : Pos}
theorem binT (ha : PE X a ta) (hb : PE X b tb) {pins : List (Addr × Obj)} {s : Shared} {σ : St} {H : Hp} {R : V → V → Hp → Prop} (I : Inv X pins σ H s)
    (h : ta σ H fun x H1 => tb σ H1 fun y H2 => R x y H2) {Q : Value → Shared → Prop} {f : Value → Value → Sem Value}
    (hf : ∀ v u s2 x y H2, Inv X pins σ H2 s2 → RelV x v → RelV y u → R x y H2 → wpAny (model X.prog X.w) X.A (f v u) Q X.xe s2) :
    wpAny (model X.prog X.w) X.A (eval a X.env) (fun v s₁ => wpAny (model X.prog X.w) X.A (eval b X.env) (fun u s₂ => wpAny (model X.prog X.w) X.A (f v u) Q X.xe s₂) X.xe s₁) X.xe s := by
  refine thn (ha pins s σ H _ I h) fun v s1 ⟨x, H1, I1, r1, q1⟩ => ?_
  refine thn (hb pins s1 σ H1 _ I1 q1) fun u s2 ⟨y, H2, I2, r2, q2⟩ => ?_
  exact hf v u s2 x y H2 I2 r1 r2 q2
theorem pe_op {op : Operator} {r : R2} (ho : OpR X (binaryOp op) r) (ha : PE X a ta) (hb : PE X b tb) : PE X (.BinOp a op b pos) (tOp r ta tb) := by
  intro pins s σ H Q I h
  exact wpAny_BinOp (binT ha hb I h fun v u s2 x y H2 I2 rx ry q => ho pins s2 σ H2 x y v u Q I2 rx ry q)
theorem opI {f : Value → Value → Sem Value} {C : Int → Int → Prop} {g : Int → Int → Int}
    (rule : ∀ (i j : Int) (t u : Tok) (s : Shared) (Q : Value → Shared → Prop) (E : Value → Shared → Prop), C i j → Q (.int (g i j) s.toks) { s with toks := s.toks + 1 } → wpAny (model X.prog X.w) X.A (f (.int i t) (.int j u)) Q E s) :
    OpR X f (rI C fun i j => .int (g i j)) := by
  intro pins s σ H x y v u Q I rx ry h
  obtain ⟨i, j, rfl, rfl, hc, q⟩ := h
  obtain ⟨t, rfl⟩ := rx
  obtain ⟨t', rfl⟩ := ry
  exact rule i j t t' s _ _ hc ⟨.int (g i j), H, I.tok _, ⟨_, rfl⟩, q⟩
theorem opI0 {f : Value → Value → Sem Value} {g : Int → Int → Int}
    (rule : ∀ (i j : Int) (t u : Tok) (s : Shared) (Q : Value → Shared → Prop) (E : Value → Shared → Prop), Q (.int (g i j) s.toks) { s with toks := s.toks + 1 } → wpAny (model X.prog X.w) X.A (f (.int i t) (.int j u)) Q E s) :
    OpR X f (rI0 fun i j => .int (g i j)) := by
  intro pins s σ H x y v u Q I rx ry h
  obtain ⟨i, j, rfl, rfl, q⟩ := h
  obtain ⟨t, rfl⟩ := rx
  obtain ⟨t', rfl⟩ := ry
  exact rule i j t t' s _ _ ⟨.int (g i j), H, I.tok _, ⟨_, rfl⟩, q⟩
theorem opB0 {f : Value → Value → Sem Value} {g : Int → Int → Bool}
    (rule : ∀ (i j : Int) (t u : Tok) (s : Shared) (Q : Value → Shared → Prop) (E : Value → Shared → Prop), Q (.bool (g i j)) s → wpAny (model X.prog X.w) X.A (f (.int i t) (.int j u)) Q E s) :
    OpR X f (rI0 fun i j => .bl (g i j)) := by
  intro pins s σ H x y v u Q I rx ry h
  obtain ⟨i, j, rfl, rfl, q⟩ := h
  obtain ⟨t, rfl⟩ := rx
  obtain ⟨t', rfl⟩ := ry
  exact rule i j t t' s _ _ ⟨.bl (g i j), H, I, rfl, q⟩
noncomputable def CMul (i j : Int) : Prop := (-(2 ^ 64) < i ∧ i < 2 ^ 64) ∨ (-(2 ^ 64) < j ∧ j < 2 ^ 64)
theorem CMul.ok {i j : Int} (h : CMul i j) : IntMulOk i j := by
  rcases h with ⟨h1, h2⟩ | ⟨h1, h2⟩
  · exact .of_left (intBits_le_64 h1 h2)
  · exact .of_right (intBits_le_64 h1 h2)
theorem yLM : OpR X (binaryOp .Add) (rI0 fun i j => .int (i + j)) := opI0 fun _ _ _ _ _ _ _ q => add_int q
theorem yLN : OpR X (binaryOp .Sub) (rI0 fun i j => .int (i - j)) := opI0 fun _ _ _ _ _ _ _ q => sub_int q
theorem yLO : OpR X (binaryOp .Mult) (rI CMul fun i j => .int (i * j)) := opI fun _ _ _ _ _ _ _ hc q => mul_int q hc.ok
theorem yLP : OpR X (binaryOp .Mod) (rI (fun _ j => 0 < j) fun i j => .int (i % j)) := opI fun i j _ _ _ _ _ hc q => by
  have h1 : (0 : Int) < j := hc
  exact mod_int' (by (first | lia | omega)) (by rw [Int.fmod_eq_emod_of_nonneg i (by (first | lia | omega))]; exact q)
end
section
variable {X : Cx} {a b c : Expr} {ta tb tc : TE} {pos : Pos}
theorem zXZ {pins : List (Addr × Obj)} {σ : St} {H : Hp} {s : Shared} {Q : VK} {k k' : Bool} (I : Inv X pins σ H s) (q : Q (.bl k) H) (e : k = k') : EP X pins σ Q (.bool k') s := by
  subst e
  exact ⟨.bl k, H, I, rfl, q⟩
theorem zVK : OpR X (compareOp .LtE) (rI0 fun i j => .bl (decide (i ≤ j))) := opB0 fun _ _ _ _ _ _ _ q => le_int q
theorem op_lt : OpR X (compareOp .Lt) (rI0 fun i j => .bl (decide (i < j))) := opB0 fun _ _ _ _ _ _ _ q => lt_int q
theorem op_gt : OpR X (compareOp .Gt) (rI0 fun i j => .bl (decide (j < i))) := opB0 fun _ _ _ _ _ _ _ q => gt_int q
theorem yCC : OpR X (compareOp .In) (fun x y H Q => ∃ i j, x = .str i ∧ y = .str j ∧ Q (.bl (!(Builtin.Str.occurrences j i 0 j.length 1).isEmpty)) H) := by
  intro pins s σ H x y v u Q I rx ry h
  obtain ⟨i, j, rfl, rfl, q⟩ := h
  obtain ⟨t, rfl⟩ := rx
  obtain ⟨t', rfl⟩ := ry
  exact in_str (zXZ I q rfl)
theorem yDZ : OpR X (compareOp .Is) (fun x y H Q => y = .non ∧ Q (.bl (decide (x = .non))) H) := by
  intro pins s σ H x y v u Q I rx ry h
  obtain ⟨rfl, q⟩ := h
  cases ry
  refine is_none_gen (zXZ I q ?_)
  cases x <;> first
    | (cases rx; rfl)
    | (obtain ⟨t, rfl⟩ := rx; rfl)
theorem zTK : OpR X (compareOp .NotIn) (fun x y H Q => ∃ i j, x = .str i ∧ y = .str j ∧ Q (.bl (!(!(Builtin.Str.occurrences j i 0 j.length 1).isEmpty))) H) := by
  intro pins s σ H x y v u Q I rx ry h
  obtain ⟨i, j, rfl, rfl, q⟩ := h
  obtain ⟨t, rfl⟩ := rx
  obtain ⟨t', rfl⟩ := ry
  exact notIn_str (zXZ I q rfl)
theorem OpR.or {f : Value → Value → Sem Value} {r r' : R2} (h : OpR X f r) (h' : OpR X f r') : OpR X f (fun x y H Q => r x y H Q ∨ r' x y H Q) := by
  intro pins s σ H x y v u Q I rx ry q
  rcases q with q | q
  · exact h pins s σ H x y v u Q I rx ry q
  · exact h' pins s σ H x y v u Q I rx ry q
theorem yEA (b : Expr) {op : CmpOp} (h : op ≠ .In := by decide) (h2 : op ≠ .NotIn := by decide) : behindInMarks op b = false := by
  have e1 : (op == CmpOp.In) = false := by cases op <;> first | rfl | exact absurd rfl h
  have e2 : (op == CmpOp.NotIn) = false := by cases op <;> first | rfl | exact absurd rfl h2
  cases b <;> simp [behindInMarks, e1, e2]
theorem yHN {op : CmpOp} {r : R2} (ho : OpR X (compareOp op) r) (ha : PE X a ta) (hb : PE X b tb) (hm : behindInMarks op b = false) : PE X (.Compare a [op] [b] pos) (tOp r ta tb) := by
  intro pins s σ H Q I h
  exact wpAny_Compare1 (binT ha hb I h fun v u s2 x y H2 I2 rx ry q => ho pins s2 σ H2 x y v u Q I2 rx ry q) hm
noncomputable def yKH (t : TE) : TT := fun σ H Q => t σ H fun x H' => ∃ k, x = .bl k ∧ Q k H'
theorem yHO {op : CmpOp} {r : R2} (ho : OpR X (compareOp op) r) (ha : PE X a ta) (hb : PE X b tb) (hm : behindInMarks op b = false) : PT X (.Compare a [op] [b] pos) (yKH (tOp r ta tb)) := by
  intro pins s σ H Q I h
  refine wpAny_isTrue_Compare1 (thn (ha pins s σ H _ I h) fun v s1 ⟨x, H1, I1, r1, q1⟩ => thn (hb pins s1 σ H1 _ I1 q1) fun u s2 ⟨y, H2, I2, r2, q2⟩ =>
    thn (ho pins s2 σ H2 x y v u _ I2 r1 r2 q2) fun c s3 ⟨z, H3, I3, r3, k, e, q3⟩ => ?_) hm
  subst e
  cases r3
  exact wpAny_truthy_bool ⟨H3, I3, q3⟩
noncomputable def zYA (r r' : R2) (ta tb tc : TE) : TE := fun σ H Q => ta σ H fun x H1 => tb σ H1 fun y H2 => r x y H2 fun z H3 => ∃ k, z = .bl k ∧
  (if k = true then tc σ H3 fun w' H4 => r' y w' H4 Q else Q (.bl false) H3)
theorem yEB {op op' : CmpOp} {r r' : R2} (ho : OpR X (compareOp op) r) (ho' : OpR X (compareOp op') r') (ha : PE X a ta) (hb : PE X b tb) (hc : PE X c tc)
    (hm : lastMarks [op, op'] [b, c] = false := by with_unfolding_all rfl) : PE X (.Compare a [op, op'] [b, c] pos) (zYA r r' ta tb tc) := by
  intro pins s σ H Q I h
  refine Compare_chain (thn (ha pins s σ H _ I h) fun v s1 ⟨x, H1, I1, r1, q1⟩ => chain_link (thn (hb pins s1 σ H1 _ I1 q1) fun u s2 ⟨y, H2, I2, r2, q2⟩ =>
    thn (ho pins s2 σ H2 x y v u _ I2 r1 r2 q2) fun d s3 ⟨z, H3, I3, r3, k, e, q3⟩ => ?_)) hm
  subst e
  cases r3
  refine wpAny_truthy_bool ?_
  cases k with
  | false => exact ite_ff ⟨.bl false, H3, I3, rfl, q3⟩
  | true => exact ite_tt (chain_last (thn (hc pins s3 σ H3 _ I3 q3) fun w' s4 ⟨z', H4, I4, r4, q4⟩ => ho' pins s4 σ H4 y z' u w' Q I4 r2 r4 q4))
theorem yEC {op op' : CmpOp} {r r' : R2} (ho : OpR X (compareOp op) r) (ho' : OpR X (compareOp op') r') (ha : PE X a ta) (hb : PE X b tb) (hc : PE X c tc)
    (hm : lastMarks [op, op'] [b, c] = false := by with_unfolding_all rfl) : PT X (.Compare a [op, op'] [b, c] pos) (yKH (zYA r r' ta tb tc)) := by
  intro pins s σ H Q I h
  refine isTrue_chain (thn (ha pins s σ H _ I h) fun v s1 ⟨x, H1, I1, r1, q1⟩ => test_link (thn (hb pins s1 σ H1 _ I1 q1) fun u s2 ⟨y, H2, I2, r2, q2⟩ =>
    thn (ho pins s2 σ H2 x y v u _ I2 r1 r2 q2) fun d s3 ⟨z, H3, I3, r3, k, e, q3⟩ => ?_)) hm
  subst e
  cases r3
  refine wpAny_truthy_bool ?_
  cases k with
  | false =>
    obtain ⟨k', e', q'⟩ := q3
    cases e'
    exact ite_ff ⟨H3, I3, q'⟩
  | true =>
    refine ite_tt (test_last (thn (hc pins s3 σ H3 _ I3 q3) fun w' s4 ⟨z', H4, I4, r4, q4⟩ => thn (ho' pins s4 σ H4 y z' u w' _ I4 r2 r4 q4) fun d' s5 ⟨z2, H5, I5, r5, k2, e2, q5⟩ => ?_))
    subst e2
    cases r5
    exact wpAny_truthy_bool ⟨H5, I5, q5⟩
noncomputable def TruV (K : PySem.W.Frag) (x : V) (H : Hp) (k : Bool) : Prop :=
  match x with
  | .non => k = false
  | .bl b => k = b
  | .int i => k = (i != 0)
  | .str y => y.length ≤ sizeLine ∧ k = ((y.length : Int) != 0)
  | .byt y => y.size ≤ sizeLine ∧ k = ((y.size : Int) != 0)
  | .ref p => (∃ xs, SqL K H p xs ∧ k = !xs.isEmpty) ∨ (∃ xs, SqT K H p xs ∧ k = !xs.isEmpty) ∨ ∃ kvs, H p = some (.dK kvs) ∧ k = !kvs.isEmpty
  | _ => False
theorem zYB {κ : Type} {kvs : List (κ × V)} {vs : List (κ × Value)} (r : KV kvs vs) : (!vs.isEmpty) = !kvs.isEmpty := by
  cases r <;> rfl
theorem zOZ {xs : List V} {its : List Value} (r : Vals xs its) : (!its.toArray.isEmpty) = !xs.isEmpty := by
  cases r <;> simp
theorem zKG : (sizeLine : Nat) < 2 ^ 63 := by rw [sizeLine_eq]; decide
theorem yLQ : TruR X (fun x H Q => ∃ k, TruV X.K x H k ∧ Q k H) := by
  intro pins s σ H x v Q I rx h
  obtain ⟨k, e, q⟩ := h
  have hl := zKG
  have hs : sizeLine = 16777216 := sizeLine_eq
  cases x with
  | non =>
    cases rx
    have e' : k = false := e
    subst e'
    exact truthy_none ⟨H, I, q⟩
  | bl b =>
    cases rx
    have e' : k = b := e
    subst e'
    exact wpAny_truthy_bool ⟨H, I, q⟩
  | int i =>
    obtain ⟨t, rfl⟩ := rx
    have e' : k = (i != 0) := e
    subst e'
    exact PySem.P.truthy_int ⟨H, I, q⟩
  | str y =>
    obtain ⟨t, rfl⟩ := rx
    obtain ⟨hy, e'⟩ : y.length ≤ sizeLine ∧ k = ((y.length : Int) != 0) := e
    subst e'
    exact PySem.P.truthy_str (by (first | lia | omega)) ⟨H, I.tok _, q⟩
  | byt y =>
    obtain ⟨t, rfl⟩ := rx
    obtain ⟨hy, e'⟩ : y.size ≤ sizeLine ∧ k = ((y.size : Int) != 0) := e
    subst e'
    exact PySem.W.truthy_bytes (by (first | lia | omega)) ⟨H, I.tok _, q⟩
  | ref p =>
    cases rx
    have e' : (∃ xs, SqL X.K H p xs ∧ k = !xs.isEmpty) ∨ (∃ xs, SqT X.K H p xs ∧ k = !xs.isEmpty) ∨ ∃ kvs, H p = some (.dK kvs) ∧ k = !kvs.isEmpty := e
    rcases e' with ⟨xs, hx, e'⟩ | ⟨xs, hx, e'⟩ | ⟨kvs, hx, e'⟩
    · subst e'
      obtain ⟨its, r, pl, hz⟩ := I.list hx
      have hlen := r.length
      exact wpAny_truthy_list pl.isList (by simp only [List.size_toArray]; (first | lia | omega)) ⟨H, I.tok _, by rw [zOZ r]; exact q⟩
    · subst e'
      obtain ⟨its, r, pl, hz⟩ := I.tuple hx
      have hlen := r.length
      exact truthy_tuple pl (by simp only [List.size_toArray]; (first | lia | omega)) ⟨H, I.tok _, by rw [zOZ r]; exact q⟩
    · subst e'
      obtain ⟨hz, hS, vs, r, m⟩ : kvs.length ≤ sizeLine ∧ (p == sysModules) = false ∧ ∃ vs, KV kvs vs ∧ s.heap.DictOf (zOL X.prog X.w) p vs := I.hok p _ hx
      have hlen : kvs.length = vs.length := Paired.length r
      exact wpAny_truthy_dict hS m (by (first | lia | omega)) ⟨H, I.tok _, by rw [zYB r]; exact q⟩
  | _ => exact (show False from e).elim
theorem yED (ha : PE X a ta) (he : ∀ whole, isTrue a X.env whole = (do let v ← whole; standAt a.pos; holding [v] (truthy v))) :
    PT X a (fun σ H Q => ta σ H fun x H' => ∃ k, TruV X.K x H' k ∧ Q k H') := by
  intro pins s σ H Q I h
  exact isTrue_plain (thn (ha pins s σ H _ I h) fun v s1 ⟨x, H1, I1, r1, q1⟩ => yLQ pins s1 σ H1 x v Q I1 r1 q1) (he _)
theorem zYC : OpR X (binaryOp .Add) (fun x y H Q => ∃ i j, x = .str i ∧ y = .str j ∧ i.length + j.length ≤ sizeLine ∧ Q (.str (i ++ j)) H) := by
  intro pins s σ H x y v u Q I rx ry h
  obtain ⟨i, j, rfl, rfl, hz, q⟩ := h
  obtain ⟨t, rfl⟩ := rx
  obtain ⟨t', rfl⟩ := ry
  exact add_str (fun t' tk => ⟨.str (i ++ j), H, I.tok _, ⟨_, rfl⟩, q⟩) hz
theorem vals1 {x : V} {us : List Value} (r : Vals [x] us) : ∃ u, us = [u] ∧ RelV x u := by
  cases r with
  | cons r1 r2 => cases r2; exact ⟨_, rfl, r1⟩
theorem vals2 {x y : V} {us : List Value} (r : Vals [x, y] us) : ∃ u w', us = [u, w'] ∧ RelV x u ∧ RelV y w' := by
  cases r with
  | cons r1 r2 =>
    cases r2 with
    | cons r3 r4 => cases r4; exact ⟨_, _, rfl, r1, r3⟩
theorem yEE : CallR X (.builtin "abs") (fun xs H Q => ∃ i, xs = [.int i] ∧ Q (.int (if i < 0 then -i else i)) H) := by
  intro pins s σ H xs us Q I r h
  obtain ⟨i, rfl, q⟩ := h
  obtain ⟨u, rfl, t, rfl⟩ := vals1 r
  exact call_abs_int fun u tk => ⟨.int (if i < 0 then -i else i), H, I.tok _, ⟨_, rfl⟩, q⟩
end
end L2
namespace L2
open PySem PySem.Spec PyProof.Rows
structure Room (k : Nat) (A : Around) : Prop where
  hd : A.handled = none
  dp : A.depth + 3 * k + 5 < recursionLimit
  un : A.units + 16 * k + 200 < cLine
theorem Room.mono {j k : Nat} {A : Around} (r : Room k A) (h : j ≤ k) : Room j A := ⟨r.hd, by have := r.dp; (first | lia | omega), by have := r.un; (first | lia | omega)⟩
theorem Room.deeper {k : Nat} {A : Around} (r : Room (k + 1) A) (env : Env) : Room k (A.deeper env) :=
  ⟨r.hd, by have := r.dp; show A.depth + 1 + 3 * k + 5 < _; (first | lia | omega), by have := r.un; show A.units + 3 + 16 * k + 200 < _; (first | lia | omega)⟩
theorem Room.depth {k : Nat} {A : Around} (r : Room k A) : A.depth < recursionLimit := by have := r.dp; (first | lia | omega)
theorem Room.units {k : Nat} {A : Around} (r : Room k A) : A.units + 64 < cLine := by have := r.un; (first | lia | omega)
noncomputable def tNil : TA := fun _ H Q => Q [] H
noncomputable def tCons (ta : TE) (tr : TA) : TA := fun σ H Q => ta σ H fun x H1 => tr σ H1 fun xs H2 => Q (x :: xs) H2
section
variable {X : Cx} {e : Expr} {es : List Expr} {te : TE} {t : TA} {pos : Pos}
theorem yLR : PA X [] tNil := fun _ _ _ _ H Q I h => Calls.spliced_nil ⟨[], H, I, .nil, h⟩
theorem yHP (ha : PE X e te) (hr : PA X es t) (hs : starEach (e :: es) X.env = (false, eval e X.env) :: starEach es X.env := by rfl) : PA X (e :: es) (tCons te t) := by
  intro pos pins s σ H Q I h
  rw [hs]
  show wpAny _ _ (spliced ((false, eval e X.env) :: backTo pos (starEach es X.env))) _ _ s
  refine Calls.spliced_cons (thn (ha pins s σ H _ I h) fun u s1 ⟨x, H1, I1, r1, q1⟩ => ?_)
  exact thn (hr pos pins s1 σ H1 _ I1 q1) fun us s2 ⟨xs, H2, I2, r2, q2⟩ => ⟨x :: xs, H2, I2, .cons r1 r2, q2⟩
noncomputable def tTup (t : TA) : TE := fun σ H Q => t σ H fun xs H1 => xs.length ≤ sizeLine ∧ ∀ p, H1 p = none → Q (.ref p) (upd H1 p (.tup xs))
noncomputable def tLst (t : TA) : TE := fun σ H Q => t σ H fun xs H1 => xs.length ≤ sizeLine ∧ ∀ p, H1 p = none → Q (.ref p) (upd H1 p (.lst xs))
theorem yLS {x1} (h : PA X es t) : PE X (.Tuple es x1 pos) (tTup t) := by
  intro pins s σ H Q I hq
  refine wpAny_Tuple_spliced (thn (h pos pins s σ H _ I hq) fun us s1 ⟨xs, H1, I1, r, z, q⟩ => ⟨by rw [← r.length]; exact z, ?_⟩)
  have hf : H1 s1.heap.objs.size = none := I1.hok.fresh (Nat.le_refl _)
  refine ⟨.ref s1.heap.objs.size, upd H1 s1.heap.objs.size (.tup xs), I1.laid (t' := s1.toks) (fun b u e => Heap.get?_push_of_some _ e) (Nat.le_refl _) ?_, rfl, q _ hf⟩
  exact ⟨z, us, r, ⟨_, Heap.get?_push_size _ rfl, rfl, _, rfl⟩⟩
theorem yLT (h : PA X es t) : PE X (.List es pos) (tLst t) := by
  intro pins s σ H Q I hq
  refine wpAny_List_spliced (thn (h pos pins s σ H _ I hq) fun us s1 ⟨xs, H1, I1, r, z, q⟩ => ⟨by rw [← r.length]; exact z, ?_⟩)
  have hf : H1 s1.heap.objs.size = none := I1.hok.fresh (Nat.le_refl _)
  refine ⟨.ref s1.heap.objs.size, upd H1 s1.heap.objs.size (.lst xs), I1.laid (t' := s1.toks) (fun b u e => Heap.get?_push_of_some _ e) (Nat.le_refl _) ?_, rfl, q _ hf⟩
  exact ⟨z, us, 0, r, Heap.get?_push_size _ rfl⟩
end
abbrev Sp := List V → Hp → VK → XK → Prop
abbrev CXT := List Env → Hp → Shared → XK → Value → Shared → Prop
structure Env0 (P : Program) (w : World) (K : PySem.W.Frag) (mg : Str → Option Value) (base : Heap) (A : Around) (outer : List Env) (s : Shared) (H : Hp) : Prop where
  frames : A.frames = some outer
  mod : Mod K mg base
  bs : ∀ b o, base.get? b = some o → s.heap.get? b = some o ∧ H b = none
  bsz : base.objs.size ≤ s.heap.objs.size
  funs : s.heap.FunFrames base outer
  frf : ∀ b ∈ frs outer, H b = none
  hok : HOk P w H s.heap
  bare : AllBare s.gens
noncomputable def CE (outer : List Env) (P : Program) (w : World) (H : Hp) (s : Shared) (Q : VK) (u : Value) (s' : Shared) : Prop :=
  ∃ v H', s'.os = s.os ∧ AllBare s'.gens ∧ Un (frs outer) [] H H' s.heap s'.heap ∧ HOk P w H' s'.heap ∧ RelV v u ∧ Q v H'
noncomputable def CR (CX : CXT) (outer : List Env) (P : Program) (w : World) (H : Hp) (s : Shared) (Q : VK) (E : XK) (r : Result) (s' : Shared) : Prop :=
  match r with
  | .ok (.ret u) => CE outer P w H s Q u s'
  | .ok _ => False
  | .error e => CX outer H s E e s'
structure FnOk (P : Program) (w : World) (K : PySem.W.Frag) (mg : Str → Option Value) (base : Heap) (CX : CXT) (k : Nat) (f : Addr) (fd : FuncData) (ps : List Str) (sp : Sp) : Prop where
  len : ∀ vs H Q E, sp vs H Q E → vs.length = ps.length
  run : ∀ (A : Around) (outer : List Env) (s : Shared) (H : Hp) (args : Args) (us : List Value) (vs : List V) (Q : VK) (E : XK), Room k A → Env0 P w K mg base A outer s H → BindsTo s fd args (ps.zip us) → Vals vs us → sp vs H Q E →
    codeAny (model P w) A (.call (.ref f) args) (CR CX outer P w H s Q E) s
theorem FnOk.imp {P : Program} {w : World} {K : PySem.W.Frag} {mg : Str → Option Value} {base : Heap} {CX : CXT} {k : Nat} {f : Addr} {fd : FuncData} {ps : List Str} {sp sp' : Sp} (F : FnOk P w K mg base CX k f fd ps sp)
    (h : ∀ vs H Q E, sp' vs H Q E → sp vs H Q E) : FnOk P w K mg base CX k f fd ps sp' :=
  ⟨fun vs H Q E q => F.len vs H Q E (h _ _ _ _ q), fun A outer s H args us vs Q E hr he hb hv hs => F.run A outer s H args us vs Q E hr he hb hv (h _ _ _ _ hs)⟩
section
variable {X : Cx} {pins : List (Addr × Obj)} {σ : St} {H : Hp} {s s' : Shared}
theorem Inv.env0 (I : Inv X pins σ H s) : Env0 X.prog X.w X.K X.mg X.base X.A X.stack s H :=
  ⟨I.ok.frames, I.ok.mod, I.bs, Nat.le_trans I.ok.bsz I.sz, I.stack, I.stkFree, I.hok, I.bare⟩
theorem Inv.after {Q : VK} {u : Value} (I : Inv X pins σ H s) (h : CE X.stack X.prog X.w H s Q u s') : EP X pins σ Q u s' := by
  obtain ⟨v, H', os, bare, un, hok, r, q⟩ := h
  obtain ⟨hh, g, d, t, os'⟩ := s'
  obtain rfl : os' = s.os := os
  exact ⟨v, H', I.call (h' := hh) (g' := g) (d' := d) (t' := t) (ch := []) un hok bare (fun b z => absurd z (by simp)), r, q⟩
end
noncomputable def tCall (sp : Sp) (dvs : List V) (E : XK) (t : TA) : TE := fun σ H Q => t σ H fun vs H1 => sp (vs ++ dvs) H1 Q E
noncomputable def Binds (K : PySem.W.Frag) (fd : FuncData) (ps : List Str) (ds : List Value) : Prop :=
  ∀ (s : Shared) (us : List Value), K.In s.heap → (us ++ ds).length = ps.length → BindsTo s fd ⟨us, []⟩ (ps.zip (us ++ ds))
theorem Binds.all {K : PySem.W.Frag} {fd : FuncData} {ps : List Str} (h : ∀ us : List Value, us.length = ps.length → bindArgs fd ⟨us, []⟩ = pure (ps.zip us)) : Binds K fd ps [] := fun s us _ hl => by
  rw [List.append_nil] at hl ⊢
  exact .of_eq (h us hl)
noncomputable def zYD (CX : CXT) (X : Cx) (E : XK) : Prop := ∀ (pins : List (Addr × Obj)) (σ : St) (H : Hp) (s : Shared) (e : Value) (s' : Shared), Inv X pins σ H s → CX X.stack H s E e s' → X.xe e s'
section
variable {X : Cx} {CX : CXT} {k : Nat} {f C : Addr} {fd : FuncData} {ps : List Str} {sp : Sp} {dvs : List V} {ds : List Value} {E : XK} {x m : Str} {p pos apos : Pos} {e o : Expr} {es : List Expr} {ta : TE} {t : TA}
theorem yLU {pins : List (Addr × Obj)} {σ : St} {H : Hp} {s : Shared} {Q : VK} {us : List Value} {vs : List V} (F : FnOk X.prog X.w X.K X.mg X.base CX k f fd ps sp) (hr : Room k X.A) (hb : Binds X.K fd ps ds) (hd : Vals dvs ds) (hx : zYD CX X E)
    (I : Inv X pins σ H s) (r : Vals vs us) (h : sp (vs ++ dvs) H Q E) : wpAny (model X.prog X.w) X.A (call (.ref f) us) (EP X pins σ Q) X.xe s := by
  have r2 : Vals (vs ++ dvs) (us ++ ds) := r.append hd
  have hl : (us ++ ds).length = ps.length := by rw [← r2.length]; exact F.len _ _ _ _ h
  refine wpAny_call (codeAny_mono (F.run X.A X.stack s H ⟨us, []⟩ (us ++ ds) (vs ++ dvs) Q E hr I.env0 (hb s us I.kIn hl) r2 h) fun r s' hq => ?_)
  cases r with
  | error e => exact hx pins σ H s e s' I hq
  | ok fl =>
    cases fl with
    | ret u => exact I.after hq
    | next => exact False.elim hq
    | brk => exact False.elim hq
    | cont => exact False.elim hq
theorem yHQ (F : FnOk X.prog X.w X.K X.mg X.base CX k f fd ps sp) (hr : Room k X.A) (hg : Gl X x) (hm : X.mg x = some (.ref f)) (hk : PySem.W.keepIn X.K (.ref f) = true) (hb : Binds X.K fd ps ds) (hd : Vals dvs ds) (hx : zYD CX X E)
    (ha : PA X (e :: es) t) (hdb : (x == ("__debug__" : Str)) = false := by decide) (he : starEach (e :: es) X.env = (false, eval e X.env) :: starEach es X.env := by rfl) (hpl : (backTo pos (starEach es X.env)).any (·.1) = false := by rfl) :
    PE X (.Call (.Name x p) (e :: es) [] pos) (tCall sp dvs E t) := by
  intro pins s σ H Q I h
  refine wpAny_Call_Name_kw (yAI I hg hm ?_ hdb)
  refine PySem.W.callWith_K (h₀ := X.base) I.ok.mod.kin hk (thn (ha pos pins s σ H _ I h) fun us s1 ⟨vs, H1, I1, r, q⟩ => ⟨I1.kIn, ?_⟩) he hpl
  exact yLU F hr hb hd hx I1 r q
end
structure FnScope (N P : List Str) (sc : Scope) : Prop where
  kind : sc.kind = .function
  co : sc.isCoroutine = false
  gen : sc.isGenerator = false
  nd : N.Nodup
  pre : N.take P.length = P
  par : ∀ x ∈ P, sc.names.lookup x = some .local ∨ sc.names.lookup x = some .cell
  nofree : ∀ y ∈ sc.names, y.2 ≠ .free
theorem zSI {kindOf : Str → Option NameKind} {x : Str} : ∀ {binds : List (Str × Value)} {m : Str → Option Value}, (∀ v, (x, v) ∉ binds) → bindL kindOf binds m x = m x
  | [], _, _ => rfl
  | (n, v) :: r, m, h => by
    unfold bindL
    rw [zSI fun w hw => h w (List.mem_cons_of_mem _ hw)]
    split
    · have : x ≠ n := by rintro rfl; exact h v List.mem_cons_self
      simp [this]
    · rfl
theorem zSJ {kindOf : Str → Option NameKind} {x : Str} : ∀ {binds : List (Str × Value)} {m : Str → Option Value}, (∀ v, (x, v) ∉ binds) → bindC kindOf binds m x = m x
  | [], _, _ => rfl
  | (n, v) :: r, m, h => by
    unfold bindC
    rw [zSJ fun w hw => h w (List.mem_cons_of_mem _ hw)]
    split
    · rfl
    · have : x ≠ n := by rintro rfl; exact h v List.mem_cons_self
      simp [this]
theorem zSK {kindOf : Str → Option NameKind} {x : Str} {v : Value} : ∀ {P : List Str} {vs : List Value} {i : Nat} {m : Str → Option Value}, P.Nodup → P[i]? = some x → vs[i]? = some v → kindOf x = some .local →
    bindL kindOf (P.zip vs) m x = some v
  | [], _, _, _, _, h, _, _ => by simp at h
  | _ :: _, [], _, _, _, _, h, _ => by simp at h
  | p :: P, w :: vs, 0, m, nd, h1, h2, hk => by
    simp at h1 h2; subst h1; subst h2
    show bindL kindOf ((p, w) :: P.zip vs) m p = _
    unfold bindL
    rw [zSI fun v hv => (List.nodup_cons.mp nd).1 (List.of_mem_zip hv).1, if_pos hk]
    simp
  | p :: P, w :: vs, i + 1, m, nd, h1, h2, hk => by
    show bindL kindOf ((p, w) :: P.zip vs) m x = _
    unfold bindL
    exact zSK (i := i) (List.nodup_cons.mp nd).2 (by simpa using h1) (by simpa using h2) hk
theorem zSL {kindOf : Str → Option NameKind} {x : Str} {v : Value} : ∀ {P : List Str} {vs : List Value} {i : Nat} {m : Str → Option Value}, P.Nodup → P[i]? = some x → vs[i]? = some v → kindOf x ≠ some .local →
    bindC kindOf (P.zip vs) m x = some v
  | [], _, _, _, _, h, _, _ => by simp at h
  | _ :: _, [], _, _, _, _, h, _ => by simp at h
  | p :: P, w :: vs, 0, m, nd, h1, h2, hk => by
    simp at h1 h2; subst h1; subst h2
    show bindC kindOf ((p, w) :: P.zip vs) m p = _
    unfold bindC
    rw [zSJ fun v hv => (List.nodup_cons.mp nd).1 (List.of_mem_zip hv).1, if_neg hk]
    simp
  | p :: P, w :: vs, i + 1, m, nd, h1, h2, hk => by
    show bindC kindOf ((p, w) :: P.zip vs) m x = _
    unfold bindC
    exact zSL (i := i) (List.nodup_cons.mp nd).2 (by simpa using h1) (by simpa using h2) hk
noncomputable def start (N : List Str) (vs : List V) : St := vs.map some ++ List.replicate (N.length - vs.length) none
noncomputable def zYE (CX : CXT) (P : Program) (w : World) (K : PySem.W.Frag) (mg : Str → Option Value) (base : Heap) (N : List Str) (qual : Str) (scope : Scope) (f : Addr) (cd : Value) (A : Around) (outer : List Env) (s : Shared) (H : Hp) (E : XK) : Cx where
  prog := P
  w := w
  K := K
  mg := mg
  base := base
  A := A.deeper (envOfC qual scope s.heap.objs.size f cd)
  N := N
  s₀ := s
  H₀ := H
  env := envOfC qual scope s.heap.objs.size f cd
  outer := outer
  stack := envOfC qual scope s.heap.objs.size f cd :: outer
  ex := []
  calm := true
  fn := fun _ => true
  pn := []
  xe := fun e s' => wpAny (model P w) (A.deeper (envOfC qual scope s.heap.objs.size f cd)) (leaving (envOfC qual scope s.heap.objs.size f cd) e) (fun _ s'' => CX outer H s E e s'') (fun e' s'' => CX outer H s E e' s'') s'
theorem zVL {sc : Scope} {n : Nat} {x : Str} (h : sc.names.lookup x = some .cell) : ∃ c, (cellsFrom n sc.names []).lookup x = some c := by
  have q := PySem.W.cellsFrom_some sc.names n [] (.inl h)
  exact Option.isSome_iff_exists.mp q
theorem yCD {CX : CXT} {P : Program} {w : World} {K : PySem.W.Frag} {mg : Str → Option Value} {base : Heap} {N ps : List Str} {qual : Str} {scope : Scope} {f : Addr} {cd : Value} {A : Around} {outer : List Env} {s s1 : Shared} {H : Hp} {E : XK} {us : List Value} {vs : List V}
    (S : FnScope N ps scope) (hd : A.handled = none) (e0 : Env0 P w K mg base A outer s H) (hl : vs.length = ps.length) (r : Vals vs us)
    (x : InCallC s s.heap.objs.size (bindL (envOfC qual scope s.heap.objs.size f cd).kindOf (ps.zip us) fun _ => none) (cellsFrom (s.heap.objs.size + 1) scope.names []) (bindC (envOfC qual scope s.heap.objs.size f cd).kindOf (ps.zip us) fun _ => none) s1) :
    Inv (zYE CX P w K mg base N qual scope f cd A outer s H E) [] (start N vs) H s1 := by
  have hpl : ps.length ≤ N.length := by have := congrArg List.length S.pre; rw [List.length_take] at this; (first | lia | omega)
  obtain ⟨h1, tk, rfl, hk⟩ := x.done
  have noA : ∀ b : Addr, b ∉ (zYE CX P w K mg base N qual scope f cd A outer s H E).ex := fun b z => absurd (show b ∈ ([] : List Addr) from z) (by simp)
  refine ⟨⟨e0.mod, S.kind, rfl, rfl, Nat.le_refl _, fun y z c h1 h2 => ?_, fun y hy => ?_, fun y c _ h => ?_, fun _ => hd, Around.frames_deeper e0.frames, .inr ⟨rfl, rfl⟩, fun b z => absurd z (noA b), e0.bs, e0.bsz, fun b _ _ => noA b, fun b z => absurd z (noA b), e0.funs, e0.frf⟩,
    rfl, e0.bare, Un.kept hk, ⟨_, x.toInCall.ns, fun i y v h1 h2 h3 => ?_⟩, fun y c h => ⟨_, x.cell y c h⟩, e0.hok.fresh (Nat.le_refl _), fun y c h => ?_, fun p hp => absurd (show p ∈ ([] : List (Addr × Obj)) from hp) (by simp), e0.hok.kept hk, ?_⟩
  · exact name_of_addr x.apart (PySem.mem_of_lookup h1) (PySem.mem_of_lookup h2)
  · have hy : scope.names.lookup y = some .cell ∨ scope.names.lookup y = some .free := hy
    rcases hy with hy | hy
    · exact zVL hy
    · exact absurd rfl (S.nofree _ (PySem.mem_of_lookup hy))
  · exact Nat.le_of_lt (x.above y c (PySem.mem_of_lookup h))
  · have hi : i < vs.length := by
      unfold start at h2
      by_cases hi : i < vs.length
      · exact hi
      · rw [List.getElem?_append_right (by simpa using hi)] at h2
        rw [List.getElem?_replicate] at h2
        split at h2 <;> cases h2
    have ha : vs[i]? = some v := by
      unfold start at h2
      rw [List.getElem?_append_left (by simpa using hi), List.getElem?_map] at h2
      cases e : vs[i]? with
      | none => rw [e] at h2; cases h2
      | some a => rw [e] at h2; cases h2; rfl
    obtain ⟨u, hu, rv⟩ := r.get ha
    have hp : ps[i]? = some y := by
      rw [← S.pre, List.getElem?_take_of_lt (by (first | lia | omega))]; exact h1
    have ndP : ps.Nodup := by rw [← S.pre]; exact S.nd.sublist (List.take_sublist _ _)
    refine ⟨u, rv, ?_⟩
    rcases S.par y (List.mem_of_getElem? hp) with k | k
    · exact .inl ⟨k, zSK ndP hp hu k⟩
    · obtain ⟨c, e⟩ := zVL (n := s.heap.objs.size + 1) k
      refine .inr ⟨.inl k, c, e, ?_⟩
      have q := x.cell y c e
      rw [zSL ndP hp hu (by show scope.names.lookup y ≠ _; rw [k]; decide)] at q
      exact q
  · exact e0.hok.fresh (Nat.le_of_lt (x.above y c (PySem.mem_of_lookup h)))
  · unfold start
    show _ = N.length
    rw [List.length_append, List.length_map, List.length_replicate]
    (first | lia | omega)
theorem fn_of {CX : CXT} {P : Program} {w : World} {K : PySem.W.Frag} {mg : Str → Option Value} {base : Heap} {k : Nat} {f : Addr} {name qual : Str} {params : Arguments} {body : List Stmt} {scope : Scope} {dV kV doc pm cdv ct oc : Value} {an od : Option Addr}
    {osl : Array (Option Value)} {N ps : List Str} {sp : Sp} (lk : K.lookup f = some ⟨oc, od, .func (PySem.W.fnOf name qual params body scope dV kV doc pm an cdv ct), osl⟩) (hcd : PySem.W.codeIn K cdv qual = true) (S : FnScope N ps scope)
    (len : ∀ vs H Q E, sp vs H Q E → vs.length = ps.length)
    (hbody : ∀ (A : Around) (outer : List Env) (s : Shared) (H : Hp) (vs : List V) (Q : VK) (E : XK), Room k (A.deeper (envOfC qual scope s.heap.objs.size f cdv)) → sp vs H Q E →
      ∃ t, PSs (zYE CX P w K mg base N qual scope f cdv A outer s H E) body t ∧ t { nx := fun _ H' => Q .non H', rt := Q } (start N vs) H) :
    FnOk P w K mg base CX (k + 1) f (PySem.W.fnOf name qual params body scope dV kV doc pm an cdv ct) ps sp := by
  refine ⟨len, fun A outer s H args us vs Q E hr e0 hb r hsp => ?_⟩
  have hl := len _ _ _ _ hsp
  have KX : K.In s.heap := e0.mod.kin.keeps fun b o e => (e0.bs b o e).1
  have lim : s.heap.NoLimit := e0.mod.nolimit.keeps fun b o e => (e0.bs b o e).1
  have hkind : ∀ y ∈ ps.zip us, scope.names.lookup y.1 = some .local ∨ (scope.names.lookup y.1 = some .cell ∧ ((cellsFrom (s.heap.objs.size + 1) scope.names []).lookup y.1).isSome = true) := fun ⟨n, v⟩ hy => by
    rcases S.par n (List.of_mem_zip hy).1 with q | q
    · exact .inl q
    · exact .inr ⟨q, PySem.W.cellsFrom_some _ _ _ (.inl q)⟩
  refine codeAny_call_function hr.depth (KX _ _ lk) rfl S.co S.gen rfl (PySem.W.codeRec_of KX hcd) (hb _ _ _ _ ?_)
  refine wpAny_newFunctionEnv_cells S.kind hkind fun env he s1 x => ?_
  subst he
  refine ⟨lim.keeps x.toInCall.keep, codeAny_func ?_⟩
  obtain ⟨t, ht, hq⟩ := hbody A outer s H vs Q E (hr.deeper _) hsp
  have I : Inv (zYE CX P w K mg base N qual scope f cdv A outer s H E) [] (start N vs) H s1 := yCD S hr.hd e0 hl r x
  refine wpAny_mono (ht [] s1 (start N vs) H _ I hq) (fun fl s' hs => ?_) fun e s' hs => hs
  have fin : ∀ {σ' : St} {H' : Hp} {v : V} {u : Value}, Inv (zYE CX P w K mg base N qual scope f cdv A outer s H E) [] σ' H' s' → RelV v u → Q v H' → CE outer P w H s Q u s' :=
    fun {σ' H' v u} J rv q => ⟨v, H', J.os, J.bare, J.base, J.hok, rv, q⟩
  cases fl with
  | ret u =>
    obtain ⟨v, σ', H', J, rv, q⟩ := hs
    exact fin J rv q
  | next =>
    obtain ⟨σ', H', J, q⟩ := hs
    exact fin (v := V.non) (u := Value.none) J rfl q
  | brk =>
    obtain ⟨_, _, _, q⟩ := hs
    exact False.elim q
  | cont =>
    obtain ⟨_, _, _, q⟩ := hs
    exact False.elim q
end L2
namespace L2
open PySem PySem.Spec PyProof.Rows
section
variable {X : Cx} {x : Str} {p pos : Pos} {e : Expr} {es : List Expr} {t : TA} {id T : String} {r : List V → Hp → VK → Prop}
noncomputable def tCB (r : List V → Hp → VK → Prop) (t : TA) : TE := fun σ H Q => t σ H fun vs H1 => r vs H1 Q
theorem yEF (hc : CallR X (.builtin id) r) (hg : Gl X x) (hm : X.mg x = none) (hv : bootBuiltins x = some (.builtin id)) (ha : PA X (e :: es) t) (hn : x ≠ "__name__" := by decide) (hdb : (x == ("__debug__" : Str)) = false := by decide)
    (he : starEach (e :: es) X.env = (false, eval e X.env) :: starEach es X.env := by rfl) (hpl : (backTo pos (starEach es X.env)).any (·.1) = false := by rfl) : PE X (.Call (.Name x p) (e :: es) [] pos) (tCB r t) := by
  intro pins s σ H Q I h
  refine wpAny_Call_Name_kw (zMR I hg hm hv ?_ hn hdb)
  exact PyProof.Rows.callWith_builtin1 (thn (ha pos pins s σ H _ I h) fun us s1 ⟨vs, H1, I1, r1, q1⟩ => hc pins s1 σ H1 vs us Q I1 r1 q1) he hpl
theorem yCE (hc : CallR X (.type T) r) (hg : Gl X x) (hm : X.mg x = none) (hv : bootBuiltins x = some (.type T)) (ha : PA X (e :: es) t) (hn : x ≠ "__name__" := by decide) (hdb : (x == ("__debug__" : Str)) = false := by decide)
    (he : starEach (e :: es) X.env = (false, eval e X.env) :: starEach es X.env := by rfl) (hpl : (backTo pos (starEach es X.env)).any (·.1) = false := by rfl) : PE X (.Call (.Name x p) (e :: es) [] pos) (tCB r t) := by
  intro pins s σ H Q I h
  refine wpAny_Call_Name_kw (zMR I hg hm hv ?_ hn hdb)
  exact PyProof.Rows.callWith_type1 (thn (ha pos pins s σ H _ I h) fun us s1 ⟨vs, H1, I1, r1, q1⟩ => hc pins s1 σ H1 vs us Q I1 r1 q1) he hpl
end
end L2
namespace HT
open PySem PyProof.Rows
section
variable {prog : Program} {w : World} {A : Around} {E : Value → Shared → Prop} {s : Shared}
theorem cat_tup {t b : Addr} {vs ws : List Value} {Q : Value → Shared → Prop} (ht : IsTup s.heap t vs.toArray) (hb : IsTup s.heap b ws.toArray) (hv : vs ≠ [])
    (h1 : ws = [] → Q (.ref t) s) (h2 : ws ≠ [] → Q (.ref s.heap.objs.size) { s with heap := s.heap.push { cls := .type "tuple", data := .seq (vs ++ ws).toArray } })
    (hsz : vs.length + ws.length ≤ sizeLine) : wpAny (model prog w) A (binaryOp .Add (.ref t) (.ref b)) Q E s := by
  obtain ⟨⟨cls, dd, data, sl⟩, ho, hc, n, hd⟩ := id ht
  obtain ⟨⟨cls2, dd2, data2, sl2⟩, ho2, hc2, n2, hd2⟩ := id hb
  simp only at hc hd hc2 hd2
  subst hc hd hc2 hd2
  have e : vs.toArray ++ ws.toArray = (vs ++ ws).toArray := by simp
  by_cases hw : ws = []
  · exact concat_meets ⟨_, ho, rfl⟩ ⟨_, ho2, rfl⟩ noFill_tuple_add seq_tuple_add PySem.F.slot_tuple_add PySem.F.entry_tuple_add (PySem.F.args_tuple_add_2 _ _)
      (tuple_addW1 t b vs.toArray ws.toArray n n2 dd dd2 sl sl2 (by simpa using hv) (by simp [hw])) ⟨ho, ho2, h1 hw⟩
  · refine concat_meets ⟨_, ho, rfl⟩ ⟨_, ho2, rfl⟩ noFill_tuple_add seq_tuple_add PySem.F.slot_tuple_add PySem.F.entry_tuple_add (PySem.F.args_tuple_add_2 _ _)
      (tuple_addW2 t b vs.toArray ws.toArray n n2 dd dd2 sl sl2 (by simpa using hv) (by simpa using hw) (by rw [List.size_toArray, List.size_toArray]; exact hsz)) ⟨ho, ho2, ?_⟩
    rw [e]
    exact h2 hw
noncomputable def sIx (n d : Nat) : Option Int → Nat
  | none => d
  | some v => if v < 0 then (v + (n : Int)).toNat else min v.toNat n
theorem sIx_le (n d : Nat) (hd : d ≤ n) (o : Option Int) : sIx n d o ≤ n := by
  cases o with
  | none => exact hd
  | some v =>
    show (if v < 0 then (v + (n : Int)).toNat else min v.toNat n) ≤ n
    by_cases hv : v < 0
    · rw [if_pos hv]; (first | lia | omega)
    · rw [if_neg hv]; exact Nat.min_le_right _ _
theorem yAN (v : Int) (n d : Nat) : (if v < 0 then max (v + (n : Int)) 0 else min v (n : Int)) = ((sIx n d (some v) : Nat) : Int) := by
  show (if v < 0 then max (v + (n : Int)) 0 else min v (n : Int)) = (((if v < 0 then (v + (n : Int)).toNat else min v.toNat n) : Nat) : Int)
  by_cases hv : v < 0
  · simp only [if_pos hv]; (first | lia | omega)
  · simp only [if_neg hv]; (first | lia | omega)
theorem zYF (lo hi : Option Int) (n : Nat) : Builtin.Slice.sliceAdjust lo hi 1 (n : Int) = (((sIx n 0 lo : Nat) : Int), ((sIx n n hi : Nat) : Int)) := by
  have h1 : ¬ ((1 : Int) < 0) := by (first | lia | omega)
  unfold Builtin.Slice.sliceAdjust
  simp only [h1, if_false]
  refine Prod.ext ?_ ?_
  · cases lo with
    | none => rfl
    | some v => exact yAN v n 0
  · cases hi with
    | none => rfl
    | some v => exact yAN v n n
theorem zYG (i j : Nat) : Builtin.Slice.slicePlaces (i : Int) (j : Int) 1 = j - i := by
  unfold Builtin.Slice.slicePlaces
  have h1 : (1 : Int) > 0 := by (first | lia | omega)
  simp only [h1, if_true, Int.ediv_one]
  split <;> (first | lia | omega)
theorem zPA {v : Value} {o : Option Int} {Q : Option Int → Shared → Prop} (p : IsPart v o) (h : Q o s) : wpAny (model prog w) A (Builtin.Slice.slicePartIndex v) Q E s := by
  cases p with
  | none => exact slicePart_none h
  | int i t => exact slicePart_int h
theorem sliceApplied_gen {sl : Addr} {vl vu : Value} {lo hi : Option Int} {n : Nat} {Q : Int × Int × Nat → Shared → Prop} (hs : s.heap.IsSliceOf sl vl vu .none) (pl : IsPart vl lo) (pu : IsPart vu hi)
    (h : Q (((sIx n 0 lo : Nat) : Int), 1, sIx n n hi - sIx n 0 lo) s) : wpAny (model prog w) A (Builtin.Slice.sliceApplied (.ref sl) (pure (n : Int))) Q E s := by
  obtain ⟨os, hos, hcs, hds⟩ := id hs
  unfold Builtin.Slice.sliceApplied Builtin.Slice.sliceFields
  refine wpAny_bind (wpAny_bind (wpAny_field hos hds (x := vl) rfl (wpAny_bind (wpAny_field hos hds (x := vu) rfl (wpAny_bind (wpAny_field hos hds (x := .none) rfl (wpAny_pure ?_)))))))
  refine wpAny_bind (slicePart_none ?_)
  show wpAny _ _ (if ((1 : Int) == 0) = true then _ else _) _ _ s
  rw [if_neg (by decide)]
  refine wpAny_bind (zPA pl (wpAny_bind (zPA pu (wpAny_bind (wpAny_pure ?_)))))
  show wpAny _ _ (match Builtin.Slice.sliceAdjust lo hi 1 (n : Int) with | (lo, hi) => pure (lo, (1 : Int), Builtin.Slice.slicePlaces lo hi 1)) _ _ s
  rw [zYF lo hi n]
  show wpAny _ _ (pure (((sIx n 0 lo : Nat) : Int), (1 : Int), Builtin.Slice.slicePlaces ((sIx n 0 lo : Nat) : Int) ((sIx n n hi : Nat) : Int) 1)) _ _ s
  rw [zYG]
  exact wpAny_pure h
theorem yEG (xs : Array Value) (i k : Nat) : ((List.range k).filterMap fun (m : Nat) => xs[((i : Int) + (m : Int) * 1).toNat]?).toArray = ((xs.toList.drop i).take k).toArray := by
  have e : (fun (m : Nat) => xs[((i : Int) + (m : Int) * 1).toNat]?) = fun m => xs[i + m]? := by
    funext m
    have : ((i : Int) + (m : Int) * 1).toNat = i + m := by (first | lia | omega)
    rw [this]
  rw [e]
  have := pick_run xs i k
  rw [List.filterMap_map] at this
  have e2 : ((fun x => xs[x]?) ∘ fun x => i + x) = fun m => xs[i + m]? := rfl
  rw [e2] at this
  rw [this]
theorem getItem_tuple_cut {t sl : Addr} {items : Array Value} {vl vu : Value} {lo hi : Option Int} {Q : Value → Shared → Prop} (ht : IsTup s.heap t items) (hs : s.heap.IsSliceOf sl vl vu .none) (pl : IsPart vl lo) (pu : IsPart vu hi)
    (hw : ¬ (sIx items.size 0 lo = 0 ∧ sIx items.size items.size hi = items.size))
    (h : Q (.ref s.heap.objs.size) { s with heap := s.heap.push { cls := .type "tuple", data := .seq ((items.toList.drop (sIx items.size 0 lo)).take (sIx items.size items.size hi - sIx items.size 0 lo)).toArray } })
    (hsz : items.size ≤ sizeLine) : wpAny (model prog w) A (getItem (.ref t) (.ref sl)) Q E s := by
  have htake : sizeOk (.seq ((items.toList.drop (sIx items.size 0 lo)).take (sIx items.size items.size hi - sIx items.size 0 lo)).toArray) := by
    show ((items.toList.drop (sIx items.size 0 lo)).take (sIx items.size items.size hi - sIx items.size 0 lo)).toArray.size ≤ sizeLine
    rw [List.size_toArray, List.length_take, List.length_drop, Array.length_toList]
    (first | lia | omega)
  have hj : sIx items.size items.size hi ≤ items.size := sIx_le _ _ (Nat.le_refl _) hi
  obtain ⟨os, hos, hcs, hds⟩ := id hs
  have hTs : s.TypeIs (.ref sl) "slice" := ⟨os, hos, hcs⟩
  unfold getItem
  try with_reducible refine wpAny_holding ?_
  first | refine wpAny_bind (wpAny_pure ?_) | skip
  refine wpAny_bind (wpAny_sequenceKey ht.typeIs (by decide) ?_)
  refine wpAny_bind (wpAny_callSpecial?_slot (name := Str.ofString "__getitem__") ht.typeIs PyProof.Rows.slot_tuple_getitem
    (wpAny_call_entry PyProof.Rows.slot_tuple_getitem ht.typeIs entry_tuple_getitem ?_ (args_tuple_getitem _ _)))
  show wpAny _ _ (Builtin.Tuple.tupleItemsOf (.ref t) >>= _) _ _ s
  refine wpAny_bind (tupleItemsOf_ ht ?_)
  refine wpAny_bind (wpAny_typeOf hTs ?_)
  rw [if_pos (by decide)]
  refine wpAny_bind (sliceApplied_gen hs pl pu ?_)
  have hno : ¬ ((((sIx items.size 0 lo : Nat) : Int) == 0 && (1 : Int) == 1 && (sIx items.size items.size hi - sIx items.size 0 lo) == items.size) = true) := by
    intro q
    rw [Bool.and_eq_true, Bool.and_eq_true] at q
    have q1 : ((sIx items.size 0 lo : Nat) : Int) = 0 := eq_of_beq q.1.1
    have q2 : sIx items.size items.size hi - sIx items.size 0 lo = items.size := eq_of_beq q.2
    exact hw ⟨by (first | lia | omega), by (first | lia | omega)⟩
  show wpAny _ _ (if (((sIx items.size 0 lo : Nat) : Int) == 0 && (1 : Int) == 1 && (sIx items.size items.size hi - sIx items.size 0 lo) == items.size) = true then _ else _) _ _ s
  rw [if_neg hno, yEG]
  first
    | exact wpAny_bind (m := Builtin.Tuple.tupleExact _) (wpAny_newObj_type (wpAny_pure ⟨_, rfl, wpAny_pure h⟩) htake)
    | exact wpAny_bind (m := Builtin.Tuple.tupleExact _) (wpAny_newObj_type (wpAny_bind (wpAny_pure (wpAny_pure ⟨_, rfl, wpAny_pure h⟩))) htake)
    | exact wpAny_bind (wpAny_bind (m := Builtin.Tuple.tupleExact _) (wpAny_newObj_type (wpAny_pure (wpAny_pure ⟨_, rfl, wpAny_pure h⟩)) htake))
    | exact wpAny_bind (wpAny_bind (m := Builtin.Tuple.tupleExact _) (wpAny_newObj_type (wpAny_pure ⟨_, rfl, wpAny_pure h⟩) htake))
end
end HT
namespace L2
open PySem PySem.Spec PyProof.Rows
abbrev TO := St → Hp → (Option Int → Hp → Prop) → Prop
noncomputable def PO (X : Cx) (e : Option Expr) (t : TO) : Prop :=
  ∀ (pins : List (Addr × Obj)) (s : Shared) (σ : St) (H : Hp) (Q : Option Int → Hp → Prop), Inv X pins σ H s → t σ H Q →
    wpAny (model X.prog X.w) X.A (evalPart e X.env) (fun u s' => ∃ o H', Inv X pins σ H' s' ∧ IsPart u o ∧ Q o H') X.xe s
noncomputable def yHR : TO := fun _ H Q => Q none H
noncomputable def tPart (t : TE) : TO := fun σ H Q => t σ H fun x H1 => ∃ i, x = .int i ∧ Q (some i) H1
section
variable {X : Cx} {e : Expr} {te : TE} {lo hi : Option Expr} {tl th : TO} {pos p2 : Pos}
theorem yHS : PO X none yHR := by
  intro pins s σ H Q I h
  rw [evalPart_none]
  exact wpAny_pure ⟨none, H, I, .none, h⟩
theorem yHT (h : PE X e te) : PO X (some e) (tPart te) := by
  intro pins s σ H Q I hw
  rw [evalPart_some]
  refine thn (h pins s σ H _ I hw) fun u s1 ⟨x, H1, I1, r1, q1⟩ => ?_
  obtain ⟨i, rfl, q⟩ := q1
  obtain ⟨t, rfl⟩ := r1
  exact ⟨some i, H1, I1, .int i t, q⟩
noncomputable def SlR (X : Cx) (r : V → Option Int → Option Int → Hp → VK → Prop) : Prop :=
  ∀ (pins : List (Addr × Obj)) (s : Shared) (σ : St) (H : Hp) (x : V) (v vl vu : Value) (lo hi : Option Int) (sl : Addr) (Q : VK), Inv X pins σ H s → RelV x v → s.heap.IsSliceOf sl vl vu .none → IsPart vl lo → IsPart vu hi → r x lo hi H Q →
    ∃ T id, typeLookup (.type T) "__getitem__" = pure (some (.builtin id)) ∧ s.TypeIs v T ∧ wpAny (model X.prog X.w) X.A (getItem v (.ref sl)) (EP X pins σ Q) X.xe s
theorem SlR.or {r r' : V → Option Int → Option Int → Hp → VK → Prop} (h : SlR X r) (h' : SlR X r') : SlR X (fun x lo hi H Q => r x lo hi H Q ∨ r' x lo hi H Q) := by
  intro pins s σ H x v vl vu lo hi sl Q I rx hs pl pu q
  rcases q with q | q
  · exact h pins s σ H x v vl vu lo hi sl Q I rx hs pl pu q
  · exact h' pins s σ H x v vl vu lo hi sl Q I rx hs pl pu q
noncomputable def tSl (r : V → Option Int → Option Int → Hp → VK → Prop) (te : TE) (tl th : TO) : TE := fun σ H Q => te σ H fun x H1 => tl σ H1 fun l H2 => th σ H2 fun u H3 => r x l u H3 Q
theorem yEH {r : V → Option Int → Option Int → Hp → VK → Prop} (hr : SlR X r) (he : PE X e te) (hl : PO X lo tl) (hu : PO X hi th) : PE X (.Subscript e (.Slice lo hi none p2) pos) (tSl r te tl th) := by
  intro pins s σ H Q I h
  refine Subscript_ (thn (he pins s σ H _ I h) fun v s1 ⟨x, H1, I1, r1, q1⟩ => ?_)
  refine wpAny_Slice (thn (hl pins s1 σ H1 _ I1 q1) fun vl s2 ⟨l, H2, I2, pl, q2⟩ => thn (hu pins s2 σ H2 _ I2 q2) fun vu s3 ⟨u, H3, I3, pu, q3⟩ => ?_)
  rw [evalPart_none]
  refine wpAny_pure ?_
  have I4 : Inv X pins σ H3 { s3 with heap := s3.heap.push { cls := .type "slice", data := .fields #[vl, vu, .none] } } := I3.kept (t' := s3.toks) fun b ob q => Heap.get?_push_of_some _ q
  obtain ⟨T, id, hT, ht, hg⟩ := hr pins { s3 with heap := s3.heap.push { cls := .type "slice", data := .fields #[vl, vu, .none] } } σ H3 x v vl vu l u s3.heap.objs.size Q I4 r1 (Heap.IsSliceOf.new ..) pl pu q3
  show wpAny (model X.prog X.w) X.A (subscriptTail e (.Slice lo hi none p2) v (.ref s3.heap.objs.size)) (EP X pins σ Q) X.xe { s3 with heap := s3.heap.push { cls := .type "slice", data := .fields #[vl, vu, .none] } }
  exact tail_any (ops := [.ref s3.heap.objs.size, v]) ht hT hg (by with_unfolding_all rfl)
noncomputable def zVM (xs : List V) (lo hi : Option Int) : List V := (xs.drop (HT.sIx xs.length 0 lo)).take (HT.sIx xs.length xs.length hi - HT.sIx xs.length 0 lo)
theorem zNP (xs : List V) (lo hi : Option Int) : (zVM xs lo hi).length ≤ xs.length := by
  unfold zVM
  rw [List.length_take, List.length_drop]
  (first | lia | omega)
noncomputable def rSlT (K : PySem.W.Frag) : V → Option Int → Option Int → Hp → VK → Prop := fun x lo hi H Q => ∃ a xs, x = .ref a ∧ SqT K H a xs ∧
  ¬ (HT.sIx xs.length 0 lo = 0 ∧ HT.sIx xs.length xs.length hi = xs.length) ∧ ∀ p, H p = none → Q (.ref p) (upd H p (.tup (zVM xs lo hi)))
theorem yLV : SlR X (rSlT X.K) := by
  intro pins s σ H x v vl vu lo hi sl Q I rx hs pl pu h
  obtain ⟨a, xs, rfl, hx, hw, q⟩ := h
  cases rx
  obtain ⟨its, r, ht, hz⟩ := I.tuple hx
  have hlen : its.toArray.size = xs.length := by rw [List.size_toArray]; exact r.length.symm
  refine ⟨"tuple", _, PyProof.Rows.slot_tuple_getitem.lookup, ht.typeIs, ?_⟩
  refine HT.getItem_tuple_cut ht hs pl pu (by rw [hlen]; exact hw) ?_ (by rw [hlen]; exact hz)
  rw [hlen]
  refine ⟨.ref s.heap.objs.size, _, I.laid (t' := s.toks) (o := .tup (zVM xs lo hi)) (fun b ob q => Heap.get?_push_of_some _ q) (Nat.le_refl _) ?_, rfl, q _ (I.hok.fresh (Nat.le_refl _))⟩
  exact ⟨Nat.le_trans (zNP xs lo hi) hz, _, (r.drop (HT.sIx xs.length 0 lo)).take (HT.sIx xs.length xs.length hi - HT.sIx xs.length 0 lo), IsTup.new _ _⟩
noncomputable def rCatT (K : PySem.W.Frag) : R2 := fun x y H Q => ∃ a b xs ys, x = .ref a ∧ y = .ref b ∧ SqT K H a xs ∧ SqT K H b ys ∧ xs ≠ [] ∧ xs.length + ys.length ≤ sizeLine ∧
  (ys = [] → Q (.ref a) H) ∧ (ys ≠ [] → ∀ p, H p = none → Q (.ref p) (upd H p (.tup (xs ++ ys))))
theorem Vals.nil_iff {xs : List V} {us : List Value} (r : Vals xs us) : us = [] ↔ xs = [] := by
  cases r with
  | nil => simp
  | cons _ _ => simp
theorem yHU : OpR X (binaryOp .Add) (rCatT X.K) := by
  intro pins s σ H x y v u Q I rx ry h
  obtain ⟨a, b, xs, ys, rfl, rfl, ha, hb, hx, hz, q1, q2⟩ := h
  cases rx
  cases ry
  obtain ⟨its, r1, p1, _⟩ := I.tuple ha
  obtain ⟨its2, r2, p2, _⟩ := I.tuple hb
  refine HT.cat_tup p1 p2 (fun z => hx (r1.nil_iff.mp z)) (fun z => ⟨.ref a, H, I, rfl, q1 (r2.nil_iff.mp z)⟩) (fun z => ?_) (by rw [← r1.length, ← r2.length]; exact hz)
  refine ⟨.ref s.heap.objs.size, _, I.laid (t' := s.toks) (o := .tup (xs ++ ys)) (fun b ob q => Heap.get?_push_of_some _ q) (Nat.le_refl _) ?_, rfl, q2 (fun w => z (r2.nil_iff.mpr w)) _ (I.hok.fresh (Nat.le_refl _))⟩
  exact ⟨by rw [List.length_append]; exact hz, _, r1.append r2, IsTup.new _ _⟩
end
end L2
namespace L2
open PySem PySem.Spec PyProof.Rows
noncomputable def ixN (n : Nat) (i : Int) : Option Nat := if 0 ≤ i then (if i < n then some i.toNat else none) else if -(n : Int) ≤ i then some (i + n).toNat else none
noncomputable def atI {α : Type} (xs : List α) (i : Int) : Option α := (ixN xs.length i).bind fun j => xs[j]?
theorem yAO {n : Nat} {i : Int} {j : Nat} (h : ixN n i = some j) : seqIndex? i n = some j ∧ j < n ∧ -(n : Int) ≤ i ∧ i < n := by
  unfold ixN at h
  by_cases h0 : 0 ≤ i
  · rw [if_pos h0] at h
    by_cases h1 : i < n
    · rw [if_pos h1] at h
      have e : i.toNat = j := Option.some.inj h
      exact ⟨by rw [seqIndex_of h0 h1, e], by (first | lia | omega), by (first | lia | omega), h1⟩
    · rw [if_neg h1] at h; cases h
  · rw [if_neg h0] at h
    by_cases h1 : -(n : Int) ≤ i
    · rw [if_pos h1] at h
      have e : (i + n).toNat = j := Option.some.inj h
      exact ⟨by rw [seqIndex_neg (by (first | lia | omega)) h1, e], by (first | lia | omega), h1, by (first | lia | omega)⟩
    · rw [if_neg h1] at h; cases h
theorem zTL {α : Type} {xs : List α} {i : Int} {v : α} (h : atI xs i = some v) : ∃ j, seqIndex? i xs.length = some j ∧ xs[j]? = some v ∧ j < xs.length ∧ -(xs.length : Int) ≤ i ∧ i < xs.length := by
  unfold atI at h
  cases e : ixN xs.length i with
  | none => rw [e] at h; cases h
  | some j =>
    rw [e] at h
    obtain ⟨h1, h2, h3, h4⟩ := yAO e
    exact ⟨j, h1, h, h2, h3, h4⟩
noncomputable def zTM (b : Expr) : Prop := ∀ o i, subscripted b false o i = operate [o, i] (getItem o i)
noncomputable def IxR (X : Cx) (r : R2) : Prop :=
  ∀ (value slice : Expr) (pins : List (Addr × Obj)) (s : Shared) (σ : St) (H : Hp) (x y : V) (v u : Value) (Q : VK), Inv X pins σ H s → RelV x v → RelV y u → r x y H Q →
    subscripted slice false v u = operate [v, u] (getItem v u) → wpAny (model X.prog X.w) X.A (subscriptTail value slice v u) (EP X pins σ Q) X.xe s
noncomputable def MtR (X : Cx) (id : String) (r : V → List V → Hp → VK → Prop) : Prop :=
  ∀ (pins : List (Addr × Obj)) (s : Shared) (σ : St) (H : Hp) (x : V) (xs : List V) (v : Value) (us : List Value) (Q : VK), Inv X pins σ H s → RelV x v → Vals xs us → r x xs H Q →
    wpAny (model X.prog X.w) X.A (call (.builtin id) (v :: us)) (EP X pins σ Q) X.xe s
section
variable {X : Cx} {a b : Expr} {ta tb : TE} {pos : Pos}
theorem IxR.or {r r' : R2} (h : IxR X r) (h' : IxR X r') : IxR X (fun x y H Q => r x y H Q ∨ r' x y H Q) := by
  intro value slice pins s σ H x y v u Q I rx ry q hs
  rcases q with q | q
  · exact h value slice pins s σ H x y v u Q I rx ry q hs
  · exact h' value slice pins s σ H x y v u Q I rx ry q hs
theorem pe_ix {r : R2} (hr : IxR X r) (ha : PE X a ta) (hb : PE X b tb) (hs : zTM b) : PE X (.Subscript a b pos) (tOp r ta tb) := by
  intro pins s σ H Q I h
  exact Subscript_ (binT ha hb I h fun v u s2 x y H2 I2 rx ry q => hr a b pins s2 σ H2 x y v u Q I2 rx ry q (hs _ _))
noncomputable def rIxL (K : PySem.W.Frag) : R2 := fun x y H Q => ∃ p xs i v, x = .ref p ∧ y = .int i ∧ SqL K H p xs ∧ atI xs i = some v ∧ Q v H
noncomputable def rIxT (K : PySem.W.Frag) : R2 := fun x y H Q => ∃ p xs i v, x = .ref p ∧ y = .int i ∧ SqT K H p xs ∧ atI xs i = some v ∧ Q v H
noncomputable def rIxS : R2 := fun x y H Q => ∃ z i c, x = .str z ∧ y = .int i ∧ z.length ≤ sizeLine ∧ atI z.cps.toList i = some c ∧ Q (.str ⟨#[c]⟩) H
theorem yHV : IxR X (rIxL X.K) := by
  intro value slice pins s σ H x y v u Q I rx ry h hs
  obtain ⟨p, xs, i, z, rfl, rfl, hq, he, q⟩ := h
  cases rx
  obtain ⟨t, rfl⟩ := ry
  obtain ⟨its, r, pl, hz⟩ := I.list hq
  obtain ⟨j, h1, h2, h3, h4, h5⟩ := zTL he
  obtain ⟨w, ew, rw'⟩ := r.get h2
  have hl := r.length
  have hn := zKG
  have fin : EP X pins σ Q w s := ⟨z, H, I, rw', q⟩
  by_cases h0 : 0 ≤ i
  · have hj : i.toNat = j := by
      rw [seqIndex_of h0 h5] at h1
      exact Option.some.inj h1
    exact item_listR pl.isList h0 (by (first | lia | omega)) (by rw [hj]; simpa using ew) fin hs
  · have hj : (i + (its.toArray.size : Int)).toNat = j := by
      rw [seqIndex_neg (by (first | lia | omega)) h4] at h1
      rw [List.size_toArray, ← hl]
      exact Option.some.inj h1
    exact subscriptTail_builtinR (x := w) pl.isList.typeIs slot_list_getitem.lookup
      (wpAny_getItem_list_neg (Q := fun r s' => r = w ∧ EP X pins σ Q r s') pl.isList (by (first | lia | omega)) (by rw [List.size_toArray] <;> (first | lia | omega)) (by (first | lia | omega)) (by rw [hj]; simpa using ew) ⟨rfl, fin⟩) hs
theorem ix_tup : IxR X (rIxT X.K) := by
  intro value slice pins s σ H x y v u Q I rx ry h hs
  obtain ⟨p, xs, i, z, rfl, rfl, hq, he, q⟩ := h
  cases rx
  obtain ⟨t, rfl⟩ := ry
  obtain ⟨its, r, pl, hz⟩ := I.tuple hq
  obtain ⟨j, h1, h2, h3, h4, h5⟩ := zTL he
  obtain ⟨w, ew, rw'⟩ := r.get h2
  have hl := r.length
  have hn := zKG
  have fin : EP X pins σ Q w s := ⟨z, H, I, rw', q⟩
  exact subscriptTail_builtinR (x := w) pl.typeIs slot_tuple_getitem.lookup
    (getItem_tuple (j := j) (Q := fun r s' => r = w ∧ EP X pins σ Q r s') pl (by (first | lia | omega)) (by (first | lia | omega)) (by rw [List.size_toArray, ← hl]; exact h1) (by simpa using ew) ⟨rfl, fin⟩) hs
theorem ix_str : IxR X rIxS := by
  intro value slice pins s σ H x y v u Q I rx ry h hs
  obtain ⟨z, i, c, rfl, rfl, hz, he, q⟩ := h
  obtain ⟨t, rfl⟩ := rx
  obtain ⟨t', rfl⟩ := ry
  obtain ⟨j, h1, h2, h3, h4, h5⟩ := zTL he
  have hl : z.cps.toList.length = z.length := by simp [Str.length]
  rw [hl] at h1 h4 h5
  have hn := zKG
  exact tail_any (typeIs_str s z t) slot_str_getitem.lookup (getItem_str (c := c) (by
    have e1 : decide (i < -(2 ^ 63 : Int)) = false := decide_eq_false (by (first | lia | omega))
    have e2 : decide (i ≥ 2 ^ 63) = false := decide_eq_false (by (first | lia | omega))
    rw [e1, e2, Bool.or_false]) (by rw [h1]; simpa using h2) ⟨.str ⟨#[c]⟩, H, I.tok _, ⟨_, rfl⟩, q⟩) hs
noncomputable def rIx (K : PySem.W.Frag) : R2 := fun x y H Q => rIxL K x y H Q ∨ rIxT K x y H Q ∨ rIxS x y H Q
theorem yLW : IxR X (rIx X.K) := yHV.or (ix_tup.or ix_str)
theorem zYH (its : List Value) (n j : Nat) (u : Value) : Obj.mapSeq (·.setIfInBounds j u) { cls := .type "list", data := .seq its.toArray n } = { cls := .type "list", data := .seq (its.set j u).toArray n } := by
  simp [Obj.mapSeq]
theorem Inv.lst {pins : List (Addr × Obj)} {σ : St} {H : Hp} {s : Shared} {p : Addr} {xs : List V} (I : Inv X pins σ H s) (h : H p = some (.lst xs)) :
    ∃ (its : List Value) (n : Nat), Vals xs its ∧ s.heap.get? p = some { cls := .type "list", data := .seq its.toArray n } ∧ xs.length ≤ sizeLine := by
  obtain ⟨z, its, n, r, e⟩ := I.hok p _ h
  exact ⟨its, n, r, e, z⟩
theorem Inv.lstUpd {pins : List (Addr × Obj)} {σ : St} {H : Hp} {s : Shared} {p : Addr} {xs ys : List V} {its its' : List Value} {n n' : Nat} {f : Obj → Obj} (I : Inv X pins σ H s) (h : H p = some (.lst xs))
    (ho : s.heap.get? p = some { cls := .type "list", data := .seq its.toArray n }) (hf : f { cls := .type "list", data := .seq its.toArray n } = { cls := .type "list", data := .seq its'.toArray n' }) (r : Vals ys its') (hz : ys.length ≤ sizeLine) (t : Nat) :
    Inv X pins σ (upd H p (.lst ys)) { s with heap := s.heap.update p f, toks := t } := by
  have e : (s.heap.update p f).get? p = some { cls := .type "list", data := .seq its'.toArray n' } := by
    rw [Heap.get?_update_self f ho (by rw [hf] <;> rfl), hf]
  refine I.write (x := p) (e := p) (by rw [h]; trivial) (.inl rfl) (fun b u hb q => (Heap.get?_update_other _ _ (Ne.symm hb)).trans q) ⟨_, e⟩ ?_
  exact ⟨hz, its', n', r, e⟩
noncomputable def rSetL : V → V → V → Hp → (Hp → Prop) → Prop := fun o i v H Q => ∃ p xs k j, o = .ref p ∧ i = .int k ∧ H p = some (.lst xs) ∧ ixN xs.length k = some j ∧ Q (upd H p (.lst (xs.set j v)))
theorem set_list : PSet X rSetL := by
  intro pins s σ H o i v ov iv u Q I ro ri rv h
  obtain ⟨p, xs, k, j, rfl, rfl, hp, hj, q⟩ := h
  cases ro
  obtain ⟨t, rfl⟩ := ri
  obtain ⟨its, n, r, ho, hz⟩ := I.lst hp
  obtain ⟨h1, h2, h3, h4⟩ := yAO hj
  have hl := r.length
  have hn := zKG
  have I' : Inv X pins σ (upd H p (.lst (xs.set j v))) { s with heap := s.heap.update p (Obj.mapSeq (·.setIfInBounds j u)) } :=
    I.lstUpd hp ho (zYH its n j u) (r.set rv j) (by rw [List.length_set]; exact hz) s.toks
  by_cases h0 : 0 ≤ k
  · have hk : k.toNat = j := by
      rw [seqIndex_of h0 h4] at h1
      exact Option.some.inj h1
    exact PySem.W.ki_setAt ho h0 (by (first | lia | omega)) (by rw [List.size_toArray, ← hl]; exact h4) (by rw [hk]; exact ⟨_, I', q⟩)
  · have hk : (k + (its.toArray.size : Int)).toNat = j := by
      rw [seqIndex_neg (by (first | lia | omega)) h3] at h1
      rw [List.size_toArray, ← hl]
      exact Option.some.inj h1
    exact PySem.W.ki_setBack ho (by (first | lia | omega)) (by rw [List.size_toArray, ← hl]; exact h3) (by (first | lia | omega)) (by rw [hk]; exact ⟨_, I', q⟩)
theorem zTN (lo hi : Option Int) (n : Nat) : (sliceBounds lo hi none n).1 = ((HT.sIx n 0 lo : Nat) : Int) ∧ (sliceBounds lo hi none n).2.1 = ((HT.sIx n n hi : Nat) : Int) ∧ (sliceBounds lo hi none n).2.2 = 1 := by
  refine ⟨?_, ?_, rfl⟩
  · cases lo with
    | none => simp [sliceBounds, HT.sIx]
    | some i =>
      simp only [sliceBounds, HT.sIx, Option.getD_none, show (1 : Int) > 0 by decide, if_true]
      by_cases h : i < 0
      · simp only [h, if_true] <;> (first | lia | omega)
      · simp only [h, if_false] <;> (first | lia | omega)
  · cases hi with
    | none => simp [sliceBounds, HT.sIx]
    | some i =>
      simp only [sliceBounds, HT.sIx, Option.getD_none, show (1 : Int) > 0 by decide, if_true]
      by_cases h : i < 0
      · simp only [h, if_true] <;> (first | lia | omega)
      · simp only [h, if_false] <;> (first | lia | omega)
theorem zRH (its : List Value) (lo hi : Option Int) : slicePick its.toArray lo hi none = ((its.drop (HT.sIx its.length 0 lo)).take (HT.sIx its.length its.length hi - HT.sIx its.length 0 lo)).toArray := by
  obtain ⟨h1, h2, h3⟩ := zTN lo hi its.toArray.size
  unfold slicePick
  rw [h1, h2, h3]
  simp only [sliceRange_one, pick_run, List.size_toArray] <;> rfl
noncomputable def rSlL (K : PySem.W.Frag) : V → Option Int → Option Int → Hp → VK → Prop := fun x lo hi H Q => ∃ a xs, x = .ref a ∧ SqL K H a xs ∧ ∀ p, H p = none → Q (.ref p) (upd H p (.lst (zVM xs lo hi)))
theorem yHW : SlR X (rSlL X.K) := by
  intro pins s σ H x v vl vu lo hi sl Q I rx hs pl pu h
  obtain ⟨a, xs, rfl, hx, q⟩ := h
  cases rx
  obtain ⟨its, r, ht, hz⟩ := I.list hx
  have hlen := r.length
  refine ⟨"list", _, slot_list_getitem.lookup, ht.isList.typeIs, ?_⟩
  refine wpAny_getItem_list_slice ht.isList hs pl pu .none (by simp) ?_ (by rw [List.size_toArray] <;> (first | lia | omega))
  rw [zRH, ← hlen]
  refine ⟨.ref s.heap.objs.size, _, I.laid (t' := s.toks) (o := .lst (zVM xs lo hi)) (fun b ob q => Heap.get?_push_of_some _ q) (Nat.le_refl _) ?_, rfl, q _ (I.hok.fresh (Nat.le_refl _))⟩
  exact ⟨Nat.le_trans (zNP xs lo hi) hz, _, 0, (r.drop (HT.sIx xs.length 0 lo)).take (HT.sIx xs.length xs.length hi - HT.sIx xs.length 0 lo), Heap.get?_push_size _ rfl⟩
noncomputable def kQ : V → Bool
  | .non => true
  | .bl _ => true
  | .int _ => true
  | .str _ => true
  | _ => false
noncomputable def eqV : V → V → Bool
  | .non, .non => true
  | .bl a, .bl b => a == b
  | .bl a, .int b => (if a then 1 else 0) == b
  | .int a, .bl b => a == (if b then 1 else 0)
  | .int a, .int b => a == b
  | .str a, .str b => a == b
  | _, _ => false
theorem yLX {A : Around} {s : Shared} {y x : V} {u v : Value} (ry : RelV y u) (rx : RelV x v) (fy : kQ y = true) (fx : kQ x = true) : SeqAt.EqAt A s u v (eqV y x) := by
  cases y with
  | non =>
    cases ry
    cases x with
    | non => cases rx; exact SeqAt.EqAt.same _
    | bl b => cases rx; exact SeqAt.EqAt.none_bool b
    | int b => obtain ⟨t, rfl⟩ := rx; exact SeqAt.EqAt.none_int b t
    | str b => obtain ⟨t, rfl⟩ := rx; exact SeqAt.EqAt.none_str b t
    | _ => exact absurd (show false = true from fx) Bool.false_ne_true
  | bl a =>
    cases ry
    cases x with
    | non => cases rx; exact SeqAt.EqAt.bool_none a
    | bl b => cases rx; exact SeqAt.EqAt.bool_bool a b
    | int b => obtain ⟨t, rfl⟩ := rx; exact SeqAt.EqAt.bool_int a b t
    | str b => obtain ⟨t, rfl⟩ := rx; exact SeqAt.EqAt.bool_str a b t
    | _ => exact absurd (show false = true from fx) Bool.false_ne_true
  | int a =>
    obtain ⟨t', rfl⟩ := ry
    cases x with
    | non => cases rx; exact SeqAt.EqAt.int_none a t'
    | bl b => cases rx; exact SeqAt.EqAt.int_bool a t' b
    | int b => obtain ⟨t, rfl⟩ := rx; exact SeqAt.EqAt.int_int a t' b t
    | str b => obtain ⟨t, rfl⟩ := rx; exact SeqAt.EqAt.int_str a t' b t
    | _ => exact absurd (show false = true from fx) Bool.false_ne_true
  | str a =>
    obtain ⟨t', rfl⟩ := ry
    cases x with
    | non => cases rx; exact SeqAt.EqAt.str_none a t'
    | bl b => cases rx; exact SeqAt.EqAt.str_bool a t' b
    | int b => obtain ⟨t, rfl⟩ := rx; exact SeqAt.EqAt.str_int a t' b t
    | str b => obtain ⟨t, rfl⟩ := rx; exact SeqAt.EqAt.str_str a t' b t
    | _ => exact absurd (show false = true from fx) Bool.false_ne_true
  | _ => exact absurd (show false = true from fy) Bool.false_ne_true
theorem zTO : CallR X (.builtin "len") (fun xs H Q => ∃ p ys, xs = [.ref p] ∧ (SqL X.K H p ys ∨ SqT X.K H p ys) ∧ Q (.int ys.length) H) := by
  intro pins s σ H xs us Q I r h
  obtain ⟨p, ys, rfl, hq, q⟩ := h
  obtain ⟨u, rfl, rx⟩ := vals1 r
  cases rx
  have hn := zKG
  rcases hq with hq | hq
  · obtain ⟨its, r', pl, hz⟩ := I.list hq
    have hlen := r'.length
    exact Calls.call_len_list pl.isList (by simp only [List.size_toArray] <;> (first | lia | omega)) ⟨.int ys.length, H, I.tok _, ⟨s.toks + 1, by rw [List.size_toArray, hlen]⟩, q⟩
  · obtain ⟨its, r', pl, hz⟩ := I.tuple hq
    have hlen := r'.length
    exact len_tuple pl (by simp only [List.size_toArray] <;> (first | lia | omega)) ⟨.int ys.length, H, I.tok _, ⟨s.toks + 1, by rw [List.size_toArray, hlen]⟩, q⟩
theorem zTP : CallR X (.builtin "len") (fun xs H Q => ∃ z, xs = [.str z] ∧ z.length ≤ sizeLine ∧ Q (.int z.length) H) := by
  intro pins s σ H xs us Q I r h
  obtain ⟨z, rfl, hz, q⟩ := h
  obtain ⟨u, rfl, t, rfl⟩ := vals1 r
  have hn := zKG
  exact len_str (by (first | lia | omega)) ⟨.int z.length, H, I.tok _, ⟨_, rfl⟩, q⟩
theorem CallR.or {f : Value} {r r' : List V → Hp → VK → Prop} (h : CallR X f r) (h' : CallR X f r') : CallR X f (fun xs H Q => r xs H Q ∨ r' xs H Q) := by
  intro pins s σ H xs us Q I rs q
  rcases q with q | q
  · exact h pins s σ H xs us Q I rs q
  · exact h' pins s σ H xs us Q I rs q
theorem jT : CallR X (.type "list") (fun xs H Q => ∃ p ys, xs = [.ref p] ∧ (SqL X.K H p ys ∨ SqT X.K H p ys) ∧ ∀ l, H l = none → Q (.ref l) (upd H l (.lst ys))) := by
  intro pins s σ H xs us Q I r h
  obtain ⟨p, ys, rfl, hq, q⟩ := h
  obtain ⟨u, rfl, rx⟩ := vals1 r
  cases rx
  have fin : ∀ (its : List Value), Vals ys its → ys.length ≤ sizeLine → ∀ (h' : Heap) (c' : Nat), (∀ b o', s.heap.get? b = some o' → h'.get? b = some o') →
      h'.get? s.heap.objs.size = some { cls := .type "list", dict := none, data := .seq its.toArray c', slots := #[] } → EP X pins σ Q (.ref s.heap.objs.size) { s with heap := h' } := fun its r' hz h' c' kp e =>
    ⟨.ref s.heap.objs.size, _, I.laid (t' := s.toks) kp (Nat.le_refl _) (show ObjOk X.prog X.w _ h' _ (.lst ys) from ⟨hz, its, c', r', e⟩), rfl, q _ (I.hok.fresh (Nat.le_refl _))⟩
  rcases hq with hq | hq
  · obtain ⟨its, r', pl, hz⟩ := I.list hq
    have hlen := r'.length
    obtain ⟨o, ho, hc, n, hd⟩ := pl.isList
    exact call_list_seq p (.inl rfl) ho hc hd (fun h' c' kp e => fin its r' hz h' c' kp e) (by simp only [List.size_toArray] <;> (first | lia | omega))
  · obtain ⟨its, r', pl, hz⟩ := I.tuple hq
    have hlen := r'.length
    obtain ⟨o, ho, hc, n, hd⟩ := pl
    exact call_list_seq p (.inr rfl) ho hc hd (fun h' c' kp e => fin its r' hz h' c' kp e) (by simp only [List.size_toArray] <;> (first | lia | omega))
theorem yV : CallR X (.type "tuple") (fun xs H Q => ∃ p ys, xs = [.ref p] ∧ ((SqL X.K H p ys ∧ ∀ l, H l = none → Q (.ref l) (upd H l (.tup ys))) ∨ (SqT X.K H p ys ∧ Q (.ref p) H))) := by
  intro pins s σ H xs us Q I r h
  obtain ⟨p, ys, rfl, h⟩ := h
  obtain ⟨u, rfl, rx⟩ := vals1 r
  cases rx
  rcases h with ⟨hq, q⟩ | ⟨hq, q⟩
  · obtain ⟨its, r', pl, hz⟩ := I.list hq
    have hlen := r'.length
    refine call_tuple_list pl.isList (fun h' kp => ?_) (by simp only [List.size_toArray] <;> (first | lia | omega))
    have I1 : Inv X pins σ H { s with heap := h' } := I.kept (t' := s.toks) kp
    have I2 : Inv X pins σ (upd H h'.objs.size (.tup ys)) { s with heap := h'.push { cls := .type "tuple", data := .seq its.toArray } } :=
      I1.laid (t' := s.toks) (fun b o e => Heap.get?_push_of_some _ e) (Nat.le_refl _) (show ObjOk X.prog X.w _ _ _ (.tup ys) from ⟨hz, its, r', IsTup.new _ _⟩)
    exact ⟨.ref h'.objs.size, _, I2, rfl, q _ (I1.hok.fresh (Nat.le_refl _))⟩
  · obtain ⟨its, r', pl, hz⟩ := I.tuple hq
    exact call_tuple_same pl ⟨.ref p, H, I, rfl, q⟩
noncomputable def tyV (K : PySem.W.Frag) (T : String) (x : V) (H : Hp) : Prop := match x with
  | .str _ => T = "str"
  | .int _ => T = "int"
  | .ref p => (T = "list" ∧ ∃ xs, SqL K H p xs) ∨ (T = "tuple" ∧ ∃ o, K.lookup p = some o ∧ o.cls = .type "tuple" ∧ o.dict = none) ∨
      (T = "dict" ∧ ((∃ kvs, H p = some (.dK kvs)) ∨ ∃ kvs, H p = some (.dT kvs))) ∨ (T = "set" ∧ ∃ S n, H p = some (.set S n))
  | _ => False
theorem yEI {pins : List (Addr × Obj)} {σ : St} {H : Hp} {s : Shared} {T : String} {x : V} {v : Value} (I : Inv X pins σ H s) (r : RelV x v) (ty : tyV X.K T x H) :
    s.TypeIs v T ∧ ∀ a, v = .ref a → ∃ ob, s.heap.get? a = some ob ∧ ob.dict = none := by
  cases x with
  | str z =>
    obtain ⟨t, rfl⟩ := r
    cases (show T = "str" from ty)
    exact ⟨typeIs_str s z t, fun _ e => nomatch e⟩
  | int i =>
    obtain ⟨t, rfl⟩ := r
    cases (show T = "int" from ty)
    exact ⟨typeIs_int s i t, fun _ e => nomatch e⟩
  | ref p =>
    cases r
    rcases ty with ⟨rfl, xs, hq⟩ | ⟨rfl, o, hk, hc, hd⟩ | ⟨rfl, hk⟩ | ⟨rfl, S, n, hk⟩
    · obtain ⟨its, _, pl, _⟩ := I.list hq
      refine ⟨pl.isList.typeIs, fun a e => ?_⟩
      cases e
      obtain ⟨o, n, e, c, hd, _⟩ := pl
      exact ⟨o, e, hd⟩
    · refine ⟨⟨o, I.kIn p o hk, hc⟩, fun a e => ?_⟩
      cases e
      exact ⟨o, I.kIn _ o hk, hd⟩
    · have z : ∃ o, s.heap.get? p = some o ∧ o.ExactDict := by
        rcases hk with ⟨kvs, hk⟩ | ⟨kvs, hk⟩
        · obtain ⟨_, _, _, _, o, _, _, e, ex, _⟩ := I.hok p _ hk
          exact ⟨o, e, ex⟩
        · obtain ⟨_, _, _, _, o, _, _, e, ex, _⟩ := I.hok p _ hk
          exact ⟨o, e, ex⟩
      obtain ⟨o, e, ex⟩ := z
      refine ⟨⟨o, e, ex.1⟩, fun a e2 => ?_⟩
      cases e2
      exact ⟨o, e, ex.2.1⟩
    · obtain ⟨o, _, _, _, e, ex, _⟩ := I.hok p _ hk
      refine ⟨⟨o, e, ex.1⟩, fun a e2 => ?_⟩
      cases e2
      exact ⟨o, e, ex.2.1⟩
  | _ => exact False.elim ty
noncomputable def tBM0 (K : PySem.W.Frag) (T : String) (r : V → List V → Hp → VK → Prop) (to : TE) : TE := fun σ H Q => to σ H fun x H1 => tyV K T x H1 ∧ r x [] H1 Q
noncomputable def tBM (K : PySem.W.Frag) (T : String) (r : V → List V → Hp → VK → Prop) (to : TE) (t : TA) : TE := fun σ H Q => to σ H fun x H1 => tyV K T x H1 ∧ t σ H1 fun xs H2 => r x xs H2 Q
variable {o e : Expr} {es : List Expr} {to : TE} {t : TA} {name : Str} {apos cpos : Pos} {T id : String} {r : V → List V → Hp → VK → Prop}
theorem yLY (pa : PlainAttrs T) (slot : Slot T name id) (hty : typeOf (.builtin id) = pure (.type "method_descriptor")) (hm : MtR X id r) (ho : PE X o to)
    (hbase : attributeBase o name X.env (eval o X.env) = eval o X.env := by rfl) (hline : (apos.endLine == cpos.line) = true := by rfl) : PE X (.Call (.Attribute o name apos) [] [] cpos) (tBM0 X.K T r to) := by
  intro pins s σ H Q I h
  refine wpAny_Call_method0_late hbase hline (thn (ho pins s σ H _ I h) fun v s1 ⟨x, H1, I1, r1, ty, q1⟩ => ?_)
  obtain ⟨h1, h2⟩ := yEI I1 r1 ty
  exact ⟨T, id, pa, slot, hty, h1, h2, Calls.callWith_builtin rfl (PySem.evalArgs_none (hm pins s1 σ H1 x [] v [] Q I1 r1 .nil q1))⟩
theorem pe_bm (pa : PlainAttrs T) (slot : Slot T name id) (hty : typeOf (.builtin id) = pure (.type "method_descriptor")) (hm : MtR X id r) (ho : PE X o to) (ha : PA X (e :: es) t)
    (hbase : attributeBase o name X.env (eval o X.env) = eval o X.env := by rfl)
    (hfew : ((backTo cpos (starEach (e :: es) X.env)).all (fun x => !x.1) && (backToKw cpos (keywordEach [] X.env)).all (fun x => x.1.isSome)
      && decide ((e :: es).length + ([] : List Keyword).length + (if ([] : List Keyword).isEmpty then 0 else 1) < 30)) = true := by rfl)
    (hline : (apos.endLine == cpos.line) = true := by rfl) (hs : starEach (e :: es) X.env = (false, eval e X.env) :: starEach es X.env := by rfl) (hplain : (backTo cpos (starEach es X.env)).any (·.1) = false := by rfl) :
    PE X (.Call (.Attribute o name apos) (e :: es) [] cpos) (tBM X.K T r to t) := by
  intro pins s σ H Q I h
  refine wpAny_Call_method_late hbase hfew hline rfl (thn (ho pins s σ H _ I h) fun v s1 ⟨x, H1, I1, r1, ty, q1⟩ => ?_)
  obtain ⟨h1, h2⟩ := yEI I1 r1 ty
  refine ⟨T, id, pa, slot, hty, h1, h2, ?_⟩
  have hA := ha cpos pins s1 σ H1 _ I1 q1
  rw [hs] at hA ⊢
  refine Calls.callWith_builtin (by show (false || (backTo cpos (starEach es X.env)).any (·.1)) = false; rw [hplain] <;> rfl) (Calls.evalArgs_plain ?_)
  exact thn hA fun us s2 ⟨vs, H2, I2, r2, q2⟩ => hm pins s2 σ H2 x vs v us Q I2 r1 r2 q2
end
end L2
namespace L2
open PySem PySem.Spec PyProof.Rows
noncomputable def MtM (X : Cx) (id : String) (r : V → List V → Hp → VK → Prop) : Prop :=
  ∀ (pins : List (Addr × Obj)) (s : Shared) (σ : St) (H : Hp) (x : V) (xs : List V) (v : Value) (us : List Value) (Q : VK), Inv X pins σ H s → RelV x v → Vals xs us → r x xs H Q →
    wpAny (model X.prog X.w) X.A (call (.builtin id) (v :: us)) (EP X pins σ Q) X.xe s
theorem Vals.one : ∀ {x : V} {us : List Value}, Vals [x] us → ∃ u, us = [u] ∧ RelV x u
  | _, _, .cons r .nil => ⟨_, rfl, r⟩
theorem Vals.zero : ∀ {us : List Value}, Vals [] us → us = []
  | _, .nil => rfl
theorem Vals.reverse {xs : List V} {us : List Value} (h : Vals xs us) : Vals xs.reverse us.reverse := by
  induction h with
  | nil => exact .nil
  | cons r t ih => rw [List.reverse_cons, List.reverse_cons]; exact Vals.append ih (.cons r .nil)
section
variable {X : Cx} {pins : List (Addr × Obj)} {σ : St} {H : Hp} {s : Shared} {l b : Addr} {xs ys zs : List V}
theorem Inv.lset {its its' : List Value} {n : Nat} {f : Array Value → Array Value} {t' : Nat} (I : Inv X pins σ H s) (hH : H l = some (.lst xs))
    (e : s.heap.get? l = some { cls := .type "list", data := .seq its.toArray n }) (hf : f its.toArray = its'.toArray) (hv : Vals ys its') (hz : ys.length ≤ sizeLine) :
    Inv X pins σ (upd H l (.lst ys)) { s with heap := s.heap.update l (Obj.mapSeq f), toks := t' } := by
  have q := PySem.IsL.update e f
  rw [hf] at q
  refine I.write (x := l) (e := l) (by rw [hH]; exact trivial) (.inl rfl) (fun b' u hb hu => (Heap.get?_update_other s.heap (Obj.mapSeq f) (Ne.symm hb)).trans hu) ⟨_, q⟩ ?_
  exact ⟨hz, its', _, hv, q⟩
theorem Inv.lstM (I : Inv X pins σ H s) (hH : H l = some (.lst xs)) : xs.length ≤ sizeLine ∧ ∃ (its : List Value) (n : Nat), Vals xs its ∧ xs.length = its.length ∧ s.heap.get? l = some { cls := .type "list", data := .seq its.toArray n } := by
  obtain ⟨z, its, n, r, e⟩ := I.hok l _ hH
  exact ⟨z, its, n, r, r.length, e⟩
end
section
variable {X : Cx}
noncomputable def yAP : V → List V → Hp → VK → Prop := fun x vs H Q => ∃ l xs y, x = .ref l ∧ vs = [y] ∧ H l = some (.lst xs) ∧ xs.length < sizeLine ∧ Q .non (upd H l (.lst (xs ++ [y])))
theorem yCF : MtM X "list.append" yAP := by
  intro pins s σ H x vs v us Q I rx rv h
  obtain ⟨l, xs, y, rfl, rfl, hH, hz, q⟩ := h
  cases rx
  obtain ⟨u, rfl, ru⟩ := rv.one
  obtain ⟨z, its, n, r, hl, e⟩ := I.lstM hH
  refine call_meets F.slot_list_append ⟨_, e, rfl⟩ F.entry_list_append (F.args_list_append_2 _ _) (PySem.list_append l its.toArray n u (by rw [List.size_toArray]; (first | lia | omega))) ⟨e, ?_⟩
  refine ⟨.non, _, I.lset (its' := its ++ [u]) hH e (by simp) (r.append (.cons ru .nil)) ?_, rfl, q⟩
  rw [List.length_append, List.length_singleton]
  (first | lia | omega)
noncomputable def zVN : V → List V → Hp → VK → Prop := fun x vs H Q => ∃ l xs, x = .ref l ∧ vs = [] ∧ H l = some (.lst xs) ∧ Q .non (upd H l (.lst xs.reverse))
theorem zYI : MtM X "list.reverse" zVN := by
  intro pins s σ H x vs v us Q I rx rv h
  obtain ⟨l, xs, rfl, rfl, hH, q⟩ := h
  cases rx
  have hus := rv.zero
  subst hus
  obtain ⟨z, its, n, r, hl, e⟩ := I.lstM hH
  refine call_meets F.slot_list_reverse ⟨_, e, rfl⟩ F.entry_list_reverse (F.args_list_reverse_1 _) (AutoSeq1.list_reverse_list_0 l its.toArray n (by rw [List.size_toArray]; (first | lia | omega))) ⟨e, ?_⟩
  refine ⟨.non, _, I.lset (its' := its.reverse) hH e (by simp) r.reverse ?_, rfl, q⟩
  rw [List.length_reverse]
  (first | lia | omega)
noncomputable def yEK : V → List V → Hp → VK → Prop := fun x vs H Q => ∃ l xs, x = .ref l ∧ vs = [] ∧ H l = some (.lst xs) ∧ Q .non (upd H l (.lst []))
theorem yEL : MtM X "list.clear" yEK := by
  intro pins s σ H x vs v us Q I rx rv h
  obtain ⟨l, xs, rfl, rfl, hH, q⟩ := h
  cases rx
  have hus := rv.zero
  subst hus
  obtain ⟨z, its, n, r, hl, e⟩ := I.lstM hH
  refine call_meets F.slot_list_clear ⟨_, e, rfl⟩ F.entry_list_clear (F.args_list_clear_1 _) (AutoSeq1.list_clear_list_0 l its.toArray n (by rw [List.size_toArray]; (first | lia | omega))) ⟨e, ?_⟩
  exact ⟨.non, _, I.lset (its' := []) (ys := []) hH e rfl .nil (Nat.zero_le _), rfl, q⟩
end
end L2
namespace Att
open PySem PySem.W PySem.Calls PyProof.Rows
theorem zOF {P : Params} {h : Heap} : ∀ (ns : List Int) (vs : List Value), WellAll P h vs (ns.map WData.int) → IntsAre vs ns := by
  intro ns
  induction ns with
  | nil =>
    intro vs w
    rw [List.map_nil] at w
    cases w
    exact .nil
  | cons n ns ih =>
    intro vs w
    rw [List.map_cons] at w
    cases w with
    | cons a b =>
      cases a
      exact .cons _ _ (ih _ b)
theorem yCG {l : OpenLaw} {n : Nat} (hn : l.most = some n) {P : Params} {h : Heap} {args : List WData} {vals : List Value}
    (hpre : l.row.toRowW.claim.pre args = true) (hwl : WellAll P h vals args) :
    ∃ a vs ns, vals = [Value.ref a] ∧ args = [WData.list (ns.map WData.int)] ∧ h.get? a = some { cls := .type "list", data := .seq vs.toArray } ∧ IntsAre vs ns ∧ ns.length ≤ n := by
  have hsh : WShape.hasAll [] args [.list .int] = true := (pre_splitW hpre).1
  have hc : l.pre.holds [] { args := args } = true := (pre_splitW hpre).2
  obtain ⟨d, r, rfl, h1, h2⟩ := hasAllW_cons hsh
  obtain rfl := hasAllW_nil h2
  obtain ⟨xs, rfl, h3⟩ := hasW_list h1
  obtain ⟨ns, rfl⟩ := items_int h3
  have hlen : ns.length ≤ n := by
    unfold OpenLaw.pre at hc
    have h4 : (WTm.not (.lt (.lit (.int (n : Int))) (.len (.arg 0)))).holds [] { args := [.list (ns.map .int)] } = true := by
      have h4 := (holds_andW hc).1
      rw [hn] at h4
      exact h4
    have h5 := condW_of h4 (w_not (w_lt w_lit (w_len_list (w_arg rfl))))
    rw [List.length_map] at h5
    refine Nat.le_of_not_lt fun q => ?_
    have q' : (n : Int) < ((ns.length : Nat) : Int) := by (first | lia | omega)
    first
      | (rw [decide_eq_true q'] at h5; exact absurd h5 (by decide))
      | (simp at h5; (first | lia | omega))
  cases hwl with
  | cons w1 w2 =>
    cases w2
    cases w1 with
    | list ho hall => exact ⟨_, _, ns, rfl, rfl, ho, zOF ns _ hall, hlen⟩
theorem yCH (l : OpenLaw) (args : List WData) : l.row.toRowW.claim.post args (.bool true) args = true :=
  postW_of (r := l.row.toRowW) (X := (true == true))
    (show WShape.has [] (.bool true) .bool = true by first | rfl | decide | simp [WShape.has, WShape.arms, WShape.armsAll])
    (show (WTm.eq .res (.lit (.bool true))).value [] { args := args, res := some (.bool true), after := args } = some (.bool (true == true)) from w_eq_bool (w_res rfl) w_lit) rfl
theorem attach_call {l : OpenLaw} {n : Nat} {q : Program} {loose : List Str} {XP : (Str → Option Value) → Heap → Prop} {YP : World → Heap → Prop} {d : DefRec}
    (hn : l.most = some n) (hdf : d.params.defaults = [])
    (call : ∀ (w : World) (s₀ s₁ : Shared) (mg mb : Str → Option Value) (fa : Addr) (o : Obj) (pm cd doc : Value) (a : Addr) (vs : List Value) (ns : List Int),
      Ground q loose [] XP w s₀ mg mb s₁.heap → YP w s₁.heap →
      s₁.heap.get? fa = some o → o.data = .func (docDef d.name d.params d.body d.scope pm cd doc) → s₁.heap.CodeRec cd d.name → mg d.name = some (.ref fa) →
      s₁.heap.get? a = some { cls := .type "list", data := .seq vs.toArray } → IntsAre vs ns → ns.length ≤ n → s₁.gens = #[] →
      codeAny (model l.prog w) callerA (.call (.ref fa) ⟨[.ref a], []⟩) (fun r s' => r = .ok (.ret (.bool true)) ∧ OldK s₁.heap s'.heap ∧ s'.os = s₁.os ∧ AllBare s'.gens) s₁) :
    WalkO q loose XP YP l.row.toRowW d [] (fun f vs => PySem.call f vs) := by
  intro w s₀ s₁ mg mb G Y fa o pm cd doc dV kV ho hd hcd hD hmg hg args vals as hpre hlay hrd hwl hlo
  obtain rfl : dV = .none := Dflts.none hD hdf
  obtain rfl : kV = .none := Dflts.noKw hD
  obtain ⟨a, vs, ns, rfl, rfl, hobj, hints, hlen⟩ := yCG hn hpre hwl
  refine enter_call (codeAny_mono (call w s₀ s₁ mg mb fa o pm cd doc a vs ns G Y ho (fd_plain hd) hcd hmg hobj hints hlen hg) fun r s' hq => ?_)
  obtain ⟨rfl, h2, h3, h4⟩ := hq
  exact ⟨.inl ⟨.bool true, .bool true, [], rfl, fun _ => rfl, .bool true, yCH l _, fun _ => ⟨List.Pairwise.nil, fun _ hm => (nomatch hm)⟩⟩, h2, h3, h4⟩
end Att
namespace L2
open PySem PySem.Spec PyProof.Rows
theorem zSM : ∀ {vs : List Value} {ns : List Int}, IntsAre vs ns → Vals (ns.map V.int) vs
  | _, _, .nil => .nil
  | _, _, .cons n t h => .cons ⟨t, rfl⟩ (zSM h)
noncomputable def yEM (H : Hp) : Prop := ∀ b, H b = none ∨ ∃ o xs, H b = some (.frz o (.lst xs))
theorem yEN {P : Program} {w : World} {K : PySem.W.Frag} {mg mb : Str → Option Value} {CX : CXT} {k : Nat} {fa a : Addr} {fd : FuncData} {x : Str} {sp : Sp} {s₁ : Shared} {vs : List Value} {ns : List Int}
    (KX : K.In s₁.heap) (hns : s₁.heap.Ns mainGlobals mg) (hb : s₁.heap.Ns builtinsNs mb) (hbb : ∀ x : Str, x ≠ "__name__" → mb x = bootBuiltins x) (hlim : s₁.heap.NoLimit) (hg : s₁.gens = #[])
    (ha : s₁.heap.get? a = some { cls := .type "list", data := .seq vs.toArray }) (hi : IntsAre vs ns) (hl : ns.length ≤ sizeLine) (hr : Room k callerA)
    (F : ∀ base : Heap, K.In base → base.Ns mainGlobals mg → FnOk P w K mg base CX k fa fd [x] sp) (hbind : ∀ (s : Shared) (u : Value), BindsTo s fd ⟨[u], []⟩ [(x, u)])
    (hsp : ∀ H : Hp, yEM H → SqL K H a (ns.map V.int) → sp [.ref a] H (fun v _ => v = .bl true) fun _ _ _ => False)
    (hCX : ∀ H e s', CX [] H s₁ (fun _ _ _ => False) e s' → False) :
    codeAny (model P w) callerA (.call (.ref fa) ⟨[.ref a], []⟩) (fun r s' => r = .ok (.ret (.bool true)) ∧ OldK s₁.heap s'.heap ∧ s'.os = s₁.os ∧ AllBare s'.gens) s₁ := by
  have rv := zSM hi
  have lenV := hi.length
  have core : ∀ H : Hp, yEM H → SqL K H a (ns.map V.int) → HOk P w H s₁.heap → (∀ b, H b ≠ none → b = a) → (H a ≠ none → K.lookup a = none) →
      codeAny (model P w) callerA (.call (.ref fa) ⟨[.ref a], []⟩) (fun r s' => r = .ok (.ret (.bool true)) ∧ OldK s₁.heap s'.heap ∧ s'.os = s₁.os ∧ AllBare s'.gens) s₁ := by
    intro H hO hS hok hA hK
    have base_of : ∀ {b : Addr} {o : Obj}, s₁.heap.get? b = some o → H b = none → (zTJ s₁.heap H).get? b = some o := fun e n => yDS e n
    have noA : ∀ {b : Addr} {o : Obj} {es : Array DictEntry} {ep : Nat}, s₁.heap.get? b = some o → o.data = .dict es ep → H b = none := fun {b o es ep} e d => by
      cases q : H b with
      | none => rfl
      | some u =>
        have e' : b = a := hA b (by rw [q]; simp)
        subst e'
        rw [ha] at e; cases e
        have d' : Data.seq vs.toArray _ = Data.dict es ep := d
        cases d'
    have nsK : ∀ {b : Addr} {m : Str → Option Value}, s₁.heap.Ns b m → (zTJ s₁.heap H).Ns b m := fun {b m} ⟨o, es, ep, e, d, r⟩ => ⟨o, es, ep, base_of e (noA e d), d, r⟩
    have hKb : K.In (zTJ s₁.heap H) := fun b o e => base_of (KX b o e) (by
      cases q : H b with
      | none => rfl
      | some u =>
        have e' : b = a := hA b (by rw [q]; simp)
        subst e'
        rw [hK (by rw [q]; simp)] at e; cases e)
    have hM : Mod K mg (zTJ s₁.heap H) := ⟨hKb, nsK hns, ⟨mb, nsK hb, hbb⟩, let ⟨mc, h1, h2⟩ := hlim; ⟨mc, nsK h1, h2⟩⟩
    have e0 : Env0 P w K mg (zTJ s₁.heap H) callerA [] s₁ H := ⟨rfl, hM, fun b o e => yHF e, Nat.le_of_eq (yBY _ _), trivial, fun b hb => absurd (show b ∈ ([] : List Addr) from hb) (by simp), hok, .of_eq hg⟩
    refine codeAny_mono ((F _ hKb (nsK hns)).run callerA [] s₁ H ⟨[.ref a], []⟩ [.ref a] [.ref a] _ _ hr e0 (hbind s₁ (.ref a)) (.cons rfl .nil) (hsp H hO hS)) fun r s' h => ?_
    cases r with
    | error e => exact (hCX H e s' h).elim
    | ok fl =>
      cases fl with
      | next => exact False.elim h
      | brk => exact False.elim h
      | cont => exact False.elim h
      | ret u =>
        obtain ⟨v, H', os, bare, un, hok', r', q⟩ := h
        have q' : v = .bl true := q
        subst q'
        obtain rfl : u = Value.bool true := r'
        refine ⟨rfl, OldK.of_keep fun b o e => ?_, os, bare⟩
        cases q : H b with
        | none => exact un.keep b o e q (by intro z; exact absurd (show b ∈ ([] : List Addr) from z) (by simp)) (by simp)
        | some u =>
          rcases hO b with z | ⟨ob, xs, z⟩
          · rw [q] at z; cases z
          · have z2 := un.frzs b ob _ z
            obtain ⟨e1, _⟩ := hok b _ z
            obtain ⟨e2, _⟩ := hok' b _ z2
            rw [e] at e1; cases e1
            exact e2
  cases hk : K.lookup a with
  | some o =>
    have e := KX a o hk
    rw [ha] at e
    cases e
    refine core (fun _ => none) (fun _ => .inl rfl) (.inr ⟨_, vs.toArray, _, hk, rfl, rfl, rfl, by rw [List.size_toArray, lenV]; exact hl, by simpa using rv⟩) (fun b u z => by have z' : (none : Option HO) = some u := z; cases z') (fun b z => absurd rfl z) fun z => absurd rfl z
  | none =>
    refine core (fun b => if b = a then some (.frz { cls := .type "list", data := .seq vs.toArray } (.lst (ns.map V.int))) else none) (fun b => ?_) (.inl (.inr ⟨{ cls := .type "list", data := .seq vs.toArray }, if_pos rfl⟩)) (fun b u z => ?_) (fun b z => ?_) fun _ => hk
    · by_cases hb : b = a
      · exact .inr ⟨_, _, if_pos hb⟩
      · exact .inl (if_neg hb)
    · by_cases hb : b = a
      · have z' := (if_pos hb).symm.trans z
        cases z'
        subst hb
        exact ⟨ha, by rw [List.length_map]; exact hl, vs, _, rv, ha⟩
      · have z' := (if_neg hb).symm.trans z
        cases z'
    · by_cases hb : b = a
      · exact hb
      · exact absurd (if_neg hb) z
end L2
namespace L2
open PySem PySem.Spec PyProof.Rows
theorem walk_of {l : PySem.W.OpenLaw} {n k : Nat} {q : Program} {loose : List Str} {XP : (Str → Option Value) → Heap → Prop} {YP : World → Heap → Prop} {d : DefRec} {K : Params → PySem.W.Frag} {CX : World → CXT} {sp : World → Sp} {x : Str}
    (hn : l.most = some n) (hn2 : n ≤ sizeLine) (hdf : d.params.defaults = []) (hr : Room k callerA)
    (hY : ∀ (w : World) (h : Heap), YP w h → (K w.params).In h)
    (F : ∀ (w : World) (mg : Str → Option Value) (fa : Addr) (h : Heap), (K w.params).In h → h.Ns mainGlobals mg → mg d.name = some (.ref fa) →
      ∃ fd : FuncData, (∀ (s : Shared) (u : Value), BindsTo s fd ⟨[u], []⟩ [(x, u)]) ∧
        ∀ base : Heap, (K w.params).In base → base.Ns mainGlobals mg → FnOk l.prog w (K w.params) mg base (CX w) k fa fd [x] (sp w))
    (hsp : ∀ (w : World) (H : Hp) (a : Addr) (ns : List Int), ns.length ≤ n → yEM H → SqL (K w.params) H a (ns.map V.int) → sp w [.ref a] H (fun v _ => v = .bl true) fun _ _ _ => False)
    (hCX : ∀ (w : World) (H : Hp) (s : Shared) (e : Value) (s' : Shared), CX w [] H s (fun _ _ _ => False) e s' → False) :
    PySem.W.WalkO q loose XP YP l.row.toRowW d [] (fun f vs => PySem.call f vs) := by
  refine Att.attach_call hn hdf fun w s₀ s₁ mg mb fa o pm cd doc a vs ns G Y ho hd hcd hmg hobj hints hlen hg => ?_
  have KX := hY w _ Y
  obtain ⟨fd, hb, hF⟩ := F w mg fa _ KX G.T.g hmg
  exact yEN KX G.T.g G.T.b G.T.builtins G.T.nolimit hg hobj hints (Nat.le_trans hlen hn2) hr hF hb (fun H hO hS => hsp w H a ns hlen hO hS) fun H e s' => hCX w H s₁ e s'
end L2
namespace L2
open PySem PySem.Spec PyProof.Rows
noncomputable def yF (s : Stmt) : Arguments := match s with
  | .FunctionDef _ a _ _ _ _ _ _ _ _ => a
  | _ => { posonlyargs := [], args := [], vararg := none, kwonlyargs := [], kw_defaults := [], kwarg := none, defaults := [] }
noncomputable def yD (s : Stmt) : List Stmt := match s with
  | .FunctionDef _ _ b _ _ _ _ _ _ _ => b
  | _ => []
noncomputable def zG (s : Stmt) : Scope := match s with
  | .FunctionDef _ _ _ _ _ _ sc _ _ _ => sc
  | _ => { kind := .function, names := [], isGenerator := false, isCoroutine := false }
abbrev CX0 : CXT := fun _ _ _ _ _ _ => False
abbrev E0 : XK := fun _ _ _ => False
theorem pass0 {X : Cx} : zYD CX0 X E0 := fun _ _ _ _ _ _ _ h => h.elim
structure Fun (K : PySem.W.Frag) (x qual : Str) (st : Stmt) (f : Addr) (fd : FuncData) : Prop where
  ex : ∃ (oc : Value) (od : Option Addr) (kV doc pm : Value) (an : Option Addr) (cdv ct : Value) (osl : Array (Option Value)),
    fd = PySem.W.fnOf x qual (yF st) (yD st) (zG st) .none kV doc pm an cdv ct ∧ K.lookup f = some ⟨oc, od, .func fd, osl⟩ ∧ PySem.W.codeIn K cdv qual = true
  kp : PySem.W.keepIn K (.ref f) = true
section
variable {P : Program} {w : World} {K : PySem.W.Frag} {mg : Str → Option Value} {base : Heap}
theorem Fun.ok {x qual : Str} {st : Stmt} {f : Addr} {fd : FuncData} {N ps : List Str} {k : Nat} {sp : Sp} (F : Fun K x qual st f fd) (S : FnScope N ps (zG st)) (len : ∀ vs H Q E, sp vs H Q E → vs.length = ps.length)
    (hbody : ∀ (cdv : Value) (A : Around) (outer : List Env) (s : Shared) (H : Hp) (vs : List V) (Q : VK) (E : XK), Room k (A.deeper (envOfC qual (zG st) s.heap.objs.size f cdv)) → sp vs H Q E →
      ∃ t, PSs (zYE CX0 P w K mg base N qual (zG st) f cdv A outer s H E).nox (yD st) t ∧ t { nx := fun _ H' => Q .non H', rt := Q } (start N vs) H) : FnOk P w K mg base CX0 (k + 1) f fd ps sp := by
  obtain ⟨oc, od, kV, doc, pm, an, cdv, ct, osl, rfl, lk, hcd⟩ := F.ex
  refine fn_of lk hcd S len fun A outer s H vs Q E hr hsp => ?_
  obtain ⟨t, h, q⟩ := hbody cdv A outer s H vs Q E hr hsp
  exact ⟨t, h.nox, q⟩
theorem Fun.binds {x qual : Str} {st : Stmt} {f : Addr} {fd : FuncData} {ps : List Str} (F : Fun K x qual st f fd)
    (h : ∀ (kV doc pm : Value) (an : Option Addr) (cdv ct : Value) (us : List Value), us.length = ps.length → bindArgs (PySem.W.fnOf x qual (yF st) (yD st) (zG st) .none kV doc pm an cdv ct) ⟨us, []⟩ = pure (ps.zip us)) : Binds K fd ps [] := by
  obtain ⟨oc, od, kV, doc, pm, an, cdv, ct, osl, rfl, lk, hcd⟩ := F.ex
  exact .all (h kV doc pm an cdv ct)
theorem yZ {x qual : Str} {st : Stmt} {f : Addr} {oc : Value} {od an : Option Addr} {osl : Array (Option Value)} {kV doc pm cdv ct : Value} (l : K.lookup f = some ⟨oc, od, .func (PySem.W.fnOf x qual (yF st) (yD st) (zG st) .none kV doc pm an cdv ct), osl⟩)
    (c : PySem.W.codeIn K cdv qual = true) (k : PySem.W.keepIn K (.ref f) = true) : Fun K x qual st f (PySem.W.fnOf x qual (yF st) (yD st) (zG st) .none kV doc pm an cdv ct) := ⟨⟨oc, od, kV, doc, pm, an, cdv, ct, osl, rfl, l, c⟩, k⟩
end
section
variable {X : Cx}
theorem pv (i : Nat) {x : Str} {pos : Pos} (hN : X.N[i]? = some x := by rfl) (hv : Vis X.env.scope x := by first | exact Or.inl rfl | exact Or.inr (Or.inl rfl) | exact Or.inr (Or.inr rfl)) (hd : (x == ("__debug__" : Str)) = false := by decide)
    (hcd : (x == ("__classdict__" : Str)) = false := by decide) : PE X (.Name x pos) (tVar i) := yKW hN hv hd hcd
end
end L2
set_option maxHeartbeats 4000000
namespace L2
open PySem PySem.Spec PyProof.Rows
noncomputable def zBZ (env : Env) (l : List (Str × NameKind)) (cs : List (Str × Addr)) : List (Str × Addr) :=
  l.foldl (fun c y => if y.2 == .free then (y.1, (env.cells.lookup y.1).getD 0) :: c else c) cs
theorem zTQ {α β : Type} {l : List α} {f : α → β → Sem (ForInStep β)} {g : β → α → β} : ∀ (c : β), (∀ x ∈ l, ∀ c, f x c = pure (.yield (g c x))) →
    forIn l c f = pure (l.foldl g c) := by
  induction l with
  | nil => intro c _; rfl
  | cons x l ih =>
    intro c h
    rw [List.forIn_cons, h x List.mem_cons_self, pure_bind]
    exact ih _ fun y hy => h y (List.mem_cons_of_mem _ hy)
theorem zJQ {scope : Scope} {env : Env} (h : ∀ y ∈ scope.names, y.2 = .free → ∃ c, env.cells.lookup y.1 = some c) : closureFor scope env = pure (zBZ env scope.names []) := by
  unfold closureFor zBZ
  dsimp only
  rw [zTQ (g := fun c y => if y.2 == .free then (y.1, (env.cells.lookup y.1).getD 0) :: c else c) [] ?_]
  · rfl
  · intro y hy c
    obtain ⟨n, k⟩ := y
    by_cases hk : k = .free
    · subst hk
      obtain ⟨a, ha⟩ := h _ hy rfl
      have ha' : env.cells.lookup n = some a := ha
      simp [cellOf, ha']
    · have e : (k == NameKind.free) = false := by simpa using hk
      simp [e]
theorem zNQ {env : Env} : ∀ (l : List (Str × NameKind)) (cs : List (Str × Addr)), (∀ y ∈ l, y.2 = .free → ∃ c, env.cells.lookup y.1 = some c) → (∀ p ∈ cs, env.cells.lookup p.1 = some p.2) →
    ∀ p ∈ zBZ env l cs, env.cells.lookup p.1 = some p.2
  | [], _, _, h => h
  | (n, k) :: l, cs, hl, h => by
    refine zNQ l _ (fun y hy => hl y (List.mem_cons_of_mem _ hy)) fun p hp => ?_
    by_cases hk : k = .free
    · subst hk
      obtain ⟨c, hc⟩ := hl _ List.mem_cons_self rfl
      have hc' : env.cells.lookup n = some c := hc
      have hp' : p ∈ (n, (env.cells.lookup n).getD 0) :: cs := hp
      rcases List.mem_cons.mp hp' with rfl | hp
      · show env.cells.lookup n = some ((env.cells.lookup n).getD 0)
        rw [hc']; rfl
      · exact h p hp
    · have hp' : p ∈ (if (k == NameKind.free) = true then (n, (env.cells.lookup n).getD 0) :: cs else cs) := hp
      rw [if_neg (by simpa using hk)] at hp'
      exact h p hp'
theorem zPB {env : Env} : ∀ (l : List (Str × NameKind)) (cs : List (Str × Addr)) (p : Str × Addr), p ∈ cs → p ∈ zBZ env l cs
  | [], _, _, h => h
  | (n, k) :: l, cs, p, h => by
    refine zPB l _ p ?_
    show p ∈ (if (k == .free) = true then (n, (env.cells.lookup n).getD 0) :: cs else cs)
    split
    · exact List.mem_cons_of_mem _ h
    · exact h
theorem zHD {env : Env} : ∀ (l : List (Str × NameKind)) (cs : List (Str × Addr)) (n : Str), (n, NameKind.free) ∈ l → ∃ c, (n, c) ∈ zBZ env l cs
  | [], _, _, h => nomatch h
  | (m, k) :: l, cs, n, h => by
    rcases List.mem_cons.mp h with e | h
    · have e1 : n = m := congrArg Prod.fst e
      have e2 : NameKind.free = k := congrArg Prod.snd e
      subst e1 e2
      exact ⟨(env.cells.lookup n).getD 0, zPB l _ _ List.mem_cons_self⟩
    · exact zHD l _ n h
theorem zCN {β : Type} : ∀ {l : List (Str × β)} {n : Str}, (∃ c, (n, c) ∈ l) → ∃ c, l.lookup n = some c
  | [], _, h => let ⟨_, z⟩ := h; nomatch z
  | (m, b) :: l, n, h => by
    by_cases e : n = m
    · subst e
      exact ⟨b, by simp [List.lookup_cons]⟩
    · obtain ⟨c, hc⟩ := h
      rcases List.mem_cons.mp hc with z | z
      · cases z; exact absurd rfl e
      · obtain ⟨c', h'⟩ := zCN ⟨c, z⟩
        refine ⟨c', ?_⟩
        have e' : (n == m) = false := by simpa using e
        simp [List.lookup_cons, e', h']
noncomputable def zRI (scope osc : Scope) : List (Str × NameKind) := scope.names.map fun (n, k) => if (k == .free && osc.kind == .function && osc.names.lookup n == some .cell) then (n, .cell) else (n, k)
noncomputable def zPC (osc : Scope) (N : List Str) (sc : Scope) (idx : List Nat) : Bool :=
  decide (sc.kind = .function) && sc.names.all (fun y => decide (y.2 ≠ .cell)) && sc.names.all (fun y => decide (y.2 ≠ .local) || decide (sc.names.lookup y.1 = some .local)) &&
  sc.names.all (fun y => decide (y.2 ≠ .free) || decide (osc.names.lookup y.1 = some .cell) || decide (osc.names.lookup y.1 = some .free)) &&
  idx.all (fun i => match N[i]? with
    | some y => (decide (osc.names.lookup y = some .cell) || decide (osc.names.lookup y = some .free)) && (decide ((zRI sc osc).lookup y = some .cell) || decide ((zRI sc osc).lookup y = some .free))
    | none => false)
noncomputable def zHE (σ : St) (idx : List Nat) : St := idx.map fun i => (σ[i]?).join
theorem zCA (σ : St) (idx : List Nat) : (zHE σ idx).length = idx.length := by unfold zHE; rw [List.length_map]
noncomputable def yH (X : Cx) (sc : Scope) (T : List Str) (idx : List Nat) (C : Addr) (s₂ : Shared) (H1 : Hp) (fp : List Addr) : Cx where
  prog := X.prog
  w := X.w
  K := X.K
  mg := X.mg
  base := X.base
  A := X.A
  N := T ++ idx.map fun i => (X.N[i]?).getD Str.empty
  s₀ := s₂
  H₀ := H1
  env := compEnvC sc (zBZ X.env sc.names []) C X.env
  outer := X.stack
  stack := X.stack
  ex := fp
  fn := fun _ => false
  calm := X.calm
  pn := []
  xe := fun _ _ => False
noncomputable def yEO (wi : TI) (g : TG) (tc : Addr → Shared → Hp → List Addr → TT) (te : Addr → Shared → Hp → List Addr → TE) (nt : Nat) (idx : List Nat) : TE := fun σ H Q => wi σ H fun J H1 => ∃ W : Nat → Nat → List V → Hp → Prop, (∃ m, W 0 m [] H1) ∧ ∀ i m ys H2, W i m ys H2 → ys.length ≤ sizeLine ∧
  ((J.stop i H2 ∧ ∀ D, H2 D = none → Q (.ref D) (upd H2 D (.lst ys))) ∨
   (J.go i H2 ∧ ys.length < sizeLine ∧ ∀ x H3, J.yld i H2 x H3 → ∀ τ : St, τ.length = nt → g x (τ ++ zHE σ idx) H3 fun σ4 H4 => (∃ τ', σ4 = τ' ++ zHE σ idx ∧ τ'.length = nt) ∧
     ∀ C s₂ fp, tc C s₂ H1 fp σ4 H4 fun b H5 => if b = true then te C s₂ H1 fp σ4 H5 fun y H6 => ∃ m', m' < m ∧ W (i + 1) m' (ys ++ [y]) H6 else ∃ m', m' < m ∧ W (i + 1) m' ys H5))
section
variable {prog : Program} {w : World} {A : Around} {R : Result → Shared → Prop} {s : Shared}
theorem zLG {elt target iter : Expr} {ifs : List Expr} {scope : Scope} {pos : Pos} {it acc : Value} {env : Env} (I : Nat → Shared → Prop)
    (turn : ∀ n s, I n s → wpAny (model prog w) A (pyNext it) (fun r s₁ => match r with
      | none => R (.ok .next) s₁
      | some v => wpAny (model prog w) A (letOwnedTupleGo target it v) (fun _ s₁' => wpAny (model prog w) A (assign target env v) (fun _ s₂ =>
          wpAny (model prog w) A (forIn ifs true fun c r => if r = true then do let ok ← isTrue c env (eval c env); pure (ForInStep.yield ok) else pure (ForInStep.yield r)) (fun ok s₃ =>
            if ok = true then wpAny (model prog w) A (eval elt env) (fun x s₄ =>
              wpAny (model prog w) A (call (.builtin "list.append") [acc, x]) (fun _ s₅ => ∃ m, m < n ∧ I m s₅) (fun _ _ => False) s₄) (fun _ _ => False) s₃
            else ∃ m, m < n ∧ I m s₃) (fun _ _ => False) s₂) (fun _ _ => False) s₁') (fun _ _ => False) s₁) (fun _ _ => False) s)
    (n : Nat) (h : I n s) : codeAny (model prog w) A (.compLoop (.ListComp elt [⟨target, iter, ifs, 0⟩] scope pos) 0 it acc env) R s := by
  refine codeAny_loop rfl I (fun n s hI => ?_) n h
  show wpAny _ A ((compTurn (.ListComp elt [⟨target, iter, ifs, 0⟩] scope pos) 0 it acc env).onRaise (fun x => do noteFrame x env; theTreesLotGoes x)) _ _ s
  refine wpAny_noted ?_
  rw [compTurn_list]
  have no : ∀ {E' : Value → Shared → Prop} (v : Value) (s' : Shared), False → E' v s' := fun _ _ z => z.elim
  refine wpAny_bind (wpAny_standAt (wpAny_bind (wpAny_mono (turn n s hI) (fun r s₁ h₁ => ?_) (no))))
  cases r with
  | none => exact wpAny_pure h₁
  | some v =>
    refine wpAny_bind (wpAny_mono h₁ (fun _ s₁' h₁' => wpAny_bind (wpAny_mono h₁' (fun _ s₂ h₂ => wpAny_bind (wpAny_mono h₂ (fun ok s₃ h₃ => ?_) no)) no)) no)
    cases ok with
    | false => exact wpAny_pure ⟨rfl, h₃⟩
    | true =>
      exact wpAny_bind (wpAny_bind (wpAny_mono h₃ (fun x s₄ h₄ => wpAny_bind (wpAny_mono h₄ (fun _ s₅ h₅ => wpAny_pure (wpAny_pure ⟨rfl, h₅⟩)) no)) no))
end
noncomputable def yEP (X : Cx) (ifs : List Expr) (t : TT) : Prop :=
  ∀ (pins : List (Addr × Obj)) (s : Shared) (σ : St) (H : Hp) (Q : Bool → Hp → Prop), Inv X pins σ H s → t σ H Q →
    wpAny (model X.prog X.w) X.A (forIn ifs true fun c r => if r = true then do let ok ← isTrue c X.env (eval c X.env); pure (ForInStep.yield ok) else pure (ForInStep.yield r)) (TP X pins σ Q) X.xe s
noncomputable def tNoIf : TT := fun _ H Q => Q true H
theorem yEQ {X : Cx} : yEP X [] tNoIf := fun _ _ _ H _ I h => wpAny_tests_nil ⟨H, I, h⟩
end L2
namespace L2
open PySem PySem.Spec PyProof.Rows
structure CompF (osc : Scope) (N : List Str) (sc : Scope) (idx : List Nat) : Prop where
  kind : sc.kind = .function
  nocell : ∀ y ∈ sc.names, y.2 ≠ .cell
  locs : ∀ y ∈ sc.names, y.2 = .local → sc.names.lookup y.1 = some .local
  frees : ∀ y ∈ sc.names, y.2 = .free → osc.names.lookup y.1 = some .cell ∨ osc.names.lookup y.1 = some .free
  cap : ∀ i ∈ idx, ∃ y, N[i]? = some y ∧ (osc.names.lookup y = some .cell ∨ osc.names.lookup y = some .free) ∧ ((zRI sc osc).lookup y = some .cell ∨ (zRI sc osc).lookup y = some .free)
theorem yAQ {osc : Scope} {N : List Str} {sc : Scope} {idx : List Nat} (h : zPC osc N sc idx = true) : CompF osc N sc idx := by
  unfold zPC at h
  simp only [Bool.and_eq_true, List.all_eq_true, decide_eq_true_eq, Bool.or_eq_true] at h
  obtain ⟨⟨⟨⟨h1, h2⟩, h3⟩, h4⟩, h5⟩ := h
  refine ⟨h1, fun y hy => h2 y hy, fun y hy e => ?_, fun y hy e => ?_, fun i hi => ?_⟩
  · rcases h3 y hy with z | z
    · exact absurd e z
    · exact z
  · rcases h4 y hy with (z | z) | z
    · exact absurd e z
    · exact .inl z
    · exact .inr z
  · have q := h5 i hi
    cases e : N[i]? with
    | none => rw [e] at q; cases q
    | some y =>
      rw [e] at q
      simp only [Bool.and_eq_true, decide_eq_true_eq, Bool.or_eq_true] at q
      exact ⟨y, rfl, q.1, q.2⟩
theorem zSN {sc osc : Scope} {x : Str} (hno : ∀ y ∈ sc.names, y.2 ≠ .cell) (h : (zRI sc osc).lookup x = some .cell ∨ (zRI sc osc).lookup x = some .free) : (x, NameKind.free) ∈ sc.names := by
  have key : ∀ k', (k' = .cell ∨ k' = .free) → (x, k') ∈ zRI sc osc → (x, NameKind.free) ∈ sc.names := by
    intro k' hk' hm
    unfold zRI at hm
    obtain ⟨⟨n, k⟩, hy, e⟩ := List.mem_map.mp hm
    dsimp only at e
    split at e
    · rename_i hc
      cases e
      rw [Bool.and_eq_true, Bool.and_eq_true] at hc
      have : k = .free := by simpa using hc.1.1
      subst this
      exact hy
    · cases e
      rcases hk' with rfl | rfl
      · exact absurd rfl (hno _ hy)
      · exact hy
  rcases h with h | h
  · exact key _ (.inl rfl) (PySem.mem_of_lookup h)
  · exact key _ (.inr rfl) (PySem.mem_of_lookup h)
section
variable {X : Cx} {pins : List (Addr × Obj)} {σ : St} {H1 : Hp} {s₂ : Shared} {sc : Scope} {T : List Str} {idx : List Nat} {C : Addr} {fp : List Addr}
theorem zPD (I : Inv X pins σ H1 s₂) (F : CompF X.env.scope X.N sc idx) : ∀ y ∈ sc.names, y.2 = .free → ∃ c, X.env.cells.lookup y.1 = some c :=
  fun y hy e => I.ok.has y.1 (F.frees y hy e)
theorem kW (I : Inv X pins σ H1 s₂) (F : CompF X.env.scope X.N sc idx) {x : Str} {c : Addr} (e : (zBZ X.env sc.names []).lookup x = some c) : X.env.cells.lookup x = some c :=
  zNQ sc.names [] (zPD I F) (fun _ z => nomatch z) (x, c) (PySem.mem_of_lookup e)
theorem yHX (I : Inv X pins σ H1 s₂) (F : CompF X.env.scope X.N sc idx) {x : Str} {c : Addr} (hx : (x, NameKind.free) ∈ sc.names) (e : X.env.cells.lookup x = some c) : (zBZ X.env sc.names []).lookup x = some c := by
  obtain ⟨c', h'⟩ := zCN (zHD (env := X.env) sc.names [] x hx)
  rw [h']
  rw [kW I F h'] at e
  exact e
theorem yCI (I : Inv X pins σ H1 s₂) (F : CompF X.env.scope X.N sc idx) (hC : s₂.heap.objs.size ≤ C) (hfp : ∀ b ∈ fp, zKF X pins H1 b) (hlt : ∀ b ∈ fp, b < s₂.heap.objs.size) : (yH X sc T idx C s₂ H1 fp).Ok where
  mod := I.ok.mod
  kind := F.kind
  glob := I.ok.glob
  blt := I.ok.blt
  above := hC
  inj := fun x y c h1 h2 => I.ok.inj x y c (kW I F h1) (kW I F h2)
  has := fun x hx => by
    have hx' : (zRI sc X.env.scope).lookup x = some .cell ∨ (zRI sc X.env.scope).lookup x = some .free := hx
    exact zCN (zHD sc.names [] x (zSN F.nocell hx'))
  cab := fun x c h _ => nomatch h
  hd := I.ok.hd
  frames := I.ok.frames
  stk := .inl rfl
  exf := fun b hb => ⟨Nat.ne_of_lt (Nat.lt_of_lt_of_le (hlt b hb) hC), fun x c e => (hfp b hb).2.2.2.2.1 x c (kW I F e)⟩
  bs := I.bs
  bsz := Nat.le_trans I.ok.bsz I.sz
  noex := fun b o e hb => by
    rcases (hfp b hb).2.2.2.1 with z | z
    · exact I.ok.noex b o e z
    · exact absurd (Nat.lt_of_lt_of_le (Heap.lt_size e) (Nat.le_trans I.ok.bsz z)) (Nat.lt_irrefl _)
  exfs := fun b hb z => by
    rcases List.mem_cons.mp (I.stkSub b z) with e | e
    · exact (hfp b hb).2.1 e
    · exact (hfp b hb).2.2.1 e
  funs := I.stack
  frf := I.stkFree
theorem zPE {s₄ : Shared} {m : Str → Option Value} (I : Inv X pins σ H1 s₂) (F : CompF X.env.scope X.N sc idx) (hC : s₂.heap.objs.size ≤ C) (hfp : ∀ b ∈ fp, zKF X pins H1 b) (hlt : ∀ b ∈ fp, b < s₂.heap.objs.size)
    (kp : ∀ b o, s₂.heap.get? b = some o → s₄.heap.get? b = some o) (ho : s₄.os = s₂.os) (hg : s₄.gens = s₂.gens) (hn : s₄.heap.Ns C m) :
    Inv (yH X sc T idx C s₂ H1 fp) [] (T.map (fun _ => none) ++ zHE σ idx) H1 s₄ := by
  have cellK : ∀ c v, s₂.heap.IsCell c v → s₄.heap.IsCell c v := fun c v ⟨o, h1, h2⟩ => ⟨o, kp c o h1, h2⟩
  refine ⟨yCI I F hC hfp hlt, ho, by rw [hg]; exact I.bare, Un.kept kp, ⟨m, hn, fun i x v e1 e2 e3 => ?_⟩, fun x c e => ?_, I.hok.fresh hC, fun x c e => I.freeC x c (kW I F e), fun p hp => absurd (show p ∈ ([] : List (Addr × Obj)) from hp) (by simp), I.hok.kept kp, ?_⟩
  · have e1' : (T ++ idx.map fun i => (X.N[i]?).getD Str.empty)[i]? = some x := e1
    by_cases hi : i < T.length
    · rw [List.getElem?_append_left (by simpa using hi), List.getElem?_map] at e2
      cases z : T[i]? with
      | none => rw [z] at e2; cases e2
      | some y => rw [z] at e2; cases e2
    · rw [List.getElem?_append_right (by simpa using hi)] at e2
      rw [List.getElem?_append_right (by (first | lia | omega))] at e1'
      rw [List.length_map] at e2
      unfold zHE at e2
      rw [List.getElem?_map] at e1' e2
      cases z : idx[i - T.length]? with
      | none => rw [z] at e2; cases e2
      | some j =>
        rw [z] at e1' e2
        have hj : j ∈ idx := List.mem_of_getElem? z
        obtain ⟨y, hy, k1, k2⟩ := F.cap j hj
        have ex : y = x := by
          have q : (X.N[j]?).getD Str.empty = x := Option.some.inj e1'
          rw [hy] at q; exact q
        subst ex
        have ev : σ[j]? = some (some v) := by
          have q : (σ[j]?).join = some v := Option.some.inj e2
          cases w' : σ[j]? with
          | none => rw [w'] at q; cases q
          | some a => rw [w'] at q; have q' : a = some v := q; rw [q']
        obtain ⟨m0, hn0, hl0⟩ := I.loc
        have vis : Vis X.env.scope y := k1.elim (fun z => .inr (.inl z)) fun z => .inr (.inr z)
        obtain ⟨u, r, l⟩ := hl0 j y v hy ev vis
        refine ⟨u, r, ?_⟩
        rcases l with ⟨kl, _⟩ | ⟨_, c, hc, q⟩
        · have kl' : X.env.scope.names.lookup y = some .local := kl
          rcases k1 with z | z <;> rw [z] at kl' <;> cases kl'
        · exact .inr ⟨k2, c, yHX I F (zSN F.nocell k2) hc, cellK c _ q⟩
  · obtain ⟨v, q⟩ := I.cell x c (kW I F e)
    exact ⟨v, cellK c v q⟩
  · show (T.map (fun _ => (none : Option V)) ++ zHE σ idx).length = (T ++ idx.map fun i => (X.N[i]?).getD Str.empty).length
    rw [List.length_append, List.length_append, List.length_map, List.length_map, zCA]
theorem zPF {σ1 : St} {H' : Hp} {s' : Shared} {h' : Heap} {D : Addr} {ys : List V} {its : List Value} {n : Nat} (I : Inv X pins σ H1 s₂) (hC : s₂.heap.objs.size ≤ C) (hfp : ∀ b ∈ fp, zKF X pins H1 b)
    (J : Inv (yH X sc T idx C s₂ H1 fp) [] σ1 H' s') (hs : Heap.SameBut C s'.heap h') (hD : s₂.heap.objs.size ≤ D) (hDC : D ≠ C) (eD : s'.heap.get? D = some { cls := .type "list", data := .seq its.toArray n }) (nD : H' D = none) (r : Vals ys its) (hz : ys.length ≤ sizeLine) :
    Inv X pins σ (upd H' D (.lst ys)) { s' with heap := h' } := by
  have old : ∀ b o, s₂.heap.get? b = some o → b ≠ C ∧ b ≠ D := fun b o e => ⟨Nat.ne_of_lt (Nat.lt_of_lt_of_le (Heap.lt_size e) hC), Nat.ne_of_lt (Nat.lt_of_lt_of_le (Heap.lt_size e) hD)⟩
  have oldH : ∀ b u, H1 b = some u → b ≠ D := fun b u e => Nat.ne_of_lt (Nat.lt_of_lt_of_le (I.hok.lt e) hD)
  have nC : H' C = none := J.free
  have B : Un (frs X.stack) fp H1 H' s₂.heap s'.heap := J.base
  have mv : ∀ b o, b ≠ C → s'.heap.get? b = some o → h'.get? b = some o := fun b o hb e => (hs.2 b hb).trans e
  refine I.call' (s' := { s' with heap := h' }) (ch := fp) J.os ⟨fun b o e q hb hx => ?_, fun b o e q hb hx => ?_, fun b o e q hx => ?_, fun b o e hx => ?_, fun b xs e => ?_, fun b o u e => ?_, fun b ps e => ?_⟩ ?_ J.bare fun b hb => ⟨(hfp b hb).2.2.2.1, (hfp b hb).2.1, (hfp b hb).2.2.2.2.1, (hfp b hb).2.2.2.2.2⟩
  · exact mv b o (old b o e).1 (B.keep b o e q hb hx)
  · obtain ⟨sl, z⟩ := B.slot b o e q hb hx
    exact ⟨sl, mv b _ (old b o e).1 z⟩
  · rw [yW (old b o e).2]; exact B.free b o e q hx
  · obtain ⟨o', z⟩ := B.there b o e hx
    exact ⟨o', mv b o' (old b o e).1 z⟩
  · rw [yW (oldH b _ e)]; exact B.tups b xs e
  · rw [yW (oldH b _ e)]; exact B.frzs b o u e
  · obtain ⟨more, z⟩ := B.tbls b ps e
    exact ⟨more, by rw [yW (oldH b _ e)]; exact z⟩
  · intro b u e
    by_cases hb : b = D
    · subst hb
      rw [kP] at e; cases e
      exact ⟨hz, its, n, r, mv b _ hDC eD⟩
    · rw [yW hb] at e
      refine (J.hok b u e).stay (fun c v hc q => mv c v ?_ q) (fun c q => by rw [yW (xO q nD)]; exact q) fun c xs q => by rw [yW (xO q nD)]; exact q
      rcases hc with z | z
      · rw [z]; exact xO e nC
      · exact xO z nC
end
end L2
namespace L2
open PySem PySem.Spec PyProof.Rows
section
variable {X : Cx}
theorem yHY {elt tg iter : Expr} {ifs : List Expr} {pos : Pos} {sc : Scope} {wi : TI} {g : TG} {tc : Addr → Shared → Hp → List Addr → TT} {te : Addr → Shared → Hp → List Addr → TE} (T : List Str) (idx : List Nat)
    (hi : PI X tg iter wi) (hcalm : X.calm = true) (hB : zPC X.env.scope X.N sc idx = true)
    (hg : ∀ C s₂ H1 fp, PG (yH X sc T idx C s₂ H1 fp) tg g)
    (hc : ∀ C s₂ H1 fp, yEP (yH X sc T idx C s₂ H1 fp) ifs (tc C s₂ H1 fp))
    (he : ∀ C s₂ H1 fp, PE (yH X sc T idx C s₂ H1 fp) elt (te C s₂ H1 fp))
    (hs : ∀ x, foldedSetIterable iter X.env x = pure x := by intro _; rfl) :
    PE X (.ListComp elt [⟨tg, iter, ifs, 0⟩] sc pos) (yEO wi g tc te T.length idx) := by
  intro pins s σ H Q I h
  rw [eval_ListComp]
  have cf := yAQ hB
  refine wpAny_comprehension_free (use := none) (cl := zBZ X.env sc.names []) rfl hs (zJQ (zPD I cf)) cf.kind cf.locs ?_
  refine thn (hi pins s σ H _ I h) fun v s1 h1 => thn h1 fun itv s2 h2 => ?_
  obtain ⟨it, fp, tn, J, H2, e, I2, Tn, st2, f2, W, ⟨m0, w0⟩, turn⟩ := h2
  subst e
  have hlt : ∀ b ∈ fp, b < s2.heap.objs.size := fun b hb => let ⟨o, e, _⟩ := Tn.obj _ _ st2 b hb; Heap.lt_size e
  refine wpAny_newObj_type (wpAny_newFunctionEnv cf.nocell (by intro y hy; simp at hy) (fun h₁ hns₁ hsb₁ => ?_) cf.kind)
  dsimp only at hns₁ hsb₁ ⊢
  generalize hH2 : s2.heap.push { cls := .type "list", dict := none, data := .seq ([] : List Value).toArray } = HH at hns₁ hsb₁ ⊢
  have hC : HH.objs.size = s2.heap.objs.size + 1 := by rw [← hH2, Heap.size_push]
  have hDC : s2.heap.objs.size ≠ HH.objs.size := by rw [hC]; exact Nat.ne_of_lt (Nat.lt_succ_self _)
  have hCle : s2.heap.objs.size ≤ HH.objs.size := by rw [hC]; exact Nat.le_succ _
  have old : ∀ b o, s2.heap.get? b = some o → h₁.get? b = some o := fun b o e => hsb₁.extBut b o (by rw [hC]; exact Nat.ne_of_lt (Nat.lt_succ_of_lt (Heap.lt_size e))) (Heap.get?_push_of_some _ (hH2 ▸ Heap.get?_push_of_some _ e))
  have eD0 : h₁.get? s2.heap.objs.size = some { cls := .type "list", data := .seq ([] : List Value).toArray 0 } := hsb₁.extBut _ _ hDC (Heap.get?_push_of_some _ (hH2 ▸ Heap.get?_push_size _ rfl))
  have nD0 : H2 s2.heap.objs.size = none := I2.hok.fresh (Nat.le_refl _)
  have cD : ∀ x c, (zBZ X.env sc.names []).lookup x = some c → c ≠ s2.heap.objs.size := fun x c e => by
    obtain ⟨v, q⟩ := I2.cell x c (kW I2 cf e)
    exact Nat.ne_of_lt q.lt
  have loop : ∀ s4 : Shared, s4 = { s2 with heap := h₁, toks := s2.toks + ([] : List (Str × Value)).length } →
      codeAny (model X.prog X.w) X.A (.compLoop (.ListComp elt [⟨tg, iter, ifs, 0⟩] sc pos) 0 (.ref it) (.ref s2.heap.objs.size) (compEnvC sc (zBZ X.env sc.names []) HH.objs.size X.env))
        (compPost (model X.prog X.w) X.A X.xe none (EP X pins σ Q) (.ref s2.heap.objs.size) HH.objs.size) s4 := by
    rintro s4 rfl
    have J0 : Inv (yH X sc T idx HH.objs.size s2 H2 fp) [] (T.map (fun _ => none) ++ zHE σ idx) H2 { s2 with heap := h₁, toks := s2.toks + ([] : List (Str × Value)).length } :=
      zPE I2 cf hCle f2 hlt old rfl rfl hns₁
    refine zLG (fun k s' => ∃ (i : Nat) (ys : List V) (its : List Value) (n : Nat) (H' : Hp) (τ : St), Inv (yH X sc T idx HH.objs.size s2 H2 fp) [] (τ ++ zHE σ idx) H' s' ∧ τ.length = T.length ∧ tn i s'.heap ∧ (∀ b ∈ fp, H' b = none) ∧
      s'.heap.get? s2.heap.objs.size = some { cls := .type "list", data := .seq its.toArray n } ∧ H' s2.heap.objs.size = none ∧ Vals ys its ∧ W i k ys H') ?_ m0
      ⟨0, [], [], 0, H2, T.map (fun _ => none), J0, by rw [List.length_map], Tn.keep _ _ _ st2 fun b _ o e => old b o e, fun b hb => (f2 b hb).1, eD0, nD0, .nil, w0⟩
    rintro k s3 ⟨i, ys, its, n, H3, τ, I3, hτ, st3, fr3, eD3, nD3, r3, w3⟩
    obtain ⟨hz, alt⟩ := turn i k ys H3 w3
    have hDfs : s2.heap.objs.size ∉ (yH X sc T idx HH.objs.size s2 H2 fp).fs := fun z => by
      obtain ⟨_, o, ho, _⟩ := I2.stack.mem (show s2.heap.objs.size ∈ frs X.stack from z)
      exact absurd (Heap.lt_size ho) (Nat.lt_irrefl _)
    have pinD : ∀ {H' : Hp} {s' : Shared}, s'.heap.get? s2.heap.objs.size = some { cls := .type "list", data := .seq its.toArray n } → H' s2.heap.objs.size = none →
        ∀ p ∈ [(s2.heap.objs.size, ({ cls := .type "list", data := .seq its.toArray n } : Obj))], s'.heap.get? p.1 = some p.2 ∧ H' p.1 = none ∧ p.1 ≠ (yH X sc T idx HH.objs.size s2 H2 fp).env.locals ∧ p.1 ∉ (yH X sc T idx HH.objs.size s2 H2 fp).fs ∧ ∀ v, p.2.data ≠ .cell v :=
      fun {H' s'} e1 e2 p hp => by
        have ep : p = (s2.heap.objs.size, { cls := .type "list", data := .seq its.toArray n }) := by simpa using hp
        subst ep
        exact ⟨e1, e2, hDC, hDfs, fun v z => by cases z⟩
    have P3 : Inv (yH X sc T idx HH.objs.size s2 H2 fp) [(s2.heap.objs.size, { cls := .type "list", data := .seq its.toArray n })] (τ ++ zHE σ idx) H3 s3 := I3.pins_of (pinD eD3 nD3)
    have stat : ∀ {H' : Hp}, (∀ b ∈ fp, H' b = none) → ∀ b ∈ fp, zKF (yH X sc T idx HH.objs.size s2 H2 fp) [(s2.heap.objs.size, { cls := .type "list", data := .seq its.toArray n })] H' b := fun {H'} hn b hb => by
      have hb2 := hlt b hb
      refine ⟨hn b hb, Nat.ne_of_lt (Nat.lt_of_lt_of_le hb2 hCle), I3.ok.exfs b hb, .inl hb, fun x c e => (f2 b hb).2.2.2.2.1 x c (kW I2 cf e), fun p hp => ?_⟩
      have ep : p = (s2.heap.objs.size, ({ cls := .type "list", data := .seq its.toArray n } : Obj)) := by simpa [yH] using hp
      subst ep
      exact Nat.ne_of_gt hb2
    rcases alt with ⟨stop, q⟩ | ⟨go, hl2, step⟩
    · refine thn (Tn.done (yH X sc T idx HH.objs.size s2 H2 fp) rfl rfl rfl hcalm i _ s3 _ H3 (fun _ _ => False) P3 (stat fr3) st3 stop) fun r s4 ⟨hr, I4⟩ => ?_
      subst hr
      obtain ⟨m, hn, _⟩ := id I4.loc
      refine ⟨m, hn, fun h' hs' => ?_⟩
      have eD4 := (I4.pin (s2.heap.objs.size, { cls := .type "list", data := .seq its.toArray n }) (by simp)).1
      exact ⟨.ref s2.heap.objs.size, _, zPF I2 hCle f2 (I4.pins_of (fun p hp => nomatch hp)) hs' (Nat.le_refl _) hDC eD4 nD3 r3 hz, rfl, q _ nD3⟩
    · refine thn (Tn.item (yH X sc T idx HH.objs.size s2 H2 fp) rfl rfl rfl hcalm i _ s3 _ H3 (fun _ _ => False) P3 (stat fr3) st3 go) fun r s4 ⟨u, hr, h4⟩ => ?_
      subst hr
      refine thn h4 fun _ s5 ⟨x, H5, I5, r5, y5, st5, fr5⟩ => ?_
      have I5' := I5.pinned (stat fr5) (Tn.obj _ _ st5)
      refine thn (hg HH.objs.size s2 H2 fp _ s5 _ H5 x u _ I5' r5 (step x H5 y5 τ hτ)) fun _ s6 ⟨σ6, H6, I6, ⟨τ', e6, l6⟩, q6⟩ => ?_
      subst e6
      refine thn (hc HH.objs.size s2 H2 fp _ s6 _ H6 _ I6 (q6 HH.objs.size s2 fp)) fun ok s7 ⟨H7, I7, q7⟩ => ?_
      have mD : (s2.heap.objs.size, ({ cls := .type "list", data := .seq its.toArray n } : Obj)) ∈ (yH X sc T idx HH.objs.size s2 H2 fp).pn ++ ([(s2.heap.objs.size, { cls := .type "list", data := .seq its.toArray n })] ++ zHC fp s5.heap) :=
        List.mem_append_right _ (List.mem_append_left _ (by simp))
      have mF : ∀ b ∈ fp, ∀ o, s5.heap.get? b = some o → (b, o) ∈ (yH X sc T idx HH.objs.size s2 H2 fp).pn ++ ([(s2.heap.objs.size, { cls := .type "list", data := .seq its.toArray n })] ++ zHC fp s5.heap) := fun b hb o e =>
        List.mem_append_right _ (List.mem_append_right _ (zEL hb e))
      cases ok with
      | false =>
        rw [if_neg Bool.false_ne_true] at q7 ⊢
        obtain ⟨m', hm', w7⟩ := q7
        refine ⟨m', hm', i + 1, ys, its, n, H7, τ', I7.pins_of (fun p hp => nomatch hp), l6, Tn.keep _ _ _ st5 fun b hb o e => (I7.pin _ (mF b hb o e)).1, fun b hb => ?_, (I7.pin _ mD).1, (I7.pin _ mD).2.1, r3, w7⟩
        obtain ⟨o, e, d⟩ := Tn.obj _ _ st5 b hb
        exact (I7.pin _ (mF b hb o e)).2.1
      | true =>
        rw [if_pos rfl] at q7 ⊢
        refine thn (he HH.objs.size s2 H2 fp _ s7 _ H7 _ I7 q7) fun y s8 ⟨yv, H8, I8, r8, m', hm', w8⟩ => ?_
        have eD8 := (I8.pin _ mD).1
        have nD8 := (I8.pin _ mD).2.1
        have hl := r3.length
        have q := PySem.IsL.update eD8 (fun z => z.push y)
        rw [show its.toArray.push y = (its ++ [y]).toArray by simp] at q
        refine call_meets PySem.F.slot_list_append ⟨_, eD8, rfl⟩ PySem.F.entry_list_append (PySem.F.args_list_append_2 _ _) (PySem.list_append s2.heap.objs.size its.toArray n y (by rw [List.size_toArray]; (first | lia | omega))) ⟨eD8, ?_⟩
        have I9 : Inv (yH X sc T idx HH.objs.size s2 H2 fp) [] (τ' ++ zHE σ idx) H8 s8 := I8.pins_of (fun p hp => nomatch hp)
        have up : ∀ b o, b ≠ s2.heap.objs.size → s8.heap.get? b = some o → (s8.heap.update s2.heap.objs.size (Obj.mapSeq fun z => z.push y)).get? b = some o := fun b o hb e => (Heap.get?_update_other s8.heap _ (Ne.symm hb)).trans e
        refine ⟨m', hm', i + 1, ys ++ [yv], its ++ [y], _, H8, τ', I9.turned (t' := s8.toks) up nD8 hDC (.inr (Nat.le_refl _)) cD (fun p hp => nomatch hp), l6, ?_, fun b hb => ?_, q, nD8, r3.append (.cons r8 .nil), w8⟩
        · exact Tn.keep _ _ _ st5 fun b hb o e => up b o (Nat.ne_of_lt (hlt b hb)) (I8.pin _ (mF b hb o e)).1
        · obtain ⟨o, e, d⟩ := Tn.obj _ _ st5 b hb
          exact (I8.pin _ (mF b hb o e)).2.1
  exact codeAny_compStart_list (loop _ rfl) (Tn.self X.A 0 _ _ _ (Tn.keep _ _ _ st2 fun b _ o e => old b o e) (loop _ rfl))
end
end L2
namespace L2
open PySem PySem.Spec PyProof.Rows
noncomputable def mkS (x : List Nat) : Str := ⟨x.toArray⟩
theorem gE (x : List Nat) : (mkS x).length = x.length := by simp [mkS, Str.length]
theorem zEM (x : List Nat) : (mkS x).cps.toList = x := by simp [mkS]
theorem zTR {x y : List Nat} (h : mkS x = mkS y) : x = y := by
  have := congrArg (fun s => s.cps.toList) h
  simpa [mkS] using this
theorem yHZ (x y : List Nat) : mkS x ++ mkS y = mkS (x ++ y) := by
  show Str.append (mkS x) (mkS y) = _
  simp [Str.append, mkS]
theorem yIA (c : Nat) : (⟨#[c]⟩ : Str) = mkS [c] := rfl
noncomputable def nB {α : Type} (xs : List α) (lo hi : Option Int) : List α := (xs.drop (HT.sIx xs.length 0 lo)).take (HT.sIx xs.length xs.length hi - HT.sIx xs.length 0 lo)
theorem strIdx (lo hi : Option Int) (n : Nat) : Builtin.Str.strSliceIndices lo hi 1 n = (List.range (HT.sIx n n hi - HT.sIx n 0 lo)).map (HT.sIx n 0 lo + ·) := by
  have e1 : (match lo with | none => (if (1 : Int) > 0 then (0 : Int) else (n : Int) - 1) | some i => if (1 : Int) > 0 then max 0 (min (if i < 0 then i + (n : Int) else i) (n : Int)) else max (-1) (min (if i < 0 then i + (n : Int) else i) ((n : Int) - 1))) = ((HT.sIx n 0 lo : Nat) : Int) := by
    cases lo with
    | none => simp [HT.sIx]
    | some i =>
      simp only [HT.sIx, show (1 : Int) > 0 by decide, if_true]
      by_cases h : i < 0
      · simp only [h, if_true]; (first | lia | omega)
      · simp only [h, if_false]; (first | lia | omega)
  have e2 : (match hi with | none => (if (1 : Int) > 0 then (n : Int) else -1) | some i => if (1 : Int) > 0 then max 0 (min (if i < 0 then i + (n : Int) else i) (n : Int)) else max (-1) (min (if i < 0 then i + (n : Int) else i) ((n : Int) - 1))) = ((HT.sIx n n hi : Nat) : Int) := by
    cases hi with
    | none => simp [HT.sIx]
    | some i =>
      simp only [HT.sIx, show (1 : Int) > 0 by decide, if_true]
      by_cases h : i < 0
      · simp only [h, if_true]; (first | lia | omega)
      · simp only [h, if_false]; (first | lia | omega)
  rw [← sliceRange_one]
  unfold Builtin.Str.strSliceIndices
  dsimp only
  rw [← e1, ← e2]
  cases lo <;> cases hi <;> rfl
theorem yCJ (x : List Nat) (lo hi : Option Int) : Txt.slice (mkS x) lo hi = mkS (nB x lo hi) := by
  unfold Txt.slice
  rw [strIdx, gE]
  have hp : ((List.range (HT.sIx x.length x.length hi - HT.sIx x.length 0 lo)).map (HT.sIx x.length 0 lo + ·)).filterMap ((mkS x).cps[·]?) = nB x lo hi := by
    have := pick_run (mkS x).cps (HT.sIx x.length 0 lo) (HT.sIx x.length x.length hi - HT.sIx x.length 0 lo)
    rw [zEM] at this
    exact this
  rw [hp]
  split
  · rename_i hc
    rw [Bool.and_eq_true] at hc
    have hl : HT.sIx x.length x.length hi - HT.sIx x.length 0 lo = x.length := by simpa using hc.2
    have h2 : HT.sIx x.length x.length hi ≤ x.length := HT.sIx_le _ _ (Nat.le_refl _) _
    have h3 : HT.sIx x.length 0 lo ≤ x.length := HT.sIx_le _ _ (Nat.zero_le _) _
    have e : HT.sIx x.length 0 lo = 0 := by (first | lia | omega)
    unfold nB
    rw [hl, e]
    simp
  · rfl
section
variable {X : Cx}
noncomputable def rSlS : V → Option Int → Option Int → Hp → VK → Prop := fun x lo hi H Q => ∃ cs, x = .str (mkS cs) ∧ cs.length ≤ sizeLine ∧ Q (.str (mkS (nB cs lo hi))) H
theorem yMB : SlR X rSlS := by
  intro pins s σ H x v vl vu lo hi sl Q I rx hs pl pu h
  obtain ⟨cs, rfl, hz, q⟩ := h
  obtain ⟨t, rfl⟩ := rx
  have hl : (Txt.slice (mkS cs) lo hi).length ≤ sizeLine := Nat.le_trans (Txt.slice_le _ _ _) (by rw [gE]; exact hz)
  rw [← yCJ] at q
  refine ⟨"str", _, slot_str_getitem.lookup, typeIs_str _ _ _, ?_⟩
  obtain ⟨o, ho, hc, hd⟩ := hs
  cases pl with
  | none =>
    cases pu with
    | none => exact wpAny_getItem_str_slice (l := none) (u := none) (st := none) ⟨o, ho, hc, hd⟩ rfl (post_val_or_str ⟨hl, fun t' k => ⟨.str _, H, I.tok _, ⟨_, rfl⟩, q⟩⟩)
    | int j uj => exact wpAny_getItem_str_slice (l := none) (u := some (j, uj)) (st := none) ⟨o, ho, hc, hd⟩ rfl (post_val_or_str ⟨hl, fun t' k => ⟨.str _, H, I.tok _, ⟨_, rfl⟩, q⟩⟩)
  | int i ui =>
    cases pu with
    | none => exact wpAny_getItem_str_slice (l := some (i, ui)) (u := none) (st := none) ⟨o, ho, hc, hd⟩ rfl (post_val_or_str ⟨hl, fun t' k => ⟨.str _, H, I.tok _, ⟨_, rfl⟩, q⟩⟩)
    | int j uj => exact wpAny_getItem_str_slice (l := some (i, ui)) (u := some (j, uj)) (st := none) ⟨o, ho, hc, hd⟩ rfl (post_val_or_str ⟨hl, fun t' k => ⟨.str _, H, I.tok _, ⟨_, rfl⟩, q⟩⟩)
theorem zDX : OpR X (compareOp .LtE) (fun x y H Q => ∃ i j, x = .str i ∧ y = .str j ∧ Q (.bl (!(j.cps.toList < i.cps.toList))) H) := by
  intro pins s σ H x y v u Q I rx ry h
  obtain ⟨i, j, rfl, rfl, q⟩ := h
  obtain ⟨t, rfl⟩ := rx
  obtain ⟨t', rfl⟩ := ry
  exact PySem.P.le_str ⟨.bl _, H, I, rfl, q⟩
theorem jU : CallR X (.builtin "all") (fun xs H Q => ∃ (a : Addr) (bs : List Bool), xs = [.ref a] ∧ SqL X.K H a (bs.map V.bl) ∧ X.calm = true ∧ Q (.bl (bs.all id)) H) := by
  intro pins s σ H xs us Q I r h
  obtain ⟨a, bs, rfl, hq, hc, q⟩ := h
  obtain ⟨u, rfl, ru⟩ := vals1 r
  cases ru
  obtain ⟨its, rv, pl, hz⟩ := I.list hq
  have hlen : its.length = bs.length := by rw [← rv.length, List.length_map]
  refine PySem.call_all_walk (wpAny_pyIter_list pl.isList ?_)
  have hI : a ≠ s.heap.objs.size := by
    obtain ⟨o, ho, _⟩ := pl.isList
    exact Nat.ne_of_lt (Heap.lt_size ho)
  have I1 : ∀ (h' : Heap) (tk : Nat), (∀ b o, b ∉ [s.heap.objs.size] → (s.heap.push { cls := .type "list_iterator", data := .fields #[.ref a, .int 0 0] }).get? b = some o → h'.get? b = some o) → Inv X pins σ H { s with heap := h', toks := tk } := fun h' tk k =>
    I.kept fun b o e => k b o (by simpa using Nat.ne_of_lt (Heap.lt_size e)) (Heap.get?_push_of_some _ e)
  refine ⟨s.heap.objs.size, [s.heap.objs.size, a], [s.heap.objs.size], its.toArray.size, _, _, fun i => bs.getD i false, rfl, PySem.Walks.list (by first | exact I.ok.hd hc | exact (show X.A.in1.handled = none from I.ok.hd hc)) _ a hI its.toArray, ⟨⟨_, Heap.get?_push_size _ rfl, rfl, rfl⟩, pl.isList.at fun o e => Heap.get?_push_of_some _ e⟩, ?_, fun h' tk k => ?_⟩
  · intro i v s' Q' E' hv hQ'
    have hv' : its[i]? = some v := by simpa using hv
    have hi : i < bs.length := by rw [← hlen]; exact (List.getElem?_eq_some_iff.mp hv').1
    have hb : (bs.map V.bl)[i]? = some (V.bl (bs.getD i false)) := by
      rw [List.getElem?_map, List.getElem?_eq_getElem hi]
      simp [List.getD_eq_getElem?_getD, hi]
    obtain ⟨u', hu', rv'⟩ := rv.get hb
    rw [hv'] at hu'
    cases hu'
    cases rv'
    exact wpAny_truthy_bool hQ'
  · refine ⟨.bl (bs.all id), H, I1 h' tk k, ?_, q⟩
    show Value.bool _ = Value.bool _
    congr 1
    rw [List.size_toArray, hlen]
    have : ∀ (l : List Bool), (List.range l.length).all (fun i => l.getD i false) = l.all id := by
      intro l
      rw [Bool.eq_iff_iff, List.all_eq_true, List.all_eq_true]
      constructor
      · intro h x hx
        obtain ⟨i, hi, rfl⟩ := List.getElem_of_mem hx
        have := h i (List.mem_range.mpr hi)
        simpa [List.getD_eq_getElem?_getD, hi] using this
      · intro h i hi
        have hi' := List.mem_range.mp hi
        have := h l[i] (List.getElem_mem hi')
        simpa [List.getD_eq_getElem?_getD, hi'] using this
    exact this bs
noncomputable def Its (x : List Nat) : It := ⟨fun i _ => i < x.length, fun i H v H' => H' = H ∧ ∃ c, x[i]? = some c ∧ v = .str (mkS [c]), fun i _ => x.length ≤ i⟩
noncomputable def iStr (tl : TE) : TI := fun σ H R => tl σ H fun v H1 => ∃ x, v = .str (mkS x) ∧ R (Its x) H1
theorem zVO {P : Program} {w : World} {K : PySem.W.Frag} {tg : Expr} (it : Addr) (ty : String) (x : List Nat) (t : Tok) (hty : ty = "str_ascii_iterator" ∨ ty = "str_iterator") :
    Turn P w K tg (Its x) [it] it (fun i h => h.IsStrIter it ty (mkS x) t i) where
  mem := by simp
  obj := fun i h st b hb => by
    have e : b = it := by simpa using hb
    subst e
    obtain ⟨o, e, c, d⟩ := st
    exact ⟨o, e, fun v z => by rw [d] at z; cases z⟩
  keep := fun i h h' st k => let ⟨o, ho, r⟩ := st; ⟨o, k it (by simp) o ho, r⟩
  item := by
    intro X hP hw hK hc i pins s σ H E I hf st hg
    subst hP hw hK
    obtain ⟨f0, f1, f2, f3, f4, f5⟩ := hf it (by simp)
    have hi : i < x.length := hg
    have hxi : (mkS x).cps[i]? = some x[i] := by simp [mkS, hi]
    have fin : ∀ (h' : Heap), h'.IsStrIter it ty (mkS x) t (i + 1) → Heap.SameBut it s.heap h' → ∃ u, some (Value.str ⟨#[x[i]]⟩ s.toks) = some u ∧
        wpAny (model X.prog X.w) X.A (letOwnedTupleGo tg (.ref it) u) (fun _ s2 => ∃ y H', Inv X pins σ H' s2 ∧ RelV y u ∧ (Its x).yld i H y H' ∧ s2.heap.IsStrIter it ty (mkS x) t (i + 1) ∧ ∀ b ∈ [it], H' b = none) E { s with heap := h', toks := s.toks + 1 } := fun h' st' sb => by
      have I1 : Inv X pins σ H { s with heap := h', toks := s.toks + 1 } := I.turned (fun b o hb e => (sb.2 b hb).trans e) f0 f1 f3 f4 f5
      obtain ⟨o, e, c, d⟩ := id st'
      refine ⟨_, rfl, yAM (s := { s with heap := h', toks := s.toks + 1 }) e c d (by rcases hty with rfl | rfl <;> decide) ⟨.str (mkS [x[i]]), H, I1, ⟨_, rfl⟩, ⟨rfl, x[i], by simp [hi], rfl⟩, st', fun b hb => (hf b hb).1⟩⟩
    rcases hty with rfl | rfl
    · exact wpAny_pyNext_ascii_item st hxi fun h' st' sb => fin h' st' sb
    · exact wpAny_pyNext_wide_item st hxi fun h' st' sb => fin h' st' sb
  done := by
    intro X hP hw hK hc i pins s σ H E I hf st hg
    subst hP hw hK
    obtain ⟨f0, f1, f2, f3, f4, f5⟩ := hf it (by simp)
    have hi : x.length ≤ i := hg
    have hxi : (mkS x).cps[i]? = none := by simp [mkS, hi]
    rcases hty with rfl | rfl
    · exact wpAny_pyNext_ascii_end (I.ok.hd hc) st hxi fun h' eb => ⟨rfl, I.turned (t' := s.toks) (fun b o hb e => eb b o hb e) f0 f1 f3 f4 f5⟩
    · exact wpAny_pyNext_wide_end (I.ok.hd hc) st hxi fun h' eb => ⟨rfl, I.turned (t' := s.toks) (fun b o hb e => eb b o hb e) f0 f1 f3 f4 f5⟩
  self := fun _ _ _ _ _ st h => by
    rcases hty with rfl | rfl
    · exact wpAny_pyIter_striter_ascii st h
    · exact wpAny_pyIter_striter_wide st h
theorem yMC {tg l : Expr} {tl : TE} (hl : PE X l tl) : PI X tg l (iStr tl) := by
  intro pins s σ H R I h
  refine thn (hl pins s σ H _ I h) fun v s1 ⟨x, H1, I1, r1, q1⟩ => ?_
  obtain ⟨cs, e, q⟩ := q1
  subst e
  obtain ⟨t, rfl⟩ := r1
  have fp : ∀ (o : Obj), ∀ b ∈ [s1.heap.objs.size], zKF X pins H1 b := fun o b hb => by
    have e : b = s1.heap.objs.size := by simpa using hb
    subst e
    exact I1.fpOk (Nat.le_refl _) (I1.hok.fresh (Nat.le_refl _))
  cases ha : (mkS cs).cps.all (· < 128)
  · refine wpAny_pyIter_wide ha ?_
    exact ⟨s1.heap.objs.size, [s1.heap.objs.size], _, _, H1, rfl, I1.kept (t' := s1.toks) fun b o e => Heap.get?_push_of_some _ e, zVO _ "str_iterator" cs t (.inr rfl), ⟨_, Heap.get?_push_size _ rfl, rfl, rfl⟩, fp default, q⟩
  · refine wpAny_pyIter_ascii ha ?_
    exact ⟨s1.heap.objs.size, [s1.heap.objs.size], _, _, H1, rfl, I1.kept (t' := s1.toks) fun b o e => Heap.get?_push_of_some _ e, zVO _ "str_ascii_iterator" cs t (.inl rfl), ⟨_, Heap.get?_push_size _ rfl, rfl, rfl⟩, fp default, q⟩
end
end L2
namespace L2
namespace M
open PySem PySem.Spec PyProof.Rows
theorem yMD {A : Around} {s : Shared} {y x : V} {u v : Value} (ry : RelV y u) (rx : RelV x v) (fy : kQ y = true) (fx : kQ x = true) : SeqAt.RcAt A s u v (eqV y x) := by
  cases y with
  | non =>
    cases ry
    cases x with
    | non => cases rx; exact SeqAt.RcAt.none_none
    | bl b => cases rx; exact SeqAt.RcAt.none_bool b
    | int b => obtain ⟨t, rfl⟩ := rx; exact SeqAt.RcAt.none_int b t
    | str b => obtain ⟨t, rfl⟩ := rx; exact SeqAt.RcAt.none_str b t
    | _ => exact absurd (show false = true from fx) Bool.false_ne_true
  | bl a =>
    cases ry
    cases x with
    | non => cases rx; exact SeqAt.RcAt.bool_none a
    | bl b => cases rx; exact SeqAt.RcAt.bool_bool a b
    | int b => obtain ⟨t, rfl⟩ := rx; exact SeqAt.RcAt.bool_int a b t
    | str b => obtain ⟨t, rfl⟩ := rx; exact SeqAt.RcAt.bool_str a b t
    | _ => exact absurd (show false = true from fx) Bool.false_ne_true
  | int a =>
    obtain ⟨t', rfl⟩ := ry
    cases x with
    | non => cases rx; exact SeqAt.RcAt.int_none a t'
    | bl b => cases rx; exact SeqAt.RcAt.int_bool a t' b
    | int b => obtain ⟨t, rfl⟩ := rx; exact SeqAt.RcAt.int_int a t' b t
    | str b => obtain ⟨t, rfl⟩ := rx; exact SeqAt.RcAt.int_str a t' b t
    | _ => exact absurd (show false = true from fx) Bool.false_ne_true
  | str a =>
    obtain ⟨t', rfl⟩ := ry
    cases x with
    | non => cases rx; exact SeqAt.RcAt.str_none a t'
    | bl b => cases rx; exact SeqAt.RcAt.str_bool a t' b
    | int b => obtain ⟨t, rfl⟩ := rx; exact SeqAt.RcAt.str_int a t' b t
    | str b => obtain ⟨t, rfl⟩ := rx; exact SeqAt.RcAt.str_str a t' b t
    | _ => exact absurd (show false = true from fx) Bool.false_ne_true
  | _ => exact absurd (show false = true from fy) Bool.false_ne_true
theorem yME {A : Around} {s : Shared} {y x : V} {u v : Value} (ry : RelV y u) (rx : RelV x v) (fy : kQ y = true) (fx : kQ x = true) : SeqAt.RcNeAt A s u v (!eqV y x) := by
  cases y with
  | non =>
    cases ry
    cases x with
    | non => cases rx; exact SeqAt.RcNeAt.none_none
    | bl b => cases rx; exact SeqAt.RcNeAt.none_bool b
    | int b => obtain ⟨t, rfl⟩ := rx; exact SeqAt.RcNeAt.none_int b t
    | str b => obtain ⟨t, rfl⟩ := rx; exact SeqAt.RcNeAt.none_str b t
    | _ => exact absurd (show false = true from fx) Bool.false_ne_true
  | bl a =>
    cases ry
    cases x with
    | non => cases rx; exact SeqAt.RcNeAt.bool_none a
    | bl b => cases rx; exact SeqAt.RcNeAt.bool_bool a b
    | int b => obtain ⟨t, rfl⟩ := rx; exact SeqAt.RcNeAt.bool_int a b t
    | str b => obtain ⟨t, rfl⟩ := rx; exact SeqAt.RcNeAt.bool_str a b t
    | _ => exact absurd (show false = true from fx) Bool.false_ne_true
  | int a =>
    obtain ⟨t', rfl⟩ := ry
    cases x with
    | non => cases rx; exact SeqAt.RcNeAt.int_none a t'
    | bl b => cases rx; exact SeqAt.RcNeAt.int_bool a t' b
    | int b => obtain ⟨t, rfl⟩ := rx; exact SeqAt.RcNeAt.int_int a t' b t
    | str b => obtain ⟨t, rfl⟩ := rx; exact SeqAt.RcNeAt.int_str a t' b t
    | _ => exact absurd (show false = true from fx) Bool.false_ne_true
  | str a =>
    obtain ⟨t', rfl⟩ := ry
    cases x with
    | non => cases rx; exact SeqAt.RcNeAt.str_none a t'
    | bl b => cases rx; exact SeqAt.RcNeAt.str_bool a t' b
    | int b => obtain ⟨t, rfl⟩ := rx; exact SeqAt.RcNeAt.str_int a t' b t
    | str b => obtain ⟨t, rfl⟩ := rx; exact SeqAt.RcNeAt.str_str a t' b t
    | _ => exact absurd (show false = true from fx) Bool.false_ne_true
  | _ => exact absurd (show false = true from fy) Bool.false_ne_true
theorem eq_ll {A : Around} {s : Shared} {x : V} {v : Value} {l : Addr} {items : Array Value} (rx : RelV x v) (fx : kQ x = true) (hl : s.heap.IsList l items) (hu : A.units < cLine) : SeqAt.EqAt A s (.ref l) v false := by
  cases x with
  | non => cases rx; exact SeqAt.EqAt.list_none hl hu
  | bl b => cases rx; exact SeqAt.EqAt.list_bool b hl hu
  | int b => obtain ⟨t, rfl⟩ := rx; exact SeqAt.EqAt.list_int b t hl hu
  | str b => obtain ⟨t, rfl⟩ := rx; exact SeqAt.EqAt.list_str b t hl hu
  | _ => exact absurd (show false = true from fx) Bool.false_ne_true
theorem eq_lr {A : Around} {s : Shared} {x : V} {v : Value} {l : Addr} {items : Array Value} (rx : RelV x v) (fx : kQ x = true) (hl : s.heap.IsList l items) (hu : A.units < cLine) : SeqAt.EqAt A s v (.ref l) false := by
  cases x with
  | non => cases rx; exact SeqAt.EqAt.none_list hl hu
  | bl b => cases rx; exact SeqAt.EqAt.bool_list b hl hu
  | int b => obtain ⟨t, rfl⟩ := rx; exact SeqAt.EqAt.int_list b t hl hu
  | str b => obtain ⟨t, rfl⟩ := rx; exact SeqAt.EqAt.str_list b t hl hu
  | _ => exact absurd (show false = true from fx) Bool.false_ne_true
theorem yKI {A : Around} {s : Shared} {x : V} {v : Value} {l : Addr} {items : Array Value} (rx : RelV x v) (fx : kQ x = true) (hl : s.heap.IsTuple l items) (hu : A.units < cLine) : SeqAt.EqAt A s (.ref l) v false := by
  cases x with
  | non => cases rx; exact SeqAt.EqAt.tuple_none hl hu
  | bl b => cases rx; exact SeqAt.EqAt.tuple_bool b hl hu
  | int b => obtain ⟨t, rfl⟩ := rx; exact SeqAt.EqAt.tuple_int b t hl hu
  | str b => obtain ⟨t, rfl⟩ := rx; exact SeqAt.EqAt.tuple_str b t hl hu
  | _ => exact absurd (show false = true from fx) Bool.false_ne_true
theorem yKJ {A : Around} {s : Shared} {x : V} {v : Value} {l : Addr} {items : Array Value} (rx : RelV x v) (fx : kQ x = true) (hl : s.heap.IsTuple l items) (hu : A.units < cLine) : SeqAt.EqAt A s v (.ref l) false := by
  cases x with
  | non => cases rx; exact SeqAt.EqAt.none_tuple hl hu
  | bl b => cases rx; exact SeqAt.EqAt.bool_tuple b hl hu
  | int b => obtain ⟨t, rfl⟩ := rx; exact SeqAt.EqAt.int_tuple b t hl hu
  | str b => obtain ⟨t, rfl⟩ := rx; exact SeqAt.EqAt.str_tuple b t hl hu
  | _ => exact absurd (show false = true from fx) Bool.false_ne_true
theorem rc_ll {A : Around} {s : Shared} {x : V} {v : Value} {l : Addr} {items : Array Value} (rx : RelV x v) (fx : kQ x = true) (hl : s.heap.IsList l items) (hu : A.units < cLine) : SeqAt.RcAt A s (.ref l) v false := by
  cases x with
  | non => cases rx; exact SeqAt.RcAt.list_none hl hu
  | bl b => cases rx; exact SeqAt.RcAt.list_bool b hl hu
  | int b => obtain ⟨t, rfl⟩ := rx; exact SeqAt.RcAt.list_int b t hl hu
  | str b => obtain ⟨t, rfl⟩ := rx; exact SeqAt.RcAt.list_str b t hl hu
  | _ => exact absurd (show false = true from fx) Bool.false_ne_true
theorem rc_lr {A : Around} {s : Shared} {x : V} {v : Value} {l : Addr} {items : Array Value} (rx : RelV x v) (fx : kQ x = true) (hl : s.heap.IsList l items) (hu : A.units < cLine) : SeqAt.RcAt A s v (.ref l) false := by
  cases x with
  | non => cases rx; exact SeqAt.RcAt.none_list hl hu
  | bl b => cases rx; exact SeqAt.RcAt.bool_list b hl hu
  | int b => obtain ⟨t, rfl⟩ := rx; exact SeqAt.RcAt.int_list b t hl hu
  | str b => obtain ⟨t, rfl⟩ := rx; exact SeqAt.RcAt.str_list b t hl hu
  | _ => exact absurd (show false = true from fx) Bool.false_ne_true
theorem rc_tl {A : Around} {s : Shared} {x : V} {v : Value} {l : Addr} {items : Array Value} (rx : RelV x v) (fx : kQ x = true) (hl : s.heap.IsTuple l items) (hu : A.units < cLine) : SeqAt.RcAt A s (.ref l) v false := by
  cases x with
  | non => cases rx; exact SeqAt.RcAt.tuple_none hl hu
  | bl b => cases rx; exact SeqAt.RcAt.tuple_bool b hl hu
  | int b => obtain ⟨t, rfl⟩ := rx; exact SeqAt.RcAt.tuple_int b t hl hu
  | str b => obtain ⟨t, rfl⟩ := rx; exact SeqAt.RcAt.tuple_str b t hl hu
  | _ => exact absurd (show false = true from fx) Bool.false_ne_true
theorem rc_tr {A : Around} {s : Shared} {x : V} {v : Value} {l : Addr} {items : Array Value} (rx : RelV x v) (fx : kQ x = true) (hl : s.heap.IsTuple l items) (hu : A.units < cLine) : SeqAt.RcAt A s v (.ref l) false := by
  cases x with
  | non => cases rx; exact SeqAt.RcAt.none_tuple hl hu
  | bl b => cases rx; exact SeqAt.RcAt.bool_tuple b hl hu
  | int b => obtain ⟨t, rfl⟩ := rx; exact SeqAt.RcAt.int_tuple b t hl hu
  | str b => obtain ⟨t, rfl⟩ := rx; exact SeqAt.RcAt.str_tuple b t hl hu
  | _ => exact absurd (show false = true from fx) Bool.false_ne_true
theorem rn_ll {A : Around} {s : Shared} {x : V} {v : Value} {l : Addr} {items : Array Value} (rx : RelV x v) (fx : kQ x = true) (hl : s.heap.IsList l items) (hu : A.units < cLine) : SeqAt.RcNeAt A s (.ref l) v true := by
  cases x with
  | non => cases rx; exact SeqAt.RcNeAt.list_none hl hu
  | bl b => cases rx; exact SeqAt.RcNeAt.list_bool b hl hu
  | int b => obtain ⟨t, rfl⟩ := rx; exact SeqAt.RcNeAt.list_int b t hl hu
  | str b => obtain ⟨t, rfl⟩ := rx; exact SeqAt.RcNeAt.list_str b t hl hu
  | _ => exact absurd (show false = true from fx) Bool.false_ne_true
theorem rn_lr {A : Around} {s : Shared} {x : V} {v : Value} {l : Addr} {items : Array Value} (rx : RelV x v) (fx : kQ x = true) (hl : s.heap.IsList l items) (hu : A.units < cLine) : SeqAt.RcNeAt A s v (.ref l) true := by
  cases x with
  | non => cases rx; exact SeqAt.RcNeAt.none_list hl hu
  | bl b => cases rx; exact SeqAt.RcNeAt.bool_list b hl hu
  | int b => obtain ⟨t, rfl⟩ := rx; exact SeqAt.RcNeAt.int_list b t hl hu
  | str b => obtain ⟨t, rfl⟩ := rx; exact SeqAt.RcNeAt.str_list b t hl hu
  | _ => exact absurd (show false = true from fx) Bool.false_ne_true
theorem rn_tl {A : Around} {s : Shared} {x : V} {v : Value} {l : Addr} {items : Array Value} (rx : RelV x v) (fx : kQ x = true) (hl : s.heap.IsTuple l items) (hu : A.units < cLine) : SeqAt.RcNeAt A s (.ref l) v true := by
  cases x with
  | non => cases rx; exact SeqAt.RcNeAt.tuple_none hl hu
  | bl b => cases rx; exact SeqAt.RcNeAt.tuple_bool b hl hu
  | int b => obtain ⟨t, rfl⟩ := rx; exact SeqAt.RcNeAt.tuple_int b t hl hu
  | str b => obtain ⟨t, rfl⟩ := rx; exact SeqAt.RcNeAt.tuple_str b t hl hu
  | _ => exact absurd (show false = true from fx) Bool.false_ne_true
theorem rn_tr {A : Around} {s : Shared} {x : V} {v : Value} {l : Addr} {items : Array Value} (rx : RelV x v) (fx : kQ x = true) (hl : s.heap.IsTuple l items) (hu : A.units < cLine) : SeqAt.RcNeAt A s v (.ref l) true := by
  cases x with
  | non => cases rx; exact SeqAt.RcNeAt.none_tuple hl hu
  | bl b => cases rx; exact SeqAt.RcNeAt.bool_tuple b hl hu
  | int b => obtain ⟨t, rfl⟩ := rx; exact SeqAt.RcNeAt.int_tuple b t hl hu
  | str b => obtain ⟨t, rfl⟩ := rx; exact SeqAt.RcNeAt.str_tuple b t hl hu
  | _ => exact absurd (show false = true from fx) Bool.false_ne_true
theorem yES {y : V} (h : kQ y = true) : eqV y y = true := by
  cases y <;> first | rfl | (simp [eqV]; done) | exact absurd (show false = true from h) Bool.false_ne_true
inductive NK where
  | key (k : Key) | tup (ks : List NK)
noncomputable instance : DecidableEq NK := fun _ _ => Classical.propDecidable _
section
variable {prog : Program} {w : World} (knd : KeyKind prog w Key)
mutual
noncomputable def isN (h : Heap) : NK → Value → Prop
  | .key k, v => knd.is k v = true
  | .tup ks, v => ∃ a o items n, v = .ref a ∧ h.get? a = some o ∧ o.cls = .type "tuple" ∧ o.data = .seq items n ∧ zHF h ks items.toList
noncomputable def zHF (h : Heap) : List NK → List Value → Prop
  | [], vs => vs = []
  | k :: ks, vs => ∃ v r, vs = v :: r ∧ isN h k v ∧ zHF h ks r
end
mutual
noncomputable def zHG : NK → Int
  | .key k => knd.hash k
  | .tup ks => reduceHash (Builtin.Tuple.tupleHashOf (zPH ks))
noncomputable def zPH : List NK → List Int
  | [] => []
  | k :: ks => zHG k :: zPH ks
end
mutual
noncomputable def zPI : NK → Nat
  | .key _ => 1
  | .tup ks => cA ks + 1
noncomputable def cA : List NK → Nat
  | [] => 0
  | k :: ks => zPI k + cA ks
end
mutual
noncomputable def zBV : NK → Nat
  | .key _ => 0
  | .tup ks => zJR ks + 1
noncomputable def zJR : List NK → Nat
  | [] => 0
  | k :: ks => max (zBV k) (zJR ks)
end
variable {knd}
theorem jG {h : Heap} {k : Key} {v : Value} : isN knd h (.key k) v ↔ knd.is k v = true := by unfold isN; exact Iff.rfl
theorem wV {h : Heap} {ks : List NK} {v : Value} : isN knd h (.tup ks) v ↔ ∃ a o items n, v = .ref a ∧ h.get? a = some o ∧ o.cls = .type "tuple" ∧ o.data = .seq items n ∧ zHF knd h ks items.toList := by
  conv => lhs; unfold isN
theorem kR {h : Heap} {vs : List Value} : zHF knd h [] vs ↔ vs = [] := by unfold zHF; exact Iff.rfl
theorem xP {h : Heap} {k : NK} {ks : List NK} {vs : List Value} : zHF knd h (k :: ks) vs ↔ ∃ v r, vs = v :: r ∧ isN knd h k v ∧ zHF knd h ks r := by
  conv => lhs; unfold zHF
mutual
theorem zTS {h : Heap} : ∀ {x y : NK} {v : Value}, isN knd h x v → isN knd h y v → x = y
  | .key k, .key k', v, hx, hy => by rw [knd.inj v k k' (jG.mp hx) (jG.mp hy)]
  | .key k, .tup ks, v, hx, hy => by
    obtain ⟨a, o, items, n, rfl, _⟩ := wV.mp hy
    have := knd.byValue _ _ (jG.mp hx)
    simp [carriedByValue] at this
  | .tup ks, .key k, v, hx, hy => by
    obtain ⟨a, o, items, n, rfl, _⟩ := wV.mp hx
    have := knd.byValue _ _ (jG.mp hy)
    simp [carriedByValue] at this
  | .tup ks, .tup ks', v, hx, hy => by
    obtain ⟨a, o, items, n, e, ho, _, hd, hi⟩ := wV.mp hx
    obtain ⟨a', o', items', n', e', ho', _, hd', hi'⟩ := wV.mp hy
    rw [e] at e'
    cases e'
    obtain rfl : o = o' := Option.some.inj (ho.symm.trans ho')
    rw [hd] at hd'
    injection hd' with h1 _
    subst h1
    rw [zVP hi hi']
theorem zVP {h : Heap} : ∀ {xs ys : List NK} {vs : List Value}, zHF knd h xs vs → zHF knd h ys vs → xs = ys
  | [], [], _, _, _ => rfl
  | [], y :: ys, vs, hx, hy => by
    obtain ⟨v, r, e, _⟩ := xP.mp hy
    rw [kR.mp hx] at e; cases e
  | x :: xs, [], vs, hx, hy => by
    obtain ⟨v, r, e, _⟩ := xP.mp hx
    rw [kR.mp hy] at e; cases e
  | x :: xs, y :: ys, vs, hx, hy => by
    obtain ⟨v, r, e, h1, h2⟩ := xP.mp hx
    obtain ⟨v', r', e', h1', h2'⟩ := xP.mp hy
    rw [e] at e'
    cases e'
    rw [zTS h1 h1', zVP h2 h2']
end
mutual
theorem zVQ {h h' : Heap} (m : ∀ a o items n, h.get? a = some o → o.data = .seq items n → h'.get? a = some o) : ∀ {x : NK} {v : Value}, isN knd h x v → isN knd h' x v
  | .key k, v, hx => jG.mpr (jG.mp hx)
  | .tup ks, v, hx => by
    obtain ⟨a, o, items, n, e, ho, hc, hd, hi⟩ := wV.mp hx
    exact wV.mpr ⟨a, o, items, n, e, m a o items n ho hd, hc, hd, zSO m hi⟩
theorem zSO {h h' : Heap} (m : ∀ a o items n, h.get? a = some o → o.data = .seq items n → h'.get? a = some o) : ∀ {xs : List NK} {vs : List Value}, zHF knd h xs vs → zHF knd h' xs vs
  | [], vs, hx => kR.mpr (kR.mp hx)
  | x :: xs, vs, hx => by
    obtain ⟨v, r, e, h1, h2⟩ := xP.mp hx
    exact xP.mpr ⟨v, r, e, zVQ m h1, zSO m h2⟩
end
theorem zPJ : ∀ ks : List NK, zPH knd ks = ks.map (zHG knd)
  | [] => by unfold zPH; rfl
  | k :: ks => by unfold zPH; rw [zPJ ks]; rfl
theorem zKH : cA [] = 0 := by rw [cA]
theorem zHH (k : NK) (ks : List NK) : cA (k :: ks) = zPI k + cA ks := by rw [cA]
theorem zKI (k : NK) (ks : List NK) : zJR (k :: ks) = max (zBV k) (zJR ks) := by rw [zJR]
theorem zAN (ks : List NK) : zBV (.tup ks) = zJR ks + 1 := by rw [zBV]
theorem zJS : ∀ (xs ys : List NK), cA (xs ++ ys) = cA xs + cA ys
  | [], ys => by rw [zKH, List.nil_append, Nat.zero_add]
  | x :: xs, ys => by rw [List.cons_append, zHH, zHH, zJS xs ys]; (first | lia | omega)
theorem zLH {s : Shared} {ks : List NK} {a : Addr} (h : isN knd s.heap (.tup ks) (.ref a)) : s.TypeIs (.ref a) "tuple" := by
  obtain ⟨a', o, items, n, e, ho, hc, _⟩ := wV.mp h
  cases e
  exact ⟨o, ho, hc⟩
theorem zVR : ∀ (n : Nat) {A : Around} {E : Value → Shared → Prop} {s : Shared} {k : NK} {v : Value} {Q : Int → Shared → Prop}, zBV k ≤ n → A.units + n < cLine → isN knd s.heap k v → Q (zHG knd k) { s with toks := s.toks + zPI k } → wpAny (model prog w) A (pyHash v) Q E s
  | n, A, E, s, .key k, v, Q, _, _, hk, h => knd.pyHash (jG.mp hk) (by rw [zHG, zPI] at h; exact h)
  | 0, A, E, s, .tup ks, v, Q, hd, _, _, _ => by rw [zAN] at hd; (first | lia | omega)
  | n + 1, A, E, s, .tup ks, v, Q, hdep, hu, hk, h => by
    obtain ⟨a, o, items, m, rfl, ho, hc, hd, hi⟩ := wV.mp hk
    have hT : s.TypeIs (.ref a) "tuple" := ⟨o, ho, hc⟩
    rw [zAN] at hdep
    have hdl : ∀ k ∈ ks, zBV k ≤ n := by
      have : ∀ ks : List NK, zJR ks ≤ n → ∀ k ∈ ks, zBV k ≤ n := by
        intro ks
        induction ks with
        | nil => intro _ k hk; simp at hk
        | cons x xs ih =>
          intro hx k hk
          rw [zKI] at hx
          rcases List.mem_cons.mp hk with rfl | hk
          · (first | lia | omega)
          · exact ih (by (first | lia | omega)) k hk
      exact this ks (by (first | lia | omega))
    rw [zHG, zPI, zPJ] at h
    unfold pyHash
    first | unfold pyHashByItsType | skip
    first | refine wpAny_bind (wpAny_cRoomFor_or (.inr (show A.units < cLine by (first | lia | omega))) ?_) | skip
    refine wpAny_bind (wpAny_specialOf hT F.slot_tuple_hash.lookup ?_)
    show wpAny _ _ (if (some (Value.builtin "tuple.__hash__") == some Value.none) = true then _ else _) Q E s
    rw [if_neg (by rw [beq_builtin_none]; exact Bool.false_ne_true)]
    refine wpAny_bind (wpAny_specialOf hT F.slot_tuple_hash.lookup ?_)
    show wpAny _ _ (callSpecialIfBoundUnlessNone? (.ref a) "__hash__" _ >>= _) Q E s
    refine wpAny_bind (wpAny_callSpecialIfBoundUnlessNone?_slot hT F.slot_tuple_hash (wpAny_call_entry F.slot_tuple_hash hT F.entry_tuple_hash ?_ (F.args_tuple_hash_1 _)))
    show wpAny _ _ (Builtin.Tuple.tupleItemsOf (.ref a) >>= _) _ _ s
    refine wpAny_bind (wpAny_tupleItemsOf ho hd ?_)
    refine wpAny_bind ?_
    rw [← Array.forIn_toList]
    refine wpAny_forIn_list _
      (fun rest (b : Array Int) s' => ∃ done left, ks = done ++ left ∧ zHF knd s.heap left rest ∧ b.toList = done.map (zHG knd) ∧ s' = { s with toks := s.toks + cA done })
      _ ?_ ?_ _ _ ⟨[], ks, rfl, hi, rfl, by rw [zKH]; rfl⟩
    · rintro x rest b s' ⟨done, left, rfl, hl, hb, rfl⟩
      cases left with
      | nil => rw [kR] at hl; cases hl
      | cons k ks' =>
        obtain ⟨v, r, e, h1, hl'⟩ := xP.mp hl
        cases e
        refine wpAny_bind (zVR n (hdl k (by simp)) (show A.units + 1 + n < cLine by (first | lia | omega)) h1 ?_)
        have e1 : cA (done ++ [k]) = cA done + zPI k := by rw [zJS, zHH, zKH]; rfl
        first
          | exact wpAny_pure ⟨done ++ [k], ks', by simp, hl', by simp [hb], by simp [Nat.add_assoc, e1]⟩
          | exact wpAny_bind (wpAny_pure (wpAny_pure ⟨done ++ [k], ks', by simp, hl', by simp [hb], by simp [Nat.add_assoc, e1]⟩))
    · rintro b s' ⟨done, left, rfl, hl, hb, rfl⟩
      cases left with
      | cons k ks' => obtain ⟨v, r, e, _⟩ := xP.mp hl; cases e
      | nil =>
        rw [List.append_nil] at h
        show wpAny _ _ (retInt (Builtin.Tuple.tupleHashOf b.toList)) _ _ _
        rw [hb]
        refine wpAny_ret_mkInt ?_
        show wpAny _ _ (if (decide (-(2 : Int) ^ 63 ≤ Builtin.Tuple.tupleHashOf (done.map (zHG knd))) && decide (Builtin.Tuple.tupleHashOf (done.map (zHG knd)) < 2 ^ 63)) = true then _ else _) Q E _
        unfold reduceHash at h
        by_cases hr : (decide (-(2 : Int) ^ 63 ≤ Builtin.Tuple.tupleHashOf (done.map (zHG knd))) && decide (Builtin.Tuple.tupleHashOf (done.map (zHG knd)) < 2 ^ 63)) = true
        · rw [if_pos hr]
          rw [if_pos hr] at h
          exact wpAny_pure (by simpa [Nat.add_assoc] using h)
        · rw [if_neg hr]
          rw [if_neg hr] at h
          exact wpAny_bind (wpAny_rule (wpAny_pure (by simpa [Nat.add_assoc] using h)))
end
section
variable {prog : Program} {w : World}
abbrev mk (prog : Program) (w : World) : KeyKind prog w Key := zOL prog w
theorem yIC (a b : Key) : decide (NK.key a = NK.key b) = decide (a = b) := by
  by_cases h : a = b
  · subst h; simp
  · rw [decide_eq_false h, decide_eq_false fun z => h (NK.key.inj z)]
theorem yMF (a : Key) (b : List NK) : decide (NK.key a = NK.tup b) = false := decide_eq_false fun z => nomatch z
theorem yMG (a : Key) (b : List NK) : decide (NK.tup b = NK.key a) = false := decide_eq_false fun z => nomatch z
theorem yMH (a b : List NK) : decide (NK.tup a = NK.tup b) = decide (a = b) := by
  by_cases h : a = b
  · subst h; simp
  · rw [decide_eq_false h, decide_eq_false fun z => h (NK.tup.inj z)]
theorem zVS {k : Key} {v : Value} (h : (mk prog w).is k v = true) : ∃ x : V, RelV x v ∧ kQ x = true := by
  rcases wI (show zOY k v = true from h) with ⟨i, t, rfl, rfl⟩ | ⟨x, t, rfl, rfl⟩
  · exact ⟨.int i, ⟨t, rfl⟩, rfl⟩
  · exact ⟨.str x, ⟨t, rfl⟩, rfl⟩
theorem yCK {A : Around} {E : Value → Shared → Prop} {s : Shared} {x y : List NK} {a b : Addr} {P : Fin → Shared → Prop}
    (he : ∀ k1 ∈ x, ∀ k2 u v (Q : Bool → Shared → Prop), isN (mk prog w) s.heap k1 u → isN (mk prog w) s.heap k2 v → Q (decide (k1 = k2)) s → wpAny (model prog w) A (eqBool u v) Q E s)
    (hx : isN (mk prog w) s.heap (.tup x) (.ref a)) (hy : isN (mk prog w) s.heap (.tup y) (.ref b)) (h : P (.done (.ret (.bool (decide (x = y))))) s) :
    wpAny (model prog w) A (Builtin.«tuple.__eq__» ⟨[.ref a, .ref b], []⟩) P E s := by
  have hTb := zLH hy
  obtain ⟨_, oa, xs, na, e, hoa, _, hda, hia⟩ := wV.mp hx
  cases e
  obtain ⟨_, ob, ys, nb, e, hob, _, hdb, hib⟩ := wV.mp hy
  cases e
  show wpAny _ _ (isInstance (.ref b) (.type "tuple") >>= _) _ _ s
  refine wpAny_bind (wpAny_isInstance hTb isSubtype_tuple_tuple ?_)
  simp only [Bool.not_true, Bool.false_eq_true, if_false]
  refine wpAny_bind (wpAny_tupleItemsOf hoa hda ?_)
  refine wpAny_bind (wpAny_tupleItemsOf hob hdb ?_)
  refine wpAny_bind ?_
  refine wpAny_forIn_list _
    (fun rest r s' => r.1 = none ∧ s' = s ∧ ∃ x' y' xs' ys', rest = List.zip xs' ys' ∧ (∀ k ∈ x', k ∈ x) ∧ zHF (mk prog w) s.heap x' xs' ∧ zHF (mk prog w) s.heap y' ys' ∧ decide (x' = y') = decide (x = y) ∧ (xs'.length == ys'.length) = (xs.size == ys.size))
    _ ?_ ?_ _ _ ⟨rfl, rfl, x, y, xs.toList, ys.toList, rfl, fun k hk => hk, hia, hib, rfl, by simp⟩
  · rintro ⟨u, v⟩ rest r s' ⟨hr, rfl, x', y', xs', ys', hz, hm, hx', hy', hdec, hlen⟩
    cases x' with
    | nil => rw [kR.mp hx'] at hz; simp at hz
    | cons k1 x'' =>
      cases y' with
      | nil => rw [kR.mp hy'] at hz; simp at hz
      | cons k2 y'' =>
        obtain ⟨u', xs'', rfl, h1, hx''⟩ := xP.mp hx'
        obtain ⟨v', ys'', rfl, h2, hy''⟩ := xP.mp hy'
        simp only [List.zip_cons_cons, List.cons.injEq, Prod.mk.injEq] at hz
        obtain ⟨⟨rfl, rfl⟩, rfl⟩ := hz
        refine wpAny_bind (he k1 (hm k1 List.mem_cons_self) k2 _ _ _ h1 h2 ?_)
        by_cases hk : k1 = k2
        · subst hk
          rw [decide_eq_true rfl]
          simp only [Bool.not_true, Bool.false_eq_true, if_false]
          refine wpAny_pure ⟨rfl, rfl, x'', y'', xs'', ys'', rfl, fun k hk => hm k (List.mem_cons_of_mem _ hk), hx'', hy'', ?_, by simpa using hlen⟩
          rw [← hdec]
          by_cases hxy : x'' = y''
          · simp [hxy]
          · simp [hxy]
        · rw [decide_eq_false hk]
          simp only [Bool.not_false, if_true]
          have hf : decide (x = y) = false := by rw [← hdec]; simp [hk]
          rw [hf] at h
          exact wpAny_bind (wpAny_pure (wpAny_pure (wpAny_pure h)))
  · rintro ⟨r1, r2⟩ s' ⟨hr, rfl, x', y', xs', ys', hz, hm, hx', hy', hdec, hlen⟩
    simp only at hr
    subst hr
    refine wpAny_pure ?_
    have hfin : (xs.size == ys.size) = decide (x = y) := by
      rw [← hdec, ← hlen]
      cases x' with
      | nil =>
        rw [kR.mp hx']
        cases y' with
        | nil => rw [kR.mp hy']; simp
        | cons k2 y'' => obtain ⟨v', ys'', rfl, h2, hy''⟩ := xP.mp hy'; simp
      | cons k1 x'' =>
        obtain ⟨u', xs'', rfl, h1, hx''⟩ := xP.mp hx'
        cases y' with
        | nil => rw [kR.mp hy']; simp
        | cons k2 y'' => obtain ⟨v', ys'', rfl, h2, hy''⟩ := xP.mp hy'; simp at hz
    show P (.done (.ret (.bool (xs.size == ys.size)))) s'
    rw [hfin]; exact h
theorem zPK {n : Nat} : ∀ {ks : List NK}, zJR ks ≤ n → ∀ k ∈ ks, zBV k ≤ n
  | [], _, k, hk => by simp at hk
  | x :: xs, hx, k, hk => by
    rw [zKI] at hx
    rcases List.mem_cons.mp hk with rfl | hk
    · (first | lia | omega)
    · exact zPK (by (first | lia | omega)) k hk
theorem zVT : ∀ (n : Nat) {A : Around} {E : Value → Shared → Prop} {s : Shared} {x y : NK} {u v : Value} {Q : Bool → Shared → Prop}, zBV x ≤ n → A.units + n < cLine → isN (mk prog w) s.heap x u → isN (mk prog w) s.heap y v → Q (decide (x = y)) s → wpAny (model prog w) A (eqBool u v) Q E s
  | n, A, E, s, .key a, .key b, u, v, Q, _, _, hx, hy, h => (mk prog w).eqBool (jG.mp hx) (jG.mp hy) (by rw [yIC] at h; exact h)
  | n, A, E, s, .key a, .tup b, u, v, Q, _, hu, hx, hy, h => by
    obtain ⟨z, rz, fz⟩ := zVS (jG.mp hx)
    obtain ⟨l, o, items, m, rfl, ho, hc, hd, _⟩ := wV.mp hy
    rw [yMF] at h
    exact yKJ rz fz (items := items) ⟨o, ho, hc, m, hd⟩ (by (first | lia | omega)) prog w E Q h
  | n, A, E, s, .tup a, .key b, u, v, Q, _, hu, hx, hy, h => by
    obtain ⟨z, rz, fz⟩ := zVS (jG.mp hy)
    obtain ⟨l, o, items, m, rfl, ho, hc, hd, _⟩ := wV.mp hx
    rw [yMG] at h
    exact yKI rz fz (items := items) ⟨o, ho, hc, m, hd⟩ (by (first | lia | omega)) prog w E Q h
  | 0, A, E, s, .tup a, .tup b, u, v, Q, hd, _, hx, hy, h => by rw [zAN] at hd; (first | lia | omega)
  | n + 1, A, E, s, .tup x, .tup y, u, v, Q, hd, hu, hx, hy, h => by
    obtain ⟨a, _, _, _, ea, _⟩ := wV.mp hx
    obtain ⟨b, _, _, _, eb, _⟩ := wV.mp hy
    subst ea eb
    rw [zAN] at hd
    rw [yMH] at h
    unfold eqBool
    try with_reducible refine wpAny_holding ?_
    show wpAny _ _ (if (Value.ref a == Value.ref b) = true then _ else _) Q E s
    by_cases hab : (Value.ref a == Value.ref b) = true
    · rw [if_pos hab]
      have e : a = b := by have := eq_of_beq hab; injection this
      subst e
      have : x = y := NK.tup.inj (zTS hx hy)
      subst this
      exact wpAny_bind (wpAny_rule (wpAny_pure (by simpa using h)))
    · rw [if_neg hab]
      refine wpAny_bind (wpAny_richCompare_same_room (op := .Eq) (zLH hx) (zLH hy) F.slot_tuple_eq
        (wpAny_call_entry F.slot_tuple_eq (zLH hx) F.entry_tuple_eq (yCK (fun k1 hk1 k2 u v Q h1 h2 h3 => zVT n (zPK (by (first | lia | omega)) k1 hk1) (show A.units + 1 + n < cLine by (first | lia | omega)) h1 h2 h3) hx hy ⟨_, rfl, (fun e => nomatch e), wpAny_truthy_bool h⟩) (F.args_tuple_eq_2 _ _)) (by (first | lia | omega)))
theorem yAR : ∀ (n m : Nat) {A : Around} {E : Value → Shared → Prop} {s : Shared} {x : NK} {u : Value} {Q : Bool → Shared → Prop}, zBV x ≤ n → n < m → isN (mk prog w) s.heap x u → Q true s → wpAny (model prog w) A (eqIsQuiet m u) Q E s
  | n, m, A, E, s, .key k, u, Q, _, _, hx, h => by
    rw [eqIsQuiet_byValue m ((mk prog w).byValue _ _ (jG.mp hx))]
    exact wpAny_pure h
  | 0, m, A, E, s, .tup ks, u, Q, hd, _, hx, h => by rw [zAN] at hd; (first | lia | omega)
  | n + 1, 0, A, E, s, .tup ks, u, Q, hd, hm, hx, h => by (first | lia | omega)
  | n + 1, m + 1, A, E, s, .tup ks, u, Q, hdp, hm, hx, h => by
    obtain ⟨a, o, items, j, rfl, ho, hc, hd, hi⟩ := wV.mp hx
    have hT : s.TypeIs (.ref a) "tuple" := ⟨o, ho, hc⟩
    rw [zAN] at hdp
    unfold eqIsQuiet
    refine wpAny_bind (wpAny_specialOf hT F.slot_tuple_eq.lookup ?_)
    show wpAny _ _ (isInstance (.ref a) (.type "tuple") >>= _) _ _ s
    refine wpAny_bind (wpAny_isInstance hT isSubtype_tuple_tuple ?_)
    simp only [Bool.not_true, Bool.false_eq_true, if_false]
    refine wpAny_bind (wpAny_seqItems ho hd ?_)
    refine wpAny_bind ?_
    show wpAny _ _ (forIn items _ _) _ _ s
    rw [← Array.forIn_toList]
    refine wpAny_forIn_list _ (fun rest r s' => r.1 = none ∧ s' = s ∧ ∃ left, (∀ k ∈ left, k ∈ ks) ∧ zHF (mk prog w) s.heap left rest) _ ?_ ?_ _ _ ⟨rfl, rfl, ks, fun k hk => hk, hi⟩
    · rintro v rest r s' ⟨hr, rfl, left, hm', hl⟩
      cases left with
      | nil => rw [kR] at hl; cases hl
      | cons k left =>
        obtain ⟨v', r', e, h1, h2⟩ := xP.mp hl
        cases e
        refine wpAny_bind (yAR n m (zPK (by (first | lia | omega)) k (hm' k List.mem_cons_self)) (by (first | lia | omega)) h1 ?_)
        simp only [Bool.not_true, Bool.false_eq_true, if_false]
        exact wpAny_pure ⟨rfl, rfl, left, fun k hk => hm' k (List.mem_cons_of_mem _ hk), h2⟩
    · rintro ⟨r1, r2⟩ s' ⟨hr, rfl, _⟩
      simp only at hr
      subst hr
      exact wpAny_pure h
end
noncomputable def zHI (prog : Program) (w : World) : HeapKind prog w NK where
  is := fun h k a => isN (mk prog w) h k (.ref a) ∧ zBV k ≤ 4
  hash := zHG (mk prog w)
  draws := zPI
  room := fun A => A.units + 4 < cLine
  inj := fun hx hy => zTS hx.1 hy.1
  keeps := fun x ho hd hs => ⟨zVQ (fun a o' items n e q => (hs.2 a fun z => by
    subst z
    rw [ho] at e; cases e
    rw [hd] at q; cases q).trans e) x.1, x.2⟩
  pyHash := fun hu hk h => zVR 4 hk.2 hu hk.1 h
  eqBool := fun hu hx hy h => zVT 4 hx.2 hu hx.1 hy.1 h
  quiet := fun hk h => yAR 4 8 hk.2 (by decide) hk.1 h
noncomputable def DN (P : Program) (w : World) (a : Addr) (xs : List (NK × Addr × Value)) : HO :=
  .ext fun h => xs.length ≤ sizeLine ∧ (a == sysModules) = false ∧ ∃ o es ep, h.get? a = some o ∧ o.ExactDict ∧ o.data = .dict es ep ∧ es.toList = xs.map (entryOfKey (zHI P w)) ∧ (xs.map (·.1)).Nodup
end M
end L2
namespace L2
namespace M
open PySem PySem.Spec PyProof.Rows
inductive MV where
  | non | bl (b : Bool) | int (i : Int) | str (x : List Nat) | tup (ds : List MV) | scr (ds : List MV) | loc (l : Nat) | typ (n : String)
instance : Inhabited MV := ⟨.non⟩
inductive MO where
  | lst (ds : List MV) | dic (kvs : List (MV × MV)) | ins (c : Str) (fs : List (Str × MV))
abbrev Sto := List MO
noncomputable def SqF (K : PySem.W.Frag) (H : Hp) (a : Addr) (xs : List V) : Prop :=
  (∃ o, H a = some (.frz o (.lst xs))) ∨
    ∃ (o : Obj) (its : Array Value) (n : Nat), K.lookup a = some o ∧ o.cls = .type "list" ∧ o.dict = none ∧ o.data = .seq its n ∧ its.size ≤ sizeLine ∧ Vals xs its.toList
theorem SqF.l {K : PySem.W.Frag} {H : Hp} {a : Addr} {xs : List V} (h : SqF K H a xs) : SqL K H a xs := by
  rcases h with ⟨o, h⟩ | h
  · exact .inl (.inr ⟨o, h⟩)
  · exact .inr h
mutual
noncomputable def Den (K : PySem.W.Frag) (α : List Addr) (H : Hp) : MV → V → Prop
  | .non, v => v = .non
  | .bl b, v => v = .bl b
  | .int i, v => v = .int i
  | .str x, v => v = .str (mkS x)
  | .tup ds, v => ∃ a vs, v = .ref a ∧ SqT K H a vs ∧ DenL K α H ds vs
  | .scr ds, v => ∃ a vs, v = .ref a ∧ SqF K H a vs ∧ DenL K α H ds vs
  | .loc l, v => ∃ a, v = .ref a ∧ α[l]? = some a
  | .typ n, v => v = .ty n
noncomputable def DenL (K : PySem.W.Frag) (α : List Addr) (H : Hp) : List MV → List V → Prop
  | [], vs => vs = []
  | d :: ds, vs => ∃ v r, vs = v :: r ∧ Den K α H d v ∧ DenL K α H ds r
end
structure Ex0 (α : List Addr) (H : Hp) (α' : List Addr) (H' : Hp) : Prop where
  pre : ∃ t, α' = α ++ t
  tup : ∀ b xs, H b = some (.tup xs) → H' b = some (.tup xs)
  frz : ∀ b o u, H b = some (.frz o u) → H' b = some (.frz o u)
structure Ext (α : List Addr) (H : Hp) (α' : List Addr) (H' : Hp) : Prop extends Ex0 α H α' H' where
  new : ∀ b ∈ α', b ∈ α ∨ H b = none
  keep : ∀ b o, H b = some o → b ∉ α → H' b = some o
  has : ∀ b o, H b = some o → ∃ o', H' b = some o'
section
variable {K : PySem.W.Frag} {α α' α'' : List Addr} {H H' H'' : Hp}
theorem Ext.refl (α : List Addr) (H : Hp) : Ext α H α H := ⟨⟨⟨[], by simp⟩, fun _ _ h => h, fun _ _ _ h => h⟩, fun b h => .inl h, fun _ _ h _ => h, fun _ o h => ⟨o, h⟩⟩
theorem Ex0.grow (α t : List Addr) (H : Hp) : Ex0 α H (α ++ t) H := ⟨⟨t, rfl⟩, fun _ _ h => h, fun _ _ _ h => h⟩
theorem Ext.free (x : Ext α H α' H') {b : Addr} (h : H' b = none) : H b = none := by
  cases e : H b with
  | none => rfl
  | some o => obtain ⟨o', h'⟩ := x.has b o e; rw [h] at h'; cases h'
theorem Ext.out (x : Ext α H α' H') {b : Addr} {o : HO} (h : H b = some o) (n : b ∉ α) : b ∉ α' := fun z => by
  rcases x.new b z with z | z
  · exact n z
  · rw [h] at z; cases z
theorem Ext.trans (x : Ext α H α' H') (y : Ext α' H' α'' H'') : Ext α H α'' H'' where
  pre := by
    obtain ⟨t, rfl⟩ := x.pre
    obtain ⟨u, rfl⟩ := y.pre
    exact ⟨t ++ u, by rw [List.append_assoc]⟩
  new := fun b h => (y.new b h).elim (x.new b) fun z => .inr (x.free z)
  keep := fun b o h n => y.keep b o (x.keep b o h n) (x.out h n)
  has := fun b o h => let ⟨o', h'⟩ := x.has b o h; y.has b o' h'
  tup := fun b xs h => y.tup b xs (x.tup b xs h)
  frz := fun b o u h => y.frz b o u (x.frz b o u h)
theorem Ex0.at (x : Ex0 α H α' H') {l : Nat} {a : Addr} (h : α[l]? = some a) : α'[l]? = some a := by
  obtain ⟨t, rfl⟩ := x.pre
  rw [List.getElem?_append_left (List.getElem?_eq_some_iff.mp h).1]
  exact h
theorem Ex0.sqT (x : Ex0 α H α' H') {a : Addr} {vs : List V} (q : SqT K H a vs) : SqT K H' a vs := by
  rcases q with (q | ⟨o, q⟩) | q
  · exact .inl (.inl (x.tup a vs q))
  · exact .inl (.inr ⟨o, x.frz a o _ q⟩)
  · exact .inr q
theorem Ex0.sqF (x : Ex0 α H α' H') {a : Addr} {vs : List V} (q : SqF K H a vs) : SqF K H' a vs := by
  rcases q with ⟨o, q⟩ | q
  · exact .inl ⟨o, x.frz a o _ q⟩
  · exact .inr q
mutual
theorem Den.ex0 (x : Ex0 α H α' H') : ∀ {d : MV} {v : V}, Den K α H d v → Den K α' H' d v
  | .non, _, q => by unfold Den at q ⊢; exact q
  | .bl _, _, q => by unfold Den at q ⊢; exact q
  | .int _, _, q => by unfold Den at q ⊢; exact q
  | .str _, _, q => by unfold Den at q ⊢; exact q
  | .typ _, _, q => by unfold Den at q ⊢; exact q
  | .loc _, _, q => by
    unfold Den at q ⊢
    obtain ⟨a, e, h⟩ := q
    exact ⟨a, e, x.at h⟩
  | .tup ds, _, q => by
    unfold Den at q ⊢
    obtain ⟨a, vs, e, s, l⟩ := q
    exact ⟨a, vs, e, x.sqT s, DenL.ex0 x l⟩
  | .scr ds, _, q => by
    unfold Den at q ⊢
    obtain ⟨a, vs, e, s, l⟩ := q
    exact ⟨a, vs, e, x.sqF s, DenL.ex0 x l⟩
theorem DenL.ex0 (x : Ex0 α H α' H') : ∀ {ds : List MV} {vs : List V}, DenL K α H ds vs → DenL K α' H' ds vs
  | [], _, q => by unfold DenL at q ⊢; exact q
  | d :: ds, _, q => by
    unfold DenL at q ⊢
    obtain ⟨v, r, e, a, l⟩ := q
    exact ⟨v, r, e, Den.ex0 x a, DenL.ex0 x l⟩
end
theorem Den.ext (x : Ext α H α' H') {d : MV} {v : V} (q : Den K α H d v) : Den K α' H' d v := q.ex0 x.toEx0
theorem DenL.ext (x : Ext α H α' H') {d : List MV} {v : List V} (q : DenL K α H d v) : DenL K α' H' d v := q.ex0 x.toEx0
theorem zLI : Den K α H .non .non := by unfold Den; rfl
theorem kD (b : Bool) : Den K α H (.bl b) (.bl b) := by unfold Den; rfl
theorem kE (i : Int) : Den K α H (.int i) (.int i) := by unfold Den; rfl
theorem zCB (x : List Nat) : Den K α H (.str x) (.str (mkS x)) := by unfold Den; rfl
theorem yAS (n : String) : Den K α H (.typ n) (.ty n) := by unfold Den; rfl
theorem zAB {ds : List MV} {a : Addr} {vs : List V} (s : SqT K H a vs) (l : DenL K α H ds vs) : Den K α H (.tup ds) (.ref a) := by unfold Den; exact ⟨a, vs, rfl, s, l⟩
theorem yAT {ds : List MV} {a : Addr} {vs : List V} (s : SqF K H a vs) (l : DenL K α H ds vs) : Den K α H (.scr ds) (.ref a) := by unfold Den; exact ⟨a, vs, rfl, s, l⟩
theorem zOM {l : Nat} {a : Addr} (h : α[l]? = some a) : Den K α H (.loc l) (.ref a) := by unfold Den; exact ⟨a, rfl, h⟩
theorem zCO {v : V} (d : Den K α H .non v) : v = .non := by unfold Den at d; exact d
theorem zGM {b : Bool} {v : V} (d : Den K α H (.bl b) v) : v = .bl b := by unfold Den at d; exact d
theorem gY {i : Int} {v : V} (d : Den K α H (.int i) v) : v = .int i := by unfold Den at d; exact d
theorem gZ {x : List Nat} {v : V} (d : Den K α H (.str x) v) : v = .str (mkS x) := by unfold Den at d; exact d
theorem zAO {n : String} {v : V} (d : Den K α H (.typ n) v) : v = .ty n := by unfold Den at d; exact d
theorem jC {ds : List MV} {v : V} (d : Den K α H (.tup ds) v) : ∃ a vs, v = .ref a ∧ SqT K H a vs ∧ DenL K α H ds vs := by unfold Den at d; exact d
theorem nE {ds : List MV} {v : V} (d : Den K α H (.scr ds) v) : ∃ a vs, v = .ref a ∧ SqF K H a vs ∧ DenL K α H ds vs := by unfold Den at d; exact d
theorem cB {l : Nat} {v : V} (d : Den K α H (.loc l) v) : ∃ a, v = .ref a ∧ α[l]? = some a := by unfold Den at d; exact d
theorem xN : DenL K α H [] [] := by unfold DenL; rfl
theorem xE {d : MV} {v : V} {ds : List MV} {vs : List V} (a : Den K α H d v) (l : DenL K α H ds vs) : DenL K α H (d :: ds) (v :: vs) := by unfold DenL; exact ⟨v, vs, rfl, a, l⟩
theorem DenL.uncons {d : MV} {ds : List MV} {vs : List V} (l : DenL K α H (d :: ds) vs) : ∃ v r, vs = v :: r ∧ Den K α H d v ∧ DenL K α H ds r := by unfold DenL at l; exact l
theorem DenL.isnil {vs : List V} (l : DenL K α H [] vs) : vs = [] := by unfold DenL at l; exact l
theorem DenL.length : ∀ {ds : List MV} {vs : List V}, DenL K α H ds vs → vs.length = ds.length
  | [], _, q => by rw [q.isnil]; rfl
  | d :: ds, _, q => by
    obtain ⟨v, r, rfl, _, l⟩ := q.uncons
    rw [List.length_cons, List.length_cons, DenL.length l]
theorem DenL.append : ∀ {ds es : List MV} {vs us : List V}, DenL K α H ds vs → DenL K α H es us → DenL K α H (ds ++ es) (vs ++ us)
  | [], _, _, _, q, l => by rw [q.isnil]; exact l
  | d :: ds, _, _, _, q, l => by
    obtain ⟨v, r, rfl, a, l'⟩ := q.uncons
    exact xE a (DenL.append l' l)
theorem DenL.drop : ∀ {ds : List MV} {vs : List V} (n : Nat), DenL K α H ds vs → DenL K α H (ds.drop n) (vs.drop n)
  | _, _, 0, q => q
  | [], _, n + 1, q => by rw [q.isnil]; exact xN
  | d :: ds, _, n + 1, q => by
    obtain ⟨v, r, rfl, _, l⟩ := q.uncons
    exact DenL.drop n l
theorem DenL.take : ∀ {ds : List MV} {vs : List V} (n : Nat), DenL K α H ds vs → DenL K α H (ds.take n) (vs.take n)
  | _, _, 0, q => xN
  | [], _, n + 1, q => by rw [q.isnil]; exact xN
  | d :: ds, _, n + 1, q => by
    obtain ⟨v, r, rfl, a, l⟩ := q.uncons
    exact xE a (DenL.take n l)
theorem DenL.reverse : ∀ {ds : List MV} {vs : List V}, DenL K α H ds vs → DenL K α H ds.reverse vs.reverse
  | [], _, q => by rw [q.isnil]; exact xN
  | d :: ds, _, q => by
    obtain ⟨v, r, rfl, a, l⟩ := q.uncons
    rw [List.reverse_cons, List.reverse_cons]
    exact (DenL.reverse l).append (xE a xN)
theorem DenL.set {d : MV} {v : V} (a : Den K α H d v) : ∀ {ds : List MV} {vs : List V} (n : Nat), DenL K α H ds vs → DenL K α H (ds.set n d) (vs.set n v)
  | [], _, _, q => by rw [q.isnil]; exact xN
  | e :: ds, _, 0, q => by
    obtain ⟨v', r, rfl, a', l⟩ := q.uncons
    exact xE a l
  | e :: ds, _, n + 1, q => by
    obtain ⟨v', r, rfl, a', l⟩ := q.uncons
    exact xE a' (DenL.set a n l)
theorem DenL.get : ∀ {ds : List MV} {vs : List V} {i : Nat} {v : V}, DenL K α H ds vs → vs[i]? = some v → ∃ d, ds[i]? = some d ∧ Den K α H d v
  | [], _, _, _, q, e => by rw [q.isnil] at e; simp at e
  | d :: ds, _, 0, _, q, e => by
    obtain ⟨v, r, rfl, a, l⟩ := q.uncons
    simp at e; subst e
    exact ⟨d, rfl, a⟩
  | d :: ds, _, i + 1, _, q, e => by
    obtain ⟨v, r, rfl, a, l⟩ := q.uncons
    obtain ⟨d', h1, h2⟩ := DenL.get (i := i) l (by simpa using e)
    exact ⟨d', by simpa using h1, h2⟩
theorem DenL.at {ds : List MV} {vs : List V} {i : Nat} {d : MV} (q : DenL K α H ds vs) (e : ds[i]? = some d) : ∃ v, vs[i]? = some v ∧ Den K α H d v := by
  have hi : i < ds.length := (List.getElem?_eq_some_iff.mp e).1
  have hv : i < vs.length := by rw [q.length]; exact hi
  obtain ⟨d', h1, h2⟩ := q.get (List.getElem?_eq_getElem hv)
  rw [e] at h1; cases h1
  exact ⟨_, List.getElem?_eq_getElem hv, h2⟩
theorem DenL.cut {ds : List MV} {vs : List V} (q : DenL K α H ds vs) (lo hi : Option Int) : DenL K α H (nB ds lo hi) (zVM vs lo hi) := by
  unfold nB zVM
  rw [q.length]
  exact (q.drop _).take _
theorem zSP : ∀ (ns : List Int), DenL K α H (ns.map MV.int) (ns.map V.int)
  | [] => xN
  | b :: bs => xE (kE b) (zSP bs)
end
structure Gm where
  K : PySem.W.Frag
  mg : Str → Option Value
  P : Program
  w : World
abbrev _root_.L2.Cx.g (X : Cx) : Gm := ⟨X.K, X.mg, X.prog, X.w⟩
inductive DenF (K : PySem.W.Frag) (α : List Addr) (H : Hp) : List (Str × MV) → List (Str × V) → Prop
  | nil : DenF K α H [] []
  | cons {x : Str} {d : MV} {v : V} {fs gs} : Den K α H d v → DenF K α H fs gs → DenF K α H ((x, d) :: fs) ((x, v) :: gs)
theorem DenF.ex0 {K : PySem.W.Frag} {α α' : List Addr} {H H' : Hp} (x : Ex0 α H α' H') : ∀ {fs gs}, DenF K α H fs gs → DenF K α' H' fs gs
  | _, _, .nil => .nil
  | _, _, .cons a l => .cons (a.ex0 x) (DenF.ex0 x l)
noncomputable def KeyD : MV → Key → Prop
  | .int i, k => k = .inl i
  | .str x, k => k = .inr (mkS x)
  | _, _ => False
inductive DenK (K : PySem.W.Frag) (α : List Addr) (H : Hp) : List (MV × MV) → List (Key × V) → Prop
  | nil : DenK K α H [] []
  | cons {k : MV} {k' : Key} {d : MV} {v : V} {fs gs} : KeyD k k' → Den K α H d v → DenK K α H fs gs → DenK K α H ((k, d) :: fs) ((k', v) :: gs)
theorem DenK.ex0 {K : PySem.W.Frag} {α α' : List Addr} {H H' : Hp} (x : Ex0 α H α' H') : ∀ {fs gs}, DenK K α H fs gs → DenK K α' H' fs gs
  | _, _, .nil => .nil
  | _, _, .cons k a l => .cons k (a.ex0 x) (DenK.ex0 x l)
mutual
noncomputable def kS : MV → Option NK
  | .int i => some (.key (.inl i))
  | .str x => some (.key (.inr (mkS x)))
  | .tup ds => (hW ds).map .tup
  | _ => none
noncomputable def hW : List MV → Option (List NK)
  | [] => some []
  | d :: ds => (kS d).bind fun k => (hW ds).map (k :: ·)
end
inductive DenN (K : PySem.W.Frag) (α : List Addr) (H : Hp) : List (MV × MV) → List (NK × Addr × Value) → Prop
  | nil : DenN K α H [] []
  | cons {k : MV} {nk : NK} {a : Addr} {d : MV} {v : V} {u : Value} {fs xs} : kS k = some nk → zBV nk ≤ 4 → Den K α H k (.ref a) → Den K α H d v → RelV v u → DenN K α H fs xs → DenN K α H ((k, d) :: fs) ((nk, a, u) :: xs)
theorem DenN.ex0 {K : PySem.W.Frag} {α α' : List Addr} {H H' : Hp} (x : Ex0 α H α' H') : ∀ {fs xs}, DenN K α H fs xs → DenN K α' H' fs xs
  | _, _, .nil => .nil
  | _, _, .cons k e a d r l => .cons k e (a.ex0 x) (d.ex0 x) r (DenN.ex0 x l)
noncomputable def ObD (g : Gm) (α : List Addr) (H : Hp) (a : Addr) : MO → Prop
  | .lst ds => ∃ vs, H a = some (.lst vs) ∧ DenL g.K α H ds vs
  | .dic kvs => (∃ ks, H a = some (.dK ks) ∧ DenK g.K α H kvs ks) ∨ ∃ xs, H a = some (DN g.P g.w a xs) ∧ DenN g.K α H kvs xs
  | .ins c fs => ∃ C dx gs, g.mg c = some (.ref C) ∧ H a = some (.ins C dx gs) ∧ DenF g.K α H fs gs
theorem ObD.there {g : Gm} {α : List Addr} {H : Hp} {a : Addr} {o : MO} (h : ObD g α H a o) : ∃ ho, H a = some ho ∧ (∀ xs, ho ≠ .tup xs) ∧ ∀ ob u, ho ≠ .frz ob u := by
  cases o with
  | lst ds => obtain ⟨vs, h, _⟩ := h; exact ⟨_, h, (fun xs z => by cases z), fun _ _ z => by cases z⟩
  | dic ds =>
    rcases h with ⟨vs, h, _⟩ | ⟨vs, h, _⟩
    · exact ⟨_, h, (fun xs z => by cases z), fun _ _ z => by cases z⟩
    · exact ⟨_, h, (fun xs z => by cases z), fun _ _ z => by cases z⟩
  | ins c ds => obtain ⟨_, _, _, _, h, _⟩ := h; exact ⟨_, h, (fun xs z => by cases z), fun _ _ z => by cases z⟩
theorem ObD.move {g : Gm} {α α' : List Addr} {H H' : Hp} {a : Addr} {o : MO} (h : ObD g α H a o) (x : Ex0 α H α' H') (e : H' a = H a) : ObD g α' H' a o := by
  cases o with
  | lst ds => obtain ⟨vs, h, l⟩ := h; exact ⟨vs, e.trans h, l.ex0 x⟩
  | dic ds =>
    rcases h with ⟨vs, h, l⟩ | ⟨vs, h, l⟩
    · exact .inl ⟨vs, e.trans h, l.ex0 x⟩
    · exact .inr ⟨vs, e.trans h, l.ex0 x⟩
  | ins c ds => obtain ⟨C, dx, gs, m, h, l⟩ := h; exact ⟨C, dx, gs, m, e.trans h, l.ex0 x⟩
structure Wd (g : Gm) (α : List Addr) (S : Sto) (H : Hp) : Prop where
  len : α.length = S.length
  nd : α.Nodup
  obj : ∀ (l : Nat) (a : Addr) (o : MO), α[l]? = some a → S[l]? = some o → ObD g α H a o
section
variable {g : Gm} {α α' : List Addr} {S S' : Sto} {H H' : Hp}
theorem Wd.of (w : Wd g α S H) {l : Nat} {a : Addr} (h : α[l]? = some a) : ∃ o, S[l]? = some o ∧ ObD g α H a o := by
  have hl : l < S.length := by rw [← w.len]; exact (List.getElem?_eq_some_iff.mp h).1
  exact ⟨S[l], List.getElem?_eq_getElem hl, w.obj l a _ h (List.getElem?_eq_getElem hl)⟩
theorem Wd.mem (w : Wd g α S H) {a : Addr} (h : a ∈ α) : ∃ ho, H a = some ho ∧ (∀ xs, ho ≠ .tup xs) ∧ ∀ ob u, ho ≠ .frz ob u := by
  obtain ⟨l, hl⟩ := List.getElem?_of_mem h
  obtain ⟨o, _, q⟩ := w.of hl
  exact q.there
theorem Wd.newx (w : Wd g α S H) {p : Addr} {o : HO} (hp : H p = none) : Ext α H α (upd H p o) where
  pre := ⟨[], by simp⟩
  new := fun b h => .inl h
  keep := fun b o h _ => by rw [yW (xO h hp)]; exact h
  has := fun b o h => ⟨o, by rw [yW (xO h hp)]; exact h⟩
  tup := fun b o h => by rw [yW (xO h hp)]; exact h
  frz := fun b o u h => by rw [yW (xO h hp)]; exact h
theorem Wd.fresh (w : Wd g α S H) {p : Addr} (hp : H p = none) : p ∉ α := fun z => by
  obtain ⟨_, h, _⟩ := w.mem z; rw [hp] at h; cases h
theorem Wd.new (w : Wd g α S H) {p : Addr} {o : HO} (hp : H p = none) : Wd g α S (upd H p o) :=
  ⟨w.len, w.nd, fun l a ob h1 h2 => (w.obj l a ob h1 h2).move (w.newx hp).toEx0 (yW fun z => w.fresh hp (by rw [← z]; exact List.mem_of_getElem? h1))⟩
theorem Wd.writex (w : Wd g α S H) {l : Nat} {a : Addr} {o : HO} (h : α[l]? = some a) : Ext α H α (upd H a o) where
  pre := ⟨[], by simp⟩
  new := fun b h => .inl h
  keep := fun b o e n => by rw [yW fun z => n (by rw [z]; exact List.mem_of_getElem? h)]; exact e
  has := fun b o e => by
    by_cases z : b = a
    · subst z; exact ⟨_, kP⟩
    · exact ⟨o, by rw [yW z]; exact e⟩
  tup := fun b xs e => by
    obtain ⟨ho, h1, h2, _⟩ := w.mem (List.mem_of_getElem? h)
    rw [yW fun z => h2 xs (by subst z; rw [e] at h1; exact (Option.some.inj h1).symm)]; exact e
  frz := fun b ob u e => by
    obtain ⟨ho, h1, _, h2⟩ := w.mem (List.mem_of_getElem? h)
    rw [yW fun z => h2 ob u (by subst z; rw [e] at h1; exact (Option.some.inj h1).symm)]; exact e
theorem Wd.ne (w : Wd g α S H) {l m : Nat} {a b : Addr} (h : α[l]? = some a) (h' : α[m]? = some b) (n : l ≠ m) : a ≠ b := by
  rintro rfl
  obtain ⟨h1, e1⟩ := List.getElem?_eq_some_iff.mp h
  obtain ⟨h2, e2⟩ := List.getElem?_eq_some_iff.mp h'
  exact n ((List.getElem_inj w.nd).mp (e1.trans e2.symm))
theorem Wd.write (w : Wd g α S H) {l : Nat} {a : Addr} {o : HO} {ob : MO} (h : α[l]? = some a) (q : ObD g α (upd H a o) a ob) : Wd g α (S.set l ob) (upd H a o) where
  len := by rw [List.length_set]; exact w.len
  nd := w.nd
  obj := fun m b ob' h1 h2 => by
    by_cases e : l = m
    · subst e
      rw [h] at h1
      have hl : l < S.length := by rw [← w.len]; exact (List.getElem?_eq_some_iff.mp h).1
      rw [List.getElem?_set_self hl] at h2
      rw [← Option.some.inj h1, ← Option.some.inj h2]
      exact q
    · rw [List.getElem?_set_ne e] at h2
      exact (w.obj m b ob' h1 h2).move (w.writex h).toEx0 (yW (w.ne h1 h fun z => e z.symm))
theorem Wd.enterx (w : Wd g α S H) {H0 : Hp} {α0 : List Addr} (x : Ext α0 H0 α H) {b : Addr} (h0 : H0 b = none) (n : b ∉ α) : Ext α0 H0 (α ++ [b]) H where
  pre := let ⟨t, e⟩ := x.pre; ⟨t ++ [b], by rw [e, List.append_assoc]⟩
  new := fun c hc => (List.mem_append.mp hc).elim (x.new c) fun z => .inr (by rw [List.mem_singleton.mp z]; exact h0)
  keep := x.keep
  has := x.has
  tup := x.tup
  frz := x.frz
theorem Wd.enter (w : Wd g α S H) {b : Addr} {ds : List MV} {vs : List V} (h : H b = some (.lst vs)) (n : b ∉ α) (l : DenL g.K α H ds vs) : Wd g (α ++ [b]) (S ++ [.lst ds]) H where
  len := by rw [List.length_append, List.length_append, w.len]; rfl
  nd := List.nodup_append.mpr ⟨w.nd, by simp, fun a ha c hc => by rw [List.mem_singleton.mp hc]; rintro rfl; exact n ha⟩
  obj := fun m a o h1 h2 => by
    by_cases hm : m < α.length
    · rw [List.getElem?_append_left hm] at h1
      rw [List.getElem?_append_left (by rw [← w.len]; exact hm)] at h2
      exact (w.obj m a o h1 h2).move (Ex0.grow α [b] H) rfl
    · have hm' : m = α.length := by
        have := (List.getElem?_eq_some_iff.mp h1).1
        rw [List.length_append, List.length_singleton] at this
        (first | lia | omega)
      subst hm'
      rw [List.getElem?_append_right (Nat.le_refl _), Nat.sub_self] at h1
      rw [List.getElem?_append_right (by rw [w.len]; exact Nat.le_refl _), w.len, Nat.sub_self] at h2
      cases h1; cases h2
      exact ⟨vs, h, l.ex0 (Ex0.grow α [b] H)⟩
end
end M
end L2
namespace L2
namespace M
open PySem PySem.Spec PyProof.Rows
inductive R (β : Type) where
  | ok (b : β) (S : Sto) | exc (c : Str) (fs : List (Str × MV)) (S : Sto) | no
noncomputable def R.bind {β γ : Type} : R β → (β → Sto → R γ) → R γ
  | .ok b S, k => k b S
  | .exc c fs S, _ => .exc c fs S
  | .no, _ => .no
theorem R.bind_ok {β γ : Type} (b : β) (S : Sto) (k : β → Sto → R γ) : (R.ok b S).bind k = k b S := rfl
inductive Er where
  | val (d : MV) | new (ds : List MV)
instance : Inhabited Er := ⟨.val .non⟩
noncomputable def DenX (K : PySem.W.Frag) (α : List Addr) (H : Hp) : Er → V → Prop
  | .val d, v => Den K α H d v
  | .new ds, v => ∃ b vs, v = .ref b ∧ H b = some (.lst vs) ∧ b ∉ α ∧ DenL K α H ds vs
noncomputable def DenE (K : PySem.W.Frag) (H : Hp) (α' : List Addr) (H' : Hp) (r : Er) (v : V) : Prop := DenX K α' H' r v ∧ match r with | .new _ => ∀ a, v = .ref a → H a = none | _ => True
section
variable {K : PySem.W.Frag} {α α' : List Addr} {H H0 H' : Hp}
theorem DenX.ext (x : Ext α H α' H') : ∀ {r : Er} {v : V}, DenX K α H r v → DenX K α' H' r v
  | .val d, _, q => Den.ext x q
  | .new ds, _, ⟨b, vs, e, h, n, l⟩ => ⟨b, vs, e, x.keep b _ h n, x.out h n, l.ext x⟩
theorem DenE.val {d : MV} {v : V} (q : Den K α' H' d v) : DenE K H α' H' (.val d) v := ⟨q, trivial⟩
theorem DenE.back (hf : ∀ b, H b = none → H0 b = none) {r : Er} {v : V} (q : DenE K H α' H' r v) : DenE K H0 α' H' r v := by
  refine ⟨q.1, ?_⟩
  cases r with
  | new ds => exact fun a e => hf a (q.2 a e)
  | _ => trivial
theorem DenE.ext {α'' : List Addr} {H'' : Hp} (x : Ext α' H' α'' H'') {r : Er} {v : V} (q : DenE K H α' H' r v) : DenE K H α'' H'' r v := ⟨q.1.ext x, q.2⟩
end
section
variable {K : PySem.W.Frag} {α : List Addr} {H : Hp} {v : V}
theorem zMT (d : DenX K α H (.val .non) v) : v = .non := zCO (K := K) (α := α) (H := H) d
theorem zJT {b : Bool} (d : DenX K α H (.val (.bl b)) v) : v = .bl b := zGM (K := K) (α := α) (H := H) d
theorem wD {b : Int} (d : DenX K α H (.val (.int b)) v) : v = .int b := gY (K := K) (α := α) (H := H) d
theorem jD {b : List Nat} (d : DenX K α H (.val (.str b)) v) : v = .str (mkS b) := gZ (K := K) (α := α) (H := H) d
theorem yET {b : String} (d : DenX K α H (.val (.typ b)) v) : v = .ty b := zAO (K := K) (α := α) (H := H) d
theorem nF {ds : List MV} (d : DenX K α H (.val (.tup ds)) v) : ∃ a vs, v = .ref a ∧ SqT K H a vs ∧ DenL K α H ds vs := jC (K := K) (α := α) (H := H) d
theorem zPL {ds : List MV} (d : DenX K α H (.val (.scr ds)) v) : ∃ a vs, v = .ref a ∧ SqF K H a vs ∧ DenL K α H ds vs := nE (K := K) (α := α) (H := H) d
theorem zEN {l : Nat} (d : DenX K α H (.val (.loc l)) v) : ∃ a, v = .ref a ∧ α[l]? = some a := cB (K := K) (α := α) (H := H) d
end
noncomputable def zJU : List Er → List V → List Addr
  | .new _ :: rs, .ref b :: vs => b :: zJU rs vs
  | _ :: rs, _ :: vs => zJU rs vs
  | _, _ => []
inductive ArgsE (K : PySem.W.Frag) (H : Hp) (α' : List Addr) (H' : Hp) : List Er → List V → Prop
  | nil : ArgsE K H α' H' [] []
  | cons {r v rs vs} : DenE K H α' H' r v → (∀ ds b, r = .new ds → v = .ref b → b ∉ zJU rs vs) → ArgsE K H α' H' rs vs → ArgsE K H α' H' (r :: rs) (v :: vs)
theorem ArgsE.nones {K : PySem.W.Frag} {H : Hp} {α' : List Addr} {H' : Hp} : ∀ {rs vs}, ArgsE K H α' H' rs vs → ∀ b ∈ zJU rs vs, H b = none
  | _, _, .nil => fun b h => by simp [zJU] at h
  | .val d :: _, v :: _, .cons a n l => fun b h => ArgsE.nones l b (by simpa [zJU] using h)
  | .new ds :: _, v :: _, .cons a n l => fun b h => by
    obtain ⟨c, vs, rfl, _⟩ := a.1
    rcases List.mem_cons.mp (show b ∈ c :: zJU _ _ from h) with rfl | h
    · exact a.2 _ rfl
    · exact ArgsE.nones l b h
theorem ArgsE.back {K : PySem.W.Frag} {H H0 : Hp} {α' : List Addr} {H' : Hp} (hf : ∀ b, H b = none → H0 b = none) : ∀ {rs vs}, ArgsE K H α' H' rs vs → ArgsE K H0 α' H' rs vs
  | _, _, .nil => .nil
  | _, _, .cons a n l => .cons (a.back hf) n (ArgsE.back hf l)
theorem ArgsE.length {K : PySem.W.Frag} {H : Hp} {α' : List Addr} {H' : Hp} : ∀ {rs vs}, ArgsE K H α' H' rs vs → vs.length = rs.length
  | _, _, .nil => rfl
  | _, _, .cons _ _ l => by rw [List.length_cons, List.length_cons, ArgsE.length l]
class Dn (β : Type) (τ : outParam Type) where
  d : Gm → Hp → List Addr → Sto → Hp → β → τ → Prop
  back : ∀ {g : Gm} {H H0 : Hp} {α' : List Addr} {S' : Sto} {H' : Hp} {b : β} {u : τ}, (∀ b, H b = none → H0 b = none) → d g H α' S' H' b u → d g H0 α' S' H' b u
instance : Dn Er V := ⟨fun g H α' _ H' r v => DenE g.K H α' H' r v, fun hf q => q.back hf⟩
instance : Dn Bool Bool := ⟨fun _ _ _ _ _ b u => u = b, fun _ q => q⟩
instance : Dn (List Er) (List V) := ⟨fun g H α' _ H' r v => ArgsE g.K H α' H' r v, fun hf q => q.back hf⟩
instance : Dn (Option Int) (Option Int) := ⟨fun _ _ _ _ _ b u => u = b, fun _ q => q⟩
abbrev XW := Str → List (Str × MV) → Sto → List Addr → Hp → Prop
abbrev W0 : XW := fun _ _ _ _ _ => False
noncomputable def Post {β τ : Type} [Dn β τ] (g : Gm) (W : XW) (α : List Addr) (H : Hp) : R β → (τ → Hp → Prop) → Prop
  | .ok b S, Q => ∀ u α' H', Ext α H α' H' → Wd g α' S H' → Dn.d g H α' S H' b u → Q u H'
  | .exc c fs S, _ => ∀ α' H', Ext α H α' H' → Wd g α' S H' → W c fs S α' H'
  | .no, _ => False
section
variable {β τ γ υ : Type} [Dn β τ] [Dn γ υ] {g : Gm} {W : XW} {α α' : List Addr} {H H' : Hp}
theorem Post.shift (x : Ext α H α' H') : ∀ {m : R β} {Q : τ → Hp → Prop}, Post g W α H m Q → Post g W α' H' m Q
  | .ok b S, Q, q => fun u α2 H2 x2 w2 d2 => q u α2 H2 (x.trans x2) w2 (Dn.back (fun b h => x.free h) d2)
  | .exc c fs S, _, q => fun α2 H2 x2 w2 => q α2 H2 (x.trans x2) w2
  | .no, _, q => q
theorem Post.bind {m : R β} {k : β → Sto → R γ} {Q : υ → Hp → Prop} {Q' : τ → Hp → Prop} (q : Post g W α H (m.bind k) Q)
    (f : ∀ u b S1 α1 H1, m = .ok b S1 → Ext α H α1 H1 → Wd g α1 S1 H1 → Dn.d g H α1 S1 H1 b u → Post g W α H (k b S1) Q → Q' u H1) : Post g W α H m Q' := by
  cases m with
  | ok b S => exact fun u α1 H1 x w d => f u b S α1 H1 rfl x w d q
  | exc c fs S => exact q
  | no => exact q
theorem Post.here {b : β} {S : Sto} {Q : τ → Hp → Prop} {u : τ} (q : Post g W α H (.ok b S) Q) (w : Wd g α S H) (d : Dn.d g H α S H b u) : Q u H := q u α H (Ext.refl α H) w d
end
theorem Post.val {g : Gm} {W : XW} {α : List Addr} {H : Hp} {d : MV} {S : Sto} {Q : VK} {v : V} (q : Post g W α H (.ok (Er.val d) S) Q) (w : Wd g α S H) (k : Den g.K α H d v) : Q v H := q.here w (DenE.val k)
theorem Post.newl {g : Gm} {W : XW} {α : List Addr} {H : Hp} {ds : List MV} {S : Sto} {Q : VK} {vs : List V} {p : Addr} (q : Post g W α H (.ok (Er.new ds) S) Q) (w : Wd g α S H) (hp : H p = none) (l : DenL g.K α H ds vs) : Q (.ref p) (upd H p (.lst vs)) :=
  q (.ref p) α _ (w.newx hp) (w.new hp) ⟨⟨p, vs, rfl, kP, w.fresh hp, l.ext (w.newx hp)⟩, fun a e => by cases e; exact hp⟩
theorem Post.newt {g : Gm} {W : XW} {α : List Addr} {H : Hp} {ds : List MV} {S : Sto} {Q : VK} {vs : List V} {p : Addr} (q : Post g W α H (.ok (Er.val (.tup ds)) S) Q) (w : Wd g α S H) (hp : H p = none) (l : DenL g.K α H ds vs) : Q (.ref p) (upd H p (.tup vs)) :=
  q (.ref p) α _ (w.newx hp) (w.new hp) (.val (zAB (.of kP) (l.ext (w.newx hp))))
abbrev Rho := List (Option MV)
structure Slots (K : PySem.W.Frag) (α : List Addr) (H : Hp) (ρ : Rho) (σ : St) : Prop where
  len : σ.length = ρ.length
  slot : ∀ (i : Nat) (d : MV), ρ[i]? = some (some d) → ∃ v, σ[i]? = some (some v) ∧ Den K α H d v
section
variable {K : PySem.W.Frag} {α α' : List Addr} {H H' : Hp} {ρ : Rho} {σ : St}
theorem Slots.ex0 (q : Slots K α H ρ σ) (x : Ex0 α H α' H') : Slots K α' H' ρ σ := ⟨q.len, fun i d e => let ⟨v, h1, h2⟩ := q.slot i d e; ⟨v, h1, h2.ex0 x⟩⟩
theorem Slots.ext (q : Slots K α H ρ σ) (x : Ext α H α' H') : Slots K α' H' ρ σ := q.ex0 x.toEx0
theorem yID {α : Type} {l : List α} {i j : Nat} {x y : α} (h : (l.set i x)[j]? = some y) : (j = i ∧ y = x ∧ i < l.length) ∨ (j ≠ i ∧ l[j]? = some y) := by
  by_cases hj : i = j
  · subst hj
    by_cases hl : i < l.length
    · rw [List.getElem?_set_self hl] at h
      exact .inl ⟨rfl, (Option.some.inj h).symm, hl⟩
    · rw [List.getElem?_eq_none (by rw [List.length_set]; (first | lia | omega))] at h; cases h
  · rw [List.getElem?_set_ne hj] at h
    exact .inr ⟨fun z => hj z.symm, h⟩
theorem Slots.set (q : Slots K α H ρ σ) {i : Nat} {d : MV} {v : V} (h : Den K α H d v) : Slots K α H (ρ.set i (some d)) (σ.set i (some v)) := by
  refine ⟨by rw [List.length_set, List.length_set]; exact q.len, fun j e z => ?_⟩
  rcases yID z with ⟨rfl, e', hl⟩ | ⟨hj, e'⟩
  · cases e'
    exact ⟨v, by rw [List.getElem?_set_self (by rw [q.len]; exact hl)], h⟩
  · obtain ⟨u, h1, h2⟩ := q.slot j e e'
    exact ⟨u, by rw [List.getElem?_set_ne (Ne.symm hj)]; exact h1, h2⟩
end
noncomputable def Jd (X : Cx) (W : XW) {β τ : Type} [Dn β τ] (P : (St → Hp → (τ → Hp → Prop) → Prop) → Prop) (f : Rho → Sto → R β) : Prop :=
  ∃ t, P t ∧ ∀ α ρ S σ H Q, Wd X.g α S H → Slots X.K α H ρ σ → Post X.g W α H (f ρ S) Q → t σ H Q
abbrev PEm (X : Cx) (W : XW) (e : Expr) (f : Rho → Sto → R Er) : Prop := Jd X W (PE X e) f
abbrev PTm (X : Cx) (W : XW) (e : Expr) (f : Rho → Sto → R Bool) : Prop := Jd X W (PT X e) f
abbrev PWm (X : Cx) (W : XW) (e : Expr) (f : Rho → Sto → R Bool) : Prop := Jd X W (PW X e) f
abbrev PAm (X : Cx) (W : XW) (es : List Expr) (f : Rho → Sto → R (List Er)) : Prop := Jd X W (PA X es) f
abbrev POm (X : Cx) (W : XW) (e : Option Expr) (f : Rho → Sto → R (Option Int)) : Prop := Jd X W (PO X e) f
section
variable {X : Cx} {W : XW} {a b c e : Expr} {es : List Expr} {f g h : Rho → Sto → R Er} {tf tg : Rho → Sto → R Bool} {af : Rho → Sto → R (List Er)} {pos : Pos}
noncomputable def zE : Option (Option MV) → Sto → R Er
  | some (some d), S => .ok (.val d) S
  | _, _ => .no
theorem zB (i : Nat) {x : Str} (hN : X.N[i]? = some x := by rfl) (hv : Vis X.env.scope x := by first | exact Or.inl rfl | exact Or.inr (Or.inl rfl) | exact Or.inr (Or.inr rfl)) (hd : (x == ("__debug__" : Str)) = false := by decide)
    (hcd : (x == ("__classdict__" : Str)) = false := by decide) : PEm X W (.Name x pos) (fun ρ S => zE (ρ[i]?) S) := by
  refine ⟨_, pv i hN hv hd hcd, fun α ρ S σ H Q wd sl q => ?_⟩
  dsimp only at q
  cases z : ρ[i]? with
  | none => rw [z] at q; exact q.elim
  | some o =>
    cases o with
    | none => rw [z] at q; exact q.elim
    | some d =>
      rw [z] at q
      obtain ⟨v, h1, h2⟩ := sl.slot i d z
      exact ⟨v, h1, Post.val q wd h2⟩
theorem zD {i : Int} {j : Nat} : PEm X W (.Constant (.int i) j pos) (fun _ S => .ok (.val (.int i)) S) := ⟨_, yKX, fun α ρ S σ H Q wd sl q => Post.val q wd (kE i)⟩
theorem zCC {i : Bool} {j : Nat} : PEm X W (.Constant (.bool i) j pos) (fun _ S => .ok (.val (.bl i)) S) := ⟨_, pe_bl, fun α ρ S σ H Q wd sl q => Post.val q wd (kD i)⟩
theorem yEU {j : Nat} : PEm X W (.Constant .none j pos) (fun _ S => .ok (.val .non) S) := ⟨_, yKY, fun α ρ S σ H Q wd sl q => Post.val q wd zLI⟩
theorem jE {x : Str} {j : Nat} (cs : List Nat) (hx : x = mkS cs := by rfl) : PEm X W (.Constant (.str x) j pos) (fun _ S => .ok (.val (.str cs)) S) :=
  ⟨_, yKZ, fun α ρ S σ H Q wd sl q => Post.val q wd (by rw [hx]; exact zCB cs)⟩
theorem zEO {x : Str} {i : Int} {t : Tok} (hg : Gl X x) (hm : X.mg x = some (.int i t)) (hd : (x == ("__debug__" : Str)) = false := by decide) : PEm X W (.Name x pos) (fun _ S => .ok (.val (.int i)) S) :=
  ⟨_, yAJ (v := .int i) hg hm ⟨t, rfl⟩ hd, fun α ρ S σ H Q wd sl q => Post.val q wd (kE i)⟩
theorem zCD {x : Str} {T : String} (hg : Gl X x) (hm : X.mg x = none) (hv : bootBuiltins x = some (.type T)) (hn : x ≠ "__name__" := by decide) (hd : (x == ("__debug__" : Str)) = false := by decide) : PEm X W (.Name x pos) (fun _ S => .ok (.val (.typ T)) S) :=
  ⟨_, yHH (v := .ty T) hg hm hv rfl hn hd, fun α ρ S σ H Q wd sl q => Post.val q wd (yAS T)⟩
noncomputable def Op2 (X : Cx) (W : XW) (r : R2) (F : Er → Er → Sto → R Er) : Prop := ∀ p q x y α S H Q, Wd X.g α S H → DenX X.K α H p x → DenX X.K α H q y → Post X.g W α H (F p q S) Q → r x y H Q
theorem two {r : R2} {F : Er → Er → Sto → R Er} (hF : Op2 X W r F) {ta tb : TE} (fa : ∀ α ρ S σ H Q, Wd X.g α S H → Slots X.K α H ρ σ → Post X.g W α H (f ρ S) Q → ta σ H Q)
    (fb : ∀ α ρ S σ H Q, Wd X.g α S H → Slots X.K α H ρ σ → Post X.g W α H (g ρ S) Q → tb σ H Q) {α : List Addr} {ρ : Rho} {S : Sto} {σ : St} {H : Hp} {Q : VK} (wd : Wd X.g α S H) (sl : Slots X.K α H ρ σ)
    (q : Post X.g W α H ((f ρ S).bind fun p S1 => (g ρ S1).bind fun q S2 => F p q S2) Q) : ta σ H fun x H1 => tb σ H1 fun y H2 => r x y H2 Q :=
  fa α ρ S σ H _ wd sl (q.bind fun u p S1 α1 H1 e1 x1 w1 d1 q1 => fb α1 ρ S1 σ H1 _ w1 (sl.ext x1) ((q1.shift x1).bind fun u2 p2 S2 α2 H2 e2 x2 w2 d2 q2 =>
    hF p p2 u u2 α2 S2 H2 Q w2 (d1.1.ext x2) d2.1 (q2.shift x2)))
theorem zSQ {op : Operator} {r : R2} {F : Er → Er → Sto → R Er} (ho : OpR X (binaryOp op) r) (hF : Op2 X W r F) (ha : PEm X W a f) (hb : PEm X W b g) : PEm X W (.BinOp a op b pos) (fun ρ S => (f ρ S).bind fun p S1 => (g ρ S1).bind fun q S2 => F p q S2) := by
  obtain ⟨ta, ha, fa⟩ := ha
  obtain ⟨tb, hb, fb⟩ := hb
  exact ⟨_, pe_op ho ha hb, fun α ρ S σ H Q wd sl q => two hF fa fb wd sl q⟩
theorem zTT {op : CmpOp} {r : R2} {F : Er → Er → Sto → R Er} (ho : OpR X (compareOp op) r) (hF : Op2 X W r F) (ha : PEm X W a f) (hb : PEm X W b g) (hm : behindInMarks op b = false := by first | exact yEA _ | with_unfolding_all rfl) :
    PEm X W (.Compare a [op] [b] pos) (fun ρ S => (f ρ S).bind fun p S1 => (g ρ S1).bind fun q S2 => F p q S2) := by
  obtain ⟨ta, ha, fa⟩ := ha
  obtain ⟨tb, hb, fb⟩ := hb
  exact ⟨_, yHN ho ha hb hm, fun α ρ S σ H Q wd sl q => two hF fa fb wd sl q⟩
theorem pm_ix {r : R2} {F : Er → Er → Sto → R Er} (ho : IxR X r) (hF : Op2 X W r F) (ha : PEm X W a f) (hb : PEm X W b g) (hs : zTM b := by exact fun _ _ => rfl) :
    PEm X W (.Subscript a b pos) (fun ρ S => (f ρ S).bind fun p S1 => (g ρ S1).bind fun q S2 => F p q S2) := by
  obtain ⟨ta, ha, fa⟩ := ha
  obtain ⟨tb, hb, fb⟩ := hb
  exact ⟨_, pe_ix ho ha hb hs, fun α ρ S σ H Q wd sl q => two hF fa fb wd sl q⟩
noncomputable def asB : Er → Sto → R Bool
  | .val (.bl b), S => .ok b S
  | _, _ => .no
theorem zVU {p : Er} {S : Sto} {α : List Addr} {H : Hp} {Q : Bool → Hp → Prop} (q : Post X.g W α H (asB p S) Q) : ∃ k, p = .val (.bl k) ∧ Post X.g W α H (.ok k S) Q := by
  unfold asB at q
  split at q
  · exact ⟨_, rfl, q⟩
  · exact q.elim
theorem zPM {β τ : Type} [Dn β τ] {p : Er} {S : Sto} {α : List Addr} {H : Hp} {k : Bool → Sto → R β} {Q : τ → Hp → Prop} (q : Post X.g W α H ((asB p S).bind k) Q) : ∃ c, p = .val (.bl c) ∧ Post X.g W α H (k c S) Q := by
  unfold asB at q
  split at q
  · exact ⟨_, rfl, q⟩
  · exact q.elim
theorem zKJ {op : CmpOp} {r : R2} {F : Er → Er → Sto → R Er} (ho : OpR X (compareOp op) r) (hF : Op2 X W r F) (ha : PEm X W a f) (hb : PEm X W b g) (hm : behindInMarks op b = false := by first | exact yEA _ | with_unfolding_all rfl) :
    PTm X W (.Compare a [op] [b] pos) (fun ρ S => ((f ρ S).bind fun p S1 => (g ρ S1).bind fun q S2 => F p q S2).bind asB) := by
  obtain ⟨ta, ha, fa⟩ := ha
  obtain ⟨tb, hb, fb⟩ := hb
  refine ⟨_, yHO ho ha hb hm, fun α ρ S σ H Q wd sl q => ?_⟩
  refine two hF fa fb wd sl (Q := fun x H' => ∃ k, x = .bl k ∧ Q k H') (q.bind fun u p S1 α1 H1 e1 x1 w1 d1 q1 => ?_)
  obtain ⟨k, rfl, q2⟩ := zVU (q1.shift x1)
  exact ⟨k, zJT d1.1, q2.here w1 rfl⟩
noncomputable def chF (F G : Er → Er → Sto → R Er) (p q : Er) (S : Sto) (k : Sto → R Er) : R Er := (F p q S).bind fun z S1 => (asB z S1).bind fun c S2 => if c = true then (k S2).bind fun r S3 => G q r S3 else .ok (.val (.bl false)) S2
theorem chain {r r' : R2} {F G : Er → Er → Sto → R Er} (hF : Op2 X W r F) (hG : Op2 X W r' G) {ta tb tc : TE} (fa : ∀ α ρ S σ H Q, Wd X.g α S H → Slots X.K α H ρ σ → Post X.g W α H (f ρ S) Q → ta σ H Q)
    (fb : ∀ α ρ S σ H Q, Wd X.g α S H → Slots X.K α H ρ σ → Post X.g W α H (g ρ S) Q → tb σ H Q) (fc : ∀ α ρ S σ H Q, Wd X.g α S H → Slots X.K α H ρ σ → Post X.g W α H (h ρ S) Q → tc σ H Q) {α : List Addr} {ρ : Rho} {S : Sto} {σ : St} {H : Hp} {Q : VK} (wd : Wd X.g α S H) (sl : Slots X.K α H ρ σ)
    (q : Post X.g W α H ((f ρ S).bind fun p S1 => (g ρ S1).bind fun q S2 => chF F G p q S2 fun S3 => h ρ S3) Q) : zYA r r' ta tb tc σ H Q :=
  fa α ρ S σ H _ wd sl (q.bind fun u p S1 α1 H1 e1 x1 w1 d1 q1 => fb α1 ρ S1 σ H1 _ w1 (sl.ext x1) ((q1.shift x1).bind fun u2 p2 S2 α2 H2 e2 x2 w2 d2 q2 => by
    refine hF p p2 u u2 α2 S2 H2 _ w2 (d1.1.ext x2) d2.1 (Post.bind (q2.shift x2) fun u3 p3 S3 α3 H3 e3 x3 w3 d3 q3 => ?_)
    obtain ⟨k, rfl, q4⟩ := zPM (q3.shift x3)
    refine ⟨k, zJT d3.1, ?_⟩
    cases k with
    | true =>
      rw [if_pos rfl] at q4 ⊢
      exact fc α3 ρ S3 σ H3 _ w3 (((sl.ext x1).ext x2).ext x3) (q4.bind fun u5 p5 S5 α5 H5 e5 x5 w5 d5 q5 => hG p2 p5 u2 u5 α5 S5 H5 Q w5 ((d2.1.ext x3).ext x5) d5.1 (q5.shift x5))
    | false =>
      rw [if_neg Bool.false_ne_true] at q4 ⊢
      exact Post.val q4 w3 (kD false)))
theorem zVV {op op' : CmpOp} {r r' : R2} {F G : Er → Er → Sto → R Er} (ho : OpR X (compareOp op) r) (ho' : OpR X (compareOp op') r') (hF : Op2 X W r F) (hG : Op2 X W r' G) (ha : PEm X W a f) (hb : PEm X W b g) (hc : PEm X W c h)
    (hm : lastMarks [op, op'] [b, c] = false := by with_unfolding_all rfl) :
    PEm X W (.Compare a [op, op'] [b, c] pos) (fun ρ S => (f ρ S).bind fun p S1 => (g ρ S1).bind fun q S2 => chF F G p q S2 fun S3 => h ρ S3) := by
  obtain ⟨ta, ha, fa⟩ := ha
  obtain ⟨tb, hb, fb⟩ := hb
  obtain ⟨tc, hc, fc⟩ := hc
  exact ⟨_, yEB ho ho' ha hb hc hm, fun α ρ S σ H Q wd sl q => chain hF hG fa fb fc wd sl q⟩
theorem yEV {op op' : CmpOp} {r r' : R2} {F G : Er → Er → Sto → R Er} (ho : OpR X (compareOp op) r) (ho' : OpR X (compareOp op') r') (hF : Op2 X W r F) (hG : Op2 X W r' G) (ha : PEm X W a f) (hb : PEm X W b g) (hc : PEm X W c h)
    (hm : lastMarks [op, op'] [b, c] = false := by with_unfolding_all rfl) :
    PTm X W (.Compare a [op, op'] [b, c] pos) (fun ρ S => ((f ρ S).bind fun p S1 => (g ρ S1).bind fun q S2 => chF F G p q S2 fun S3 => h ρ S3).bind asB) := by
  obtain ⟨ta, ha, fa⟩ := ha
  obtain ⟨tb, hb, fb⟩ := hb
  obtain ⟨tc, hc, fc⟩ := hc
  refine ⟨_, yEC ho ho' ha hb hc hm, fun α ρ S σ H Q wd sl q => ?_⟩
  refine chain hF hG fa fb fc wd sl (Q := fun x H' => ∃ k, x = .bl k ∧ Q k H') (q.bind fun u p S1 α1 H1 e1 x1 w1 d1 q1 => ?_)
  obtain ⟨k, rfl, q2⟩ := zVU (q1.shift x1)
  exact ⟨k, zJT d1.1, q2.here w1 rfl⟩
noncomputable def cC : Er → Sto → R Bool
  | .val .non, S => .ok false S
  | .val (.bl b), S => .ok b S
  | .val (.int i), S => .ok (i != 0) S
  | .val (.str x), S => if x.length ≤ sizeLine then .ok (!x.isEmpty) S else .no
  | .val (.tup ds), S => .ok (!ds.isEmpty) S
  | .val (.scr ds), S => .ok (!ds.isEmpty) S
  | .val (.loc l), S => match S[l]? with
    | some (.lst ds) => .ok (!ds.isEmpty) S
    | _ => .no
  | .val (.typ _), _ => .no
  | .new ds, S => .ok (!ds.isEmpty) S
theorem zJB {ds : List MV} {vs : List V} {K : PySem.W.Frag} {α : List Addr} {H : Hp} (l : DenL K α H ds vs) : (!vs.isEmpty) = !ds.isEmpty := by
  have := l.length
  cases ds <;> cases vs <;> simp_all
theorem yEW {p : Er} {x : V} {S : Sto} {α : List Addr} {H : Hp} {Q : Bool → Hp → Prop} (wd : Wd X.g α S H) (d : DenX X.K α H p x) (q : Post X.g W α H (cC p S) Q) : ∃ k, TruV X.K x H k ∧ Q k H := by
  match p, d, q with
  | .val .non, d, q => cases zMT d; exact ⟨_, rfl, q.here wd rfl⟩
  | .val (.bl b), d, q => cases zJT d; exact ⟨_, rfl, q.here wd rfl⟩
  | .val (.int i), d, q => cases wD d; exact ⟨_, rfl, q.here wd rfl⟩
  | .val (.typ n), d, q => exact q.elim
  | .val (.str z), d, q =>
    cases jD d
    have q' : Post X.g W α H (if z.length ≤ sizeLine then R.ok (!z.isEmpty) S else R.no) Q := q
    split at q'
    · rename_i hz
      refine ⟨_, ⟨by rw [gE]; exact hz, ?_⟩, q'.here wd rfl⟩
      rw [gE]
      cases z with
      | nil => rfl
      | cons c r =>
        have h0 : ((r.length : Int) + 1) ≠ 0 := by (first | lia | omega)
        simp [h0]
    · exact q'.elim
  | .val (.tup ds), d, q =>
    obtain ⟨a, vs, rfl, s, l⟩ := nF d
    exact ⟨_, .inr (.inl ⟨vs, s, (zJB l).symm⟩), q.here wd rfl⟩
  | .val (.scr ds), d, q =>
    obtain ⟨a, vs, rfl, s, l⟩ := zPL d
    exact ⟨_, .inl ⟨vs, s.l, (zJB l).symm⟩, q.here wd rfl⟩
  | .val (.loc n), d, q =>
    obtain ⟨a, rfl, h⟩ := zEN d
    obtain ⟨o, h1, h2⟩ := wd.of h
    have q' : Post X.g W α H (match S[n]? with | some (.lst ds) => R.ok (!ds.isEmpty) S | _ => R.no) Q := q
    rw [h1] at q'
    cases o with
    | lst ds =>
      obtain ⟨vs, h3, l⟩ := h2
      exact ⟨_, .inl ⟨vs, .of h3, (zJB l).symm⟩, q'.here wd rfl⟩
    | dic ds => exact q'.elim
    | ins c fs => exact q'.elim
  | .new ds, ⟨a, vs, ex, s, n, l⟩, q => subst ex; exact ⟨_, .inl ⟨vs, .of s, (zJB l).symm⟩, q.here wd rfl⟩
theorem yP (ha : PEm X W a f) (he : ∀ whole, isTrue a X.env whole = (do let v ← whole; standAt a.pos; holding [v] (truthy v)) := by intro _; rfl) : PTm X W a (fun ρ S => (f ρ S).bind cC) := by
  obtain ⟨ta, ha, fa⟩ := ha
  exact ⟨_, yED ha he, fun α ρ S σ H Q wd sl q => fa α ρ S σ H _ wd sl (q.bind fun u p S1 α1 H1 e1 x1 w1 d1 q1 => yEW w1 d1.1 (q1.shift x1))⟩
end
end M
end L2
namespace L2
namespace M
open PySem PySem.Spec PyProof.Rows
section
variable {X : Cx} {W : XW} {a b c e : Expr} {es : List Expr} {f g h : Rho → Sto → R Er} {tf tg : Rho → Sto → R Bool} {af : Rho → Sto → R (List Er)} {pos : Pos}
noncomputable def jV (p : Er) (S : Sto) (k : Sto → R Er) : R Er := (asB p S).bind fun c S1 => if c = true then k S1 else .ok (.val (.bl false)) S1
theorem gL {op} (ha : PEm X W a f) : PEm X W (.BoolOp op [a] pos) f := let ⟨t, h, k⟩ := ha; ⟨t, yLD h, k⟩
theorem jI (ha : PEm X W a f) (hb : PEm X W (.BoolOp .And (b :: es) pos) g) : PEm X W (.BoolOp .And (a :: b :: es) pos) (fun ρ S => (f ρ S).bind fun p S1 => jV p S1 fun S2 => g ρ S2) := by
  obtain ⟨ta, ha, fa⟩ := ha
  obtain ⟨tb, hb, fb⟩ := hb
  refine ⟨_, yLE ha hb, fun α ρ S σ H Q wd sl q => fa α ρ S σ H _ wd sl (q.bind fun u p S1 α1 H1 e1 x1 w1 d1 q1 => ?_)⟩
  obtain ⟨k, rfl, q2⟩ := zPM (q1.shift x1)
  refine ⟨k, zJT d1.1, ?_⟩
  cases k with
  | true => rw [if_pos rfl] at q2 ⊢; exact fb α1 ρ S1 σ H1 _ w1 (sl.ext x1) q2
  | false => rw [if_neg Bool.false_ne_true] at q2 ⊢; exact Post.val q2 w1 (kD false)
theorem yEX (ha : PEm X W a f) : PEm X W (.UnaryOp .Not a pos) (fun ρ S => (f ρ S).bind fun p S1 => (asB p S1).bind fun k S2 => .ok (.val (.bl !k)) S2) := by
  obtain ⟨ta, ha, fa⟩ := ha
  refine ⟨_, yLF ha, fun α ρ S σ H Q wd sl q => fa α ρ S σ H _ wd sl (q.bind fun u p S1 α1 H1 e1 x1 w1 d1 q1 => ?_)⟩
  obtain ⟨k, rfl, q2⟩ := zPM (q1.shift x1)
  exact ⟨k, zJT d1.1, Post.val q2 w1 (kD _)⟩
theorem yAU (ha : PTm X W a tf) : PWm X W (.BoolOp .And [a] pos) tf := let ⟨t, h, k⟩ := ha; ⟨t, yHI h, k⟩
theorem zCP (ha : PTm X W a tf) : PWm X W (.BoolOp .Or [a] pos) tf := let ⟨t, h, k⟩ := ha; ⟨t, yLA h, k⟩
theorem yEY (ha : PTm X W a tf) (hb : PWm X W (.BoolOp .And (b :: es) pos) tg) : PWm X W (.BoolOp .And (a :: b :: es) pos) (fun ρ S => (tf ρ S).bind fun k S1 => if k = true then tg ρ S1 else .ok false S1) := by
  obtain ⟨ta, ha, fa⟩ := ha
  obtain ⟨tb, hb, fb⟩ := hb
  refine ⟨_, yLB ha hb, fun α ρ S σ H Q wd sl q => fa α ρ S σ H _ wd sl (q.bind fun u p S1 α1 H1 e1 x1 w1 d1 q1 => ?_)⟩
  cases d1
  cases u with
  | true => rw [if_pos rfl] at q1 ⊢; exact fb α1 ρ S1 σ H1 _ w1 (sl.ext x1) (q1.shift x1)
  | false => rw [if_neg Bool.false_ne_true] at q1 ⊢; exact (q1.shift x1).here w1 rfl
theorem zHJ (ha : PTm X W a tf) (hb : PWm X W (.BoolOp .Or (b :: es) pos) tg) : PWm X W (.BoolOp .Or (a :: b :: es) pos) (fun ρ S => (tf ρ S).bind fun k S1 => if k = true then .ok true S1 else tg ρ S1) := by
  obtain ⟨ta, ha, fa⟩ := ha
  obtain ⟨tb, hb, fb⟩ := hb
  refine ⟨_, pw_or ha hb, fun α ρ S σ H Q wd sl q => fa α ρ S σ H _ wd sl (q.bind fun u p S1 α1 H1 e1 x1 w1 d1 q1 => ?_)⟩
  cases d1
  cases u with
  | true => rw [if_pos rfl] at q1 ⊢; exact (q1.shift x1).here w1 rfl
  | false => rw [if_neg Bool.false_ne_true] at q1 ⊢; exact fb α1 ρ S1 σ H1 _ w1 (sl.ext x1) (q1.shift x1)
theorem zGN (h : PWm X W a tf) : PTm X W a tf := let ⟨t, h, k⟩ := h; ⟨t, h.pt, k⟩
theorem kF (ha : PTm X W a tf) : PTm X W (.UnaryOp .Not a pos) (fun ρ S => (tf ρ S).bind fun k S1 => .ok (!k) S1) := by
  obtain ⟨ta, ha, fa⟩ := ha
  refine ⟨_, yLC ha, fun α ρ S σ H Q wd sl q => fa α ρ S σ H _ wd sl (q.bind fun u p S1 α1 H1 e1 x1 w1 d1 q1 => ?_)⟩
  cases d1
  exact (q1.shift x1).here w1 rfl
end
section
variable {K : PySem.W.Frag} {H0 : Hp}
noncomputable def yI : List Er → Sto → List MV × Sto
  | [], S => ([], S)
  | .val d :: rs, S => ((d :: (yI rs S).1), (yI rs S).2)
  | .new xs :: rs, S => ((.loc S.length :: (yI rs (S ++ [.lst xs])).1), (yI rs (S ++ [.lst xs])).2)
theorem ArgsE.grow {H0 : Hp} {α : List Addr} {H : Hp} {b : Addr} {rs : List Er} {vs : List V} (q : ArgsE K H0 α H rs vs) (n : b ∉ zJU rs vs) : ArgsE K H0 (α ++ [b]) H rs vs := by
  induction q with
  | nil => exact .nil
  | @cons r v rs vs a m l ih =>
    cases r with
    | val d => exact .cons ⟨Den.ex0 (Ex0.grow α [b] H) a.1, trivial⟩ m (ih (by simpa [zJU] using n))
    | new ds =>
      obtain ⟨⟨c, us, rfl, h1, h2, h3⟩, h4⟩ := a
      have n' : b ∉ c :: zJU rs vs := n
      refine .cons ⟨⟨c, us, rfl, h1, fun z => ?_, h3.ex0 (Ex0.grow α [b] H)⟩, h4⟩ m (ih fun z => n' (List.mem_cons_of_mem _ z))
      rcases List.mem_append.mp z with z | z
      · exact h2 z
      · exact n' (by rw [List.mem_singleton.mp z]; exact List.mem_cons_self)
theorem zHK {g : Gm} {H0 : Hp} {α0 : List Addr} {H : Hp} : ∀ {rs : List Er} {vs : List V} {α : List Addr} {S : Sto}, Wd g α S H → Ext α0 H0 α H → ArgsE g.K H0 α H rs vs →
    ∃ α', Ext α0 H0 α' H ∧ Ex0 α H α' H ∧ Wd g α' (yI rs S).2 H ∧ DenL g.K α' H (yI rs S).1 vs
  | _, _, α, S, w, x, .nil => ⟨α, x, ⟨⟨[], by simp⟩, fun _ _ h => h, fun _ _ _ h => h⟩, w, xN⟩
  | .val d :: rs, v :: vs, α, S, w, x, .cons a n l => by
    obtain ⟨α', x', y', w', l'⟩ := zHK w x l
    exact ⟨α', x', y', w', xE (Den.ex0 y' a.1) l'⟩
  | .new ds :: rs, v :: vs, α, S, w, x, .cons a n l => by
    obtain ⟨⟨c, us, rfl, h1, h2, h3⟩, h4⟩ := a
    obtain ⟨α', x', y', w', l'⟩ := zHK (w.enter h1 h2 h3) (w.enterx x (h4 c rfl) h2) (l.grow (n ds c rfl rfl))
    refine ⟨α', x', ⟨?_, y'.tup, y'.frz⟩, w', xE (zOM (y'.at ?_)) l'⟩
    · obtain ⟨t, e⟩ := y'.pre
      exact ⟨[c] ++ t, by rw [e, List.append_assoc]⟩
    · rw [← w.len, List.getElem?_append_right (Nat.le_refl _), Nat.sub_self]; rfl
theorem zMU : ∀ (rs : List Er) (S : Sto), (yI rs S).1.length = rs.length
  | [], S => rfl
  | .val d :: rs, S => by show (d :: (yI rs S).1).length = _; rw [List.length_cons, zMU rs S]; rfl
  | .new ds :: rs, S => by show (_ :: (yI rs _).1).length = _; rw [List.length_cons, zMU rs _]; rfl
end
section
variable {X : Cx} {W : XW} {a b c e : Expr} {es : List Expr} {f g h : Rho → Sto → R Er} {tf tg : Rho → Sto → R Bool} {af : Rho → Sto → R (List Er)} {pos : Pos}
theorem zC : PAm X W [] (fun _ S => .ok [] S) := ⟨_, yLR, fun α ρ S σ H Q wd sl q => q.here wd .nil⟩
theorem zA (ha : PEm X W a f) (hr : PAm X W es af) (hs : starEach (a :: es) X.env = (false, eval a X.env) :: starEach es X.env := by rfl) : PAm X W (a :: es) (fun ρ S => (f ρ S).bind fun p S1 => (af ρ S1).bind fun ps S2 => .ok (p :: ps) S2) := by
  obtain ⟨ta, ha, fa⟩ := ha
  obtain ⟨tr, hr, fr⟩ := hr
  refine ⟨_, yHP ha hr hs, fun α ρ S σ H Q wd sl q => fa α ρ S σ H _ wd sl (q.bind fun u p S1 α1 H1 e1 x1 w1 d1 q1 => fr α1 ρ S1 σ H1 _ w1 (sl.ext x1) ?_)⟩
  have q1' : Post X.g W α H ((af ρ S1).bind fun ps S2 => .ok (p :: ps) S2) Q := q1
  cases z : af ρ S1 with
  | ok ps S2 =>
    rw [z] at q1'
    intro vs α2 H2 x2 w2 d2
    refine q1' (u :: vs) α2 H2 (x1.trans x2) w2 (ArgsE.cons (DenE.ext x2 d1) (fun ds b er eu hb => ?_) (ArgsE.back (fun b h => x1.free h) d2))
    subst er eu
    obtain ⟨⟨c, us, ec, h1, _⟩, _⟩ := d1
    cases ec
    have := ArgsE.nones d2 _ hb
    rw [h1] at this; cases this
  | exc c fs S2 => rw [z] at q1'; exact fun α2 H2 x2 w2 => q1' α2 H2 (x1.trans x2) w2
  | no => rw [z] at q1'; exact q1'
noncomputable def nG (rs : List Er) (S : Sto) : R Er := if rs.length ≤ sizeLine then .ok (.val (.tup (yI rs S).1)) (yI rs S).2 else .no
noncomputable def zBW (rs : List Er) (S : Sto) : R Er := if rs.length ≤ sizeLine then .ok (.new (yI rs S).1) (yI rs S).2 else .no
theorem jF {x1} (h : PAm X W es af) : PEm X W (.Tuple es x1 pos) (fun ρ S => (af ρ S).bind nG) := by
  obtain ⟨t, h, k⟩ := h
  refine ⟨_, yLS h, fun α ρ S σ H Q wd sl q => k α ρ S σ H _ wd sl (q.bind fun vs rs S1 α1 H1 e1 x1 w1 d1 q1 => ?_)⟩
  have q1' : Post X.g W α H (if rs.length ≤ sizeLine then R.ok (Er.val (.tup (yI rs S1).1)) (yI rs S1).2 else R.no) Q := q1
  split at q1'
  · rename_i hz
    obtain ⟨α2, x2, y2, w2, l2⟩ := zHK w1 x1 d1
    exact ⟨by rw [ArgsE.length d1]; exact hz, fun p hp => (q1'.shift x2).newt w2 hp l2⟩
  · exact q1'.elim
theorem nH (h : PAm X W es af) : PEm X W (.List es pos) (fun ρ S => (af ρ S).bind zBW) := by
  obtain ⟨t, h, k⟩ := h
  refine ⟨_, yLT h, fun α ρ S σ H Q wd sl q => k α ρ S σ H _ wd sl (q.bind fun vs rs S1 α1 H1 e1 x1 w1 d1 q1 => ?_)⟩
  have q1' : Post X.g W α H (if rs.length ≤ sizeLine then R.ok (Er.new (yI rs S1).1) (yI rs S1).2 else R.no) Q := q1
  split at q1'
  · rename_i hz
    obtain ⟨α2, x2, y2, w2, l2⟩ := zHK w1 x1 d1
    exact ⟨by rw [ArgsE.length d1]; exact hz, fun p hp => (q1'.shift x2).newl w2 hp l2⟩
  · exact q1'.elim
inductive ArgsX (K : PySem.W.Frag) (α : List Addr) (H : Hp) : List Er → List V → Prop
  | nil : ArgsX K α H [] []
  | cons {r v rs vs} : DenX K α H r v → ArgsX K α H rs vs → ArgsX K α H (r :: rs) (v :: vs)
theorem ArgsE.x {K : PySem.W.Frag} {H0 : Hp} {α : List Addr} {H : Hp} : ∀ {rs vs}, ArgsE K H0 α H rs vs → ArgsX K α H rs vs
  | _, _, .nil => .nil
  | _, _, .cons a _ l => .cons a.1 (ArgsE.x l)
noncomputable def zNR (X : Cx) (W : XW) (r : List V → Hp → VK → Prop) (F : List Er → Sto → R Er) : Prop := ∀ rs vs α S H Q, Wd X.g α S H → ArgsX X.K α H rs vs → Post X.g W α H (F rs S) Q → r vs H Q
theorem zN {id : String} {r : List V → Hp → VK → Prop} {F : List Er → Sto → R Er} {x : Str} {p : Pos} (hc : CallR X (.builtin id) r) (hF : zNR X W r F) (hg : Gl X x) (hm : X.mg x = none) (hv : bootBuiltins x = some (.builtin id)) (ha : PAm X W (e :: es) af)
    (hn : x ≠ "__name__" := by decide) (hdb : (x == ("__debug__" : Str)) = false := by decide)
    (he : starEach (e :: es) X.env = (false, eval e X.env) :: starEach es X.env := by rfl) (hpl : (backTo pos (starEach es X.env)).any (·.1) = false := by rfl) : PEm X W (.Call (.Name x p) (e :: es) [] pos) (fun ρ S => (af ρ S).bind F) := by
  obtain ⟨t, ha, k⟩ := ha
  exact ⟨_, yEF hc hg hm hv ha hn hdb he hpl, fun α ρ S σ H Q wd sl q => k α ρ S σ H _ wd sl (q.bind fun vs rs S1 α1 H1 e1 x1 w1 d1 q1 => hF rs vs α1 S1 H1 Q w1 (ArgsE.x d1) (q1.shift x1))⟩
theorem xD {T : String} {r : List V → Hp → VK → Prop} {F : List Er → Sto → R Er} {x : Str} {p : Pos} (hc : CallR X (.type T) r) (hF : zNR X W r F) (hg : Gl X x) (hm : X.mg x = none) (hv : bootBuiltins x = some (.type T)) (ha : PAm X W (e :: es) af)
    (hn : x ≠ "__name__" := by decide) (hdb : (x == ("__debug__" : Str)) = false := by decide)
    (he : starEach (e :: es) X.env = (false, eval e X.env) :: starEach es X.env := by rfl) (hpl : (backTo pos (starEach es X.env)).any (·.1) = false := by rfl) : PEm X W (.Call (.Name x p) (e :: es) [] pos) (fun ρ S => (af ρ S).bind F) := by
  obtain ⟨t, ha, k⟩ := ha
  exact ⟨_, yCE hc hg hm hv ha hn hdb he hpl, fun α ρ S σ H Q wd sl q => k α ρ S σ H _ wd sl (q.bind fun vs rs S1 α1 H1 e1 x1 w1 d1 q1 => hF rs vs α1 S1 H1 Q w1 (ArgsE.x d1) (q1.shift x1))⟩
noncomputable def yCL (X : Cx) (W : XW) (r : V → List V → Hp → VK → Prop) (F : Er → List Er → Sto → R Er) : Prop := ∀ p rs x vs α S H0 H Q α0, Wd X.g α S H → Ext α0 H0 α H → DenX X.K α H p x → ArgsE X.K H0 α H rs vs → Post X.g W α0 H0 (F p rs S) Q → r x vs H Q
noncomputable def TyM (X : Cx) (T : String) (ty : Er → Sto → Bool) : Prop := ∀ p x α S H, Wd X.g α S H → DenX X.K α H p x → ty p S = true → tyV X.K T x H
theorem yAV {T : String} {name : Str} {id : String} {r : V → List V → Hp → VK → Prop} {F : Er → List Er → Sto → R Er} {ty : Er → Sto → Bool} {apos : Pos} (pa : PlainAttrs T) (slot : Slot T name id) (hty : typeOf (.builtin id) = pure (.type "method_descriptor")) (hm : MtR X id r) (hF : yCL X W r F) (hT : TyM X T ty)
    (ho : PEm X W a f) (ha : PAm X W (e :: es) af)
    (hbase : attributeBase a name X.env (eval a X.env) = eval a X.env := by rfl)
    (hfew : ((backTo pos (starEach (e :: es) X.env)).all (fun x => !x.1) && (backToKw pos (keywordEach [] X.env)).all (fun x => x.1.isSome)
      && decide ((e :: es).length + ([] : List Keyword).length + (if ([] : List Keyword).isEmpty then 0 else 1) < 30)) = true := by rfl)
    (hline : (apos.endLine == pos.line) = true := by rfl) (hs : starEach (e :: es) X.env = (false, eval e X.env) :: starEach es X.env := by rfl) (hplain : (backTo pos (starEach es X.env)).any (·.1) = false := by rfl) :
    PEm X W (.Call (.Attribute a name apos) (e :: es) [] pos) (fun ρ S => (f ρ S).bind fun p S1 => if ty p S1 = true then (af ρ S1).bind fun rs S2 => F p rs S2 else .no) := by
  obtain ⟨to, ho, fo⟩ := ho
  obtain ⟨t, ha, k⟩ := ha
  refine ⟨_, pe_bm pa slot hty hm ho ha hbase hfew hline hs hplain, fun α ρ S σ H Q wd sl q => fo α ρ S σ H _ wd sl (q.bind fun u p S1 α1 H1 e1 x1 w1 d1 q1 => ?_)⟩
  split at q1
  · rename_i hz
    exact ⟨hT p u α1 S1 H1 w1 d1.1 hz, k α1 ρ S1 σ H1 _ w1 (sl.ext x1) ((q1.shift x1).bind fun vs rs S2 α2 H2 e2 x2 w2 d2 q2 => hF p rs u vs α2 S2 H1 H2 Q α1 w2 x2 (d1.1.ext x2) d2 q2)⟩
  · exact q1.elim
theorem zVW {T : String} {name : Str} {id : String} {r : V → List V → Hp → VK → Prop} {F : Er → List Er → Sto → R Er} {ty : Er → Sto → Bool} {apos : Pos} (pa : PlainAttrs T) (slot : Slot T name id) (hty : typeOf (.builtin id) = pure (.type "method_descriptor")) (hm : MtR X id r) (hF : yCL X W r F) (hT : TyM X T ty)
    (ho : PEm X W a f) (hbase : attributeBase a name X.env (eval a X.env) = eval a X.env := by rfl) (hline : (apos.endLine == pos.line) = true := by rfl) :
    PEm X W (.Call (.Attribute a name apos) [] [] pos) (fun ρ S => (f ρ S).bind fun p S1 => if ty p S1 = true then F p [] S1 else .no) := by
  obtain ⟨to, ho, fo⟩ := ho
  refine ⟨_, yLY pa slot hty hm ho hbase hline, fun α ρ S σ H Q wd sl q => fo α ρ S σ H _ wd sl (q.bind fun u p S1 α1 H1 e1 x1 w1 d1 q1 => ?_)⟩
  split at q1
  · rename_i hz
    exact ⟨hT p u α1 S1 H1 w1 d1.1 hz, hF p [] u [] α1 S1 H1 H1 Q α1 w1 (Ext.refl _ _) d1.1 .nil (q1.shift x1)⟩
  · exact q1.elim
theorem yAW : POm X W none (fun _ S => .ok none S) := ⟨_, yHS, fun α ρ S σ H Q wd sl q => q.here wd rfl⟩
noncomputable def asI : Er → Sto → R (Option Int)
  | .val (.int i), S => .ok (some i) S
  | _, _ => .no
theorem zCE (ha : PEm X W a f) : POm X W (some a) (fun ρ S => (f ρ S).bind asI) := by
  obtain ⟨ta, ha, fa⟩ := ha
  refine ⟨_, yHT ha, fun α ρ S σ H Q wd sl q => fa α ρ S σ H _ wd sl (q.bind fun u p S1 α1 H1 e1 x1 w1 d1 q1 => ?_)⟩
  unfold asI at q1
  split at q1
  · exact ⟨_, wD d1.1, (q1.shift x1).here w1 rfl⟩
  · exact q1.elim
noncomputable def Sl3 (X : Cx) (W : XW) (r : V → Option Int → Option Int → Hp → VK → Prop) (F : Er → Option Int → Option Int → Sto → R Er) : Prop := ∀ p lo hi x α S H Q, Wd X.g α S H → DenX X.K α H p x → Post X.g W α H (F p lo hi S) Q → r x lo hi H Q
theorem yEZ {lo hi : Option Expr} {r : V → Option Int → Option Int → Hp → VK → Prop} {F : Er → Option Int → Option Int → Sto → R Er} {lf hf : Rho → Sto → R (Option Int)} {p2 : Pos} (hr : SlR X r) (hF : Sl3 X W r F) (ha : PEm X W a f) (hl : POm X W lo lf) (hh : POm X W hi hf) :
    PEm X W (.Subscript a (.Slice lo hi none p2) pos) (fun ρ S => (f ρ S).bind fun p S1 => (lf ρ S1).bind fun l S2 => (hf ρ S2).bind fun u S3 => F p l u S3) := by
  obtain ⟨ta, ha, fa⟩ := ha
  obtain ⟨tl, hl, fl⟩ := hl
  obtain ⟨th, hh, fh⟩ := hh
  refine ⟨_, yEH hr ha hl hh, fun α ρ S σ H Q wd sl q => fa α ρ S σ H _ wd sl (q.bind fun u p S1 α1 H1 e1 x1 w1 d1 q1 => fl α1 ρ S1 σ H1 _ w1 (sl.ext x1) ((q1.shift x1).bind fun u2 l S2 α2 H2 e2 x2 w2 d2 q2 =>
    fh α2 ρ S2 σ H2 _ w2 ((sl.ext x1).ext x2) ((q2.shift x2).bind fun u3 m S3 α3 H3 e3 x3 w3 d3 q3 => ?_)))⟩
  cases d2
  cases d3
  exact hF p u2 u3 u α3 S3 H3 Q w3 ((d1.1.ext x2).ext x3) (q3.shift x3)
end
end M
end L2
namespace L2
namespace M
open PySem PySem.Spec PyProof.Rows
inductive Fl where
  | next (ρ : Rho) | ret (r : Er) | brk (ρ : Rho) | cont (ρ : Rho)
noncomputable def PostS (g : Gm) (W : XW) (α : List Addr) (H : Hp) (D : Ends) : R Fl → Prop
  | .ok (.next ρ) S => ∀ σ α' H', Ext α H α' H' → Wd g α' S H' → Slots g.K α' H' ρ σ → D.nx σ H'
  | .ok (.ret r) S => ∀ v α' H', Ext α H α' H' → Wd g α' S H' → DenE g.K H α' H' r v → D.rt v H'
  | .ok (.brk ρ) S => ∀ σ α' H', Ext α H α' H' → Wd g α' S H' → Slots g.K α' H' ρ σ → D.bk σ H'
  | .ok (.cont ρ) S => ∀ σ α' H', Ext α H α' H' → Wd g α' S H' → Slots g.K α' H' ρ σ → D.ct σ H'
  | .exc c fs S => ∀ α' H', Ext α H α' H' → Wd g α' S H' → W c fs S α' H'
  | .no => False
section
variable {g : Gm} {W : XW} {α α' : List Addr} {H H' : Hp} {D D' : Ends}
theorem PostS.shift (x : Ext α H α' H') : ∀ {m : R Fl}, PostS g W α H D m → PostS g W α' H' D m
  | .ok (.next ρ) S, q => fun σ α2 H2 x2 w2 s2 => q σ α2 H2 (x.trans x2) w2 s2
  | .ok (.ret r) S, q => fun v α2 H2 x2 w2 d2 => q v α2 H2 (x.trans x2) w2 (d2.back fun b h => x.free h)
  | .ok (.brk ρ) S, q => fun σ α2 H2 x2 w2 s2 => q σ α2 H2 (x.trans x2) w2 s2
  | .ok (.cont ρ) S, q => fun σ α2 H2 x2 w2 s2 => q σ α2 H2 (x.trans x2) w2 s2
  | .exc c fs S, q => fun α2 H2 x2 w2 => q α2 H2 (x.trans x2) w2
  | .no, q => q
theorem PostS.expr {β τ : Type} [Dn β τ] {m : R β} {k : β → Sto → R Fl} {Q' : τ → Hp → Prop} (q : PostS g W α H D (m.bind k))
    (f : ∀ u b S1 α1 H1, m = .ok b S1 → Ext α H α1 H1 → Wd g α1 S1 H1 → Dn.d g H α1 S1 H1 b u → PostS g W α H D (k b S1) → Q' u H1) : Post g W α H m Q' := by
  cases m with
  | ok b S => exact fun u α1 H1 x w d => f u b S α1 H1 rfl x w d q
  | exc c fs S => exact q
  | no => exact q
theorem PostS.stmt {m : R Fl} {k : Fl → Sto → R Fl} (q : PostS g W α H D (m.bind k))
    (hn : ∀ ρ S σ α1 H1, m = .ok (.next ρ) S → Ext α H α1 H1 → Wd g α1 S H1 → Slots g.K α1 H1 ρ σ → PostS g W α H D (k (.next ρ) S) → D'.nx σ H1)
    (hr : ∀ r S v α1 H1, m = .ok (.ret r) S → Ext α H α1 H1 → Wd g α1 S H1 → DenE g.K H α1 H1 r v → PostS g W α H D (k (.ret r) S) → D'.rt v H1)
    (hb : ∀ ρ S σ α1 H1, m = .ok (.brk ρ) S → Ext α H α1 H1 → Wd g α1 S H1 → Slots g.K α1 H1 ρ σ → PostS g W α H D (k (.brk ρ) S) → D'.bk σ H1)
    (hc : ∀ ρ S σ α1 H1, m = .ok (.cont ρ) S → Ext α H α1 H1 → Wd g α1 S H1 → Slots g.K α1 H1 ρ σ → PostS g W α H D (k (.cont ρ) S) → D'.ct σ H1) : PostS g W α H D' m := by
  cases m with
  | ok fl S =>
    cases fl with
    | next ρ => exact fun σ α1 H1 x w s => hn ρ S σ α1 H1 rfl x w s q
    | ret r => exact fun v α1 H1 x w d => hr r S v α1 H1 rfl x w d q
    | brk ρ => exact fun σ α1 H1 x w s => hb ρ S σ α1 H1 rfl x w s q
    | cont ρ => exact fun σ α1 H1 x w s => hc ρ S σ α1 H1 rfl x w s q
  | exc c fs S => exact q
  | no => exact q
end
noncomputable def PSm (X : Cx) (W : XW) (st : Stmt) (F : Rho → Sto → R Fl) : Prop :=
  ∃ t, PS X st t ∧ ∀ α ρ S σ H D, Wd X.g α S H → Slots X.K α H ρ σ → PostS X.g W α H D (F ρ S) → t D σ H
noncomputable def zVX (X : Cx) (W : XW) (st : List Stmt) (F : Rho → Sto → R Fl) : Prop :=
  ∃ t, PSs X st t ∧ ∀ α ρ S σ H D, Wd X.g α S H → Slots X.K α H ρ σ → PostS X.g W α H D (F ρ S) → t D σ H
noncomputable def zY (F G : Rho → Sto → R Fl) : Rho → Sto → R Fl := fun ρ S => (F ρ S).bind fun fl S1 => match fl with
  | .next ρ' => G ρ' S1
  | .ret r => .ok (.ret r) S1
  | .brk ρ' => .ok (.brk ρ') S1
  | .cont ρ' => .ok (.cont ρ') S1
section
variable {X : Cx} {W : XW} {st : Stmt} {sts as bs : List Stmt} {F G : Rho → Sto → R Fl} {f g : Rho → Sto → R Er} {tf : Rho → Sto → R Bool} {e c : Expr} {pos : Pos}
theorem yX : zVX X W [] (fun ρ S => .ok (.next ρ) S) := ⟨_, yHJ, fun α ρ S σ H D wd sl q => q σ α H (Ext.refl α H) wd sl⟩
theorem zM (h : PSm X W st F) : zVX X W [st] F := let ⟨t, h, k⟩ := h; ⟨t, yHK h, k⟩
theorem zH (h1 : PSm X W st F) (h2 : zVX X W sts G) : zVX X W (st :: sts) (zY F G) := by
  obtain ⟨t, h1, k1⟩ := h1
  obtain ⟨u, h2, k2⟩ := h2
  refine ⟨_, yDT h1 h2, fun α ρ S σ H D wd sl q => k1 α ρ S σ H _ wd sl (q.stmt ?_ ?_ ?_ ?_)⟩
  · intro ρ1 S1 σ1 α1 H1 e x1 w1 s1 q1
    exact k2 α1 ρ1 S1 σ1 H1 D w1 s1 (PostS.shift x1 q1)
  · intro r S1 v α1 H1 e x1 w1 d1 q1
    exact q1 v α1 H1 x1 w1 d1
  · intro ρ1 S1 σ1 α1 H1 e x1 w1 s1 q1
    exact q1 σ1 α1 H1 x1 w1 s1
  · intro ρ1 S1 σ1 α1 H1 e x1 w1 s1 q1
    exact q1 σ1 α1 H1 x1 w1 s1
theorem zV (he : PEm X W e f) : PSm X W (.Return (some e) pos) (fun ρ S => (f ρ S).bind fun r S1 => .ok (.ret r) S1) := by
  obtain ⟨t, he, k⟩ := he
  exact ⟨_, yLG he, fun α ρ S σ H D wd sl q => k α ρ S σ H _ wd sl (q.expr fun u r S1 α1 H1 e x1 w1 d1 q1 => q1 u α1 H1 x1 w1 d1)⟩
theorem zDY : PSm X W st (fun _ _ => .no) := ⟨_, yDU, fun α ρ S σ H D wd sl q => q.elim⟩
theorem bA (he : PEm X W e f) (hs : swapsWith e none pos.line X.env = pure false := by rfl) : PSm X W (.Expr e pos) (fun ρ S => (f ρ S).bind fun _ S1 => .ok (.next ρ) S1) := by
  obtain ⟨t, he, k⟩ := he
  exact ⟨_, yHL he hs, fun α ρ S σ H D wd sl q => k α ρ S σ H _ wd sl (q.expr fun u r S1 α1 H1 e x1 w1 d1 q1 => q1 σ α1 H1 x1 w1 (sl.ext x1))⟩
theorem xV (hc : PTm X W c tf) (ha : zVX X W as F) (hb : zVX X W bs G) : PSm X W (.If c as bs pos) (fun ρ S => (tf ρ S).bind fun k S1 => if k = true then F ρ S1 else G ρ S1) := by
  obtain ⟨tc, hc, kc⟩ := hc
  obtain ⟨ta, ha, ka⟩ := ha
  obtain ⟨tb, hb, kb⟩ := hb
  refine ⟨_, ps_if hc ha hb, fun α ρ S σ H D wd sl q => kc α ρ S σ H _ wd sl (q.expr fun u p S1 α1 H1 e x1 w1 d1 q1 => ?_)⟩
  cases d1
  cases u with
  | true => rw [if_pos rfl] at q1 ⊢; exact ka α1 ρ S1 σ H1 D w1 (sl.ext x1) (PostS.shift x1 q1)
  | false => rw [if_neg Bool.false_ne_true] at q1 ⊢; exact kb α1 ρ S1 σ H1 D w1 (sl.ext x1) (PostS.shift x1 q1)
instance : Dn Rho St := ⟨fun g _ α' _ H' ρ σ => Slots g.K α' H' ρ σ, fun _ q => q⟩
noncomputable def PGm (X : Cx) (W : XW) (tg : Expr) (gf : MV → Rho → Sto → R Rho) : Prop :=
  ∃ t, PG X tg t ∧ ∀ α ρ S σ H d v Q, Wd X.g α S H → Slots X.K α H ρ σ → Den X.K α H d v → Post X.g W α H (gf d ρ S) Q → t v σ H Q
noncomputable def PGsm (X : Cx) (W : XW) (tgs : List Expr) (gf : List MV → Rho → Sto → R Rho) : Prop :=
  ∃ t, PGs X tgs t ∧ ∀ α ρ S σ H ds vs Q, Wd X.g α S H → Slots X.K α H ρ σ → DenL X.K α H ds vs → Post X.g W α H (gf ds ρ S) Q → t vs σ H Q
noncomputable def gNm (i : Nat) : MV → Rho → Sto → R Rho := fun d ρ S => .ok (ρ.set i (some d)) S
theorem kG (i : Nat) {x : Str} (hN : X.N.Nodup) (hi : X.N[i]? = some x := by rfl) (hx : Loc X.env.scope x := by first | exact Or.inl rfl | exact Or.inr rfl) (hf : X.fn x = true ∨ X.env.scope.names.lookup x = some .local := by first | exact .inl rfl | exact .inr rfl | assumption) :
    PGm X W (.Name x pos) (gNm i) := ⟨_, yAK hN hi hx hf, fun α ρ S σ H d v Q wd sl de q => Post.here (b := ρ.set i (some d)) q wd (sl.set de)⟩
noncomputable def bB : List MV → Rho → Sto → R Rho
  | [], ρ, S => .ok ρ S
  | _, _, _ => .no
noncomputable def yS (g1 : MV → Rho → Sto → R Rho) (g2 : List MV → Rho → Sto → R Rho) : List MV → Rho → Sto → R Rho
  | d :: ds, ρ, S => (g1 d ρ S).bind fun ρ1 S1 => g2 ds ρ1 S1
  | _, _, _ => .no
theorem zPN : PGsm X W [] bB := ⟨_, yAL, fun α ρ S σ H ds vs Q wd sl de q => by
  cases ds with
  | nil => exact ⟨de.isnil, Post.here (b := ρ) q wd sl⟩
  | cons d ds => exact q.elim⟩
theorem dF {es : List Expr} {g1 : MV → Rho → Sto → R Rho} {g2 : List MV → Rho → Sto → R Rho} (h1 : PGm X W e g1) (h2 : PGsm X W es g2) (hs : (assignEach (e :: es) X.env).map (·.2) = assign e X.env :: (assignEach es X.env).map (·.2) := by rfl) : PGsm X W (e :: es) (yS g1 g2) := by
  obtain ⟨t1, h1, k1⟩ := h1
  obtain ⟨t2, h2, k2⟩ := h2
  refine ⟨_, zVJ h1 h2 hs, fun α ρ S σ H ds vs Q wd sl de q => ?_⟩
  cases ds with
  | nil => exact q.elim
  | cons d ds =>
    obtain ⟨v, r, rfl, a, l⟩ := de.uncons
    refine ⟨v, r, rfl, k1 α ρ S σ H d v _ wd sl a (Post.bind q fun u p S1 α1 H1 e x1 w1 d1 q1 => k2 α1 p S1 u H1 ds r Q w1 d1 (l.ext x1) (q1.shift x1))⟩
noncomputable def gTp (n : Nat) (g2 : List MV → Rho → Sto → R Rho) : MV → Rho → Sto → R Rho
  | .tup ds, ρ, S => if ds.length = n then g2 ds ρ S else .no
  | _, _, _ => .no
theorem zPO {es : List Expr} {k n : Nat} {g2 : List MV → Rho → Sto → R Rho} (hc : X.calm = true) (h : PGsm X W es g2)
    (hn : (assignEach es X.env).length = n := by rfl) (hst : (assignEach es X.env).findIdx? (·.1) = none := by rfl) : PGm X W (.Tuple es k pos) (gTp n g2) := by
  obtain ⟨t, h, k⟩ := h
  refine ⟨_, yDW hc h hn hst, fun α ρ S σ H d v Q wd sl de q => ?_⟩
  unfold gTp at q
  split at q
  · split at q
    · rename_i hl
      obtain ⟨a, vs, rfl, s, l⟩ := jC de
      exact ⟨a, vs, rfl, s, by rw [l.length]; exact hl, k α ρ S σ H _ vs Q wd sl l q⟩
    · exact q.elim
  · exact q.elim
noncomputable def zEP (r : Er) (S : Sto) : R MV := match r with
  | .val d => .ok d S
  | .new ds => .ok (.loc S.length) (S ++ [.lst ds])
theorem zJC {g : Gm} {H0 : Hp} {α0 α : List Addr} {H : Hp} {S : Sto} {r : Er} {v : V} (w : Wd g α S H) (x : Ext α0 H0 α H) (d : DenE g.K H0 α H r v) :
    ∃ d' S' α', zEP r S = .ok d' S' ∧ Ext α0 H0 α' H ∧ Ex0 α H α' H ∧ Wd g α' S' H ∧ Den g.K α' H d' v := by
  cases r with
  | val d' => exact ⟨d', S, α, rfl, x, ⟨⟨[], by simp⟩, fun _ _ h => h, fun _ _ _ h => h⟩, w, d.1⟩
  | new ds =>
    obtain ⟨⟨c, us, rfl, h1, h2, h3⟩, h4⟩ := d
    exact ⟨.loc S.length, S ++ [.lst ds], α ++ [c], rfl, w.enterx x (h4 c rfl) h2, Ex0.grow α [c] H, w.enter h1 h2 h3, zOM (by rw [← w.len, List.getElem?_append_right (Nat.le_refl _), Nat.sub_self]; rfl)⟩
noncomputable def xL (ρ : Rho) (i : Nat) (r : Er) (S : Sto) : R Fl := (zEP r S).bind fun d S1 => .ok (.next (ρ.set i (some d))) S1
theorem zW (i : Nat) {x : Str} {pos' : Pos} (hN : X.N.Nodup) (he : PEm X W e f) (hi : X.N[i]? = some x := by rfl) (hx : Loc X.env.scope x := by first | exact Or.inl rfl | exact Or.inr rfl)
    (hs : swapsWith e (some (.Name x pos')) pos.line X.env = pure false := by rfl) (hf : X.fn x = true ∨ X.env.scope.names.lookup x = some .local := by first | exact .inl rfl | exact .inr rfl | assumption) :
    PSm X W (.Assign [.Name x pos'] e pos) (fun ρ S => (f ρ S).bind (xL ρ i)) := by
  obtain ⟨t, he, k⟩ := he
  refine ⟨_, yLJ hN hi hx he hs hf, fun α ρ S σ H D wd sl q => k α ρ S σ H _ wd sl (q.expr fun u r S1 α1 H1 e x1 w1 d1 q1 => ?_)⟩
  obtain ⟨d', S', α', e1, x', y', w', de⟩ := zJC w1 x1 d1
  unfold xL at q1
  rw [e1] at q1
  exact q1 _ α' H1 x' w' (((sl.ext x1).ex0 y').set de)
noncomputable def yFA (gf : MV → Rho → Sto → R Rho) (ρ : Rho) (r : Er) (S : Sto) : R Fl := (zEP r S).bind fun d S1 => (gf d ρ S1).bind fun ρ' S2 => .ok (.next ρ') S2
theorem yFB {tg : Expr} {gf : MV → Rho → Sto → R Rho} (he : PEm X W e f) (hg : PGm X W tg gf) (hs : swapsWithSole [tg] e pos.line X.env = pure false := by rfl) (hw : swappedStores [tg] e X.env = pure none := by rfl)
    (h1 : (assignEach [tg] X.env).map (·.2) = [assign tg X.env] := by rfl) : PSm X W (.Assign [tg] e pos) (fun ρ S => (f ρ S).bind (yFA gf ρ)) := by
  obtain ⟨t, he, k⟩ := he
  obtain ⟨tg', hg, kg⟩ := hg
  refine ⟨_, yLI he hg hs hw h1, fun α ρ S σ H D wd sl q => k α ρ S σ H _ wd sl (q.expr fun u r S1 α1 H1 e x1 w1 d1 q1 => ?_)⟩
  obtain ⟨d', S', α', e1, x', y', w', de⟩ := zJC w1 x1 d1
  unfold yFA at q1
  rw [e1] at q1
  have q1 : PostS X.g W α H D ((gf d' ρ S').bind fun ρ' S2 => .ok (.next ρ') S2) := q1
  exact kg α' ρ S' σ H1 d' u _ w' ((sl.ext x1).ex0 y') de ((PostS.shift x' q1).expr fun σ2 ρ2 S2 α2 H2 e2 x2 w2 s2 q2 => q2 σ2 α2 H2 x2 w2 s2)
structure Wk where
  ds : List MV
  gs : List (Nat × List MV)
noncomputable def stay (gs : List (Nat × List MV)) (S : Sto) : Prop := ∀ p ∈ gs, S[p.1]? = some (.lst p.2)
noncomputable def ItM (g : Gm) (J : It) (P : List Addr → Sto → Hp → Prop) (ds : List MV) : Prop := ∀ i α S H, P α S H → Wd g α S H → (i < ds.length → J.go i H ∧ ∀ x H', J.yld i H x H' → Ext α H α H' ∧ Wd g α S H' ∧ P α S H' ∧ ∃ d, ds[i]? = some d ∧ Den g.K α H' d x) ∧ (ds.length ≤ i → J.stop i H)
structure WkD (g : Gm) (α : List Addr) (S : Sto) (H : Hp) (k : Wk) (J : It) (P : List Addr → Sto → Hp → Prop) : Prop where
  it : ItM g J P k.ds
  here : P α S H
  stays : ∀ α1 S1 H1 α2 S2 H2, P α1 S1 H1 → Ext α1 H1 α2 H2 → Wd g α2 S2 H2 → stay k.gs S2 → P α2 S2 H2
  st : stay k.gs S
instance : Dn Wk It := ⟨fun g _ α S H k J => ∃ P, WkD g α S H k J P, fun _ q => q⟩
abbrev PIm (X : Cx) (W : XW) (tg iter : Expr) (f : Rho → Sto → R Wk) : Prop := Jd X W (PI X tg iter) f
variable {tg iter : Expr}
theorem zPP {a : Addr} {ds : List MV} : ItM X.g (Itl X.K a) (fun α S H => ∃ vs, SqL X.K H a vs ∧ DenL X.K α H ds vs) ds := by
  intro i α S H ⟨vs, s, l⟩ w
  have hl := l.length
  refine ⟨fun hi => ?_, fun hi => ⟨vs, s, by (first | lia | omega)⟩⟩
  have hv : i < vs.length := by (first | lia | omega)
  refine ⟨⟨vs, vs[i], s, List.getElem?_eq_getElem hv⟩, fun x H' y => ?_⟩
  obtain ⟨rfl, y⟩ := y
  obtain ⟨d, h1, h2⟩ := l.get (y vs s)
  exact ⟨Ext.refl _ _, w, ⟨vs, s, l⟩, d, h1, h2⟩
theorem yIE {a : Addr} {ds : List MV} : ItM X.g (Itt X.K a) (fun α S H => ∃ vs, SqT X.K H a vs ∧ DenL X.K α H ds vs) ds := by
  intro i α S H ⟨vs, s, l⟩ w
  have hl := l.length
  refine ⟨fun hi => ?_, fun hi => ⟨vs, s, by (first | lia | omega)⟩⟩
  have hv : i < vs.length := by (first | lia | omega)
  refine ⟨⟨vs, vs[i], s, List.getElem?_eq_getElem hv⟩, fun x H' y => ?_⟩
  obtain ⟨rfl, y⟩ := y
  obtain ⟨d, h1, h2⟩ := l.get (y vs s)
  exact ⟨Ext.refl _ _, w, ⟨vs, s, l⟩, d, h1, h2⟩
theorem yIF {x : List Nat} : ItM X.g (Its x) (fun _ _ _ => True) (x.map fun c => .str [c]) := by
  intro i α S H _ w
  refine ⟨fun hi => ⟨show i < x.length by simpa using hi, fun v H' y => ?_⟩, fun hi => by show x.length ≤ i; simpa using hi⟩
  obtain ⟨rfl, c, h1, h2⟩ := y
  refine ⟨Ext.refl _ _, w, trivial, .str [c], by rw [List.getElem?_map, h1]; rfl, ?_⟩
  rw [h2]
  exact zCB [c]
theorem yCM {lo : Int} {n : Nat} : ItM X.g (Itr lo n) (fun _ _ _ => True) ((List.range n).map fun k => .int (lo + (k : Nat))) := by
  intro i α S H _ w
  refine ⟨fun hi => ⟨show i < n by simpa using hi, fun v H' y => ?_⟩, fun hi => by show n ≤ i; simpa using hi⟩
  obtain ⟨rfl, y⟩ := y
  have hi' : i < n := by simpa using hi
  refine ⟨Ext.refl _ _, w, trivial, .int (lo + i), by rw [List.getElem?_map, List.getElem?_range hi']; rfl, ?_⟩
  rw [y]
  exact kE _
noncomputable def itL : Er → Sto → R Wk
  | .new ds, S => .ok ⟨ds, []⟩ S
  | .val (.scr ds), S => .ok ⟨ds, []⟩ S
  | .val (.loc l), S => match S[l]? with
    | some (.lst ds) => .ok ⟨ds, [(l, ds)]⟩ S
    | _ => .no
  | _, _ => .no
theorem bC {S : Sto} : stay [] S := fun p h => by simp at h
theorem yIG (he : PEm X W iter f) : PIm X W tg iter (fun ρ S => (f ρ S).bind itL) := by
  obtain ⟨t, he, k⟩ := he
  refine ⟨_, yHM he, fun α ρ S σ H Rc wd sl q => k α ρ S σ H _ wd sl (q.bind fun u p S1 α1 H1 e x1 w1 d1 q1 => ?_)⟩
  replace q1 := q1.shift x1
  unfold itL at q1
  split at q1
  · rename_i S0 ds
    obtain ⟨⟨b, vs, rfl, h1, h2, h3⟩, h4⟩ := d1
    refine ⟨b, rfl, ⟨vs, .of h1⟩, q1.here (u := Itl X.K b) w1 ⟨fun α2 S2 H2 => ∃ vs, SqL X.K H2 b vs ∧ DenL X.K α2 H2 ds vs ∧ H2 b = some (.lst vs) ∧ b ∉ α2, ?_, ⟨vs, .of h1, h3, h1, h2⟩, ?_, bC⟩⟩
    · intro i α2 S2 H2 ⟨vs2, a1, a2, a3, a4⟩ w2
      obtain ⟨i1, i2⟩ := zPP (X := X) (a := b) (ds := ds) i α2 S2 H2 ⟨vs2, a1, a2⟩ w2
      refine ⟨fun hi => ⟨(i1 hi).1, fun x H' y => ?_⟩, i2⟩
      obtain ⟨j1, j2, j3, j4⟩ := (i1 hi).2 x H' y
      obtain ⟨rfl, _⟩ := y
      exact ⟨j1, j2, ⟨vs2, a1, a2, a3, a4⟩, j4⟩
    · intro α2 S2 H2 α3 S3 H3 ⟨vs2, a1, a2, a3, a4⟩ x w3 _
      exact ⟨vs2, .of (x.keep b _ a3 a4), a2.ext x, x.keep b _ a3 a4, x.out a3 a4⟩
  · rename_i S0 ds
    obtain ⟨a, vs, rfl, s, l⟩ := zPL d1.1
    refine ⟨a, rfl, ⟨vs, s.l⟩, q1.here (u := Itl X.K a) w1 ⟨fun α2 S2 H2 => ∃ vs, SqL X.K H2 a vs ∧ DenL X.K α2 H2 ds vs ∧ SqF X.K H2 a vs, ?_, ⟨vs, s.l, l, s⟩, ?_, bC⟩⟩
    · intro i α2 S2 H2 ⟨vs2, a1, a2, a3⟩ w2
      obtain ⟨i1, i2⟩ := zPP (X := X) (a := a) (ds := ds) i α2 S2 H2 ⟨vs2, a1, a2⟩ w2
      refine ⟨fun hi => ⟨(i1 hi).1, fun x H' y => ?_⟩, i2⟩
      obtain ⟨j1, j2, j3, j4⟩ := (i1 hi).2 x H' y
      obtain ⟨rfl, _⟩ := y
      exact ⟨j1, j2, ⟨vs2, a1, a2, a3⟩, j4⟩
    · intro α2 S2 H2 α3 S3 H3 ⟨vs2, a1, a2, a3⟩ x w3 _
      exact ⟨vs2, (x.sqF a3).l, a2.ext x, x.sqF a3⟩
  · rename_i S0 n
    obtain ⟨a, rfl, h⟩ := zEN d1.1
    obtain ⟨o, h1, h2⟩ := w1.of h
    rw [h1] at q1
    cases o with
    | lst ds =>
      obtain ⟨vs, h3, l⟩ := h2
      refine ⟨a, rfl, ⟨vs, .of h3⟩, Post.here (b := (⟨ds, [(n, ds)]⟩ : Wk)) q1 (u := Itl X.K a) w1 ⟨fun α2 S2 H2 => ∃ vs, SqL X.K H2 a vs ∧ DenL X.K α2 H2 ds vs ∧ α2[n]? = some a, ?_, ⟨vs, .of h3, l, h⟩, ?_, ?_⟩⟩
      · intro i α2 S2 H2 ⟨vs2, a1, a2, a3⟩ w2
        obtain ⟨i1, i2⟩ := zPP (X := X) (a := a) (ds := ds) i α2 S2 H2 ⟨vs2, a1, a2⟩ w2
        refine ⟨fun hi => ⟨(i1 hi).1, fun x H' y => ?_⟩, i2⟩
        obtain ⟨j1, j2, j3, j4⟩ := (i1 hi).2 x H' y
        obtain ⟨rfl, _⟩ := y
        exact ⟨j1, j2, ⟨vs2, a1, a2, a3⟩, j4⟩
      · intro α2 S2 H2 α3 S3 H3 ⟨vs2, a1, a2, a3⟩ x w3 hs
        have a3' := x.at a3
        have := w3.obj n a _ a3' (hs (n, ds) (by simp))
        obtain ⟨vs3, b1, b2⟩ := this
        exact ⟨vs3, .of b1, b2, a3'⟩
      · intro p hp
        have : p = (n, ds) := by simpa using hp
        subst this
        exact h1
    | dic ds => exact q1.elim
    | ins c fs => exact q1.elim
  · exact q1.elim
noncomputable def itT : Er → Sto → R Wk
  | .val (.tup ds), S => .ok ⟨ds, []⟩ S
  | _, _ => .no
theorem zMV (he : PEm X W iter f) : PIm X W tg iter (fun ρ S => (f ρ S).bind itT) := by
  obtain ⟨t, he, k⟩ := he
  refine ⟨_, yLK he, fun α ρ S σ H Rc wd sl q => k α ρ S σ H _ wd sl (q.bind fun u p S1 α1 H1 e x1 w1 d1 q1 => ?_)⟩
  replace q1 := q1.shift x1
  unfold itT at q1
  split at q1
  · rename_i S0 ds
    obtain ⟨a, vs, rfl, s, l⟩ := nF d1.1
    exact ⟨a, rfl, ⟨vs, s⟩, q1.here (u := Itt X.K a) w1 ⟨_, yIE, ⟨vs, s, l⟩, fun α2 S2 H2 α3 S3 H3 ⟨vs2, a1, a2⟩ x w3 _ => ⟨vs2, x.sqT a1, a2.ext x⟩, bC⟩⟩
  · exact q1.elim
noncomputable def itS : Er → Sto → R Wk
  | .val (.str x), S => .ok ⟨x.map fun c => .str [c], []⟩ S
  | _, _ => .no
theorem yMI (he : PEm X W iter f) : PIm X W tg iter (fun ρ S => (f ρ S).bind itS) := by
  obtain ⟨t, he, k⟩ := he
  refine ⟨_, yMC he, fun α ρ S σ H Rc wd sl q => k α ρ S σ H _ wd sl (q.bind fun u p S1 α1 H1 e x1 w1 d1 q1 => ?_)⟩
  replace q1 := q1.shift x1
  unfold itS at q1
  split at q1
  · rename_i S0 x
    exact ⟨x, jD d1.1, q1.here (u := Its x) w1 ⟨_, yIF, trivial, fun _ _ _ _ _ _ _ _ _ _ => trivial, bC⟩⟩
  · exact q1.elim
noncomputable def zGO : List Er → Sto → R Wk
  | [.val (.int j)], S => if -(2 ^ 62) ≤ j ∧ j < 2 ^ 62 then .ok ⟨(List.range j.toNat).map fun k => .int (k : Nat), []⟩ S else .no
  | _, _ => .no
variable {af : Rho → Sto → R (List Er)} {p : Pos} {a b : Expr}
theorem yAX {K : PySem.W.Frag} {H0 : Hp} {α : List Addr} {H : Hp} {r : Er} {vs : List V} (d : ArgsE K H0 α H [r] vs) : ∃ v, vs = [v] ∧ DenX K α H r v := by
  cases d with
  | cons a n l => cases l; exact ⟨_, rfl, a.1⟩
theorem args2 {K : PySem.W.Frag} {H0 : Hp} {α : List Addr} {H : Hp} {r r' : Er} {vs : List V} (d : ArgsE K H0 α H [r, r'] vs) : ∃ v u, vs = [v, u] ∧ DenX K α H r v ∧ DenX K α H r' u := by
  cases d with
  | cons a n l => obtain ⟨u, rfl, l'⟩ := yAX l; exact ⟨_, u, rfl, a.1, l'⟩
theorem jW (hg : Gl X "range") (hm : X.mg "range" = none) (ha : PAm X W [a] af) (hs : starEach [a] X.env = [(false, eval a X.env)] := by rfl) : PIm X W tg (.Call (.Name "range" p) [a] [] pos) (fun ρ S => (af ρ S).bind zGO) := by
  obtain ⟨t, ha, k⟩ := ha
  refine ⟨_, yCA hg hm ha hs, fun α ρ S σ H Rc wd sl q => k α ρ S σ H _ wd sl (q.bind fun vs rs S1 α1 H1 e x1 w1 d1 q1 => ?_)⟩
  replace q1 := q1.shift x1
  unfold zGO at q1
  split at q1
  · split at q1
    · rename_i S0 j hj
      obtain ⟨v, rfl, dv⟩ := yAX d1
      cases wD dv
      have := yCM (X := X) (lo := 0) (n := j.toNat)
      simp only [Int.zero_add] at this
      exact ⟨j, rfl, hj.1, hj.2, q1.here (u := Itr 0 j.toNat) w1 ⟨_, this, trivial, fun _ _ _ _ _ _ _ _ _ _ => trivial, bC⟩⟩
    · exact q1.elim
  · exact q1.elim
open Classical in
noncomputable def nI (gf : MV → Rho → Sto → R Rho) (body : Rho → Sto → R Fl) (gs : List (Nat × List MV)) : List MV → Rho → Sto → R Fl
  | [], ρ, S => .ok (.next ρ) S
  | d :: ds, ρ, S => (gf d ρ S).bind fun ρ0 S0 => (body ρ0 S0).bind fun fl S1 => match fl with
    | .next ρ' => if stay gs S1 then nI gf body gs ds ρ' S1 else .no
    | .cont ρ' => if stay gs S1 then nI gf body gs ds ρ' S1 else .no
    | .brk ρ' => .ok (.next ρ') S1
    | .ret r => .ok (.ret r) S1
open Classical in
theorem zCQ {itf : Rho → Sto → R Wk} {gf : MV → Rho → Sto → R Rho} (hp : PassesOwn (model X.prog X.w) X.A X.env X.xe) (hc : X.calm = true) (hi : PIm X W tg iter itf) (hg : PGm X W tg gf) (hb : zVX X W as F)
    (hs : ∀ y, foldedSetIterable iter X.env y = pure y := by intro _; rfl) : PSm X W (.For tg iter as [] pos) (fun ρ S => (itf ρ S).bind fun k S1 => nI gf F k.gs k.ds ρ S1) := by
  obtain ⟨wi, hi, ki⟩ := hi
  obtain ⟨tg', hg, kg⟩ := hg
  obtain ⟨tb, hb, kb⟩ := hb
  refine ⟨_, yLL hp hc hi hg hb hs, fun α ρ S σ H D wd sl q => ki α ρ S σ H _ wd sl (q.expr fun J k S1 α1 H1 e x1 w1 d1 q1 => ?_)⟩
  obtain ⟨P, hP⟩ := d1
  have sl1 := sl.ext x1
  replace q1 := PostS.shift x1 q1
  refine ⟨fun n m σ2 H2 => m = k.ds.length - n ∧ n ≤ k.ds.length ∧ ∃ α2 ρ2 S2, Wd X.g α2 S2 H2 ∧ Slots X.K α2 H2 ρ2 σ2 ∧ P α2 S2 H2 ∧ PostS X.g W α2 H2 D (nI gf F k.gs (k.ds.drop n) ρ2 S2), ⟨_, rfl, Nat.zero_le _, α1, ρ, S1, w1, sl1, hP.here, by simpa using q1⟩, ?_⟩
  rintro n m σ2 H2 ⟨rfl, hn, α2, ρ2, S2, w2, sl2, p2, q2⟩
  obtain ⟨i1, i2⟩ := hP.it n α2 S2 H2 p2 w2
  by_cases hlt : n < k.ds.length
  · obtain ⟨go, yl⟩ := i1 hlt
    refine .inr ⟨go, fun σ3 H3 => ∃ α3 ρ3 S3, Wd X.g α3 S3 H3 ∧ Slots X.K α3 H3 ρ3 σ3 ∧ P α3 S3 H3 ∧ PostS X.g W α3 H3 D (nI gf F k.gs (k.ds.drop (n + 1)) ρ3 S3), fun σ3 H3 ⟨α3, ρ3, S3, h3⟩ => ⟨k.ds.length - (n + 1), by (first | lia | omega), rfl, hlt, α3, ρ3, S3, h3⟩, fun v H3 y => ?_⟩
    obtain ⟨x3, w3, p3, d, hd, dv⟩ := yl v H3 y
    have hdrop : k.ds.drop n = d :: k.ds.drop (n + 1) := by
      rw [List.drop_eq_getElem_cons hlt]
      have := List.getElem?_eq_getElem hlt
      rw [hd] at this
      rw [← Option.some.inj this]
    rw [hdrop] at q2
    unfold nI at q2
    replace q2 := PostS.shift x3 q2
    refine kg α2 ρ2 S2 σ2 H3 d v _ w3 (sl2.ext x3) dv (q2.expr fun σ4 ρ4 S4 α4 H4 e4 x4 w4 s4 q4 => ?_)
    have p4 : ∀ α5 S5 H5, Ext α4 H4 α5 H5 → Wd X.g α5 S5 H5 → stay k.gs S5 → P α5 S5 H5 := fun α5 S5 H5 x5 w5 s5 => hP.stays α2 S2 H3 α5 S5 H5 p3 (x4.trans x5) w5 s5
    refine kb α4 ρ4 S4 σ4 H4 _ w4 s4 ((PostS.shift x4 q4).stmt ?_ ?_ ?_ ?_)
    · intro ρ5 S5 σ5 α5 H5 e5 x5 w5 s5 q5
      have q5' : PostS X.g W α4 H4 D (if stay k.gs S5 then nI gf F k.gs (k.ds.drop (n + 1)) ρ5 S5 else .no) := q5
      split at q5'
      · rename_i hst
        exact ⟨α5, ρ5, S5, w5, s5, p4 α5 S5 H5 x5 w5 hst, PostS.shift x5 q5'⟩
      · exact q5'.elim
    · intro r S5 v5 α5 H5 e5 x5 w5 d5 q5
      exact q5 v5 α5 H5 x5 w5 d5
    · intro ρ5 S5 σ5 α5 H5 e5 x5 w5 s5 q5
      exact q5 σ5 α5 H5 x5 w5 s5
    · intro ρ5 S5 σ5 α5 H5 e5 x5 w5 s5 q5
      have q5' : PostS X.g W α4 H4 D (if stay k.gs S5 then nI gf F k.gs (k.ds.drop (n + 1)) ρ5 S5 else .no) := q5
      split at q5'
      · rename_i hst
        exact ⟨α5, ρ5, S5, w5, s5, p4 α5 S5 H5 x5 w5 hst, PostS.shift x5 q5'⟩
      · exact q5'.elim
  · have e : n = k.ds.length := by (first | lia | omega)
    subst e
    refine .inl ⟨i2 (Nat.le_refl _), ?_⟩
    rw [List.drop_length] at q2
    exact q2 σ2 α2 H2 (Ext.refl _ _) w2 sl2
end
end M
end L2
namespace L2
namespace M
open PySem PySem.Spec PyProof.Rows
noncomputable def noX {β : Type} : R β → R β
  | .ok b S => .ok b S
  | _ => .no
theorem zAP {β : Type} (b : β) (S : Sto) : noX (R.ok b S) = .ok b S := rfl
theorem Post.bindY {β τ γ υ : Type} [Dn β τ] [Dn γ υ] {g : Gm} {W : XW} {α α' : List Addr} {H H' : Hp} (x : Ext α H α' H') {m : R β} {k : β → Sto → R γ} {Q : υ → Hp → Prop} {Q' : τ → Hp → Prop} (q : Post g W α H ((noX m).bind k) Q)
    (f : ∀ u b S1 α1 H1, m = .ok b S1 → Ext α' H' α1 H1 → Wd g α1 S1 H1 → Dn.d g H' α1 S1 H1 b u → Post g W α H (k b S1) Q → Q' u H1) : Post g W0 α' H' m Q' := by
  cases m with
  | ok b S => exact fun u α1 H1 x w d => f u b S α1 H1 rfl x w d q
  | exc c fs S => exact q.elim
  | no => exact q
theorem R.bind_assoc {β γ δ : Type} (m : R β) (k1 : β → Sto → R γ) (k2 : γ → Sto → R δ) : (m.bind k1).bind k2 = m.bind fun b S => (k1 b S).bind k2 := by cases m <;> rfl
noncomputable def blk (nt : Nat) (idx : List Nat) (ρ : Rho) : Rho := List.replicate nt none ++ idx.map fun i => (ρ[i]?).join
open Classical in
noncomputable def xW (gf : MV → Rho → Sto → R Rho) (cf : Rho → Sto → R Bool) (ef : Rho → Sto → R Er) (ρb : Rho) (gs : List (Nat × List MV)) : List MV → Sto → R (List MV)
  | [], S => .ok [] S
  | d :: ds, S => (noX (gf d ρb S)).bind fun ρ1 S0 => (noX (cf ρ1 S0)).bind fun k S1 =>
    if k = true then (noX (ef ρ1 S1)).bind fun r S2 => (zEP r S2).bind fun y S3 => if stay gs S3 then (xW gf cf ef ρb gs ds S3).bind fun out S4 => .ok (y :: out) S4 else .no
    else if stay gs S1 then xW gf cf ef ρb gs ds S1 else .no
theorem yCN {K : PySem.W.Frag} {α : List Addr} {H : Hp} {ρ : Rho} {σ : St} (q : Slots K α H ρ σ) (nt : Nat) (idx : List Nat) (τ : St) (hτ : τ.length = nt) : Slots K α H (blk nt idx ρ) (τ ++ zHE σ idx) := by
  refine ⟨by unfold blk; rw [List.length_append, List.length_append, zCA, List.length_map, List.length_replicate, hτ], fun i d e => ?_⟩
  unfold blk at e
  by_cases hi : i < nt
  · rw [List.getElem?_append_left (by rw [List.length_replicate]; exact hi), List.getElem?_replicate] at e
    split at e <;> cases e
  · rw [List.getElem?_append_right (by rw [List.length_replicate]; (first | lia | omega)), List.length_replicate, List.getElem?_map] at e
    cases z : idx[i - nt]? with
    | none => rw [z] at e; cases e
    | some k =>
      rw [z] at e
      have e2 : (ρ[k]?).join = some d := Option.some.inj e
      cases z2 : ρ[k]? with
      | none => rw [z2] at e2; cases e2
      | some o =>
        rw [z2] at e2
        have e3 : o = some d := e2
        subst e3
        obtain ⟨v, h1, h2⟩ := q.slot k d z2
        refine ⟨v, ?_, h2⟩
        rw [List.getElem?_append_right (by (first | lia | omega)), hτ]
        unfold zHE
        rw [List.getElem?_map, z]
        show some (σ[k]?).join = some (some v)
        rw [h1]; rfl
noncomputable def Keeps (nt : Nat) (σ : St) (Q : St → Hp → Prop) : St → Hp → Prop := fun σ' H' => σ'.length = σ.length → (∀ j, nt ≤ j → σ'[j]? = σ[j]?) → Q σ' H'
noncomputable def PGn (nt : Nat) (X : Cx) (W : XW) (tg : Expr) (gf : MV → Rho → Sto → R Rho) : Prop :=
  ∃ t, PG X tg t ∧ ∀ α ρ S σ H d v Q, Wd X.g α S H → Slots X.K α H ρ σ → Den X.K α H d v → Post X.g W α H (gf d ρ S) (Keeps nt σ Q) → t v σ H Q
noncomputable def PGsn (nt : Nat) (X : Cx) (W : XW) (tgs : List Expr) (gf : List MV → Rho → Sto → R Rho) : Prop :=
  ∃ t, PGs X tgs t ∧ ∀ α ρ S σ H ds vs Q, Wd X.g α S H → Slots X.K α H ρ σ → DenL X.K α H ds vs → Post X.g W α H (gf ds ρ S) (Keeps nt σ Q) → t vs σ H Q
section
variable {X : Cx} {W : XW} {e : Expr} {pos : Pos} {nt : Nat}
theorem jX (i : Nat) {x : Str} (hN : X.N.Nodup) (hi : X.N[i]? = some x := by rfl) (hx : Loc X.env.scope x := by first | exact Or.inl rfl | exact Or.inr rfl) (hf : X.fn x = true ∨ X.env.scope.names.lookup x = some .local := by first | exact .inl rfl | exact .inr rfl | assumption) (hlt : i < nt := by decide) :
    PGn nt X W (.Name x pos) (gNm i) := ⟨_, yAK hN hi hx hf, fun α ρ S σ H d v Q wd sl de q => Post.here (b := ρ.set i (some d)) q wd (sl.set de) (by rw [List.length_set]) fun j hj => by rw [List.getElem?_set_ne (by (first | lia | omega))]⟩
theorem yMJ : PGsn nt X W [] bB := ⟨_, yAL, fun α ρ S σ H ds vs Q wd sl de q => by
  cases ds with
  | nil => exact ⟨de.isnil, Post.here (b := ρ) q wd sl rfl fun _ _ => rfl⟩
  | cons d ds => exact q.elim⟩
theorem Post.keeps {g : Gm} {W : XW} {α : List Addr} {H : Hp} {m : R Rho} {σ σ1 : St} {Q : St → Hp → Prop} (h1 : σ1.length = σ.length) (h2 : ∀ j, nt ≤ j → σ1[j]? = σ[j]?) (q : Post g W α H m (Keeps nt σ Q)) : Post g W α H m (Keeps nt σ1 Q) := by
  cases m with
  | ok b S => exact fun u α1 H1 x w d k1 k2 => q u α1 H1 x w d (k1.trans h1) fun j hj => (k2 j hj).trans (h2 j hj)
  | exc c fs S => exact q
  | no => exact q
theorem yAY {es : List Expr} {g1 : MV → Rho → Sto → R Rho} {g2 : List MV → Rho → Sto → R Rho} (h1 : PGn nt X W e g1) (h2 : PGsn nt X W es g2) (hs : (assignEach (e :: es) X.env).map (·.2) = assign e X.env :: (assignEach es X.env).map (·.2) := by rfl) : PGsn nt X W (e :: es) (yS g1 g2) := by
  obtain ⟨t1, h1, k1⟩ := h1
  obtain ⟨t2, h2, k2⟩ := h2
  refine ⟨_, zVJ h1 h2 hs, fun α ρ S σ H ds vs Q wd sl de q => ?_⟩
  cases ds with
  | nil => exact q.elim
  | cons d ds =>
    obtain ⟨v, r, rfl, a, l⟩ := de.uncons
    refine ⟨v, r, rfl, k1 α ρ S σ H d v _ wd sl a (Post.bind q fun u p S1 α1 H1 e x1 w1 d1 q1 k1 k2' => k2 α1 p S1 u H1 ds r Q w1 d1 (l.ext x1) (Post.keeps k1 k2' (q1.shift x1)))⟩
theorem yMK {es : List Expr} {k n : Nat} {g2 : List MV → Rho → Sto → R Rho} (hc : X.calm = true) (h : PGsn nt X W es g2)
    (hn : (assignEach es X.env).length = n := by rfl) (hst : (assignEach es X.env).findIdx? (·.1) = none := by rfl) : PGn nt X W (.Tuple es k pos) (gTp n g2) := by
  obtain ⟨t, h, k⟩ := h
  refine ⟨_, yDW hc h hn hst, fun α ρ S σ H d v Q wd sl de q => ?_⟩
  unfold gTp at q
  split at q
  · split at q
    · rename_i hl
      obtain ⟨a, vs, rfl, s, l⟩ := jC de
      exact ⟨a, vs, rfl, s, by rw [l.length]; exact hl, k α ρ S σ H _ vs Q wd sl l q⟩
    · exact q.elim
  · exact q.elim
end
abbrev PIfm (X : Cx) (W : XW) (ifs : List Expr) (f : Rho → Sto → R Bool) : Prop := Jd X W (yEP X ifs) f
section
variable {X : Cx} {W : XW} {iter : Expr} {c : Expr} {tf : Rho → Sto → R Bool} {pos : Pos}
theorem gF : PIfm X W [] (fun _ S => .ok true S) := ⟨_, yEQ, fun α ρ S σ H Q wd sl q => q.here wd rfl⟩
open Classical in
theorem yIH {elt tg : Expr} {ifs : List Expr} {sc : Scope} {itf : Rho → Sto → R Wk} {cf : Rho → Sto → R Bool} {ef : Rho → Sto → R Er} {gf : MV → Rho → Sto → R Rho} (osc : Scope) (N : List Str) (T : List Str) (idx : List Nat)
    (hi : PIm X W tg iter itf) (hcalm : X.calm = true)
    (hg : ∀ C s₂ H1 fp, ([] ++ T ++ idx.map fun i => (N[i]?).getD Str.empty).Nodup → PGn T.length (yH X sc T idx C s₂ H1 fp) W0 tg gf)
    (hc : ∀ C s₂ H1 fp, PIfm (yH X sc T idx C s₂ H1 fp) W0 ifs cf) (he : ∀ C s₂ H1 fp, PEm (yH X sc T idx C s₂ H1 fp) W0 elt ef)
    (e1 : X.env.scope = osc := by rfl) (e2 : X.N = N := by rfl) (hB : zPC osc N sc idx = true := by decide +kernel) (hN : ([] ++ T ++ idx.map fun i => (N[i]?).getD Str.empty).Nodup := by decide +kernel)
    (hs : ∀ y, foldedSetIterable iter X.env y = pure y := by intro _; rfl) :
    Jd (β := Er) (τ := V) X W (fun t => PE X (.ListComp elt [⟨tg, iter, ifs, 0⟩] sc pos) t) (fun ρ S => (itf ρ S).bind fun k S1 => if k.ds.length < 1000000 then (xW gf cf ef (blk T.length idx ρ) k.gs k.ds S1).bind fun out S2 => .ok (.new out) S2 else .no) := by
  obtain ⟨wi, hi, ki⟩ := hi
  subst e1 e2
  have big : (1000000 : Nat) < sizeLine := by rw [sizeLine_eq]; decide
  have hg' : ∃ t, (∀ C s₂ H1 fp, PG (yH X sc T idx C s₂ H1 fp) tg t) ∧ ∀ α ρ S σ H d v Q, Wd X.g α S H → Slots X.K α H ρ σ → Den X.K α H d v → Post X.g W0 α H (gf d ρ S) (Keeps T.length σ Q) → t v σ H Q := by
    refine ⟨fun v σ H Q => ∃ α ρ S d, Wd X.g α S H ∧ Slots X.K α H ρ σ ∧ Den X.K α H d v ∧ Post X.g W0 α H (gf d ρ S) (Keeps T.length σ Q), fun C s₂ H1 fp pins s σ H v u Q I r ⟨α, ρ, S, d, h1, h2, h3, h4⟩ => ?_, fun α ρ S σ H d v Q h1 h2 h3 h4 => ⟨α, ρ, S, d, h1, h2, h3, h4⟩⟩
    obtain ⟨t, ht, kt⟩ := hg C s₂ H1 fp hN
    exact ht pins s σ H v u Q I r (kt α ρ S σ H d v Q h1 h2 h3 h4)
  obtain ⟨tg', hg1, kg⟩ := hg'
  refine ⟨_, yHY T idx hi hcalm hB hg1 (fun C s₂ H1 fp => (Classical.choose_spec (hc C s₂ H1 fp)).1) (fun C s₂ H1 fp => (Classical.choose_spec (he C s₂ H1 fp)).1) hs, fun α ρ S σ H Q wd sl q => ki α ρ S σ H _ wd sl (q.bind fun J k S1 α1 H1 e1 x1 w1 d1 q1 => ?_)⟩
  obtain ⟨P, hP⟩ := d1
  split at q1
  · rename_i hlen
    refine ⟨fun n m ys H2 => m = k.ds.length - n ∧ n ≤ k.ds.length ∧ ys.length ≤ n ∧ ∃ α2 S2, Ext α H α2 H2 ∧ Wd X.g α2 S2 H2 ∧ P α2 S2 H2 ∧ ∃ outs, DenL X.K α2 H2 outs ys ∧ Post X.g W α H ((xW gf cf ef (blk T.length idx ρ) k.gs (k.ds.drop n) S2).bind fun o S' => .ok (Er.new (outs ++ o)) S') Q,
      ⟨_, rfl, Nat.zero_le _, Nat.le_refl _, α1, S1, x1, w1, hP.here, [], xN, by simpa using q1⟩, ?_⟩
    rintro n m ys H2 ⟨rfl, hn, hy, α2, S2, x2, w2, p2, outs, l, q2⟩
    obtain ⟨i1, i2⟩ := hP.it n α2 S2 H2 p2 w2
    refine ⟨by (first | lia | omega), ?_⟩
    by_cases hlt : n < k.ds.length
    · obtain ⟨go, yl⟩ := i1 hlt
      refine .inr ⟨go, by (first | lia | omega), fun v H3 y τ hτ => ?_⟩
      obtain ⟨x3, w3, p3, d, hd, dv⟩ := yl v H3 y
      have hdrop : k.ds.drop n = d :: k.ds.drop (n + 1) := by
        rw [List.drop_eq_getElem_cons hlt]
        have := List.getElem?_eq_getElem hlt
        rw [hd] at this
        rw [← Option.some.inj this]
      rw [hdrop] at q2
      unfold xW at q2
      have slb := yCN (sl.ext (x2.trans x3)) T.length idx τ hτ
      refine kg α2 (blk T.length idx ρ) S2 _ H3 d v _ w3 slb dv ?_
      rw [R.bind_assoc] at q2
      refine q2.bindY (x2.trans x3) fun σ4 ρ4 S4 α4 H4 e4 x4 w4 s4 q4 len4 kp4 => ⟨⟨σ4.take T.length, ?_, ?_⟩, fun C s₂ fp => ?_⟩
      · refine List.ext_getElem? fun j => ?_
        have hl4 : σ4.length = T.length + idx.length := by rw [len4, List.length_append, zCA, hτ]
        by_cases hj : j < T.length
        · rw [List.getElem?_append_left (by rw [List.length_take]; (first | lia | omega)), List.getElem?_take_of_lt hj]
        · rw [kp4 j (by (first | lia | omega)), List.getElem?_append_right (by (first | lia | omega)), List.getElem?_append_right (by rw [List.length_take]; (first | lia | omega)), hτ, List.length_take, Nat.min_eq_left (by (first | lia | omega))]
      · rw [List.length_take, len4, List.length_append, zCA, hτ]; (first | lia | omega)
      have x34 : Ext α H α4 H4 := (x2.trans x3).trans x4
      have p4 : ∀ α5 S5 H5, Ext α4 H4 α5 H5 → Wd X.g α5 S5 H5 → stay k.gs S5 → P α5 S5 H5 := fun α5 S5 H5 x5 w5 s5 => hP.stays α2 S2 H3 α5 S5 H5 p3 (x4.trans x5) w5 s5
      rw [R.bind_assoc] at q4
      refine (Classical.choose_spec (hc C s₂ H1 fp)).2 α4 ρ4 S4 σ4 H4 _ w4 s4 (q4.bindY x34 fun b5 b5' S5 α5 H5 e5 x5 w5 d5 q5 => ?_)
      cases d5
      cases b5 with
      | false =>
        rw [if_neg Bool.false_ne_true] at q5 ⊢
        split at q5
        · rename_i hst
          exact ⟨k.ds.length - (n + 1), by (first | lia | omega), rfl, hlt, by (first | lia | omega), α5, S5, x34.trans x5, w5, p4 α5 S5 H5 x5 w5 hst, outs, (l.ext (x3.trans x4)).ext x5, q5⟩
        · exact q5.elim
      | true =>
        rw [if_pos rfl, R.bind_assoc] at q5
        rw [if_pos rfl]
        refine (Classical.choose_spec (he C s₂ H1 fp)).2 α5 ρ4 S5 σ4 H5 _ w5 (s4.ext x5) (q5.bindY (x34.trans x5) fun y6 r6 S6 α6 H6 e6 x6 w6 d6 q6 => ?_)
        obtain ⟨d', S', α', e7, x7, y7, w7, de⟩ := zJC w6 x6 d6
        rw [e7] at q6
        have q6 : Post X.g W α H ((if stay k.gs S' then (xW gf cf ef (blk T.length idx ρ) k.gs (k.ds.drop (n + 1)) S').bind fun out S4 => .ok (d' :: out) S4 else .no).bind fun o S' => .ok (Er.new (outs ++ o)) S') Q := q6
        split at q6
        · rename_i hst
          refine ⟨k.ds.length - (n + 1), by (first | lia | omega), rfl, hlt, by rw [List.length_append, List.length_singleton]; (first | lia | omega), α', S', (x34.trans x5).trans x7, w7, p4 α' S' H6 (x5.trans x7) w7 hst, outs ++ [d'], ((l.ext (x3.trans x4)).ext (x5.trans x7)).append (xE de xN), ?_⟩
          rw [R.bind_assoc] at q6
          have e8 : (fun (o : List MV) (S' : Sto) => R.ok (Er.new ((outs ++ [d']) ++ o)) S') = (fun (b : List MV) S => (R.ok (d' :: b) S).bind fun o S' => .ok (Er.new (outs ++ o)) S') := by
            funext o S'
            show _ = R.ok (Er.new (outs ++ (d' :: o))) S'
            rw [List.append_assoc]; rfl
          rw [e8]
          exact q6
        · exact q6.elim
    · have e : n = k.ds.length := by (first | lia | omega)
      subst e
      rw [List.drop_length] at q2
      have q3 : Post X.g W α H (.ok (Er.new (outs ++ [])) S2) Q := q2
      rw [List.append_nil] at q3
      exact .inl ⟨i2 (Nat.le_refl _), fun D hD => (q3.shift x2).newl w2 hD l⟩
  · exact q1.elim
open Classical in
theorem gG {elt tg : Expr} {ifs : List Expr} {sc : Scope} {itf : Rho → Sto → R Wk} {cf : Rho → Sto → R Bool} {ef : Rho → Sto → R Er} {gf : MV → Rho → Sto → R Rho} (osc : Scope) (N : List Str) (T : List Str) (idx : List Nat)
    (hi : PIm X W tg iter itf) (hcalm : X.calm = true)
    (hg : ∀ C s₂ H1 fp, ([] ++ T ++ idx.map fun i => (N[i]?).getD Str.empty).Nodup → PGn T.length (yH X sc T idx C s₂ H1 fp) W0 tg gf)
    (hc : ∀ C s₂ H1 fp, PIfm (yH X sc T idx C s₂ H1 fp) W0 ifs cf) (he : ∀ C s₂ H1 fp, PEm (yH X sc T idx C s₂ H1 fp) W0 elt ef)
    (e1 : X.env.scope = osc := by rfl) (e2 : X.N = N := by rfl) (hB : zPC osc N sc idx = true := by decide +kernel) (hN : ([] ++ T ++ idx.map fun i => (N[i]?).getD Str.empty).Nodup := by decide +kernel)
    (hs : ∀ y, foldedSetIterable iter X.env y = pure y := by intro _; rfl) :
    PEm X W (.ListComp elt [⟨tg, iter, ifs, 0⟩] sc pos) (fun ρ S => (itf ρ S).bind fun k S1 => if k.ds.length < 1000000 then (xW gf cf ef (blk T.length idx ρ) k.gs k.ds S1).bind fun out S2 => .ok (.new out) S2 else .no) := let ⟨t, h, k⟩ := (yIH osc N T idx hi hcalm hg hc he e1 e2 hB hN hs); ⟨t, h, k⟩
open Classical in
end
end M
end L2
namespace L2
namespace M
open PySem PySem.Spec PyProof.Rows
mutual
noncomputable def lo (n : Nat) : MV → Prop
  | .loc l => l < n
  | .tup ds => loL n ds
  | .scr ds => loL n ds
  | _ => True
noncomputable def loL (n : Nat) : List MV → Prop
  | [] => True
  | d :: ds => lo n d ∧ loL n ds
end
noncomputable def loO (n : Nat) : MO → Prop
  | .lst ds => loL n ds
  | .dic kvs => ∀ p ∈ kvs, lo n p.1 ∧ lo n p.2
  | .ins _ fs => ∀ p ∈ fs, lo n p.2
section
variable {K : PySem.W.Frag} {α t : List Addr} {H : Hp}
mutual
theorem Den.back : ∀ {d : MV} {v : V}, Den K (α ++ t) H d v → lo α.length d → Den K α H d v
  | .non, _, q, _ => by cases zCO q; exact zLI
  | .bl _, _, q, _ => by cases zGM q; exact kD _
  | .int _, _, q, _ => by cases gY q; exact kE _
  | .str _, _, q, _ => by cases gZ q; exact zCB _
  | .typ _, _, q, _ => by cases zAO q; exact yAS _
  | .loc l, _, q, h => by
    obtain ⟨a, rfl, e⟩ := cB q
    have hl : l < α.length := by unfold lo at h; exact h
    rw [List.getElem?_append_left hl] at e
    exact zOM e
  | .tup ds, _, q, h => by
    obtain ⟨a, vs, rfl, s, l⟩ := jC q
    exact zAB s (DenL.back l (by unfold lo at h; exact h))
  | .scr ds, _, q, h => by
    obtain ⟨a, vs, rfl, s, l⟩ := nE q
    exact yAT s (DenL.back l (by unfold lo at h; exact h))
theorem DenL.back : ∀ {ds : List MV} {vs : List V}, DenL K (α ++ t) H ds vs → loL α.length ds → DenL K α H ds vs
  | [], _, q, _ => by rw [q.isnil]; exact xN
  | d :: ds, _, q, h => by
    obtain ⟨v, r, rfl, a, l⟩ := q.uncons
    unfold loL at h
    exact xE (Den.back a h.1) (DenL.back l h.2)
end
mutual
theorem Den.lo : ∀ {d : MV} {v : V}, Den K α H d v → lo α.length d
  | .non, _, q => by unfold M.lo; trivial
  | .bl _, _, q => by unfold M.lo; trivial
  | .int _, _, q => by unfold M.lo; trivial
  | .str _, _, q => by unfold M.lo; trivial
  | .typ _, _, q => by unfold M.lo; trivial
  | .loc l, _, q => by
    obtain ⟨a, rfl, e⟩ := cB q
    unfold M.lo
    exact (List.getElem?_eq_some_iff.mp e).1
  | .tup ds, _, q => by
    obtain ⟨a, vs, rfl, s, l⟩ := jC q
    unfold M.lo
    exact DenL.lo l
  | .scr ds, _, q => by
    obtain ⟨a, vs, rfl, s, l⟩ := nE q
    unfold M.lo
    exact DenL.lo l
theorem DenL.lo : ∀ {ds : List MV} {vs : List V}, DenL K α H ds vs → loL α.length ds
  | [], _, q => by unfold loL; trivial
  | d :: ds, _, q => by
    obtain ⟨v, r, rfl, a, l⟩ := q.uncons
    unfold loL
    exact ⟨Den.lo a, DenL.lo l⟩
end
theorem DenK.back : ∀ {fs gs}, DenK K (α ++ t) H fs gs → (∀ p ∈ fs, M.lo α.length p.1 ∧ M.lo α.length p.2) → DenK K α H fs gs
  | _, _, .nil, _ => .nil
  | _, _, .cons k a l, h => .cons k (a.back (h _ List.mem_cons_self).2) (DenK.back l fun p hp => h p (List.mem_cons_of_mem _ hp))
theorem KeyD.lo {n : Nat} {k : MV} {k' : Key} (h : KeyD k k') : M.lo n k := by
  unfold KeyD at h
  split at h
  · unfold M.lo; trivial
  · unfold M.lo; trivial
  · exact h.elim
theorem DenK.lo : ∀ {fs gs}, DenK K α H fs gs → ∀ p ∈ fs, M.lo α.length p.1 ∧ M.lo α.length p.2
  | _, _, .nil => fun p h => by simp at h
  | _, _, .cons k a l => fun p h => (List.mem_cons.mp h).elim (fun e => by subst e; exact ⟨k.lo, a.lo⟩) (DenK.lo l p)
theorem DenN.back : ∀ {fs xs}, DenN K (α ++ t) H fs xs → (∀ p ∈ fs, M.lo α.length p.1 ∧ M.lo α.length p.2) → DenN K α H fs xs
  | _, _, .nil, _ => .nil
  | _, _, .cons k e a d r l, h => .cons k e (a.back (h _ List.mem_cons_self).1) (d.back (h _ List.mem_cons_self).2) r (DenN.back l fun p hp => h p (List.mem_cons_of_mem _ hp))
theorem DenN.lo : ∀ {fs xs}, DenN K α H fs xs → ∀ p ∈ fs, M.lo α.length p.1 ∧ M.lo α.length p.2
  | _, _, .nil => fun p h => by simp at h
  | _, _, .cons k e a d r l => fun p h => (List.mem_cons.mp h).elim (fun z => by subst z; exact ⟨a.lo, d.lo⟩) (DenN.lo l p)
theorem DenF.back : ∀ {fs gs}, DenF K (α ++ t) H fs gs → (∀ p ∈ fs, M.lo α.length p.2) → DenF K α H fs gs
  | _, _, .nil, _ => .nil
  | _, _, .cons a l, h => .cons (a.back (h _ List.mem_cons_self)) (DenF.back l fun p hp => h p (List.mem_cons_of_mem _ hp))
theorem DenF.lo : ∀ {fs gs}, DenF K α H fs gs → ∀ p ∈ fs, M.lo α.length p.2
  | _, _, .nil => fun p h => by simp at h
  | _, _, .cons a l => fun p h => (List.mem_cons.mp h).elim (fun e => by subst e; exact a.lo) (DenF.lo l p)
theorem ObD.back {g : Gm} {a : Addr} {o : MO} (q : ObD g (α ++ t) H a o) (h : loO α.length o) : ObD g α H a o := by
  cases o with
  | lst ds => obtain ⟨vs, h1, l⟩ := q; exact ⟨vs, h1, l.back h⟩
  | dic ds =>
    rcases q with ⟨vs, h1, l⟩ | ⟨vs, h1, l⟩
    · exact .inl ⟨vs, h1, l.back h⟩
    · exact .inr ⟨vs, h1, l.back h⟩
  | ins c fs => obtain ⟨C, dx, gs, m, h1, l⟩ := q; exact ⟨C, dx, gs, m, h1, l.back h⟩
theorem ObD.lo {g : Gm} {a : Addr} {o : MO} (q : ObD g α H a o) : loO α.length o := by
  cases o with
  | lst ds => obtain ⟨vs, h1, l⟩ := q; exact l.lo
  | dic ds =>
    rcases q with ⟨vs, h1, l⟩ | ⟨vs, h1, l⟩
    · exact l.lo
    · exact l.lo
  | ins c fs => obtain ⟨C, dx, gs, m, h1, l⟩ := q; exact l.lo
end
noncomputable def zVY (S S2 : Sto) : Prop := S.length ≤ S2.length ∧ ∀ l, l < S.length → S2[l]? = S[l]? ∨ ∃ o, S2[l]? = some o ∧ loO S.length o
open Classical in
noncomputable def zJV (S : Sto) (r : Er) (S2 : Sto) : R Er :=
  if zVY S S2 then match r with
    | .val (.loc l) => if l < S.length then .ok r (S2.take S.length) else match S2[l]? with
      | some (.lst ds) => if loL S.length ds then .ok (.new ds) (S2.take S.length) else .ok r S2
      | _ => .ok r S2
    | .val d => if lo S.length d then .ok r (S2.take S.length) else .ok r S2
    | .new ds => if loL S.length ds then .ok r (S2.take S.length) else .ok r S2
  else .ok r S2
theorem yII {g : Gm} {α α1 α2 α3 : List Addr} {H H1 H3 : Hp} {S1 S3 : Sto} {r : Er} {v : V} (x1 : Ext α H α1 H1) (w1 : Wd g α1 S1 H1) (h12 : ∃ t, α2 = α1 ++ t) (x2 : Ext α H α2 H1) (x3 : Ext α2 H1 α3 H3) (w3 : Wd g α3 S3 H3) (d : DenE g.K H1 α3 H3 r v) :
    ∃ r' S' α', zJV S1 r S3 = .ok r' S' ∧ Ext α H α' H3 ∧ Wd g α' S' H3 ∧ DenE g.K H α' H3 r' v := by
  have x23 := x2.trans x3
  have dfull : DenE g.K H α3 H3 r v := d.back fun b h => x1.free h
  unfold zJV
  by_cases hc : zVY S1 S3
  · rw [if_pos hc]
    obtain ⟨t, ht⟩ : ∃ t, α3 = α1 ++ t := by
      obtain ⟨t, e⟩ := h12
      obtain ⟨u, e'⟩ := x3.pre
      exact ⟨t ++ u, by rw [e', e, List.append_assoc]⟩
    have hn : α1.length = S1.length := w1.len
    have xc : Ext α H α1 H3 := ⟨⟨x1.pre, x23.tup, x23.frz⟩, x1.new, x23.keep, x23.has⟩
    have wc : Wd g α1 (S3.take S1.length) H3 := by
      refine ⟨by rw [List.length_take, hn, Nat.min_eq_left hc.1], w1.nd, fun l a o h1 h2 => ?_⟩
      have hl : l < S1.length := by rw [← hn]; exact (List.getElem?_eq_some_iff.mp h1).1
      rw [List.getElem?_take_of_lt hl] at h2
      have h1' : α3[l]? = some a := by rw [ht, List.getElem?_append_left (by rw [hn]; exact hl)]; exact h1
      have q := w3.obj l a o h1' h2
      rw [ht] at q
      refine q.back ?_
      rcases hc.2 l hl with e | ⟨o', e, lo'⟩
      · rw [e] at h2
        exact (w1.obj l a o h1 h2).lo
      · rw [h2] at e
        cases e
        rw [hn]; exact lo'
    have dlo : ∀ d, lo S1.length d → Den g.K α3 H3 d v → DenE g.K H α1 H3 (.val d) v := fun d hd q => .val ((ht ▸ q : Den g.K (α1 ++ t) H3 d v).back (by rw [hn]; exact hd))
    cases r with
    | new ds =>
      dsimp only
      split
      · rename_i hl
        obtain ⟨⟨b, vs, rfl, h1, h2, h3⟩, h4⟩ := dfull
        exact ⟨_, _, α1, rfl, xc, wc, ⟨b, vs, rfl, h1, fun z => h2 (by rw [ht]; exact List.mem_append_left _ z), (ht ▸ h3 : DenL g.K (α1 ++ t) H3 ds vs).back (by rw [hn]; exact hl)⟩, h4⟩
      · exact ⟨_, _, α3, rfl, x23, w3, dfull⟩
    | val mv =>
      have dd : Den g.K α3 H3 mv v := dfull.1
      cases mv with
      | loc l =>
        dsimp only
        split
        · rename_i hl
          exact ⟨_, _, α1, rfl, xc, wc, dlo _ (by unfold lo; exact hl) dd⟩
        · rename_i hl
          obtain ⟨a, rfl, ha⟩ := cB dd
          split
          · rename_i ds hS
            split
            · rename_i hlo
              obtain ⟨vs, h1, h2⟩ := w3.obj l a _ ha hS
              have hna : a ∉ α1 := fun z => by
                obtain ⟨m, hm⟩ := List.getElem?_of_mem z
                have hml : m < α1.length := (List.getElem?_eq_some_iff.mp hm).1
                have hm' : α3[m]? = some a := by rw [ht, List.getElem?_append_left hml]; exact hm
                obtain ⟨u1, e1⟩ := List.getElem?_eq_some_iff.mp hm'
                obtain ⟨u2, e2⟩ := List.getElem?_eq_some_iff.mp ha
                have := (List.getElem_inj w3.nd).mp (e1.trans e2.symm)
                (first | lia | omega)
              refine ⟨_, _, α1, rfl, xc, wc, ⟨a, vs, rfl, h1, hna, (ht ▸ h2 : DenL g.K (α1 ++ t) H3 ds vs).back (by rw [hn]; exact hlo)⟩, fun b e => ?_⟩
              cases e
              rcases x23.new a (List.mem_of_getElem? ha) with z | z
              · obtain ⟨u, eu⟩ := x1.pre
                exact absurd (by rw [eu]; exact List.mem_append_left _ z) hna
              · exact z
            · exact ⟨_, _, α3, rfl, x23, w3, dfull⟩
          · exact ⟨_, _, α3, rfl, x23, w3, dfull⟩
      | non => dsimp only; split; (· rename_i hl; exact ⟨_, _, α1, rfl, xc, wc, dlo _ hl dd⟩); (· exact ⟨_, _, α3, rfl, x23, w3, dfull⟩)
      | bl b => dsimp only; split; (· rename_i hl; exact ⟨_, _, α1, rfl, xc, wc, dlo _ hl dd⟩); (· exact ⟨_, _, α3, rfl, x23, w3, dfull⟩)
      | int b => dsimp only; split; (· rename_i hl; exact ⟨_, _, α1, rfl, xc, wc, dlo _ hl dd⟩); (· exact ⟨_, _, α3, rfl, x23, w3, dfull⟩)
      | str b => dsimp only; split; (· rename_i hl; exact ⟨_, _, α1, rfl, xc, wc, dlo _ hl dd⟩); (· exact ⟨_, _, α3, rfl, x23, w3, dfull⟩)
      | typ b => dsimp only; split; (· rename_i hl; exact ⟨_, _, α1, rfl, xc, wc, dlo _ hl dd⟩); (· exact ⟨_, _, α3, rfl, x23, w3, dfull⟩)
      | tup b => dsimp only; split; (· rename_i hl; exact ⟨_, _, α1, rfl, xc, wc, dlo _ hl dd⟩); (· exact ⟨_, _, α3, rfl, x23, w3, dfull⟩)
      | scr b => dsimp only; split; (· rename_i hl; exact ⟨_, _, α1, rfl, xc, wc, dlo _ hl dd⟩); (· exact ⟨_, _, α3, rfl, x23, w3, dfull⟩)
  · rw [if_neg hc]
    exact ⟨_, _, α3, rfl, x23, w3, dfull⟩
noncomputable def spM (g : Gm) (n : Nat) (F : List MV → Sto → R Er) : Sp := fun vs H Q _ => ∃ α S ds, Wd g α S H ∧ DenL g.K α H ds vs ∧ ds.length = n ∧ Post g W0 α H (F ds S) Q
noncomputable def zJ (n : Nat) (F : List MV → Sto → R Er) (rs : List Er) (S : Sto) : R Er := if rs.length = n then (noX (F (yI rs S).1 (yI rs S).2)).bind fun r S2 => zJV S r S2 else .no
section
variable {X : Cx} {W : XW} {e : Expr} {es : List Expr} {af : Rho → Sto → R (List Er)} {pos : Pos}
theorem yCO {n : Nat} {F : List MV → Sto → R Er} {rs : List Er} {vs : List V} {α α1 : List Addr} {H H1 : Hp} {S1 : Sto} {Q : VK} (x1 : Ext α H α1 H1) (w1 : Wd X.g α1 S1 H1) (d1 : ArgsE X.K H α1 H1 rs vs) (q : Post X.g W α H (zJ n F rs S1) Q) :
    spM X.g n F vs H1 Q E0 := by
  unfold zJ at q
  split at q
  · rename_i hl
    obtain ⟨α2, x2, y2, w2, l2⟩ := zHK w1 x1 d1
    refine ⟨α2, _, _, w2, l2, by rw [zMU]; exact hl, ?_⟩
    cases z : F (yI rs S1).1 (yI rs S1).2 with
    | ok r S3 =>
      rw [z] at q
      intro v α3 H3 x3 w3 d3
      obtain ⟨r', S', α', e', x', w', d'⟩ := yII x1 w1 y2.pre x2 x3 w3 d3
      have q : Post X.g W α H (zJV S1 r S3) Q := q
      rw [e'] at q
      exact q v α' H3 x' w' d'
    | exc c fs S3 => rw [z] at q; exact q.elim
    | no => rw [z] at q; exact q.elim
  · exact q.elim
theorem zK {k n : Nat} {fa : Addr} {fd : FuncData} {ps : List Str} {F : List MV → Sto → R Er} {x : Str} {p : Pos} (G : FnOk X.prog X.w X.K X.mg X.base CX0 k fa fd ps (spM X.g n F)) (hr : Room k X.A) (hg : Gl X x) (hm : X.mg x = some (.ref fa))
    (hk : PySem.W.keepIn X.K (.ref fa) = true) (hb : Binds X.K fd ps []) (ha : PAm X W (e :: es) af) (hdb : (x == ("__debug__" : Str)) = false := by decide)
    (he : starEach (e :: es) X.env = (false, eval e X.env) :: starEach es X.env := by rfl) (hpl : (backTo pos (starEach es X.env)).any (·.1) = false := by rfl) :
    PEm X W (.Call (.Name x p) (e :: es) [] pos) (fun ρ S => (af ρ S).bind fun rs S1 => zJ n F rs S1) := by
  obtain ⟨t, ha, kk⟩ := ha
  refine ⟨_, yHQ G hr hg hm hk hb .nil pass0 ha hdb he hpl, fun α ρ S σ H Q wd sl q => kk α ρ S σ H _ wd sl (q.bind fun vs rs S1 α1 H1 e1 x1 w1 d1 q1 => ?_)⟩
  rw [List.append_nil]
  exact yCO x1 w1 d1 q1
end
noncomputable def yB (N : List Str) (ds : List MV) : Rho := ds.map some ++ List.replicate (N.length - ds.length) none
noncomputable def xM : R Fl → R Er
  | .ok (.next _) S => .ok (.val .non) S
  | .ok (.ret r) S => .ok r S
  | .exc c fs S => .exc c fs S
  | _ => .no
theorem zVZ {K : PySem.W.Frag} {α : List Addr} {N : List Str} {H : Hp} {ds : List MV} {vs : List V} (l : DenL K α H ds vs) : Slots K α H (yB N ds) (start N vs) := by
  have hlen := l.length
  refine ⟨?_, fun i d e => ?_⟩
  · unfold start yB
    rw [List.length_append, List.length_append, List.length_map, List.length_map, List.length_replicate, List.length_replicate, hlen]
  · unfold yB at e
    by_cases hi : i < ds.length
    · rw [List.getElem?_append_left (by simpa using hi), List.getElem?_map] at e
      cases z : ds[i]? with
      | none => rw [z] at e; cases e
      | some d' =>
        rw [z] at e
        obtain ⟨v, h1, h2⟩ := l.at z
        have e' : d' = d := Option.some.inj (Option.some.inj e)
        subst e'
        refine ⟨v, ?_, h2⟩
        unfold start
        rw [List.getElem?_append_left (by rw [List.length_map, hlen]; exact hi), List.getElem?_map, h1]; rfl
    · rw [List.getElem?_append_right (by simpa using hi), List.getElem?_replicate] at e
      split at e <;> cases e
section
variable {P : Program} {w : World} {K : PySem.W.Frag} {mg : Str → Option Value} {base : Heap}
theorem okM {x qual : Str} {st : Stmt} {f : Addr} {fd : FuncData} {N ps : List Str} {k : Nat} (Fb : Rho → Sto → R Fl) (F : Fun K x qual st f fd) (Sc : FnScope N ps (zG st))
    (hbody : ∀ (cdv : Value) (A : Around) (outer : List Env) (s : Shared) (H : Hp) (E : XK), Room k (A.deeper (envOfC qual (zG st) s.heap.objs.size f cdv)) →
      zVX (zYE CX0 P w K mg base N qual (zG st) f cdv A outer s H E).nox W0 (yD st) Fb) :
    FnOk P w K mg base CX0 (k + 1) f fd ps (spM ⟨K, mg, P, w⟩ ps.length fun ds S => xM (Fb (yB N ds) S)) := by
  refine F.ok Sc (fun vs H Q E h => ?_) (fun cdv A outer s H vs Q E hr h => ?_)
  · obtain ⟨α, S, ds, _, l, hl, _⟩ := h
    rw [l.length, hl]
  · obtain ⟨α, S, ds, wd, l, hl, q⟩ := h
    obtain ⟨t, ht, kk⟩ := hbody cdv A outer s H E hr
    refine ⟨t, ht, kk α (yB N ds) S (start N vs) H _ wd (zVZ l) ?_⟩
    dsimp only at q
    cases z : Fb (yB N ds) S with
    | ok fl S' =>
      rw [z] at q
      cases fl with
      | next ρ => exact fun σ α' H' x' w' s' => q .non α' H' x' w' (DenE.val zLI)
      | ret r => exact fun v α' H' x' w' d' => q v α' H' x' w' d'
      | brk ρ => exact q.elim
      | cont ρ => exact q.elim
    | exc c fs S' => rw [z] at q; exact fun α' H' x' w' => q α' H' x' w'
    | no => rw [z] at q; exact q
end
end M
end L2
namespace L2
namespace M
open PySem PySem.Spec PyProof.Rows
inductive Vw where
  | fl (v : V) | tp (ds : List MV) | ls (ds : List MV)
noncomputable def cE (S : Sto) : Er → Option (List MV)
  | .new ds => some ds
  | .val (.scr ds) => some ds
  | .val (.loc l) => match S[l]? with
    | some (.lst ds) => some ds
    | _ => none
  | _ => none
noncomputable def vwE (S : Sto) : Er → Option Vw
  | .val .non => some (.fl .non)
  | .val (.bl b) => some (.fl (.bl b))
  | .val (.int i) => some (.fl (.int i))
  | .val (.str x) => some (.fl (.str (mkS x)))
  | .val (.tup ds) => some (.tp ds)
  | .val (.typ _) => none
  | r => (cE S r).map .ls
noncomputable def prs (e : MV → MV → Option Bool) : List MV → List MV → Option (List Bool)
  | d :: ds, f :: fs => (e d f).bind fun k => (prs e ds fs).map (k :: ·)
  | _, _ => some []
noncomputable def eqW (e : MV → MV → Option Bool) : Vw → Vw → Option Bool
  | .fl x, .fl y => some (eqV x y)
  | .tp ds, .tp es => (prs e ds es).map fun bs => bs.all id && ds.length == es.length
  | .ls ds, .ls es => if ds.length = es.length then (prs e ds es).map fun bs => bs.all id else some false
  | _, _ => some false
theorem zYK (e : MV → MV → Option Bool) (ds es : List MV) : eqW e (.tp ds) (.tp es) = (prs e ds es).map fun bs => bs.all id && ds.length == es.length := rfl
theorem zYL (e : MV → MV → Option Bool) (ds es : List MV) : eqW e (.ls ds) (.ls es) = if ds.length = es.length then (prs e ds es).map fun bs => bs.all id else some false := rfl
noncomputable def eqv (S : Sto) : Nat → MV → MV → Option Bool
  | 0, _, _ => none
  | n + 1, a, b => (vwE S (.val a)).bind fun x => (vwE S (.val b)).bind fun y => eqW (eqv S n) x y
noncomputable def zPQ (S : Sto) (n : Nat) (a b : Er) : Option Bool := (vwE S a).bind fun x => (vwE S b).bind fun y => eqW (eqv S n) x y
section
variable {X : Cx} {α : List Addr} {S : Sto} {H : Hp}
theorem zNS {K : PySem.W.Frag} {g : Gm} (hK : g.K = K) (wd : Wd g α S H) {r : Er} {ds : List MV} {x : V} (e : cE S r = some ds) (d : DenX K α H r x) : ∃ a vs, x = .ref a ∧ SqL K H a vs ∧ DenL K α H ds vs := by
  subst hK
  unfold cE at e
  split at e
  · cases e
    obtain ⟨b, vs, rfl, h, _, l⟩ := d
    exact ⟨b, vs, rfl, .of h, l⟩
  · cases e
    obtain ⟨a, vs, rfl, s, l⟩ := zPL d
    exact ⟨a, vs, rfl, s.l, l⟩
  · rename_i n
    obtain ⟨a, rfl, h⟩ := zEN d
    split at e
    · rename_i es hS
      cases e
      obtain ⟨vs, h1, l⟩ := wd.obj n a _ h hS
      exact ⟨a, vs, rfl, .of h1, l⟩
    · cases e
  · cases e
theorem zGP {r : Er} {x y : V} (e : vwE S r = some (.fl y)) (d : DenX X.K α H r x) : x = y ∧ kQ y = true := by
  unfold vwE at e
  split at e
  · cases e; exact ⟨zMT d, rfl⟩
  · cases e; exact ⟨zJT d, rfl⟩
  · cases e; exact ⟨wD d, rfl⟩
  · cases e; exact ⟨jD d, rfl⟩
  · cases e
  · cases e
  · cases z : cE S r <;> rw [z] at e <;> cases e
theorem zGQ {r : Er} {x : V} {ds : List MV} (e : vwE S r = some (.tp ds)) (d : DenX X.K α H r x) : ∃ a vs, x = .ref a ∧ SqT X.K H a vs ∧ DenL X.K α H ds vs := by
  unfold vwE at e
  split at e
  · cases e
  · cases e
  · cases e
  · cases e
  · cases e; exact nF d
  · cases e
  · cases z : cE S r <;> rw [z] at e <;> cases e
theorem zGR (wd : Wd X.g α S H) {r : Er} {x : V} {ds : List MV} (e : vwE S r = some (.ls ds)) (d : DenX X.K α H r x) : ∃ a vs, x = .ref a ∧ SqL X.K H a vs ∧ DenL X.K α H ds vs := by
  unfold vwE at e
  split at e
  · cases e
  · cases e
  · cases e
  · cases e
  · cases e
  · cases e
  · cases z : cE S r with
    | none => rw [z] at e; cases e
    | some es => rw [z] at e; cases e; exact zNS rfl wd z d
theorem zJD {e : MV → MV → Option Bool} : ∀ {ds es : List MV} {bs : List Bool}, prs e ds es = some bs → bs.length = min ds.length es.length
  | [], _, _, h => by simp [prs] at h; subst h; simp
  | _ :: _, [], _, h => by simp [prs] at h; subst h; simp
  | d :: ds, f :: fs, bs, h => by
    unfold prs at h
    cases z : e d f with
    | none => rw [z] at h; cases h
    | some k =>
      rw [z] at h
      cases z2 : prs e ds fs with
      | none => simp [z2] at h
      | some cs =>
        simp [z2] at h
        subst h
        simp [zJD z2]
theorem zTU {e : MV → MV → Option Bool} : ∀ {ds es : List MV} {bs : List Bool} {j : Nat} {d f : MV}, prs e ds es = some bs → ds[j]? = some d → es[j]? = some f → e d f = some (bs.getD j true)
  | [], _, _, _, _, _, h, h1, _ => by simp at h1
  | _ :: _, [], _, _, _, _, h, _, h2 => by simp at h2
  | d :: ds, f :: fs, bs, j, d', f', h, h1, h2 => by
    unfold prs at h
    cases z : e d f with
    | none => rw [z] at h; cases h
    | some k =>
      rw [z] at h
      cases z2 : prs e ds fs with
      | none => simp [z2] at h
      | some cs =>
        simp [z2] at h
        subst h
        cases j with
        | zero => simp at h1 h2; subst h1 h2; simpa using z
        | succ j => simpa using zTU z2 (by simpa using h1) (by simpa using h2)
theorem range_all {bs : List Bool} {n : Nat} (h : bs.length = n) : (List.range n).all (fun j => bs.getD j true) = bs.all id := by
  subst h
  rw [Bool.eq_iff_iff, List.all_eq_true, List.all_eq_true]
  constructor
  · intro h x hx
    obtain ⟨i, hi, rfl⟩ := List.getElem_of_mem hx
    have := h i (List.mem_range.mpr hi)
    simpa [List.getD_eq_getElem?_getD, hi] using this
  · intro h i hi
    have hi' := List.mem_range.mp hi
    have := h bs[i] (List.getElem_mem hi')
    simpa [List.getD_eq_getElem?_getD, hi'] using this
variable {pins : List (Addr × Obj)} {σ : St} {s : Shared}
theorem zLJ (I : Inv X pins σ H s) {a : Addr} {xs ys : List V} (h : SqL X.K H a xs) (h' : SqT X.K H a ys) : False := by
  obtain ⟨_, _, pl, _⟩ := I.list h
  obtain ⟨_, _, pt, _⟩ := I.tuple h'
  obtain ⟨o, n, e, c, _, _⟩ := pl
  obtain ⟨o', e', c', _⟩ := pt
  rw [e] at e'
  cases e'
  rw [c] at c'
  exact absurd c' (by simp)
theorem yFC (I : Inv X pins σ H s) (wd : Wd X.g α S H) {e : MV → MV → Option Bool} (he : ∀ d f v k, Den X.K α H d v → Den X.K α H f v → e d f = some k → k = true) {a b : Er} {x : V} {p q : Vw} {k : Bool}
    (ha : vwE S a = some p) (hb : vwE S b = some q) (da : DenX X.K α H a x) (db : DenX X.K α H b x) (h : eqW e p q = some k) : k = true := by
  have hp : ∀ {ds es : List MV} {vs : List V} {bs : List Bool}, DenL X.K α H ds vs → DenL X.K α H es vs → prs e ds es = some bs → bs.all id = true := by
    intro ds es vs bs l1 l2 z
    rw [List.all_eq_true]
    intro k hk
    obtain ⟨i, hi, rfl⟩ := List.getElem_of_mem hk
    have hl := zJD z
    have h1 : i < ds.length := by (first | lia | omega)
    have h2 : i < es.length := by (first | lia | omega)
    obtain ⟨v, g1, g2⟩ := l1.at (List.getElem?_eq_getElem h1)
    obtain ⟨v', g3, g4⟩ := l2.at (List.getElem?_eq_getElem h2)
    rw [g1] at g3; cases g3
    have := he _ _ _ _ g2 g4 (zTU z (List.getElem?_eq_getElem h1) (List.getElem?_eq_getElem h2))
    simpa [List.getD_eq_getElem?_getD, hi] using this
  cases p with
  | fl y =>
    obtain ⟨rfl, f1⟩ := zGP ha da
    cases q with
    | fl z => obtain ⟨rfl, f2⟩ := zGP hb db; cases h; exact yES f1
    | tp ds => obtain ⟨a, vs, rfl, _⟩ := zGQ hb db; exact absurd (show false = true from f1) Bool.false_ne_true
    | ls ds => obtain ⟨a, vs, rfl, _⟩ := zGR wd hb db; exact absurd (show false = true from f1) Bool.false_ne_true
  | tp ds =>
    obtain ⟨a1, vs, rfl, s1, l1⟩ := zGQ ha da
    cases q with
    | fl z => obtain ⟨rfl, f2⟩ := zGP hb db; exact absurd (show false = true from f2) Bool.false_ne_true
    | tp es =>
      obtain ⟨a2, us, e2, s2, l2⟩ := zGQ hb db
      cases e2
      cases I.tuple_inj s1 s2
      rw [zYK] at h
      cases z : prs e ds es with
      | none => rw [z] at h; cases h
      | some bs =>
        rw [z] at h
        cases h
        show (bs.all id && ds.length == es.length) = true
        rw [hp l1 l2 z, ← l1.length, ← l2.length]; simp
    | ls es => obtain ⟨a2, us, e2, s2, l2⟩ := zGR wd hb db; cases e2; exact (zLJ I s2 s1).elim
  | ls ds =>
    obtain ⟨a1, vs, rfl, s1, l1⟩ := zGR wd ha da
    cases q with
    | fl z => obtain ⟨rfl, f2⟩ := zGP hb db; exact absurd (show false = true from f2) Bool.false_ne_true
    | tp es => obtain ⟨a2, us, e2, s2, l2⟩ := zGQ hb db; cases e2; exact (zLJ I s1 s2).elim
    | ls es =>
      obtain ⟨a2, us, e2, s2, l2⟩ := zGR wd hb db
      cases e2
      cases I.list_inj s1 s2
      rw [zYL] at h
      rw [if_pos (by rw [← l1.length, ← l2.length])] at h
      cases z : prs e ds es with
      | none => rw [z] at h; cases h
      | some bs => rw [z] at h; cases h; exact hp l1 l2 z
theorem zPR (I : Inv X pins σ H s) (wd : Wd X.g α S H) : ∀ (n : Nat) (d f : MV) (v : V) (k : Bool), Den X.K α H d v → Den X.K α H f v → eqv S n d f = some k → k = true
  | 0, _, _, _, _, _, _, h => by cases h
  | n + 1, d, f, v, k, h1, h2, h => by
    unfold eqv at h
    cases za : vwE S (.val d) with
    | none => rw [za] at h; cases h
    | some p =>
      cases zb : vwE S (.val f) with
      | none => rw [za, zb] at h; cases h
      | some q =>
        rw [za, zb] at h
        exact yFC I wd (zPR I wd n) za zb (a := .val d) (b := .val f) h1 h2 h
theorem zLK {e : MV → MV → Option Bool} {A : Around} (he : ∀ d f x y u v k, Den X.K α H d x → Den X.K α H f y → RelV x u → RelV y v → e d f = some k → SeqAt.EqAt A s u v k)
    {ds es : List MV} {vs us : List V} {its its2 : List Value} {bs : List Bool} (l1 : DenL X.K α H ds vs) (l2 : DenL X.K α H es us) (r1 : Vals vs its) (r2 : Vals us its2) (z : prs e ds es = some bs) :
    ∀ j (h1 : j < its.toArray.size) (h2 : j < its2.toArray.size), SeqAt.EqAt A s its.toArray[j] its2.toArray[j] (bs.getD j true) := by
  intro j h1 h2
  have g1 : j < vs.length := by rw [r1.length]; simpa using h1
  have g2 : j < us.length := by rw [r2.length]; simpa using h2
  obtain ⟨d, d1, d2⟩ := l1.get (List.getElem?_eq_getElem g1)
  obtain ⟨f, f1, f2⟩ := l2.get (List.getElem?_eq_getElem g2)
  obtain ⟨u, u1, u2⟩ := r1.get (List.getElem?_eq_getElem g1)
  obtain ⟨v, v1, v2⟩ := r2.get (List.getElem?_eq_getElem g2)
  have e1 : its.toArray[j] = u := by
    have : its[j]? = some (its[j]'(by simpa using h1)) := List.getElem?_eq_getElem _
    rw [u1] at this
    simpa using (Option.some.inj this).symm
  have e2 : its2.toArray[j] = v := by
    have : its2[j]? = some (its2[j]'(by simpa using h2)) := List.getElem?_eq_getElem _
    rw [v1] at this
    simpa using (Option.some.inj this).symm
  rw [e1, e2]
  exact he d f _ _ u v _ d2 f2 u2 v2 (zTU z d1 f1)
theorem zTV (I : Inv X pins σ H s) (wd : Wd X.g α S H) : ∀ (n : Nat) (A : Around) (d f : MV) (x y : V) (u v : Value) (k : Bool), A.units + n < cLine → Den X.K α H d x → Den X.K α H f y → RelV x u → RelV y v → eqv S n d f = some k → SeqAt.EqAt A s u v k
  | 0, _, _, _, _, _, _, _, _, _, _, _, _, _, h => by cases h
  | n + 1, A, d, f, x, y, u, v, k, hu, h1, h2, rx, ry, h => by
    have hu0 : A.units < cLine := by (first | lia | omega)
    have hsame := h
    unfold eqv at h
    cases za : vwE S (.val d) with
    | none => rw [za] at h; cases h
    | some p =>
      cases zb : vwE S (.val f) with
      | none => rw [za, zb] at h; cases h
      | some q =>
        rw [za, zb] at h
        have h : eqW (eqv S n) p q = some k := h
        have he := fun d f x y u v k a b c d' e => zTV I wd n A.in1 d f x y u v k (show A.units + 1 + n < cLine by (first | lia | omega)) a b c d' e
        cases p with
        | fl x' =>
          obtain ⟨rfl, fx⟩ := zGP za (α := α) (H := H) (X := X) h1
          cases q with
          | fl y' => obtain ⟨rfl, fy⟩ := zGP zb (α := α) (H := H) (X := X) h2; cases h; exact yLX rx ry fx fy
          | tp es =>
            obtain ⟨b, us, rfl, s2, l2⟩ := zGQ zb (α := α) (H := H) (X := X) h2
            cases ry; cases h
            obtain ⟨its, _, pt, _⟩ := I.tuple s2
            exact yKJ rx fx pt hu0
          | ls es =>
            obtain ⟨b, us, rfl, s2, l2⟩ := zGR wd zb h2
            cases ry; cases h
            obtain ⟨its, _, pl, _⟩ := I.list s2
            exact eq_lr rx fx pl.isList hu0
        | tp ds =>
          obtain ⟨a, vs, rfl, s1, l1⟩ := zGQ za (α := α) (H := H) (X := X) h1
          cases rx
          obtain ⟨its, r1, pt, _⟩ := I.tuple s1
          cases q with
          | fl y' => obtain ⟨rfl, fy⟩ := zGP zb (α := α) (H := H) (X := X) h2; cases h; exact yKI ry fy pt hu0
          | tp es =>
            obtain ⟨b, us, rfl, s2, l2⟩ := zGQ zb (α := α) (H := H) (X := X) h2
            cases ry
            by_cases hab : a = b
            · subst hab
              rw [zPR I wd (n + 1) d f _ k h1 h2 hsame]
              exact SeqAt.EqAt.same _
            · obtain ⟨its2, r2, pt2, _⟩ := I.tuple s2
              rw [zYK] at h
              cases z : prs (eqv S n) ds es with
              | none => rw [z] at h; cases h
              | some bs =>
                rw [z] at h
                cases h
                have := SeqAt.RcAt.tuples pt pt2 hu0 (zLK he l1 l2 r1 r2 z)
                have hl := zJD z
                rw [range_all (by rw [hl]; simp [← r1.length, ← r2.length, l1.length, l2.length])] at this
                have e3 : (its.toArray.size == its2.toArray.size) = (ds.length == es.length) := by simp [← r1.length, ← r2.length, l1.length, l2.length]
                rw [e3] at this
                exact SeqAt.EqAt.of_refs hab this
          | ls es =>
            obtain ⟨b, us, rfl, s2, l2⟩ := zGR wd zb h2
            cases ry; cases h
            obtain ⟨its2, _, pl, _⟩ := I.list s2
            exact SeqAt.EqAt.tuple_list pt pl.isList hu0
        | ls ds =>
          obtain ⟨a, vs, rfl, s1, l1⟩ := zGR wd za h1
          cases rx
          obtain ⟨its, r1, pl, _⟩ := I.list s1
          cases q with
          | fl y' => obtain ⟨rfl, fy⟩ := zGP zb (α := α) (H := H) (X := X) h2; cases h; exact eq_ll ry fy pl.isList hu0
          | tp es =>
            obtain ⟨b, us, rfl, s2, l2⟩ := zGQ zb (α := α) (H := H) (X := X) h2
            cases ry; cases h
            obtain ⟨its2, _, pt, _⟩ := I.tuple s2
            exact SeqAt.EqAt.list_tuple pl.isList pt hu0
          | ls es =>
            obtain ⟨b, us, rfl, s2, l2⟩ := zGR wd zb h2
            cases ry
            by_cases hab : a = b
            · subst hab
              rw [zPR I wd (n + 1) d f _ k h1 h2 hsame]
              exact SeqAt.EqAt.same _
            · obtain ⟨its2, r2, pl2, _⟩ := I.list s2
              rw [zYL] at h
              by_cases hl : ds.length = es.length
              · rw [if_pos hl] at h
                cases z : prs (eqv S n) ds es with
                | none => rw [z] at h; cases h
                | some bs =>
                  rw [z] at h
                  cases h
                  have hs : its.toArray.size = its2.toArray.size := by simp [← r1.length, ← r2.length, l1.length, l2.length, hl]
                  have := SeqAt.RcAt.lists pl.isList pl2.isList hs hu0 (zLK he l1 l2 r1 r2 z)
                  have hl' := zJD z
                  rw [range_all (by rw [hl']; simp [← r1.length, l1.length, hl])] at this
                  exact SeqAt.EqAt.of_refs hab this
              · rw [if_neg hl] at h
                cases h
                exact SeqAt.EqAt.of_refs hab (SeqAt.RcAt.lists_lengths pl.isList pl2.isList (by simpa [← r1.length, ← r2.length, l1.length, l2.length] using hl) hu0)
theorem yKK {RC : Around → Shared → Value → Value → Bool → Prop} {tr : Bool → Bool} {A : Around}
    (hff : ∀ x y u v, RelV x u → RelV y v → kQ x = true → kQ y = true → RC A s u v (tr (eqV x y)))
    (hfl : ∀ x v l items, RelV x v → kQ x = true → s.heap.IsList l items → A.units < cLine → RC A s v (.ref l) (tr false) ∧ RC A s (.ref l) v (tr false))
    (hft : ∀ x v l items, RelV x v → kQ x = true → s.heap.IsTuple l items → A.units < cLine → RC A s v (.ref l) (tr false) ∧ RC A s (.ref l) v (tr false))
    (hlt : ∀ l b items items2, s.heap.IsList l items → s.heap.IsTuple b items2 → A.units < cLine → RC A s (.ref l) (.ref b) (tr false) ∧ RC A s (.ref b) (.ref l) (tr false))
    (htt : ∀ (l b : Addr) (items items2 : Array Value) (e : Nat → Bool), s.heap.IsTuple l items → s.heap.IsTuple b items2 → A.units < cLine → (∀ j (h1 : j < items.size) (h2 : j < items2.size), SeqAt.EqAt A.in1 s items[j] items2[j] (e j)) → RC A s (.ref l) (.ref b) (tr ((List.range (min items.size items2.size)).all e && items.size == items2.size)))
    (hll : ∀ (l b : Addr) (items items2 : Array Value) (e : Nat → Bool), s.heap.IsList l items → s.heap.IsList b items2 → items.size = items2.size → A.units < cLine → (∀ j (h1 : j < items.size) (h2 : j < items2.size), SeqAt.EqAt A.in1 s items[j] items2[j] (e j)) → RC A s (.ref l) (.ref b) (tr ((List.range items.size).all e)))
    (hln : ∀ (l b : Addr) (items items2 : Array Value), s.heap.IsList l items → s.heap.IsList b items2 → (items.size != items2.size) = true → A.units < cLine → RC A s (.ref l) (.ref b) (tr false))
    (I : Inv X pins σ H s) (wd : Wd X.g α S H) (n : Nat) {a b : Er} {x y : V} {u v : Value} {k : Bool} (hu : A.units + (n + 1) < cLine) (h1 : DenX X.K α H a x) (h2 : DenX X.K α H b y) (rx : RelV x u) (ry : RelV y v) (h : zPQ S n a b = some k) : RC A s u v (tr k) := by
  have hu0 : A.units < cLine := by (first | lia | omega)
  unfold zPQ at h
  cases za : vwE S a with
  | none => rw [za] at h; cases h
  | some p =>
    cases zb : vwE S b with
    | none => rw [za, zb] at h; cases h
    | some q =>
      rw [za, zb] at h
      have h : eqW (eqv S n) p q = some k := h
      have he := fun d f x y u v k a b c d' e => zTV I wd n A.in1 d f x y u v k (show A.units + 1 + n < cLine by (first | lia | omega)) a b c d' e
      cases p with
      | fl x' =>
        obtain ⟨rfl, fx⟩ := zGP za h1
        cases q with
        | fl y' => obtain ⟨rfl, fy⟩ := zGP zb h2; cases h; exact hff _ _ _ _ rx ry fx fy
        | tp es =>
          obtain ⟨b, us, rfl, s2, l2⟩ := zGQ zb h2
          cases ry; cases h
          obtain ⟨its, _, pt, _⟩ := I.tuple s2
          exact (hft _ _ _ _ rx fx pt hu0).1
        | ls es =>
          obtain ⟨b, us, rfl, s2, l2⟩ := zGR wd zb h2
          cases ry; cases h
          obtain ⟨its, _, pl, _⟩ := I.list s2
          exact (hfl _ _ _ _ rx fx pl.isList hu0).1
      | tp ds =>
        obtain ⟨a, vs, rfl, s1, l1⟩ := zGQ za h1
        cases rx
        obtain ⟨its, r1, pt, _⟩ := I.tuple s1
        cases q with
        | fl y' => obtain ⟨rfl, fy⟩ := zGP zb h2; cases h; exact (hft _ _ _ _ ry fy pt hu0).2
        | tp es =>
          obtain ⟨b, us, rfl, s2, l2⟩ := zGQ zb h2
          cases ry
          obtain ⟨its2, r2, pt2, _⟩ := I.tuple s2
          rw [zYK] at h
          cases z : prs (eqv S n) ds es with
          | none => rw [z] at h; cases h
          | some bs =>
            rw [z] at h
            cases h
            have := htt _ _ _ _ _ pt pt2 hu0 (zLK he l1 l2 r1 r2 z)
            have hl := zJD z
            rw [range_all (by rw [hl]; simp [← r1.length, ← r2.length, l1.length, l2.length])] at this
            have e3 : (its.toArray.size == its2.toArray.size) = (ds.length == es.length) := by simp [← r1.length, ← r2.length, l1.length, l2.length]
            rw [e3] at this
            exact this
        | ls es =>
          obtain ⟨b, us, rfl, s2, l2⟩ := zGR wd zb h2
          cases ry; cases h
          obtain ⟨its2, _, pl, _⟩ := I.list s2
          exact (hlt _ _ _ _ pl.isList pt hu0).2
      | ls ds =>
        obtain ⟨a, vs, rfl, s1, l1⟩ := zGR wd za h1
        cases rx
        obtain ⟨its, r1, pl, _⟩ := I.list s1
        cases q with
        | fl y' => obtain ⟨rfl, fy⟩ := zGP zb h2; cases h; exact (hfl _ _ _ _ ry fy pl.isList hu0).2
        | tp es =>
          obtain ⟨b, us, rfl, s2, l2⟩ := zGQ zb h2
          cases ry; cases h
          obtain ⟨its2, _, pt, _⟩ := I.tuple s2
          exact (hlt _ _ _ _ pl.isList pt hu0).1
        | ls es =>
          obtain ⟨b, us, rfl, s2, l2⟩ := zGR wd zb h2
          cases ry
          obtain ⟨its2, r2, pl2, _⟩ := I.list s2
          rw [zYL] at h
          by_cases hl : ds.length = es.length
          · rw [if_pos hl] at h
            cases z : prs (eqv S n) ds es with
            | none => rw [z] at h; cases h
            | some bs =>
              rw [z] at h
              cases h
              have hs : its.toArray.size = its2.toArray.size := by simp [← r1.length, ← r2.length, l1.length, l2.length, hl]
              have := hll _ _ _ _ _ pl.isList pl2.isList hs hu0 (zLK he l1 l2 r1 r2 z)
              have hl' := zJD z
              rw [range_all (by rw [hl']; simp [← r1.length, l1.length, hl])] at this
              exact this
          · rw [if_neg hl] at h
            cases h
            exact hln _ _ _ _ pl.isList pl2.isList (by simpa [← r1.length, ← r2.length, l1.length, l2.length] using hl) hu0
theorem yML (I : Inv X pins σ H s) (wd : Wd X.g α S H) (n : Nat) {A : Around} {a b : Er} {x y : V} {u v : Value} {k : Bool} (hu : A.units + (n + 1) < cLine) (h1 : DenX X.K α H a x) (h2 : DenX X.K α H b y) (rx : RelV x u) (ry : RelV y v) (h : zPQ S n a b = some k) : SeqAt.RcAt A s u v k :=
  yKK (RC := SeqAt.RcAt) (tr := id) (fun _ _ _ _ a b c d => yMD a b c d) (fun _ _ _ _ a b c d => ⟨rc_lr a b c d, rc_ll a b c d⟩) (fun _ _ _ _ a b c d => ⟨rc_tr a b c d, rc_tl a b c d⟩)
    (fun _ _ _ _ a b c => ⟨SeqAt.RcAt.list_tuple a b c, SeqAt.RcAt.tuple_list b a c⟩) (fun _ _ _ _ _ a b c d => SeqAt.RcAt.tuples a b c d) (fun _ _ _ _ _ a b c d e => SeqAt.RcAt.lists a b c d e) (fun _ _ _ _ a b c d => SeqAt.RcAt.lists_lengths a b c d)
    I wd n hu h1 h2 rx ry h
theorem yMM (I : Inv X pins σ H s) (wd : Wd X.g α S H) (n : Nat) {A : Around} {a b : Er} {x y : V} {u v : Value} {k : Bool} (hu : A.units + (n + 1) < cLine) (h1 : DenX X.K α H a x) (h2 : DenX X.K α H b y) (rx : RelV x u) (ry : RelV y v) (h : zPQ S n a b = some k) : SeqAt.RcNeAt A s u v (!k) :=
  yKK (RC := SeqAt.RcNeAt) (tr := fun b => !b) (fun _ _ _ _ a b c d => yME a b c d) (fun _ _ _ _ a b c d => ⟨rn_lr a b c d, rn_ll a b c d⟩) (fun _ _ _ _ a b c d => ⟨rn_tr a b c d, rn_tl a b c d⟩)
    (fun _ _ _ _ a b c => ⟨SeqAt.RcNeAt.list_tuple a b c, SeqAt.RcNeAt.tuple_list b a c⟩) (fun _ _ _ _ _ a b c d => SeqAt.RcNeAt.tuples a b c d) (fun _ _ _ _ _ a b c d e => SeqAt.RcNeAt.lists a b c d e) (fun _ _ _ _ a b c d => SeqAt.RcNeAt.lists_lengths a b c d)
    I wd n hu h1 h2 rx ry h
mutual
theorem Den.inj (I : Inv X pins σ H s) (wd : Wd X.g α S H) : ∀ {d f : MV} {v : V}, Den X.K α H d v → Den X.K α H f v → d = f
  | .non, f, v, h, h' => by cases zCO h; cases f <;> first | rfl | (have := zGM h'; cases this; done) | (have := gY h'; cases this; done) | (have := gZ h'; cases this; done) | (have := zAO h'; cases this; done) | (obtain ⟨_, _, e, _⟩ := jC h'; cases e; done) | (obtain ⟨_, _, e, _⟩ := nE h'; cases e; done) | (obtain ⟨_, e, _⟩ := cB h'; cases e; done)
  | .bl b, f, v, h, h' => by cases zGM h; cases f <;> first | (have := zGM h'; cases this; rfl; done) | (have := zCO h'; cases this; done) | (have := gY h'; cases this; done) | (have := gZ h'; cases this; done) | (have := zAO h'; cases this; done) | (obtain ⟨_, _, e, _⟩ := jC h'; cases e; done) | (obtain ⟨_, _, e, _⟩ := nE h'; cases e; done) | (obtain ⟨_, e, _⟩ := cB h'; cases e; done)
  | .int b, f, v, h, h' => by cases gY h; cases f <;> first | (have := gY h'; cases this; rfl; done) | (have := zCO h'; cases this; done) | (have := zGM h'; cases this; done) | (have := gZ h'; cases this; done) | (have := zAO h'; cases this; done) | (obtain ⟨_, _, e, _⟩ := jC h'; cases e; done) | (obtain ⟨_, _, e, _⟩ := nE h'; cases e; done) | (obtain ⟨_, e, _⟩ := cB h'; cases e; done)
  | .str b, f, v, h, h' => by cases gZ h; cases f <;> first | (have := gZ h'; rw [zTR (V.str.inj this)]; done) | (have := zCO h'; cases this; done) | (have := zGM h'; cases this; done) | (have := gY h'; cases this; done) | (have := zAO h'; cases this; done) | (obtain ⟨_, _, e, _⟩ := jC h'; cases e; done) | (obtain ⟨_, _, e, _⟩ := nE h'; cases e; done) | (obtain ⟨_, e, _⟩ := cB h'; cases e; done)
  | .typ b, f, v, h, h' => by cases zAO h; cases f <;> first | (have := zAO h'; cases this; rfl; done) | (have := zCO h'; cases this; done) | (have := zGM h'; cases this; done) | (have := gY h'; cases this; done) | (have := gZ h'; cases this; done) | (obtain ⟨_, _, e, _⟩ := jC h'; cases e; done) | (obtain ⟨_, _, e, _⟩ := nE h'; cases e; done) | (obtain ⟨_, e, _⟩ := cB h'; cases e; done)
  | .tup ds, f, v, h, h' => by
    obtain ⟨a, vs, rfl, s1, l1⟩ := jC h
    cases f with
    | tup es =>
      obtain ⟨a2, us, e2, s2, l2⟩ := jC h'
      cases e2
      cases I.tuple_inj s1 s2
      rw [DenL.inj I wd l1 l2]
    | scr es => obtain ⟨a2, us, e2, s2, l2⟩ := nE h'; cases e2; exact (zLJ I s2.l s1).elim
    | loc l =>
      obtain ⟨a2, e2, h2⟩ := cB h'
      cases e2
      obtain ⟨ho, k1, k2, k3⟩ := wd.mem (List.mem_of_getElem? h2)
      rcases s1 with (s1 | ⟨o, s1⟩) | ⟨o, its, n, s1, _⟩
      · rw [k1] at s1; exact absurd (Option.some.inj s1) (k2 _)
      · rw [k1] at s1; exact absurd (Option.some.inj s1) (k3 _ _)
      · have := (I.bs a o (I.mod.kin a o s1)).2; rw [k1] at this; cases this
    | non => cases zCO h'
    | bl b => cases zGM h'
    | int b => cases gY h'
    | str b => cases gZ h'
    | typ b => cases zAO h'
  | .scr ds, f, v, h, h' => by
    obtain ⟨a, vs, rfl, s1, l1⟩ := nE h
    cases f with
    | scr es =>
      obtain ⟨a2, us, e2, s2, l2⟩ := nE h'
      cases e2
      cases I.list_inj s1.l s2.l
      rw [DenL.inj I wd l1 l2]
    | tup es => obtain ⟨a2, us, e2, s2, l2⟩ := jC h'; cases e2; exact (zLJ I s1.l s2).elim
    | loc l =>
      obtain ⟨a2, e2, h2⟩ := cB h'
      cases e2
      obtain ⟨ho, k1, k2, k3⟩ := wd.mem (List.mem_of_getElem? h2)
      rcases s1 with ⟨o, s1⟩ | ⟨o, its, n, s1, _⟩
      · rw [k1] at s1; exact absurd (Option.some.inj s1) (k3 _ _)
      · have := (I.bs a o (I.mod.kin a o s1)).2; rw [k1] at this; cases this
    | non => cases zCO h'
    | bl b => cases zGM h'
    | int b => cases gY h'
    | str b => cases gZ h'
    | typ b => cases zAO h'
  | .loc l, f, v, h, h' => by
    obtain ⟨a, rfl, h1⟩ := cB h
    obtain ⟨ho, k1, k2, k3⟩ := wd.mem (List.mem_of_getElem? h1)
    cases f with
    | loc m =>
      obtain ⟨a2, e2, h2⟩ := cB h'
      cases e2
      by_cases hlm : l = m
      · rw [hlm]
      · exact absurd rfl (wd.ne h1 h2 hlm)
    | tup es =>
      obtain ⟨a2, us, e2, s1, l2⟩ := jC h'
      cases e2
      rcases s1 with (s1 | ⟨o, s1⟩) | ⟨o, its, n, s1, _⟩
      · rw [k1] at s1; exact absurd (Option.some.inj s1) (k2 _)
      · rw [k1] at s1; exact absurd (Option.some.inj s1) (k3 _ _)
      · have := (I.bs a o (I.mod.kin a o s1)).2; rw [k1] at this; cases this
    | scr es =>
      obtain ⟨a2, us, e2, s1, l2⟩ := nE h'
      cases e2
      rcases s1 with ⟨o, s1⟩ | ⟨o, its, n, s1, _⟩
      · rw [k1] at s1; exact absurd (Option.some.inj s1) (k3 _ _)
      · have := (I.bs a o (I.mod.kin a o s1)).2; rw [k1] at this; cases this
    | non => cases zCO h'
    | bl b => cases zGM h'
    | int b => cases gY h'
    | str b => cases gZ h'
    | typ b => cases zAO h'
theorem DenL.inj (I : Inv X pins σ H s) (wd : Wd X.g α S H) : ∀ {ds fs : List MV} {vs : List V}, DenL X.K α H ds vs → DenL X.K α H fs vs → ds = fs
  | [], fs, vs, h, h' => by
    cases h.isnil
    cases fs with
    | nil => rfl
    | cons f fs => obtain ⟨_, _, e, _⟩ := h'.uncons; cases e
  | d :: ds, fs, vs, h, h' => by
    obtain ⟨v, r, rfl, a, l⟩ := h.uncons
    cases fs with
    | nil => cases h'.isnil
    | cons f fs =>
      obtain ⟨v', r', e, a', l'⟩ := h'.uncons
      cases e
      rw [Den.inj I wd a a', DenL.inj I wd l l']
end
end
end M
end L2
namespace L2
namespace M
open PySem PySem.Spec PyProof.Rows
section
variable {X : Cx} {W : XW} {a b c e : Expr} {es : List Expr} {f g h : Rho → Sto → R Er} {af : Rho → Sto → R (List Er)} {pos : Pos}
noncomputable def iiF (C : Int → Int → Prop) [∀ i j, Decidable (C i j)] (g : Int → Int → Int) : Er → Er → Sto → R Er
  | .val (.int i), .val (.int j), S => if C i j then .ok (.val (.int (g i j))) S else .no
  | _, _, _ => .no
noncomputable def ibF (g : Int → Int → Bool) : Er → Er → Sto → R Er
  | .val (.int i), .val (.int j), S => .ok (.val (.bl (g i j))) S
  | _, _, _ => .no
theorem zYN {C C' : Int → Int → Prop} [∀ i j, Decidable (C i j)] {g : Int → Int → Int} (h : ∀ i j, C i j → C' i j) : Op2 X W (rI C' fun i j => .int (g i j)) (iiF C g) := by
  intro p q x y α S H Q wd dp dq post
  unfold iiF at post
  split at post
  · split at post
    · rename_i hc
      exact ⟨_, _, wD dp, wD dq, h _ _ hc, Post.val post wd (kE _)⟩
    · exact post.elim
  · exact post.elim
theorem yIJ {g : Int → Int → Int} : Op2 X W (rI0 fun i j => .int (g i j)) (iiF (fun _ _ => True) g) := by
  intro p q x y α S H Q wd dp dq post
  unfold iiF at post
  split at post
  · rw [if_pos trivial] at post
    exact ⟨_, _, wD dp, wD dq, Post.val post wd (kE _)⟩
  · exact post.elim
theorem yMN {g : Int → Int → Bool} : Op2 X W (rI0 fun i j => .bl (g i j)) (ibF g) := by
  intro p q x y α S H Q wd dp dq post
  unfold ibF at post
  split at post
  · exact ⟨_, _, wD dp, wD dq, Post.val post wd (kD _)⟩
  · exact post.elim
abbrev zYO := iiF (fun _ _ => True) fun i j => i - j
theorem zPS (ha : PEm X W a f) (hb : PEm X W b g) : PEm X W (.BinOp a .Sub b pos) (fun ρ S => (f ρ S).bind fun p S1 => (g ρ S1).bind fun q S2 => zYO p q S2) := zSQ yLN yIJ ha hb
noncomputable def zYP (_ j : Int) : Prop := 0 < j ∧ j.natAbs.log2 < 9000
instance (i j : Int) : Decidable (zYP i j) := inferInstanceAs (Decidable (_ ∧ _))
abbrev zBX := iiF zYP fun i j => i / j
theorem yFG : OpR X (binaryOp .FloorDiv) (rI zYP fun i j => .int (i / j)) := opI fun i j _ _ _ _ _ hc q => by
  have e : i.fdiv j = i / j := Int.fdiv_eq_ediv_of_nonneg i (Int.le_of_lt hc.1)
  refine floordiv_int (by have := hc.1; (first | lia | omega)) ?_ (.inl (PyProof.noPylong_of_log2 hc.2))
  rw [e]
  exact q
theorem kH (ha : PEm X W a f) (hb : PEm X W b g) : PEm X W (.BinOp a .FloorDiv b pos) (fun ρ S => (f ρ S).bind fun p S1 => (g ρ S1).bind fun q S2 => zBX p q S2) := zSQ yFG (zYN fun i j h => h) ha hb
abbrev bD := iiF (fun _ j => 0 < j) fun i j => i % j
theorem xQ (ha : PEm X W a f) (hb : PEm X W b g) : PEm X W (.BinOp a .Mod b pos) (fun ρ S => (f ρ S).bind fun p S1 => (g ρ S1).bind fun q S2 => bD p q S2) := zSQ yLP (zYN fun i j h => h) ha hb
noncomputable def yCP (i j : Int) : Prop := 0 ≤ j ∧ (Builtin.Int.intBits i : Int) * j ≤ 2 ^ 27
instance (i j : Int) : Decidable (yCP i j) := inferInstanceAs (Decidable (_ ∧ _))
abbrev zKK := iiF yCP fun i j => i ^ j.toNat
theorem yIK : OpR X (binaryOp .Pow) (rI yCP fun i j => .int (i ^ j.toNat)) := opI fun _ _ _ _ _ _ _ hc q => pow_int hc.1 hc.2 q
theorem zHL (ha : PEm X W a f) (hb : PEm X W b g) : PEm X W (.BinOp a .Pow b pos) (fun ρ S => (f ρ S).bind fun p S1 => (g ρ S1).bind fun q S2 => zKK p q S2) := zSQ yIK (zYN fun i j h => h) ha hb
noncomputable def shlC (i j : Int) : Prop := 0 ≤ j ∧ j ≤ 1000000 ∧ i.natAbs < 2 ^ 64
instance (i j : Int) : Decidable (shlC i j) := inferInstanceAs (Decidable (_ ∧ _ ∧ _))
noncomputable def cF : Er → Er → Sto → R Er
  | .val (.int i), .val (.int j), S => .ok (.val (.int (i + j))) S
  | .val (.str x), .val (.str y), S => if x.length + y.length ≤ sizeLine then .ok (.val (.str (x ++ y))) S else .no
  | .val (.tup x), .val (.tup y), S => if x.length + y.length ≤ sizeLine then .ok (.val (.tup (x ++ y))) S else .no
  | _, _, _ => .no
theorem yFH : OpR X (binaryOp .Add) (fun x y H Q => ∃ a b ys, x = .ref a ∧ y = .ref b ∧ SqT X.K H a [] ∧ SqT X.K H b ys ∧ Q (.ref b) H) := by
  intro pins s σ H x y v u Q I rx ry h
  obtain ⟨a, b, ys, rfl, rfl, ha, hb, q⟩ := h
  cases rx
  cases ry
  obtain ⟨its, r1, p1, _⟩ := I.tuple ha
  obtain ⟨its2, r2, p2, _⟩ := I.tuple hb
  have e0 : its = [] := r1.nil_iff.mpr rfl
  subst e0
  obtain ⟨⟨cls, dd, data, sl⟩, ho, hc, n, hd⟩ := id p1
  obtain ⟨⟨cls2, dd2, data2, sl2⟩, ho2, hc2, n2, hd2⟩ := id p2
  simp only at hc hd hc2 hd2
  subst hc hd hc2 hd2
  exact concat_meets ⟨_, ho, rfl⟩ ⟨_, ho2, rfl⟩ noFill_tuple_add seq_tuple_add PySem.F.slot_tuple_add PySem.F.entry_tuple_add (PySem.F.args_tuple_add_2 _ _)
    (tuple_addW0 a b _ _ n n2 dd dd2 sl sl2 rfl) ⟨ho, ho2, ⟨.ref b, H, I, rfl, q⟩⟩
theorem wP (ha : PEm X W a f) (hb : PEm X W b g) : PEm X W (.BinOp a .Add b pos) (fun ρ S => (f ρ S).bind fun p S1 => (g ρ S1).bind fun q S2 => cF p q S2) := by
  refine zSQ (yLM.or (zYC.or (yHU.or yFH))) ?_ ha hb
  intro p q x y α S H Q wd dp dq post
  unfold cF at post
  split at post
  · exact .inl ⟨_, _, wD dp, wD dq, Post.val post wd (kE _)⟩
  · split at post
    · rename_i hz
      refine .inr (.inl ⟨_, _, jD dp, jD dq, by rw [gE, gE]; exact hz, ?_⟩)
      rw [yHZ]
      exact Post.val post wd (zCB _)
    · exact post.elim
  · split at post
    · rename_i xx yy hz
      obtain ⟨a1, vs, rfl, s1, l1⟩ := nF dp
      obtain ⟨a2, us, rfl, s2, l2⟩ := nF dq
      by_cases h0 : vs = []
      · subst h0
        have e0 := l1.length
        refine .inr (.inr (.inr ⟨a1, a2, us, rfl, rfl, s1, s2, ?_⟩))
        have : xx = [] := by cases xx with | nil => rfl | cons _ _ => simp at e0
        subst this
        exact Post.val post wd (zAB s2 l2)
      · refine .inr (.inr (.inl ⟨a1, a2, vs, us, rfl, rfl, s1, s2, h0, by rw [l1.length, l2.length]; exact hz, fun h1 => ?_, fun h1 p hp => Post.newt post wd hp (l1.append l2)⟩))
        subst h1
        have e0 := l2.length
        have : yy = [] := by cases yy with | nil => rfl | cons _ _ => simp at e0
        subst this
        rw [List.append_nil] at post
        exact Post.val post wd (zAB s1 l1)
    · exact post.elim
  · exact post.elim
noncomputable def mulC (i j : Int) : Prop := (-(2 ^ 64) < i ∧ i < 2 ^ 64) ∨ (-(2 ^ 64) < j ∧ j < 2 ^ 64)
instance (i j : Int) : Decidable (mulC i j) := inferInstanceAs (Decidable (_ ∨ _))
noncomputable def zRJ : Er → Er → Sto → R Er
  | .val (.int i), .val (.int j), S => if mulC i j then .ok (.val (.int (i * j))) S else .no
  | _, _, _ => .no
theorem zPT (ha : PEm X W a f) (hb : PEm X W b g) : PEm X W (.BinOp a .Mult b pos) (fun ρ S => (f ρ S).bind fun p S1 => (g ρ S1).bind fun q S2 => zRJ p q S2) := by
  refine zSQ yLO ?_ ha hb
  intro p q x y α S H Q wd dp dq post
  unfold zRJ at post
  split at post
  · split at post
    · rename_i hc
      exact ⟨_, _, wD dp, wD dq, hc, Post.val post wd (kE _)⟩
    · exact post.elim
  · exact post.elim
noncomputable def yO : Nat := 40
noncomputable def eqF (p q : Er) (S : Sto) : R Er := match zPQ S yO p q with
  | some k => .ok (.val (.bl k)) S
  | none => .no
noncomputable def neF (p q : Er) (S : Sto) : R Er := match zPQ S yO p q with
  | some k => .ok (.val (.bl !k)) S
  | none => .no
theorem yFI (hu : X.A.units + 64 < cLine) : OpR X (compareOp .Eq) (fun x y H Q => ∃ α S p q k, Wd X.g α S H ∧ DenX X.K α H p x ∧ DenX X.K α H q y ∧ zPQ S yO p q = some k ∧ Q (.bl k) H) := by
  intro pins s σ H x y v u Q I rx ry h
  obtain ⟨α, S, p, q, k, wd, dp, dq, e, hq⟩ := h
  exact yML I wd yO (by unfold yO; (first | lia | omega)) dp dq rx ry e X.prog X.w _ _ ⟨.bl k, H, I, rfl, hq⟩
theorem yMO (hu : X.A.units + 64 < cLine) : OpR X (compareOp .NotEq) (fun x y H Q => ∃ α S p q k, Wd X.g α S H ∧ DenX X.K α H p x ∧ DenX X.K α H q y ∧ zPQ S yO p q = some k ∧ Q (.bl (!k)) H) := by
  intro pins s σ H x y v u Q I rx ry h
  obtain ⟨α, S, p, q, k, wd, dp, dq, e, hq⟩ := h
  exact yMM I wd yO (by unfold yO; (first | lia | omega)) dp dq rx ry e X.prog X.w _ _ ⟨.bl (!k), H, I, rfl, hq⟩
theorem yAZ : Op2 X W (fun x y H Q => ∃ α S p q k, Wd X.g α S H ∧ DenX X.K α H p x ∧ DenX X.K α H q y ∧ zPQ S yO p q = some k ∧ Q (.bl k) H) eqF := by
  intro p q x y α S H Q wd dp dq post
  unfold eqF at post
  split at post
  · rename_i k e
    exact ⟨α, S, p, q, k, wd, dp, dq, e, Post.val post wd (kD _)⟩
  · exact post.elim
theorem yIL : Op2 X W (fun x y H Q => ∃ α S p q k, Wd X.g α S H ∧ DenX X.K α H p x ∧ DenX X.K α H q y ∧ zPQ S yO p q = some k ∧ Q (.bl (!k)) H) neF := by
  intro p q x y α S H Q wd dp dq post
  unfold neF at post
  split at post
  · rename_i k e
    exact ⟨α, S, p, q, k, wd, dp, dq, e, Post.val post wd (kD _)⟩
  · exact post.elim
theorem zSR (hu : X.A.units + 64 < cLine) (ha : PEm X W a f) (hb : PEm X W b g) : PEm X W (.Compare a [.Eq] [b] pos) (fun ρ S => (f ρ S).bind fun p S1 => (g ρ S1).bind fun q S2 => eqF p q S2) := zTT (yFI hu) yAZ ha hb
theorem zJW (hu : X.A.units + 64 < cLine) (ha : PEm X W a f) (hb : PEm X W b g) : PTm X W (.Compare a [.Eq] [b] pos) (fun ρ S => ((f ρ S).bind fun p S1 => (g ρ S1).bind fun q S2 => eqF p q S2).bind asB) := zKJ (yFI hu) yAZ ha hb
theorem zWA (hu : X.A.units + 64 < cLine) (ha : PEm X W a f) (hb : PEm X W b g) : PTm X W (.Compare a [.NotEq] [b] pos) (fun ρ S => ((f ρ S).bind fun p S1 => (g ρ S1).bind fun q S2 => neF p q S2).bind asB) := zKJ (yMO hu) yIL ha hb
noncomputable def ltF : Er → Er → Sto → R Er := ibF fun i j => decide (i < j)
theorem zTW : Op2 X W (rI0 fun i j => .bl (decide (i < j))) ltF := yMN
theorem pm_lt (hu : X.A.units + 64 < cLine) (ha : PEm X W a f) (hb : PEm X W b g) : PEm X W (.Compare a [.Lt] [b] pos) (fun ρ S => (f ρ S).bind fun p S1 => (g ρ S1).bind fun q S2 => ltF p q S2) := zTT op_lt zTW ha hb
theorem yKO (hu : X.A.units + 64 < cLine) (ha : PEm X W a f) (hb : PEm X W b g) : PTm X W (.Compare a [.Lt] [b] pos) (fun ρ S => ((f ρ S).bind fun p S1 => (g ρ S1).bind fun q S2 => ltF p q S2).bind asB) := zKJ op_lt zTW ha hb
abbrev gtF := ibF fun i j => decide (j < i)
theorem yFJ (ha : PEm X W a f) (hb : PEm X W b g) : PTm X W (.Compare a [.Gt] [b] pos) (fun ρ S => ((f ρ S).bind fun p S1 => (g ρ S1).bind fun q S2 => gtF p q S2).bind asB) := zKJ op_gt yMN ha hb
noncomputable def leF : Er → Er → Sto → R Er
  | .val (.int i), .val (.int j), S => .ok (.val (.bl (decide (i ≤ j)))) S
  | .val (.str x), .val (.str y), S => .ok (.val (.bl (!decide (y < x)))) S
  | _, _, _ => .no
theorem zPU : Op2 X W (fun x y H Q => rI0 (fun i j => .bl (decide (i ≤ j))) x y H Q ∨ (∃ i j, x = .str i ∧ y = .str j ∧ Q (.bl (!decide (j.cps.toList < i.cps.toList))) H)) leF := by
  intro p q x y α S H Q wd dp dq post
  unfold leF at post
  split at post
  · exact .inl ⟨_, _, wD dp, wD dq, Post.val post wd (kD _)⟩
  · refine .inr ⟨_, _, jD dp, jD dq, ?_⟩
    rw [zEM, zEM]
    exact Post.val post wd (kD _)
  · exact post.elim
theorem zTX (ha : PEm X W a f) (hb : PEm X W b g) (hc : PEm X W c h) (hm : lastMarks [.LtE, .LtE] [b, c] = false := by with_unfolding_all rfl) : PEm X W (.Compare a [.LtE, .LtE] [b, c] pos) (fun ρ S => (f ρ S).bind fun p S1 => (g ρ S1).bind fun q S2 => chF leF leF p q S2 fun S3 => h ρ S3) := zVV (zVK.or zDX) (zVK.or zDX) zPU zPU ha hb hc hm
theorem yIM (ha : PEm X W a f) (hb : PEm X W b g) (hc : PEm X W c h) (hm : lastMarks [.LtE, .LtE] [b, c] = false := by with_unfolding_all rfl) : PTm X W (.Compare a [.LtE, .LtE] [b, c] pos) (fun ρ S => ((f ρ S).bind fun p S1 => (g ρ S1).bind fun q S2 => chF leF leF p q S2 fun S3 => h ρ S3).bind asB) := yEV (zVK.or zDX) (zVK.or zDX) zPU zPU ha hb hc hm
theorem yIN (hu : X.A.units + 64 < cLine) (ha : PEm X W a f) (hb : PEm X W b g) (hc : PEm X W c h) (hm : lastMarks [.LtE, .Lt] [b, c] = false := by with_unfolding_all rfl) : PEm X W (.Compare a [.LtE, .Lt] [b, c] pos) (fun ρ S => (f ρ S).bind fun p S1 => (g ρ S1).bind fun q S2 => chF leF ltF p q S2 fun S3 => h ρ S3) := zVV (zVK.or zDX) op_lt zPU zTW ha hb hc hm
noncomputable def zTY : Er → Er → Sto → R Er
  | .val .non, .val .non, S => .ok (.val (.bl true)) S
  | _, .val .non, S => .ok (.val (.bl false)) S
  | _, _, _ => .no
theorem yFK {α : List Addr} {H : Hp} {p : Er} {x : V} (d : DenX X.K α H p x) (n : p ≠ .val .non) : decide (x = .non) = false := by
  cases p with
  | new ds => obtain ⟨b, vs, rfl, _⟩ := d; rfl
  | val m =>
    cases m with
    | non => exact absurd rfl n
    | bl b => cases zJT d; rfl
    | int b => cases wD d; rfl
    | str b => cases jD d; rfl
    | typ b => cases yET d; rfl
    | tup b => obtain ⟨_, _, rfl, _⟩ := nF d; rfl
    | scr b => obtain ⟨_, _, rfl, _⟩ := zPL d; rfl
    | loc b => obtain ⟨_, rfl, _⟩ := zEN d; rfl
theorem yBA : Op2 X W (fun x y H Q => y = .non ∧ Q (.bl (decide (x = .non))) H) zTY := by
  intro p q x y α S H Q wd dp dq post
  unfold zTY at post
  split at post
  · cases zMT dp; exact ⟨zMT dq, Post.val post wd (kD _)⟩
  · rename_i p' S' hn
    rw [yFK dp (fun z => by first | exact hn z | exact hn z rfl | exact hn _ z | exact hn rfl z)]
    exact ⟨zMT dq, Post.val post wd (kD _)⟩
  · exact post.elim
theorem pm_is (ha : PEm X W a f) (hb : PEm X W b g) : PEm X W (.Compare a [.Is] [b] pos) (fun ρ S => (f ρ S).bind fun p S1 => (g ρ S1).bind fun q S2 => zTY p q S2) := zTT yDZ yBA ha hb
theorem tm_is (ha : PEm X W a f) (hb : PEm X W b g) : PTm X W (.Compare a [.Is] [b] pos) (fun ρ S => ((f ρ S).bind fun p S1 => (g ρ S1).bind fun q S2 => zTY p q S2).bind asB) := zKJ yDZ yBA ha hb
noncomputable def getL (ds : List MV) : Er → Sto → R Er
  | .val (.int i), S => match atI ds i with | some d => .ok (.val d) S | none => .no
  | _, _ => .no
noncomputable def ixF : Er → Er → Sto → R Er
  | .val (.str x), .val (.int i), S => if x.length ≤ sizeLine then match atI x i with | some c => .ok (.val (.str [c])) S | none => .no else .no
  | .val (.tup ds), q, S => getL ds q S
  | p, q, S => match cE S p with | some ds => getL ds q S | none => .no
theorem yIO {K : PySem.W.Frag} {α : List Addr} {H : Hp} {ds : List MV} {vs : List V} {i : Int} {d : MV} (l : DenL K α H ds vs) (e : atI ds i = some d) : ∃ v, atI vs i = some v ∧ Den K α H d v := by
  unfold atI at e ⊢
  rw [l.length]
  cases z : ixN ds.length i with
  | none => rw [z] at e; cases e
  | some j =>
    rw [z] at e
    obtain ⟨v, h1, h2⟩ := l.at (show ds[j]? = some d from e)
    exact ⟨v, h1, h2⟩
theorem zZ (ha : PEm X W a f) (hb : PEm X W b g) (hs : zTM b := by exact fun _ _ => rfl) : PEm X W (.Subscript a b pos) (fun ρ S => (f ρ S).bind fun p S1 => (g ρ S1).bind fun q S2 => ixF p q S2) := by
  refine pm_ix yLW ?_ ha hb hs
  intro p q x y α S H Q wd dp dq post
  have key : ∀ {ds : List MV} {vs : List V} {i : Int} {d : MV}, DenL X.K α H ds vs → atI ds i = some d → Post X.g W α H (.ok (Er.val d) S) Q → ∃ v, atI vs i = some v ∧ Q v H := fun l e post => by
    obtain ⟨v, h1, h2⟩ := yIO l e
    exact ⟨v, h1, Post.val post wd h2⟩
  unfold ixF at post
  split at post
  · split at post
    · rename_i hz
      split at post
      · rename_i ch e
        refine .inr (.inr ⟨_, _, ch, jD dp, wD dq, by rw [gE]; exact hz, by rw [zEM]; exact e, ?_⟩)
        exact Post.val post wd (zCB [ch])
      · exact post.elim
    · exact post.elim
  · unfold getL at post
    split at post
    · split at post
      · rename_i d e
        obtain ⟨a1, vs, rfl, s1, l1⟩ := nF dp
        obtain ⟨v, h1, h2⟩ := key l1 e post
        exact .inr (.inl ⟨a1, vs, _, v, rfl, wD dq, s1, h1, h2⟩)
      · exact post.elim
    · exact post.elim
  · split at post
    · rename_i ds el
      unfold getL at post
      split at post
      · split at post
        · rename_i d e
          obtain ⟨a1, vs, rfl, s1, l1⟩ := zNS rfl wd el dp
          obtain ⟨v, h1, h2⟩ := key l1 e post
          exact .inl ⟨a1, vs, _, v, rfl, wD dq, s1, h1, h2⟩
        · exact post.elim
      · exact post.elim
    · exact post.elim
end
end M
end L2
namespace L2
namespace M
open PySem PySem.Spec PyProof.Rows
theorem zRK {prog : Program} {w : World} {A : Around} {E : Value → Shared → Prop} {s : Shared} {t sl : Addr} {its : Array Value} {vl vu : Value} {lo hi : Option Int} {Q : Value → Shared → Prop} (ht : IsTup s.heap t its) (hs : s.heap.IsSliceOf sl vl vu .none) (pl : IsPart vl lo) (pu : IsPart vu hi)
    (h0 : HT.sIx its.size 0 lo = 0) (h1 : HT.sIx its.size its.size hi = its.size) (h : Q (.ref t) s) : wpAny (model prog w) A (getItem (.ref t) (.ref sl)) Q E s := by
  have hTs : s.TypeIs (.ref sl) "slice" := by obtain ⟨os, hos, hcs, _⟩ := id hs; exact ⟨os, hos, hcs⟩
  have hTt := ht.typeIs
  unfold getItem
  try with_reducible refine wpAny_holding ?_
  first | refine wpAny_bind (wpAny_pure ?_) | skip
  refine wpAny_bind (wpAny_sequenceKey hTt (by decide) ?_)
  refine wpAny_bind (wpAny_callSpecial?_slot (name := Str.ofString "__getitem__") hTt PyProof.Rows.slot_tuple_getitem (wpAny_call_entry PyProof.Rows.slot_tuple_getitem hTt entry_tuple_getitem ?_ (args_tuple_getitem _ _)))
  show wpAny _ _ (Builtin.Tuple.tupleItemsOf (.ref t) >>= _) _ _ s
  refine wpAny_bind (tupleItemsOf_ ht (wpAny_bind (wpAny_typeOf hTs ?_)))
  rw [if_pos (by decide)]
  refine wpAny_bind (HT.sliceApplied_gen hs pl pu ?_)
  show wpAny _ _ (if (((HT.sIx its.size 0 lo : Nat) : Int) == 0 && (1 : Int) == 1 && (HT.sIx its.size its.size hi - HT.sIx its.size 0 lo) == its.size) = true then _ else _) _ _ s
  rw [if_pos (by rw [h0, h1]; simp)]
  unfold Builtin.Tuple.tupleIsExact
  refine wpAny_bind (wpAny_bind (wpAny_typeOf hTt (wpAny_pure ?_)))
  rw [if_pos (by decide)]
  refine wpAny_bind (wpAny_rule ?_)
  first
    | exact wpAny_pure ⟨_, rfl, wpAny_pure h⟩
    | exact wpAny_bind (wpAny_pure (wpAny_pure ⟨_, rfl, wpAny_pure h⟩))
    | exact wpAny_bind (wpAny_pure ⟨_, rfl, wpAny_pure h⟩)
section
variable {X : Cx} {W : XW} {a b c e : Expr} {es : List Expr} {f g h : Rho → Sto → R Er} {af : Rho → Sto → R (List Er)} {pos : Pos}
theorem yIP : SlR X (fun x lo hi H Q => ∃ a xs, x = .ref a ∧ SqT X.K H a xs ∧ HT.sIx xs.length 0 lo = 0 ∧ HT.sIx xs.length xs.length hi = xs.length ∧ Q (.ref a) H) := by
  intro pins s σ H x v vl vu lo hi sl Q I rx hs pl pu h
  obtain ⟨a, xs, rfl, hx, h0, h1, q⟩ := h
  cases rx
  obtain ⟨its, r, ht, hz⟩ := I.tuple hx
  have hlen : its.toArray.size = xs.length := by rw [List.size_toArray]; exact r.length.symm
  exact ⟨"tuple", _, PyProof.Rows.slot_tuple_getitem.lookup, ht.typeIs, zRK ht hs pl pu (by rw [hlen]; exact h0) (by rw [hlen]; exact h1) ⟨.ref a, H, I, rfl, q⟩⟩
noncomputable def zRL : Er → Option Int → Option Int → Sto → R Er
  | .val (.str x), lo, hi, S => if x.length ≤ sizeLine then .ok (.val (.str (nB x lo hi))) S else .no
  | .val (.tup ds), lo, hi, S => .ok (.val (.tup (nB ds lo hi))) S
  | p, lo, hi, S => match cE S p with | some ds => .ok (.new (nB ds lo hi)) S | none => .no
theorem yCQ {α : Type} {ds : List α} {lo hi : Option Int} (h0 : HT.sIx ds.length 0 lo = 0) (h1 : HT.sIx ds.length ds.length hi = ds.length) : nB ds lo hi = ds := by
  unfold nB
  rw [h0, h1]
  simp
theorem zPV {lo hi : Option Expr} {lf hf : Rho → Sto → R (Option Int)} {p2 : Pos} (ha : PEm X W a f) (hl : POm X W lo lf) (hh : POm X W hi hf) : PEm X W (.Subscript a (.Slice lo hi none p2) pos) (fun ρ S => (f ρ S).bind fun p S1 => (lf ρ S1).bind fun l S2 => (hf ρ S2).bind fun u S3 => zRL p l u S3) := by
  refine yEZ (yMB.or (yHW.or (yLV.or yIP))) ?_ ha hl hh
  intro p lo hi x α S H Q wd dp post
  unfold zRL at post
  split at post
  · split at post
    · rename_i hz
      exact .inl ⟨_, jD dp, hz, Post.val post wd (zCB _)⟩
    · exact post.elim
  · rename_i _ _ _ ds
    obtain ⟨a1, vs, rfl, s1, l1⟩ := nF dp
    by_cases hw : HT.sIx vs.length 0 lo = 0 ∧ HT.sIx vs.length vs.length hi = vs.length
    · have e : nB ds lo hi = ds := yCQ (by rw [← l1.length]; exact hw.1) (by rw [← l1.length]; exact hw.2)
      rw [e] at post
      exact .inr (.inr (.inr ⟨a1, vs, rfl, s1, hw.1, hw.2, Post.val post wd (zAB s1 l1)⟩))
    · exact .inr (.inr (.inl ⟨a1, vs, rfl, s1, hw, fun p hp => Post.newt post wd hp (l1.cut lo hi)⟩))
  · split at post
    · rename_i ds el
      obtain ⟨a1, vs, rfl, s1, l1⟩ := zNS rfl wd el dp
      exact .inr (.inl ⟨a1, vs, rfl, s1, fun p hp => Post.newl post wd hp (l1.cut lo hi)⟩)
    · exact post.elim
end
end M
end L2
namespace L2
namespace M
open PySem PySem.Spec PyProof.Rows
section
variable {X : Cx} {W : XW} {a b c e : Expr} {es : List Expr} {f g h : Rho → Sto → R Er} {af : Rho → Sto → R (List Er)} {pos : Pos}
noncomputable def zTZ (S : Sto) (n : Nat) (d : MV) : List MV → Option (List Bool)
  | [] => some []
  | y :: ys => (eqv S n y d).bind fun k => (zTZ S n d ys).map (k :: ·)
section
variable {α : List Addr} {S : Sto} {H : Hp} {pins : List (Addr × Obj)} {σ : St} {s : Shared}
noncomputable def zWB (X : Cx) (α : List Addr) (S : Sto) (H : Hp) (n : Nat) (d : MV) (u : Value) : Bool := open Classical in decide (∃ y x, Den X.K α H y x ∧ RelV x u ∧ eqv S n y d = some true)
open Classical in
theorem yIQ (I : Inv X pins σ H s) (wd : Wd X.g α S H) {n : Nat} {d y : MV} {x : V} {u : Value} {k : Bool} (dy : Den X.K α H y x) (r : RelV x u) (e : eqv S n y d = some k) : zWB X α S H n d u = k := by
  unfold zWB
  cases k with
  | true => exact decide_eq_true ⟨y, x, dy, r, e⟩
  | false =>
    refine decide_eq_false fun ⟨y', x', dy', r', e'⟩ => ?_
    have ex := r.inj r'
    subst ex
    rw [dy.inj I wd dy'] at e
    rw [e] at e'
    cases e'
theorem zLL (I : Inv X pins σ H s) (wd : Wd X.g α S H) {n : Nat} {A : Around} {d : MV} {x : V} {v : Value} (hu : A.units + n < cLine) (dd : Den X.K α H d x) (rx : RelV x v) : ∀ {ys : List MV} {vs : List V} {us : List Value} {bs : List Bool}, DenL X.K α H ys vs → Vals vs us → zTZ S n d ys = some bs →
    us.map (zWB X α S H n d) = bs ∧ ∀ u ∈ us, SeqAt.EqAt A s u v (zWB X α S H n d u)
  | [], _, _, bs, l, r, e => by
    cases l.isnil; cases r; cases e
    exact ⟨rfl, fun u hu => by cases hu⟩
  | y :: ys, _, _, bs, l, r, e => by
    obtain ⟨v', r', rfl, dy, l'⟩ := l.uncons
    cases r with
    | cons r1 r2 =>
      unfold zTZ at e
      cases z : eqv S n y d with
      | none => rw [z] at e; cases e
      | some k =>
        rw [z] at e
        cases z2 : zTZ S n d ys with
        | none => simp [z2] at e
        | some cs =>
          simp [z2] at e
          subst e
          obtain ⟨h1, h2⟩ := zLL I wd hu dd rx l' r2 z2
          have h3 := yIQ I wd dy r1 z
          refine ⟨by rw [List.map_cons, h1, h3], fun u hu' => ?_⟩
          rcases List.mem_cons.mp hu' with rfl | hu'
          · rw [h3]; exact zTV I wd n A y d _ _ _ _ k hu dy dd r1 rx z
          · exact h2 u hu'
end
theorem any_map {us : List Value} {f : Value → Bool} {bs : List Bool} (h : us.map f = bs) : us.toArray.any f = bs.any id := by
  subst h
  simp [List.any_map]
noncomputable def itemsOf (S : Sto) : Er → Option (List MV)
  | .val (.tup ds) => some ds
  | r => cE S r
theorem zLM {α : List Addr} {S : Sto} {H : Hp} (wd : Wd X.g α S H) {r : Er} {ds : List MV} {x : V} (e : itemsOf S r = some ds) (d : DenX X.K α H r x) : ∃ a vs, x = .ref a ∧ (SqL X.K H a vs ∨ SqT X.K H a vs) ∧ DenL X.K α H ds vs := by
  unfold itemsOf at e
  split at e
  · cases e
    obtain ⟨a, vs, rfl, s, l⟩ := nF d
    exact ⟨a, vs, rfl, .inr s, l⟩
  · obtain ⟨a, vs, rfl, s, l⟩ := zNS rfl wd e d
    exact ⟨a, vs, rfl, .inl s, l⟩
noncomputable def zMW (neg : Bool) (p q : Er) (S : Sto) : R Er := match p with
  | .val d => match itemsOf S q with
    | some ys => match zTZ S yO d ys with
      | some bs => .ok (.val (.bl (if neg = true then !bs.any id else bs.any id))) S
      | none => .no
    | none => .no
  | .new _ => .no
noncomputable def inF (neg : Bool) : Er → Er → Sto → R Er
  | .val (.str [c]), .val (.str y), S => .ok (.val (.bl (if neg = true then !decide (c ∈ y) else decide (c ∈ y)))) S
  | p, q, S => zMW neg p q S
abbrev yFL (X : Cx) (neg : Bool) : R2 := fun x y H Q => ∃ α S d q ys bs, Wd X.g α S H ∧ Den X.K α H d x ∧ DenX X.K α H q y ∧ itemsOf S q = some ys ∧ zTZ S yO d ys = some bs ∧ Q (.bl (if neg = true then !bs.any id else bs.any id)) H
theorem yMP (hu : X.A.units + 64 < cLine) : OpR X (compareOp .In) (yFL X false) := by
  intro pins s σ H x y v u Q I rx ry h
  obtain ⟨α, S, d, q, ys, bs, wd, dd, dq, ei, ea, hq⟩ := h
  obtain ⟨a, vs, rfl, sq, l⟩ := zLM wd ei dq
  cases ry
  rcases sq with sq | sq
  · obtain ⟨its, r, pl, _⟩ := I.list sq
    obtain ⟨h1, h2⟩ := zLL I wd (A := X.A.in1) (by show X.A.units + 1 + yO < cLine; unfold yO; (first | lia | omega)) dd rx l r ea
    refine SeqAt.in_listAt (zWB X α S H yO d) pl.isList (fun w hw => h2 w (by simpa using hw)) ⟨.bl _, H, I, rfl, ?_⟩
    rw [any_map h1]
    exact hq
  · obtain ⟨its, r, pl, _⟩ := I.tuple sq
    obtain ⟨h1, h2⟩ := zLL I wd (A := X.A.in1) (by show X.A.units + 1 + yO < cLine; unfold yO; (first | lia | omega)) dd rx l r ea
    refine SeqAt.in_tupleAt (zWB X α S H yO d) pl (fun w hw => h2 w (by simpa using hw)) ⟨.bl _, H, I, rfl, ?_⟩
    rw [any_map h1]
    exact hq
theorem yCR (hu : X.A.units + 64 < cLine) : OpR X (compareOp .NotIn) (yFL X true) := by
  intro pins s σ H x y v u Q I rx ry h
  obtain ⟨α, S, d, q, ys, bs, wd, dd, dq, ei, ea, hq⟩ := h
  obtain ⟨a, vs, rfl, sq, l⟩ := zLM wd ei dq
  cases ry
  rcases sq with sq | sq
  · obtain ⟨its, r, pl, _⟩ := I.list sq
    obtain ⟨h1, h2⟩ := zLL I wd (A := X.A.in1) (by show X.A.units + 1 + yO < cLine; unfold yO; (first | lia | omega)) dd rx l r ea
    refine SeqAt.notIn_listAt (zWB X α S H yO d) pl.isList (fun w hw => h2 w (by simpa using hw)) ⟨.bl _, H, I, rfl, ?_⟩
    rw [any_map h1]
    exact hq
  · obtain ⟨its, r, pl, _⟩ := I.tuple sq
    obtain ⟨h1, h2⟩ := zLL I wd (A := X.A.in1) (by show X.A.units + 1 + yO < cLine; unfold yO; (first | lia | omega)) dd rx l r ea
    refine SeqAt.notIn_tupleAt (zWB X α S H yO d) pl (fun w hw => h2 w (by simpa using hw)) ⟨.bl _, H, I, rfl, ?_⟩
    rw [any_map h1]
    exact hq
theorem yBB {neg : Bool} : Op2 X W (fun x y H Q => (∃ i j, x = .str i ∧ y = .str j ∧ Q (.bl (if neg = true then !(!(Builtin.Str.occurrences j i 0 j.length 1).isEmpty) else !(Builtin.Str.occurrences j i 0 j.length 1).isEmpty)) H) ∨ yFL X neg x y H Q) (inF neg) := by
  intro p q x y α S H Q wd dp dq post
  unfold inF at post
  split at post
  · refine .inl ⟨_, _, jD dp, jD dq, ?_⟩
    rw [← yIA, PySem.StrLaws.found_one, zEM]
    exact Post.val post wd (kD _)
  · unfold zMW at post
    split at post
    · rename_i d _
      split at post
      · rename_i ys ei
        split at post
        · rename_i bs ea
          exact .inr ⟨α, S, _, q, ys, bs, wd, dp, dq, ei, ea, Post.val post wd (kD _)⟩
        · exact post.elim
      · exact post.elim
    · exact post.elim
theorem OpR.imp {f : Value → Value → Sem Value} {r r' : R2} (h : OpR X f r) (i : ∀ x y H Q, r' x y H Q → r x y H Q) : OpR X f r' := fun pins s σ H x y v u Q I rx ry q => h pins s σ H x y v u Q I rx ry (i x y H Q q)
theorem yMQ (hu : X.A.units + 64 < cLine) : OpR X (compareOp .In) (fun x y H Q => (∃ i j, x = .str i ∧ y = .str j ∧ Q (.bl (if (false : Bool) = true then !(!(Builtin.Str.occurrences j i 0 j.length 1).isEmpty) else !(Builtin.Str.occurrences j i 0 j.length 1).isEmpty)) H) ∨ yFL X false x y H Q) :=
  OpR.imp (yCC.or (yMP hu)) fun x y H Q q => q.imp (fun q => q) fun q => q
theorem yCS (hu : X.A.units + 64 < cLine) : OpR X (compareOp .NotIn) (fun x y H Q => (∃ i j, x = .str i ∧ y = .str j ∧ Q (.bl (if (true : Bool) = true then !(!(Builtin.Str.occurrences j i 0 j.length 1).isEmpty) else !(Builtin.Str.occurrences j i 0 j.length 1).isEmpty)) H) ∨ yFL X true x y H Q) :=
  OpR.imp (zTK.or (yCR hu)) fun x y H Q q => q.imp (fun q => q) fun q => q
theorem pm_in (hu : X.A.units + 64 < cLine) (ha : PEm X W a f) (hb : PEm X W b g) (hm : behindInMarks .In b = false := by with_unfolding_all rfl) : PEm X W (.Compare a [.In] [b] pos) (fun ρ S => (f ρ S).bind fun p S1 => (g ρ S1).bind fun q S2 => inF false p q S2) := zTT (yMQ hu) yBB ha hb hm
theorem yFM (hu : X.A.units + 64 < cLine) (ha : PEm X W a f) (hb : PEm X W b g) (hm : behindInMarks .NotIn b = false := by with_unfolding_all rfl) : PTm X W (.Compare a [.NotIn] [b] pos) (fun ρ S => ((f ρ S).bind fun p S1 => (g ρ S1).bind fun q S2 => inF true p q S2).bind asB) := zKJ (yCS hu) yBB ha hb hm
theorem zNT {K : PySem.W.Frag} {α : List Addr} {H : Hp} {r : Er} {vs : List V} (d : ArgsX K α H [r] vs) : ∃ v, vs = [v] ∧ DenX K α H r v := by
  cases d with
  | cons a l => cases l; exact ⟨_, rfl, a⟩
theorem argx2 {K : PySem.W.Frag} {α : List Addr} {H : Hp} {r r' : Er} {vs : List V} (d : ArgsX K α H [r, r'] vs) : ∃ v u, vs = [v, u] ∧ DenX K α H r v ∧ DenX K α H r' u := by
  cases d with
  | cons a l => obtain ⟨u, rfl, l'⟩ := zNT l; exact ⟨_, u, rfl, a, l'⟩
noncomputable def wX : List Er → Sto → R Er
  | [.val (.str x)], S => if x.length ≤ sizeLine then .ok (.val (.int x.length)) S else .no
  | [r], S => match itemsOf S r with | some ds => .ok (.val (.int ds.length)) S | none => .no
  | _, _ => .no
theorem xX : zNR X W (fun xs H Q => (∃ z, xs = [.str z] ∧ z.length ≤ sizeLine ∧ Q (.int z.length) H) ∨ ∃ p ys, xs = [.ref p] ∧ (SqL X.K H p ys ∨ SqT X.K H p ys) ∧ Q (.int ys.length) H) wX := by
  intro rs vs α S H Q wd d post
  unfold wX at post
  split at post
  · split at post
    · rename_i hz
      obtain ⟨v, rfl, dv⟩ := zNT d
      cases jD dv
      refine .inl ⟨_, rfl, by rw [gE]; exact hz, ?_⟩
      rw [gE]
      exact Post.val post wd (kE _)
    · exact post.elim
  · split at post
    · rename_i ds e
      obtain ⟨v, rfl, dv⟩ := zNT d
      obtain ⟨a, us, rfl, sq, l⟩ := zLM wd e dv
      refine .inr ⟨a, us, rfl, sq, ?_⟩
      rw [l.length]
      exact Post.val post wd (kE _)
    · exact post.elim
  · exact post.elim
theorem yG : CallR X (.builtin "len") (fun xs H Q => (∃ z, xs = [.str z] ∧ z.length ≤ sizeLine ∧ Q (.int z.length) H) ∨ ∃ p ys, xs = [.ref p] ∧ (SqL X.K H p ys ∨ SqT X.K H p ys) ∧ Q (.int ys.length) H) := zTP.or zTO
noncomputable def absF : List Er → Sto → R Er
  | [.val (.int i)], S => .ok (.val (.int (if i < 0 then -i else i))) S
  | _, _ => .no
theorem yMR : zNR X W (fun xs H Q => ∃ i, xs = [.int i] ∧ Q (.int (if i < 0 then -i else i)) H) absF := by
  intro rs vs α S H Q wd d post
  unfold absF at post
  split at post
  · obtain ⟨v, rfl, dv⟩ := zNT d
    cases wD dv
    exact ⟨_, rfl, Post.val post wd (kE _)⟩
  · exact post.elim
noncomputable def zLN : List MV → Option (List Bool)
  | [] => some []
  | .bl b :: r => (zLN r).map (b :: ·)
  | _ :: _ => none
theorem zSS {K : PySem.W.Frag} {α : List Addr} {H : Hp} : ∀ {ds : List MV} {bs : List Bool} {vs : List V}, zLN ds = some bs → DenL K α H ds vs → vs = bs.map V.bl
  | [], _, _, e, l => by cases e; exact l.isnil
  | d :: r, bs, _, e, l => by
    cases d with
    | bl b =>
      unfold zLN at e
      cases z : zLN r with
      | none => rw [z] at e; cases e
      | some cs =>
        rw [z] at e
        cases e
        obtain ⟨v, us, rfl, dv, l'⟩ := l.uncons
        rw [zGM dv, zSS z l']
        rfl
    | _ => cases e
noncomputable def zRM : List Er → Sto → R Er
  | [r], S => match (cE S r).bind zLN with | some bs => .ok (.val (.bl (bs.all id))) S | none => .no
  | _, _ => .no
theorem zMX (hc : X.calm = true) : zNR X W (fun xs H Q => ∃ (a : Addr) (bs : List Bool), xs = [.ref a] ∧ SqL X.K H a (bs.map V.bl) ∧ X.calm = true ∧ Q (.bl (bs.all id)) H) zRM := by
  intro rs vs α S H Q wd d post
  unfold zRM at post
  split at post
  · split at post
    · rename_i bs e
      obtain ⟨v, rfl, dv⟩ := zNT d
      cases z : cE S _ with
      | none => rw [z] at e; cases e
      | some ds =>
        rw [z] at e
        obtain ⟨a1, us, rfl, s, l⟩ := zNS rfl wd z dv
        refine ⟨a1, bs, rfl, ?_, hc, Post.val post wd (kD _)⟩
        rw [← zSS e l]
        exact s
    · exact post.elim
  · exact post.elim
noncomputable def zUA (S : Sto) : Er → Option String
  | .val .non => some "NoneType"
  | .val (.bl _) => some "bool"
  | .val (.int _) => some "int"
  | .val (.str _) => some "str"
  | .val (.tup _) => some "tuple"
  | .val (.typ _) => none
  | r => (cE S r).map fun _ => "list"
noncomputable def yFN (t T : String) : Bool := t == T || (t == "bool" && T == "int")
noncomputable def known (T : String) : Bool := T == "int" || T == "bool" || T == "str" || T == "tuple" || T == "list"
noncomputable def bZ : List Er → Sto → R Er
  | [r, .val (.typ T)], S => match zUA S r with
    | some t => if known T = true then .ok (.val (.bl (yFN t T))) S else .no
    | none => .no
  | _, _ => .no
theorem zAH (K : PySem.W.Frag) {t T : String} (ht : t = "NoneType" ∨ t = "bool" ∨ t = "int" ∨ t = "str" ∨ t = "tuple" ∨ t = "list") (hT : known T = true) : PySem.W.kitOne K (.type t) (.type T) = some (yFN t T) := by
  have hT' : T = "int" ∨ T = "bool" ∨ T = "str" ∨ T = "tuple" ∨ T = "list" := by
    unfold known at hT
    simp only [Bool.or_eq_true, beq_iff_eq] at hT
    rcases hT with (((h | h) | h) | h) | h
    · exact .inl h
    · exact .inr (.inl h)
    · exact .inr (.inr (.inl h))
    · exact .inr (.inr (.inr (.inl h)))
    · exact .inr (.inr (.inr (.inr h)))
  rcases ht with rfl | rfl | rfl | rfl | rfl | rfl <;> rcases hT' with rfl | rfl | rfl | rfl | rfl <;> kernel_rfl
theorem wQ : CallR X (.builtin "isinstance") (fun xs H Q => ∃ α S r x t T, xs = [x, .ty T] ∧ Wd X.g α S H ∧ DenX X.K α H r x ∧ zUA S r = some t ∧ known T = true ∧ Q (.bl (yFN t T)) H) := by
  intro pins s σ H xs us Q I rr h
  obtain ⟨α, S, r, x, t, T, rfl, wd, d, et, hk, q⟩ := h
  obtain ⟨u, w', rfl, rx, rT⟩ := vals2 rr
  cases rT
  have fin : ∀ tk, EP X pins σ Q (.bool (yFN t T)) { s with toks := tk } := fun tk => ⟨.bl _, H, I.tok _, rfl, q⟩
  unfold zUA at et
  split at et
  · cases et
    cases zMT d
    cases rx
    exact PySem.W.kia_one PySem.W.kitx_none I.kIn True.intro (zAH X.K (.inl rfl) hk) (fun z => nomatch z) fin
  · cases et
    cases zJT d
    cases rx
    exact PySem.W.kia_one PySem.W.kitx_bool I.kIn True.intro (zAH X.K (.inr (.inl rfl)) hk) (fun z => nomatch z) fin
  · cases et
    cases wD d
    obtain ⟨t, rfl⟩ := rx
    exact PySem.W.kia_one PySem.W.kitx_int I.kIn True.intro (zAH X.K (.inr (.inr (.inl rfl))) hk) (fun z => nomatch z) fin
  · cases et
    cases jD d
    obtain ⟨t, rfl⟩ := rx
    exact PySem.W.kia_one PySem.W.kitx_str I.kIn True.intro (zAH X.K (.inr (.inr (.inr (.inl rfl)))) hk) (fun z => nomatch z) fin
  · cases et
    obtain ⟨a, vs, rfl, sq, l⟩ := nF d
    cases rx
    obtain ⟨its, r1, p1, _⟩ := I.tuple sq
    obtain ⟨o, h1, h2, _⟩ := p1
    exact PySem.W.kia_one PySem.W.kitx_tuple I.kIn ⟨o, h1, h2⟩ (zAH X.K (.inr (.inr (.inr (.inr (.inl rfl))))) hk) (fun z => nomatch z) fin
  · cases et
  · cases z : cE S r with
    | none => rw [z] at et; cases et
    | some ds =>
      rw [z] at et
      cases et
      obtain ⟨a, vs, rfl, sq, l⟩ := zNS rfl wd z d
      cases rx
      obtain ⟨its, r1, p1, _⟩ := I.list sq
      obtain ⟨o, h1, h2, _⟩ := p1.isList
      exact PySem.W.kia_one PySem.W.kitx_list I.kIn ⟨o, h1, h2⟩ (zAH X.K (.inr (.inr (.inr (.inr (.inr rfl))))) hk) (fun z => nomatch z) fin
theorem bE : zNR X W (fun xs H Q => ∃ α S r x t T, xs = [x, .ty T] ∧ Wd X.g α S H ∧ DenX X.K α H r x ∧ zUA S r = some t ∧ known T = true ∧ Q (.bl (yFN t T)) H) bZ := by
  intro rs vs α S H Q wd d post
  unfold bZ at post
  split at post
  · split at post
    · rename_i t et
      split at post
      · rename_i hk
        obtain ⟨v, u, rfl, d1, d2⟩ := argx2 d
        cases yET d2
        exact ⟨α, S, _, v, t, _, rfl, wd, d1, et, hk, Post.val post wd (kD _)⟩
      · exact post.elim
    · exact post.elim
  · exact post.elim
noncomputable def kI : List Er → Sto → R Er
  | [.val (.tup ds)], S => .ok (.val (.tup ds)) S
  | [r], S => match cE S r with | some ds => .ok (.val (.tup ds)) S | none => .no
  | _, _ => .no
theorem kT : zNR X W (fun xs H Q => ∃ p ys, xs = [.ref p] ∧ ((SqL X.K H p ys ∧ ∀ l, H l = none → Q (.ref l) (upd H l (.tup ys))) ∨ (SqT X.K H p ys ∧ Q (.ref p) H))) kI := by
  intro rs vs α S H Q wd d post
  unfold kI at post
  split at post
  · obtain ⟨v, rfl, dv⟩ := zNT d
    obtain ⟨a, us, rfl, sq, l⟩ := nF dv
    exact ⟨a, us, rfl, .inr ⟨sq, Post.val post wd (zAB sq l)⟩⟩
  · split at post
    · rename_i ds e
      obtain ⟨v, rfl, dv⟩ := zNT d
      obtain ⟨a, us, rfl, sq, l⟩ := zNS rfl wd e dv
      exact ⟨a, us, rfl, .inl ⟨sq, fun p hp => Post.newt post wd hp l⟩⟩
    · exact post.elim
  · exact post.elim
noncomputable def zHM : List Er → Sto → R Er
  | [r], S => match itemsOf S r with | some ds => .ok (.new ds) S | none => .no
  | _, _ => .no
theorem zJE : zNR X W (fun xs H Q => ∃ p ys, xs = [.ref p] ∧ (SqL X.K H p ys ∨ SqT X.K H p ys) ∧ ∀ l, H l = none → Q (.ref l) (upd H l (.lst ys))) zHM := by
  intro rs vs α S H Q wd d post
  unfold zHM at post
  split at post
  · split at post
    · rename_i ds e
      obtain ⟨v, rfl, dv⟩ := zNT d
      obtain ⟨a, us, rfl, sq, l⟩ := zLM wd e dv
      exact ⟨a, us, rfl, sq, fun p hp => Post.newl post wd hp l⟩
    · exact post.elim
  · exact post.elim
theorem xY : bootBuiltins "len" = some (.builtin "len") := by decide +kernel
theorem yMS : bootBuiltins "abs" = some (.builtin "abs") := by decide +kernel
theorem zMY : bootBuiltins "all" = some (.builtin "all") := by decide +kernel
theorem yL : bootBuiltins "isinstance" = some (.builtin "isinstance") := by decide +kernel
theorem zYS : bootBuiltins "int" = some (.type "int") := by decide +kernel
theorem yBC : bootBuiltins "bool" = some (.type "bool") := by decide +kernel
theorem zYT : bootBuiltins "str" = some (.type "str") := by decide +kernel
theorem wE : bootBuiltins "tuple" = some (.type "tuple") := by decide +kernel
theorem zCF : bootBuiltins "list" = some (.type "list") := by decide +kernel
end
end M
end L2
namespace L2
namespace M
open PySem PySem.Spec PyProof.Rows
section
variable {X : Cx} {W : XW} {a b c e o i : Expr} {es : List Expr} {f g h : Rho → Sto → R Er} {af : Rho → Sto → R (List Er)} {pos apos : Pos}
noncomputable def zPW : Er → Sto → Bool
  | .val (.str _), _ => true
  | _, _ => false
theorem ty_str : TyM X "str" zPW := by
  intro p x α S H wd d h
  unfold zPW at h
  split at h
  · cases jD d; rfl
  · cases h
noncomputable def zCG (p : Er) (S : Sto) : Bool := (cE S p).isSome
theorem zYU : TyM X "list" zCG := by
  intro p x α S H wd d h
  unfold zCG at h
  cases z : cE S p with
  | none => rw [z] at h; cases h
  | some ds =>
    obtain ⟨a, vs, rfl, s, l⟩ := zNS rfl wd z d
    exact .inl ⟨rfl, vs, s⟩
noncomputable def swF : Er → List Er → Sto → R Er
  | .val (.str x), [.val (.str y)], S => .ok (.val (.bl (decide (y.length ≤ x.length) && decide (x.take y.length = y)))) S
  | _, _, _ => .no
noncomputable def strIdx (x y : List Nat) : Option Nat := (Builtin.Str.occurrences (mkS x) (mkS y) 0 (mkS x).length 1).head?
noncomputable def zWC : Er → List Er → Sto → R Er
  | .val (.str x), [.val (.str y)], S => match strIdx x y with | some i => .ok (.val (.int (i : Nat))) S | none => .no
  | _, _, _ => .no
theorem yIR : MtR X "str.index" (fun x xs H Q => ∃ y z i, x = .str (mkS y) ∧ xs = [.str (mkS z)] ∧ strIdx y z = some i ∧ Q (.int (i : Nat)) H) := by
  intro pins s σ H x xs v us Q I rx rs h
  obtain ⟨y, z, i, rfl, rfl, hi, q⟩ := h
  obtain ⟨t, rfl⟩ := rx
  obtain ⟨u, rfl, t', rfl⟩ := vals1 rs
  unfold strIdx at hi
  cases zz : Builtin.Str.occurrences (mkS y) (mkS z) 0 (mkS y).length 1 with
  | nil => rw [zz] at hi; cases hi
  | cons k r =>
    rw [zz] at hi
    cases hi
    exact PySem.SC.index zz ⟨.int _, H, I.tok _, ⟨_, rfl⟩, q⟩
theorem yIS : yCL X W (fun x xs H Q => ∃ y z i, x = .str (mkS y) ∧ xs = [.str (mkS z)] ∧ strIdx y z = some i ∧ Q (.int (i : Nat)) H) zWC := by
  intro p rs x vs α S H0 H Q α0 wd x0 dp da post
  replace post := post.shift x0
  unfold zWC at post
  split at post
  · split at post
    · rename_i i hi
      obtain ⟨v, rfl, dv⟩ := yAX da
      exact ⟨_, _, i, jD dp, by rw [jD dv], hi, Post.val post wd (kE _)⟩
    · exact post.elim
  · exact post.elim
theorem yIT (ho : PEm X W a f) (ha : PAm X W (e :: es) af)
    (hbase : attributeBase a "index" X.env (eval a X.env) = eval a X.env := by rfl)
    (hfew : ((backTo pos (starEach (e :: es) X.env)).all (fun x => !x.1) && (backToKw pos (keywordEach [] X.env)).all (fun x => x.1.isSome)
      && decide ((e :: es).length + ([] : List Keyword).length + (if ([] : List Keyword).isEmpty then 0 else 1) < 30)) = true := by rfl)
    (hline : (apos.endLine == pos.line) = true := by rfl) (hs : starEach (e :: es) X.env = (false, eval e X.env) :: starEach es X.env := by rfl) (hplain : (backTo pos (starEach es X.env)).any (·.1) = false := by rfl) :
    PEm X W (.Call (.Attribute a "index" apos) (e :: es) [] pos) (fun ρ S => (f ρ S).bind fun p S1 => if zPW p S1 = true then (af ρ S1).bind fun rs S2 => zWC p rs S2 else .no) :=
  yAV PySem.F.plainAttrs_str PySem.F.slot_str_index PySem.F.type_str_index yIR yIS ty_str ho ha hbase hfew hline hs hplain
noncomputable def zOG (p : Er) (S : Sto) (G : List MV → Option (List MV)) : R Er := match p with
  | .val (.loc l) => match S[l]? with
    | some (.lst ds) => match G ds with
      | some es => .ok (.val .non) (S.set l (.lst es))
      | none => .no
    | _ => .no
  | _ => .no
theorem zMZ {α0 α : List Addr} {H0 H : Hp} {S : Sto} {p : Er} {x : V} {G : List MV → Option (List MV)} {Q : VK} (wd : Wd X.g α S H) (x0 : Ext α0 H0 α H) (dp : DenX X.K α H p x) (post : Post X.g W α0 H0 (zOG p S G) Q) :
    ∃ a vs ds es, x = .ref a ∧ H a = some (.lst vs) ∧ DenL X.K α H ds vs ∧ G ds = some es ∧ ∀ us, DenL X.K α H es us → Q .non (upd H a (.lst us)) := by
  unfold zOG at post
  split at post
  · rename_i l
    obtain ⟨a, rfl, h⟩ := zEN dp
    obtain ⟨ob, h1, h2⟩ := wd.of h
    rw [h1] at post
    cases ob with
    | lst ds =>
      obtain ⟨vs, h3, l1⟩ := h2
      have post : Post X.g W α0 H0 (match G ds with | some es => R.ok (Er.val .non) (S.set l (.lst es)) | none => R.no) Q := post
      split at post
      · rename_i es eg
        refine ⟨a, vs, ds, es, rfl, h3, l1, eg, fun us lu => ?_⟩
        have xw := wd.writex h (o := .lst us)
        exact (post.shift (x0.trans xw)).val (wd.write h ⟨us, kP, lu.ext xw⟩) zLI
      · exact post.elim
    | dic _ => exact post.elim
    | ins _ _ => exact post.elim
  · exact post.elim
noncomputable def zWD : Er → List Er → Sto → R Er
  | p, [r], S => (zEP r S).bind fun y S1 => zOG p S1 fun ds => if ds.length < sizeLine then some (ds ++ [y]) else none
  | _, _, _ => .no
theorem yCT : yCL X W yAP zWD := by
  intro p rs x vs α S H0 H Q α0 wd x0 dp da post
  match rs, da, post with
  | [], _, post => exact post.elim
  | _ :: _ :: _, _, post => exact post.elim
  | [r], da, post =>
    cases da with
    | cons d n l =>
      cases l
      obtain ⟨d', S', α', e', x', y', w', dd⟩ := zJC wd x0 d
      have post : Post X.g W α0 H0 ((zEP r S).bind fun y S1 => zOG p S1 fun ds => if ds.length < sizeLine then some (ds ++ [y]) else none) Q := post
      rw [e'] at post
      have dp' : DenX X.K α' H p x := by
        cases p with
        | val m => exact Den.ex0 y' dp
        | new ds => exact post.elim
      obtain ⟨a, us, ds, es, rfl, h1, l1, eg, k⟩ := zMZ w' x' dp' post
      split at eg
      · rename_i hz
        cases eg
        exact ⟨a, us, _, rfl, rfl, h1, by rw [l1.length]; exact hz, k _ (l1.append (xE dd xN))⟩
      · cases eg
theorem zDZ (ho : PEm X W a f) (ha : PAm X W (e :: es) af)
    (hbase : attributeBase a "append" X.env (eval a X.env) = eval a X.env := by rfl)
    (hfew : ((backTo pos (starEach (e :: es) X.env)).all (fun x => !x.1) && (backToKw pos (keywordEach [] X.env)).all (fun x => x.1.isSome)
      && decide ((e :: es).length + ([] : List Keyword).length + (if ([] : List Keyword).isEmpty then 0 else 1) < 30)) = true := by rfl)
    (hline : (apos.endLine == pos.line) = true := by rfl) (hs : starEach (e :: es) X.env = (false, eval e X.env) :: starEach es X.env := by rfl) (hplain : (backTo pos (starEach es X.env)).any (·.1) = false := by rfl) :
    PEm X W (.Call (.Attribute a "append" apos) (e :: es) [] pos) (fun ρ S => (f ρ S).bind fun p S1 => if zCG p S1 = true then (af ρ S1).bind fun rs S2 => zWD p rs S2 else .no) :=
  yAV PySem.F.plainAttrs_list PySem.F.slot_list_append PySem.F.type_list_append yCF yCT zYU ho ha hbase hfew hline hs hplain
noncomputable def yFO : Er → List Er → Sto → R Er
  | p, [], S => zOG p S fun _ => some []
  | _, _, _ => .no
theorem yFP : yCL X W yEK yFO := by
  intro p rs x vs α S H0 H Q α0 wd x0 dp da post
  match rs, da, post with
  | _ :: _, _, post => exact post.elim
  | [], .nil, post =>
    have post : Post X.g W α0 H0 (zOG p S fun _ => some []) Q := post
    obtain ⟨a, us, ds, es, rfl, h1, l1, eg, k⟩ := zMZ wd x0 dp post
    cases eg
    exact ⟨a, us, rfl, rfl, h1, k [] xN⟩
noncomputable def yFQ : Er → List Er → Sto → R Er
  | p, [], S => zOG p S fun ds => some ds.reverse
  | _, _, _ => .no
theorem zYV : yCL X W zVN yFQ := by
  intro p rs x vs α S H0 H Q α0 wd x0 dp da post
  match rs, da, post with
  | _ :: _, _, post => exact post.elim
  | [], .nil, post =>
    have post : Post X.g W α0 H0 (zOG p S fun ds => some ds.reverse) Q := post
    obtain ⟨a, us, ds, es, rfl, h1, l1, eg, k⟩ := zMZ wd x0 dp post
    cases eg
    exact ⟨a, us, rfl, rfl, h1, k _ l1.reverse⟩
theorem yFR (ho : PEm X W a f) (hbase : attributeBase a "clear" X.env (eval a X.env) = eval a X.env := by rfl) (hline : (apos.endLine == pos.line) = true := by rfl) :
    PEm X W (.Call (.Attribute a "clear" apos) [] [] pos) (fun ρ S => (f ρ S).bind fun p S1 => if zCG p S1 = true then yFO p [] S1 else .no) :=
  zVW PySem.F.plainAttrs_list PySem.F.slot_list_clear PySem.F.type_list_clear yEL yFP zYU ho hbase hline
theorem zYW (ho : PEm X W a f) (hbase : attributeBase a "reverse" X.env (eval a X.env) = eval a X.env := by rfl) (hline : (apos.endLine == pos.line) = true := by rfl) :
    PEm X W (.Call (.Attribute a "reverse" apos) [] [] pos) (fun ρ S => (f ρ S).bind fun p S1 => if zCG p S1 = true then yFQ p [] S1 else .no) :=
  zVW PySem.F.plainAttrs_list PySem.F.slot_list_reverse PySem.F.type_list_reverse zYI zYV zYU ho hbase hline
noncomputable def zWE (p q : Er) (d : MV) (ρ : Rho) (S : Sto) : R Rho := match p, q with
  | .val (.loc l), .val (.int k) => match S[l]? with
    | some (.lst ds) => match ixN ds.length k with
      | some j => .ok ρ (S.set l (.lst (ds.set j d)))
      | none => .no
    | _ => .no
  | _, _ => .no
theorem yMT (ho : PEm X W o f) (hi : PEm X W i g)
    (ha : ∀ v, assign (.Subscript o i pos) X.env v = (do
      let ov ← holding [v] (eval o X.env)
      let iv ← holding [v, ov] (eval i X.env)
      standAt pos
      holding [v, ov, iv] (setItem ov iv v)
      release [v, ov, iv] []) := by intro _; rfl) : PGm X W (.Subscript o i pos) (fun d ρ S => (f ρ S).bind fun p S1 => (g ρ S1).bind fun q S2 => zWE p q d ρ S2) := by
  obtain ⟨to, ho, fo⟩ := ho
  obtain ⟨ti, hi, fi⟩ := hi
  refine ⟨_, yDX ho hi set_list ha, fun α ρ S σ H d v Q wd sl de q => fo α ρ S σ H _ wd sl (q.bind fun u p S1 α1 H1 e1 x1 w1 d1 q1 => fi α1 ρ S1 σ H1 _ w1 (sl.ext x1) ((q1.shift x1).bind fun u2 p2 S2 α2 H2 e2 x2 w2 d2 q2 => ?_))⟩
  replace q2 := q2.shift x2
  have d1' := DenX.ext x2 d1.1
  unfold zWE at q2
  split at q2
  · rename_i l k
    obtain ⟨a, rfl, h⟩ := zEN d1'
    cases wD d2.1
    obtain ⟨ob, h1, h2⟩ := w2.of h
    rw [h1] at q2
    cases ob with
    | lst ds =>
      obtain ⟨vs, h3, l1⟩ := h2
      have q2 : Post X.g W α2 H2 (match ixN ds.length k with | some j => R.ok ρ (S2.set l (.lst (ds.set j d))) | none => R.no) Q := q2
      split at q2
      · rename_i j ej
        have xw := w2.writex h (o := .lst (vs.set j v))
        have sl2 := ((sl.ext x1).ext x2).ext xw
        exact ⟨a, vs, k, j, rfl, rfl, h3, by rw [l1.length]; exact ej, q2 σ α2 _ xw (w2.write h ⟨_, kP, (l1.set ((de.ext x1).ext x2) j).ext xw⟩) sl2⟩
      · exact q2.elim
    | dic _ => exact q2.elim
    | ins _ _ => exact q2.elim
  · exact q2.elim
end
end M
end L2
namespace L2
namespace M
open PySem PySem.Spec PyProof.Rows
theorem _root_.L2.Inv.turnedL {X : Cx} {pins : List (Addr × Obj)} {σ : St} {H : Hp} {s : Shared} {h' : Heap} {t' : Nat} {fp : List Addr} (I : Inv X pins σ H s) (k : ∀ b o, b ∉ fp → s.heap.get? b = some o → h'.get? b = some o)
    (hf : ∀ b ∈ fp, zKF X pins H b) : Inv X pins σ H { s with heap := h', toks := t' } := by
  have nit : ∀ b u, H b = some u → b ∉ fp := fun b u e z => by rw [(hf b z).1] at e; cases e
  refine I.step (g' := s.gens) (d' := s.drawn) (ch := fp) (fun b hb => ⟨(hf b hb).2.2.2.1, (hf b hb).2.1, (hf b hb).2.2.2.2.1, (hf b hb).2.2.2.2.2⟩) (fun b o _ _ hc e _ => k b o hc e) (fun b o _ _ hc e _ => ⟨o.slots, k b o hc e⟩) (fun _ _ _ _ n => n)
    (fun b o hc e => ⟨o, k b o hc e⟩) (fun _ _ e => e) (fun _ _ _ e => e) (fun b ps e => ⟨#[], by rw [e]; simp⟩) (fun m hm => ?_) (fun b u e => ?_) I.bare
  · obtain ⟨o, es, ep, ho, r⟩ := hm
    exact ⟨o, es, ep, k _ o (fun z => (hf _ z).2.1 rfl) ho, r⟩
  · refine (I.hok b u e).stay (fun c v hc q => k c v ?_ q) (fun _ q => q) fun _ _ q => q
    rcases hc with z | z
    · rw [z]; exact nit b u e
    · exact nit c _ z
noncomputable def IsSub (k : Bool) (h : Heap) (it l : Addr) (i : Nat) : Prop := if k = true then h.IsListIter it l i else h.IsTupleIter it l i
noncomputable def IsSeq (k : Bool) (h : Heap) (l : Addr) (its : Array Value) : Prop := if k = true then h.IsList l its else h.IsTuple l its
noncomputable def zEQ (k : Bool) (l : Addr) : Obj := { cls := .type (if k = true then "list_iterator" else "tuple_iterator"), data := .fields #[.ref l, .int 0 0] }
theorem IsSub.mk' {k : Bool} {h : Heap} {it l : Addr} (e : h.get? it = some (zEQ k l)) : IsSub k h it l 0 := by
  cases k with
  | true => exact ⟨_, e, rfl, rfl⟩
  | false => exact ⟨_, e, rfl, rfl⟩
theorem IsSub.there {k : Bool} {h : Heap} {it l : Addr} {i : Nat} (x : IsSub k h it l i) : ∃ o, h.get? it = some o ∧ ∀ v, o.data ≠ .cell v := by
  cases k with
  | true => obtain ⟨o, e, _, d⟩ := (x : h.IsListIter it l i); exact ⟨o, e, fun v z => by rw [d] at z; cases z⟩
  | false => obtain ⟨o, e, _, d⟩ := (x : h.IsTupleIter it l i); exact ⟨o, e, fun v z => by rw [d] at z; cases z⟩
theorem IsSub.move {k : Bool} {h h' : Heap} {it l : Addr} {i : Nat} (x : IsSub k h it l i) (f : ∀ o, h.get? it = some o → h'.get? it = some o) : IsSub k h' it l i := by
  cases k with
  | true => obtain ⟨o, e, r⟩ := (x : h.IsListIter it l i); exact ⟨o, f o e, r⟩
  | false => obtain ⟨o, e, r⟩ := (x : h.IsTupleIter it l i); exact ⟨o, f o e, r⟩
theorem IsSeq.move {k : Bool} {h h' : Heap} {l : Addr} {its : Array Value} (x : IsSeq k h l its) (f : ∀ o, h.get? l = some o → h'.get? l = some o) : IsSeq k h' l its := by
  cases k with
  | true => obtain ⟨o, e, r⟩ := (x : h.IsList l its); exact ⟨o, f o e, r⟩
  | false => obtain ⟨o, e, r⟩ := (x : h.IsTuple l its); exact ⟨o, f o e, r⟩
section
variable {prog : Program} {w : World} {A : Around} {E : Value → Shared → Prop} {s : Shared}
theorem zHN {k : Bool} {l : Addr} {its : Array Value} {Q : Value → Shared → Prop} (hl : IsSeq k s.heap l its) (h : Q (.ref s.heap.objs.size) { s with heap := s.heap.push (zEQ k l) }) : wpAny (model prog w) A (pyIter (.ref l)) Q E s := by
  cases k with
  | true => exact wpAny_pyIter_list hl h
  | false => exact wpAny_pyIter_tuple hl h
theorem zLO {k : Bool} {it l : Addr} {i : Nat} {its : Array Value} {x : Value} {Q : Value → Shared → Prop} (hit : IsSub k s.heap it l i) (hl : IsSeq k s.heap l its) (hx : its[i]? = some x)
    (hQ : ∀ h', IsSub k h' it l (i + 1) → Heap.SameBut it s.heap h' → Q x { s with heap := h' }) : wpAny (model prog w) A (Builtin.SmallTypes.nextOf (.ref it)) Q E s := by
  cases k with
  | true => exact wpAny_nextOf_list_item hit hl hx hQ
  | false =>
    have hit' : s.heap.IsTupleIter it l i := hit
    obtain ⟨o, ho, hc, hd⟩ := id hit'
    obtain ⟨ol, hol, _, nl, hdl⟩ := (hl : s.heap.IsTuple l its)
    unfold Builtin.SmallTypes.nextOf
    refine wpAny_bind (wpAny_callSpecial?_slot (name := Str.ofString "__next__") hit'.typeIs F.slot_tuple_iterator_next (wpAny_call_entry F.slot_tuple_iterator_next hit'.typeIs F.entry_tuple_iterator_next ?_ (F.args_tuple_iterator_next_1 _)))
    show wpAny _ _ (field (.ref it) 0 >>= _) _ _ s
    refine wpAny_bind (wpAny_field ho hd (x := .ref l) rfl ?_)
    show wpAny _ _ (if (Value.ref l == Value.none) = true then _ else _) _ _ s
    rw [if_neg (show ¬ ((Value.ref l == Value.none) = true) from Bool.false_ne_true)]
    show wpAny _ _ (field (.ref it) 1 >>= _) _ _ s
    refine wpAny_bind (wpAny_field ho hd (x := .int i 0) rfl ?_)
    show wpAny _ _ (seqItems? (.ref l) >>= _) _ _ s
    refine wpAny_bind (wpAny_seqItems hol hdl ?_)
    simp only [Int.toNat_natCast, hx]
    refine wpAny_bind (wpAny_setField ho hd (by simp) (wpAny_pure ⟨x, rfl, wpAny_pure (hQ _ ?_ (Heap.SameBut.update ..))⟩))
    exact ⟨_, Heap.get?_update_self _ ho (Obj.isFreed_of_fields (Obj.data_mapFields hd _)), (Obj.cls_mapFields ..).trans hc, by rw [Obj.data_mapFields hd]; simp [rawInt]⟩
theorem zUB {k : Bool} {it l : Addr} {i : Nat} {its : Array Value} {Q : Value → Shared → Prop} (hh : A.handled = none) (hit : IsSub k s.heap it l i) (hl : IsSeq k s.heap l its) (hx : its[i]? = none)
    (hE : ∀ h' e, Heap.ExtBut it s.heap h' → (∃ o, h'.get? e = some o ∧ o.cls = .type "StopIteration") → E (.ref e) { s with heap := h' }) : wpAny (model prog w) A (Builtin.SmallTypes.nextOf (.ref it)) Q E s := by
  cases k with
  | true => exact wpAny_nextOf_list_end hh hit hl hx hE
  | false =>
    have hit' : s.heap.IsTupleIter it l i := hit
    obtain ⟨o, ho, hc, hd⟩ := id hit'
    obtain ⟨ol, hol, _, nl, hdl⟩ := (hl : s.heap.IsTuple l its)
    unfold Builtin.SmallTypes.nextOf
    refine wpAny_bind (wpAny_callSpecial?_slot (name := Str.ofString "__next__") hit'.typeIs F.slot_tuple_iterator_next (wpAny_call_entry F.slot_tuple_iterator_next hit'.typeIs F.entry_tuple_iterator_next ?_ (F.args_tuple_iterator_next_1 _)))
    show wpAny _ _ (field (.ref it) 0 >>= _) _ _ s
    refine wpAny_bind (wpAny_field ho hd (x := .ref l) rfl ?_)
    show wpAny _ _ (if (Value.ref l == Value.none) = true then _ else _) _ _ s
    rw [if_neg (show ¬ ((Value.ref l == Value.none) = true) from Bool.false_ne_true)]
    show wpAny _ _ (field (.ref it) 1 >>= _) _ _ s
    refine wpAny_bind (wpAny_field ho hd (x := .int i 0) rfl ?_)
    show wpAny _ _ (seqItems? (.ref l) >>= _) _ _ s
    refine wpAny_bind (wpAny_seqItems hol hdl ?_)
    simp only [Int.toNat_natCast, hx]
    refine wpAny_bind (wpAny_rule (wpAny_bind (wpAny_setField ho hd (by simp) ?_)))
    show wpAny _ _ (newExc (.type "StopIteration") [] >>= _) _ _ _
    refine wpAny_bind ?_
    simp only [newExc, newTuple]
    refine wpAny_bind (wpAny_newObj_type ?_ (by size_fits))
    refine wpAny_bind (m := firstArgMember _ _) (wpAny_of_eq (a := Value.none) (by first | rfl | (simp only [firstArgMember]; rfl)) ?_)
    refine wpAny_newObj_type ?_ (by size_fits)
    simp only [raiseNew]
    refine wpAny_bind (wpAny_handled ?_)
    first | rw [show A.in1.handled = none from hh] | rw [hh]
    refine wpAny_bind (wpAny_pure (wpAny_throw ?_))
    exact hE _ _ (((Heap.SameBut.update ..).extBut.push _).push _) ⟨_, Heap.get?_push_size _ rfl, rfl⟩
end
structure ZipSt (k1 k2 : Bool) (z TI TO i1 i2 l1 l2 : Addr) (i : Nat) (h : Heap) : Prop where
  z : IsZip h z TI TO .none
  ti : IsPair h TI (.ref i1) (.ref i2)
  to : ∃ a b, IsPair h TO a b
  s1 : IsSub k1 h i1 l1 i
  s2 : IsSub k2 h i2 l2 i
structure Apart5 (z TI TO i1 i2 : Addr) : Prop where
  TIz : TI ≠ z
  TOz : TO ≠ z
  i1z : i1 ≠ z
  i2z : i2 ≠ z
  TITO : TI ≠ TO
  TIi1 : TI ≠ i1
  TIi2 : TI ≠ i2
  TOi1 : TO ≠ i1
  TOi2 : TO ≠ i2
  i12 : i1 ≠ i2
section
variable {prog : Program} {w : World} {A : Around} {E : Value → Shared → Prop} {s : Shared} {k1 k2 : Bool} {z TI TO i1 i2 l1 l2 : Addr} {i : Nat} {xs ys : Array Value}
noncomputable def Off (l z TO i1 i2 : Addr) : Prop := l ≠ z ∧ l ≠ TO ∧ l ≠ i1 ∧ l ≠ i2
theorem yFS {x y : Value} {Q : Value → Shared → Prop} (D : Apart5 z TI TO i1 i2) (o1 : Off l1 z TO i1 i2) (o2 : Off l2 z TO i1 i2) (st : ZipSt k1 k2 z TI TO i1 i2 l1 l2 i s.heap) (hl1 : IsSeq k1 s.heap l1 xs) (hl2 : IsSeq k2 s.heap l2 ys) (hx : xs[i]? = some x) (hy : ys[i]? = some y)
    (hQ : ∀ h', IsZip h' z TI TO (rawInt s.heap.objs.size) → IsPair h' TO x y → IsSub k1 h' i1 l1 (i + 1) → IsSub k2 h' i2 l2 (i + 1) → IsPair h' s.heap.objs.size x y →
      (∀ c o, c ≠ z → c ≠ TO → c ≠ i1 → c ≠ i2 → s.heap.get? c = some o → h'.get? c = some o) → Q (.ref s.heap.objs.size) { s with heap := h' }) :
    wpAny (model prog w) A (Builtin.«zip.__next__» ⟨[.ref z], []⟩) (fun fin s' => ∃ v, fin = .done (.ret v) ∧ Q v s') E s := by
  obtain ⟨hz, hTI, ⟨a, b, hTO⟩, h1, h2⟩ := st
  show wpAny _ _ (field (.ref z) 2 >>= _) _ _ _
  refine wpAny_bind (wpAny_field hz rfl (x := .bool false) rfl ?_)
  show wpAny _ _ (field (.ref z) 3 >>= _) _ _ _
  refine wpAny_bind (wpAny_field hz rfl (x := .ref TI) rfl (wpAny_bind (wpAny_seqItems hTI rfl ?_)))
  show wpAny _ _ (Builtin.SmallTypes.ownedTupleIsFree (.ref z) >>= _) _ _ _
  refine wpAny_bind ?_
  unfold Builtin.SmallTypes.ownedTupleIsFree
  refine wpAny_bind (wpAny_field hz rfl (x := .none) rfl (wpAny_pure ?_))
  simp only [if_true]
  refine wpAny_bind (wpAny_rule (wpAny_bind (wpAny_field hz rfl (x := .ref TO) rfl (wpAny_bind (wpAny_setField_rec hz (by simp) fun ha hza hsa => ?_)))))
  replace hza : IsZip ha z TI TO .ellipsis := hza
  refine wpAny_bind ?_
  simp only [List.zipIdx_cons, List.zipIdx_nil, List.forIn_cons, List.forIn_nil]
  refine wpAny_bind (wpAny_bind (wpAny_onRaise ?_))
  show wpAny _ _ (Builtin.SmallTypes.nextOf (.ref i1) >>= _) _ _ _
  refine wpAny_bind (zLO (h1.move fun o e => hsa.extBut _ _ D.i1z e) (hl1.move fun o e => hsa.extBut _ _ o1.1 e) hx fun hb h1b hsb => wpAny_pure ?_)
  have tob : IsPair hb TO a b := hsb.extBut _ _ D.TOi1 (hsa.extBut _ _ D.TOz hTO)
  refine wpAny_bind (wpAny_seqItems tob rfl (wpAny_bind (wpAny_updateSeq_pair tob fun hc toc hsc => wpAny_bind (wpAny_letGo (wpAny_pure ?_)))))
  replace toc : IsPair hc TO x b := toc
  refine wpAny_bind (wpAny_bind (wpAny_onRaise ?_))
  show wpAny _ _ (Builtin.SmallTypes.nextOf (.ref i2) >>= _) _ _ _
  have mv : ∀ c o, c ≠ z → c ≠ TO → c ≠ i1 → s.heap.get? c = some o → hc.get? c = some o := fun c o n1 n2 n3 e => hsc.extBut _ _ n2 (hsb.extBut _ _ n3 (hsa.extBut _ _ n1 e))
  refine wpAny_bind (zLO (h2.move fun o e => mv _ o D.i2z D.TOi2.symm D.i12.symm e) (hl2.move fun o e => mv _ o o2.1 o2.2.1 o2.2.2.1 e) hy fun hd h2d hsd => wpAny_pure ?_)
  have tod : IsPair hd TO x b := hsd.extBut _ _ D.TOi2 toc
  refine wpAny_bind (wpAny_seqItems tod rfl (wpAny_bind (wpAny_updateSeq_pair tod fun he toe hse => wpAny_bind (wpAny_letGo (wpAny_pure (wpAny_pure ?_))))))
  replace toe : IsPair he TO x y := toe
  refine wpAny_bind (wpAny_seqItems toe rfl (wpAny_bind (wpAny_newTuple ?_)))
  have hsz : he.objs.size = s.heap.objs.size := by rw [hse.1, hsd.1, hsc.1, hsb.1, hsa.1]
  have ze : IsZip he z TI TO .ellipsis := hse.extBut _ _ D.TOz.symm (hsd.extBut _ _ D.i2z.symm (hsc.extBut _ _ D.TOz.symm (hsb.extBut _ _ D.i1z.symm hza)))
  have mve : ∀ c o, c ≠ z → c ≠ TO → c ≠ i1 → c ≠ i2 → s.heap.get? c = some o → he.get? c = some o := fun c o n1 n2 n3 n4 e => hse.extBut _ _ n2 (hsd.extBut _ _ n4 (mv c o n1 n2 n3 e))
  have s1e : IsSub k1 he i1 l1 (i + 1) := h1b.move fun o e => hse.extBut _ _ D.TOi1.symm (hsd.extBut _ _ D.i12 (hsc.extBut _ _ D.TOi1.symm e))
  have s2e : IsSub k2 he i2 l2 (i + 1) := h2d.move fun o e => hse.extBut _ _ D.TOi2.symm e
  have hzlt : z < he.objs.size := Heap.lt_size ze
  show wpAny _ _ (Builtin.SmallTypes.ownedTupleHandOut (.ref z) (.ref he.objs.size) >>= _) _ _ _
  refine wpAny_bind ?_
  unfold Builtin.SmallTypes.ownedTupleHandOut
  have zf : IsZip (he.push { cls := .type "tuple", data := .seq #[x, y] }) z TI TO .ellipsis := Heap.get?_push_of_some _ ze
  refine wpAny_bind (wpAny_setField_rec zf (by simp) fun hg' zg hsg => ?_)
  replace zg : IsZip hg' z TI TO (rawInt he.objs.size) := zg
  refine wpAny_setField_rec zg (by simp) fun hh' zh hsh => ?_
  replace zh : IsZip hh' z TI TO (rawInt he.objs.size) := zh
  have up : ∀ c o, c ≠ z → he.get? c = some o → hh'.get? c = some o := fun c o c1 e => hsh.extBut _ _ c1 (hsg.extBut _ _ c1 (Heap.get?_push_of_some _ e))
  have tT : IsPair hh' he.objs.size x y := hsh.extBut _ _ (Nat.ne_of_gt hzlt) (hsg.extBut _ _ (Nat.ne_of_gt hzlt) (Heap.get?_push_size _ rfl))
  rw [hsz] at zh tT
  refine wpAny_pure ⟨_, rfl, ?_⟩
  show Q (.ref he.objs.size) _
  rw [hsz]
  exact hQ hh' zh (up _ _ D.TOz toe) (s1e.move fun o e => up _ o D.i1z e) (s2e.move fun o e => up _ o D.i2z e) tT fun c o c1 c2 c3 c4 e => up c o c1 (mve c o c1 c2 c3 c4 e)
theorem yIU {Q : Fin → Shared → Prop} (hh : A.handled = none) (D : Apart5 z TI TO i1 i2) (o1 : Off l1 z TO i1 i2) (o2 : Off l2 z TO i1 i2) (st : ZipSt k1 k2 z TI TO i1 i2 l1 l2 i s.heap) (hl1 : IsSeq k1 s.heap l1 xs) (hl2 : IsSeq k2 s.heap l2 ys) (hend : xs[i]? = none ∨ ys[i]? = none)
    (hE : ∀ h' e, (∀ c o, c ≠ z → c ≠ TO → c ≠ i1 → c ≠ i2 → s.heap.get? c = some o → h'.get? c = some o) → (∃ o, h'.get? e = some o ∧ o.cls = .type "StopIteration") → E (.ref e) { s with heap := h' }) :
    wpAny (model prog w) A (Builtin.«zip.__next__» ⟨[.ref z], []⟩) Q E s := by
  obtain ⟨hz, hTI, ⟨a, b, hTO⟩, h1, h2⟩ := st
  show wpAny _ _ (field (.ref z) 2 >>= _) _ _ _
  refine wpAny_bind (wpAny_field hz rfl (x := .bool false) rfl ?_)
  show wpAny _ _ (field (.ref z) 3 >>= _) _ _ _
  refine wpAny_bind (wpAny_field hz rfl (x := .ref TI) rfl (wpAny_bind (wpAny_seqItems hTI rfl ?_)))
  show wpAny _ _ (Builtin.SmallTypes.ownedTupleIsFree (.ref z) >>= _) _ _ _
  refine wpAny_bind ?_
  unfold Builtin.SmallTypes.ownedTupleIsFree
  refine wpAny_bind (wpAny_field hz rfl (x := .none) rfl (wpAny_pure ?_))
  simp only [if_true]
  refine wpAny_bind (wpAny_rule (wpAny_bind (wpAny_field hz rfl (x := .ref TO) rfl (wpAny_bind (wpAny_setField_rec hz (by simp) fun ha hza hsa => ?_)))))
  replace hza : IsZip ha z TI TO .ellipsis := hza
  refine wpAny_bind ?_
  simp only [List.zipIdx_cons, List.zipIdx_nil, List.forIn_cons, List.forIn_nil]
  refine wpAny_bind (wpAny_bind (wpAny_onRaise ?_))
  show wpAny _ _ (Builtin.SmallTypes.nextOf (.ref i1) >>= _) _ _ _
  cases hx : xs[i]? with
  | none =>
    refine wpAny_bind (zUB hh (h1.move fun o e => hsa.extBut _ _ D.i1z e) (hl1.move fun o e => hsa.extBut _ _ o1.1 e) hx fun hb e hsb he => ?_)
    obtain ⟨oe, hoe, hce⟩ := he
    have hzb : IsZip hb z TI TO .ellipsis := hsb _ _ D.i1z.symm hza
    have hez : e ≠ z := fun q => by subst q; rw [hzb] at hoe; cases hoe; simp at hce
    exact wpAny_setField_rec hzb (by simp) fun hc _ hsc => hE hc e (fun c o c1 _ c3 _ q => hsc.extBut _ _ c1 (hsb _ _ c3 (hsa.extBut _ _ c1 q))) ⟨oe, hsc.extBut _ _ hez hoe, hce⟩
  | some x =>
    have hy : ys[i]? = none := by rcases hend with h | h; (rw [hx] at h; cases h); exact h
    refine wpAny_bind (zLO (h1.move fun o e => hsa.extBut _ _ D.i1z e) (hl1.move fun o e => hsa.extBut _ _ o1.1 e) hx fun hb h1b hsb => wpAny_pure ?_)
    have tob : IsPair hb TO a b := hsb.extBut _ _ D.TOi1 (hsa.extBut _ _ D.TOz hTO)
    refine wpAny_bind (wpAny_seqItems tob rfl (wpAny_bind (wpAny_updateSeq_pair tob fun hc toc hsc => wpAny_bind (wpAny_letGo (wpAny_pure ?_)))))
    refine wpAny_bind (wpAny_bind (wpAny_onRaise ?_))
    show wpAny _ _ (Builtin.SmallTypes.nextOf (.ref i2) >>= _) _ _ _
    have mv : ∀ c o, c ≠ z → c ≠ TO → c ≠ i1 → s.heap.get? c = some o → hc.get? c = some o := fun c o n1 n2 n3 e => hsc.extBut _ _ n2 (hsb.extBut _ _ n3 (hsa.extBut _ _ n1 e))
    refine wpAny_bind (zUB hh (h2.move fun o e => mv _ o D.i2z D.TOi2.symm D.i12.symm e) (hl2.move fun o e => mv _ o o2.1 o2.2.1 o2.2.2.1 e) hy fun hd e hsd he => ?_)
    obtain ⟨oe, hoe, hce⟩ := he
    have hzd : IsZip hd z TI TO .ellipsis := hsd _ _ D.i2z.symm (hsc.extBut _ _ D.TOz.symm (hsb.extBut _ _ D.i1z.symm hza))
    have hez : e ≠ z := fun q => by subst q; rw [hzd] at hoe; cases hoe; simp at hce
    exact wpAny_setField_rec hzd (by simp) fun hg' _ hsg => hE hg' e (fun c o c1 c2 c3 c4 q => hsg.extBut _ _ c1 (hsd _ _ c4 (mv c o c1 c2 c3 q))) ⟨oe, hsg.extBut _ _ hez hoe, hce⟩
theorem zYX (k1 k2 : Bool) (l1 l2 : Addr) (xs ys : Array Value) :
    Meets (Builtin.«zip.__new__» ⟨[.type "zip", .ref l1, .ref l2], []⟩) (fun _ R s => IsSeq k1 s.heap l1 xs ∧ IsSeq k2 s.heap l2 ys ∧
      R (.ok (.ret (.ref (s.heap.objs.size + 4)))) { s with heap := ((((s.heap.push (zEQ k1 l1)).push (zEQ k2 l2)).push { cls := .type "tuple", data := .seq #[.ref s.heap.objs.size, .ref (s.heap.objs.size + 1)] }).push { cls := .type "tuple", data := .seq #[.none, .none] }).push { cls := .type "zip", data := .fields #[.none, .bool false, .bool false, .ref (s.heap.objs.size + 2), .ref (s.heap.objs.size + 3)] } }) :=
  .of_wp fun prog w A R s h => by
    obtain ⟨hp, g, d, tk, os⟩ := s; obtain ⟨hl1, hl2, h⟩ := h
    have hsub := sub_zip
    have hL1 : IsSeq k1 (Shared.heap ⟨hp, g, d, tk, os⟩) l1 xs := hl1
    have hL2 : IsSeq k2 (Shared.heap ⟨hp.push (zEQ k1 l1), g, d, tk, os⟩) l2 ys := hl2.move fun o e => Heap.get?_push_of_some _ e
    have z1 : ∀ (h : Heap) (o : Obj), (h.push o).objs.size = h.objs.size + 1 := fun h o => Heap.size_push ..
    simp only [z1] at h ⊢
    wp_walk using zHN hL1, zHN hL2
    exact ⟨_, rfl, by simp only [z1]; exact h⟩
theorem yFT (hl1 : IsSeq k1 s.heap l1 xs) (hl2 : IsSeq k2 s.heap l2 ys) {Q : Value → Shared → Prop}
    (h : ∀ h', ZipSt k1 k2 (s.heap.objs.size + 4) (s.heap.objs.size + 2) (s.heap.objs.size + 3) s.heap.objs.size (s.heap.objs.size + 1) l1 l2 0 h' → (∀ c o, s.heap.get? c = some o → h'.get? c = some o) → Q (.ref (s.heap.objs.size + 4)) { s with heap := h' }) :
    wpAny (model prog w) A (call (.type "zip") [.ref l1, .ref l2]) Q E s := by
  refine callType_new F.called_zip (by decide) (F.typeCall_zip_2 _ _) (F.newCall_zip_2 _ _) (fun obj => F.args_object_init_3 obj _ _) F.entry_zip_new (zYX k1 k2 l1 l2 xs ys) ⟨hl1, hl2, ?_⟩
  have z1 : ∀ (h : Heap) (o : Obj), (h.push o).objs.size = h.objs.size + 1 := fun h o => Heap.size_push ..
  have pg : ∀ (h : Heap) (o : Obj) (n : Nat), o.isFreed = false → h.objs.size = n → (h.push o).get? n = some o := fun h o n hf e => by subst e; exact Heap.get?_push_size _ hf
  have up : ∀ (h : Heap) (o u : Obj) (n : Nat), h.get? n = some u → (h.push o).get? n = some u := fun h o u n e => Heap.get?_push_of_some _ e
  refine ⟨⟨_, pg _ _ _ rfl (by simp only [z1]), rfl⟩, h _ ⟨pg _ _ _ rfl (by simp only [z1]), up _ _ _ _ (up _ _ _ _ (pg _ _ _ rfl (by simp only [z1]))), ⟨.none, .none, up _ _ _ _ (pg _ _ _ rfl (by simp only [z1]))⟩, ?_, ?_⟩ fun c o e => up _ _ _ _ (up _ _ _ _ (up _ _ _ _ (up _ _ _ _ (up _ _ _ _ e))))⟩
  · exact IsSub.mk' (up _ _ _ _ (up _ _ _ _ (up _ _ _ _ (up _ _ _ _ (pg _ _ _ rfl rfl)))))
  · exact IsSub.mk' (up _ _ _ _ (up _ _ _ _ (up _ _ _ _ (pg _ _ _ rfl (by simp only [z1])))))
end
theorem apart_new (n : Nat) : Apart5 (n + 4) (n + 2) (n + 3) n (n + 1) := by
  constructor <;> (show (_ : Nat) ≠ _; (first | lia | omega))
noncomputable def SqK (k : Bool) (K : PySem.W.Frag) (H : Hp) (a : Addr) (xs : List V) : Prop := if k = true then SqL K H a xs else SqT K H a xs
noncomputable def Itz (K : PySem.W.Frag) (k1 k2 : Bool) (l1 l2 : Addr) : It :=
  ⟨fun i H => ∃ xs ys x y, SqK k1 K H l1 xs ∧ SqK k2 K H l2 ys ∧ xs[i]? = some x ∧ ys[i]? = some y,
   fun i H v H' => ∃ p x y, H p = none ∧ v = .ref p ∧ H' = upd H p (.tup [x, y]) ∧ (∀ xs, SqK k1 K H l1 xs → xs[i]? = some x) ∧ ∀ ys, SqK k2 K H l2 ys → ys[i]? = some y,
   fun i H => ∃ xs ys, SqK k1 K H l1 xs ∧ SqK k2 K H l2 ys ∧ (xs.length ≤ i ∨ ys.length ≤ i)⟩
section
variable {X : Cx} {pins : List (Addr × Obj)} {σ : St} {H : Hp} {s : Shared}
theorem _root_.L2.Inv.seqK (I : Inv X pins σ H s) {k : Bool} {a : Addr} {xs : List V} (h : SqK k X.K H a xs) : ∃ its : List Value, Vals xs its ∧ IsSeq k s.heap a its.toArray ∧ xs.length ≤ sizeLine := by
  cases k with
  | true => obtain ⟨its, r, p, z⟩ := I.list h; exact ⟨its, r, p.isList, z⟩
  | false => obtain ⟨its, r, p, z⟩ := I.tuple h; exact ⟨its, r, p, z⟩
theorem _root_.L2.Inv.seqK_inj (I : Inv X pins σ H s) {k : Bool} {a : Addr} {xs ys : List V} (h : SqK k X.K H a xs) (h' : SqK k X.K H a ys) : xs = ys := by
  cases k with
  | true => exact I.list_inj h h'
  | false => exact I.tuple_inj h h'
theorem zCH (I : Inv X pins σ H s) {k : Bool} {l b : Addr} {xs : List V} (h : SqK k X.K H l xs) (hb : zKF X pins H b) : l ≠ b := by
  rintro rfl
  have kk : ∀ o, X.K.lookup l = some o → False := fun o e => by
    have e1 := I.mod.kin l o e
    rcases hb.2.2.2.1 with z | z
    · exact I.ok.noex l o e1 z
    · exact absurd (Nat.lt_of_lt_of_le (Heap.lt_size e1) (Nat.le_trans I.ok.bsz z)) (Nat.lt_irrefl _)
  cases k with
  | true =>
    rcases (h : SqL X.K H l xs) with (h | ⟨o, h⟩) | ⟨o, its, n, h, _⟩
    · rw [hb.1] at h; cases h
    · rw [hb.1] at h; cases h
    · exact kk o h
  | false =>
    rcases (h : SqT X.K H l xs) with (h | ⟨o, h⟩) | ⟨o, its, n, h, _⟩
    · rw [hb.1] at h; cases h
    · rw [hb.1] at h; cases h
    · exact kk o h
end
theorem yFU {P : Program} {w : World} {K : PySem.W.Frag} {elts : List Expr} {kt : Nat} {pt : Pos} {k1 k2 : Bool} {z TI TO i1 i2 l1 l2 : Addr} (D : Apart5 z TI TO i1 i2) :
    Turn P w K (.Tuple elts kt pt) (Itz K k1 k2 l1 l2) [z, TI, TO, i1, i2] z (fun i h => ZipSt k1 k2 z TI TO i1 i2 l1 l2 i h) where
  mem := by simp
  obj := fun i h st b hb => by
    obtain ⟨hz, hTI, ⟨a, b', hTO⟩, h1, h2⟩ := st
    have hb' : b = z ∨ b = TI ∨ b = TO ∨ b = i1 ∨ b = i2 := by simpa using hb
    rcases hb' with rfl | rfl | rfl | rfl | rfl
    · exact ⟨_, hz, fun v q => by cases q⟩
    · exact ⟨_, hTI, fun v q => by cases q⟩
    · exact ⟨_, hTO, fun v q => by cases q⟩
    · exact h1.there
    · exact h2.there
  keep := fun i h h' st k => by
    obtain ⟨hz, hTI, ⟨a, b', hTO⟩, h1, h2⟩ := st
    exact ⟨k z (by simp) _ hz, k TI (by simp) _ hTI, ⟨a, b', k TO (by simp) _ hTO⟩, h1.move fun o e => k i1 (by simp) o e, h2.move fun o e => k i2 (by simp) o e⟩
  item := by
    intro X hP hw hK hc i pins s σ H E I hf st hg
    subst hP hw hK
    obtain ⟨xs, ys, x, y, q1, q2, hx, hy⟩ := hg
    obtain ⟨its, r1, p1, _⟩ := I.seqK q1
    obtain ⟨its2, r2, p2, _⟩ := I.seqK q2
    obtain ⟨u, hu, ru⟩ := r1.get hx
    obtain ⟨v, hv, rv⟩ := r2.get hy
    have off : ∀ {k : Bool} {l : Addr} {xs : List V}, SqK k X.K H l xs → Off l z TO i1 i2 := fun q => ⟨zCH I q (hf z (by simp)), zCH I q (hf TO (by simp)), zCH I q (hf i1 (by simp)), zCH I q (hf i2 (by simp))⟩
    have hT : s.TypeIs (.ref z) "zip" := ⟨_, st.z, rfl⟩
    unfold pyNext
    refine wpAny_bind (wpAny_attempt (wpAny_callSpecial?_slot (name := Str.ofString "__next__") hT F.slot_zip_next (wpAny_call_entry F.slot_zip_next hT F.entry_zip_next
      (yFS D (off q1) (off q2) st p1 p2 (x := u) (y := v) (by simpa using hu) (by simpa using hv) fun h' a1 a2 a3 a4 a5 a6 => wpAny_pure ⟨_, rfl, ?_⟩) (F.args_zip_next_1 _))))
    refine wpAny_letOwnedTupleGo_zip a1 fun h2 z2 sb2 => ?_
    have hpn : H s.heap.objs.size = none := I.hok.fresh (Nat.le_refl _)
    have I0 : Inv X pins σ (upd H s.heap.objs.size (.tup [x, y])) { s with heap := s.heap.push { cls := .type "tuple", data := .seq #[u, v] } } :=
      I.laid (t' := s.toks) (o := .tup [x, y]) (fun b o e => Heap.get?_push_of_some _ e) (Nat.le_refl _) ⟨by show 2 ≤ sizeLine; decide, [u, v], .cons ru (.cons rv .nil), ⟨_, Heap.get?_push_size _ rfl, rfl, _, rfl⟩⟩
    have lt : ∀ b ∈ [z, TI, TO, i1, i2], b < s.heap.objs.size := fun b hb => by
      have : ∃ o, s.heap.get? b = some o := by
        obtain ⟨hz, hTI, ⟨a, b', hTO⟩, g1, g2⟩ := st
        have hb' : b = z ∨ b = TI ∨ b = TO ∨ b = i1 ∨ b = i2 := by simpa using hb
        rcases hb' with rfl | rfl | rfl | rfl | rfl
        · exact ⟨_, hz⟩
        · exact ⟨_, hTI⟩
        · exact ⟨_, hTO⟩
        · obtain ⟨o, e, _⟩ := g1.there; exact ⟨o, e⟩
        · obtain ⟨o, e, _⟩ := g2.there; exact ⟨o, e⟩
      obtain ⟨o, e⟩ := this
      exact Heap.lt_size e
    have fr : ∀ b ∈ [z, TI, TO, i1, i2], upd H s.heap.objs.size (.tup [x, y]) b = none := fun b hb => by rw [yW (Nat.ne_of_lt (lt b hb))]; exact (hf b hb).1
    have zne : s.heap.objs.size ≠ z := Nat.ne_of_gt (lt z (by simp))
    have mv : ∀ b o, b ∉ [z, TI, TO, i1, i2] → (s.heap.push { cls := .type "tuple", data := .seq #[u, v] }).get? b = some o → h2.get? b = some o := fun b o hb e => by
      simp only [List.mem_cons, List.not_mem_nil, or_false, not_or] at hb
      refine sb2.extBut _ _ hb.1 ?_
      by_cases hbs : b = s.heap.objs.size
      · subst hbs
        rw [Heap.get?_push_size _ rfl] at e
        cases e
        exact a5
      · rw [Heap.get?_push_ne _ _ _ hbs] at e
        exact a6 b o hb.1 hb.2.2.1 hb.2.2.2.1 hb.2.2.2.2 e
    have I2 := I0.turnedL (h' := h2) (t' := s.toks) mv fun b hb => let ⟨_, c2, c3, c4, c5, c6⟩ := hf b hb; ⟨fr b hb, c2, c3, c4, c5, c6⟩
    refine ⟨.ref s.heap.objs.size, _, I2, rfl, ⟨s.heap.objs.size, x, y, hpn, rfl, rfl, fun zs hz => ?_, fun zs hz => ?_⟩, ⟨z2, ?_, ⟨u, v, ?_⟩, ?_, ?_⟩, fr⟩
    · rw [I.seqK_inj hz q1]; exact hx
    · rw [I.seqK_inj hz q2]; exact hy
    · exact sb2.extBut _ _ D.TIz (a6 TI _ D.TIz D.TITO D.TIi1 D.TIi2 st.ti)
    · exact sb2.extBut _ _ D.TOz a2
    · exact a3.move fun o e => sb2.extBut _ _ D.i1z e
    · exact a4.move fun o e => sb2.extBut _ _ D.i2z e
  done := by
    intro X hP hw hK hc i pins s σ H E I hf st hg
    subst hP hw hK
    obtain ⟨xs, ys, q1, q2, hx⟩ := hg
    obtain ⟨its, r1, p1, _⟩ := I.seqK q1
    obtain ⟨its2, r2, p2, _⟩ := I.seqK q2
    have off : ∀ {k : Bool} {l : Addr} {xs : List V}, SqK k X.K H l xs → Off l z TO i1 i2 := fun q => ⟨zCH I q (hf z (by simp)), zCH I q (hf TO (by simp)), zCH I q (hf i1 (by simp)), zCH I q (hf i2 (by simp))⟩
    have hT : s.TypeIs (.ref z) "zip" := ⟨_, st.z, rfl⟩
    have e1 := r1.length
    have e2 := r2.length
    unfold pyNext
    refine wpAny_bind (wpAny_attempt (wpAny_callSpecial?_slot (name := Str.ofString "__next__") hT F.slot_zip_next (wpAny_call_entry F.slot_zip_next hT F.entry_zip_next
      (yIU (I.ok.hd hc) D (off q1) (off q2) st p1 p2 (by rcases hx with h | h; (exact .inl (by simp; (first | lia | omega))); exact .inr (by simp; (first | lia | omega))) fun h' e hk he => ?_) (F.args_zip_next_1 _))))
    obtain ⟨o, ho, hcl⟩ := he
    refine wpAny_bind (wpAny_isInstance (T := "StopIteration") (b := true) ⟨o, ho, hcl⟩ isSubtype_stop (wpAny_pure ⟨rfl, ?_⟩))
    refine I.turnedL (h' := h') (t' := s.toks) (fun b o hb e => ?_) hf
    simp only [List.mem_cons, List.not_mem_nil, or_false, not_or] at hb
    exact hk b o hb.1 hb.2.2.1 hb.2.2.2.1 hb.2.2.2.2 e
  self := fun _ _ _ _ _ st h => wpAny_pyIter_zip st.z h
end M
end L2
namespace L2
namespace M
open PySem PySem.Spec PyProof.Rows
structure Sr where
  k : Bool
  ds : List MV
  gs : List (Nat × List MV)
noncomputable def srcOf (S : Sto) : Er → Option Sr
  | .val (.tup ds) => some ⟨false, ds, []⟩
  | .new ds => some ⟨true, ds, []⟩
  | .val (.scr ds) => some ⟨true, ds, []⟩
  | .val (.loc l) => match S[l]? with
    | some (.lst ds) => some ⟨true, ds, [(l, ds)]⟩
    | _ => none
  | _ => none
structure SrcD (X : Cx) (q : Sr) (l : Addr) (P : List Addr → Sto → Hp → Prop) : Prop where
  get : ∀ α S H, P α S H → ∃ vs, SqK q.k X.K H l vs ∧ DenL X.K α H q.ds vs
  stays : ∀ α1 S1 H1 α2 S2 H2, P α1 S1 H1 → Ext α1 H1 α2 H2 → Wd X.g α2 S2 H2 → stay q.gs S2 → P α2 S2 H2
  st : ∀ α S H, P α S H → stay q.gs S
theorem zYY {X : Cx} {α : List Addr} {S : Sto} {H : Hp} (wd : Wd X.g α S H) {r : Er} {x : V} {q : Sr} (e : srcOf S r = some q) (d : DenX X.K α H r x) : ∃ l P, x = .ref l ∧ P α S H ∧ SrcD X q l P := by
  unfold srcOf at e
  split at e
  · rename_i ds
    cases e
    obtain ⟨a, vs, rfl, s, l⟩ := nF d
    exact ⟨a, fun α S H => ∃ vs, SqT X.K H a vs ∧ DenL X.K α H ds vs, rfl, ⟨vs, s, l⟩, fun α S H h => h, fun α1 S1 H1 α2 S2 H2 ⟨vs, h1, h2⟩ x w _ => ⟨vs, x.sqT h1, h2.ext x⟩, fun _ _ _ _ => bC⟩
  · rename_i ds
    cases e
    obtain ⟨b, vs, rfl, h, n, l⟩ := d
    exact ⟨b, fun α S H => ∃ vs, H b = some (.lst vs) ∧ b ∉ α ∧ DenL X.K α H ds vs, rfl, ⟨vs, h, n, l⟩, fun α S H ⟨vs, h1, _, h2⟩ => ⟨vs, (SqL.of h1 : SqL X.K H b vs), h2⟩,
      fun α1 S1 H1 α2 S2 H2 ⟨vs, h1, h2, h3⟩ x w _ => ⟨vs, x.keep b _ h1 h2, x.out h1 h2, h3.ext x⟩, fun _ _ _ _ => bC⟩
  · rename_i ds
    cases e
    obtain ⟨a, vs, rfl, s, l⟩ := zPL d
    exact ⟨a, fun α S H => ∃ vs, SqF X.K H a vs ∧ DenL X.K α H ds vs, rfl, ⟨vs, s, l⟩, fun α S H ⟨vs, h1, h2⟩ => ⟨vs, h1.l, h2⟩, fun α1 S1 H1 α2 S2 H2 ⟨vs, h1, h2⟩ x w _ => ⟨vs, x.sqF h1, h2.ext x⟩, fun _ _ _ _ => bC⟩
  · rename_i n
    split at e
    · rename_i ds hS
      cases e
      obtain ⟨a, rfl, h⟩ := zEN d
      obtain ⟨vs, h1, h2⟩ := wd.obj n a _ h hS
      refine ⟨a, fun α S H => ∃ vs, H a = some (.lst vs) ∧ DenL X.K α H ds vs ∧ α[n]? = some a ∧ S[n]? = some (.lst ds), rfl, ⟨vs, h1, h2, h, hS⟩, fun α S H ⟨vs, h1, h2, _⟩ => ⟨vs, (SqL.of h1 : SqL X.K H a vs), h2⟩, ?_, ?_⟩
      · intro α1 S1 H1 α2 S2 H2 ⟨vs, a1, a2, a3, a4⟩ x w hs
        have hs' := hs (n, ds) (by simp)
        obtain ⟨us, b1, b2⟩ := w.obj n a _ (x.at a3) hs'
        exact ⟨us, b1, b2, x.at a3, hs'⟩
      · intro α S H ⟨vs, _, _, _, a4⟩ p hp
        have : p = (n, ds) := by simpa using hp
        subst this
        exact a4
    · cases e
  · cases e
noncomputable def iZip (K : PySem.W.Frag) (ta : TA) : TI := fun σ H R => ta σ H fun vs H1 => ∃ k1 k2 l1 l2, vs = [.ref l1, .ref l2] ∧ (∃ xs, SqK k1 K H1 l1 xs) ∧ (∃ ys, SqK k2 K H1 l2 ys) ∧ R (Itz K k1 k2 l1 l2) H1
section
variable {X : Cx} {W : XW} {a b : Expr} {elts : List Expr} {kt : Nat} {pt p pos : Pos} {ta : TA} {af : Rho → Sto → R (List Er)}
theorem yMU : bootBuiltins "zip" = some (.type "zip") := by decide +kernel
theorem yIV : bootBuiltins "enumerate" = some (.type "enumerate") := by decide +kernel
theorem yMV (hg : Gl X "zip") (hm : X.mg "zip" = none) (ha : PA X [a, b] ta) (hs : starEach [a, b] X.env = [(false, eval a X.env), (false, eval b X.env)] := by rfl) (hs2 : starEach [b] X.env = [(false, eval b X.env)] := by rfl) :
    PI X (.Tuple elts kt pt) (.Call (.Name "zip" p) [a, b] [] pos) (iZip X.K ta) := by
  intro pins s σ H R I h
  refine Call_ (zMR I hg hm yMU (PyProof.Rows.callWith_type1 (thn (ha pos pins s σ H _ I h) fun us s1 ⟨vs, H1, I1, r1, q1⟩ => ?_) (by rw [hs, hs2]) (by rw [hs2]; rfl)))
  obtain ⟨k1, k2, l1, l2, rfl, ⟨xs, c1⟩, ⟨ys, c2⟩, q⟩ := q1
  cases r1 with
  | cons r rr =>
    cases rr with
    | cons r' rr =>
      cases rr
      cases r
      cases r'
      obtain ⟨its, v1, p1, _⟩ := I1.seqK c1
      obtain ⟨its2, v2, p2, _⟩ := I1.seqK c2
      refine yFT p1 p2 fun h' st hk => wpAny_pyIter_zip st.z ?_
      have I2 : Inv X pins σ H1 { s1 with heap := h' } := I1.kept (t' := s1.toks) hk
      refine ⟨_, _, _, _, H1, rfl, I2, yFU (apart_new _), st, fun b hb => ?_, q⟩
      have hle : s1.heap.objs.size ≤ b := by
        have hb' : b = s1.heap.objs.size + 4 ∨ b = s1.heap.objs.size + 2 ∨ b = s1.heap.objs.size + 3 ∨ b = s1.heap.objs.size ∨ b = s1.heap.objs.size + 1 := by simpa using hb
        rcases hb' with h | h | h | h | h <;> rw [h] <;> (first | exact Nat.le_refl _ | exact Nat.le_add_right _ _)
      exact I1.fpOk hle (I1.hok.fresh hle)
noncomputable def pairs (xs ys : List MV) : List MV := List.zipWith (fun x y => .tup [x, y]) xs ys
noncomputable def itZ (rs : List Er) (S : Sto) : R Wk := match rs with
  | [p, q] => match srcOf S p with
    | some a => match srcOf S q with
      | some b => .ok ⟨pairs a.ds b.ds, a.gs ++ b.gs⟩ S
      | none => .no
    | none => .no
  | _ => .no
theorem yMW (hg : Gl X "zip") (hm : X.mg "zip" = none) (ha : PAm X W [a, b] af) (hs : starEach [a, b] X.env = [(false, eval a X.env), (false, eval b X.env)] := by rfl) (hs2 : starEach [b] X.env = [(false, eval b X.env)] := by rfl) :
    PIm X W (.Tuple elts kt pt) (.Call (.Name "zip" p) [a, b] [] pos) (fun ρ S => (af ρ S).bind itZ) := by
  obtain ⟨t, ha, k⟩ := ha
  refine ⟨_, yMV hg hm ha hs hs2, fun α ρ S σ H Rc wd sl q => k α ρ S σ H _ wd sl (q.bind fun vs rs S1 α1 H1 e x1 w1 d1 q1 => ?_)⟩
  replace q1 := q1.shift x1
  unfold itZ at q1
  split at q1
  · rename_i r1 r2
    split at q1
    · rename_i s1 e1
      split at q1
      · rename_i s2 e2
        obtain ⟨u, v, rfl, du, dv⟩ := args2 d1
        obtain ⟨l1, P1, rfl, p1, D1⟩ := zYY w1 e1 du
        obtain ⟨l2, P2, rfl, p2, D2⟩ := zYY w1 e2 dv
        have g1 := D1.get _ _ _ p1
        have g2 := D2.get _ _ _ p2
        refine ⟨s1.k, s2.k, l1, l2, rfl, ⟨_, g1.choose_spec.1⟩, ⟨_, g2.choose_spec.1⟩, q1.here (u := Itz X.K s1.k s2.k l1 l2) w1 ⟨fun α S H => P1 α S H ∧ P2 α S H, ?_, ⟨p1, p2⟩, ?_, ?_⟩⟩
        · intro i α2 S2 H2 ⟨b1, b2⟩ w2
          obtain ⟨us, c1, c2⟩ := D1.get _ _ _ b1
          obtain ⟨ws, c3, c4⟩ := D2.get _ _ _ b2
          have hl : (pairs s1.ds s2.ds).length = min us.length ws.length := by unfold pairs; rw [List.length_zipWith, c2.length, c4.length]
          refine ⟨fun hi => ?_, fun hi => ?_⟩
          · have hi : i < (pairs s1.ds s2.ds).length := hi
            have h1 : i < us.length := by (first | lia | omega)
            have h2 : i < ws.length := by (first | lia | omega)
            refine ⟨⟨us, ws, us[i], ws[i], c1, c3, List.getElem?_eq_getElem h1, List.getElem?_eq_getElem h2⟩, ?_⟩
            rintro x H' ⟨pp, xx, yy, hp, rfl, rfl, hx, hy⟩
            obtain ⟨d, hd, dd⟩ := c2.get (hx us c1)
            obtain ⟨f, hf, df⟩ := c4.get (hy ws c3)
            have xn := w2.newx (o := .tup [xx, yy]) hp
            have wn := w2.new (o := .tup [xx, yy]) hp
            refine ⟨xn, wn, ⟨D1.stays _ _ _ _ _ _ b1 xn wn (D1.st _ _ _ b1), D2.stays _ _ _ _ _ _ b2 xn wn (D2.st _ _ _ b2)⟩, .tup [d, f], ?_, ?_⟩
            · unfold pairs; rw [List.getElem?_zipWith, hd, hf]
            · exact zAB (.of kP) (xE (dd.ext xn) (xE (df.ext xn) xN))
          · have hi : (pairs s1.ds s2.ds).length ≤ i := hi
            refine ⟨us, ws, c1, c3, ?_⟩
            by_cases h1 : us.length ≤ i
            · exact .inl h1
            · exact .inr (by (first | lia | omega))
        · intro α1 S1 H1 α2 S2 H2 ⟨b1, b2⟩ x w hs
          exact ⟨D1.stays _ _ _ _ _ _ b1 x w fun p hp => hs p (List.mem_append_left _ hp), D2.stays _ _ _ _ _ _ b2 x w fun p hp => hs p (List.mem_append_right _ hp)⟩
        · intro p hp
          rcases List.mem_append.mp hp with h | h
          · exact D1.st _ _ _ p1 p h
          · exact D2.st _ _ _ p2 p h
      · exact q1.elim
    · exact q1.elim
  · exact q1.elim
end
structure EnSt (k : Bool) (e it l : Addr) (i : Nat) (h : Heap) : Prop where
  e : ∃ old, IsEnum h e it i old
  s : IsSub k h it l i
section
variable {prog : Program} {w : World} {A : Around} {E : Value → Shared → Prop} {s : Shared} {k : Bool} {e it l : Addr} {i : Nat} {its : Array Value}
theorem yIW {x old : Value} {Q : Value → Shared → Prop} (he : IsEnum s.heap e it i old) (hit : IsSub k s.heap it l i) (hl : IsSeq k s.heap l its) (hx : its[i]? = some x) (hne : e ≠ it)
    (hQ : ∀ h', IsEnumOut h' e it ((i : Int) + 1) x s.heap.objs.size → IsSub k h' it l (i + 1) → h'.get? s.heap.objs.size = some { cls := .type "tuple", data := .seq #[.int i s.toks, x] } →
      (∀ b o, b ≠ e → b ≠ it → s.heap.get? b = some o → h'.get? b = some o) → Q (.ref s.heap.objs.size) { s with heap := h', toks := s.toks + 1 }) :
    wpAny (model prog w) A (Builtin.«enumerate.__next__» ⟨[.ref e], []⟩) (fun fin s' => ∃ v, fin = .done (.ret v) ∧ Q v s') E s := by
  obtain ⟨hp, g, d, tk, os⟩ := s
  show wpAny _ _ (field (.ref e) 2 >>= _) _ _ _
  refine wpAny_bind (wpAny_field he rfl (x := .ref it) rfl (wpAny_bind (zLO hit hl hx fun ha ita hsa => ?_)))
  replace hsa : Heap.SameBut it hp ha := hsa
  have ea : IsEnum ha e it i old := (hsa.2 e hne).trans he
  show wpAny _ _ (field (.ref e) 3 >>= _) _ _ ⟨ha, g, d, tk, os⟩
  refine wpAny_bind (wpAny_field ea rfl (x := rawInt i) rfl ?_)
  show wpAny _ _ (field (.ref e) 4 >>= _) _ _ ⟨ha, g, d, tk, os⟩
  refine wpAny_bind (wpAny_field ea rfl (x := .none) rfl ?_)
  show wpAny _ _ (mkInt i >>= _) _ _ ⟨ha, g, d, tk, os⟩
  refine wpAny_bind (wpAny_mkInt ?_)
  show wpAny _ _ (setField (.ref e) 3 (rawInt ((i : Int) + 1)) >>= _) _ _ ⟨ha, g, d, tk + 1, os⟩
  refine wpAny_bind (wpAny_setField_rec ea (by simp) fun hb eb hsb => ?_)
  replace hsb : Heap.SameBut e ha hb := hsb
  replace eb : IsEnum hb e it ((i : Int) + 1) old := eb
  show wpAny _ _ (setField (.ref e) 4 .none >>= _) _ _ ⟨hb, g, d, tk + 1, os⟩
  refine wpAny_bind (wpAny_setField_rec eb (by simp) fun hc ec hsc => ?_)
  replace hsc : Heap.SameBut e hb hc := hsc
  replace ec : IsEnum hc e it ((i : Int) + 1) old := ec
  show wpAny _ _ (newTuple [.int i tk, x] >>= _) _ _ ⟨hc, g, d, tk + 1, os⟩
  refine wpAny_bind (wpAny_newTuple ?_)
  have hsz : hc.objs.size = hp.objs.size := by rw [hsc.1, hsb.1, hsa.1]
  have hel : e < hp.objs.size := Heap.lt_size he
  have ed : IsEnum (hc.push { cls := .type "tuple", data := .seq #[.int i tk, x] }) e it ((i : Int) + 1) old := Heap.get?_push_of_some _ ec
  have td : (hc.push { cls := .type "tuple", data := .seq #[.int i tk, x] }).get? hp.objs.size = some { cls := .type "tuple", data := .seq #[.int i tk, x] } := by rw [← hsz]; exact Heap.get?_push_size _ rfl
  have kd : ∀ b o, b ≠ e → b ≠ it → hp.get? b = some o → (hc.push { cls := .type "tuple", data := .seq #[.int i tk, x] }).get? b = some o := fun b o n1 n2 q =>
    Heap.get?_push_of_some _ (hsc.extBut b o n1 (hsb.extBut b o n1 (hsa.extBut b o n2 q)))
  have sd : IsSub k (hc.push { cls := .type "tuple", data := .seq #[.int i tk, x] }) it l (i + 1) := ita.move fun o q => Heap.get?_push_of_some _ (hsc.extBut _ o (Ne.symm hne) (hsb.extBut _ o (Ne.symm hne) q))
  generalize hc.push { cls := .type "tuple", data := .seq #[.int i tk, x] } = hd at ed td kd sd ⊢
  show wpAny _ _ (Builtin.SmallTypes.ownedTupleIsFree (.ref e) >>= _) _ _ ⟨hd, g, d, tk + 1, os⟩
  rw [hsz]
  refine wpAny_bind ?_
  unfold Builtin.SmallTypes.ownedTupleIsFree
  refine wpAny_bind (wpAny_field ed rfl (x := .none) rfl (wpAny_pure ?_))
  simp only [if_true]
  refine wpAny_bind (wpAny_rule (wpAny_bind (wpAny_field ed rfl (x := old) rfl (wpAny_bind (wpAny_setField_rec ed (by simp) fun hf ef hsf => ?_)))))
  replace hsf : Heap.SameBut e hd hf := hsf
  replace ef : IsEnum hf e it ((i : Int) + 1) x := ef
  show wpAny _ _ (Builtin.SmallTypes.ownedTupleHandOut (.ref e) (.ref hp.objs.size) >>= _) _ _ ⟨hf, g, d, tk + 1, os⟩
  refine wpAny_bind ?_
  unfold Builtin.SmallTypes.ownedTupleHandOut
  refine wpAny_bind (wpAny_setField_rec ef (by simp) fun hg' eg hsg => ?_)
  replace hsg : Heap.SameBut e hf hg' := hsg
  replace eg : IsEnumOut hg' e it ((i : Int) + 1) x hp.objs.size := eg
  refine wpAny_setField_rec eg (by simp) fun hh' eh hsh => ?_
  replace hsh : Heap.SameBut e hg' hh' := hsh
  replace eh : IsEnumOut hh' e it ((i : Int) + 1) x hp.objs.size := eh
  have up : ∀ b o, b ≠ e → hd.get? b = some o → hh'.get? b = some o := fun b o n q => hsh.extBut b o n (hsg.extBut b o n (hsf.extBut b o n q))
  exact wpAny_bind (wpAny_letGo (wpAny_pure ⟨_, rfl, hQ hh' eh (sd.move fun o q => up _ o (Ne.symm hne) q) (up _ _ (Nat.ne_of_gt hel) td) fun b o n1 n2 q => up b o n1 (kd b o n1 n2 q)⟩))
theorem zYZ (k : Bool) (l : Addr) (its : Array Value) :
    Meets (Builtin.«enumerate.__new__» ⟨[.type "enumerate", .ref l], []⟩) (fun _ R s => IsSeq k s.heap l its ∧
      R (.ok (.ret (.ref (s.heap.objs.size + 1)))) { s with heap := (s.heap.push (zEQ k l)).push { cls := .type "enumerate", data := .fields #[.none, .bool false, .ref s.heap.objs.size, rawInt 0, .none, .none] } }) :=
  .of_wp fun prog w A R s h => by
    obtain ⟨hp, g, d, tk, os⟩ := s; obtain ⟨hl, h⟩ := h
    have hsub := sub_enumerate
    have hL : IsSeq k (Shared.heap ⟨hp, g, d, tk, os⟩) l its := hl
    have z1 : ∀ (h : Heap) (o : Obj), (h.push o).objs.size = h.objs.size + 1 := fun h o => Heap.size_push ..
    wp_walk
    refine wpAny_stack_any fun st => wpAny_pure ?_
    split
    · rename_i c _ _ _ _ _
      cases (c == Value.type "enumerate")
      · wp_walk using zHN hL
        exact ⟨_, rfl, by simp only [z1]; exact h⟩
      · wp_walk using zHN hL
        exact ⟨_, rfl, by simp only [z1]; exact h⟩
    · wp_walk using zHN hL
      exact ⟨_, rfl, by simp only [z1]; exact h⟩
end
end M
end L2
namespace L2
namespace M
open PySem PySem.Spec PyProof.Rows
noncomputable def zWF (K : PySem.W.Frag) (F : List MV → Sto → R Er) : Sp := fun vs H Q _ => ∃ ds, DenL K [] H ds vs ∧ ds.length = 1 ∧ ∀ g : Gm, g.K = K → Post g W0 [] H (F ds []) Q
theorem yFV {g : Gm} {F : List MV → Sto → R Er} : ∀ vs H Q E, zWF g.K F vs H Q E → spM g 1 F vs H Q E := fun vs H Q E ⟨ds, l, hl, q⟩ => ⟨[], [], ds, ⟨rfl, by simp, fun l a o h => by simp at h⟩, l, hl, q g rfl⟩
theorem yMX {K : PySem.W.Frag} {H : Hp} {a : Addr} {xs : List V} (hO : yEM H) (h : SqL K H a xs) : SqF K H a xs := by
  rcases h with (h | ⟨o, h⟩) | h
  · rcases hO a with z | ⟨o, ys, z⟩
    · rw [z] at h; cases h
    · rw [z] at h; cases h
  · exact .inl ⟨o, h⟩
  · exact .inr h
theorem yFW {K : PySem.W.Frag} {F : List MV → Sto → R Er} {H : Hp} {a : Addr} {ns : List Int} (hO : yEM H) (hS : SqL K H a (ns.map V.int)) (h : ∃ S, F [.scr (ns.map MV.int)] [] = .ok (.val (.bl true)) S) : zWF K F [.ref a] H (fun v _ => v = .bl true) fun _ _ _ => False := by
  obtain ⟨S, h⟩ := h
  refine ⟨_, xE (yAT (yMX hO hS) (zSP ns)) xN, rfl, fun g _ => ?_⟩
  rw [h]
  exact fun v α' H' x w d => zJT d.1
theorem bok {β γ : Type} (b : β) (S : Sto) (k : β → Sto → R γ) : (R.ok b S).bind k = k b S := by
  have h := R.bind_ok b S k
  exact Eq.trans h rfl
theorem yIX (d : MV) (S : Sto) : zE (some (some d)) S = .ok (.val d) S := rfl
theorem zWG {S T : Sto} : zVY S (S ++ T) := ⟨by rw [List.length_append]; (first | lia | omega), fun l hl => .inl (List.getElem?_append_left hl)⟩
theorem hJ (n : Nat) (i : Int) : lo n (.int i) := by unfold lo; trivial
theorem zHO (n : Nat) (i : List Nat) : lo n (.str i) := by unfold lo; trivial
theorem yKP (n : Nat) (i : Bool) : lo n (.bl i) := by unfold lo; trivial
theorem yMY (n : Nat) : lo n .non := by unfold lo; trivial
theorem wY {n : Nat} {ds : List MV} (h : loL n ds) : lo n (.tup ds) := by unfold lo; exact h
theorem wG {n : Nat} : ∀ {ds : List MV}, (∀ d ∈ ds, lo n d) → loL n ds
  | [], _ => by unfold loL; trivial
  | d :: ds, h => by unfold loL; exact ⟨h d List.mem_cons_self, wG fun e he => h e (List.mem_cons_of_mem _ he)⟩
theorem yFX {S T : Sto} {d : MV} (h : lo S.length d) (hn : ∀ l, d ≠ .loc l) : zJV S (.val d) (S ++ T) = .ok (.val d) S := by
  unfold zJV
  rw [if_pos zWG]
  have e : (S ++ T).take S.length = S := by simp
  cases d with
  | loc l => exact absurd rfl (hn l)
  | _ => dsimp only; rw [if_pos h, e]
theorem yFY {S T : Sto} {ds : List MV} (h : loL S.length ds) : zJV S (.new ds) (S ++ T) = .ok (.new ds) S := by
  unfold zJV
  rw [if_pos zWG]
  have e : (S ++ T).take S.length = S := by simp
  dsimp only
  rw [if_pos h, e]
theorem zAQ {n : Nat} {F : List MV → Sto → R Er} {rs : List Er} {S T : Sto} {d : MV} (hn : rs.length = n) (hF : F (yI rs S).1 (yI rs S).2 = .ok (.val d) (S ++ T)) (h : lo S.length d) (hd : ∀ l, d ≠ .loc l) : zJ n F rs S = .ok (.val d) S := by
  unfold zJ
  rw [if_pos hn, hF]
  exact yFX h hd
theorem yFZ {n : Nat} {F : List MV → Sto → R Er} {rs : List Er} {S T : Sto} {ds : List MV} (hn : rs.length = n) (hF : F (yI rs S).1 (yI rs S).2 = .ok (.new ds) (S ++ T)) (h : loL S.length ds) : zJ n F rs S = .ok (.new ds) S := by
  unfold zJ
  rw [if_pos hn, hF]
  exact yFY h
theorem zEA {n : Nat} {F : List MV → Sto → R Er} {rs : List Er} {S : Sto} {d : MV} (hn : rs.length = n) (hF : F (yI rs S).1 (yI rs S).2 = .ok (.val d) S) (h : lo S.length d) (hd : ∀ l, d ≠ .loc l) : zJ n F rs S = .ok (.val d) S := zAQ (T := []) hn (by rw [List.append_nil]; exact hF) h hd
theorem zWH {gf : MV → Rho → Sto → R Rho} {body : Rho → Sto → R Fl} {gs : List (Nat × List MV)} {L : List MV} (I : Nat → Rho → Sto → Prop)
    (st : ∀ i d, L[i]? = some d → ∀ ρ S, I i ρ S → ∃ ρ' S', ((gf d ρ S).bind fun ρ0 S0 => body ρ0 S0) = .ok (.next ρ') S' ∧ stay gs S' ∧ I (i + 1) ρ' S') :
    ∀ (n i : Nat) {ρ : Rho} {S : Sto}, n + i = L.length → I i ρ S → ∃ ρ' S', nI gf body gs (L.drop i) ρ S = .ok (.next ρ') S' ∧ I L.length ρ' S'
  | 0, i, ρ, S, hn, h => by
    have e : i = L.length := by (first | lia | omega)
    subst e
    rw [List.drop_length]
    exact ⟨ρ, S, rfl, h⟩
  | n + 1, i, ρ, S, hn, h => by
    have hi : i < L.length := by (first | lia | omega)
    obtain ⟨ρ1, S1, e, hs, h1⟩ := st i L[i] (List.getElem?_eq_getElem hi) ρ S h
    obtain ⟨ρ2, S2, e2, h2⟩ := zWH I st n (i + 1) (by (first | lia | omega)) h1
    refine ⟨ρ2, S2, ?_, h2⟩
    rw [List.drop_eq_getElem_cons hi]
    unfold nI
    cases z : gf L[i] ρ S with
    | ok ρ0 S0 =>
      rw [z] at e
      have e : body ρ0 S0 = .ok (.next ρ1) S1 := e
      rw [bok]
      show (body ρ0 S0).bind _ = _
      rw [e, bok]
      dsimp only
      rw [if_pos hs]
      exact e2
    | exc c fs S0 => rw [z] at e; cases e
    | no => rw [z] at e; cases e
theorem zHP {gf : MV → Rho → Sto → R Rho} {body : Rho → Sto → R Fl} {gs : List (Nat × List MV)} {L : List MV} (I : Nat → Rho → Sto → Prop)
    (st : ∀ i d, L[i]? = some d → ∀ ρ S, I i ρ S → ∃ ρ' S', ((gf d ρ S).bind fun ρ0 S0 => body ρ0 S0) = .ok (.next ρ') S' ∧ stay gs S' ∧ I (i + 1) ρ' S') {ρ : Rho} {S : Sto} (h : I 0 ρ S) :
    ∃ ρ' S', nI gf body gs L ρ S = .ok (.next ρ') S' ∧ I L.length ρ' S' := zWH I st L.length 0 (by (first | lia | omega)) h
end M
end L2
namespace L2
namespace M
open PySem PySem.Spec PyProof.Rows
section
variable {S : Sto}
theorem yKQ (b : Bool) (S : Sto) : asB (.val (.bl b)) S = .ok b S := rfl
theorem as_int (i : Int) (S : Sto) : asI (.val (.int i)) S = .ok (some i) S := rfl
theorem yMZ (b : Bool) (S : Sto) : cC (.val (.bl b)) S = .ok b S := rfl
theorem add_int (i j : Int) (S : Sto) : cF (.val (.int i)) (.val (.int j)) S = .ok (.val (.int (i + j))) S := rfl
theorem sub_int (i j : Int) (S : Sto) : zYO (.val (.int i)) (.val (.int j)) S = .ok (.val (.int (i - j))) S := rfl
theorem add_str {x y : List Nat} (h : x.length + y.length ≤ sizeLine) : cF (.val (.str x)) (.val (.str y)) S = .ok (.val (.str (x ++ y))) S := if_pos h
theorem yIY {x y : List MV} (h : x.length + y.length ≤ sizeLine) : cF (.val (.tup x)) (.val (.tup y)) S = .ok (.val (.tup (x ++ y))) S := if_pos h
theorem yNA {g : Int → Int → Bool} (i j : Int) (S : Sto) : ibF g (.val (.int i)) (.val (.int j)) S = .ok (.val (.bl (g i j))) S := rfl
theorem yIZ (i j : Int) : eqV (.int i) (.int j) = decide (i = j) := by
  show (i == j) = _
  by_cases h : i = j
  · subst h; simp
  · rw [decide_eq_false h]; simpa using h
theorem yJA (x y : List Nat) : eqV (.str (mkS x)) (.str (mkS y)) = decide (x = y) := by
  show (mkS x == mkS y) = _
  by_cases h : x = y
  · subst h; simp
  · rw [decide_eq_false h]
    have : mkS x ≠ mkS y := fun z => h (zTR z)
    simpa using this
theorem zUC (n : Nat) (i j : Int) : eqv S (n + 1) (.int i) (.int j) = some (decide (i = j)) := by rw [← yIZ]; rfl
theorem zUD (n : Nat) (x y : List Nat) : eqv S (n + 1) (.str x) (.str y) = some (decide (x = y)) := by rw [← yJA]; rfl
theorem yNB (n : Nat) (x : Int) (y : List Nat) : eqv S (n + 1) (.int x) (.str y) = some false := rfl
theorem yNC (n : Nat) (x : List Nat) (y : Int) : eqv S (n + 1) (.str x) (.int y) = some false := rfl
theorem yJB (d f : MV) : eqF (.val d) (.val f) S = match eqv S (yO + 1) d f with | some k => .ok (.val (.bl k)) S | none => .no := rfl
theorem yJC (d f : MV) : neF (.val d) (.val f) S = match eqv S (yO + 1) d f with | some k => .ok (.val (.bl !k)) S | none => .no := rfl
theorem yGA {d f : MV} {k : Bool} (h : eqv S (yO + 1) d f = some k) : eqF (.val d) (.val f) S = .ok (.val (.bl k)) S := by rw [yJB, h]
theorem yGB {d f : MV} {k : Bool} (h : eqv S (yO + 1) d f = some k) : neF (.val d) (.val f) S = .ok (.val (.bl !k)) S := by rw [yJC, h]
theorem eq_int (i j : Int) (S : Sto) : eqF (.val (.int i)) (.val (.int j)) S = .ok (.val (.bl (decide (i = j)))) S := yGA (zUC _ i j)
theorem eq_str (x y : List Nat) (S : Sto) : eqF (.val (.str x)) (.val (.str y)) S = .ok (.val (.bl (decide (x = y)))) S := yGA (zUD _ x y)
theorem ne_int (i j : Int) (S : Sto) : neF (.val (.int i)) (.val (.int j)) S = .ok (.val (.bl (!decide (i = j)))) S := yGB (zUC _ i j)
theorem lt_int (i j : Int) (S : Sto) : ltF (.val (.int i)) (.val (.int j)) S = .ok (.val (.bl (decide (i < j)))) S := rfl
theorem wN {b : Int} (h : 0 < b) (h2 : b < 1073741824) (a : Int) (S : Sto) : zBX (.val (.int a)) (.val (.int b)) S = .ok (.val (.int (a / b))) S := by
  refine if_pos ⟨h, ?_⟩
  have h3 : b.natAbs < 2 ^ 30 := by (first | lia | omega)
  have := (Nat.log2_lt (by (first | lia | omega) : b.natAbs ≠ 0)).mpr h3
  (first | lia | omega)
theorem mod_lit {b : Int} (h : 0 < b) (a : Int) (S : Sto) : bD (.val (.int a)) (.val (.int b)) S = .ok (.val (.int (a % b))) S := if_pos h
theorem zON {b : Int} (h : -(2 ^ 64) < b ∧ b < 2 ^ 64) (a : Int) (S : Sto) : zRJ (.val (.int a)) (.val (.int b)) S = .ok (.val (.int (a * b))) S := if_pos (Or.inr h)
theorem yGC {a : Int} (h : -(2 ^ 64) < a ∧ a < 2 ^ 64) (b : Int) (S : Sto) : zRJ (.val (.int a)) (.val (.int b)) S = .ok (.val (.int (a * b))) S := if_pos (Or.inl h)
theorem yJD {a b : Int} (h : yCP a b) (S : Sto) : zKK (.val (.int a)) (.val (.int b)) S = .ok (.val (.int (a ^ b.toNat))) S := if_pos h
theorem yJE (ρ : Rho) (i : Nat) (d : MV) (S : Sto) : xL ρ i (.val d) S = .ok (.next (ρ.set i (some d))) S := rfl
theorem yJF (ρ : Rho) (i : Nat) (ds : List MV) (S : Sto) : xL ρ i (.new ds) S = .ok (.next (ρ.set i (some (.loc S.length)))) (S ++ [.lst ds]) := rfl
theorem yJG (S : Sto) : yI [] S = ([], S) := rfl
theorem yJH (d : MV) (rs : List Er) (S : Sto) : yI (.val d :: rs) S = (d :: (yI rs S).1, (yI rs S).2) := rfl
theorem zF {F G : Rho → Sto → R Fl} {ρ ρ' : Rho} {S S' : Sto} (h : F ρ S = .ok (.next ρ') S') : zY F G ρ S = G ρ' S' := by unfold zY; rw [h]; rfl
theorem bF {F G : Rho → Sto → R Fl} {ρ : Rho} {S S' : Sto} {r : Er} (h : F ρ S = .ok (.ret r) S') : zY F G ρ S = .ok (.ret r) S' := by unfold zY; rw [h]; rfl
theorem gP (S : Sto) : stay [] S := bC
theorem zPX {gf : MV → Rho → Sto → R Rho} {b : Rho → Sto → R Fl} {gs : List (Nat × List MV)} {d : MV} {ds : List MV} {ρ ρ0 ρ' : Rho} {S0 S' : Sto} (hg : gf d ρ S = .ok ρ0 S0) (h : b ρ0 S0 = .ok (.next ρ') S') (hs : stay gs S') : nI gf b gs (d :: ds) ρ S = nI gf b gs ds ρ' S' := by
  conv => lhs; unfold nI
  rw [hg, bok, h, bok]
  dsimp only
  rw [if_pos hs]
theorem dG {α : Type} {xs : List α} {i : Int} (h0 : 0 ≤ i) (h1 : i < xs.length) : ∃ c, atI xs i = some c := by
  refine ⟨xs[i.toNat]'(by (first | lia | omega)), ?_⟩
  unfold atI ixN
  rw [if_pos h0, if_pos h1]
  exact List.getElem?_eq_getElem _
theorem dH {α : Type} {P : α → Prop} {xs : List α} {i : Int} {e : α} (h : ∀ e ∈ xs, P e) (z : atI xs i = some e) : P e := by
  unfold atI at z
  cases q : ixN xs.length i with
  | none => rw [q] at z; cases z
  | some j => rw [q] at z; exact h e (List.mem_of_getElem? (show xs[j]? = some e from z))
theorem ix_str {x : List Nat} {i : Int} {c : Nat} (h : x.length ≤ sizeLine) (hk : atI x i = some c) : ixF (.val (.str x)) (.val (.int i)) S = .ok (.val (.str [c])) S := by
  show (if x.length ≤ sizeLine then match atI x i with | some c => R.ok (Er.val (.str [c])) S | none => .no else .no) = _
  rw [if_pos h, hk]
theorem ix_tup {ds : List MV} {i : Int} {d : MV} (hk : atI ds i = some d) : ixF (.val (.tup ds)) (.val (.int i)) S = .ok (.val d) S := by
  show (match atI ds i with | some d => R.ok (Er.val d) S | none => .no) = _
  rw [hk]
theorem zZA {ds : List MV} {i : Int} {d : MV} (hk : atI ds i = some d) : ixF (.new ds) (.val (.int i)) S = .ok (.val d) S := by
  show (match atI ds i with | some d => R.ok (Er.val d) S | none => .no) = _
  rw [hk]
theorem zER {l : Nat} {ds : List MV} {i : Int} {d : MV} (hS : S[l]? = some (.lst ds)) (hk : atI ds i = some d) : ixF (.val (.loc l)) (.val (.int i)) S = .ok (.val d) S := by
  have e : cE S (.val (.loc l)) = some ds := by unfold cE; dsimp only; rw [hS]
  show (match cE S (.val (.loc l)) with | some ds => getL ds (.val (.int i)) S | none => .no) = _
  rw [e]
  show (match atI ds i with | some d => R.ok (Er.val d) S | none => .no) = _
  rw [hk]
theorem yJI {l : Nat} {ds : List MV} (hS : S[l]? = some (.lst ds)) : wX [.val (.loc l)] S = .ok (.val (.int ds.length)) S := by
  have e : cE S (.val (.loc l)) = some ds := by unfold cE; dsimp only; rw [hS]
  have e2 : itemsOf S (.val (.loc l)) = some ds := by unfold itemsOf; exact e
  show (match itemsOf S (.val (.loc l)) with | some ds => R.ok (Er.val (.int ds.length)) S | none => .no) = _
  rw [e2]
theorem zAR {l : Nat} {ds : List MV} (hS : S[l]? = some (.lst ds)) : cE S (.val (.loc l)) = some ds := by unfold cE; dsimp only; rw [hS]
theorem yJJ {l : Nat} {ds : List MV} (hS : S[l]? = some (.lst ds)) : itL (.val (.loc l)) S = .ok ⟨ds, [(l, ds)]⟩ S := by unfold itL; dsimp only; rw [hS]
theorem zPY {l : Nat} {ds : List MV} (hS : S[l]? = some (.lst ds)) : stay [(l, ds)] S := fun p hp => by
  have : p = (l, ds) := by simpa using hp
  subst this; exact hS
theorem zES {j : Int} (h : -(2 ^ 62) ≤ j ∧ j < 2 ^ 62) : zGO [.val (.int j)] S = .ok ⟨(List.range j.toNat).map fun k => .int (k : Nat), []⟩ S := if_pos h
theorem cut_str {x : List Nat} (h : x.length ≤ sizeLine) (lo hi : Option Int) : zRL (.val (.str x)) lo hi S = .ok (.val (.str (nB x lo hi))) S := if_pos h
theorem yGD {α β : Type} (f : α → β) (x : List α) (lo hi : Option Int) : nB (x.map f) lo hi = (nB x lo hi).map f := by
  unfold nB
  rw [List.length_map, List.map_take, List.map_drop]
theorem yJK {α : Type} (x : List α) (k : Int) (h0 : 0 ≤ k) : nB x none (some k) = x.take k.toNat := by
  unfold nB
  have h1 : HT.sIx x.length 0 none = 0 := rfl
  rw [h1]
  have h2 : HT.sIx x.length x.length (some k) = min k.toNat x.length := by
    unfold HT.sIx
    simp only
    split <;> (first | lia | omega)
  rw [h2, List.drop_zero, Nat.sub_zero]
  by_cases hk : k.toNat ≤ x.length
  · rw [Nat.min_eq_left hk]
  · rw [Nat.min_eq_right (by (first | lia | omega)), List.take_length, List.take_of_length_le (by (first | lia | omega))]
theorem fits {n : Nat} (h : n ≤ 1000000) : n ≤ sizeLine := by rw [sizeLine_eq]; exact Nat.le_trans h (by decide)
theorem zHQ {rs : List Er} (h : rs.length ≤ 1000000) : zBW rs S = .ok (.new (yI rs S).1) (yI rs S).2 := if_pos (fits h)
theorem zPZ {rs : List Er} (h : rs.length ≤ 1000000) : nG rs S = .ok (.val (.tup (yI rs S).1)) (yI rs S).2 := if_pos (fits h)
theorem lst0 (S : Sto) : zBW [] S = .ok (.new []) S := zHQ (by simp)
theorem lst1 (a : MV) (S : Sto) : zBW [.val a] S = .ok (.new [a]) S := zHQ (by simp)
theorem lst2 (a b : MV) (S : Sto) : zBW [.val a, .val b] S = .ok (.new [a, b]) S := zHQ (by simp)
theorem lst3 (a b c : MV) (S : Sto) : zBW [.val a, .val b, .val c] S = .ok (.new [a, b, c]) S := zHQ (by simp)
theorem lst6 (a b c d e f : MV) (S : Sto) : zBW [.val a, .val b, .val c, .val d, .val e, .val f] S = .ok (.new [a, b, c, d, e, f]) S := zHQ (by simp)
theorem tup2 (a b : MV) (S : Sto) : nG [.val a, .val b] S = .ok (.val (.tup [a, b])) S := zPZ (by simp)
theorem tup3 (a b c : MV) (S : Sto) : nG [.val a, .val b, .val c] S = .ok (.val (.tup [a, b, c])) S := zPZ (by simp)
theorem yND (i : Int) (S : Sto) : bZ [.val (.int i), .val (.typ "str")] S = .ok (.val (.bl false)) S := rfl
theorem yNE (i : List Nat) (S : Sto) : bZ [.val (.str i), .val (.typ "str")] S = .ok (.val (.bl true)) S := rfl
theorem yNF (i : Int) (S : Sto) : bZ [.val (.int i), .val (.typ "tuple")] S = .ok (.val (.bl false)) S := rfl
theorem yNG (i : List Nat) (S : Sto) : bZ [.val (.str i), .val (.typ "tuple")] S = .ok (.val (.bl false)) S := rfl
theorem yNH (i : List MV) (S : Sto) : bZ [.val (.tup i), .val (.typ "tuple")] S = .ok (.val (.bl true)) S := rfl
theorem yNI (i : Bool) (S : Sto) : bZ [.val (.bl i), .val (.typ "bool")] S = .ok (.val (.bl true)) S := rfl
theorem zQA {gf : MV → Rho → Sto → R Rho} {cf : Rho → Sto → R Bool} {ef : Rho → Sto → R Er} {ρb : Rho} {gs : List (Nat × List MV)} {P : MV → Prop} (hs : stay gs S) :
    ∀ {ds : List MV}, (∀ d ∈ ds, ∃ ρ1 y, gf d ρb S = .ok ρ1 S ∧ cf ρ1 S = .ok true S ∧ ef ρ1 S = .ok (.val y) S ∧ P y) → ∃ out, xW gf cf ef ρb gs ds S = .ok out S ∧ out.length = ds.length ∧ ∀ o ∈ out, P o
  | [], _ => ⟨[], rfl, rfl, fun o h => by simp at h⟩
  | d :: ds, st => by
    obtain ⟨ρ1, y, h1, h2, h3, h4⟩ := st d List.mem_cons_self
    obtain ⟨out, e, hl, hp⟩ := zQA hs (ds := ds) fun d hd => st d (List.mem_cons_of_mem _ hd)
    refine ⟨y :: out, ?_, by rw [List.length_cons, List.length_cons, hl], fun o ho => (List.mem_cons.mp ho).elim (fun z => z ▸ h4) (hp o)⟩
    unfold xW
    rw [h1, zAP, bok, h2, zAP, bok, if_pos rfl, h3, zAP, bok]
    unfold zEP
    rw [bok, if_pos hs, e]
    rfl
theorem bG {gf : MV → Rho → Sto → R Rho} {cf : Rho → Sto → R Bool} {ef : Rho → Sto → R Er} {ρb : Rho} {gs : List (Nat × List MV)} {F : MV → MV} (hs : stay gs S) :
    ∀ {ds : List MV}, (∀ d ∈ ds, ∃ ρ1, gf d ρb S = .ok ρ1 S ∧ cf ρ1 S = .ok true S ∧ ef ρ1 S = .ok (.val (F d)) S) → xW gf cf ef ρb gs ds S = .ok (ds.map F) S
  | [], _ => rfl
  | d :: ds, st => by
    obtain ⟨ρ1, h1, h2, h3⟩ := st d List.mem_cons_self
    have e := bG hs (ds := ds) fun d hd => st d (List.mem_cons_of_mem _ hd)
    unfold xW
    rw [h1, zAP, bok, h2, zAP, bok, if_pos rfl, h3, zAP, bok]
    unfold zEP
    rw [bok, if_pos hs, e]
    rfl
noncomputable def Nm (x : List Nat) : Prop := 1 ≤ x.length ∧ x.length ≤ 8 ∧ ∀ c ∈ x, 97 ≤ c ∧ c ≤ 122
noncomputable def Vl : MV → Prop
  | .int i => -(10 ^ 30) < i ∧ i < 10 ^ 30
  | .str x => Nm x
  | _ => False
theorem Vl.cases {d : MV} (h : Vl d) : (∃ i, d = .int i ∧ -(10 ^ 30) < i ∧ i < 10 ^ 30) ∨ ∃ x, d = .str x ∧ Nm x := by
  cases d with
  | int i => exact .inl ⟨i, rfl, h⟩
  | str x => exact .inr ⟨x, rfl, h⟩
  | _ => exact h.elim
theorem Vl.lo {d : MV} (h : Vl d) (n : Nat) : lo n d := by
  rcases h.cases with ⟨i, rfl, _⟩ | ⟨x, rfl, _⟩
  · exact hJ n i
  · exact zHO n x
end
end M
end L2
namespace L2
namespace M
open PySem PySem.Spec PyProof.Rows
noncomputable def Ite (K : PySem.W.Frag) (k : Bool) (l : Addr) : It :=
  ⟨fun i H => ∃ xs x, SqK k K H l xs ∧ xs[i]? = some x,
   fun i H v H' => ∃ p x, H p = none ∧ v = .ref p ∧ H' = upd H p (.tup [.int (i : Nat), x]) ∧ (∀ xs, SqK k K H l xs → xs[i]? = some x),
   fun i H => ∃ xs, SqK k K H l xs ∧ xs.length ≤ i⟩
section
variable {prog : Program} {w : World} {A : Around} {E : Value → Shared → Prop} {s : Shared} {k : Bool} {e it l : Addr} {i : Nat} {its : Array Value}
theorem yCU (hl : IsSeq k s.heap l its) {Q : Value → Shared → Prop}
    (h : ∀ h', EnSt k (s.heap.objs.size + 1) s.heap.objs.size l 0 h' → (∀ c o, s.heap.get? c = some o → h'.get? c = some o) → Q (.ref (s.heap.objs.size + 1)) { s with heap := h' }) :
    wpAny (model prog w) A (call (.type "enumerate") [.ref l]) Q E s := by
  refine callType_new F.called_enumerate (by decide) (F.typeCall_enumerate_1 _) (F.newCall_enumerate_1 _) (fun obj => F.args_object_init_2 obj _) F.entry_enumerate_new (zYZ k l its) ⟨hl, ?_⟩
  have hz : (s.heap.push (zEQ k l)).objs.size = s.heap.objs.size + 1 := Heap.size_push ..
  show _ ∧ _
  have he : IsEnum ((s.heap.push (zEQ k l)).push { cls := .type "enumerate", data := .fields #[.none, .bool false, .ref s.heap.objs.size, rawInt 0, .none, .none] }) (s.heap.objs.size + 1) s.heap.objs.size 0 .none := by
    have := Heap.get?_push_size (s.heap.push (zEQ k l)) (o := { cls := .type "enumerate", data := .fields #[.none, .bool false, .ref s.heap.objs.size, rawInt 0, .none, .none] }) rfl
    rw [hz] at this; exact this
  refine ⟨⟨_, he, rfl⟩, h _ ⟨⟨.none, he⟩, IsSub.mk' (Heap.get?_push_of_some _ (Heap.get?_push_size _ rfl))⟩ fun b o x => Heap.get?_push_of_some _ (Heap.get?_push_of_some _ x)⟩
end
theorem yCV {P : Program} {w : World} {K : PySem.W.Frag} {elts : List Expr} {kt : Nat} {pt : Pos} {k : Bool} {e it l : Addr} (hne : e ≠ it) :
    Turn P w K (.Tuple elts kt pt) (Ite K k l) [e, it] e (fun i h => EnSt k e it l i h) where
  mem := by simp
  obj := fun i h st b hb => by
    obtain ⟨⟨old, he⟩, hs⟩ := st
    have hb' : b = e ∨ b = it := by simpa using hb
    rcases hb' with rfl | rfl
    · exact ⟨_, he, fun v q => by cases q⟩
    · exact hs.there
  keep := fun i h h' st kk => by
    obtain ⟨⟨old, he⟩, hs⟩ := st
    exact ⟨⟨old, kk e (by simp) _ he⟩, hs.move fun o q => kk it (by simp) o q⟩
  item := by
    intro X hP hw hK hc i pins s σ H E I hf st hg
    subst hP hw hK
    obtain ⟨xs, x, q1, hx⟩ := hg
    obtain ⟨its, r1, p1, _⟩ := I.seqK q1
    obtain ⟨u, hu, ru⟩ := r1.get hx
    obtain ⟨⟨old, he⟩, hs⟩ := st
    have hT : s.TypeIs (.ref e) "enumerate" := ⟨_, he, rfl⟩
    unfold pyNext
    refine wpAny_bind (wpAny_attempt (wpAny_callSpecial?_slot (name := Str.ofString "__next__") hT F.slot_enumerate_next (wpAny_call_entry F.slot_enumerate_next hT F.entry_enumerate_next
      (yIW he hs p1 (x := u) (by simpa using hu) hne fun h' a1 a2 a3 a4 => wpAny_pure ⟨_, rfl, ?_⟩) (F.args_enumerate_next_1 _))))
    refine wpAny_letOwnedTupleGo_enum a1 fun h2 z2 sb2 => ?_
    have hpn : H s.heap.objs.size = none := I.hok.fresh (Nat.le_refl _)
    have I0 : Inv X pins σ (upd H s.heap.objs.size (.tup [.int (i : Nat), x])) { s with heap := s.heap.push { cls := .type "tuple", data := .seq #[.int i s.toks, u] }, toks := s.toks + 1 } :=
      I.laid (t' := s.toks + 1) (o := .tup [.int (i : Nat), x]) (fun b o e => Heap.get?_push_of_some _ e) (Nat.le_refl _) ⟨by show 2 ≤ sizeLine; decide, [.int i s.toks, u], .cons ⟨_, rfl⟩ (.cons ru .nil), ⟨_, Heap.get?_push_size _ rfl, rfl, _, rfl⟩⟩
    have lt : ∀ b ∈ [e, it], b < s.heap.objs.size := fun b hb => by
      have hb' : b = e ∨ b = it := by simpa using hb
      rcases hb' with rfl | rfl
      · exact Heap.lt_size he
      · obtain ⟨o, eo, _⟩ := hs.there; exact Heap.lt_size eo
    have fr : ∀ b ∈ [e, it], upd H s.heap.objs.size (.tup [.int (i : Nat), x]) b = none := fun b hb => by rw [yW (Nat.ne_of_lt (lt b hb))]; exact (hf b hb).1
    have mv : ∀ b o, b ∉ [e, it] → (s.heap.push { cls := .type "tuple", data := .seq #[.int i s.toks, u] }).get? b = some o → h2.get? b = some o := fun b o hb eo => by
      simp only [List.mem_cons, List.not_mem_nil, or_false, not_or] at hb
      refine sb2.extBut _ _ hb.1 ?_
      by_cases hbs : b = s.heap.objs.size
      · subst hbs
        rw [Heap.get?_push_size _ rfl] at eo
        cases eo
        exact a3
      · rw [Heap.get?_push_ne _ _ _ hbs] at eo
        exact a4 b o hb.1 hb.2 eo
    have I2 := I0.turnedL (h' := h2) (t' := s.toks + 1) mv fun b hb => let ⟨_, c2, c3, c4, c5, c6⟩ := hf b hb; ⟨fr b hb, c2, c3, c4, c5, c6⟩
    refine ⟨.ref s.heap.objs.size, _, I2, rfl, ⟨s.heap.objs.size, x, hpn, rfl, rfl, fun zs hz => ?_⟩, ⟨⟨u, ?_⟩, ?_⟩, fr⟩
    · rw [I.seqK_inj hz q1]; exact hx
    · simpa using z2
    · exact a2.move fun o eo => sb2.extBut _ _ (Ne.symm hne) eo
  done := by
    intro X hP hw hK hc i pins s σ H E I hf st hg
    subst hP hw hK
    obtain ⟨xs, q1, hx⟩ := hg
    obtain ⟨its, r1, p1, _⟩ := I.seqK q1
    obtain ⟨⟨old, he⟩, hs⟩ := st
    have hT : s.TypeIs (.ref e) "enumerate" := ⟨_, he, rfl⟩
    have e1 := r1.length
    unfold pyNext
    refine wpAny_bind (wpAny_attempt (wpAny_callSpecial?_slot (name := Str.ofString "__next__") hT F.slot_enumerate_next (wpAny_call_entry F.slot_enumerate_next hT F.entry_enumerate_next ?_ (F.args_enumerate_next_1 _))))
    show wpAny _ _ (field (.ref e) 2 >>= _) _ _ _
    refine wpAny_bind (wpAny_field he rfl (x := .ref it) rfl ?_)
    refine wpAny_bind (zUB (I.ok.hd hc) hs p1 (by simp; (first | lia | omega)) fun h' x hk hx' => ?_)
    obtain ⟨o, ho, hcl⟩ := hx'
    refine wpAny_bind (wpAny_isInstance (T := "StopIteration") (b := true) ⟨o, ho, hcl⟩ isSubtype_stop (wpAny_pure ⟨rfl, ?_⟩))
    refine I.turnedL (h' := h') (t' := s.toks) (fun b o hb eo => ?_) hf
    simp only [List.mem_cons, List.not_mem_nil, or_false, not_or] at hb
    exact hk b o hb.2 eo
  self := fun _ _ _ _ _ st h => let ⟨⟨_, he⟩, _⟩ := st; wpAny_pyIter_enum he h
noncomputable def iEnum (K : PySem.W.Frag) (ta : TA) : TI := fun σ H R => ta σ H fun vs H1 => ∃ k l, vs = [.ref l] ∧ (∃ xs, SqK k K H1 l xs) ∧ R (Ite K k l) H1
section
variable {X : Cx} {W : XW} {a : Expr} {elts : List Expr} {kt : Nat} {pt p pos : Pos} {ta : TA} {af : Rho → Sto → R (List Er)}
theorem yJL (hg : Gl X "enumerate") (hm : X.mg "enumerate" = none) (ha : PA X [a] ta) (hs : starEach [a] X.env = [(false, eval a X.env)] := by rfl) :
    PI X (.Tuple elts kt pt) (.Call (.Name "enumerate" p) [a] [] pos) (iEnum X.K ta) := by
  intro pins s σ H R I h
  refine Call_ (zMR I hg hm yIV (PyProof.Rows.callWith_type1 (thn (ha pos pins s σ H _ I h) fun us s1 ⟨vs, H1, I1, r1, q1⟩ => ?_) (by rw [hs]; rfl) (by rfl)))
  obtain ⟨k, l, rfl, ⟨xs, c1⟩, q⟩ := q1
  cases r1 with
  | cons r rr =>
    cases rr
    cases r
    obtain ⟨its, v1, p1, _⟩ := I1.seqK c1
    refine yCU p1 fun h' st hk => let ⟨⟨_, he⟩, _⟩ := id st; wpAny_pyIter_enum he ?_
    have I2 : Inv X pins σ H1 { s1 with heap := h' } := I1.kept (t' := s1.toks) hk
    refine ⟨_, _, _, _, H1, rfl, I2, yCV (Nat.ne_of_gt (Nat.lt_succ_self _)), st, fun b hb => ?_, q⟩
    have hle : s1.heap.objs.size ≤ b := by
      have hb' : b = s1.heap.objs.size + 1 ∨ b = s1.heap.objs.size := by simpa using hb
      rcases hb' with h | h <;> rw [h] <;> (first | exact Nat.le_refl _ | exact Nat.le_add_right _ _)
    exact I1.fpOk hle (I1.hok.fresh hle)
noncomputable def zKL (xs : List MV) : List MV := xs.zipIdx.map fun p => .tup [.int (p.2 : Nat), p.1]
noncomputable def itE (rs : List Er) (S : Sto) : R Wk := match rs with
  | [p] => match srcOf S p with
    | some a => .ok ⟨zKL a.ds, a.gs⟩ S
    | none => .no
  | _ => .no
theorem zOO (hg : Gl X "enumerate") (hm : X.mg "enumerate" = none) (ha : PAm X W [a] af) (hs : starEach [a] X.env = [(false, eval a X.env)] := by rfl) :
    PIm X W (.Tuple elts kt pt) (.Call (.Name "enumerate" p) [a] [] pos) (fun ρ S => (af ρ S).bind itE) := by
  obtain ⟨t, ha, k⟩ := ha
  refine ⟨_, yJL hg hm ha hs, fun α ρ S σ H Rc wd sl q => k α ρ S σ H _ wd sl (q.bind fun vs rs S1 α1 H1 e x1 w1 d1 q1 => ?_)⟩
  replace q1 := q1.shift x1
  unfold itE at q1
  split at q1
  · rename_i r1
    split at q1
    · rename_i s1 e1
      obtain ⟨u, rfl, du⟩ := yAX d1
      obtain ⟨l1, P1, rfl, p1, D1⟩ := zYY w1 e1 du
      have g1 := D1.get _ _ _ p1
      have hlen : (zKL s1.ds).length = s1.ds.length := by unfold zKL; rw [List.length_map, List.length_zipIdx]
      refine ⟨s1.k, l1, rfl, ⟨_, g1.choose_spec.1⟩, q1.here (u := Ite X.K s1.k l1) w1 ⟨fun α S H => P1 α S H, ?_, p1, ?_, ?_⟩⟩
      · intro i α2 S2 H2 b1 w2
        obtain ⟨us, c1, c2⟩ := D1.get _ _ _ b1
        have hl := c2.length
        refine ⟨fun hi => ?_, fun hi => ?_⟩
        · have hi : i < (zKL s1.ds).length := hi
          have h1 : i < us.length := by (first | lia | omega)
          refine ⟨⟨us, us[i], c1, List.getElem?_eq_getElem h1⟩, ?_⟩
          rintro x H' ⟨pp, xx, hp, rfl, rfl, hx⟩
          obtain ⟨d, hd, dd⟩ := c2.get (hx us c1)
          have xn := w2.newx (o := .tup [.int (i : Nat), xx]) hp
          have wn := w2.new (o := .tup [.int (i : Nat), xx]) hp
          refine ⟨xn, wn, D1.stays _ _ _ _ _ _ b1 xn wn (D1.st _ _ _ b1), .tup [.int (i : Nat), d], ?_, ?_⟩
          · unfold zKL; rw [List.getElem?_map, List.getElem?_zipIdx, hd]; simp
          · exact zAB (.of kP) (xE (kE _) (xE (dd.ext xn) xN))
        · have hi : (zKL s1.ds).length ≤ i := hi
          exact ⟨us, c1, by (first | lia | omega)⟩
      · intro α1 S1 H1 α2 S2 H2 b1 x w hs
        exact D1.stays _ _ _ _ _ _ b1 x w hs
      · exact D1.st _ _ _ p1
    · exact q1.elim
  · exact q1.elim
end
end M
end L2
namespace L2
namespace M
open PySem PySem.Spec PyProof.Rows
noncomputable instance : DecidableEq MV := fun _ _ => Classical.propDecidable _
noncomputable def look (kvs : List (MV × MV)) (k : MV) : Option MV := (kvs.find? fun p => decide (p.1 = k)).map (·.2)
noncomputable def putK (kvs : List (MV × MV)) (k d : MV) : List (MV × MV) := if (look kvs k).isSome = true then kvs.map (fun p => if p.1 = k then (p.1, d) else p) else kvs ++ [(k, d)]
noncomputable def zNA : MV → Bool
  | .tup _ => true
  | _ => false
theorem zEB (i : Int) : kS (.int i) = some (.key (.inl i)) := by unfold kS; rfl
theorem zEC (x : List Nat) : kS (.str x) = some (.key (.inr (mkS x))) := by unfold kS; rfl
theorem zED (ds : List MV) : kS (.tup ds) = (hW ds).map .tup := by
  conv => lhs; unfold kS
theorem zJF : hW [] = some [] := by unfold hW; rfl
theorem zAS (d : MV) (ds : List MV) : hW (d :: ds) = (kS d).bind fun k => (hW ds).map (k :: ·) := by
  conv => lhs; unfold hW
mutual
theorem zQB : ∀ {d e : MV} {k : NK}, kS d = some k → kS e = some k → d = e
  | .int i, e, k, hd, he => by
    rw [zEB] at hd; cases hd
    cases e with
    | int j => rw [zEB] at he; cases he; rfl
    | str x => rw [zEC] at he; cases he
    | tup ds => rw [zED] at he; cases z : hW ds <;> rw [z] at he <;> cases he
    | _ => unfold kS at he; cases he
  | .str x, e, k, hd, he => by
    rw [zEC] at hd; cases hd
    cases e with
    | int j => rw [zEB] at he; cases he
    | str y =>
      rw [zEC] at he
      have he := Option.some.inj he
      injection he with he
      injection he with he
      rw [zTR he]
    | tup ds => rw [zED] at he; cases z : hW ds <;> rw [z] at he <;> cases he
    | _ => unfold kS at he; cases he
  | .tup ds, e, k, hd, he => by
    rw [zED] at hd
    cases z : hW ds with
    | none => rw [z] at hd; cases hd
    | some ks =>
      rw [z] at hd; cases hd
      cases e with
      | int j => rw [zEB] at he; cases he
      | str y => rw [zEC] at he; cases he
      | tup es =>
        rw [zED] at he
        cases z2 : hW es with
        | none => rw [z2] at he; cases he
        | some ks' => rw [z2] at he; cases he; rw [zST z z2]
      | _ => unfold kS at he; cases he
  | .non, e, k, hd, he => by unfold kS at hd; cases hd
  | .bl _, e, k, hd, he => by unfold kS at hd; cases hd
  | .scr _, e, k, hd, he => by unfold kS at hd; cases hd
  | .loc _, e, k, hd, he => by unfold kS at hd; cases hd
  | .typ _, e, k, hd, he => by unfold kS at hd; cases hd
theorem zST : ∀ {ds es : List MV} {ks : List NK}, hW ds = some ks → hW es = some ks → ds = es
  | [], es, ks, hd, he => by
    rw [zJF] at hd; cases hd
    cases es with
    | nil => rfl
    | cons e es =>
      rw [zAS] at he
      cases z : kS e <;> rw [z] at he
      · cases he
      · cases z2 : hW es <;> rw [z2] at he <;> cases he
  | d :: ds, es, ks, hd, he => by
    rw [zAS] at hd
    cases z : kS d with
    | none => rw [z] at hd; cases hd
    | some k =>
      rw [z] at hd
      cases z2 : hW ds with
      | none => rw [z2] at hd; cases hd
      | some ks2 =>
        rw [z2] at hd
        cases es with
        | nil => rw [zJF] at he; cases he; cases hd
        | cons e es =>
          rw [zAS] at he
          cases z3 : kS e with
          | none => rw [z3] at he; cases he
          | some k' =>
            rw [z3] at he
            cases z4 : hW es with
            | none => rw [z4] at he; cases he
            | some ks4 =>
              rw [z4] at he
              cases hd; cases he
              rw [zQB z z3, zST z2 z4]
end
section
variable {X : Cx} {pins : List (Addr × Obj)} {σ : St} {H : Hp} {s : Shared} {α : List Addr}
mutual
theorem zUE (I : Inv X pins σ H s) : ∀ {d : MV} {k : NK} {x : V} {u : Value}, kS d = some k → Den X.K α H d x → RelV x u → isN (mk X.prog X.w) s.heap k u
  | .int i, k, x, u, hk, hd, r => by
    rw [zEB] at hk; cases hk
    cases gY hd
    obtain ⟨t, rfl⟩ := r
    exact jG.mpr (by show zOY (.inl i) (.int i t) = true; simp [zOY, Value.isInt])
  | .str y, k, x, u, hk, hd, r => by
    rw [zEC] at hk; cases hk
    cases gZ hd
    obtain ⟨t, rfl⟩ := r
    exact jG.mpr (by show zOY (.inr (mkS y)) (.str (mkS y) t) = true; simp [zOY, Value.isStrOf])
  | .tup ds, k, x, u, hk, hd, r => by
    rw [zED] at hk
    cases z : hW ds with
    | none => rw [z] at hk; cases hk
    | some ks =>
      rw [z] at hk; cases hk
      obtain ⟨a, vs, rfl, sq, l⟩ := jC hd
      cases r
      obtain ⟨its, rv, pt, _⟩ := I.tuple sq
      obtain ⟨o, ho, hc, n, hdat⟩ := pt
      exact wV.mpr ⟨a, o, its.toArray, n, rfl, ho, hc, hdat, by simpa using yBD I z l rv⟩
  | .non, k, x, u, hk, hd, r => by unfold kS at hk; cases hk
  | .bl _, k, x, u, hk, hd, r => by unfold kS at hk; cases hk
  | .scr _, k, x, u, hk, hd, r => by unfold kS at hk; cases hk
  | .loc _, k, x, u, hk, hd, r => by unfold kS at hk; cases hk
  | .typ _, k, x, u, hk, hd, r => by unfold kS at hk; cases hk
theorem yBD (I : Inv X pins σ H s) : ∀ {ds : List MV} {ks : List NK} {xs : List V} {us : List Value}, hW ds = some ks → DenL X.K α H ds xs → Vals xs us → zHF (mk X.prog X.w) s.heap ks us
  | [], ks, xs, us, hk, hd, r => by
    rw [zJF] at hk; cases hk
    cases hd.isnil
    cases r
    exact kR.mpr rfl
  | d :: ds, ks, xs, us, hk, hd, r => by
    rw [zAS] at hk
    obtain ⟨v, vs, rfl, a, l⟩ := hd.uncons
    cases r with
    | cons r1 r2 =>
      cases z : kS d with
      | none => rw [z] at hk; cases hk
      | some k =>
        rw [z] at hk
        cases z2 : hW ds with
        | none => rw [z2] at hk; cases hk
        | some ks2 =>
          rw [z2] at hk
          cases hk
          exact xP.mpr ⟨_, _, rfl, zUE I z a r1, yBD I z2 l r2⟩
end
noncomputable def DD (X : Cx) (H : Hp) (d : Addr) (xs : List (NK × Addr × Value)) : Prop := H d = some (DN X.prog X.w d xs) ∨ (xs = [] ∧ H d = some (.dK []))
theorem dd_of {S : Sto} {kvs : List (MV × MV)} {d : Addr} (ob : ObD X.g α H d (.dic kvs)) (hk : kvs.all (fun p => zNA p.1) = true) : ∃ xs, DD X H d xs ∧ DenN X.K α H kvs xs := by
  rcases ob with ⟨ks, h, l⟩ | ⟨xs, h, l⟩
  · cases l with
    | nil => exact ⟨[], .inr ⟨rfl, h⟩, .nil⟩
    | @cons k k' dd v fs gs hkd a l =>
      rw [List.all_cons, Bool.and_eq_true] at hk
      cases k with
      | tup ds => exact absurd hkd (by unfold KeyD; exact fun z => z)
      | _ => exact absurd hk.1 Bool.false_ne_true
  · exact ⟨xs, .inl h, l⟩
theorem yBE (I : Inv X pins σ H s) : ∀ {kvs : List (MV × MV)} {xs : List (NK × Addr × Value)}, DenN X.K α H kvs xs → ∀ x ∈ xs, (zHI X.prog X.w).is s.heap x.1 x.2.1
  | _, _, .nil => fun x hx => by simp at hx
  | _, _, .cons k e a d r l => fun x hx => by
    rcases List.mem_cons.mp hx with rfl | hx
    · exact ⟨zUE I k a rfl, e⟩
    · exact yBE I l x hx
theorem yBF (I : Inv X pins σ H s) {kvs : List (MV × MV)} {xs : List (NK × Addr × Value)} {d : Addr} (h : DD X H d xs) (l : DenN X.K α H kvs xs) : s.heap.DictOfH (zHI X.prog X.w) d xs ∧ xs.length ≤ sizeLine ∧ (d == sysModules) = false := by
  rcases h with h | ⟨rfl, h⟩
  · obtain ⟨⟨hz, hs, o, es, ep, ho, hc, hd, he, hn⟩, _⟩ := (show ObjOk X.prog X.w H s.heap d (DN X.prog X.w d xs) from I.hok d _ h)
    exact ⟨⟨o, es, ep, ho, hc, hd, he, yBE I l, hn⟩, hz, hs⟩
  · obtain ⟨_, hs, vs, kv, o, es, ep, ho, hc, hd, _, hp, _⟩ := (show ObjOk X.prog X.w H s.heap d (.dK []) from I.hok d _ h)
    cases kv
    have he : es.toList = [] := by cases hes : es.toList with | nil => rfl | cons a b => rw [hes] at hp; cases hp
    exact ⟨⟨o, es, ep, ho, hc, hd, by rw [he]; rfl, fun x hx => by simp at hx, List.nodup_nil⟩, Nat.zero_le _, hs⟩
theorem zSU (p : MV × MV) (kvs : List (MV × MV)) (k : MV) : look (p :: kvs) k = if p.1 = k then some p.2 else look kvs k := by
  unfold look
  rw [List.find?_cons]
  by_cases h : p.1 = k
  · rw [decide_eq_true h, if_pos h]; rfl
  · rw [decide_eq_false h, if_neg h]
theorem zZB (x : NK × Addr × Value) (xs : List (NK × Addr × Value)) (k : NK) : atKey (x :: xs) k = if x.1 = k then some x.2 else atKey xs k := by
  unfold atKey
  rw [List.find?_cons]
  by_cases h : x.1 = k
  · rw [decide_eq_true h, if_pos h]; rfl
  · rw [decide_eq_false h, if_neg h]
theorem zUF : ∀ {kvs : List (MV × MV)} {xs : List (NK × Addr × Value)} {k : MV} {nk : NK}, DenN X.K α H kvs xs → kS k = some nk → (atKey xs nk).isSome = (look kvs k).isSome
  | _, _, k, nk, .nil, hk => rfl
  | _, _, k, nk, .cons (k := k') (nk := nk') hk' e a d r l, hk => by
    rw [zSU, zZB]
    by_cases h : k' = k
    · subst h
      have : nk' = nk := by rw [hk] at hk'; exact (Option.some.inj hk').symm
      rw [if_pos this, if_pos rfl]; rfl
    · have : nk' ≠ nk := fun z => h (zQB hk' (by rw [hk, z]))
      rw [if_neg this, if_neg h]
      exact zUF l hk
theorem zUG : ∀ {kvs : List (MV × MV)} {xs : List (NK × Addr × Value)} {k d : MV} {nk : NK} {v : V} {u : Value}, DenN X.K α H kvs xs → kS k = some nk → Den X.K α H d v → RelV v u → DenN X.K α H (kvs.map fun p => if p.1 = k then (p.1, d) else p) (xs.map (putAt nk u))
  | _, _, k, d, nk, v, u, .nil, hk, hd, r => .nil
  | _, _, k, d, nk, v, u, .cons (k := k') (nk := nk') hk' e a dd rr l, hk, hd, r => by
    rw [List.map_cons, List.map_cons]
    unfold putAt
    by_cases h : k' = k
    · have hn : nk' = nk := by subst h; rw [hk] at hk'; exact (Option.some.inj hk').symm
      rw [if_pos h, if_pos hn]
      exact .cons hk' e a hd r (zUG l hk hd r)
    · have hn : nk' ≠ nk := fun z => h (zQB hk' (by rw [hk, z]))
      rw [if_neg h, if_neg hn]
      exact .cons hk' e a dd rr (zUG l hk hd r)
theorem DenN.append : ∀ {kvs kvs' : List (MV × MV)} {xs xs' : List (NK × Addr × Value)}, DenN X.K α H kvs xs → DenN X.K α H kvs' xs' → DenN X.K α H (kvs ++ kvs') (xs ++ xs')
  | _, _, _, _, .nil, h => h
  | _, _, _, _, .cons hk e a d r l, h => .cons hk e a d r (DenN.append l h)
theorem yJM {kvs : List (MV × MV)} {xs : List (NK × Addr × Value)} {k d : MV} {nk : NK} {a : Addr} {v : V} {u : Value} (l : DenN X.K α H kvs xs) (hk : kS k = some nk) (e : zBV nk ≤ 4) (ha : Den X.K α H k (.ref a)) (hd : Den X.K α H d v) (r : RelV v u) : DenN X.K α H (putK kvs k d) (storedH xs nk a u) := by
  unfold putK
  have hl := zUF l hk
  by_cases h : (look kvs k).isSome = true
  · rw [if_pos h]
    rw [h] at hl
    obtain ⟨p, hp⟩ := Option.isSome_iff_exists.mp hl
    rw [storedH_old hp]
    exact zUG l hk hd r
  · rw [if_neg h]
    have hn : atKey xs nk = none := by
      cases z : atKey xs nk with
      | none => rfl
      | some p => rw [z] at hl; exact absurd hl.symm h
    rw [storedH_new hn]
    exact l.append (.cons hk e ha hd r .nil)
end
section
variable {X : Cx} {W : XW} {a b o i : Expr} {f g : Rho → Sto → R Er} {pos : Pos}
theorem yNJ {pins : List (Addr × Obj)} {σ : St} {H : Hp} {s : Shared} (I : Inv X pins σ H s) : sysModules < s.heap.objs.size := Nat.lt_trans (by decide) ((I.mod.glob.keeps I.bk).lt)
theorem Wd.put {gg : Gm} {α : List Addr} {S : Sto} {H : Hp} {p : Addr} {ho : HO} {m : MO} (w : Wd gg α S H) (hp : H p = none) (q : ObD gg (α ++ [p]) (upd H p ho) p m) : Ext α H (α ++ [p]) (upd H p ho) ∧ Wd gg (α ++ [p]) (S ++ [m]) (upd H p ho) := by
  have x := w.newx (o := ho) hp
  have nw := w.new (o := ho) hp
  have np := w.fresh hp
  refine ⟨⟨⟨⟨[p], rfl⟩, x.tup, x.frz⟩, fun b hb => ?_, x.keep, x.has⟩, ⟨?_, ?_, fun l c ob h1 h2 => ?_⟩⟩
  · rcases List.mem_append.mp hb with h | h
    · exact .inl h
    · rw [List.mem_singleton.mp h]; exact .inr hp
  · rw [List.length_append, List.length_append, w.len]; rfl
  · exact List.nodup_append.mpr ⟨w.nd, by simp, fun a ha c hc => by rw [List.mem_singleton.mp hc]; rintro rfl; exact np ha⟩
  · by_cases hl : l < α.length
    · rw [List.getElem?_append_left hl] at h1
      rw [List.getElem?_append_left (by rw [← w.len]; exact hl)] at h2
      exact (nw.obj l c ob h1 h2).move (Ex0.grow α [p] _) rfl
    · have hl' : l = α.length := by
        have := (List.getElem?_eq_some_iff.mp h1).1
        rw [List.length_append, List.length_singleton] at this
        (first | lia | omega)
      subst hl'
      rw [List.getElem?_append_right (Nat.le_refl _), Nat.sub_self] at h1
      rw [List.getElem?_append_right (by rw [w.len]; exact Nat.le_refl _), w.len, Nat.sub_self] at h2
      cases h1; cases h2
      exact q
noncomputable def yGE (S : Sto) : R Er := .ok (.val (.loc S.length)) (S ++ [.dic []])
theorem yGF : PEm X W (.Dict [] [] pos) (fun _ S => yGE S) := by
  refine ⟨fun σ H Q => ∀ p, H p = none → Q (.ref p) (upd H p (.dK [])), fun pins s σ H Q I h => ?_, fun α ρ S σ H Q wd sl q p hp => ?_⟩
  · exact wpAny_Dict_empty ⟨.ref s.heap.objs.size, _, I.laid (a := s.heap.objs.size) (o := .dK []) (t' := s.toks) (fun _ _ q => Heap.get?_push_of_some _ q) (Nat.le_refl _)
      ⟨Nat.zero_le _, beq_eq_false_iff_ne.mpr (Ne.symm (Nat.ne_of_lt (yNJ I))), [], .nil, Heap.DictOf.new s.heap⟩, rfl, h _ (I.hok.fresh (Nat.le_refl _))⟩
  · obtain ⟨x, w'⟩ := wd.put (ho := .dK []) (m := .dic []) hp (.inl ⟨[], kP, .nil⟩)
    exact q (.ref p) (α ++ [p]) _ x w' (DenE.val (zOM (by rw [← wd.len, List.getElem?_append_right (Nat.le_refl _), Nat.sub_self]; rfl)))
noncomputable def zSV (S : Sto) : Er → Option (Nat × List (MV × MV))
  | .val (.loc l) => match S[l]? with
    | some (.dic kvs) => if kvs.all (fun p => zNA p.1) = true then some (l, kvs) else none
    | _ => none
  | _ => none
noncomputable def keyOk (k : MV) : Bool := zNA k && (match kS k with | some nk => decide (zBV nk ≤ 4) | none => false)
theorem zWI {k : MV} (h : keyOk k = true) : ∃ nk, kS k = some nk ∧ zBV nk ≤ 4 ∧ zNA k = true := by
  unfold keyOk at h
  rw [Bool.and_eq_true] at h
  cases z : kS k with
  | none => rw [z] at h; exact absurd h.2 Bool.false_ne_true
  | some nk => rw [z] at h; exact ⟨nk, rfl, of_decide_eq_true h.2, h.1⟩
theorem yGG {α : List Addr} {S : Sto} {H : Hp} (wd : Wd X.g α S H) {r : Er} {x : V} {l : Nat} {kvs : List (MV × MV)} (e : zSV S r = some (l, kvs)) (d : DenX X.K α H r x) :
    ∃ c xs, x = .ref c ∧ α[l]? = some c ∧ S[l]? = some (.dic kvs) ∧ DD X H c xs ∧ DenN X.K α H kvs xs := by
  unfold zSV at e
  split at e
  · rename_i n
    obtain ⟨c, rfl, h⟩ := zEN d
    split at e
    · rename_i ks hS
      split at e
      · rename_i hk
        obtain ⟨rfl, rfl⟩ := Prod.mk.inj (Option.some.inj e)
        obtain ⟨xs, dd, l⟩ := dd_of (S := S) (wd.obj _ c _ h hS) hk
        exact ⟨c, xs, rfl, h, hS, dd, l⟩
      · cases e
    · cases e
  · cases e
abbrev rInD (X : Cx) (neg : Bool) : R2 := fun x y H Q => ∃ (α : List Addr) (kvs : List (MV × MV)) (xs : List (NK × Addr × Value)) (a d : Addr) (k : MV) (nk : NK), x = .ref a ∧ y = .ref d ∧ DD X H d xs ∧ DenN X.K α H kvs xs ∧ kS k = some nk ∧ zBV nk ≤ 4 ∧ Den X.K α H k (.ref a) ∧
  Q (.bl (if neg = true then !(look kvs k).isSome else (look kvs k).isSome)) H
theorem zRN {prog : Program} {w : World} {KK : Type} [DecidableEq KK] {knd : HeapKind prog w KK} {A : Around} {E : Value → Shared → Prop} {s : Shared} {d a : Addr} {k : KK} {xs : List (KK × Addr × Value)} {Q : Bool → Shared → Prop} (hu : knd.room A.in1) (hkey : knd.is s.heap k a) (hd : (d == sysModules) = false)
    (hm : s.heap.DictOfH knd d xs) (h : Q (atKey xs k).isSome { s with toks := s.toks + knd.draws k }) : wpAny (model prog w) A (contains (.ref d) (.ref a)) Q E s := by
  unfold contains
  try with_reducible refine wpAny_holding ?_
  refine wpAny_bind (wpAny_specialOf hm.typeIs slot_dict_contains.lookup ?_)
  show wpAny _ _ (if (some (Value.builtin "dict.__contains__") == some Value.none) = true then _ else _) _ E s
  rw [if_neg (by rw [beq_builtin_none]; exact Bool.false_ne_true)]
  refine wpAny_bind (wpAny_callSpecialUnlessNone?_slot (name := Str.ofString "__contains__") hm.typeIs slot_dict_contains (wpAny_call_entry slot_dict_contains hm.typeIs entry_dict_contains ?_ (args_dict_contains _ _)))
  show wpAny _ _ (dictGet d (.ref a) >>= _) _ _ s
  refine wpAny_bind (wpAny_dictGet_heap hu hkey hm ?_)
  cases hf : atKey xs k with
  | some p =>
    rw [hf] at h
    show wpAny _ _ (ret (.bool true)) _ _ _
    exact wpAny_pure ⟨_, rfl, wpAny_truthy_bool h⟩
  | none =>
    rw [hf] at h
    show wpAny _ _ (Builtin.Dict.pendingKey? d (.ref a) >>= _) _ _ _
    exact wpAny_bind (wpAny_pendingKey_other hd (wpAny_pure ⟨_, rfl, wpAny_truthy_bool h⟩))
theorem yNK (hu : X.A.units + 64 < cLine) : OpR X (compareOp .In) (rInD X false) := by
  intro pins s σ H x y v u Q I rx ry h
  obtain ⟨α, kvs, xs, a, d, k, nk, rfl, rfl, dd, l, hk, e, ha, q⟩ := h
  cases rx; cases ry
  obtain ⟨hm, _, hs⟩ := yBF I dd l
  show wpAny _ _ (do return Value.bool (← contains (.ref d) (.ref a))) _ _ s
  refine wpAny_bind (zRN (knd := zHI X.prog X.w) (show X.A.units + 1 + 4 < cLine by (first | lia | omega)) ⟨zUE I hk ha rfl, e⟩ hs hm (wpAny_pure ⟨.bl (look kvs k).isSome, H, I.kept (t' := _) (fun _ _ z => z), ?_, q⟩))
  rw [zUF l hk]; rfl
noncomputable def yCW (neg : Bool) (p q : Er) (S : Sto) : R Er := match p with
  | .val k => match zSV S q with
    | some (_, kvs) => if keyOk k = true then .ok (.val (.bl (if neg = true then !(look kvs k).isSome else (look kvs k).isSome))) S else .no
    | none => .no
  | _ => .no
theorem yBG {α : List Addr} {H : Hp} {k : MV} {x : V} (h : zNA k = true) (d : Den X.K α H k x) : ∃ a, x = .ref a := by
  cases k with
  | tup ds => obtain ⟨a, _, rfl, _⟩ := jC d; exact ⟨a, rfl⟩
  | _ => exact absurd h Bool.false_ne_true
theorem yJN {neg : Bool} : Op2 X W (rInD X neg) (yCW neg) := by
  intro p q x y α S H Q wd dp dq post
  unfold yCW at post
  split at post
  · rename_i k
    split at post
    · rename_i l kvs e
      split at post
      · rename_i hk
        obtain ⟨nk, h1, h2, h3⟩ := zWI hk
        obtain ⟨c, xs, rfl, _, _, dd, dl⟩ := yGG wd e dq
        obtain ⟨a', rfl⟩ := yBG (X := X) (α := α) (H := H) h3 dp
        exact ⟨α, kvs, xs, a', c, k, nk, rfl, rfl, dd, dl, h1, h2, dp, Post.val post wd (kD _)⟩
      · exact post.elim
    · exact post.elim
  · exact post.elim
theorem yNL (hu : X.A.units + 64 < cLine) (ha : PEm X W a f) (hb : PEm X W b g) (hm : behindInMarks .In b = false := by with_unfolding_all rfl) : PTm X W (.Compare a [.In] [b] pos) (fun ρ S => ((f ρ S).bind fun p S1 => (g ρ S1).bind fun q S2 => yCW false p q S2).bind asB) := zKJ (yNK hu) yJN ha hb hm
noncomputable def rSetD (X : Cx) : TSet := fun o i v H Q => ∃ (α : List Addr) (kvs : List (MV × MV)) (xs : List (NK × Addr × Value)) (a d : Addr) (k : MV) (nk : NK), o = .ref d ∧ i = .ref a ∧ DD X H d xs ∧ DenN X.K α H kvs xs ∧ kS k = some nk ∧ zBV nk ≤ 4 ∧ Den X.K α H k (.ref a) ∧ xs.length < sizeLine ∧
  ∀ u, RelV v u → Q (upd H d (DN X.prog X.w d (storedH xs nk a u)))
theorem zZC {xs : List (NK × Addr × Value)} {k : NK} {a : Addr} {u : Value} : (storedH xs k a u).length ≤ xs.length + 1 := by
  cases h : atKey xs k with
  | none => rw [storedH_new h, List.length_append]; exact Nat.le_refl _
  | some p => rw [storedH_old h, List.length_map]; exact Nat.le_succ _
theorem yCX (hu : X.A.units + 64 < cLine) : PSet X (rSetD X) := by
  intro pins s σ H o i v ov iv u Q I ro ri rv h
  obtain ⟨α, kvs, xs, a, d, k, nk, rfl, rfl, dd, l, hk, e, ha, hz, q⟩ := h
  cases ro; cases ri
  obtain ⟨hm, hz', hs⟩ := yBF I dd l
  refine wpAny_setItem_heap (knd := zHI X.prog X.w) (show X.A.units + 1 + 4 < cLine by (first | lia | omega)) ⟨zUE I hk ha rfl, e⟩ hm (fun h' hm' hs' => ⟨_, ?_, q u rv⟩) hz'
  have mu : Mut (H d) := by
    rcases dd with z | ⟨_, z⟩ <;> rw [z] <;> exact trivial
  obtain ⟨ob, es, ep, ho, hc, hd, he, _, hn⟩ := hm'
  refine I.write (t' := _) (x := d) (e := d) mu (.inl rfl) (fun b uo hb eo => (hs'.2 b hb).trans eo) ⟨ob, ho⟩ ?_
  refine ⟨⟨by have := zZC (xs := xs) (k := nk) (a := a) (u := u); (first | lia | omega), hs, ob, es, ep, ho, hc, hd, he, hn⟩, ⟨ob, ho⟩, ?_⟩
  rintro h1 h2 ⟨z1, z2, o', es', ep', ho', r⟩ mv
  exact ⟨z1, z2, o', es', ep', mv o' ho', r⟩
noncomputable def zWJ (p q : Er) (d : MV) (ρ : Rho) (S : Sto) : R Rho := match q with
  | .val k => match zSV S p with
    | some (l, kvs) => if keyOk k = true ∧ kvs.length < 1000000 then .ok ρ (S.set l (.dic (putK kvs k d))) else .no
    | none => .no
  | _ => .no
theorem DenN.length {α : List Addr} {H : Hp} : ∀ {kvs xs}, DenN X.K α H kvs xs → xs.length = kvs.length
  | _, _, .nil => rfl
  | _, _, .cons _ _ _ _ _ l => by rw [List.length_cons, List.length_cons, DenN.length l]
theorem yJO (hu : X.A.units + 64 < cLine) (ho : PEm X W o f) (hi : PEm X W i g)
    (ha : ∀ v, assign (.Subscript o i pos) X.env v = (do
      let ov ← holding [v] (eval o X.env)
      let iv ← holding [v, ov] (eval i X.env)
      standAt pos
      holding [v, ov, iv] (setItem ov iv v)
      release [v, ov, iv] []) := by intro _; rfl) : PGm X W (.Subscript o i pos) (fun d ρ S => (f ρ S).bind fun p S1 => (g ρ S1).bind fun q S2 => zWJ p q d ρ S2) := by
  obtain ⟨to, ho, fo⟩ := ho
  obtain ⟨ti, hi, fi⟩ := hi
  refine ⟨_, yDX ho hi (yCX hu) ha, fun α ρ S σ H d v Q wd sl de q => fo α ρ S σ H _ wd sl (q.bind fun u p S1 α1 H1 e1 x1 w1 d1 q1 => fi α1 ρ S1 σ H1 _ w1 (sl.ext x1) ((q1.shift x1).bind fun u2 p2 S2 α2 H2 e2 x2 w2 d2 q2 => ?_))⟩
  replace q2 := q2.shift x2
  have d1' := DenX.ext x2 d1.1
  have de2 := (de.ext x1).ext x2
  unfold zWJ at q2
  split at q2
  · rename_i k
    split at q2
    · rename_i l kvs e
      split at q2
      · rename_i hk
        obtain ⟨nk, h1, h2, h3⟩ := zWI hk.1
        obtain ⟨c, xs, rfl, hc, hS, dd, dl⟩ := yGG w2 e d1'
        obtain ⟨a', rfl⟩ := yBG (X := X) (α := α2) (H := H2) h3 d2.1
        refine ⟨α2, kvs, xs, a', c, k, nk, rfl, rfl, dd, dl, h1, h2, d2.1, ?_, fun u ru => ?_⟩
        · rw [dl.length]
          exact Nat.lt_of_lt_of_le hk.2 (fits (Nat.le_refl _))
        · have xw := w2.writex hc (o := DN X.prog X.w c (storedH xs nk a' u))
          have sl2 := ((sl.ext x1).ext x2).ext xw
          exact q2 σ α2 _ xw (w2.write hc (.inr ⟨_, kP, (yJM dl h1 h2 d2.1 de2 ru).ex0 xw.toEx0⟩)) sl2
      · exact q2.elim
    · exact q2.elim
  · exact q2.elim
end
end M
end L2
namespace L2
namespace M
open PySem PySem.Spec PyProof.Rows
noncomputable def yBH : MV → V
  | .non => .non
  | .bl b => .bl b
  | .int i => .int i
  | .str x => .str (mkS x)
  | .typ n => .ty n
  | _ => .non
noncomputable def zUH : MV → Bool
  | .non => true
  | .bl _ => true
  | .int _ => true
  | .str _ => true
  | _ => false
theorem yGH {K : PySem.W.Frag} {α : List Addr} {H : Hp} {d : MV} (h : zUH d = true) : Den K α H d (yBH d) := by
  cases d with
  | non => exact zLI
  | bl b => exact kD b
  | int i => exact kE i
  | str x => exact zCB x
  | _ => exact absurd h Bool.false_ne_true
theorem zSW {K : PySem.W.Frag} {α : List Addr} {H : Hp} : ∀ {ds : List MV}, ds.all zUH = true → DenL K α H ds (ds.map yBH)
  | [], _ => xN
  | d :: ds, h => by
    rw [List.all_cons, Bool.and_eq_true] at h
    exact xE (yGH h.1) (zSW h.2)
structure GTup (K : PySem.W.Frag) (mg : Str → Option Value) (x : Str) (ds : List MV) : Prop where
  ex : ∃ (a : Addr) (o : Obj) (its : Array Value) (n : Nat), mg x = some (.ref a) ∧ K.lookup a = some o ∧ o.cls = .type "tuple" ∧ o.data = .seq its n ∧ its.size ≤ sizeLine ∧ Vals (ds.map yBH) its.toList
  fl : ds.all zUH = true
theorem yJP {X : Cx} {W : XW} {x : Str} {ds : List MV} {pos : Pos} (hg : Gl X x) (G : GTup X.K X.mg x ds) (hd : (x == ("__debug__" : Str)) = false := by decide) : PEm X W (.Name x pos) (fun _ S => .ok (.val (.tup ds)) S) := by
  obtain ⟨⟨a, o, its, n, hm, lk, hc, hdt, hz, hv⟩, hf⟩ := G
  exact ⟨_, yAJ (v := .ref a) hg hm rfl hd, fun α ρ S σ H Q wd sl q => Post.val q wd (zAB (.inr ⟨o, its, n, lk, hc, hdt, hz, hv⟩) (zSW hf))⟩
theorem fn_no {P : Program} {w : World} {K : PySem.W.Frag} {mg : Str → Option Value} {base : Heap} {k m : Nat} {f : Addr} {fd : FuncData} {ps : List Str} {g : Gm} : FnOk P w K mg base CX0 k f fd ps (spM g m fun _ _ => .no) :=
  ⟨fun vs H Q E ⟨_, _, _, _, _, _, q⟩ => q.elim, fun _ _ _ _ _ _ _ _ _ _ _ _ _ ⟨_, _, _, _, _, _, q⟩ => q.elim⟩
end M
end L2
namespace L2
namespace M
namespace My
open PySem PySem.Spec PyProof.Rows
local macro_rules
  | `(tactic| simp? [$xs,*] $[$l:location]?) => `(tactic| simp only [List.getElem?_cons_zero, List.getElem?_cons_succ, yIX, bok, as_int, yKQ, yMZ, add_int, sub_int, eq_int, yNA, lst0, lst1, lst2, lst3, lst6, tup2, tup3, yND, yNE, yNF, yNG, yNH, yNI, yJE, yJF, List.set_cons_zero, List.set_cons_succ, if_true, yJH, yJG, $xs,*] $[$l:location]?)
noncomputable section
abbrev AF := Rho → Sto → R Fl
abbrev AE := Rho → Sto → R Er
noncomputable def zET : AF := (fun ρ S => ((((zE (ρ[0]?) S).bind fun a b => ((R.ok (.val (.typ "int")) b).bind fun c d => (R.ok [] d).bind fun e g => .ok (c :: e) g).bind fun h i => .ok (a :: h) i).bind bZ).bind fun j l => jV j l fun m => ((((zE (ρ[0]?) m).bind fun n o => ((R.ok (.val (.typ "bool")) o).bind fun p q => (R.ok [] q).bind fun s t => .ok (p :: s) t).bind fun u v => .ok (n :: u) v).bind bZ).bind fun w x => (asB w x).bind fun y z => .ok (.val (.bl !y)) z)).bind fun r A => .ok (.ret r) A)
noncomputable def cG : AF := (zET)
noncomputable def kJ (ds : List MV) (S : Sto) : R Er := xM (cG (yB ["thing"] ds) S)
noncomputable def zCR : Rho → Sto → R Bool := fun ρ S => (R.ok true S)
noncomputable def dI : AE := fun ρ S => ((R.ok (.val (.str [97])) S).bind fun a b => (zE (ρ[0]?) b).bind fun c d => chF leF leF a c d fun e => (R.ok (.val (.str [122])) e))
noncomputable def zHR : AF := (fun ρ S => ((((((zE (ρ[0]?) S).bind fun a b => ((R.ok (.val (.typ "str")) b).bind fun c d => (R.ok [] d).bind fun e g => .ok (c :: e) g).bind fun h i => .ok (a :: h) i).bind bZ).bind cC).bind fun j l => .ok (!j) l).bind fun m n => if m = true then .ok true n else ((((R.ok (.val (.int 1)) n).bind fun o p => (((zE (ρ[0]?) p).bind fun q s => (R.ok [] s).bind fun t u => .ok (q :: t) u).bind wX).bind fun v w => chF leF leF o v w fun x => (R.ok (.val (.int 8)) x)).bind asB).bind fun y z => .ok (!y) z)).bind fun k A => if k = true then ((fun ρ S => (R.ok (.val (.bl false)) S).bind fun r A => .ok (.ret r) A)) ρ A else (fun ρ S => .ok (.next ρ) S) ρ A)
noncomputable def zHS : AF := (fun ρ S => (((((zE (ρ[0]?) S).bind itS).bind fun a b => if a.ds.length < 1000000 then (xW (gNm 0) (zCR) (dI) (blk 1 [] ρ) a.gs a.ds b).bind fun c d => .ok (.new c) d else .no).bind fun e g => (R.ok [] g).bind fun h i => .ok (e :: h) i).bind zRM).bind fun r j => .ok (.ret r) j)
noncomputable def zJG : AF := zY (zHR) ((zHS))
noncomputable def zJH (ds : List MV) (S : Sto) : R Er := xM (zJG (yB ["thing"] ds) S)
noncomputable def bH : AF := (fun ρ S => ((((zE (ρ[0]?) S).bind fun a b => (R.ok [] b).bind fun c d => .ok (a :: c) d).bind fun e g => zJ 1 kJ e g).bind cC).bind fun k h => if k = true then ((fun ρ S => ((((zE (ρ[0]?) S).bind fun i j => (R.ok [] j).bind fun l m => .ok (i :: l) m).bind absF).bind fun n o => ((R.ok (.val (.int 10)) o).bind fun p q => (R.ok (.val (.int 30)) q).bind fun s t => zKK p s t).bind fun u v => ltF n u v).bind fun r h => .ok (.ret r) h)) ρ h else (fun ρ S => .ok (.next ρ) S) ρ h)
noncomputable def zLP : AF := (fun ρ S => (((zE (ρ[0]?) S).bind fun a b => (R.ok [] b).bind fun c d => .ok (a :: c) d).bind fun e g => zJ 1 zJH e g).bind fun r h => .ok (.ret r) h)
noncomputable def zEU : AF := zY (bH) ((zLP))
noncomputable def cH (ds : List MV) (S : Sto) : R Er := xM (zEU (yB ["thing"] ds) S)
noncomputable def zLQ : AF := (fun ρ S => ((((zE (ρ[0]?) S).bind fun a b => ((R.ok (.val (.typ "tuple")) b).bind fun c d => (R.ok [] d).bind fun e g => .ok (c :: e) g).bind fun h i => .ok (a :: h) i).bind bZ).bind fun j l => jV j l fun m => ((zE (ρ[1]?) m).bind fun n o => (((zE (ρ[0]?) o).bind fun p q => (R.ok [] q).bind fun s t => .ok (p :: s) t).bind wX).bind fun u v => chF leF leF n u v fun w => (zE (ρ[2]?) w))).bind fun r x => .ok (.ret r) x)
noncomputable def zEV : AF := (zLQ)
noncomputable def yJ (ds : List MV) (S : Sto) : R Er := xM (zEV (yB ["thing", "least", "most"] ds) S)
noncomputable def zAA : AF := (fun ρ S => ((((zE (ρ[0]?) S).bind fun a b => (R.ok [] b).bind fun c d => .ok (a :: c) d).bind fun e g => zJ 1 kJ e g).bind fun h i => jV h i fun j => ((R.ok (.val (.int 0)) j).bind fun l m => (zE (ρ[0]?) m).bind fun n o => chF leF ltF l n o fun p => (zE (ρ[1]?) p))).bind fun r q => .ok (.ret r) q)
noncomputable def jH : AF := (zAA)
noncomputable def zO (ds : List MV) (S : Sto) : R Er := xM (jH (yB ["thing", "bound"] ds) S)
noncomputable def zEW : AF := (fun ρ S => ((((((zE (ρ[0]?) S).bind fun a b => ((R.ok (.val (.int 2)) b).bind fun c d => ((R.ok (.val (.int 2)) d).bind fun e g => (R.ok [] g).bind fun h i => .ok (e :: h) i).bind fun j l => .ok (c :: j) l).bind fun m n => .ok (a :: m) n).bind fun o p => zJ 3 yJ o p).bind cC).bind fun q s => .ok (!q) s).bind fun t u => if t = true then .ok true u else ((((((zE (ρ[0]?) u).bind fun v w => (R.ok (.val (.int 0)) w).bind fun x y => ixF v x y).bind fun z A => (R.ok [] A).bind fun B D => .ok (z :: B) D).bind fun G I => zJ 1 kJ G I).bind cC).bind fun J L => .ok (!J) L)).bind fun k M => if k = true then ((fun ρ S => (R.ok (.val (.bl false)) S).bind fun r M => .ok (.ret r) M)) ρ M else (fun ρ S => .ok (.next ρ) S) ρ M)
noncomputable def zEX : AF := (fun ρ S => ((zE (ρ[0]?) S).bind fun a b => (R.ok (.val (.int 0)) b).bind fun c d => ixF a c d).bind (xL ρ 1))
noncomputable def zEY : AF := (fun ρ S => (((R.ok (.val (.int 1)) S).bind fun a b => (zE (ρ[1]?) b).bind fun c d => chF leF leF a c d fun e => (R.ok (.val (.int 4)) e)).bind fun g h => jV g h fun i => ((((zE (ρ[0]?) i).bind fun j l => (R.ok (.val (.int 1)) l).bind fun m n => ixF j m n).bind fun o p => (((zE (ρ[1]?) p).bind fun q s => (R.ok (.val (.int 1)) s).bind fun t u => cF q t u).bind fun v w => (R.ok [] w).bind fun x y => .ok (v :: x) y).bind fun z A => .ok (o :: z) A).bind fun B D => zJ 2 zO B D)).bind fun r G => .ok (.ret r) G)
noncomputable def zEZ : AF := zY (zEW) (zY (zEX) ((zEY)))
noncomputable def zFA (ds : List MV) (S : Sto) : R Er := xM (zEZ (yB ["thing", "wide"] ds) S)
noncomputable def dR : AF := (fun ρ S => ((((zE (ρ[0]?) S).bind fun a b => ((R.ok (.val (.int 2)) b).bind fun c d => ((R.ok (.val (.int 2)) d).bind fun e g => (R.ok [] g).bind fun h i => .ok (e :: h) i).bind fun j l => .ok (c :: j) l).bind fun m n => .ok (a :: m) n).bind fun o p => zJ 3 yJ o p).bind cC).bind fun k q => if k = true then ((fun ρ S => ((((zE (ρ[0]?) S).bind fun s t => (R.ok (.val (.int 0)) t).bind fun u v => ixF s u v).bind fun w x => (R.ok (.val (.str [105, 115])) x).bind fun y z => eqF w y z).bind fun A B => jV A B fun D => ((((zE (ρ[0]?) D).bind fun G I => (R.ok (.val (.int 1)) I).bind fun J L => ixF G J L).bind fun M N => (R.ok [] N).bind fun O P => .ok (M :: O) P).bind fun Q T => zJ 1 cH Q T)).bind fun r q => .ok (.ret r) q)) ρ q else (fun ρ S => .ok (.next ρ) S) ρ q)
noncomputable def zHT : AF := (fun ρ S => ((((((zE (ρ[0]?) S).bind fun a b => ((R.ok (.val (.int 3)) b).bind fun c d => ((R.ok (.val (.int 3)) d).bind fun e g => (R.ok [] g).bind fun h i => .ok (e :: h) i).bind fun j l => .ok (c :: j) l).bind fun m n => .ok (a :: m) n).bind fun o p => zJ 3 yJ o p).bind cC).bind fun q s => .ok (!q) s).bind fun t u => if t = true then .ok true u else ((((zE (ρ[0]?) u).bind fun v w => (R.ok (.val (.int 0)) w).bind fun x y => ixF v x y).bind fun z A => (R.ok (.val (.str [99, 101, 108, 108])) A).bind fun B D => neF z B D).bind asB)).bind fun k G => if k = true then ((fun ρ S => (R.ok (.val (.bl false)) S).bind fun r G => .ok (.ret r) G)) ρ G else (fun ρ S => .ok (.next ρ) S) ρ G)
noncomputable def zHU : AF := (fun ρ S => (((((zE (ρ[0]?) S).bind fun a b => (R.ok (.val (.int 1)) b).bind fun c d => ixF a c d).bind fun e g => ((((zE (ρ[1]?) g).bind fun h i => (R.ok [] i).bind fun j l => .ok (h :: j) l).bind wX).bind fun m n => (R.ok [] n).bind fun o p => .ok (m :: o) p).bind fun q s => .ok (e :: q) s).bind fun t u => zJ 2 zO t u).bind fun v w => jV v w fun x => ((((zE (ρ[0]?) x).bind fun y z => (R.ok (.val (.int 2)) z).bind fun A B => ixF y A B).bind fun D G => (((zE (ρ[1]?) G).bind fun I J => ((zE (ρ[0]?) J).bind fun L M => (R.ok (.val (.int 1)) M).bind fun N O => ixF L N O).bind fun P Q => ixF I P Q).bind fun T U => (R.ok [] U).bind fun V X => .ok (T :: V) X).bind fun Y Z => .ok (D :: Y) Z).bind fun a0 a1 => zJ 2 zO a0 a1)).bind fun r a2 => .ok (.ret r) a2)
noncomputable def zAI : AF := zY (dR) (zY (zHT) ((zHU)))
noncomputable def zEE (ds : List MV) (S : Sto) : R Er := xM (zAI (yB ["thing", "wides"] ds) S)
noncomputable def zHV : AF := (fun ρ S => (((((zE (ρ[0]?) S).bind fun a b => ((R.ok (.val (.int 3)) b).bind fun c d => ((R.ok (.val (.int 3)) d).bind fun e g => (R.ok [] g).bind fun h i => .ok (e :: h) i).bind fun j l => .ok (c :: j) l).bind fun m n => .ok (a :: m) n).bind fun o p => zJ 3 yJ o p).bind cC).bind fun q s => .ok (!q) s).bind fun k t => if k = true then ((fun ρ S => (R.ok (.val (.bl false)) S).bind fun r t => .ok (.ret r) t)) ρ t else (fun ρ S => .ok (.next ρ) S) ρ t)
noncomputable def zHW : AF := (fun ρ S => (((((zE (ρ[0]?) S).bind fun a b => (R.ok (.val (.int 0)) b).bind fun c d => ixF a c d).bind fun e g => ((zE (ρ[1]?) g).bind fun h i => (R.ok [] i).bind fun j l => .ok (h :: j) l).bind fun m n => .ok (e :: m) n).bind fun o p => zJ 2 zEE o p).bind fun q s => jV q s fun t => ((((zE (ρ[0]?) t).bind fun u v => (R.ok (.val (.int 1)) v).bind fun w x => ixF u w x).bind fun y z => (R.ok (.val (.tup [.str [115, 97, 109, 101], .str [117, 110, 108, 105, 107, 101], .str [108, 101, 115, 115]])) z).bind fun A B => inF false y A B).bind fun D G => jV D G fun I => ((((zE (ρ[0]?) I).bind fun J L => (R.ok (.val (.int 2)) L).bind fun M N => ixF J M N).bind fun O P => ((zE (ρ[1]?) P).bind fun Q T => (R.ok [] T).bind fun U V => .ok (Q :: U) V).bind fun X Y => .ok (O :: X) Y).bind fun Z a0 => zJ 2 zEE Z a0))).bind fun r a1 => .ok (.ret r) a1)
noncomputable def zJI : AF := zY (zHV) ((zHW))
noncomputable def zJJ (ds : List MV) (S : Sto) : R Er := xM (zJI (yB ["thing", "wides"] ds) S)
noncomputable def zGS : Rho → Sto → R Bool := fun ρ S => (R.ok true S)
noncomputable def nJ : AE := fun ρ S => (((zE (ρ[0]?) S).bind fun a b => ((zE (ρ[1]?) b).bind fun c d => (R.ok [] d).bind fun e g => .ok (c :: e) g).bind fun h i => .ok (a :: h) i).bind fun j l => zJ 2 zJJ j l)
noncomputable def zJX : AF := (fun ρ S => ((((zE (ρ[0]?) S).bind fun a b => ((R.ok (.val (.int 1)) b).bind fun c d => ((R.ok (.val (.int 3)) d).bind fun e g => (R.ok [] g).bind fun h i => .ok (e :: h) i).bind fun j l => .ok (c :: j) l).bind fun m n => .ok (a :: m) n).bind fun o p => zJ 3 yJ o p).bind fun q s => jV q s fun t => (((((zE (ρ[0]?) t).bind itT).bind fun u v => if u.ds.length < 1000000 then (xW (gNm 0) (zGS) (nJ) (blk 1 [1] ρ) u.gs u.ds v).bind fun w x => .ok (.new w) x else .no).bind fun y z => (R.ok [] z).bind fun A B => .ok (y :: A) B).bind zRM)).bind fun r D => .ok (.ret r) D)
noncomputable def zCI : AF := (zJX)
noncomputable def jJ (ds : List MV) (S : Sto) : R Er := xM (zCI (yB ["thing", "wides"] ds) S)
noncomputable def zCJ : Rho → Sto → R Bool := fun ρ S => (R.ok true S)
noncomputable def bI : AE := fun ρ S => (((zE (ρ[0]?) S).bind fun a b => ((zE (ρ[1]?) b).bind fun c d => (R.ok [] d).bind fun e g => .ok (c :: e) g).bind fun h i => .ok (a :: h) i).bind fun j l => zJ 2 zO j l)
noncomputable def zGT : AF := (fun ρ S => ((((zE (ρ[0]?) S).bind fun a b => ((R.ok (.val (.int 1)) b).bind fun c d => ((R.ok (.val (.int 3)) d).bind fun e g => (R.ok [] g).bind fun h i => .ok (e :: h) i).bind fun j l => .ok (c :: j) l).bind fun m n => .ok (a :: m) n).bind fun o p => zJ 3 yJ o p).bind fun q s => jV q s fun t => (((((zE (ρ[0]?) t).bind itT).bind fun u v => if u.ds.length < 1000000 then (xW (gNm 0) (zCJ) (bI) (blk 1 [1] ρ) u.gs u.ds v).bind fun w x => .ok (.new w) x else .no).bind fun y z => (R.ok [] z).bind fun A B => .ok (y :: A) B).bind zRM)).bind fun r D => .ok (.ret r) D)
noncomputable def dJ : AF := (zGT)
noncomputable def dL (ds : List MV) (S : Sto) : R Er := xM (dJ (yB ["thing", "wide"] ds) S)
noncomputable def zFB : AF := (fun ρ S => ((((((zE (ρ[0]?) S).bind fun a b => (R.ok [] b).bind fun c d => .ok (a :: c) d).bind wX).bind fun e g => (R.ok (.val (.int 3)) g).bind fun h i => neF e h i).bind asB).bind fun j l => if j = true then .ok true l else ((((((zE (ρ[0]?) l).bind fun m n => (R.ok (.val (.int 1)) n).bind fun o p => ixF m o p).bind fun q s => ((((zE (ρ[1]?) s).bind fun t u => (R.ok [] u).bind fun v w => .ok (t :: v) w).bind wX).bind fun x y => (R.ok [] y).bind fun z A => .ok (x :: z) A).bind fun B D => .ok (q :: B) D).bind fun G I => zJ 2 zO G I).bind cC).bind fun J L => .ok (!J) L)).bind fun k M => if k = true then ((fun ρ S => (R.ok (.val (.bl false)) S).bind fun r M => .ok (.ret r) M)) ρ M else (fun ρ S => .ok (.next ρ) S) ρ M)
noncomputable def zFC : AF := (fun ρ S => ((((zE (ρ[0]?) S).bind fun a b => (R.ok (.val (.int 2)) b).bind fun c d => ixF a c d).bind fun e g => ((((((zE (ρ[1]?) g).bind fun h i => ((zE (ρ[0]?) i).bind fun j l => (R.ok (.val (.int 1)) l).bind fun m n => ixF j m n).bind fun o p => ixF h o p).bind fun q s => (R.ok (.val (.int 0)) s).bind fun t u => ixF q t u).bind fun v w => (R.ok [] w).bind fun x y => .ok (v :: x) y).bind zBW).bind fun z A => (R.ok [] A).bind fun B D => .ok (z :: B) D).bind fun G I => .ok (e :: G) I).bind fun J L => zJ 2 jJ J L).bind fun r M => .ok (.ret r) M)
noncomputable def zFD : AF := zY (zFB) ((zFC))
noncomputable def zFE (ds : List MV) (S : Sto) : R Er := xM (zFD (yB ["rule", "tables"] ds) S)
noncomputable def zHX : Rho → Sto → R Bool := fun ρ S => (R.ok true S)
noncomputable def zAT : AE := fun ρ S => (((zE (ρ[0]?) S).bind fun a b => ((((zE (ρ[1]?) b).bind fun c d => (R.ok [] d).bind fun e g => .ok (c :: e) g).bind wX).bind fun h i => (R.ok [] i).bind fun j l => .ok (h :: j) l).bind fun m n => .ok (a :: m) n).bind fun o p => zJ 2 zO o p)
noncomputable def zAU : Rho → Sto → R Bool := fun ρ S => (R.ok true S)
noncomputable def bJ : AE := fun ρ S => (((zE (ρ[1]?) S).bind fun a b => (zE (ρ[0]?) b).bind fun c d => ixF a c d).bind fun e g => (R.ok (.val (.int 0)) g).bind fun h i => ixF e h i)
noncomputable def zFF : AF := (fun ρ S => ((((((zE (ρ[0]?) S).bind fun a b => (R.ok [] b).bind fun c d => .ok (a :: c) d).bind wX).bind fun e g => (R.ok (.val (.int 4)) g).bind fun h i => neF e h i).bind asB).bind fun j l => if j = true then .ok true l else ((((((((zE (ρ[0]?) l).bind fun m n => ((R.ok (.val (.int 1)) n).bind asI).bind fun o p => ((R.ok (.val (.int 3)) p).bind asI).bind fun q s => zRL m o q s).bind itT).bind fun t u => if t.ds.length < 1000000 then (xW (gNm 0) (zHX) (zAT) (blk 1 [1] ρ) t.gs t.ds u).bind fun v w => .ok (.new v) w else .no).bind fun x y => (R.ok [] y).bind fun z A => .ok (x :: z) A).bind zRM).bind cC).bind fun B D => .ok (!B) D)).bind fun k G => if k = true then ((fun ρ S => (R.ok (.val (.bl false)) S).bind fun r G => .ok (.ret r) G)) ρ G else (fun ρ S => .ok (.next ρ) S) ρ G)
noncomputable def zFG : AF := (fun ρ S => ((((zE (ρ[0]?) S).bind fun a b => (R.ok (.val (.int 3)) b).bind fun c d => ixF a c d).bind fun e g => (((((zE (ρ[0]?) g).bind fun h i => ((R.ok (.val (.int 1)) i).bind asI).bind fun j l => ((R.ok (.val (.int 3)) l).bind asI).bind fun m n => zRL h j m n).bind itT).bind fun o p => if o.ds.length < 1000000 then (xW (gNm 0) (zAU) (bJ) (blk 1 [1] ρ) o.gs o.ds p).bind fun q s => .ok (.new q) s else .no).bind fun t u => (R.ok [] u).bind fun v w => .ok (t :: v) w).bind fun x y => .ok (e :: x) y).bind fun z A => zJ 2 jJ z A).bind fun r B => .ok (.ret r) B)
noncomputable def zFH : AF := zY (zFF) ((zFG))
noncomputable def zFI (ds : List MV) (S : Sto) : R Er := xM (zFH (yB ["rule", "tables"] ds) S)
noncomputable def zLR : Rho → Sto → R Fl := (fun ρ S => ((((((zE (ρ[2]?) S).bind fun p592 S593 => ((((zE (ρ[1]?) S593).bind fun p596 S597 => (R.ok [] S597).bind fun l598 S599 => .ok (p596 :: l598) S599).bind wX).bind fun p600 S601 => (R.ok [] S601).bind fun l602 S603 => .ok (p600 :: l602) S603).bind fun l594 S595 => .ok (p592 :: l594) S595).bind fun r590 S591 => zJ 2 zO r590 S591).bind cC).bind fun k604 S605 => .ok (!k604) S605).bind fun k606 S607 => if k606 = true then .ok true S607 else (((((zE (ρ[3]?) S607).bind fun p610 S611 => ((((zE (ρ[1]?) S611).bind fun p614 S615 => (zE (ρ[2]?) S615).bind fun q616 S617 => ixF p614 q616 S617).bind fun p618 S619 => (R.ok (.val (.int 0)) S619).bind fun q620 S621 => ixF p618 q620 S621).bind fun p622 S623 => (R.ok [] S623).bind fun l624 S625 => .ok (p622 :: l624) S625).bind fun l612 S613 => .ok (p610 :: l612) S613).bind fun r608 S609 => zJ 2 dL r608 S609).bind cC).bind fun k626 S627 => .ok (!k626) S627)).bind fun k S1 => if k = true then ((fun ρ S => (R.ok (.val (.bl false)) S).bind fun r S1 => .ok (.ret r) S1)) ρ S1 else (fun ρ S => .ok (.next ρ) S) ρ S1)
noncomputable def zKM : Rho → Sto → R Fl := (zLR)
noncomputable def zKN : AF := (fun ρ S => (((((zE (ρ[0]?) S).bind fun a b => (R.ok [] b).bind fun c d => .ok (a :: c) d).bind wX).bind fun e g => (R.ok (.val (.int 5)) g).bind fun h i => neF e h i).bind asB).bind fun k j => if k = true then ((fun ρ S => (R.ok (.val (.bl false)) S).bind fun r j => .ok (.ret r) j)) ρ j else (fun ρ S => .ok (.next ρ) S) ρ j)
noncomputable def zKO : AF := (fun ρ S => (((((((zE (ρ[0]?) S).bind fun a b => (R.ok (.val (.int 1)) b).bind fun c d => ixF a c d).bind fun e g => (((zE (ρ[0]?) g).bind fun h i => (R.ok (.val (.int 2)) i).bind fun j l => ixF h j l).bind fun m n => (R.ok [] n).bind fun o p => .ok (m :: o) p).bind fun q s => .ok (e :: q) s).bind nG).bind fun t u => (((((zE (ρ[0]?) u).bind fun v w => (R.ok (.val (.int 3)) w).bind fun x y => ixF v x y).bind fun z A => (((zE (ρ[0]?) A).bind fun B D => (R.ok (.val (.int 4)) D).bind fun G I => ixF B G I).bind fun J L => (R.ok [] L).bind fun M N => .ok (J :: M) N).bind fun O P => .ok (z :: O) P).bind nG).bind fun Q T => (R.ok [] T).bind fun U V => .ok (Q :: U) V).bind fun X Y => .ok (t :: X) Y).bind nG).bind itT).bind fun k Z => nI (gTp 2 (yS (gNm 2) (yS (gNm 3) bB))) (zKM) k.gs k.ds ρ Z)
noncomputable def zKP : AF := (fun ρ S => (((((zE (ρ[0]?) S).bind fun a b => (R.ok (.val (.int 2)) b).bind fun c d => ixF a c d).bind fun e g => (R.ok [] g).bind fun h i => .ok (e :: h) i).bind wX).bind fun j l => ((((zE (ρ[0]?) l).bind fun m n => (R.ok (.val (.int 4)) n).bind fun o p => ixF m o p).bind fun q s => (R.ok [] s).bind fun t u => .ok (q :: t) u).bind wX).bind fun v w => eqF j v w).bind fun r x => .ok (.ret r) x)
noncomputable def zLS : AF := zY (zKN) (zY (zKO) ((zKP)))
noncomputable def zLT (ds : List MV) (S : Sto) : R Er := xM (zLS (yB ["rule", "tables", "number", "columns"] ds) S)
noncomputable def zHY : AF := (fun ρ S => ((((((zE (ρ[0]?) S).bind fun a b => ((R.ok (.val (.typ "tuple")) b).bind fun c d => (R.ok [] d).bind fun e g => .ok (c :: e) g).bind fun h i => .ok (a :: h) i).bind bZ).bind cC).bind fun j l => .ok (!j) l).bind fun m n => if m = true then .ok true n else (((((zE (ρ[0]?) n).bind fun o p => (R.ok [] p).bind fun q s => .ok (o :: q) s).bind wX).bind fun t u => (R.ok (.val (.int 0)) u).bind fun v w => eqF t v w).bind asB)).bind fun k x => if k = true then ((fun ρ S => (R.ok (.val (.bl false)) S).bind fun r x => .ok (.ret r) x)) ρ x else (fun ρ S => .ok (.next ρ) S) ρ x)
noncomputable def jK : AF := (fun ρ S => ((((zE (ρ[0]?) S).bind fun a b => (R.ok (.val (.int 0)) b).bind fun c d => ixF a c d).bind fun e g => (R.ok (.val (.str [110, 101, 118, 101, 114])) g).bind fun h i => eqF e h i).bind asB).bind fun k j => if k = true then ((fun ρ S => (((zE (ρ[0]?) S).bind fun l m => ((zE (ρ[1]?) m).bind fun n o => (R.ok [] o).bind fun p q => .ok (n :: p) q).bind fun s t => .ok (l :: s) t).bind fun u v => zJ 2 zFE u v).bind fun r j => .ok (.ret r) j)) ρ j else (fun ρ S => .ok (.next ρ) S) ρ j)
noncomputable def dS : AF := (fun ρ S => ((((zE (ρ[0]?) S).bind fun a b => (R.ok (.val (.int 0)) b).bind fun c d => ixF a c d).bind fun e g => (R.ok (.val (.str [97, 112, 97, 114, 116])) g).bind fun h i => eqF e h i).bind asB).bind fun k j => if k = true then ((fun ρ S => (((zE (ρ[0]?) S).bind fun l m => ((zE (ρ[1]?) m).bind fun n o => (R.ok [] o).bind fun p q => .ok (n :: p) q).bind fun s t => .ok (l :: s) t).bind fun u v => zJ 2 zFI u v).bind fun r j => .ok (.ret r) j)) ρ j else (fun ρ S => .ok (.next ρ) S) ρ j)
noncomputable def zHZ : AF := (fun ρ S => ((((zE (ρ[0]?) S).bind fun a b => (R.ok (.val (.int 0)) b).bind fun c d => ixF a c d).bind fun e g => (R.ok (.val (.str [116, 105, 101])) g).bind fun h i => eqF e h i).bind fun j l => jV j l fun m => (((zE (ρ[0]?) m).bind fun n o => ((zE (ρ[1]?) o).bind fun p q => (R.ok [] q).bind fun s t => .ok (p :: s) t).bind fun u v => .ok (n :: u) v).bind fun w x => zJ 2 zLT w x)).bind fun r y => .ok (.ret r) y)
noncomputable def zJK : AF := zY (zHY) (zY (jK) (zY (dS) ((zHZ))))
noncomputable def zJL (ds : List MV) (S : Sto) : R Er := xM (zJK (yB ["thing", "tables"] ds) S)
noncomputable def zLU : Rho → Sto → R Bool := fun ρ S => (R.ok true S)
noncomputable def zFJ : AE := fun ρ S => (((zE (ρ[0]?) S).bind fun a b => (R.ok [] b).bind fun c d => .ok (a :: c) d).bind fun e g => zJ 1 cH e g)
noncomputable def zKQ : AF := (fun ρ S => ((((((zE (ρ[0]?) S).bind fun a b => ((R.ok (.val (.int 2)) b).bind fun c d => ((R.ok (.val (.int 2)) d).bind fun e g => (R.ok [] g).bind fun h i => .ok (e :: h) i).bind fun j l => .ok (c :: j) l).bind fun m n => .ok (a :: m) n).bind fun o p => zJ 3 yJ o p).bind cC).bind fun q s => .ok (!q) s).bind fun t u => if t = true then .ok true u else ((((((zE (ρ[0]?) u).bind fun v w => (R.ok (.val (.int 0)) w).bind fun x y => ixF v x y).bind fun z A => ((((zE (ρ[1]?) A).bind fun B D => (R.ok [] D).bind fun G I => .ok (B :: G) I).bind wX).bind fun J L => (R.ok [] L).bind fun M N => .ok (J :: M) N).bind fun O P => .ok (z :: O) P).bind fun Q T => zJ 2 zO Q T).bind cC).bind fun U V => .ok (!U) V)).bind fun k X => if k = true then ((fun ρ S => (R.ok (.val (.bl false)) S).bind fun r X => .ok (.ret r) X)) ρ X else (fun ρ S => .ok (.next ρ) S) ρ X)
noncomputable def zKR : AF := (fun ρ S => (((zE (ρ[1]?) S).bind fun a b => ((zE (ρ[0]?) b).bind fun c d => (R.ok (.val (.int 0)) d).bind fun e g => ixF c e g).bind fun h i => ixF a h i).bind fun j l => (R.ok (.val (.int 0)) l).bind fun m n => ixF j m n).bind (xL ρ 2))
noncomputable def zKS : AF := (fun ρ S => (((((zE (ρ[0]?) S).bind fun a b => (R.ok (.val (.int 1)) b).bind fun c d => ixF a c d).bind fun e g => ((zE (ρ[2]?) g).bind fun h i => ((zE (ρ[2]?) i).bind fun j l => (R.ok [] l).bind fun m n => .ok (j :: m) n).bind fun o p => .ok (h :: o) p).bind fun q s => .ok (e :: q) s).bind fun t u => zJ 3 yJ t u).bind fun v w => jV v w fun x => ((((((zE (ρ[0]?) x).bind fun y z => (R.ok (.val (.int 1)) z).bind fun A B => ixF y A B).bind itT).bind fun D G => if D.ds.length < 1000000 then (xW (gNm 0) (zLU) (zFJ) (blk 1 [] ρ) D.gs D.ds G).bind fun I J => .ok (.new I) J else .no).bind fun L M => (R.ok [] M).bind fun N O => .ok (L :: N) O).bind zRM)).bind fun r P => .ok (.ret r) P)
noncomputable def zLV : AF := zY (zKQ) (zY (zKR) ((zKS)))
noncomputable def zLW (ds : List MV) (S : Sto) : R Er := xM (zLV (yB ["thing", "tables", "wide"] ds) S)
noncomputable def zGU : AF := (fun ρ S => ((((((zE (ρ[0]?) S).bind fun a b => (R.ok [] b).bind fun c d => .ok (a :: c) d).bind wX).bind fun e g => (R.ok (.val (.int 4)) g).bind fun h i => gtF e h i).bind asB).bind fun j l => if j = true then .ok true l else ((((((zE (ρ[1]?) l).bind fun m n => (R.ok [] n).bind fun o p => .ok (m :: o) p).bind wX).bind fun q s => (R.ok (.val (.int 6)) s).bind fun t u => gtF q t u).bind asB).bind fun v w => if v = true then .ok true w else (((((zE (ρ[2]?) w).bind fun x y => (R.ok [] y).bind fun z A => .ok (x :: z) A).bind wX).bind fun B D => (R.ok (.val (.int 60)) D).bind fun G I => gtF B G I).bind asB))).bind fun k J => if k = true then ((fun _ _ => R.no)) ρ J else (fun ρ S => .ok (.next ρ) S) ρ J)
noncomputable def dM : AF := (zGU)
noncomputable def dN (ds : List MV) (S : Sto) : R Er := xM (dM (yB ["tables", "rules", "rows"] ds) S)
noncomputable def zAV : Rho → Sto → R Fl := (fun ρ S => (((((zE (ρ[2]?) S).bind fun p856 S857 => (R.ok [] S857).bind fun l858 S859 => .ok (p856 :: l858) S859).bind fun r854 S855 => zJ 1 zFA r854 S855).bind cC).bind fun k860 S861 => .ok (!k860) S861).bind fun k S1 => if k = true then ((fun _ _ => R.no)) ρ S1 else (fun ρ S => .ok (.next ρ) S) ρ S1)
noncomputable def cI : Rho → Sto → R Fl := (zAV)
noncomputable def cJ : AF := (fun ρ S => (((((zE (ρ[0]?) S).bind fun a b => (R.ok [] b).bind fun c d => .ok (a :: c) d).bind wX).bind fun e g => (R.ok (.val (.int 0)) g).bind fun h i => eqF e h i).bind asB).bind fun k j => if k = true then ((fun _ _ => R.no)) ρ j else (fun ρ S => .ok (.next ρ) S) ρ j)
noncomputable def cK : AF := (fun ρ S => (((zE (ρ[0]?) S).bind fun a b => (R.ok [] b).bind fun c d => .ok (a :: c) d).bind itE).bind fun k e => nI (gTp 2 (yS (gNm 1) (yS (gNm 2) bB))) (cI) k.gs k.ds ρ e)
noncomputable def bK : AF := zY (cJ) ((cK))
noncomputable def bL (ds : List MV) (S : Sto) : R Er := xM (bK (yB ["tables", "place", "table"] ds) S)
noncomputable def zCK : Rho → Sto → R Fl := (fun ρ S => (((((zE (ρ[3]?) S).bind fun p868 S869 => ((zE (ρ[0]?) S869).bind fun p872 S873 => (R.ok [] S873).bind fun l874 S875 => .ok (p872 :: l874) S875).bind fun l870 S871 => .ok (p868 :: l870) S871).bind fun r866 S867 => zJ 2 zJL r866 S867).bind cC).bind fun k876 S877 => .ok (!k876) S877).bind fun k S1 => if k = true then ((fun _ _ => R.no)) ρ S1 else (fun ρ S => .ok (.next ρ) S) ρ S1)
noncomputable def nK : Rho → Sto → R Fl := (zCK)
noncomputable def nL : AF := (fun ρ S => (((zE (ρ[1]?) S).bind fun a b => (R.ok [] b).bind fun c d => .ok (a :: c) d).bind itE).bind fun k e => nI (gTp 2 (yS (gNm 2) (yS (gNm 3) bB))) (nK) k.gs k.ds ρ e)
noncomputable def dO : AF := (nL)
noncomputable def dP (ds : List MV) (S : Sto) : R Er := xM (dO (yB ["tables", "rules", "place", "rule"] ds) S)
noncomputable def zEF : Rho → Sto → R Fl := (fun ρ S => (((((zE (ρ[3]?) S).bind fun p884 S885 => ((zE (ρ[0]?) S885).bind fun p888 S889 => (R.ok [] S889).bind fun l890 S891 => .ok (p888 :: l890) S891).bind fun l886 S887 => .ok (p884 :: l886) S887).bind fun r882 S883 => zJ 2 zLW r882 S883).bind cC).bind fun k892 S893 => .ok (!k892) S893).bind fun k S1 => if k = true then ((fun _ _ => R.no)) ρ S1 else (fun ρ S => .ok (.next ρ) S) ρ S1)
noncomputable def zAW : Rho → Sto → R Fl := (zEF)
noncomputable def cL : Rho → Sto → R Fl := (fun ρ S => (((zE (ρ[3]?) S).bind fun p898 S899 => (zE (ρ[4]?) S899).bind fun q900 S901 => yCW false p898 q900 S901).bind asB).bind fun k S1 => if k = true then ((fun _ _ => R.no)) ρ S1 else (fun ρ S => .ok (.next ρ) S) ρ S1)
noncomputable def cM : Rho → Sto → R Fl := (fun ρ S => (R.ok (.val (.bl true)) S).bind (yFA (fun d903 ρ S902 => (zE (ρ[4]?) S902).bind fun p905 S906 => (zE (ρ[3]?) S906).bind fun q907 S908 => zWJ p905 q907 d903 ρ S908) ρ))
noncomputable def bM : Rho → Sto → R Fl := zY (cL) ((cM))
noncomputable def zAX : AF := (fun ρ S => (((zE (ρ[1]?) S).bind fun a b => (R.ok [] b).bind fun c d => .ok (a :: c) d).bind itE).bind fun k e => nI (gTp 2 (yS (gNm 2) (yS (gNm 3) bB))) (zAW) k.gs k.ds ρ e)
noncomputable def zAY : AF := (fun ρ S => (yGE S).bind (xL ρ 4))
noncomputable def zAZ : AF := (fun ρ S => (((zE (ρ[1]?) S).bind fun a b => (R.ok [] b).bind fun c d => .ok (a :: c) d).bind itE).bind fun k e => nI (gTp 2 (yS (gNm 2) (yS (gNm 3) bB))) (bM) k.gs k.ds ρ e)
noncomputable def zAC : AF := zY (zAX) (zY (zAY) ((zAZ)))
noncomputable def zAD (ds : List MV) (S : Sto) : R Er := xM (zAC (yB ["tables", "rows", "place", "row", "seen"] ds) S)
noncomputable def zIA : AF := (fun ρ S => (((zE (ρ[0]?) S).bind fun a b => ((zE (ρ[1]?) b).bind fun c d => ((zE (ρ[2]?) d).bind fun e g => (R.ok [] g).bind fun h i => .ok (e :: h) i).bind fun j l => .ok (c :: j) l).bind fun m n => .ok (a :: m) n).bind fun o p => zJ 3 dN o p).bind fun _ q => .ok (.next ρ) q)
noncomputable def zIB : AF := (fun ρ S => (((zE (ρ[0]?) S).bind fun a b => (R.ok [] b).bind fun c d => .ok (a :: c) d).bind fun e g => zJ 1 bL e g).bind fun _ h => .ok (.next ρ) h)
noncomputable def zIC : AF := (fun ρ S => (((zE (ρ[0]?) S).bind fun a b => ((zE (ρ[1]?) b).bind fun c d => (R.ok [] d).bind fun e g => .ok (c :: e) g).bind fun h i => .ok (a :: h) i).bind fun j l => zJ 2 dP j l).bind fun _ m => .ok (.next ρ) m)
noncomputable def zID : AF := (fun ρ S => (((zE (ρ[0]?) S).bind fun a b => ((zE (ρ[2]?) b).bind fun c d => (R.ok [] d).bind fun e g => .ok (c :: e) g).bind fun h i => .ok (a :: h) i).bind fun j l => zJ 2 zAD j l).bind fun _ m => .ok (.next ρ) m)
noncomputable def zIE : AF := (fun ρ S => (((((zE (ρ[0]?) S).bind fun a b => (R.ok [] b).bind fun c d => .ok (a :: c) d).bind kI).bind fun e g => ((((zE (ρ[1]?) g).bind fun h i => (R.ok [] i).bind fun j l => .ok (h :: j) l).bind kI).bind fun m n => ((((zE (ρ[2]?) n).bind fun o p => (R.ok [] p).bind fun q s => .ok (o :: q) s).bind kI).bind fun t u => (R.ok [] u).bind fun v w => .ok (t :: v) w).bind fun x y => .ok (m :: x) y).bind fun z A => .ok (e :: z) A).bind nG).bind fun r B => .ok (.ret r) B)
noncomputable def zJM : AF := zY (zIA) (zY (zIB) (zY (zIC) (zY (zID) ((zIE)))))
noncomputable def cN (ds : List MV) (S : Sto) : R Er := xM (zJM (yB ["tables", "rules", "rows"] ds) S)
noncomputable def cO : AF := (fun ρ S => (((zE (ρ[1]?) S).bind fun a b => (((zE (ρ[0]?) b).bind fun c d => (R.ok [] d).bind fun e g => .ok (c :: e) g).bind wX).bind fun h i => ltF a h i).bind asB).bind fun k j => if k = true then ((fun ρ S => ((zE (ρ[0]?) S).bind fun l m => (zE (ρ[1]?) m).bind fun n o => ixF l n o).bind fun r j => .ok (.ret r) j)) ρ j else (fun ρ S => .ok (.next ρ) S) ρ j)
noncomputable def zNB : AF := (fun ρ S => (R.ok (.val (.int 0)) S).bind fun r a => .ok (.ret r) a)
noncomputable def bN : AF := zY (cO) ((zNB))
noncomputable def yT (ds : List MV) (S : Sto) : R Er := xM (bN (yB ["_law_script", "_law_k"] ds) S)
noncomputable def zFK : AF := (fun ρ S => ((((zE (ρ[0]?) S).bind fun a b => (R.ok (.val (.int 2)) b).bind fun c d => bD a c d).bind fun e g => (R.ok (.val (.int 0)) g).bind fun h i => eqF e h i).bind asB).bind fun k j => if k = true then ((fun ρ S => (((zE (ρ[0]?) S).bind fun l m => (R.ok (.val (.int 2)) m).bind fun n o => zBX l n o).bind fun p q => (((R.ok (.val (.int 10)) q).bind fun s t => (R.ok (.val (.int 60)) t).bind fun u v => zKK s u v).bind fun w x => (R.ok (.val (.int 10)) x).bind fun y z => zKK w y z).bind fun A B => bD p A B).bind fun r j => .ok (.ret r) j)) ρ j else (fun ρ S => .ok (.next ρ) S) ρ j)
noncomputable def zFL : AF := (fun ρ S => (((((zE (ρ[0]?) S).bind fun a b => (R.ok (.val (.int 2147483629)) b).bind fun c d => bD a c d).bind fun e g => (R.ok (.val (.int 7)) g).bind fun h i => cF e h i).bind fun j l => (R.ok (.val (.int 48271)) l).bind fun m n => zRJ j m n).bind fun o p => (zE (ρ[1]?) p).bind fun q s => bD o q s).bind (xL ρ 2))
noncomputable def zFM : AF := (fun ρ S => (((((zE (ρ[2]?) S).bind fun a b => (zE (ρ[2]?) b).bind fun c d => zRJ a c d).bind fun e g => (R.ok (.val (.int 2147483579)) g).bind fun h i => bD e h i).bind fun j l => (R.ok (.val (.int 1000003)) l).bind fun m n => zRJ j m n).bind fun o p => (zE (ρ[2]?) p).bind fun q s => cF o q s).bind fun r t => .ok (.ret r) t)
noncomputable def zFN : AF := zY (zFK) (zY (zFL) ((zFM)))
noncomputable def xH (ds : List MV) (S : Sto) : R Er := xM (zFN (yB ["_law_cell", "_law_prime", "_law_number"] ds) S)
noncomputable def nM : Rho → Sto → R Fl := (fun ρ S => ((zE (ρ[3]?) S).bind fun p1057 S1058 => ((zE (ρ[1]?) S1058).bind fun p1061 S1062 => ((zE (ρ[2]?) S1062).bind fun p1065 S1066 => (R.ok (.val (.int 26)) S1066).bind fun q1067 S1068 => bD p1065 q1067 S1068).bind fun q1063 S1064 => ixF p1061 q1063 S1064).bind fun q1059 S1060 => cF p1057 q1059 S1060).bind (xL ρ 3))
noncomputable def nN : Rho → Sto → R Fl := (fun ρ S => ((zE (ρ[2]?) S).bind fun p1069 S1070 => (R.ok (.val (.int 26)) S1070).bind fun q1071 S1072 => zBX p1069 q1071 S1072).bind (xL ρ 2))
noncomputable def dQ : Rho → Sto → R Fl := zY (nM) ((nN))
noncomputable def zJY : AF := (fun ρ S => (R.ok (.val (.str [97, 98, 99, 100, 101, 102, 103, 104, 105, 106, 107, 108, 109, 110, 111, 112, 113, 114, 115, 116, 117, 118, 119, 120, 121, 122])) S).bind (xL ρ 1))
noncomputable def zCS : AF := (fun ρ S => ((zE (ρ[0]?) S).bind fun a b => (R.ok (.val (.int 8)) b).bind fun c d => zBX a c d).bind (xL ρ 2))
noncomputable def zJZ : AF := (fun ρ S => (R.ok (.val (.str [])) S).bind (xL ρ 3))
noncomputable def zCT : AF := (fun ρ S => ((((R.ok (.val (.int 1)) S).bind fun a b => ((zE (ρ[0]?) b).bind fun c d => (R.ok (.val (.int 8)) d).bind fun e g => bD c e g).bind fun h i => cF a h i).bind fun j l => (R.ok [] l).bind fun m n => .ok (j :: m) n).bind zGO).bind fun k o => nI (gNm 4) (dQ) k.gs k.ds ρ o)
noncomputable def zRO : AF := (fun ρ S => (zE (ρ[3]?) S).bind fun r a => .ok (.ret r) a)
noncomputable def zIF : AF := zY (zJY) (zY (zCS) (zY (zJZ) (zY (zCT) ((zRO)))))
noncomputable def gQ (ds : List MV) (S : Sto) : R Er := xM (zIF (yB ["_law_cell", "_law_letters", "_law_number", "_law_name_here", "_law_k"] ds) S)
noncomputable def zCU : AF := (fun ρ S => (((zE (ρ[0]?) S).bind fun a b => ((R.ok (.val (.int 2147483587)) b).bind fun c d => (R.ok [] d).bind fun e g => .ok (c :: e) g).bind fun h i => .ok (a :: h) i).bind fun j l => zJ 2 xH j l).bind (xL ρ 1))
noncomputable def zKA : AF := (fun ρ S => (R.ok (.val (.str [97, 98, 99, 100, 101, 102, 103, 104, 105, 106, 107, 108, 109, 110, 111, 112, 113, 114, 115, 116, 117, 118, 119, 120, 121, 122])) S).bind (xL ρ 2))
noncomputable def zCV : AF := (fun ρ S => (((zE (ρ[1]?) S).bind fun a b => (R.ok [] b).bind fun c d => .ok (a :: c) d).bind fun e g => zJ 1 gQ e g).bind (xL ρ 3))
noncomputable def zCW : AF := (fun ρ S => ((zE (ρ[1]?) S).bind fun a b => ((R.ok (.val (.int 8)) b).bind fun c d => ((R.ok (.val (.int 26)) d).bind fun e g => (R.ok (.val (.int 8)) g).bind fun h i => zKK e h i).bind fun j l => zRJ c j l).bind fun m n => zBX a m n).bind (xL ρ 1))
noncomputable def zCX : AF := (fun ρ S => ((zE (ρ[1]?) S).bind fun a b => (((zE (ρ[3]?) b).bind fun c d => (R.ok [] d).bind fun e g => .ok (c :: e) g).bind wX).bind fun h i => bD a h i).bind (xL ρ 4))
noncomputable def zCY : AF := (fun ρ S => ((((zE (ρ[2]?) S).bind fun a b => if zPW a b = true then (((zE (ρ[3]?) b).bind fun c d => (zE (ρ[4]?) d).bind fun e g => ixF c e g).bind fun h i => (R.ok [] i).bind fun j l => .ok (h :: j) l).bind fun m n => zWC a m n else .no).bind fun o p => (R.ok (.val (.int 1)) p).bind fun q s => cF o q s).bind fun t u => (((zE (ρ[1]?) u).bind fun v w => (R.ok (.val (.int 8)) w).bind fun x y => zBX v x y).bind fun z A => (R.ok (.val (.int 25)) A).bind fun B D => bD z B D).bind fun G I => cF t G I).bind (xL ρ 5))
noncomputable def zCZ : AF := (fun ρ S => ((((zE (ρ[3]?) S).bind fun a b => (R.ok none b).bind fun c d => ((zE (ρ[4]?) d).bind asI).bind fun e g => zRL a c e g).bind fun h i => ((zE (ρ[2]?) i).bind fun j l => ((zE (ρ[5]?) l).bind fun m n => (R.ok (.val (.int 26)) n).bind fun o p => bD m o p).bind fun q s => ixF j q s).bind fun t u => cF h t u).bind fun v w => ((zE (ρ[3]?) w).bind fun x y => (((zE (ρ[4]?) y).bind fun z A => (R.ok (.val (.int 1)) A).bind fun B D => cF z B D).bind asI).bind fun G I => (R.ok none I).bind fun J L => zRL x G J L).bind fun M N => cF v M N).bind (xL ρ 6))
noncomputable def zDA : AF := (fun ρ S => ((zE (ρ[1]?) S).bind fun a b => (R.ok (.val (.int 200)) b).bind fun c d => zBX a c d).bind (xL ρ 1))
noncomputable def zDB : AF := (fun ρ S => (((((((zE (ρ[1]?) S).bind fun a b => ((R.ok (.val (.int 10)) b).bind fun c d => (R.ok (.val (.int 30)) d).bind fun e g => zKK c e g).bind fun h i => bD a h i).bind fun j l => (R.ok (.val (.int 48271)) l).bind fun m n => zRJ j m n).bind fun o p => (R.ok (.val (.int 11)) p).bind fun q s => cF o q s).bind fun t u => (R.ok (.val (.int 4)) u).bind fun v w => zKK t v w).bind fun x y => (((R.ok (.val (.int 10)) y).bind fun z A => (R.ok (.val (.int 30)) A).bind fun B D => zKK z B D).bind fun G I => (R.ok (.val (.int 3)) I).bind fun J L => zYO G J L).bind fun M N => bD x M N).bind fun O P => (R.ok (.val (.int 1)) P).bind fun Q T => cF O Q T).bind (xL ρ 7))
noncomputable def bO : AF := (fun ρ S => ((((zE (ρ[1]?) S).bind fun a b => (R.ok (.val (.int 2)) b).bind fun c d => bD a c d).bind fun e g => (R.ok (.val (.int 1)) g).bind fun h i => eqF e h i).bind asB).bind fun k j => if k = true then ((fun ρ S => ((((zE (ρ[1]?) S).bind fun l m => (R.ok (.val (.int 2)) m).bind fun n o => zBX l n o).bind fun p q => (((R.ok (.val (.int 10)) q).bind fun s t => (R.ok (.val (.int 30)) t).bind fun u v => zKK s u v).bind fun w x => (R.ok (.val (.int 3)) x).bind fun y z => zYO w y z).bind fun A B => bD p A B).bind fun D G => (R.ok (.val (.int 1)) G).bind fun I J => cF D I J).bind (xL ρ 7))) ρ j else (fun ρ S => .ok (.next ρ) S) ρ j)
noncomputable def zBA : AF := (fun ρ S => (((((zE (ρ[1]?) S).bind fun a b => (R.ok (.val (.int 64)) b).bind fun c d => zBX a c d).bind fun e g => (R.ok (.val (.int 5)) g).bind fun h i => bD e h i).bind fun j l => ((zE (ρ[7]?) l).bind fun m n => ((zE (ρ[3]?) n).bind fun o p => (((R.ok (.val (.int 0)) p).bind fun q s => (zE (ρ[7]?) s).bind fun t u => zYO q t u).bind fun v w => ((zE (ρ[6]?) w).bind fun x y => (((((zE (ρ[1]?) y).bind fun z A => (R.ok (.val (.int 320)) A).bind fun B D => zBX z B D).bind fun G I => (R.ok (.val (.int 5)) I).bind fun J L => bD G J L).bind fun M N => (R.ok (.val (.int 7)) N).bind fun O P => cF M O P).bind fun Q T => (((zE (ρ[7]?) T).bind fun U V => (R.ok (.val (.int 1)) V).bind fun X Y => cF U X Y).bind fun Z a0 => (R.ok [] a0).bind fun a1 a2 => .ok (Z :: a1) a2).bind fun a3 a4 => .ok (Q :: a3) a4).bind fun a5 a6 => .ok (x :: a5) a6).bind fun a7 a8 => .ok (v :: a7) a8).bind fun a9 b0 => .ok (o :: a9) b0).bind fun b1 b2 => .ok (m :: b1) b2).bind fun b3 b4 => .ok (j :: b3) b4).bind zBW).bind fun r b5 => .ok (.ret r) b5)
noncomputable def zIG : AF := zY (zCU) (zY (zKA) (zY (zCV) (zY (zCW) (zY (zCX) (zY (zCY) (zY (zCZ) (zY (zDA) (zY (zDB) (zY (bO) ((zBA)))))))))))
noncomputable def gR (ds : List MV) (S : Sto) : R Er := xM (zIG (yB ["_law_cell", "_law_number", "_law_letters", "_law_name_here", "_law_at", "_law_turned", "_law_other", "_law_great"] ds) S)
noncomputable def zEG (self : List MV → Sto → R Er) : Rho → Sto → R Bool := fun ρ S => (R.ok true S)
noncomputable def cP (self : List MV → Sto → R Er) : AE := fun ρ S => (((zE (ρ[0]?) S).bind fun a b => ((zE (ρ[1]?) b).bind fun c d => (R.ok [] d).bind fun e g => .ok (c :: e) g).bind fun h i => .ok (a :: h) i).bind fun j l => zJ 2 self j l)
noncomputable def wK (self : List MV → Sto → R Er) : AF := (fun ρ S => (((zE (ρ[1]?) S).bind fun a b => (R.ok (.val .non) b).bind fun c d => zTY a c d).bind asB).bind fun k e => if k = true then ((fun ρ S => ((zE (ρ[0]?) S).bind fun g h => (R.ok (.val .non) h).bind fun i j => zTY g i j).bind fun r e => .ok (.ret r) e)) ρ e else (fun ρ S => .ok (.next ρ) S) ρ e)
noncomputable def wL (self : List MV → Sto → R Er) : AF := (fun ρ S => ((((zE (ρ[1]?) S).bind fun a b => ((R.ok (.val (.typ "str")) b).bind fun c d => (R.ok [] d).bind fun e g => .ok (c :: e) g).bind fun h i => .ok (a :: h) i).bind bZ).bind cC).bind fun k j => if k = true then ((fun ρ S => ((((zE (ρ[0]?) S).bind fun l m => ((R.ok (.val (.typ "str")) m).bind fun n o => (R.ok [] o).bind fun p q => .ok (n :: p) q).bind fun s t => .ok (l :: s) t).bind bZ).bind fun u v => jV u v fun w => ((zE (ρ[0]?) w).bind fun x y => (zE (ρ[1]?) y).bind fun z A => eqF x z A)).bind fun r j => .ok (.ret r) j)) ρ j else (fun ρ S => .ok (.next ρ) S) ρ j)
noncomputable def jL (self : List MV → Sto → R Er) : AF := (fun ρ S => ((((zE (ρ[1]?) S).bind fun a b => ((R.ok (.val (.typ "int")) b).bind fun c d => (R.ok [] d).bind fun e g => .ok (c :: e) g).bind fun h i => .ok (a :: h) i).bind bZ).bind cC).bind fun k j => if k = true then ((fun ρ S => ((((zE (ρ[0]?) S).bind fun l m => ((R.ok (.val (.typ "int")) m).bind fun n o => (R.ok [] o).bind fun p q => .ok (n :: p) q).bind fun s t => .ok (l :: s) t).bind bZ).bind fun u v => jV u v fun w => (((((zE (ρ[0]?) w).bind fun x y => ((R.ok (.val (.typ "bool")) y).bind fun z A => (R.ok [] A).bind fun B D => .ok (z :: B) D).bind fun G I => .ok (x :: G) I).bind bZ).bind fun J L => (asB J L).bind fun M N => .ok (.val (.bl !M)) N).bind fun O P => jV O P fun Q => ((zE (ρ[0]?) Q).bind fun T U => (zE (ρ[1]?) U).bind fun V X => eqF T V X))).bind fun r j => .ok (.ret r) j)) ρ j else (fun ρ S => .ok (.next ρ) S) ρ j)
noncomputable def zBB (self : List MV → Sto → R Er) : AF := (fun ρ S => (((((zE (ρ[1]?) S).bind fun a b => ((R.ok (.val (.typ "list")) b).bind fun c d => (R.ok [] d).bind fun e g => .ok (c :: e) g).bind fun h i => .ok (a :: h) i).bind bZ).bind cC).bind fun j l => if j = true then (((((zE (ρ[0]?) l).bind fun m n => ((R.ok (.val (.typ "list")) n).bind fun o p => (R.ok [] p).bind fun q s => .ok (o :: q) s).bind fun t u => .ok (m :: t) u).bind bZ).bind cC).bind fun v w => .ok (!v) w) else .ok false l).bind fun k x => if k = true then ((fun ρ S => (R.ok (.val (.bl false)) S).bind fun r x => .ok (.ret r) x)) ρ x else (fun ρ S => .ok (.next ρ) S) ρ x)
noncomputable def zBC (self : List MV → Sto → R Er) : AF := (fun ρ S => (((((zE (ρ[1]?) S).bind fun a b => ((R.ok (.val (.typ "tuple")) b).bind fun c d => (R.ok [] d).bind fun e g => .ok (c :: e) g).bind fun h i => .ok (a :: h) i).bind bZ).bind cC).bind fun j l => if j = true then (((((zE (ρ[0]?) l).bind fun m n => ((R.ok (.val (.typ "tuple")) n).bind fun o p => (R.ok [] p).bind fun q s => .ok (o :: q) s).bind fun t u => .ok (m :: t) u).bind bZ).bind cC).bind fun v w => .ok (!v) w) else .ok false l).bind fun k x => if k = true then ((fun ρ S => (R.ok (.val (.bl false)) S).bind fun r x => .ok (.ret r) x)) ρ x else (fun ρ S => .ok (.next ρ) S) ρ x)
noncomputable def zIH (self : List MV → Sto → R Er) : AF := (fun ρ S => (((((zE (ρ[0]?) S).bind fun a b => (R.ok [] b).bind fun c d => .ok (a :: c) d).bind wX).bind fun e g => (((zE (ρ[1]?) g).bind fun h i => (R.ok [] i).bind fun j l => .ok (h :: j) l).bind wX).bind fun m n => eqF e m n).bind fun o p => jV o p fun q => ((((((zE (ρ[0]?) q).bind fun s t => ((zE (ρ[1]?) t).bind fun u v => (R.ok [] v).bind fun w x => .ok (u :: w) x).bind fun y z => .ok (s :: y) z).bind itZ).bind fun A B => if A.ds.length < 1000000 then (xW (gTp 2 (yS (gNm 0) (yS (gNm 1) bB))) (zEG self) (cP self) (blk 2 [] ρ) A.gs A.ds B).bind fun D G => .ok (.new D) G else .no).bind fun I J => (R.ok [] J).bind fun L M => .ok (I :: L) M).bind zRM)).bind fun r N => .ok (.ret r) N)
noncomputable def zAE (self : List MV → Sto → R Er) : AF := zY (wK self) (zY (wL self) (zY (jL self) (zY (zBB self) (zY (zBC self) ((zIH self))))))
noncomputable def zP : Nat → List MV → Sto → R Er
  | 0 => fun _ _ => .no
  | n + 1 => fun ds S => xM (zAE (zP n) (yB ["_law_told", "_law_due"] ds) S)
noncomputable def bP : Rho → Sto → R Fl := (fun ρ S => ((R.ok (.val (.int 1)) S).bind fun p1469 S1470 => ((zE (ρ[2]?) S1470).bind fun p1473 S1474 => (R.ok (.val (.int 4)) S1474).bind fun q1475 S1476 => bD p1473 q1475 S1476).bind fun q1471 S1472 => cF p1469 q1471 S1472).bind (xL ρ 6))
noncomputable def bQ : Rho → Sto → R Fl := (fun ρ S => ((zE (ρ[4]?) S).bind fun p1477 S1478 => if zCG p1477 S1478 = true then ((((zE (ρ[6]?) S1478).bind fun p1481 S1482 => ((((zE (ρ[2]?) S1482).bind fun p1485 S1486 => (R.ok (.val (.int 4)) S1486).bind fun q1487 S1488 => zBX p1485 q1487 S1488).bind fun p1489 S1490 => ((zE (ρ[6]?) S1490).bind fun p1493 S1494 => (R.ok (.val (.int 1)) S1494).bind fun q1495 S1496 => cF p1493 q1495 S1496).bind fun q1491 S1492 => bD p1489 q1491 S1492).bind fun p1497 S1498 => (R.ok [] S1498).bind fun l1499 S1500 => .ok (p1497 :: l1499) S1500).bind fun l1483 S1484 => .ok (p1481 :: l1483) S1484).bind nG).bind fun p1501 S1502 => (R.ok [] S1502).bind fun l1503 S1504 => .ok (p1501 :: l1503) S1504).bind fun r1479 S1480 => zWD p1477 r1479 S1480 else .no).bind fun _ S1 => .ok (.next ρ) S1)
noncomputable def bR : Rho → Sto → R Fl := (fun ρ S => ((zE (ρ[2]?) S).bind fun p1505 S1506 => (R.ok (.val (.int 20)) S1506).bind fun q1507 S1508 => zBX p1505 q1507 S1508).bind (xL ρ 2))
noncomputable def gH : Rho → Sto → R Fl := zY (bP) (zY (bQ) ((bR)))
noncomputable def nO : AF := (fun ρ S => (((zE (ρ[0]?) S).bind fun a b => ((R.ok (.val (.int 2147483629)) b).bind fun c d => (R.ok [] d).bind fun e g => .ok (c :: e) g).bind fun h i => .ok (a :: h) i).bind fun j l => zJ 2 xH j l).bind (xL ρ 2))
noncomputable def nP : AF := (fun ρ S => ((R.ok (.val (.int 1)) S).bind fun a b => ((zE (ρ[2]?) b).bind fun c d => (zE (ρ[1]?) d).bind fun e g => bD c e g).bind fun h i => cF a h i).bind (xL ρ 3))
noncomputable def nQ : AF := (fun ρ S => ((zE (ρ[2]?) S).bind fun a b => (zE (ρ[1]?) b).bind fun c d => zBX a c d).bind (xL ρ 2))
noncomputable def nR : AF := (fun ρ S => ((R.ok [] S).bind zBW).bind (xL ρ 4))
noncomputable def nS : AF := (fun ρ S => (((zE (ρ[3]?) S).bind fun a b => (R.ok [] b).bind fun c d => .ok (a :: c) d).bind zGO).bind fun k e => nI (gNm 5) (gH) k.gs k.ds ρ e)
noncomputable def nT : AF := (fun ρ S => (((zE (ρ[4]?) S).bind fun a b => (R.ok [] b).bind fun c d => .ok (a :: c) d).bind kI).bind fun r e => .ok (.ret r) e)
noncomputable def zDC : AF := zY (nO) (zY (nP) (zY (nQ) (zY (nR) (zY (nS) ((nT))))))
noncomputable def kX (ds : List MV) (S : Sto) : R Er := xM (zDC (yB ["_law_cell", "_law_most", "_law_number", "_law_many", "_law_tables_here", "_law_k", "_law_wide"] ds) S)
noncomputable def zBD : Rho → Sto → R Fl := (fun ρ S => ((zE (ρ[6]?) S).bind fun p1551 S1552 => if zCG p1551 S1552 = true then (((zE (ρ[2]?) S1552).bind fun p1555 S1556 => ((zE (ρ[4]?) S1556).bind fun p1559 S1560 => (zE (ρ[3]?) S1560).bind fun q1561 S1562 => bD p1559 q1561 S1562).bind fun q1557 S1558 => ixF p1555 q1557 S1558).bind fun p1563 S1564 => (R.ok [] S1564).bind fun l1565 S1566 => .ok (p1563 :: l1565) S1566).bind fun r1553 S1554 => zWD p1551 r1553 S1554 else .no).bind fun _ S1 => .ok (.next ρ) S1)
noncomputable def zBE : Rho → Sto → R Fl := (fun ρ S => ((zE (ρ[4]?) S).bind fun p1567 S1568 => (zE (ρ[3]?) S1568).bind fun q1569 S1570 => zBX p1567 q1569 S1570).bind (xL ρ 4))
noncomputable def zAF : Rho → Sto → R Fl := zY (zBD) ((zBE))
noncomputable def zFO : AF := (fun ρ S => (((zE (ρ[0]?) S).bind fun a b => ((R.ok (.val (.int 2147483563)) b).bind fun c d => (R.ok [] d).bind fun e g => .ok (c :: e) g).bind fun h i => .ok (a :: h) i).bind fun j l => zJ 2 xH j l).bind (xL ρ 4))
noncomputable def zFP : AF := (fun ρ S => ((zE (ρ[4]?) S).bind fun a b => (((zE (ρ[1]?) b).bind fun c d => (R.ok [] d).bind fun e g => .ok (c :: e) g).bind wX).bind fun h i => bD a h i).bind (xL ρ 5))
noncomputable def zFQ : AF := (fun ρ S => ((zE (ρ[4]?) S).bind fun a b => (((zE (ρ[1]?) b).bind fun c d => (R.ok [] d).bind fun e g => .ok (c :: e) g).bind wX).bind fun h i => zBX a h i).bind (xL ρ 4))
noncomputable def zFR : AF := (fun ρ S => ((R.ok [] S).bind zBW).bind (xL ρ 6))
noncomputable def zFS : AF := (fun ρ S => (((((zE (ρ[1]?) S).bind fun a b => (zE (ρ[5]?) b).bind fun c d => ixF a c d).bind fun e g => (R.ok (.val (.int 0)) g).bind fun h i => ixF e h i).bind fun j l => (R.ok [] l).bind fun m n => .ok (j :: m) n).bind zGO).bind fun k o => nI (gNm 7) (zAF) k.gs k.ds ρ o)
noncomputable def zFT : AF := (fun ρ S => (((zE (ρ[5]?) S).bind fun a b => ((((zE (ρ[6]?) b).bind fun c d => (R.ok [] d).bind fun e g => .ok (c :: e) g).bind kI).bind fun h i => (R.ok [] i).bind fun j l => .ok (h :: j) l).bind fun m n => .ok (a :: m) n).bind nG).bind fun r o => .ok (.ret r) o)
noncomputable def zKT : AF := zY (zFO) (zY (zFP) (zY (zFQ) (zY (zFR) (zY (zFS) ((zFT))))))
noncomputable def cQ (ds : List MV) (S : Sto) : R Er := xM (zKT (yB ["_law_cell", "_law_tables_here", "_law_pool_here", "_law_wide", "_law_number", "_law_t", "_law_cells", "_law_k"] ds) S)
noncomputable def nU : Rho → Sto → R Fl := (fun ρ S => (((zE (ρ[5]?) S).bind fun p1585 S1586 => ((zE (ρ[1]?) S1586).bind fun p1589 S1590 => ((zE (ρ[2]?) S1590).bind fun p1593 S1594 => ((zE (ρ[3]?) S1594).bind fun p1597 S1598 => (R.ok [] S1598).bind fun l1599 S1600 => .ok (p1597 :: l1599) S1600).bind fun l1595 S1596 => .ok (p1593 :: l1595) S1596).bind fun l1591 S1592 => .ok (p1589 :: l1591) S1592).bind fun l1587 S1588 => .ok (p1585 :: l1587) S1588).bind fun r1583 S1584 => zJ 4 cQ r1583 S1584).bind (xL ρ 6))
noncomputable def kU : Rho → Sto → R Fl := (fun ρ S => (((zE (ρ[6]?) S).bind fun p1601 S1602 => (zE (ρ[4]?) S1602).bind fun q1603 S1604 => inF true p1601 q1603 S1604).bind asB).bind fun k S1 => if k = true then ((fun ρ S => ((zE (ρ[4]?) S).bind fun p1605 S1606 => if zCG p1605 S1606 = true then ((zE (ρ[6]?) S1606).bind fun p1609 S1610 => (R.ok [] S1610).bind fun l1611 S1612 => .ok (p1609 :: l1611) S1612).bind fun r1607 S1608 => zWD p1605 r1607 S1608 else .no).bind fun _ S1 => .ok (.next ρ) S1)) ρ S1 else (fun ρ S => .ok (.next ρ) S) ρ S1)
noncomputable def hX : Rho → Sto → R Fl := zY (nU) ((kU))
noncomputable def zDD : AF := (fun ρ S => ((R.ok [] S).bind zBW).bind (xL ρ 4))
noncomputable def zDE : AF := (fun ρ S => ((zE (ρ[0]?) S).bind itL).bind fun k a => nI (gNm 5) (hX) k.gs k.ds ρ a)
noncomputable def zDF : AF := (fun ρ S => (((zE (ρ[4]?) S).bind fun a b => (R.ok [] b).bind fun c d => .ok (a :: c) d).bind kI).bind fun r e => .ok (.ret r) e)
noncomputable def zII : AF := zY (zDD) (zY (zDE) ((zDF)))
noncomputable def gS (ds : List MV) (S : Sto) : R Er := xM (zII (yB ["_law_cells", "_law_tables_here", "_law_pool_here", "_law_wide", "_law_rows_here", "_law_cell", "_law_row_here"] ds) S)
noncomputable def zDG : AF := (fun ρ S => (((zE (ρ[0]?) S).bind fun a b => (R.ok (.val (.int 0)) b).bind fun c d => ixF a c d).bind fun e g => (zE (ρ[1]?) g).bind fun h i => bD e h i).bind (xL ρ 2))
noncomputable def zDH : AF := (fun ρ S => (((zE (ρ[0]?) S).bind fun a b => (R.ok (.val (.int 0)) b).bind fun c d => ixF a c d).bind fun e g => (zE (ρ[1]?) g).bind fun h i => zBX e h i).bind (yFA (fun j ρ l => (zE (ρ[0]?) l).bind fun m n => (R.ok (.val (.int 0)) n).bind fun o p => zWE m o j ρ p) ρ))
noncomputable def zRP : AF := (fun ρ S => (zE (ρ[2]?) S).bind fun r a => .ok (.ret r) a)
noncomputable def zIJ : AF := zY (zDG) (zY (zDH) ((zRP)))
noncomputable def yE (ds : List MV) (S : Sto) : R Er := xM (zIJ (yB ["_law_state", "_law_size", "_law_found"] ds) S)
noncomputable def hZ : AF := (fun ρ S => (((((zE (ρ[0]?) S).bind fun a b => ((R.ok (.val (.int 4)) b).bind fun c d => (R.ok [] d).bind fun e g => .ok (c :: e) g).bind fun h i => .ok (a :: h) i).bind fun j l => zJ 2 yE j l).bind fun m n => (R.ok (.val (.int 0)) n).bind fun o p => eqF m o p).bind asB).bind fun k q => if k = true then ((fun ρ S => (((R.ok (.val (.str [105, 115])) S).bind fun s t => (((zE (ρ[3]?) t).bind fun u v => (((zE (ρ[0]?) v).bind fun w x => ((R.ok (.val (.int 7)) x).bind fun y z => (R.ok [] z).bind fun A B => .ok (y :: A) B).bind fun D G => .ok (w :: D) G).bind fun I J => zJ 2 yE I J).bind fun L M => ixF u L M).bind fun N O => (R.ok [] O).bind fun P Q => .ok (N :: P) Q).bind fun T U => .ok (s :: T) U).bind nG).bind fun r q => .ok (.ret r) q)) ρ q else (fun ρ S => .ok (.next ρ) S) ρ q)
noncomputable def zDI : AF := (fun ρ S => (((zE (ρ[0]?) S).bind fun a b => ((((zE (ρ[1]?) b).bind fun c d => (R.ok [] d).bind fun e g => .ok (c :: e) g).bind wX).bind fun h i => (R.ok [] i).bind fun j l => .ok (h :: j) l).bind fun m n => .ok (a :: m) n).bind fun o p => zJ 2 yE o p).bind (xL ρ 4))
noncomputable def zDJ : AF := (fun ρ S => (((R.ok (.val (.str [99, 101, 108, 108])) S).bind fun a b => ((zE (ρ[4]?) b).bind fun c d => ((((zE (ρ[0]?) d).bind fun e g => ((((zE (ρ[2]?) g).bind fun h i => ((zE (ρ[1]?) i).bind fun j l => (zE (ρ[4]?) l).bind fun m n => ixF j m n).bind fun o p => ixF h o p).bind fun q s => (R.ok (.val (.int 0)) s).bind fun t u => ixF q t u).bind fun v w => (R.ok [] w).bind fun x y => .ok (v :: x) y).bind fun z A => .ok (e :: z) A).bind fun B D => zJ 2 yE B D).bind fun G I => (R.ok [] I).bind fun J L => .ok (G :: J) L).bind fun M N => .ok (c :: M) N).bind fun O P => .ok (a :: O) P).bind nG).bind fun r Q => .ok (.ret r) Q)
noncomputable def zCL : AF := zY (hZ) (zY (zDI) ((zDJ)))
noncomputable def wR (ds : List MV) (S : Sto) : R Er := xM (zCL (yB ["_law_state", "_law_there", "_law_tables_here", "_law_pool_here", "_law_k"] ds) S)
noncomputable def cR : Rho → Sto → R Fl := (fun ρ S => ((((R.ok (.val (.str [115, 97, 109, 101])) S).bind fun p1766 S1767 => ((R.ok (.val (.str [117, 110, 108, 105, 107, 101])) S1767).bind fun p1770 S1771 => ((R.ok (.val (.str [108, 101, 115, 115])) S1771).bind fun p1774 S1775 => (R.ok [] S1775).bind fun l1776 S1777 => .ok (p1774 :: l1776) S1777).bind fun l1772 S1773 => .ok (p1770 :: l1772) S1773).bind fun l1768 S1769 => .ok (p1766 :: l1768) S1769).bind zBW).bind fun p1778 S1779 => (((zE (ρ[0]?) S1779).bind fun p1784 S1785 => ((R.ok (.val (.int 3)) S1785).bind fun p1788 S1789 => (R.ok [] S1789).bind fun l1790 S1791 => .ok (p1788 :: l1790) S1791).bind fun l1786 S1787 => .ok (p1784 :: l1786) S1787).bind fun r1782 S1783 => zJ 2 yE r1782 S1783).bind fun q1780 S1781 => ixF p1778 q1780 S1781).bind (xL ρ 6))
noncomputable def cS : Rho → Sto → R Fl := (fun ρ S => (((zE (ρ[0]?) S).bind fun p1794 S1795 => ((zE (ρ[1]?) S1795).bind fun p1798 S1799 => ((zE (ρ[2]?) S1799).bind fun p1802 S1803 => ((zE (ρ[3]?) S1803).bind fun p1806 S1807 => (R.ok [] S1807).bind fun l1808 S1809 => .ok (p1806 :: l1808) S1809).bind fun l1804 S1805 => .ok (p1802 :: l1804) S1805).bind fun l1800 S1801 => .ok (p1798 :: l1800) S1801).bind fun l1796 S1797 => .ok (p1794 :: l1796) S1797).bind fun r1792 S1793 => zJ 4 wR r1792 S1793).bind (xL ρ 7))
noncomputable def cT : Rho → Sto → R Fl := (fun ρ S => ((zE (ρ[4]?) S).bind fun p1810 S1811 => if zCG p1810 S1811 = true then ((((zE (ρ[7]?) S1811).bind fun p1814 S1815 => ((zE (ρ[6]?) S1815).bind fun p1818 S1819 => ((((zE (ρ[0]?) S1819).bind fun p1824 S1825 => ((zE (ρ[1]?) S1825).bind fun p1828 S1829 => ((zE (ρ[2]?) S1829).bind fun p1832 S1833 => ((zE (ρ[3]?) S1833).bind fun p1836 S1837 => (R.ok [] S1837).bind fun l1838 S1839 => .ok (p1836 :: l1838) S1839).bind fun l1834 S1835 => .ok (p1832 :: l1834) S1835).bind fun l1830 S1831 => .ok (p1828 :: l1830) S1831).bind fun l1826 S1827 => .ok (p1824 :: l1826) S1827).bind fun r1822 S1823 => zJ 4 wR r1822 S1823).bind fun p1840 S1841 => (R.ok [] S1841).bind fun l1842 S1843 => .ok (p1840 :: l1842) S1843).bind fun l1820 S1821 => .ok (p1818 :: l1820) S1821).bind fun l1816 S1817 => .ok (p1814 :: l1816) S1817).bind nG).bind fun p1844 S1845 => (R.ok [] S1845).bind fun l1846 S1847 => .ok (p1844 :: l1846) S1847).bind fun r1812 S1813 => zWD p1810 r1812 S1813 else .no).bind fun _ S1 => .ok (.next ρ) S1)
noncomputable def bS : Rho → Sto → R Fl := zY (cR) (zY (cS) ((cT)))
noncomputable def zBF : AF := (fun ρ S => ((R.ok [] S).bind zBW).bind (xL ρ 4))
noncomputable def zBG : AF := (fun ρ S => ((((((R.ok (.val (.int 1)) S).bind fun a b => ((R.ok (.val (.int 1)) b).bind fun c d => ((R.ok (.val (.int 2)) d).bind fun e g => ((R.ok (.val (.int 1)) g).bind fun h i => ((R.ok (.val (.int 2)) i).bind fun j l => ((R.ok (.val (.int 3)) l).bind fun m n => (R.ok [] n).bind fun o p => .ok (m :: o) p).bind fun q s => .ok (j :: q) s).bind fun t u => .ok (h :: t) u).bind fun v w => .ok (e :: v) w).bind fun x y => .ok (c :: x) y).bind fun z A => .ok (a :: z) A).bind zBW).bind fun B D => (((zE (ρ[0]?) D).bind fun G I => ((R.ok (.val (.int 6)) I).bind fun J L => (R.ok [] L).bind fun M N => .ok (J :: M) N).bind fun O P => .ok (G :: O) P).bind fun Q T => zJ 2 yE Q T).bind fun U V => ixF B U V).bind fun X Y => (R.ok [] Y).bind fun Z a0 => .ok (X :: Z) a0).bind zGO).bind fun k a1 => nI (gNm 5) (bS) k.gs k.ds ρ a1)
noncomputable def zBH : AF := (fun ρ S => (((zE (ρ[4]?) S).bind fun a b => (R.ok [] b).bind fun c d => .ok (a :: c) d).bind kI).bind fun r e => .ok (.ret r) e)
noncomputable def zFU : AF := zY (zBF) (zY (zBG) ((zBH)))
noncomputable def wH (ds : List MV) (S : Sto) : R Er := xM (zFU (yB ["_law_state", "_law_there", "_law_tables_here", "_law_pool_here", "_law_tests_here", "_law_k", "_law_word", "_law_left"] ds) S)
noncomputable def zGV : Rho → Sto → R Bool := fun ρ S => (R.ok true S)
noncomputable def gI : AE := fun ρ S => (((zE (ρ[2]?) S).bind fun a b => ((((zE (ρ[1]?) b).bind fun c d => (zE (ρ[3]?) d).bind fun e g => ixF c e g).bind fun h i => (R.ok (.val (.int 0)) i).bind fun j l => ixF h j l).bind fun m n => (R.ok [] n).bind fun o p => .ok (m :: o) p).bind fun q s => .ok (a :: q) s).bind fun t u => zJ 2 yE t u)
noncomputable def zGW : Rho → Sto → R Bool := fun ρ S => (R.ok true S)
noncomputable def gJ : AE := fun ρ S => (((zE (ρ[2]?) S).bind fun a b => ((((zE (ρ[1]?) b).bind fun c d => (zE (ρ[3]?) d).bind fun e g => ixF c e g).bind fun h i => (R.ok (.val (.int 0)) i).bind fun j l => ixF h j l).bind fun m n => (R.ok [] n).bind fun o p => .ok (m :: o) p).bind fun q s => .ok (a :: q) s).bind fun t u => zJ 2 yE t u)
noncomputable def zDK : AF := (fun ρ S => (((((zE (ρ[0]?) S).bind fun a b => ((R.ok (.val (.int 2147483543)) b).bind fun c d => (R.ok [] d).bind fun e g => .ok (c :: e) g).bind fun h i => .ok (a :: h) i).bind fun j l => zJ 2 xH j l).bind fun m n => (R.ok [] n).bind fun o p => .ok (m :: o) p).bind zBW).bind (xL ρ 3))
noncomputable def zDL : AF := (fun ρ S => (((zE (ρ[3]?) S).bind fun a b => ((R.ok (.val (.int 4)) b).bind fun c d => (R.ok [] d).bind fun e g => .ok (c :: e) g).bind fun h i => .ok (a :: h) i).bind fun j l => zJ 2 yE j l).bind (xL ρ 4))
noncomputable def zDM : AF := (fun ρ S => (((zE (ρ[3]?) S).bind fun a b => ((((zE (ρ[1]?) b).bind fun c d => (R.ok [] d).bind fun e g => .ok (c :: e) g).bind wX).bind fun h i => (R.ok [] i).bind fun j l => .ok (h :: j) l).bind fun m n => .ok (a :: m) n).bind fun o p => zJ 2 yE o p).bind (xL ρ 5))
noncomputable def zDN : AF := (fun ρ S => (((zE (ρ[3]?) S).bind fun a b => ((((zE (ρ[1]?) b).bind fun c d => (R.ok [] d).bind fun e g => .ok (c :: e) g).bind wX).bind fun h i => (R.ok [] i).bind fun j l => .ok (h :: j) l).bind fun m n => .ok (a :: m) n).bind fun o p => zJ 2 yE o p).bind (xL ρ 6))
noncomputable def gA : AF := (fun ρ S => (((zE (ρ[4]?) S).bind fun a b => (R.ok (.val (.int 0)) b).bind fun c d => eqF a c d).bind asB).bind fun k e => if k = true then ((fun ρ S => (((R.ok (.val (.str [110, 101, 118, 101, 114])) S).bind fun g h => ((zE (ρ[5]?) h).bind fun i j => ((((zE (ρ[3]?) j).bind fun l m => ((((zE (ρ[5]?) m).bind fun n o => (R.ok [] o).bind fun p q => .ok (n :: p) q).bind nG).bind fun s t => ((zE (ρ[1]?) t).bind fun u v => ((zE (ρ[2]?) v).bind fun w x => (R.ok [] x).bind fun y z => .ok (w :: y) z).bind fun A B => .ok (u :: A) B).bind fun D G => .ok (s :: D) G).bind fun I J => .ok (l :: I) J).bind fun L M => zJ 4 wH L M).bind fun N O => (R.ok [] O).bind fun P Q => .ok (N :: P) Q).bind fun T U => .ok (i :: T) U).bind fun V X => .ok (g :: V) X).bind nG).bind fun r e => .ok (.ret r) e)) ρ e else (fun ρ S => .ok (.next ρ) S) ρ e)
noncomputable def gB : AF := (fun ρ S => (((zE (ρ[4]?) S).bind fun a b => (R.ok (.val (.int 3)) b).bind fun c d => ltF a c d).bind asB).bind fun k e => if k = true then ((fun ρ S => (((R.ok (.val (.str [97, 112, 97, 114, 116])) S).bind fun g h => ((zE (ρ[5]?) h).bind fun i j => ((zE (ρ[6]?) j).bind fun l m => ((((zE (ρ[3]?) m).bind fun n o => ((((zE (ρ[5]?) o).bind fun p q => ((zE (ρ[6]?) q).bind fun s t => (R.ok [] t).bind fun u v => .ok (s :: u) v).bind fun w x => .ok (p :: w) x).bind nG).bind fun y z => ((zE (ρ[1]?) z).bind fun A B => ((zE (ρ[2]?) B).bind fun D G => (R.ok [] G).bind fun I J => .ok (D :: I) J).bind fun L M => .ok (A :: L) M).bind fun N O => .ok (y :: N) O).bind fun P Q => .ok (n :: P) Q).bind fun T U => zJ 4 wH T U).bind fun V X => (R.ok [] X).bind fun Y Z => .ok (V :: Y) Z).bind fun a0 a1 => .ok (l :: a0) a1).bind fun a2 a3 => .ok (i :: a2) a3).bind fun a4 a5 => .ok (g :: a4) a5).bind nG).bind fun r e => .ok (.ret r) e)) ρ e else (fun ρ S => .ok (.next ρ) S) ρ e)
noncomputable def zDO : AF := (fun ρ S => ((((R.ok (.val (.int 1)) S).bind fun a b => ((R.ok (.val (.int 2)) b).bind fun c d => ((R.ok (.val (.int 1)) d).bind fun e g => ((R.ok (.val (.int 3)) g).bind fun h i => ((R.ok (.val (.int 1)) i).bind fun j l => (R.ok [] l).bind fun m n => .ok (j :: m) n).bind fun o p => .ok (h :: o) p).bind fun q s => .ok (e :: q) s).bind fun t u => .ok (c :: t) u).bind fun v w => .ok (a :: v) w).bind zBW).bind fun x y => (((zE (ρ[3]?) y).bind fun z A => ((R.ok (.val (.int 5)) A).bind fun B D => (R.ok [] D).bind fun G I => .ok (B :: G) I).bind fun J L => .ok (z :: J) L).bind fun M N => zJ 2 yE M N).bind fun O P => ixF x O P).bind (xL ρ 7))
noncomputable def zDP : AF := (fun ρ S => ((((((zE (ρ[7]?) S).bind fun a b => (R.ok [] b).bind fun c d => .ok (a :: c) d).bind zGO).bind fun e g => if e.ds.length < 1000000 then (xW (gNm 0) (zGV) (gI) (blk 1 [1, 3, 5] ρ) e.gs e.ds g).bind fun h i => .ok (.new h) i else .no).bind fun j l => (R.ok [] l).bind fun m n => .ok (j :: m) n).bind kI).bind (xL ρ 8))
noncomputable def zDQ : AF := (fun ρ S => (((R.ok (.val (.str [116, 105, 101])) S).bind fun a b => ((zE (ρ[5]?) b).bind fun c d => ((zE (ρ[8]?) d).bind fun e g => ((zE (ρ[6]?) g).bind fun h i => (((((((zE (ρ[7]?) i).bind fun j l => (R.ok [] l).bind fun m n => .ok (j :: m) n).bind zGO).bind fun o p => if o.ds.length < 1000000 then (xW (gNm 0) (zGW) (gJ) (blk 1 [1, 3, 6] ρ) o.gs o.ds p).bind fun q s => .ok (.new q) s else .no).bind fun t u => (R.ok [] u).bind fun v w => .ok (t :: v) w).bind kI).bind fun x y => (R.ok [] y).bind fun z A => .ok (x :: z) A).bind fun B D => .ok (h :: B) D).bind fun G I => .ok (e :: G) I).bind fun J L => .ok (c :: J) L).bind fun M N => .ok (a :: M) N).bind nG).bind fun r O => .ok (.ret r) O)
noncomputable def dU : AF := zY (zDK) (zY (zDL) (zY (zDM) (zY (zDN) (zY (gA) (zY (gB) (zY (zDO) (zY (zDP) ((zDQ)))))))))
noncomputable def wS (ds : List MV) (S : Sto) : R Er := xM (dU (yB ["_law_cell", "_law_tables_here", "_law_pool_here", "_law_state", "_law_kind", "_law_t", "_law_u", "_law_many", "_law_columns"] ds) S)
noncomputable def zSX : Rho → Sto → R Bool := fun ρ S => (R.ok true S)
noncomputable def zNC : AE := fun ρ S => (((((zE (ρ[1]?) S).bind fun a b => (((R.ok (.val (.int 3)) b).bind fun c d => (zE (ρ[0]?) d).bind fun e g => cF c e g).bind fun h i => (R.ok [] i).bind fun j l => .ok (h :: j) l).bind fun m n => .ok (a :: m) n).bind fun o p => zJ 2 yT o p).bind fun q s => ((zE (ρ[3]?) s).bind fun t u => ((zE (ρ[2]?) u).bind fun v w => (R.ok [] w).bind fun x y => .ok (v :: x) y).bind fun z A => .ok (t :: z) A).bind fun B D => .ok (q :: B) D).bind fun G I => zJ 3 wS G I)
noncomputable def zSY : Rho → Sto → R Bool := fun ρ S => (R.ok true S)
noncomputable def zND : AE := fun ρ S => ((zE (ρ[1]?) S).bind fun a b => ((((zE (ρ[2]?) b).bind fun c d => (R.ok (.val (.int 672)) d).bind fun e g => zBX c e g).bind fun h i => (zE (ρ[0]?) i).bind fun j l => cF h j l).bind fun m n => (R.ok (.val (.int 7)) n).bind fun o p => bD m o p).bind fun q s => ixF a q s)
noncomputable def zSZ : Rho → Sto → R Bool := fun ρ S => (R.ok true S)
noncomputable def zNE : AE := fun ρ S => (((R.ok (.val (.int 0)) S).bind fun a b => ((((((zE (ρ[0]?) b).bind fun c d => (R.ok (.val (.int 30)) d).bind fun e g => zYO c e g).bind fun h i => (R.ok [] i).bind fun j l => .ok (h :: j) l).bind nG).bind fun m n => (zE (ρ[1]?) n).bind fun o p => cF m o p).bind fun q s => (R.ok [] s).bind fun t u => .ok (q :: t) u).bind fun v w => .ok (a :: v) w).bind nG)
noncomputable def zUI : AF := (fun ρ S => (((((zE (ρ[0]?) S).bind fun a b => ((R.ok (.val (.int 0)) b).bind fun c d => (R.ok [] d).bind fun e g => .ok (c :: e) g).bind fun h i => .ok (a :: h) i).bind fun j l => zJ 2 yT j l).bind fun m n => (R.ok [] n).bind fun o p => .ok (m :: o) p).bind fun q s => zJ 1 gR q s).bind (xL ρ 1))
noncomputable def zUJ : AF := (fun ρ S => (((((zE (ρ[0]?) S).bind fun a b => ((R.ok (.val (.int 1)) b).bind fun c d => (R.ok [] d).bind fun e g => .ok (c :: e) g).bind fun h i => .ok (a :: h) i).bind fun j l => zJ 2 yT j l).bind fun m n => ((R.ok (.val (.int 4)) n).bind fun o p => (R.ok [] p).bind fun q s => .ok (o :: q) s).bind fun t u => .ok (m :: t) u).bind fun v w => zJ 2 kX v w).bind (xL ρ 2))
noncomputable def zUK : AF := (fun ρ S => (((zE (ρ[0]?) S).bind fun a b => ((R.ok (.val (.int 2)) b).bind fun c d => (R.ok [] d).bind fun e g => .ok (c :: e) g).bind fun h i => .ok (a :: h) i).bind fun j l => zJ 2 yT j l).bind (xL ρ 3))
noncomputable def zUL : AF := (fun ρ S => (((((((zE (ρ[3]?) S).bind fun a b => (R.ok (.val (.int 7)) b).bind fun c d => bD a c d).bind fun e g => (R.ok [] g).bind fun h i => .ok (e :: h) i).bind zGO).bind fun j l => if j.ds.length < 1000000 then (xW (gNm 0) (zSX) (zNC) (blk 1 [0, 1, 2] ρ) j.gs j.ds l).bind fun m n => .ok (.new m) n else .no).bind fun o p => (R.ok [] p).bind fun q s => .ok (o :: q) s).bind kI).bind (xL ρ 4))
noncomputable def zUM : AF := (fun ρ S => ((((zE (ρ[0]?) S).bind fun a b => ((R.ok (.val (.int 9)) b).bind asI).bind fun c d => ((R.ok (.val (.int 59)) d).bind asI).bind fun e g => zRL a c e g).bind fun h i => ((zE (ρ[2]?) i).bind fun j l => ((zE (ρ[1]?) l).bind fun m n => (((R.ok (.val (.int 2)) n).bind fun o p => (((zE (ρ[3]?) p).bind fun q s => (R.ok (.val (.int 7)) s).bind fun t u => zBX q t u).bind fun v w => (R.ok (.val (.int 6)) w).bind fun x y => bD v x y).bind fun z A => cF o z A).bind fun B D => (R.ok [] D).bind fun G I => .ok (B :: G) I).bind fun J L => .ok (m :: J) L).bind fun M N => .ok (j :: M) N).bind fun O P => .ok (h :: O) P).bind fun Q T => zJ 4 gS Q T).bind (xL ρ 5))
noncomputable def zOP : AF := (fun ρ S => (((((zE (ρ[3]?) S).bind fun a b => (R.ok (.val (.int 84)) b).bind fun c d => zBX a c d).bind fun e g => (R.ok (.val (.int 8)) g).bind fun h i => bD e h i).bind fun j l => (R.ok (.val (.int 5)) l).bind fun m n => eqF j m n).bind asB).bind fun k o => if k = true then (zY (fun ρ S => (((((((((zE (ρ[2]?) S).bind fun p q => (R.ok (.val (.int 0)) q).bind fun s t => ixF p s t).bind fun u v => (R.ok (.val (.int 0)) v).bind fun w x => ixF u w x).bind fun y z => (R.ok (.val (.int 1)) z).bind fun A B => zYO y A B).bind fun D G => (R.ok [] G).bind fun I J => .ok (D :: I) J).bind zGO).bind fun L M => if L.ds.length < 1000000 then (xW (gNm 0) (zSY) (zND) (blk 1 [1, 3] ρ) L.gs L.ds M).bind fun N O => .ok (.new N) O else .no).bind fun P Q => (R.ok [] Q).bind fun T U => .ok (P :: T) U).bind kI).bind (xL ρ 6)) ((fun ρ S => ((((((R.ok (.val (.int 60)) S).bind fun V X => (R.ok [] X).bind fun Y Z => .ok (V :: Y) Z).bind zGO).bind fun a0 a1 => if a0.ds.length < 1000000 then (xW (gNm 0) (zSZ) (zNE) (blk 1 [6] ρ) a0.gs a0.ds a1).bind fun a2 a3 => .ok (.new a2) a3 else .no).bind fun a4 a5 => (R.ok [] a5).bind fun a6 a7 => .ok (a4 :: a6) a7).bind kI).bind (xL ρ 5)))) ρ o else (fun ρ S => .ok (.next ρ) S) ρ o)
noncomputable def zOQ : AF := (fun ρ S => (((zE (ρ[2]?) S).bind fun a b => ((zE (ρ[4]?) b).bind fun c d => ((zE (ρ[5]?) d).bind fun e g => (R.ok [] g).bind fun h i => .ok (e :: h) i).bind fun j l => .ok (c :: j) l).bind fun m n => .ok (a :: m) n).bind nG).bind (xL ρ 7))
noncomputable def zOR : AF := (fun ρ S => (((((zE (ρ[2]?) S).bind fun a b => (R.ok [] b).bind fun c d => .ok (a :: c) d).bind zHM).bind fun e g => ((((zE (ρ[4]?) g).bind fun h i => (R.ok [] i).bind fun j l => .ok (h :: j) l).bind zHM).bind fun m n => ((((zE (ρ[5]?) n).bind fun o p => (R.ok [] p).bind fun q s => .ok (o :: q) s).bind zHM).bind fun t u => (R.ok [] u).bind fun v w => .ok (t :: v) w).bind fun x y => .ok (m :: x) y).bind fun z A => .ok (e :: z) A).bind zBW).bind (xL ρ 8))
noncomputable def zOS : AF := (fun ρ S => (((((zE (ρ[3]?) S).bind fun a b => (R.ok (.val (.int 42)) b).bind fun c d => zBX a c d).bind fun e g => (R.ok (.val (.int 2)) g).bind fun h i => bD e h i).bind fun j l => (R.ok (.val (.int 1)) l).bind fun m n => eqF j m n).bind asB).bind fun k o => if k = true then ((fun ρ S => (((zE (ρ[2]?) S).bind fun p q => ((zE (ρ[4]?) q).bind fun s t => ((zE (ρ[5]?) t).bind fun u v => (R.ok [] v).bind fun w x => .ok (u :: w) x).bind fun y z => .ok (s :: y) z).bind fun A B => .ok (p :: A) B).bind fun D G => zJ 3 cN D G).bind (xL ρ 9))) ρ o else ((fun ρ S => ((((zE (ρ[8]?) S).bind fun I J => (R.ok (.val (.int 0)) J).bind fun L M => ixF I L M).bind fun N O => (((zE (ρ[8]?) O).bind fun P Q => (R.ok (.val (.int 1)) Q).bind fun T U => ixF P T U).bind fun V X => (((zE (ρ[8]?) X).bind fun Y Z => (R.ok (.val (.int 2)) Z).bind fun a0 a1 => ixF Y a0 a1).bind fun a2 a3 => (R.ok [] a3).bind fun a4 a5 => .ok (a2 :: a4) a5).bind fun a6 a7 => .ok (V :: a6) a7).bind fun a8 a9 => .ok (N :: a8) a9).bind fun b0 b1 => zJ 3 cN b0 b1).bind (xL ρ 9))) ρ o)
noncomputable def zLX : AF := (fun ρ S => ((((((zE (ρ[9]?) S).bind fun a b => ((zE (ρ[7]?) b).bind fun c d => (R.ok [] d).bind fun e g => .ok (c :: e) g).bind fun h i => .ok (a :: h) i).bind fun j l => zJ 2 (zP 8) j l).bind cC).bind fun m n => .ok (!m) n).bind fun o p => if o = true then .ok true p else (((zE (ρ[8]?) p).bind fun q s => (((((zE (ρ[2]?) s).bind fun t u => (R.ok [] u).bind fun v w => .ok (t :: v) w).bind zHM).bind fun x y => ((((zE (ρ[4]?) y).bind fun z A => (R.ok [] A).bind fun B D => .ok (z :: B) D).bind zHM).bind fun G I => ((((zE (ρ[5]?) I).bind fun J L => (R.ok [] L).bind fun M N => .ok (J :: M) N).bind zHM).bind fun O P => (R.ok [] P).bind fun Q T => .ok (O :: Q) T).bind fun U V => .ok (G :: U) V).bind fun X Y => .ok (x :: X) Y).bind zBW).bind fun Z a0 => neF q Z a0).bind asB)).bind fun k a1 => if k = true then ((fun ρ S => (R.ok (.val (.bl false)) S).bind fun r a1 => .ok (.ret r) a1)) ρ a1 else (fun ρ S => .ok (.next ρ) S) ρ a1)
noncomputable def zLY : AF := (fun ρ S => (((zE (ρ[8]?) S).bind fun a b => (R.ok (.val (.int 0)) b).bind fun c d => ixF a c d).bind fun e g => if zCG e g = true then ((((R.ok (.val (.int 1)) g).bind fun h i => ((R.ok (.val (.int 1)) i).bind fun j l => (R.ok [] l).bind fun m n => .ok (j :: m) n).bind fun o p => .ok (h :: o) p).bind nG).bind fun q s => (R.ok [] s).bind fun t u => .ok (q :: t) u).bind fun v w => zWD e v w else .no).bind fun _ x => .ok (.next ρ) x)
noncomputable def zLZ : AF := (fun ρ S => (((zE (ρ[8]?) S).bind fun a b => (R.ok (.val (.int 1)) b).bind fun c d => ixF a c d).bind fun e g => if zCG e g = true then yFO e [] g else .no).bind fun _ h => .ok (.next ρ) h)
noncomputable def zMA : AF := (fun ρ S => (((zE (ρ[8]?) S).bind fun a b => (R.ok (.val (.int 2)) b).bind fun c d => ixF a c d).bind fun e g => if zCG e g = true then yFQ e [] g else .no).bind fun _ h => .ok (.next ρ) h)
noncomputable def zQC : AF := (fun ρ S => ((((zE (ρ[9]?) S).bind fun a b => ((zE (ρ[7]?) b).bind fun c d => (R.ok [] d).bind fun e g => .ok (c :: e) g).bind fun h i => .ok (a :: h) i).bind fun j l => zJ 2 (zP 8) j l).bind fun m n => jV m n fun o => ((((((zE (ρ[9]?) o).bind fun p q => (R.ok (.val (.int 0)) q).bind fun s t => ixF p s t).bind fun u v => (((zE (ρ[9]?) v).bind fun w x => (R.ok (.val (.int 1)) x).bind fun y z => ixF w y z).bind fun A B => (((zE (ρ[9]?) B).bind fun D G => (R.ok (.val (.int 2)) G).bind fun I J => ixF D I J).bind fun L M => (R.ok [] M).bind fun N O => .ok (L :: N) O).bind fun P Q => .ok (A :: P) Q).bind fun T U => .ok (u :: T) U).bind fun V X => zJ 3 cN V X).bind fun Y Z => ((zE (ρ[7]?) Z).bind fun a0 a1 => (R.ok [] a1).bind fun a2 a3 => .ok (a0 :: a2) a3).bind fun a4 a5 => .ok (Y :: a4) a5).bind fun a6 a7 => zJ 2 (zP 8) a6 a7)).bind fun r a8 => .ok (.ret r) a8)
noncomputable def yGI : AF := zY (zUI) (zY (zUJ) (zY (zUK) (zY (zUL) (zY (zUM) (zY (zOP) (zY (zOQ) (zY (zOR) (zY (zOS) (zY (zLX) (zY (zLY) (zY (zLZ) (zY (zMA) ((zQC))))))))))))))
noncomputable def zTA (ds : List MV) (S : Sto) : R Er := xM (yGI (yB ["_law_script", "_law_pool_here", "_law_tables_here", "_law_head", "_law_rules", "_law_rows_here", "_law_more", "_law_due", "_law_handed", "_law_book"] ds) S)
end
noncomputable def abc : List Nat := [97, 98, 99, 100, 101, 102, 103, 104, 105, 106, 107, 108, 109, 110, 111, 112, 113, 114, 115, 116, 117, 118, 119, 120, 121, 122]
theorem yCY (c n : Int) (x : List Nat) (s : Option MV) (S : Sto) (h : x.length ≤ 1000) : ∃ k, (97 ≤ k ∧ k ≤ 122) ∧ dQ [some (.int c), some (.str abc), some (.int n), some (.str x), s] S =
    .ok (.next [some (.int c), some (.str abc), some (.int (n / 26)), some (.str (x ++ [k])), s]) S := by
  obtain ⟨k, hk⟩ := dG (xs := abc) (i := n % 26) (Int.emod_nonneg _ (by decide)) (by have := Int.emod_lt_of_pos n (show (0 : Int) < 26 by decide); show n % 26 < 26; exact this)
  refine ⟨k, dH (P := fun k => 97 ≤ k ∧ k ≤ 122) (by decide) hk, ?_⟩
  have h1 : nM [some (.int c), some (.str abc), some (.int n), some (.str x), s] S = .ok (.next [some (.int c), some (.str abc), some (.int n), some (.str (x ++ [k])), s]) S := by
    unfold nM
    simp? [mod_lit (show (0 : Int) < 26 by decide), ix_str (show abc.length ≤ sizeLine by rw [sizeLine_eq]; decide) hk]
    rw [add_str (fits (by rw [List.length_singleton]; (first | lia | omega)))]
    rfl
  have h2 : nN [some (.int c), some (.str abc), some (.int n), some (.str (x ++ [k])), s] S = .ok (.next [some (.int c), some (.str abc), some (.int (n / 26)), some (.str (x ++ [k])), s]) S := by
    unfold nN
    simp? [wN (show (0 : Int) < 26 by decide) (show (26 : Int) < 1073741824 by decide)]
  unfold dQ
  rw [zF h1, h2]
theorem zTB (c : Int) (S : Sto) : ∀ (ds : List MV) (n : Int) (x : List Nat) (s : Option MV), x.length + ds.length ≤ 1000 → (∀ c ∈ x, 97 ≤ c ∧ c ≤ 122) → ∃ n' x' s', nI (gNm 4) dQ [] ds [some (.int c), some (.str abc), some (.int n), some (.str x), s] S =
    .ok (.next [some (.int c), some (.str abc), some (.int n'), some (.str x'), s']) S ∧ x'.length = x.length + ds.length ∧ ∀ c ∈ x', 97 ≤ c ∧ c ≤ 122
  | [], n, x, s, _, hx => ⟨n, x, s, rfl, rfl, hx⟩
  | d :: ds, n, x, s, h, hx => by
    rw [List.length_cons] at h
    obtain ⟨k, hl, hk⟩ := yCY c n x (some d) S (by (first | lia | omega))
    obtain ⟨n', x', s', h1, h2, h3⟩ := zTB c S ds (n / 26) (x ++ [k]) (some d) (by rw [List.length_append, List.length_singleton]; (first | lia | omega)) (by
      intro c hc
      rw [List.mem_append, List.mem_singleton] at hc
      rcases hc with hc | rfl
      · exact hx c hc
      · exact hl)
    refine ⟨n', x', s', ?_, by rw [h2, List.length_append, List.length_singleton, List.length_cons]; (first | lia | omega), h3⟩
    rw [zPX rfl hk (gP S)]
    exact h1
theorem yJQ (c : Int) (S : Sto) : ∃ x, gQ [.int c] S = .ok (.val (.str x)) S ∧ Nm x := by
  have hm0 : 0 ≤ c % 8 := Int.emod_nonneg _ (by decide)
  have hm1 : c % 8 < 8 := Int.emod_lt_of_pos _ (by decide)
  have hn : ((List.range (1 + c % 8).toNat).map fun k => MV.int (k : Nat)).length = (1 + c % 8).toNat := by rw [List.length_map, List.length_range]
  obtain ⟨n', x', s', h1, h2, h3⟩ := zTB c S ((List.range (1 + c % 8).toNat).map fun k => MV.int (k : Nat)) (c / 8) [] none (by rw [hn]; simp only [List.length_nil]; (first | lia | omega)) (by simp)
  rw [hn, List.length_nil] at h2
  refine ⟨x', ?_, by (first | lia | omega), by (first | lia | omega), h3⟩
  have e1 : zJY [some (.int c), none, none, none, none] S = .ok (.next [some (.int c), some (.str abc), none, none, none]) S := rfl
  have e2 : zCS [some (.int c), some (.str abc), none, none, none] S = .ok (.next [some (.int c), some (.str abc), some (.int (c / 8)), none, none]) S := by
    unfold zCS
    simp? [wN (show (0 : Int) < 8 by decide) (show (8 : Int) < 1073741824 by decide)]
  have e3 : zJZ [some (.int c), some (.str abc), some (.int (c / 8)), none, none] S = .ok (.next [some (.int c), some (.str abc), some (.int (c / 8)), some (.str []), none]) S := rfl
  have e4 : zCT [some (.int c), some (.str abc), some (.int (c / 8)), some (.str []), none] S = .ok (.next [some (.int c), some (.str abc), some (.int n'), some (.str x'), s']) S := by
    unfold zCT
    simp? [mod_lit (show (0 : Int) < 8 by decide)]
    rw [zES (by (first | lia | omega)), bok]
    exact h1
  have hs : yB ["_law_cell", "_law_letters", "_law_number", "_law_name_here", "_law_k"] [.int c] = [some (.int c), none, none, none, none] := rfl
  unfold gQ zIF
  rw [hs, zF e1, zF e2, zF e3, zF e4]
  rfl
theorem p1060 (S : Sto) : zKK (.val (.int 10)) (.val (.int 60)) S = .ok (.val (.int (10 ^ 60))) S := rfl
theorem p600 (S : Sto) : zKK (.val (.int (10 ^ 60))) (.val (.int 10)) S = .ok (.val (.int ((10 ^ 60) ^ 10))) S := by
  show (if yCP (10 ^ 60) 10 then R.ok (Er.val (.int ((10 ^ 60) ^ (10 : Int).toNat))) S else .no) = _
  rw [if_pos (by decide +kernel)]
  rfl
theorem pp30 (S : Sto) : zKK (.val (.int 10)) (.val (.int 30)) S = .ok (.val (.int (10 ^ 30))) S := rfl
theorem pp268 (S : Sto) : zKK (.val (.int 26)) (.val (.int 8)) S = .ok (.val (.int 208827064576)) S := rfl
theorem yBI {b : Int} (h : zYP 0 b) (a : Int) (S : Sto) : zBX (.val (.int a)) (.val (.int b)) S = .ok (.val (.int (a / b))) S := if_pos (show zYP a b from h)
theorem yNM {a : Int} (h : 0 ≤ a ∧ a < 4294967296) (S : Sto) : zRJ (.val (.int a)) (.val (.int a)) S = .ok (.val (.int (a * a))) S :=
  zON ⟨Int.lt_of_lt_of_le (by decide) h.1, Int.lt_trans h.2 (by decide)⟩ a S
theorem zUN (c p : Int) (hp : 0 < p ∧ p < 4294967296) (S : Sto) : ∃ n, zJ 2 xH [.val (.int c), .val (.int p)] S = .ok (.val (.int n)) S := by
  have hs : yB ["_law_cell", "_law_prime", "_law_number"] [.int c, .int p] = [some (.int c), some (.int p), none] := rfl
  have h600 : (0 : Int) < (10 ^ 60) ^ 10 := Int.pow_pos (Int.pow_pos (by decide))
  have e1 : zFK [some (.int c), some (.int p), none] S = if decide (c % 2 = 0) = true then .ok (.ret (.val (.int (c / 2 % (10 ^ 60) ^ 10)))) S else .ok (.next [some (.int c), some (.int p), none]) S := by
    unfold zFK
    simp? [mod_lit (show (0 : Int) < 2 by decide), wN (show (0 : Int) < 2 by decide) (show (2 : Int) < 1073741824 by decide), p1060, p600, mod_lit h600]
  have fin : ∀ n, xH [.int c, .int p] S = .ok (.val (.int n)) S → ∃ n, zJ 2 xH [.val (.int c), .val (.int p)] S = .ok (.val (.int n)) S := fun n h => ⟨n, zEA rfl h (hJ _ _) (fun l => by simp)⟩
  cases hb : decide (c % 2 = 0) with
  | true =>
    refine fin (c / 2 % (10 ^ 60) ^ 10) ?_
    rw [hb, if_pos rfl] at e1
    unfold xH zFN
    rw [hs, bF e1]
    rfl
  | false =>
    rw [hb, if_neg Bool.false_ne_true] at e1
    have hn0 : 0 ≤ (c % 2147483629 + 7) * 48271 % p := Int.emod_nonneg _ (by (first | lia | omega))
    have hn1 : (c % 2147483629 + 7) * 48271 % p < p := Int.emod_lt_of_pos _ hp.1
    have e2 : zFL [some (.int c), some (.int p), none] S = .ok (.next [some (.int c), some (.int p), some (.int ((c % 2147483629 + 7) * 48271 % p))]) S := by
      unfold zFL
      simp? [mod_lit (show (0 : Int) < 2147483629 by decide), zON (show -(2 ^ 64) < (48271 : Int) ∧ (48271 : Int) < 2 ^ 64 by decide), mod_lit hp.1]
    generalize (c % 2147483629 + 7) * 48271 % p = m at hn0 hn1 e2
    have e3 : zFM [some (.int c), some (.int p), some (.int m)] S = .ok (.ret (.val (.int (m * m % 2147483579 * 1000003 + m)))) S := by
      unfold zFM
      simp? [yNM (a := m) ⟨hn0, by (first | lia | omega)⟩, mod_lit (show (0 : Int) < 2147483579 by decide), zON (show -(2 ^ 64) < (1000003 : Int) ∧ (1000003 : Int) < 2 ^ 64 by decide)]
    refine fin (m * m % 2147483579 * 1000003 + m) ?_
    unfold xH zFN
    rw [hs, zF e1, zF e2, e3]
    rfl
theorem yJR : ∀ k, k < 26 → strIdx abc [97 + k] = some k := by decide +kernel
abbrev P8 (c n : Int) (a b x4 x5 x6 x7 : Option MV) : Rho := [some (.int c), some (.int n), a, b, x4, x5, x6, x7]
section
variable {c n : Int} {a b x4 x5 x6 x7 : Option MV} {S : Sto} {x : List Nat} {at' tn : Int}
theorem po4 : zCW (P8 c n a b x4 x5 x6 x7) S = .ok (.next (P8 c (n / 1670616516608) a b x4 x5 x6 x7)) S := by
  unfold zCW
  simp? [pp268, yGC (show -(2 ^ 64) < (8 : Int) ∧ (8 : Int) < 2 ^ 64 by decide), yBI (show zYP 0 (8 * 208827064576) by decide +kernel)]
  rfl
theorem po5 (hx : Nm x) : zCX (P8 c n a (some (.str x)) x4 x5 x6 x7) S = .ok (.next (P8 c n a (some (.str x)) (some (.int (n % x.length))) x5 x6 x7)) S := by
  have hl : wX [.val (.str x)] S = .ok (.val (.int x.length)) S := if_pos (fits (by have := hx.2.1; (first | lia | omega)))
  have hp : (0 : Int) < (x.length : Int) := by have := hx.1; (first | lia | omega)
  unfold zCX
  simp? [hl, mod_lit hp]
theorem po6 (hx : Nm x) (h0 : 0 ≤ at') (h1 : at' < x.length) : ∃ tn, zCY (P8 c n (some (.str abc)) (some (.str x)) (some (.int at')) x5 x6 x7) S = .ok (.next (P8 c n (some (.str abc)) (some (.str x)) (some (.int at')) (some (.int tn)) x6 x7)) S := by
  obtain ⟨k, hk⟩ := dG (xs := x) h0 h1
  obtain ⟨k0, k1⟩ := dH (P := fun c => 97 ≤ c ∧ c ≤ 122) hx.2.2 hk
  have hi := yJR (k - 97) (by (first | lia | omega))
  rw [show 97 + (k - 97) = k by (first | lia | omega)] at hi
  have hsi : zWC (.val (.str abc)) [.val (.str [k])] S = .ok (.val (.int ((k - 97 : Nat) : Int))) S := by
    show (match strIdx abc [k] with | some i => R.ok (Er.val (.int (i : Nat))) S | none => .no) = _
    rw [hi]
  refine ⟨((k - 97 : Nat) : Int) + 1 + n / 8 % 25, ?_⟩
  unfold zCY
  simp? [ix_str (S := S) (fits (show x.length ≤ 1000000 by have := hx.2.1; (first | lia | omega))) hk, show zPW (.val (.str abc)) S = true from rfl, hsi, wN (show (0 : Int) < 8 by decide) (show (8 : Int) < 1073741824 by decide), mod_lit (show (0 : Int) < 25 by decide)]
theorem po7 (hx : Nm x) (h0 : 0 ≤ at') (h1 : at' < x.length) : ∃ y, Nm y ∧ zCZ (P8 c n (some (.str abc)) (some (.str x)) (some (.int at')) (some (.int tn)) x6 x7) S = .ok (.next (P8 c n (some (.str abc)) (some (.str x)) (some (.int at')) (some (.int tn)) (some (.str y)) x7)) S := by
  obtain ⟨k, hk⟩ := dG (xs := abc) (i := tn % 26) (Int.emod_nonneg _ (by decide)) (by have := Int.emod_lt_of_pos tn (show (0 : Int) < 26 by decide); show tn % 26 < 26; exact this)
  have hkl := dH (P := fun k => 97 ≤ k ∧ k ≤ 122) (by decide) hk
  have c1 : nB x none (some at') = x.take at'.toNat := yJK _ _ h0
  have c2 : nB x (some (at' + 1)) none = x.drop (at'.toNat + 1) := by
    unfold nB
    have z1 : HT.sIx x.length 0 (some (at' + 1)) = at'.toNat + 1 := by
      unfold HT.sIx
      simp only
      split <;> (first | lia | omega)
    have z2 : HT.sIx x.length x.length none = x.length := rfl
    rw [z1, z2]
    rw [List.take_of_length_le (by rw [List.length_drop]; (first | lia | omega))]
  have hlen := hx.2.1
  refine ⟨x.take at'.toNat ++ [k] ++ x.drop (at'.toNat + 1), ⟨?_, ?_, ?_⟩, ?_⟩
  · simp only [List.length_append, List.length_singleton]; (first | lia | omega)
  · simp only [List.length_append, List.length_singleton, List.length_take, List.length_drop]; (first | lia | omega)
  · intro z hz
    rw [List.mem_append, List.mem_append, List.mem_singleton] at hz
    rcases hz with (hz | rfl) | hz
    · exact hx.2.2 z (List.mem_of_mem_take hz)
    · exact hkl
    · exact hx.2.2 z (List.mem_of_mem_drop hz)
  · unfold zCZ
    simp? [cut_str (S := S) (fits (show x.length ≤ 1000000 by (first | lia | omega))), c1, mod_lit (show (0 : Int) < 26 by decide), ix_str (show abc.length ≤ sizeLine by rw [sizeLine_eq]; decide) hk, c2]
    rw [add_str (x := x.take at'.toNat) (y := [k]) (fits (by rw [List.length_singleton, List.length_take]; (first | lia | omega))), bok]
    simp? [cut_str (S := S) (fits (show x.length ≤ 1000000 by (first | lia | omega))), c2]
    rw [add_str (fits (by simp only [List.length_append, List.length_singleton, List.length_take, List.length_drop]; (first | lia | omega))), bok]
    rfl
theorem po8 : zDA (P8 c n a b x4 x5 x6 x7) S = .ok (.next (P8 c (n / 200) a b x4 x5 x6 x7)) S := by
  unfold zDA
  simp? [wN (show (0 : Int) < 200 by decide) (show (200 : Int) < 1073741824 by decide)]
theorem po9 : ∃ g, (1 ≤ g ∧ g ≤ 10 ^ 30 - 3) ∧ zDB (P8 c n a b x4 x5 x6 x7) S = .ok (.next (P8 c n a b x4 x5 x6 (some (.int g)))) S := by
  have h0 : 0 ≤ n % 10 ^ 30 := Int.emod_nonneg _ (by decide)
  have h1 : n % 10 ^ 30 < 10 ^ 30 := Int.emod_lt_of_pos _ (by decide)
  have h2 : 0 ≤ (n % 10 ^ 30 * 48271 + 11) ^ (4 : Int).toNat % (10 ^ 30 - 3) := Int.emod_nonneg _ (by decide)
  have h3 : (n % 10 ^ 30 * 48271 + 11) ^ (4 : Int).toNat % (10 ^ 30 - 3) < 10 ^ 30 - 3 := Int.emod_lt_of_pos _ (by decide)
  have h4 : yCP (n % 10 ^ 30 * 48271 + 11) 4 := by
    refine ⟨by decide, ?_⟩
    have hb : Builtin.Int.intBits (n % 10 ^ 30 * 48271 + 11) ≤ 200 := by
      unfold Builtin.Int.intBits
      split
      · (first | lia | omega)
      · rename_i hn
        have hn' : (n % 10 ^ 30 * 48271 + 11).natAbs ≠ 0 := by (first | lia | omega)
        have := (Nat.log2_lt hn').mpr (show (n % 10 ^ 30 * 48271 + 11).natAbs < 2 ^ 199 by (first | lia | omega))
        (first | lia | omega)
    (first | lia | omega)
  refine ⟨(n % 10 ^ 30 * 48271 + 11) ^ (4 : Int).toNat % (10 ^ 30 - 3) + 1, ⟨by (first | lia | omega), by (first | lia | omega)⟩, ?_⟩
  unfold zDB
  simp? [pp30, mod_lit (show (0 : Int) < 10 ^ 30 by decide), zON (show -(2 ^ 64) < (48271 : Int) ∧ (48271 : Int) < 2 ^ 64 by decide), yJD h4, mod_lit (show (0 : Int) < 10 ^ 30 - 3 by decide)]
theorem po10 {g : Int} (hg : 1 ≤ g ∧ g ≤ 10 ^ 30 - 3) : ∃ g', (1 ≤ g' ∧ g' ≤ 10 ^ 30 - 3) ∧ bO (P8 c n a b x4 x5 x6 (some (.int g))) S = .ok (.next (P8 c n a b x4 x5 x6 (some (.int g')))) S := by
  have h2 : 0 ≤ n / 2 % (10 ^ 30 - 3) := Int.emod_nonneg _ (by decide)
  have h3 : n / 2 % (10 ^ 30 - 3) < 10 ^ 30 - 3 := Int.emod_lt_of_pos _ (by decide)
  have e : bO (P8 c n a b x4 x5 x6 (some (.int g))) S = if decide (n % 2 = 1) = true then .ok (.next (P8 c n a b x4 x5 x6 (some (.int (n / 2 % (10 ^ 30 - 3) + 1))))) S else .ok (.next (P8 c n a b x4 x5 x6 (some (.int g)))) S := by
    unfold bO
    simp? [mod_lit (show (0 : Int) < 2 by decide), wN (show (0 : Int) < 2 by decide) (show (2 : Int) < 1073741824 by decide), pp30, mod_lit (show (0 : Int) < 10 ^ 30 - 3 by decide)]
  cases hb : decide (n % 2 = 1) with
  | true => exact ⟨n / 2 % (10 ^ 30 - 3) + 1, ⟨by (first | lia | omega), by (first | lia | omega)⟩, by rw [e, hb, if_pos rfl]⟩
  | false => exact ⟨g, hg, by rw [e, hb, if_neg Bool.false_ne_true]⟩
theorem lst7 (a b c d e f g : MV) (S : Sto) : zBW [.val a, .val b, .val c, .val d, .val e, .val f, .val g] S = .ok (.new [a, b, c, d, e, f, g]) S := zHQ (by simp)
theorem po11 {g : Int} {y : List Nat} (hg : 1 ≤ g ∧ g ≤ 10 ^ 30 - 3) (hx : Nm x) (hy : Nm y) : ∃ vs, vs.length = 7 ∧ (∀ d ∈ vs, Vl d) ∧ zBA (P8 c n a (some (.str x)) x4 x5 (some (.str y)) (some (.int g))) S = .ok (.ret (.new vs)) S := by
  have h0 : 0 ≤ n / 64 % 5 := Int.emod_nonneg _ (by decide)
  have h1 : n / 64 % 5 < 5 := Int.emod_lt_of_pos _ (by decide)
  have h2 : 0 ≤ n / 320 % 5 := Int.emod_nonneg _ (by decide)
  have h3 : n / 320 % 5 < 5 := Int.emod_lt_of_pos _ (by decide)
  refine ⟨[.int (n / 64 % 5), .int g, .str x, .int (0 - g), .str y, .int (n / 320 % 5 + 7), .int (g + 1)], rfl, ?_, ?_⟩
  · intro d hd
    simp only [List.mem_cons, List.not_mem_nil, or_false] at hd
    rcases hd with rfl | rfl | rfl | rfl | rfl | rfl | rfl
    · exact ⟨by (first | lia | omega), by (first | lia | omega)⟩
    · exact ⟨by (first | lia | omega), by (first | lia | omega)⟩
    · exact hx
    · exact ⟨by (first | lia | omega), by (first | lia | omega)⟩
    · exact hy
    · exact ⟨by (first | lia | omega), by (first | lia | omega)⟩
    · exact ⟨by (first | lia | omega), by (first | lia | omega)⟩
  · unfold zBA
    simp? [wN (show (0 : Int) < 64 by decide) (show (64 : Int) < 1073741824 by decide), mod_lit (show (0 : Int) < 5 by decide), wN (show (0 : Int) < 320 by decide) (show (320 : Int) < 1073741824 by decide), lst7]
end
theorem yJS (c : Int) (S : Sto) : ∃ vs, vs.length = 7 ∧ (∀ d ∈ vs, Vl d) ∧ zJ 1 gR [.val (.int c)] S = .ok (.new vs) S := by
  obtain ⟨n, hn⟩ := zUN c 2147483587 ⟨by decide, by decide⟩ S
  obtain ⟨x, hx, nx⟩ := yJQ n S
  have hc : zJ 1 gQ [.val (.int n)] S = .ok (.val (.str x)) S := zEA rfl hx (zHO _ x) (fun l => by simp)
  have hs : yB ["_law_cell", "_law_number", "_law_letters", "_law_name_here", "_law_at", "_law_turned", "_law_other", "_law_great"] [.int c] = [some (.int c), none, none, none, none, none, none, none] := rfl
  have e1 : zCU [some (.int c), none, none, none, none, none, none, none] S = .ok (.next (P8 c n none none none none none none)) S := by
    unfold zCU
    simp? [hn]
  have e2 : zKA (P8 c n none none none none none none) S = .ok (.next (P8 c n (some (.str abc)) none none none none none)) S := rfl
  have e3 : zCV (P8 c n (some (.str abc)) none none none none none) S = .ok (.next (P8 c n (some (.str abc)) (some (.str x)) none none none none)) S := by
    unfold zCV
    simp? [hc]
  have hp : 0 < x.length := by have := nx.1; (first | lia | omega)
  have hm0 : 0 ≤ n / 1670616516608 % (x.length : Int) := Int.emod_nonneg _ (by (first | lia | omega))
  have hm1 : n / 1670616516608 % (x.length : Int) < x.length := Int.emod_lt_of_pos _ (by (first | lia | omega))
  obtain ⟨tn, e6⟩ := po6 (c := c) (n := n / 1670616516608) (x5 := none) (x6 := none) (x7 := none) (S := S) nx hm0 hm1
  obtain ⟨y, ny, e7⟩ := po7 (c := c) (n := n / 1670616516608) (tn := tn) (x6 := none) (x7 := none) (S := S) nx hm0 hm1
  obtain ⟨g, hg, e9⟩ := po9 (c := c) (n := n / 1670616516608 / 200) (a := some (.str abc)) (b := some (.str x)) (x4 := some (.int (n / 1670616516608 % (x.length : Int)))) (x5 := some (.int tn)) (x6 := some (.str y)) (x7 := none) (S := S)
  obtain ⟨g', hg', e10⟩ := po10 (c := c) (n := n / 1670616516608 / 200) (a := some (.str abc)) (b := some (.str x)) (x4 := some (.int (n / 1670616516608 % (x.length : Int)))) (x5 := some (.int tn)) (x6 := some (.str y)) (S := S) hg
  obtain ⟨vs, hl, hv, e11⟩ := po11 (c := c) (n := n / 1670616516608 / 200) (a := some (.str abc)) (x4 := some (.int (n / 1670616516608 % (x.length : Int)))) (x5 := some (.int tn)) (S := S) hg' nx ny
  refine ⟨vs, hl, hv, yFZ (T := []) rfl ?_ (wG fun d hd => (hv d hd).lo _)⟩
  rw [List.append_nil]
  show gR [.int c] S = _
  unfold gR zIG
  rw [hs, zF e1, zF e2, zF e3, zF po4, zF (po5 nx), zF e6, zF e7, zF po8, zF e9, zF e10, e11]
  rfl
theorem zMB {S : Sto} {l : Nat} {ds : List MV} {d : MV} (hS : S[l]? = some (.lst ds)) (hz : ds.length < 1000000) : zWD (.val (.loc l)) [.val d] S = .ok (.val .non) (S.set l (.lst (ds ++ [d]))) := by
  show zOG (.val (.loc l)) S (fun ds => if ds.length < sizeLine then some (ds ++ [d]) else none) = _
  unfold zOG
  dsimp only
  rw [hS]
  dsimp only
  rw [if_pos (Nat.lt_of_lt_of_le hz (fits (Nat.le_refl _)))]
theorem zFV {S : Sto} {l : Nat} {ds : List MV} (hS : S[l]? = some (.lst ds)) : zCG (.val (.loc l)) S = true := by
  unfold zCG
  rw [zAR hS]; rfl
theorem yGJ {S : Sto} {l : Nat} {ds : List MV} {k : Int} {j : Nat} {d : MV} {ρ : Rho} (hS : S[l]? = some (.lst ds)) (hj : ixN ds.length k = some j) : zWE (.val (.loc l)) (.val (.int k)) d ρ S = .ok ρ (S.set l (.lst (ds.set j d))) := by
  unfold zWE
  dsimp only
  rw [hS]
  dsimp only
  rw [hj]
theorem get_set {S : Sto} {l : Nat} {o o' : MO} (h : S[l]? = some o) : (S.set l o')[l]? = some o' := List.getElem?_set_self (List.getElem?_eq_some_iff.mp h).1
theorem xR {S : Sto} {l m : Nat} {o' : MO} (h : l ≠ m) : (S.set l o')[m]? = S[m]? := List.getElem?_set_ne h
theorem zEH {S : Sto} {l : Nat} {ds : List MV} (hS : S[l]? = some (.lst ds)) : kI [.val (.loc l)] S = .ok (.val (.tup ds)) S := by
  show (match cE S (.val (.loc l)) with | some ds => R.ok (Er.val (.tup ds)) S | none => .no) = _
  rw [zAR hS]
theorem zFW (ds : List MV) (S : Sto) : wX [.val (.tup ds)] S = .ok (.val (.int ds.length)) S := rfl
theorem yBJ (gf : MV → Rho → Sto → R Rho) (ρ : Rho) (d : MV) (S : Sto) : yFA gf ρ (.val d) S = (gf d ρ S).bind fun ρ' S2 => .ok (.next ρ') S2 := rfl
theorem zQD {n : Nat} {F : List MV → Sto → R Er} {rs : List Er} {S : Sto} {d : MV} {l : Nat} {x : Int} (hn : rs.length = n) (hF : F (yI rs S).1 (yI rs S).2 = .ok (.val d) (S.set l (.lst [.int x]))) (h : lo S.length d) (hd : ∀ l, d ≠ .loc l) : zJ n F rs S = .ok (.val d) (S.set l (.lst [.int x])) := by
  unfold zJ
  rw [if_pos hn, hF, zAP, bok]
  have hc : zVY S (S.set l (.lst [.int x])) := by
    refine ⟨by rw [List.length_set]; exact Nat.le_refl _, fun m hm => ?_⟩
    by_cases e : l = m
    · subst e
      exact .inr ⟨_, List.getElem?_set_self hm, wG fun e he => by rw [List.mem_singleton.mp he]; exact hJ _ _⟩
    · exact .inl (List.getElem?_set_ne e)
  unfold zJV
  rw [if_pos hc]
  have e : (S.set l (.lst [.int x])).take S.length = S.set l (.lst [.int x]) := by rw [List.take_of_length_le (by rw [List.length_set]; exact Nat.le_refl _)]
  cases d with
  | loc m => exact absurd rfl (hd m)
  | _ => dsimp only; rw [if_pos h, e]
theorem zFX {S : Sto} {l : Nat} {x n : Int} (hS : S[l]? = some (.lst [.int x])) (h0 : 0 < n) (h1 : n < 1073741824) : zJ 2 yE [.val (.loc l), .val (.int n)] S = .ok (.val (.int (x % n))) (S.set l (.lst [.int (x / n)])) := by
  have hs : yB ["_law_state", "_law_size", "_law_found"] [.loc l, .int n] = [some (.loc l), some (.int n), none] := rfl
  have ha : atI [MV.int x] 0 = some (.int x) := rfl
  have e1 : zDG [some (.loc l), some (.int n), none] S = .ok (.next [some (.loc l), some (.int n), some (.int (x % n))]) S := by
    unfold zDG
    simp? [zER hS ha, mod_lit h0]
  have e2 : zDH [some (.loc l), some (.int n), some (.int (x % n))] S = .ok (.next [some (.loc l), some (.int n), some (.int (x % n))]) (S.set l (.lst [.int (x / n)])) := by
    unfold zDH
    simp? [zER hS ha, wN h0 h1, yBJ, yGJ hS (show ixN [MV.int x].length 0 = some 0 from rfl)]
  refine zQD rfl ?_ (hJ _ _) (fun l => by simp)
  show yE [.loc l, .int n] S = _
  unfold yE zIJ
  rw [hs, zF e1, zF e2]
  rfl
noncomputable def tbl (p : Int × Int) : MV := .tup [.int p.1, .int p.2]
noncomputable def TOk (ts : List (Int × Int)) : Prop := 1 ≤ ts.length ∧ ts.length ≤ 4 ∧ ∀ p ∈ ts, 1 ≤ p.1 ∧ p.1 ≤ 4 ∧ 0 ≤ p.2 ∧ p.2 ≤ p.1
abbrev P7 (c m n k : MV) (l : Nat) (x5 x6 : Option MV) : Rho := [some c, some m, some n, some k, some (.loc l), x5, x6]
theorem yGK {c m k : MV} {n : Int} {l : Nat} {x5 x6 : Option MV} {S : Sto} {ts : List (Int × Int)} (hS : S[l]? = some (.lst (ts.map tbl))) (hl : ts.length < 1000) :
    ∃ p n', (1 ≤ p.1 ∧ p.1 ≤ 4 ∧ 0 ≤ p.2 ∧ p.2 ≤ p.1) ∧ gH (P7 c m (.int n) k l x5 x6) S = .ok (.next (P7 c m (.int n') k l x5 (some (.int p.1)))) (S.set l (.lst ((ts ++ [p]).map tbl))) := by
  have h0 : 0 ≤ n % 4 := Int.emod_nonneg _ (by decide)
  have h1 : n % 4 < 4 := Int.emod_lt_of_pos _ (by decide)
  have hp : (0 : Int) < 1 + n % 4 + 1 := by (first | lia | omega)
  have h2 : 0 ≤ n / 4 % (1 + n % 4 + 1) := Int.emod_nonneg _ (by (first | lia | omega))
  have h3 : n / 4 % (1 + n % 4 + 1) < 1 + n % 4 + 1 := Int.emod_lt_of_pos _ hp
  refine ⟨(1 + n % 4, n / 4 % (1 + n % 4 + 1)), n / 20, ⟨by show 1 ≤ 1 + n % 4; (first | lia | omega), by show 1 + n % 4 ≤ 4; (first | lia | omega), h2, by show n / 4 % (1 + n % 4 + 1) ≤ 1 + n % 4; (first | lia | omega)⟩, ?_⟩
  have e1 : bP (P7 c m (.int n) k l x5 x6) S = .ok (.next (P7 c m (.int n) k l x5 (some (.int (1 + n % 4))))) S := by
    unfold bP
    simp? [mod_lit (show (0 : Int) < 4 by decide)]
  have e2 : bQ (P7 c m (.int n) k l x5 (some (.int (1 + n % 4)))) S = .ok (.next (P7 c m (.int n) k l x5 (some (.int (1 + n % 4))))) (S.set l (.lst ((ts ++ [(1 + n % 4, n / 4 % (1 + n % 4 + 1))]).map tbl))) := by
    unfold bQ
    simp? [zFV hS, wN (show (0 : Int) < 4 by decide) (show (4 : Int) < 1073741824 by decide), mod_lit hp, zMB hS (show (ts.map tbl).length < 1000000 by rw [List.length_map]; (first | lia | omega))]
    rw [List.map_append]
    rfl
  have e3 : bR (P7 c m (.int n) k l x5 (some (.int (1 + n % 4)))) (S.set l (.lst ((ts ++ [(1 + n % 4, n / 4 % (1 + n % 4 + 1))]).map tbl))) = .ok (.next (P7 c m (.int (n / 20)) k l x5 (some (.int (1 + n % 4))))) (S.set l (.lst ((ts ++ [(1 + n % 4, n / 4 % (1 + n % 4 + 1))]).map tbl))) := by
    unfold bR
    simp? [wN (show (0 : Int) < 20 by decide) (show (20 : Int) < 1073741824 by decide)]
  unfold gH
  rw [zF e1, zF e2, e3]
theorem yCZ (c : Int) (S : Sto) : ∃ ts, TOk ts ∧ zJ 2 kX [.val (.int c), .val (.int 4)] S = .ok (.val (.tup (ts.map tbl))) S := by
  obtain ⟨n, hn⟩ := zUN c 2147483629 ⟨by decide, by decide⟩ S
  have h0 : 0 ≤ n % 4 := Int.emod_nonneg _ (by decide)
  have h1 : n % 4 < 4 := Int.emod_lt_of_pos _ (by decide)
  have hs : yB ["_law_cell", "_law_most", "_law_number", "_law_many", "_law_tables_here", "_law_k", "_law_wide"] [.int c, .int 4] = [some (.int c), some (.int 4), none, none, none, none, none] := rfl
  have e1 : nO [some (.int c), some (.int 4), none, none, none, none, none] S = .ok (.next [some (.int c), some (.int 4), some (.int n), none, none, none, none]) S := by
    unfold nO
    simp? [hn]
  have e2 : nP [some (.int c), some (.int 4), some (.int n), none, none, none, none] S = .ok (.next [some (.int c), some (.int 4), some (.int n), some (.int (1 + n % 4)), none, none, none]) S := by
    unfold nP
    simp? [mod_lit (show (0 : Int) < 4 by decide)]
  have e3 : nQ [some (.int c), some (.int 4), some (.int n), some (.int (1 + n % 4)), none, none, none] S = .ok (.next [some (.int c), some (.int 4), some (.int (n / 4)), some (.int (1 + n % 4)), none, none, none]) S := by
    unfold nQ
    simp? [wN (show (0 : Int) < 4 by decide) (show (4 : Int) < 1073741824 by decide)]
  have e4 : nR [some (.int c), some (.int 4), some (.int (n / 4)), some (.int (1 + n % 4)), none, none, none] S = .ok (.next (P7 (.int c) (.int 4) (.int (n / 4)) (.int (1 + n % 4)) S.length none none)) (S ++ [.lst []]) := by
    unfold nR
    simp? [bok]
  have hlen : ((List.range (1 + n % 4).toNat).map fun k => MV.int (k : Nat)).length = (1 + n % 4).toNat := by rw [List.length_map, List.length_range]
  obtain ⟨ρ', S', e, x5, x6, n', ts, hρ, hS', hl, hT⟩ := zHP (L := (List.range (1 + n % 4).toNat).map fun k => MV.int (k : Nat)) (gf := gNm 5) (body := gH) (gs := []) (S := S ++ [.lst []]) (ρ := P7 (.int c) (.int 4) (.int (n / 4)) (.int (1 + n % 4)) S.length none none)
    (fun i ρ S' => ∃ x5 x6 n' ts, ρ = P7 (.int c) (.int 4) (.int n') (.int (1 + n % 4)) S.length x5 x6 ∧ S' = S ++ [.lst (ts.map tbl)] ∧ ts.length = i ∧ ∀ p ∈ ts, 1 ≤ p.1 ∧ p.1 ≤ 4 ∧ 0 ≤ p.2 ∧ p.2 ≤ p.1) (fun i d hi ρ S1 ⟨x5, x6, n', ts, hρ, hS1, hl, hT⟩ => by
      subst hρ hS1
      have hil : i < 5 := by have := (List.getElem?_eq_some_iff.mp hi).1; (first | lia | omega)
      obtain ⟨p, n'', hp, hb⟩ := yGK (c := .int c) (m := .int 4) (k := .int (1 + n % 4)) (n := n') (l := S.length) (x5 := some d) (x6 := x6) (S := S ++ [.lst (ts.map tbl)]) (ts := ts) (by simp) (by (first | lia | omega))
      refine ⟨P7 (.int c) (.int 4) (.int n'') (.int (1 + n % 4)) S.length (some d) (some (.int p.1)), S ++ [.lst ((ts ++ [p]).map tbl)], ?_, gP _, some d, some (.int p.1), n'', ts ++ [p], rfl, rfl, by rw [List.length_append, hl]; rfl, ?_⟩
      · rw [show gNm 5 d (P7 (.int c) (.int 4) (.int n') (.int (1 + n % 4)) S.length x5 x6) (S ++ [.lst (ts.map tbl)]) = .ok (P7 (.int c) (.int 4) (.int n') (.int (1 + n % 4)) S.length (some d) x6) (S ++ [.lst (ts.map tbl)]) from rfl, bok, hb]
        rw [show (S ++ [MO.lst (ts.map tbl)]).set S.length (.lst ((ts ++ [p]).map tbl)) = S ++ [.lst ((ts ++ [p]).map tbl)] by simp]
      · intro q hq
        rw [List.mem_append, List.mem_singleton] at hq
        rcases hq with hq | rfl
        · exact hT q hq
        · exact hp) ⟨none, none, n / 4, [], rfl, rfl, rfl, fun p hp => by simp at hp⟩
  subst hρ hS'
  rw [hlen] at hl
  have e5 : nS (P7 (.int c) (.int 4) (.int (n / 4)) (.int (1 + n % 4)) S.length none none) (S ++ [.lst []]) = .ok (.next (P7 (.int c) (.int 4) (.int n') (.int (1 + n % 4)) S.length x5 x6)) (S ++ [.lst (ts.map tbl)]) := by
    unfold nS
    simp? [zES (S := S ++ [.lst []]) (show -(2 ^ 62) ≤ 1 + n % 4 ∧ 1 + n % 4 < 2 ^ 62 by (first | lia | omega))]
    exact e
  have e6 : nT (P7 (.int c) (.int 4) (.int n') (.int (1 + n % 4)) S.length x5 x6) (S ++ [.lst (ts.map tbl)]) = .ok (.ret (.val (.tup (ts.map tbl)))) (S ++ [.lst (ts.map tbl)]) := by
    unfold nT
    simp? [zEH (S := S ++ [.lst (ts.map tbl)]) (l := S.length) (ds := ts.map tbl) (by simp)]
  refine ⟨ts, ⟨by (first | lia | omega), by (first | lia | omega), hT⟩, zAQ (T := [.lst (ts.map tbl)]) rfl ?_ (wY (wG fun d hd => ?_)) (fun l => by simp)⟩
  · show kX [.int c, .int 4] S = _
    unfold kX zDC
    rw [hs, zF e1, zF e2, zF e3, zF e4, zF e5, e6]
    rfl
  · obtain ⟨p, _, rfl⟩ := List.mem_map.mp hd
    exact wY (wG fun e he => by simp at he; rcases he with rfl | rfl <;> exact hJ _ _)
mutual
noncomputable def pd : MV → Bool
  | .int _ => true
  | .str _ => true
  | .tup ds => pdL ds
  | _ => false
noncomputable def pdL : List MV → Bool
  | [] => true
  | d :: ds => pd d && pdL ds
end
mutual
noncomputable def dpt : MV → Nat
  | .tup ds => zHB ds + 1
  | _ => 0
noncomputable def zHB : List MV → Nat
  | [] => 0
  | d :: ds => max (dpt d) (zHB ds)
end
theorem cU (ds : List MV) : pd (.tup ds) = pdL ds := by rw [pd]
theorem zJN : pdL [] = true := by rw [pdL]
theorem xF (d : MV) (ds : List MV) : pdL (d :: ds) = (pd d && pdL ds) := by rw [pdL]
theorem kK (ds : List MV) : dpt (.tup ds) = zHB ds + 1 := by rw [dpt]
theorem yK (d : MV) (ds : List MV) : zHB (d :: ds) = max (dpt d) (zHB ds) := by rw [zHB]
theorem zBI : zHB [] = 0 := by rw [zHB]
theorem zIK (i : Int) : pd (.int i) = true := by rw [pd]
theorem zNF (i : List Nat) : pd (.str i) = true := by rw [pd]
theorem zCM (i : Int) : dpt (.int i) = 0 := by simp [dpt]
theorem zJO (i : List Nat) : dpt (.str i) = 0 := by simp [dpt]
theorem zFY : ∀ {ds : List MV}, (∀ d ∈ ds, pd d = true) → pdL ds = true
  | [], _ => zJN
  | d :: ds, h => by rw [xF, h d List.mem_cons_self, zFY fun e he => h e (List.mem_cons_of_mem _ he)]; rfl
theorem zOT : ∀ {ds : List MV}, pdL ds = true → ∀ d ∈ ds, pd d = true
  | [], _, d, h => by simp at h
  | e :: ds, hp, d, h => by
    rw [xF, Bool.and_eq_true] at hp
    rcases List.mem_cons.mp h with rfl | h
    · exact hp.1
    · exact zOT hp.2 d h
theorem zFZ : ∀ {ds : List MV} {n : Nat}, (∀ d ∈ ds, dpt d ≤ n) → zHB ds ≤ n
  | [], n, _ => by rw [zBI]; exact Nat.zero_le _
  | d :: ds, n, h => by
    rw [yK]
    have h1 := h d List.mem_cons_self
    have h2 := zFZ fun e he => h e (List.mem_cons_of_mem _ he)
    (first | lia | omega)
theorem zQE : ∀ {ds : List MV}, ∀ d ∈ ds, dpt d ≤ zHB ds
  | [], d, h => by simp at h
  | e :: ds, d, h => by
    rw [yK]
    rcases List.mem_cons.mp h with rfl | h
    · exact Nat.le_max_left _ _
    · exact Nat.le_trans (zQE d h) (Nat.le_max_right _ _)
theorem zQF {d : MV} (h : pd d = true) : (∃ i, d = .int i) ∨ (∃ x, d = .str x) ∨ ∃ ds, d = .tup ds ∧ pdL ds = true := by
  cases d with
  | int i => exact .inl ⟨i, rfl⟩
  | str x => exact .inr (.inl ⟨x, rfl⟩)
  | tup ds => exact .inr (.inr ⟨ds, rfl, by rw [← cU]; exact h⟩)
  | _ => rw [pd] at h <;> first | cases h | (intros; simp)
theorem dec_is {p : Prop} [Decidable p] {q : Prop} [Decidable q] (h : p ↔ q) : decide p = decide q := by
  by_cases hq : q
  · rw [decide_eq_true hq, decide_eq_true (h.mpr hq)]
  · rw [decide_eq_false hq, decide_eq_false fun z => hq (h.mp z)]
theorem zQG {e : MV → MV → Option Bool} : ∀ {ds es : List MV}, (∀ d ∈ ds, ∀ f ∈ es, e d f = some (decide (d = f))) → ∃ bs, prs e ds es = some bs ∧ (bs.all id && ds.length == es.length) = decide (ds = es)
  | [], [], _ => ⟨[], rfl, by simp⟩
  | [], _ :: _, _ => ⟨[], rfl, by simp⟩
  | _ :: _, [], _ => ⟨[], rfl, by simp⟩
  | d :: ds, f :: es, h => by
    obtain ⟨bs, h1, h2⟩ := zQG (e := e) (ds := ds) (es := es) fun a ha b hb => h a (List.mem_cons_of_mem _ ha) b (List.mem_cons_of_mem _ hb)
    refine ⟨decide (d = f) :: bs, ?_, ?_⟩
    · unfold prs
      rw [h d List.mem_cons_self f List.mem_cons_self, h1]
      rfl
    · by_cases hd : d = f
      · subst hd
        rw [List.all_cons, decide_eq_true rfl]
        simp only [id, Bool.true_and, List.length_cons]
        rw [show (ds.length + 1 == es.length + 1) = (ds.length == es.length) by simp, h2]
        exact dec_is (by simp)
      · rw [List.all_cons, decide_eq_false hd]
        rw [decide_eq_false (show ¬ (d :: ds = f :: es) from fun z => hd (List.cons.inj z).1)]
        rfl
theorem zQH {S : Sto} : ∀ (n : Nat) {d e : MV}, pd d = true → pd e = true → dpt d < n → eqv S n d e = some (decide (d = e))
  | 0, d, e, _, _, h => by (first | lia | omega)
  | n + 1, d, e, hd, he, h => by
    rcases zQF hd with ⟨i, rfl⟩ | ⟨x, rfl⟩ | ⟨ds, rfl, pds⟩ <;> rcases zQF he with ⟨j, rfl⟩ | ⟨y, rfl⟩ | ⟨es, rfl, pes⟩
    · rw [zUC]; exact congrArg some (dec_is (by simp))
    · rw [yNB, decide_eq_false (by simp)]
    · rw [decide_eq_false (by simp)]; rfl
    · rw [yNC, decide_eq_false (by simp)]
    · rw [zUD]; exact congrArg some (dec_is (by simp))
    · rw [decide_eq_false (by simp)]; rfl
    · rw [decide_eq_false (by simp)]; rfl
    · rw [decide_eq_false (by simp)]; rfl
    · rw [kK] at h
      obtain ⟨bs, h1, h2⟩ := zQG (e := eqv S n) (ds := ds) (es := es) fun a ha b hb => zQH n (zOT pds a ha) (zOT pes b hb) (by have := zQE a ha; (first | lia | omega))
      show ((prs (eqv S n) ds es).map fun bs => bs.all id && ds.length == es.length) = _
      rw [h1]
      show some (bs.all id && ds.length == es.length) = _
      rw [h2]
      exact congrArg some (dec_is (by simp))
theorem zQI {S : Sto} {d : MV} (hd : pd d = true) : ∀ {ys : List MV}, (∀ y ∈ ys, pd y = true ∧ dpt y < 40) → zTZ S yO d ys = some (ys.map fun y => decide (y = d))
  | [], _ => rfl
  | y :: ys, h => by
    have h1 := h y List.mem_cons_self
    unfold zTZ
    rw [zQH yO h1.1 hd (by unfold yO; exact h1.2), zQI hd fun z hz => h z (List.mem_cons_of_mem _ hz)]
    rfl
theorem zZD {S : Sto} {l : Nat} {d : MV} {ys : List MV} (hS : S[l]? = some (.lst ys)) (hd : pd d = true) (hs : ∀ x, d ≠ .str x) (h : ∀ y ∈ ys, pd y = true ∧ dpt y < 40) : inF true (.val d) (.val (.loc l)) S = .ok (.val (.bl (!decide (d ∈ ys)))) S := by
  have e1 : itemsOf S (.val (.loc l)) = some ys := by unfold itemsOf; exact zAR hS
  have e2 : zMW true (.val d) (.val (.loc l)) S = .ok (.val (.bl (!decide (d ∈ ys)))) S := by
    unfold zMW
    dsimp only
    rw [e1]
    dsimp only
    rw [zQI hd h]
    dsimp only
    rw [if_pos rfl]
    congr 4
    rw [List.any_map]
    by_cases hm : d ∈ ys
    · rw [decide_eq_true hm, List.any_eq_true]
      exact ⟨d, hm, by simp⟩
    · rw [decide_eq_false hm]
      rw [List.any_eq_false]
      intro y hy
      simp only [Function.comp, id, decide_eq_true_eq]
      rintro rfl
      exact hm hy
  cases d with
  | str x => exact absurd rfl (hs x)
  | _ => exact e2
noncomputable def yC (r : Nat × List MV) : MV := .tup [.int r.1, .tup r.2]
noncomputable def ROk (ts : List (Int × Int)) (r : Nat × List MV) : Prop := ∃ p, ts[r.1]? = some p ∧ (r.2.length : Int) = p.1 ∧ ∀ d ∈ r.2, Vl d
theorem yKR {d : MV} (h : Vl d) : pd d = true ∧ dpt d = 0 := by
  rcases h.cases with ⟨i, rfl, _⟩ | ⟨x, rfl, _⟩
  · exact ⟨zIK i, zCM i⟩
  · exact ⟨zNF x, zJO x⟩
theorem zNG {ts : List (Int × Int)} {r : Nat × List MV} (h : ROk ts r) : pd (yC r) = true ∧ dpt (yC r) ≤ 2 := by
  obtain ⟨p, _, _, hv⟩ := h
  have h1 : pdL r.2 = true := zFY fun d hd => (yKR (hv d hd)).1
  have h2 : zHB r.2 ≤ 0 := zFZ fun d hd => by rw [(yKR (hv d hd)).2]; exact Nat.le_refl _
  unfold yC
  refine ⟨by rw [cU, xF, xF, zJN, zIK, cU, h1]; rfl, ?_⟩
  rw [kK, yK, yK, zBI, zCM, kK]
  (first | lia | omega)
theorem zWK {r q : Nat × List MV} (h : yC r = yC q) : r = q := by
  unfold yC at h
  injection h with h
  injection h with h1 h2
  injection h2 with h2 _
  injection h1 with h1
  injection h2 with h2
  exact Prod.ext (by (first | lia | omega)) h2
theorem zZE {ts : List (Int × Int)} {r : Nat × List MV} (h : ROk ts r) (n : Nat) : lo n (yC r) := by
  obtain ⟨p, _, _, hv⟩ := h
  refine wY (wG fun d hd => ?_)
  simp only [List.mem_cons, List.not_mem_nil, or_false] at hd
  rcases hd with rfl | rfl
  · exact hJ _ _
  · exact wY (wG fun e he => (hv e he).lo n)
theorem zQJ {ts : List (Int × Int)} {t : Nat} {p : Int × Int} (h : ts[t]? = some p) : atI (ts.map tbl) (t : Int) = some (tbl p) := by
  have hl : t < ts.length := (List.getElem?_eq_some_iff.mp h).1
  unfold atI ixN
  rw [if_pos (by (first | lia | omega)), if_pos (by rw [List.length_map]; (first | lia | omega))]
  show (ts.map tbl)[(t : Int).toNat]? = _
  rw [Int.toNat_natCast, List.getElem?_map, h]
  rfl
abbrev R8 (c tb pl w : MV) (n : Int) (t : Int) (l : Nat) (x7 : Option MV) : Rho := [some c, some tb, some pl, some w, some (.int n), some (.int t), some (.loc l), x7]
theorem yGL {c tb : MV} {lp l : Nat} {w n t : Int} {x7 : Option MV} {S : Sto} {vs cs : List MV} (hw : 1 ≤ w ∧ w ≤ 7) (hv : vs.length = 7) (hP : S[lp]? = some (.lst vs)) (hS : S[l]? = some (.lst cs)) (hl : cs.length < 1000) :
    ∃ v n', v ∈ vs ∧ zAF (R8 c tb (.loc lp) (.int w) n t l x7) S = .ok (.next (R8 c tb (.loc lp) (.int w) n' t l x7)) (S.set l (.lst (cs ++ [v]))) := by
  have hp : (0 : Int) < w := by (first | lia | omega)
  have h0 : 0 ≤ n % w := Int.emod_nonneg _ (by (first | lia | omega))
  have h1 : n % w < w := Int.emod_lt_of_pos _ hp
  obtain ⟨v, hvv⟩ := dG (xs := vs) (i := n % w) h0 (by (first | lia | omega))
  refine ⟨v, n / w, dH (P := fun e => e ∈ vs) (fun e h => h) hvv, ?_⟩
  have e1 : zBD (R8 c tb (.loc lp) (.int w) n t l x7) S = .ok (.next (R8 c tb (.loc lp) (.int w) n t l x7)) (S.set l (.lst (cs ++ [v]))) := by
    unfold zBD
    simp? [zFV hS, mod_lit hp, zER hP hvv, zMB hS (show cs.length < 1000000 by (first | lia | omega))]
  have e2 : zBE (R8 c tb (.loc lp) (.int w) n t l x7) (S.set l (.lst (cs ++ [v]))) = .ok (.next (R8 c tb (.loc lp) (.int w) (n / w) t l x7)) (S.set l (.lst (cs ++ [v]))) := by
    unfold zBE
    simp? [wN hp (show w < 1073741824 by (first | lia | omega))]
  unfold zAF
  rw [zF e1, e2]
theorem yNN {ts : List (Int × Int)} (hT : TOk ts) (c w : Int) (hw : 1 ≤ w ∧ w ≤ 7) {lp : Nat} {vs : List MV} {S : Sto} (hv : vs.length = 7) (hV : ∀ d ∈ vs, Vl d) (hP : S[lp]? = some (.lst vs)) :
    ∃ r, ROk ts r ∧ zJ 4 cQ [.val (.int c), .val (.tup (ts.map tbl)), .val (.loc lp), .val (.int w)] S = .ok (.val (yC r)) S := by
  obtain ⟨n, hn⟩ := zUN c 2147483563 ⟨by decide, by decide⟩ S
  have hlp : lp < S.length := (List.getElem?_eq_some_iff.mp hP).1
  have hp : (0 : Int) < (ts.length : Int) := by have := hT.1; (first | lia | omega)
  have h0 : 0 ≤ n % (ts.length : Int) := Int.emod_nonneg _ (by (first | lia | omega))
  have h1 : n % (ts.length : Int) < ts.length := Int.emod_lt_of_pos _ hp
  obtain ⟨t, ht⟩ := Int.eq_ofNat_of_zero_le h0
  have htl : t < ts.length := by (first | lia | omega)
  have hgt : ts[t]? = some ts[t] := List.getElem?_eq_getElem htl
  have hpp := hT.2.2 ts[t] (List.getElem_mem htl)
  generalize hpe : ts[t] = p at hgt hpp
  have hs : yB ["_law_cell", "_law_tables_here", "_law_pool_here", "_law_wide", "_law_number", "_law_t", "_law_cells", "_law_k"] [.int c, .tup (ts.map tbl), .loc lp, .int w] = [some (.int c), some (.tup (ts.map tbl)), some (.loc lp), some (.int w), none, none, none, none] := rfl
  have hlen : wX [.val (.tup (ts.map tbl))] S = .ok (.val (.int ts.length)) S := by rw [zFW, List.length_map]
  have e1 : zFO [some (.int c), some (.tup (ts.map tbl)), some (.loc lp), some (.int w), none, none, none, none] S = .ok (.next [some (.int c), some (.tup (ts.map tbl)), some (.loc lp), some (.int w), some (.int n), none, none, none]) S := by
    unfold zFO
    simp? [hn]
  have e2 : zFP [some (.int c), some (.tup (ts.map tbl)), some (.loc lp), some (.int w), some (.int n), none, none, none] S = .ok (.next [some (.int c), some (.tup (ts.map tbl)), some (.loc lp), some (.int w), some (.int n), some (.int t), none, none]) S := by
    unfold zFP
    simp? [hlen, mod_lit hp]
    rw [ht]
  have hdc : zYP 0 (ts.length : Int) := by
    have := hT.2.1
    have h1 := hT.1
    have : ts.length = 1 ∨ ts.length = 2 ∨ ts.length = 3 ∨ ts.length = 4 := by (first | lia | omega)
    rcases this with h | h | h | h <;> rw [h] <;> decide +kernel
  have e3 : zFQ [some (.int c), some (.tup (ts.map tbl)), some (.loc lp), some (.int w), some (.int n), some (.int t), none, none] S = .ok (.next [some (.int c), some (.tup (ts.map tbl)), some (.loc lp), some (.int w), some (.int (n / ts.length)), some (.int t), none, none]) S := by
    unfold zFQ
    simp? [hlen, yBI hdc]
  have e4 : zFR [some (.int c), some (.tup (ts.map tbl)), some (.loc lp), some (.int w), some (.int (n / ts.length)), some (.int t), none, none] S = .ok (.next (R8 (.int c) (.tup (ts.map tbl)) (.loc lp) (.int w) (n / ts.length) t S.length none)) (S ++ [.lst []]) := by
    unfold zFR
    simp? [bok]
  have hll : ((List.range p.1.toNat).map fun k => MV.int (k : Nat)).length = p.1.toNat := by rw [List.length_map, List.length_range]
  obtain ⟨ρ', S', e, x7, n', cs, hρ, hS', hl, hC⟩ := zHP (L := (List.range p.1.toNat).map fun k => MV.int (k : Nat)) (gf := gNm 7) (body := zAF) (gs := []) (S := S ++ [.lst []]) (ρ := R8 (.int c) (.tup (ts.map tbl)) (.loc lp) (.int w) (n / ts.length) t S.length none)
    (fun i ρ S' => ∃ x7 n' cs, ρ = R8 (.int c) (.tup (ts.map tbl)) (.loc lp) (.int w) n' t S.length x7 ∧ S' = S ++ [.lst cs] ∧ cs.length = i ∧ ∀ d ∈ cs, d ∈ vs) (fun i d hi ρ S1 ⟨x7, n', cs, hρ, hS1, hl, hC⟩ => by
      subst hρ hS1
      have hil : i < 5 := by have := (List.getElem?_eq_some_iff.mp hi).1; (first | lia | omega)
      obtain ⟨v, n'', hv', hb⟩ := yGL (c := .int c) (tb := .tup (ts.map tbl)) (lp := lp) (l := S.length) (w := w) (n := n') (t := t) (x7 := some d) (S := S ++ [.lst cs]) (vs := vs) (cs := cs) hw hv (by rw [List.getElem?_append_left hlp]; exact hP) (by simp) (by (first | lia | omega))
      refine ⟨R8 (.int c) (.tup (ts.map tbl)) (.loc lp) (.int w) n'' t S.length (some d), S ++ [.lst (cs ++ [v])], ?_, gP _, some d, n'', cs ++ [v], rfl, rfl, by rw [List.length_append, hl]; rfl, ?_⟩
      · rw [show gNm 7 d (R8 (.int c) (.tup (ts.map tbl)) (.loc lp) (.int w) n' t S.length x7) (S ++ [.lst cs]) = .ok (R8 (.int c) (.tup (ts.map tbl)) (.loc lp) (.int w) n' t S.length (some d)) (S ++ [.lst cs]) from rfl, bok, hb]
        rw [show (S ++ [MO.lst cs]).set S.length (.lst (cs ++ [v])) = S ++ [.lst (cs ++ [v])] by simp]
      · intro q hq
        rw [List.mem_append, List.mem_singleton] at hq
        rcases hq with hq | rfl
        · exact hC q hq
        · exact hv') ⟨none, _, [], rfl, rfl, rfl, fun p hp => by simp at hp⟩
  subst hρ hS'
  rw [hll] at hl
  have e5 : zFS (R8 (.int c) (.tup (ts.map tbl)) (.loc lp) (.int w) (n / ts.length) t S.length none) (S ++ [.lst []]) = .ok (.next (R8 (.int c) (.tup (ts.map tbl)) (.loc lp) (.int w) n' t S.length x7)) (S ++ [.lst cs]) := by
    unfold zFS
    simp? [ix_tup (S := S ++ [.lst []]) (zQJ hgt)]
    rw [show ixF (.val (tbl p)) (.val (.int 0)) (S ++ [MO.lst []]) = .ok (.val (.int p.1)) (S ++ [.lst []]) from rfl]
    simp? [zES (S := S ++ [.lst []]) (show -(2 ^ 62) ≤ p.1 ∧ p.1 < 2 ^ 62 by (first | lia | omega))]
    exact e
  have e6 : zFT (R8 (.int c) (.tup (ts.map tbl)) (.loc lp) (.int w) n' t S.length x7) (S ++ [.lst cs]) = .ok (.ret (.val (yC (t, cs)))) (S ++ [.lst cs]) := by
    unfold zFT
    simp? [zEH (S := S ++ [.lst cs]) (l := S.length) (ds := cs) (by simp)]
    rfl
  have hR : ROk ts (t, cs) := ⟨p, hgt, by show (cs.length : Int) = p.1; (first | lia | omega), fun d hd => hV d (hC d hd)⟩
  refine ⟨(t, cs), hR, zAQ (T := [.lst cs]) rfl ?_ (zZE hR _) (fun l => by unfold yC; simp)⟩
  show cQ [.int c, .tup (ts.map tbl), .loc lp, .int w] S = _
  unfold cQ zKT
  rw [hs, zF e1, zF e2, zF e3, zF e4, zF e5, e6]
  rfl
abbrev R7 (lc : Nat) (tb : MV) (lp : Nat) (w : Int) (lr : Nat) (x5 x6 : Option MV) : Rho := [some (.loc lc), some tb, some (.loc lp), some (.int w), some (.loc lr), x5, x6]
theorem yDA {ts : List (Int × Int)} (hT : TOk ts) {c w : Int} (hw : 1 ≤ w ∧ w ≤ 7) {lc lp lr : Nat} {vs : List MV} {S : Sto} {x6 : Option MV} {rs : List (Nat × List MV)} (hv : vs.length = 7) (hV : ∀ d ∈ vs, Vl d) (hP : S[lp]? = some (.lst vs)) (hS : S[lr]? = some (.lst (rs.map yC)))
    (hR : ∀ r ∈ rs, ROk ts r) (hn : rs.Nodup) (hl : rs.length < 1000) : ∃ (x6' : Option MV) (rs' : List (Nat × List MV)), hX (R7 lc (.tup (ts.map tbl)) lp w lr (some (.int c)) x6) S = .ok (.next (R7 lc (.tup (ts.map tbl)) lp w lr (some (.int c)) x6')) (S.set lr (.lst (rs'.map yC))) ∧ (∀ r ∈ rs', ROk ts r) ∧ rs'.Nodup ∧ rs'.length ≤ rs.length + 1 := by
  obtain ⟨r, hr, hcall⟩ := yNN hT c w hw hv hV hP
  have e1 : nU (R7 lc (.tup (ts.map tbl)) lp w lr (some (.int c)) x6) S = .ok (.next (R7 lc (.tup (ts.map tbl)) lp w lr (some (.int c)) (some (yC r)))) S := by
    unfold nU
    simp? [hcall]
  have hin : inF true (.val (yC r)) (.val (.loc lr)) S = .ok (.val (.bl (!decide (yC r ∈ rs.map yC)))) S := zZD hS (zNG hr).1 (fun x => by unfold yC; simp) fun y hy => by
    obtain ⟨q, hq, rfl⟩ := List.mem_map.mp hy
    have := zNG (hR q hq)
    exact ⟨this.1, by (first | lia | omega)⟩
  have hmem : yC r ∈ rs.map yC ↔ r ∈ rs := ⟨fun h => by obtain ⟨q, hq, e⟩ := List.mem_map.mp h; rw [← zWK e]; exact hq, fun h => List.mem_map_of_mem h⟩
  by_cases hm : r ∈ rs
  · have e2 : kU (R7 lc (.tup (ts.map tbl)) lp w lr (some (.int c)) (some (yC r))) S = .ok (.next (R7 lc (.tup (ts.map tbl)) lp w lr (some (.int c)) (some (yC r)))) S := by
      unfold kU
      simp? [hin, decide_eq_true (hmem.mpr hm)]
      rfl
    refine ⟨some (yC r), rs, ?_, hR, hn, Nat.le_succ _⟩
    unfold hX
    rw [zF e1, e2]
    have hset : S.set lr (.lst (rs.map yC)) = S := by
      refine List.ext_getElem? fun j => ?_
      by_cases e : lr = j
      · subst e; rw [get_set hS, hS]
      · rw [xR e]
    rw [hset]
  · have e2 : kU (R7 lc (.tup (ts.map tbl)) lp w lr (some (.int c)) (some (yC r))) S = .ok (.next (R7 lc (.tup (ts.map tbl)) lp w lr (some (.int c)) (some (yC r)))) (S.set lr (.lst ((rs ++ [r]).map yC))) := by
      unfold kU
      simp? [hin, decide_eq_false (fun z => hm (hmem.mp z)), zFV hS, zMB hS (show (rs.map yC).length < 1000000 by rw [List.length_map]; (first | lia | omega))]
      rw [List.map_append]
      rfl
    refine ⟨some (yC r), rs ++ [r], ?_, ?_, ?_, ?_⟩
    · unfold hX
      rw [zF e1, e2]
    · intro q hq
      rw [List.mem_append, List.mem_singleton] at hq
      rcases hq with hq | rfl
      · exact hR q hq
      · exact hr
    · exact List.nodup_append.mpr ⟨hn, by simp, fun a ha c hc => by rw [List.mem_singleton.mp hc]; rintro rfl; exact hm ha⟩
    · rw [List.length_append]; exact Nat.le_refl _
theorem yJT {ts : List (Int × Int)} (hT : TOk ts) (is : List Int) (hil : is.length ≤ 60) {w : Int} (hw : 1 ≤ w ∧ w ≤ 7) {lp : Nat} {vs : List MV} {S : Sto} (hv : vs.length = 7) (hV : ∀ d ∈ vs, Vl d) (hP : S[lp]? = some (.lst vs)) :
    ∃ rs : List (Nat × List MV), (∀ r ∈ rs, ROk ts r) ∧ rs.Nodup ∧ rs.length ≤ is.length ∧ zJ 4 gS [.new (is.map MV.int), .val (.tup (ts.map tbl)), .val (.loc lp), .val (.int w)] S = .ok (.val (.tup (rs.map yC))) S := by
  have hlp : lp < S.length := (List.getElem?_eq_some_iff.mp hP).1
  have hs : yB ["_law_cells", "_law_tables_here", "_law_pool_here", "_law_wide", "_law_rows_here", "_law_cell", "_law_row_here"] [.loc S.length, .tup (ts.map tbl), .loc lp, .int w] = [some (.loc S.length), some (.tup (ts.map tbl)), some (.loc lp), some (.int w), none, none, none] := rfl
  have e1 : zDD [some (.loc S.length), some (.tup (ts.map tbl)), some (.loc lp), some (.int w), none, none, none] (S ++ [.lst (is.map MV.int)]) = .ok (.next (R7 S.length (.tup (ts.map tbl)) lp w (S.length + 1) none none)) (S ++ [.lst (is.map MV.int)] ++ [.lst []]) := by
    unfold zDD
    simp? [bok]
    rw [List.length_append]
    rfl
  obtain ⟨ρ', S', e, x5, x6, rs, hρ, hS', hR, hN, hl⟩ := zHP (L := is.map MV.int) (gf := gNm 5) (body := hX) (gs := [(S.length, is.map MV.int)]) (S := S ++ [.lst (is.map MV.int)] ++ [.lst []]) (ρ := R7 S.length (.tup (ts.map tbl)) lp w (S.length + 1) none none)
    (fun i ρ S' => ∃ (x5 x6 : Option MV) (rs : List (Nat × List MV)), ρ = R7 S.length (.tup (ts.map tbl)) lp w (S.length + 1) x5 x6 ∧ S' = S ++ [.lst (is.map MV.int)] ++ [.lst (rs.map yC)] ∧ (∀ r ∈ rs, ROk ts r) ∧ rs.Nodup ∧ rs.length ≤ i) (fun i d hi ρ S1 ⟨x5, x6, rs, hρ, hS1, hR, hN, hl⟩ => by
      subst hρ hS1
      obtain ⟨c, _, rfl⟩ := List.mem_map.mp (List.mem_of_getElem? hi)
      have hil' : i < is.length := by have := (List.getElem?_eq_some_iff.mp hi).1; rw [List.length_map] at this; exact this
      obtain ⟨x6', rs', hb, hR', hN', hl'⟩ := yDA hT (c := c) hw (lc := S.length) (lp := lp) (lr := S.length + 1) (S := S ++ [.lst (is.map MV.int)] ++ [.lst (rs.map yC)]) (x6 := x6) (rs := rs) hv hV (by rw [List.append_assoc, List.getElem?_append_left hlp]; exact hP) (by simp) hR hN (by (first | lia | omega))
      refine ⟨R7 S.length (.tup (ts.map tbl)) lp w (S.length + 1) (some (.int c)) x6', S ++ [.lst (is.map MV.int)] ++ [.lst (rs'.map yC)], ?_, zPY (by simp), some (.int c), x6', rs', rfl, rfl, hR', hN', by (first | lia | omega)⟩
      rw [show gNm 5 (.int c) (R7 S.length (.tup (ts.map tbl)) lp w (S.length + 1) x5 x6) (S ++ [.lst (is.map MV.int)] ++ [.lst (rs.map yC)]) = .ok (R7 S.length (.tup (ts.map tbl)) lp w (S.length + 1) (some (.int c)) x6) (S ++ [.lst (is.map MV.int)] ++ [.lst (rs.map yC)]) from rfl, bok, hb]
      have hset : List.set (S ++ [MO.lst (is.map MV.int)] ++ [MO.lst (rs.map yC)]) (S.length + 1) (MO.lst (rs'.map yC)) = S ++ [MO.lst (is.map MV.int)] ++ [MO.lst (rs'.map yC)] := by simp
      rw [hset])
    ⟨none, none, [], rfl, rfl, fun r hr => by simp at hr, by simp, Nat.zero_le _⟩
  subst hρ hS'
  rw [List.length_map] at hl
  have e2 : zDE (R7 S.length (.tup (ts.map tbl)) lp w (S.length + 1) none none) (S ++ [.lst (is.map MV.int)] ++ [.lst []]) = .ok (.next (R7 S.length (.tup (ts.map tbl)) lp w (S.length + 1) x5 x6)) (S ++ [.lst (is.map MV.int)] ++ [.lst (rs.map yC)]) := by
    unfold zDE
    simp? [yJJ (S := S ++ [.lst (is.map MV.int)] ++ [.lst []]) (l := S.length) (ds := is.map MV.int) (by simp)]
    exact e
  have e3 : zDF (R7 S.length (.tup (ts.map tbl)) lp w (S.length + 1) x5 x6) (S ++ [.lst (is.map MV.int)] ++ [.lst (rs.map yC)]) = .ok (.ret (.val (.tup (rs.map yC)))) (S ++ [.lst (is.map MV.int)] ++ [.lst (rs.map yC)]) := by
    unfold zDF
    simp? [zEH (S := S ++ [.lst (is.map MV.int)] ++ [.lst (rs.map yC)]) (l := S.length + 1) (ds := rs.map yC) (by simp)]
  refine ⟨rs, hR, hN, hl, zAQ (T := [.lst (is.map MV.int), .lst (rs.map yC)]) rfl ?_ (wY (wG fun d hd => ?_)) (fun l => by simp)⟩
  · show gS [.loc S.length, .tup (ts.map tbl), .loc lp, .int w] (S ++ [.lst (is.map MV.int)]) = _
    unfold gS zII
    rw [hs, zF e1, zF e2, e3]
    rw [List.append_assoc]
    rfl
  · obtain ⟨r, hr, rfl⟩ := List.mem_map.mp hd
    exact zZE (hR r hr) _
inductive Side where
  | isv (v : MV) | cell (k j : Nat)
noncomputable def sIs : List Nat := [105, 115]
noncomputable def zGX : List Nat := [99, 101, 108, 108]
noncomputable def wF : Side → MV
  | .isv v => .tup [.str sIs, v]
  | .cell k j => .tup [.str zGX, .int k, .int j]
noncomputable def zZF (ws : List Int) : Side → Prop
  | .isv v => Vl v
  | .cell k j => ∃ w, ws[k]? = some w ∧ (j : Int) < w
noncomputable def wid (ts : List (Int × Int)) (t : Nat) : Int := ((ts[t]?).map (·.1)).getD 0
theorem zNH {ts : List (Int × Int)} {t : Nat} {p : Int × Int} (h : ts[t]? = some p) : wid ts t = p.1 := by unfold wid; rw [h]; rfl
theorem yGM {ts : List (Int × Int)} (hT : TOk ts) {t : Nat} (h : t < ts.length) : 1 ≤ wid ts t ∧ wid ts t ≤ 4 := by
  have := hT.2.2 ts[t] (List.getElem_mem h)
  rw [zNH (List.getElem?_eq_getElem h)]
  exact ⟨this.1, this.2.1⟩
noncomputable def yN (t : Nat) : MV := .int (t : Nat)
noncomputable def ThOk (ts : List (Int × Int)) (th : List Nat) : Prop := 1 ≤ th.length ∧ th.length ≤ 2 ∧ ∀ t ∈ th, t < ts.length
theorem yNO {th : List Nat} {k t : Nat} (h : th[k]? = some t) : atI (th.map yN) (k : Int) = some (yN t) := by
  have hl : k < th.length := (List.getElem?_eq_some_iff.mp h).1
  unfold atI ixN
  rw [if_pos (by (first | lia | omega)), if_pos (by rw [List.length_map]; (first | lia | omega))]
  show (th.map yN)[(k : Int).toNat]? = _
  rw [Int.toNat_natCast, List.getElem?_map, h]
  rfl
theorem zOU {ws : List Int} {sd : Side} (h : zZF ws sd) (n : Nat) : lo n (wF sd) := by
  cases sd with
  | isv v => exact wY (wG fun e he => by simp at he; rcases he with rfl | rfl; (exact zHO _ _); exact Vl.lo h n)
  | cell k j => exact wY (wG fun e he => by simp at he; rcases he with rfl | rfl | rfl <;> first | exact zHO _ _ | exact hJ _ _)
theorem zQK (sd : Side) (l : Nat) : wF sd ≠ .loc l := by cases sd <;> (intro h; cases h)
abbrev D5 (l : Nat) (th tb : MV) (lp : Nat) (x4 : Option MV) : Rho := [some (.loc l), some th, some tb, some (.loc lp), x4]
theorem yBK {ts : List (Int × Int)} (hT : TOk ts) {th : List Nat} (hth : ThOk ts th) {l lp : Nat} {x : Int} {vs : List MV} {S : Sto} (hne : l ≠ lp) (hv : vs.length = 7) (hV : ∀ d ∈ vs, Vl d) (hP : S[lp]? = some (.lst vs)) (hS : S[l]? = some (.lst [.int x])) :
    ∃ sd x', zZF (th.map (wid ts)) sd ∧ zJ 4 wR [.val (.loc l), .val (.tup (th.map yN)), .val (.tup (ts.map tbl)), .val (.loc lp)] S = .ok (.val (wF sd)) (S.set l (.lst [.int x'])) := by
  have hs : yB ["_law_state", "_law_there", "_law_tables_here", "_law_pool_here", "_law_k"] [.loc l, .tup (th.map yN), .tup (ts.map tbl), .loc lp] = D5 l (.tup (th.map yN)) (.tup (ts.map tbl)) lp none := rfl
  have t1 := zFX (n := 4) hS (by decide) (by decide)
  have hS1 := get_set (o' := .lst [.int (x / 4)]) hS
  have hP1 : (S.set l (.lst [.int (x / 4)]))[lp]? = some (.lst vs) := by rw [xR hne]; exact hP
  cases hb : decide (x % 4 = 0) with
  | true =>
    have t2 := zFX (n := 7) hS1 (by decide) (by decide)
    rw [List.set_set] at t2
    have hP2 : (S.set l (.lst [.int (x / 4 / 7)]))[lp]? = some (.lst vs) := by rw [xR hne]; exact hP
    obtain ⟨v, hvv⟩ := dG (xs := vs) (i := x / 4 % 7) (Int.emod_nonneg _ (by decide)) (by have := Int.emod_lt_of_pos (x / 4) (show (0 : Int) < 7 by decide); rw [hv]; exact this)
    have vV := dH hV hvv
    refine ⟨.isv v, x / 4 / 7, vV, zQD rfl ?_ (zOU (ws := []) (sd := .isv v) vV _) (zQK _)⟩
    have e1 : hZ (D5 l (.tup (th.map yN)) (.tup (ts.map tbl)) lp none) S = .ok (.ret (.val (wF (.isv v)))) (S.set l (.lst [.int (x / 4 / 7)])) := by
      unfold hZ
      simp? [t1, hb, t2, zER hP2 hvv]
      rfl
    show wR [.loc l, .tup (th.map yN), .tup (ts.map tbl), .loc lp] S = _
    unfold wR zCL
    rw [hs, bF e1]
    rfl
  | false =>
    have e1 : hZ (D5 l (.tup (th.map yN)) (.tup (ts.map tbl)) lp none) S = .ok (.next (D5 l (.tup (th.map yN)) (.tup (ts.map tbl)) lp none)) (S.set l (.lst [.int (x / 4)])) := by
      unfold hZ
      simp? [t1, hb]
      rfl
    have hp : (0 : Int) < (th.length : Int) := by have := hth.1; (first | lia | omega)
    have hlen : ∀ S, wX [.val (.tup (th.map yN))] S = .ok (.val (.int th.length)) S := fun S => by rw [zFW, List.length_map]
    have t2 := zFX (n := (th.length : Int)) hS1 hp (by have := hth.2.1; (first | lia | omega))
    rw [List.set_set] at t2
    have h0 : 0 ≤ x / 4 % (th.length : Int) := Int.emod_nonneg _ (by (first | lia | omega))
    have h1 : x / 4 % (th.length : Int) < th.length := Int.emod_lt_of_pos _ hp
    obtain ⟨k, hk⟩ := Int.eq_ofNat_of_zero_le h0
    have hkl : k < th.length := by (first | lia | omega)
    have e2 : zDI (D5 l (.tup (th.map yN)) (.tup (ts.map tbl)) lp none) (S.set l (.lst [.int (x / 4)])) = .ok (.next (D5 l (.tup (th.map yN)) (.tup (ts.map tbl)) lp (some (.int (k : Nat))))) (S.set l (.lst [.int (x / 4 / th.length)])) := by
      unfold zDI
      simp? [hlen, t2]
      rw [hk]
    have hgk : th[k]? = some th[k] := List.getElem?_eq_getElem hkl
    have htl := hth.2.2 th[k] (List.getElem_mem hkl)
    generalize th[k] = t at hgk htl
    have hgt : ts[t]? = some ts[t] := List.getElem?_eq_getElem htl
    have hwd := yGM hT htl
    rw [zNH hgt] at hwd
    have hS2 := get_set (o' := .lst [.int (x / 4 / th.length)]) hS
    have t3 := zFX (n := ts[t].1) hS2 (by (first | lia | omega)) (by (first | lia | omega))
    rw [List.set_set] at t3
    have g0 : 0 ≤ x / 4 / th.length % ts[t].1 := Int.emod_nonneg _ (by (first | lia | omega))
    have g1 : x / 4 / th.length % ts[t].1 < ts[t].1 := Int.emod_lt_of_pos _ (by (first | lia | omega))
    obtain ⟨j, hj⟩ := Int.eq_ofNat_of_zero_le g0
    have hOk : zZF (th.map (wid ts)) (.cell k j) := ⟨ts[t].1, by rw [List.getElem?_map, hgk]; show some (wid ts t) = _; rw [zNH hgt], by (first | lia | omega)⟩
    refine ⟨.cell k j, x / 4 / th.length / ts[t].1, hOk, zQD rfl ?_ (zOU hOk _) (zQK _)⟩
    have e3 : zDJ (D5 l (.tup (th.map yN)) (.tup (ts.map tbl)) lp (some (.int (k : Nat)))) (S.set l (.lst [.int (x / 4 / th.length)])) = .ok (.ret (.val (wF (.cell k j)))) (S.set l (.lst [.int (x / 4 / th.length / ts[t].1)])) := by
      unfold zDJ
      simp? [ix_tup (S := S.set l (.lst [.int (x / 4 / th.length)])) (show atI (th.map yN) (k : Int) = some (.int t) from yNO hgk), ix_tup (S := S.set l (.lst [.int (x / 4 / th.length)])) (zQJ hgt)]
      rw [show ixF (.val (tbl ts[t])) (.val (.int 0)) (S.set l (.lst [.int (x / 4 / th.length)])) = .ok (.val (.int ts[t].1)) (S.set l (.lst [.int (x / 4 / th.length)])) from rfl]
      simp? [t3]
      rw [hj]
      rfl
    show wR [.loc l, .tup (th.map yN), .tup (ts.map tbl), .loc lp] S = _
    unfold wR zCL
    rw [hs, zF e1, zF e2, e3]
    rfl
theorem yDB {n : Nat} {F : List MV → Sto → R Er} {rs : List Er} {S T : Sto} {d : MV} {l : Nat} {x : Int} (hn : rs.length = n) (hF : F (yI rs S).1 (yI rs S).2 = .ok (.val d) (S.set l (.lst [.int x]) ++ T)) (h : lo S.length d) (hd : ∀ l, d ≠ .loc l) : zJ n F rs S = .ok (.val d) (S.set l (.lst [.int x])) := by
  unfold zJ
  rw [if_pos hn, hF, zAP, bok]
  have hL : (S.set l (.lst [.int x])).length = S.length := List.length_set
  have hc : zVY S (S.set l (.lst [.int x]) ++ T) := by
    refine ⟨by rw [List.length_append, hL]; (first | lia | omega), fun m hm => ?_⟩
    rw [List.getElem?_append_left (by rw [hL]; exact hm)]
    by_cases e : l = m
    · subst e
      exact .inr ⟨_, List.getElem?_set_self hm, wG fun e he => by rw [List.mem_singleton.mp he]; exact hJ _ _⟩
    · exact .inl (List.getElem?_set_ne e)
  unfold zJV
  rw [if_pos hc]
  have e : (S.set l (.lst [.int x]) ++ T).take S.length = S.set l (.lst [.int x]) := by rw [← hL]; simp
  cases d with
  | loc m => exact absurd rfl (hd m)
  | _ => dsimp only; rw [if_pos h, e]
structure Test where
  l : Side
  w : List Nat
  r : Side
noncomputable def words3 : List (List Nat) := [[115, 97, 109, 101], [117, 110, 108, 105, 107, 101], [108, 101, 115, 115]]
noncomputable def testM (t : Test) : MV := .tup [wF t.l, .str t.w, wF t.r]
noncomputable def zQL (ws : List Int) (t : Test) : Prop := zZF ws t.l ∧ t.w ∈ words3 ∧ zZF ws t.r
theorem zUO {ws : List Int} {t : Test} (h : zQL ws t) (n : Nat) : lo n (testM t) := wY (wG fun e he => by
  simp only [List.mem_cons, List.not_mem_nil, or_false] at he
  rcases he with rfl | rfl | rfl
  · exact zOU h.1 n
  · exact zHO _ _
  · exact zOU h.2.2 n)
abbrev T8 (l : Nat) (th tb : MV) (lp lt : Nat) (x5 x6 x7 : Option MV) : Rho := [some (.loc l), some th, some tb, some (.loc lp), some (.loc lt), x5, x6, x7]
theorem yDC {ts : List (Int × Int)} (hT : TOk ts) {th : List Nat} (hth : ThOk ts th) {l lp lt : Nat} {x : Int} {vs : List MV} {S : Sto} {x5 x6 x7 : Option MV} {qs : List Test} (hne : l ≠ lp) (hlt : l ≠ lt) (hv : vs.length = 7) (hV : ∀ d ∈ vs, Vl d) (hP : S[lp]? = some (.lst vs)) (hS : S[l]? = some (.lst [.int x]))
    (hQ : S[lt]? = some (.lst (qs.map testM))) (hql : qs.length < 1000) : ∃ (q : Test) (x' : Int) (y6 y7 : Option MV), zQL (th.map (wid ts)) q ∧ bS (T8 l (.tup (th.map yN)) (.tup (ts.map tbl)) lp lt x5 x6 x7) S = .ok (.next (T8 l (.tup (th.map yN)) (.tup (ts.map tbl)) lp lt x5 y6 y7)) ((S.set l (.lst [.int x'])).set lt (.lst ((qs ++ [q]).map testM))) := by
  have t1 := zFX (n := 3) hS (by decide) (by decide)
  have hS1 := get_set (o' := .lst [.int (x / 3)]) hS
  have hP1 : (S.set l (.lst [.int (x / 3)]))[lp]? = some (.lst vs) := by rw [xR hne]; exact hP
  obtain ⟨w, hw⟩ := dG (xs := words3) (i := x % 3) (Int.emod_nonneg _ (by decide)) (by have := Int.emod_lt_of_pos x (show (0 : Int) < 3 by decide); show x % 3 < 3; exact this)
  have hww : atI [MV.str [115, 97, 109, 101], MV.str [117, 110, 108, 105, 107, 101], MV.str [108, 101, 115, 115]] (x % 3) = some (.str w) := by
    have e : ([MV.str [115, 97, 109, 101], MV.str [117, 110, 108, 105, 107, 101], MV.str [108, 101, 115, 115]] : List MV) = words3.map MV.str := rfl
    rw [e]
    unfold atI at hw ⊢
    rw [List.length_map]
    cases z : ixN words3.length (x % 3) with
    | none => rw [z] at hw; cases hw
    | some j =>
      rw [z] at hw
      show (words3.map MV.str)[j]? = _
      rw [List.getElem?_map, show words3[j]? = some w from hw]
      rfl
  have e1 : cR (T8 l (.tup (th.map yN)) (.tup (ts.map tbl)) lp lt x5 x6 x7) S = .ok (.next (T8 l (.tup (th.map yN)) (.tup (ts.map tbl)) lp lt x5 (some (.str w)) x7)) (S.set l (.lst [.int (x / 3)])) := by
    unfold cR
    simp? [t1, zZA hww]
  obtain ⟨sa, xa, oka, ca⟩ := yBK hT hth hne hv hV hP1 hS1
  rw [List.set_set] at ca
  have e2 : cS (T8 l (.tup (th.map yN)) (.tup (ts.map tbl)) lp lt x5 (some (.str w)) x7) (S.set l (.lst [.int (x / 3)])) = .ok (.next (T8 l (.tup (th.map yN)) (.tup (ts.map tbl)) lp lt x5 (some (.str w)) (some (wF sa)))) (S.set l (.lst [.int xa])) := by
    unfold cS
    simp? [ca]
  have hS2 := get_set (o' := .lst [.int xa]) hS
  have hP2 : (S.set l (.lst [.int xa]))[lp]? = some (.lst vs) := by rw [xR hne]; exact hP
  have hQ2 : (S.set l (.lst [.int xa]))[lt]? = some (.lst (qs.map testM)) := by rw [xR hlt]; exact hQ
  obtain ⟨sb, xb, okb, cb⟩ := yBK hT hth hne hv hV hP2 hS2
  rw [List.set_set] at cb
  have hQ3 : (S.set l (.lst [.int xb]))[lt]? = some (.lst (qs.map testM)) := by rw [xR hlt]; exact hQ
  have e3 : cT (T8 l (.tup (th.map yN)) (.tup (ts.map tbl)) lp lt x5 (some (.str w)) (some (wF sa))) (S.set l (.lst [.int xa])) = .ok (.next (T8 l (.tup (th.map yN)) (.tup (ts.map tbl)) lp lt x5 (some (.str w)) (some (wF sa)))) ((S.set l (.lst [.int xb])).set lt (.lst ((qs ++ [Test.mk sa w sb]).map testM))) := by
    unfold cT
    simp? [zFV hQ2, cb, zMB hQ3 (show (qs.map testM).length < 1000000 by rw [List.length_map]; (first | lia | omega))]
    rw [List.map_append]
    rfl
  refine ⟨⟨sa, w, sb⟩, xb, some (.str w), some (wF sa), ⟨oka, dH (P := fun w => w ∈ words3) (fun w h => h) hw, okb⟩, ?_⟩
  unfold bS
  rw [zF e1, zF e2, e3]
theorem zWL {ts : List (Int × Int)} (hT : TOk ts) {th : List Nat} (hth : ThOk ts th) {l lp : Nat} {x : Int} {vs : List MV} {S : Sto} (hne : l ≠ lp) (hv : vs.length = 7) (hV : ∀ d ∈ vs, Vl d) (hP : S[lp]? = some (.lst vs)) (hS : S[l]? = some (.lst [.int x])) :
    ∃ (qs : List Test) (x' : Int), 1 ≤ qs.length ∧ qs.length ≤ 3 ∧ (∀ q ∈ qs, zQL (th.map (wid ts)) q) ∧ zJ 4 wH [.val (.loc l), .val (.tup (th.map yN)), .val (.tup (ts.map tbl)), .val (.loc lp)] S = .ok (.val (.tup (qs.map testM))) (S.set l (.lst [.int x'])) := by
  have hl : l < S.length := (List.getElem?_eq_some_iff.mp hS).1
  have hlp : lp < S.length := (List.getElem?_eq_some_iff.mp hP).1
  have hs : yB ["_law_state", "_law_there", "_law_tables_here", "_law_pool_here", "_law_tests_here", "_law_k", "_law_word", "_law_left"] [.loc l, .tup (th.map yN), .tup (ts.map tbl), .loc lp] = [some (.loc l), some (.tup (th.map yN)), some (.tup (ts.map tbl)), some (.loc lp), none, none, none, none] := rfl
  have e1 : zBF [some (.loc l), some (.tup (th.map yN)), some (.tup (ts.map tbl)), some (.loc lp), none, none, none, none] S = .ok (.next (T8 l (.tup (th.map yN)) (.tup (ts.map tbl)) lp S.length none none none)) (S ++ [.lst []]) := by
    unfold zBF
    simp? [bok]
  have hSa : (S ++ [MO.lst []])[l]? = some (.lst [.int x]) := by rw [List.getElem?_append_left hl]; exact hS
  have t1 := zFX (n := 6) hSa (by decide) (by decide)
  have hset : ∀ (y : Int) (zs : List Test), List.set (S ++ [MO.lst (zs.map testM)]) l (MO.lst [.int y]) = S.set l (.lst [.int y]) ++ [.lst (zs.map testM)] := fun y zs => List.set_append_left _ _ hl
  rw [show S ++ [MO.lst []] = S ++ [MO.lst (([] : List Test).map testM)] from rfl, hset] at t1
  obtain ⟨m, hm⟩ := dG (xs := [MV.int 1, MV.int 1, MV.int 2, MV.int 1, MV.int 2, MV.int 3]) (i := x % 6) (Int.emod_nonneg _ (by decide)) (by have := Int.emod_lt_of_pos x (show (0 : Int) < 6 by decide); show x % 6 < 6; exact this)
  obtain ⟨mi, rfl, m1, m3⟩ : ∃ v, m = .int v ∧ 1 ≤ v ∧ v ≤ 3 := dH (P := fun e => ∃ v, e = .int v ∧ (1 : Int) ≤ v ∧ v ≤ 3) (by
    intro e he; simp only [List.mem_cons, List.not_mem_nil, or_false] at he
    rcases he with rfl | rfl | rfl | rfl | rfl | rfl <;> exact ⟨_, rfl, by decide, by decide⟩) hm
  have hlen : ((List.range mi.toNat).map fun k => MV.int (k : Nat)).length = mi.toNat := by rw [List.length_map, List.length_range]
  obtain ⟨ρ', S', e, x5, x6, x7, x', qs, hρ, hS', hql, hqk⟩ := zHP (L := (List.range mi.toNat).map fun k => MV.int (k : Nat)) (gf := gNm 5) (body := bS) (gs := []) (S := S.set l (.lst [.int (x / 6)]) ++ [.lst (([] : List Test).map testM)]) (ρ := T8 l (.tup (th.map yN)) (.tup (ts.map tbl)) lp S.length none none none)
    (fun i ρ S' => ∃ (x5 x6 x7 : Option MV) (x' : Int) (qs : List Test), ρ = T8 l (.tup (th.map yN)) (.tup (ts.map tbl)) lp S.length x5 x6 x7 ∧ S' = S.set l (.lst [.int x']) ++ [.lst (qs.map testM)] ∧ qs.length = i ∧ ∀ q ∈ qs, zQL (th.map (wid ts)) q) (fun i d hi ρ S1 ⟨x5, x6, x7, x', qs, hρ, hS1, hql, hqk⟩ => by
      subst hρ hS1
      have hil : i < 4 := by have := (List.getElem?_eq_some_iff.mp hi).1; (first | lia | omega)
      have hLs : (S.set l (.lst [.int x'])).length = S.length := List.length_set
      have a1 : (S.set l (.lst [.int x']) ++ [MO.lst (qs.map testM)])[lp]? = some (.lst vs) := by rw [List.getElem?_append_left (by rw [hLs]; exact hlp), xR hne]; exact hP
      have a2 : (S.set l (.lst [.int x']) ++ [MO.lst (qs.map testM)])[l]? = some (.lst [.int x']) := by rw [List.getElem?_append_left (by rw [hLs]; exact hl)]; exact get_set hS
      have a3 : (S.set l (.lst [.int x']) ++ [MO.lst (qs.map testM)])[S.length]? = some (.lst (qs.map testM)) := by rw [← hLs]; simp
      obtain ⟨q, x'', y6, y7, hq, hb⟩ := yDC hT hth (x5 := some d) (x6 := x6) (x7 := x7) (lt := S.length) (qs := qs) hne (by (first | lia | omega)) hv hV a1 a2 a3 (by (first | lia | omega))
      have hfin : List.set (List.set (S.set l (.lst [.int x']) ++ [MO.lst (qs.map testM)]) l (MO.lst [.int x''])) S.length (MO.lst ((qs ++ [q]).map testM)) = S.set l (.lst [.int x'']) ++ [.lst ((qs ++ [q]).map testM)] := by
        rw [List.set_append_left _ _ (by rw [hLs]; exact hl), List.set_set]
        have hL2 : (S.set l (.lst [.int x''])).length = S.length := List.length_set
        rw [← hL2]
        simp
      rw [hfin] at hb
      refine ⟨T8 l (.tup (th.map yN)) (.tup (ts.map tbl)) lp S.length (some d) y6 y7, _, ?_, gP _, some d, y6, y7, x'', qs ++ [q], rfl, rfl, by rw [List.length_append, hql]; rfl, ?_⟩
      · rw [show gNm 5 d (T8 l (.tup (th.map yN)) (.tup (ts.map tbl)) lp S.length x5 x6 x7) (S.set l (.lst [.int x']) ++ [MO.lst (qs.map testM)]) = .ok (T8 l (.tup (th.map yN)) (.tup (ts.map tbl)) lp S.length (some d) x6 x7) (S.set l (.lst [.int x']) ++ [MO.lst (qs.map testM)]) from rfl, bok, hb]
      · intro z hz
        rw [List.mem_append, List.mem_singleton] at hz
        rcases hz with hz | rfl
        · exact hqk z hz
        · exact hq) ⟨none, none, none, x / 6, [], rfl, rfl, rfl, fun p hp => by simp at hp⟩
  subst hρ hS'
  rw [hlen] at hql
  have e2 : zBG (T8 l (.tup (th.map yN)) (.tup (ts.map tbl)) lp S.length none none none) (S ++ [MO.lst []]) = .ok (.next (T8 l (.tup (th.map yN)) (.tup (ts.map tbl)) lp S.length x5 x6 x7)) (S.set l (.lst [.int x']) ++ [.lst (qs.map testM)]) := by
    unfold zBG
    rw [show S ++ [MO.lst []] = S ++ [MO.lst (([] : List Test).map testM)] from rfl]
    simp? [t1, zZA hm]
    rw [zES (by (first | lia | omega)), bok]
    exact e
  have hLs : (S.set l (.lst [.int x'])).length = S.length := List.length_set
  have e3 : zBH (T8 l (.tup (th.map yN)) (.tup (ts.map tbl)) lp S.length x5 x6 x7) (S.set l (.lst [.int x']) ++ [.lst (qs.map testM)]) = .ok (.ret (.val (.tup (qs.map testM)))) (S.set l (.lst [.int x']) ++ [.lst (qs.map testM)]) := by
    unfold zBH
    simp? [zEH (S := S.set l (.lst [.int x']) ++ [.lst (qs.map testM)]) (l := S.length) (ds := qs.map testM) (by rw [← hLs]; simp)]
  refine ⟨qs, x', by (first | lia | omega), by (first | lia | omega), hqk, yDB (T := [.lst (qs.map testM)]) rfl ?_ (wY (wG fun d hd => ?_)) (fun l => by simp)⟩
  · show wH [.loc l, .tup (th.map yN), .tup (ts.map tbl), .loc lp] S = _
    unfold wH zFU
    rw [hs, zF e1, zF e2, e3]
    rfl
  · obtain ⟨q, hq, rfl⟩ := List.mem_map.mp hd
    exact zUO (hqk q hq) _
theorem yBL {gf : MV → Rho → Sto → R Rho} {cf : Rho → Sto → R Bool} {ef : Rho → Sto → R Er} {ρb : Rho} {gs : List (Nat × List MV)} {P : MV → Prop} {I : Sto → Prop} :
    ∀ {ds : List MV} {S : Sto}, (∀ d ∈ ds, ∀ S, I S → ∃ ρ1 y S', gf d ρb S = .ok ρ1 S ∧ cf ρ1 S = .ok true S ∧ ef ρ1 S = .ok (.val y) S' ∧ P y ∧ I S' ∧ stay gs S') → I S → ∃ out S', xW gf cf ef ρb gs ds S = .ok out S' ∧ I S' ∧ out.length = ds.length ∧ ∀ o ∈ out, P o
  | [], S, _, h => ⟨[], S, rfl, h, rfl, fun o h => by simp at h⟩
  | d :: ds, S, st, h => by
    obtain ⟨ρ1, y, S1, h1, h2, h3, h4, h5, h6⟩ := st d List.mem_cons_self S h
    obtain ⟨out, S2, e, i2, hl, hp⟩ := yBL (ds := ds) (S := S1) (fun d hd => st d (List.mem_cons_of_mem _ hd)) h5
    refine ⟨y :: out, S2, ?_, i2, by rw [List.length_cons, List.length_cons, hl], fun o ho => (List.mem_cons.mp ho).elim (fun z => z ▸ h4) (hp o)⟩
    unfold xW
    rw [h1, zAP, bok, h2, zAP, bok, if_pos rfl, h3, zAP, bok]
    unfold zEP
    rw [bok, if_pos h6, e]
    rfl
inductive Rule where
  | never (t : Nat) (qs : List Test) | apart (t u : Nat) (qs : List Test) | tie (t : Nat) (cs : List Nat) (u : Nat) (ds : List Nat)
noncomputable def zDR : List Nat := [110, 101, 118, 101, 114]
noncomputable def cV : List Nat := [97, 112, 97, 114, 116]
noncomputable def yGN : List Nat := [116, 105, 101]
noncomputable def yA : Rule → MV
  | .never t qs => .tup [.str zDR, .int (t : Nat), .tup (qs.map testM)]
  | .apart t u qs => .tup [.str cV, .int (t : Nat), .int (u : Nat), .tup (qs.map testM)]
  | .tie t cs u ds => .tup [.str yGN, .int (t : Nat), .tup (cs.map yN), .int (u : Nat), .tup (ds.map yN)]
noncomputable def zJP (ts : List (Int × Int)) : Rule → Prop
  | .never t qs => t < ts.length ∧ 1 ≤ qs.length ∧ qs.length ≤ 3 ∧ ∀ q ∈ qs, zQL [wid ts t] q
  | .apart t u qs => t < ts.length ∧ u < ts.length ∧ 1 ≤ qs.length ∧ qs.length ≤ 3 ∧ ∀ q ∈ qs, zQL [wid ts t, wid ts u] q
  | .tie t cs u ds => t < ts.length ∧ u < ts.length ∧ 1 ≤ cs.length ∧ cs.length ≤ 3 ∧ ds.length = cs.length ∧ (∀ c ∈ cs, (c : Int) < wid ts t) ∧ ∀ d ∈ ds, (d : Int) < wid ts u
theorem yBM {ts : List (Int × Int)} {r : Rule} (h : zJP ts r) (n : Nat) : lo n (yA r) := by
  have nm : ∀ (cs : List Nat), lo n (.tup (cs.map yN)) := fun cs => wY (wG fun e he => by
    obtain ⟨c, _, rfl⟩ := List.mem_map.mp he
    exact hJ _ _)
  cases r with
  | never t qs =>
    refine wY (wG fun e he => ?_)
    simp only [List.mem_cons, List.not_mem_nil, or_false] at he
    rcases he with rfl | rfl | rfl
    · exact zHO _ _
    · exact hJ _ _
    · exact wY (wG fun e he => by obtain ⟨q, hq, rfl⟩ := List.mem_map.mp he; exact zUO (h.2.2.2 q hq) n)
  | apart t u qs =>
    refine wY (wG fun e he => ?_)
    simp only [List.mem_cons, List.not_mem_nil, or_false] at he
    rcases he with rfl | rfl | rfl | rfl
    · exact zHO _ _
    · exact hJ _ _
    · exact hJ _ _
    · exact wY (wG fun e he => by obtain ⟨q, hq, rfl⟩ := List.mem_map.mp he; exact zUO (h.2.2.2.2 q hq) n)
  | tie t cs u ds =>
    refine wY (wG fun e he => ?_)
    simp only [List.mem_cons, List.not_mem_nil, or_false] at he
    rcases he with rfl | rfl | rfl | rfl | rfl
    · exact zHO _ _
    · exact hJ _ _
    · exact nm cs
    · exact hJ _ _
    · exact nm ds
theorem zZG (r : Rule) (l : Nat) : yA r ≠ .loc l := by cases r <;> (intro h; cases h)
abbrev U9 (c : MV) (tb : MV) (lp l : Nat) (k t u : Option MV) (x7 x8 : Option MV) : Rho := [some c, some tb, some (.loc lp), some (.loc l), k, t, u, x7, x8]
theorem tup1 (a : MV) (S : Sto) : nG [.val a] S = .ok (.val (.tup [a])) S := zPZ (by simp)
theorem tup4 (a b c d : MV) (S : Sto) : nG [.val a, .val b, .val c, .val d] S = .ok (.val (.tup [a, b, c, d])) S := zPZ (by simp)
theorem tup5 (a b c d e : MV) (S : Sto) : nG [.val a, .val b, .val c, .val d, .val e] S = .ok (.val (.tup [a, b, c, d, e])) S := zPZ (by simp)
theorem lst5 (a b c d e : MV) (S : Sto) : zBW [.val a, .val b, .val c, .val d, .val e] S = .ok (.new [a, b, c, d, e]) S := zHQ (by simp)
abbrev SN (S : Sto) (x : Int) : Sto := S ++ [MO.lst [.int x]]
theorem yGO (S : Sto) (x : Int) : (SN S x)[S.length]? = some (.lst [.int x]) := by simp
theorem zZH (S : Sto) (x y : Int) : List.set (SN S x) S.length (MO.lst [.int y]) = SN S y := by simp
theorem zMC (S : Sto) (x : Int) {n : Int} (h0 : 0 < n) (h1 : n < 1073741824) : zJ 2 yE [.val (.loc S.length), .val (.int n)] (SN S x) = .ok (.val (.int (x % n))) (SN S (x / n)) := by
  have := zFX (n := n) (yGO S x) h0 h1
  rw [zZH] at this
  exact this
theorem zWM (x : Int) {n : Nat} (h : 0 < n) : ∃ t : Nat, x % (n : Int) = t ∧ t < n := by
  have h0 : 0 ≤ x % (n : Int) := Int.emod_nonneg _ (by (first | lia | omega))
  have h1 : x % (n : Int) < n := Int.emod_lt_of_pos _ (by (first | lia | omega))
  obtain ⟨t, ht⟩ := Int.eq_ofNat_of_zero_le h0
  exact ⟨t, ht, by (first | lia | omega)⟩
theorem yBN {ts : List (Int × Int)} (hT : TOk ts) {t : Nat} (ht : t < ts.length) {ef : Rho → Sto → R Er} {ρb : Rho} {S : Sto} {x : Int} {mi : Int}
    (hef : ∀ (d : MV) (y : Int), ef (ρb.set 0 (some d)) (SN S y) = zJ 2 yE [.val (.loc S.length), .val (.int (wid ts t))] (SN S y)) : ∃ (cs : List Nat) (x' : Int), xW (gNm 0) (fun ρ S => (R.ok true S)) ef ρb [] ((List.range mi.toNat).map fun k => MV.int (k : Nat)) (SN S x) = .ok (cs.map yN) (SN S x') ∧ cs.length = mi.toNat ∧ ∀ c ∈ cs, (c : Int) < wid ts t := by
  have hw := yGM hT ht
  obtain ⟨out, S', e, ⟨x', rfl⟩, hl, hp⟩ := yBL (gf := gNm 0) (cf := fun ρ S => (R.ok true S)) (ef := ef) (ρb := ρb) (gs := []) (P := fun y => ∃ c : Nat, y = yN c ∧ (c : Int) < wid ts t) (I := fun S' => ∃ y, S' = SN S y) (ds := (List.range mi.toNat).map fun k => MV.int (k : Nat)) (S := SN S x) (fun d hd S1 ⟨y, hy⟩ => by
    subst hy
    have h0 : 0 ≤ y % wid ts t := Int.emod_nonneg _ (by (first | lia | omega))
    have h1 : y % wid ts t < wid ts t := Int.emod_lt_of_pos _ (by (first | lia | omega))
    obtain ⟨c, hc⟩ := Int.eq_ofNat_of_zero_le h0
    refine ⟨ρb.set 0 (some d), .int (y % wid ts t), SN S (y / wid ts t), rfl, rfl, ?_, ⟨c, by rw [hc]; rfl, by (first | lia | omega)⟩, ⟨_, rfl⟩, gP _⟩
    rw [hef, zMC S y (by (first | lia | omega)) (by (first | lia | omega))]) ⟨x, rfl⟩
  have : ∀ (o : List MV), (∀ y ∈ o, ∃ c : Nat, y = yN c ∧ (c : Int) < wid ts t) → ∃ cs : List Nat, o = cs.map yN ∧ ∀ c ∈ cs, (c : Int) < wid ts t := by
    intro o
    induction o with
    | nil => exact fun _ => ⟨[], rfl, fun c hc => by simp at hc⟩
    | cons a o ih =>
      intro h
      obtain ⟨c, rfl, hc⟩ := h a List.mem_cons_self
      obtain ⟨cs, rfl, hcs⟩ := ih fun y hy => h y (List.mem_cons_of_mem _ hy)
      exact ⟨c :: cs, rfl, fun d hd => (List.mem_cons.mp hd).elim (fun e => e ▸ hc) (hcs d)⟩
  obtain ⟨cs, rfl, hcs⟩ := this out hp
  exact ⟨cs, x', e, by rw [List.length_map, List.length_map, List.length_range] at hl; exact hl, hcs⟩
theorem yBO {ts : List (Int × Int)} {t : Nat} (ht : t < ts.length) (S : Sto) : ∃ e, ixF (.val (.tup (ts.map tbl))) (.val (.int (t : Nat))) S = .ok (.val e) S ∧ ixF (.val e) (.val (.int 0)) S = .ok (.val (.int (wid ts t))) S := by
  have hgt : ts[t]? = some ts[t] := List.getElem?_eq_getElem ht
  exact ⟨tbl ts[t], ix_tup (zQJ hgt), by rw [zNH hgt]; rfl⟩
theorem yJU {ts : List (Int × Int)} (hT : TOk ts) (c : Int) {lp : Nat} {vs : List MV} {S : Sto} (hv : vs.length = 7) (hV : ∀ d ∈ vs, Vl d) (hP : S[lp]? = some (.lst vs)) :
    ∃ r, zJP ts r ∧ zJ 3 wS [.val (.int c), .val (.tup (ts.map tbl)), .val (.loc lp)] S = .ok (.val (yA r)) S := by
  obtain ⟨n, hn⟩ := zUN c 2147483543 ⟨by decide, by decide⟩ S
  have hlp : lp < S.length := (List.getElem?_eq_some_iff.mp hP).1
  have hne : S.length ≠ lp := by (first | lia | omega)
  have hPn : ∀ x, (SN S x)[lp]? = some (.lst vs) := fun x => by rw [List.getElem?_append_left hlp]; exact hP
  have hp : 0 < ts.length := hT.1
  have hl4 := hT.2.1
  have hlen : ∀ S, wX [.val (.tup (ts.map tbl))] S = .ok (.val (.int ts.length)) S := fun S => by rw [zFW, List.length_map]
  have fin : ∀ (r : Rule) (x : Int), zJP ts r → wS [.int c, .tup (ts.map tbl), .loc lp] S = .ok (.val (yA r)) (SN S x) → ∃ r, zJP ts r ∧ zJ 3 wS [.val (.int c), .val (.tup (ts.map tbl)), .val (.loc lp)] S = .ok (.val (yA r)) S :=
    fun r x hr h => ⟨r, hr, zAQ (T := [.lst [.int x]]) rfl h (yBM hr _) (zZG r)⟩
  have hs : yB ["_law_cell", "_law_tables_here", "_law_pool_here", "_law_state", "_law_kind", "_law_t", "_law_u", "_law_many", "_law_columns"] [.int c, .tup (ts.map tbl), .loc lp] = [some (.int c), some (.tup (ts.map tbl)), some (.loc lp), none, none, none, none, none, none] := rfl
  have e1 : zDK [some (.int c), some (.tup (ts.map tbl)), some (.loc lp), none, none, none, none, none, none] S = .ok (.next (U9 (.int c) (.tup (ts.map tbl)) lp S.length none none none none none)) (SN S n) := by
    unfold zDK
    simp? [hn]
  have e2 : zDL (U9 (.int c) (.tup (ts.map tbl)) lp S.length none none none none none) (SN S n) = .ok (.next (U9 (.int c) (.tup (ts.map tbl)) lp S.length (some (.int (n % 4))) none none none none)) (SN S (n / 4)) := by
    unfold zDL
    simp? [zMC S n (n := 4) (by decide) (by decide)]
  obtain ⟨t, ht, htl⟩ := zWM (n / 4) hp
  have e3 : zDM (U9 (.int c) (.tup (ts.map tbl)) lp S.length (some (.int (n % 4))) none none none none) (SN S (n / 4)) = .ok (.next (U9 (.int c) (.tup (ts.map tbl)) lp S.length (some (.int (n % 4))) (some (.int (t : Nat))) none none none)) (SN S (n / 4 / ts.length)) := by
    unfold zDM
    simp? [hlen, zMC S (n / 4) (n := (ts.length : Int)) (by (first | lia | omega)) (by (first | lia | omega))]
    rw [ht]
  obtain ⟨u, hu, hul⟩ := zWM (n / 4 / ts.length) hp
  have e4 : zDN (U9 (.int c) (.tup (ts.map tbl)) lp S.length (some (.int (n % 4))) (some (.int (t : Nat))) none none none) (SN S (n / 4 / ts.length)) = .ok (.next (U9 (.int c) (.tup (ts.map tbl)) lp S.length (some (.int (n % 4))) (some (.int (t : Nat))) (some (.int (u : Nat))) none none)) (SN S (n / 4 / ts.length / ts.length)) := by
    unfold zDN
    simp? [hlen, zMC S (n / 4 / ts.length) (n := (ts.length : Int)) (by (first | lia | omega)) (by (first | lia | omega))]
    rw [hu]
  generalize n / 4 / ts.length / ts.length = x4 at e4
  cases hb : decide (n % 4 = 0) with
  | true =>
    obtain ⟨qs, x', q1, q2, q3, hc⟩ := zWL hT (th := [t]) ⟨by simp, by simp, fun z hz => by rw [List.mem_singleton.mp hz]; exact htl⟩ hne hv hV (hPn x4) (yGO S x4)
    rw [zZH] at hc
    have e5 : gA (U9 (.int c) (.tup (ts.map tbl)) lp S.length (some (.int (n % 4))) (some (.int (t : Nat))) (some (.int (u : Nat))) none none) (SN S x4) = .ok (.ret (.val (yA (.never t qs)))) (SN S x') := by
      unfold gA
      have hc' : zJ 4 wH [.val (.loc S.length), .val (.tup [.int (t : Nat)]), .val (.tup (ts.map tbl)), .val (.loc lp)] (SN S x4) = .ok (.val (.tup (qs.map testM))) (SN S x') := hc
      simp? [hb, tup1, hc']
      rfl
    refine fin (.never t qs) x' ⟨htl, q1, q2, q3⟩ ?_
    unfold wS dU
    rw [hs, zF e1, zF e2, zF e3, zF e4, bF e5]
    rfl
  | false =>
    have e5 : gA (U9 (.int c) (.tup (ts.map tbl)) lp S.length (some (.int (n % 4))) (some (.int (t : Nat))) (some (.int (u : Nat))) none none) (SN S x4) = .ok (.next (U9 (.int c) (.tup (ts.map tbl)) lp S.length (some (.int (n % 4))) (some (.int (t : Nat))) (some (.int (u : Nat))) none none)) (SN S x4) := by
      unfold gA
      simp? [hb]
      rfl
    cases hb2 : decide (n % 4 < 3) with
    | true =>
      obtain ⟨qs, x', q1, q2, q3, hc⟩ := zWL hT (th := [t, u]) ⟨by simp, by simp, fun z hz => by simp at hz; rcases hz with rfl | rfl; (exact htl); exact hul⟩ hne hv hV (hPn x4) (yGO S x4)
      rw [zZH] at hc
      have e6 : gB (U9 (.int c) (.tup (ts.map tbl)) lp S.length (some (.int (n % 4))) (some (.int (t : Nat))) (some (.int (u : Nat))) none none) (SN S x4) = .ok (.ret (.val (yA (.apart t u qs)))) (SN S x') := by
        unfold gB
        have hc' : zJ 4 wH [.val (.loc S.length), .val (.tup [.int (t : Nat), .int (u : Nat)]), .val (.tup (ts.map tbl)), .val (.loc lp)] (SN S x4) = .ok (.val (.tup (qs.map testM))) (SN S x') := hc
        simp? [lt_int, hb2, tup4, hc']
        rfl
      refine fin (.apart t u qs) x' ⟨htl, hul, q1, q2, q3⟩ ?_
      unfold wS dU
      rw [hs, zF e1, zF e2, zF e3, zF e4, zF e5, bF e6]
      rfl
    | false =>
      have e6 : gB (U9 (.int c) (.tup (ts.map tbl)) lp S.length (some (.int (n % 4))) (some (.int (t : Nat))) (some (.int (u : Nat))) none none) (SN S x4) = .ok (.next (U9 (.int c) (.tup (ts.map tbl)) lp S.length (some (.int (n % 4))) (some (.int (t : Nat))) (some (.int (u : Nat))) none none)) (SN S x4) := by
        unfold gB
        simp? [lt_int, hb2]
        rfl
      obtain ⟨m, hm⟩ := dG (xs := [MV.int 1, MV.int 2, MV.int 1, MV.int 3, MV.int 1]) (i := x4 % 5) (Int.emod_nonneg _ (by decide)) (by have := Int.emod_lt_of_pos x4 (show (0 : Int) < 5 by decide); show x4 % 5 < 5; exact this)
      obtain ⟨mi, rfl, m1, m3⟩ : ∃ v, m = .int v ∧ 1 ≤ v ∧ v ≤ 3 := dH (P := fun e => ∃ v, e = .int v ∧ (1 : Int) ≤ v ∧ v ≤ 3) (by
        intro e he; simp only [List.mem_cons, List.not_mem_nil, or_false] at he
        rcases he with rfl | rfl | rfl | rfl | rfl <;> exact ⟨_, rfl, by decide, by decide⟩) hm
      have e7 : zDO (U9 (.int c) (.tup (ts.map tbl)) lp S.length (some (.int (n % 4))) (some (.int (t : Nat))) (some (.int (u : Nat))) none none) (SN S x4) = .ok (.next (U9 (.int c) (.tup (ts.map tbl)) lp S.length (some (.int (n % 4))) (some (.int (t : Nat))) (some (.int (u : Nat))) (some (.int mi)) none)) (SN S (x4 / 5)) := by
        unfold zDO
        simp? [lst5, zMC S x4 (n := 5) (by decide) (by decide), zZA hm]
      obtain ⟨cs, x8, hcs, hcl, hcw⟩ := yBN hT htl (ef := gI) (ρb := [none, some (.tup (ts.map tbl)), some (.loc S.length), some (.int (t : Nat))]) (S := S) (x := x4 / 5) (mi := mi) (fun d y => by
        obtain ⟨e, i1, i2⟩ := yBO htl (SN S y)
        show gI [some d, some (.tup (ts.map tbl)), some (.loc S.length), some (.int (t : Nat))] (SN S y) = _
        unfold gI
        simp? [i1, i2])
      have hll : ((List.range mi.toNat).map fun k => MV.int (k : Nat)).length < 1000000 := by rw [List.length_map, List.length_range]; (first | lia | omega)
      have e8 : zDP (U9 (.int c) (.tup (ts.map tbl)) lp S.length (some (.int (n % 4))) (some (.int (t : Nat))) (some (.int (u : Nat))) (some (.int mi)) none) (SN S (x4 / 5)) = .ok (.next (U9 (.int c) (.tup (ts.map tbl)) lp S.length (some (.int (n % 4))) (some (.int (t : Nat))) (some (.int (u : Nat))) (some (.int mi)) (some (.tup (cs.map yN))))) (SN S x8) := by
        unfold zDP
        simp? [zES (S := SN S (x4 / 5)) (show -(2 ^ 62) ≤ mi ∧ mi < 2 ^ 62 by (first | lia | omega))]
        rw [if_pos hll]
        rw [show blk 1 [1, 3, 5] (U9 (.int c) (.tup (ts.map tbl)) lp S.length (some (.int (n % 4))) (some (.int (t : Nat))) (some (.int (u : Nat))) (some (.int mi)) none) = [none, some (.tup (ts.map tbl)), some (.loc S.length), some (.int (t : Nat))] from rfl]
        rw [show zGV = (fun ρ S => (R.ok true S)) from rfl, hcs]
        rfl
      obtain ⟨ds, x9, hds, hdl, hdw⟩ := yBN hT hul (ef := gJ) (ρb := [none, some (.tup (ts.map tbl)), some (.loc S.length), some (.int (u : Nat))]) (S := S) (x := x8) (mi := mi) (fun d y => by
        obtain ⟨e, i1, i2⟩ := yBO hul (SN S y)
        show gJ [some d, some (.tup (ts.map tbl)), some (.loc S.length), some (.int (u : Nat))] (SN S y) = _
        unfold gJ
        simp? [i1, i2])
      have e9 : zDQ (U9 (.int c) (.tup (ts.map tbl)) lp S.length (some (.int (n % 4))) (some (.int (t : Nat))) (some (.int (u : Nat))) (some (.int mi)) (some (.tup (cs.map yN)))) (SN S x8) = .ok (.ret (.val (yA (.tie t cs u ds)))) (SN S x9) := by
        unfold zDQ
        simp? [zES (S := SN S x8) (show -(2 ^ 62) ≤ mi ∧ mi < 2 ^ 62 by (first | lia | omega))]
        rw [if_pos hll]
        rw [show blk 1 [1, 3, 6] (U9 (.int c) (.tup (ts.map tbl)) lp S.length (some (.int (n % 4))) (some (.int (t : Nat))) (some (.int (u : Nat))) (some (.int mi)) (some (.tup (cs.map yN)))) = [none, some (.tup (ts.map tbl)), some (.loc S.length), some (.int (u : Nat))] from rfl]
        rw [show zGW = (fun ρ S => (R.ok true S)) from rfl, hds]
        simp? [show kI [.new (ds.map yN)] (SN S x9) = .ok (.val (.tup (ds.map yN))) (SN S x9) from rfl, tup5]
        rfl
      refine fin (.tie t cs u ds) x9 ⟨htl, hul, by (first | lia | omega), by (first | lia | omega), by (first | lia | omega), hcw, hdw⟩ ?_
      unfold wS dU
      rw [hs, zF e1, zF e2, zF e3, zF e4, zF e5, zF e6, zF e7, zF e8, e9]
      rfl
theorem le_int (i j : Int) (S : Sto) : leF (.val (.int i)) (.val (.int j)) S = .ok (.val (.bl (decide (i ≤ j)))) S := rfl
theorem le_str (i j : List Nat) (S : Sto) : leF (.val (.str i)) (.val (.str j)) S = .ok (.val (.bl (!decide (j < i)))) S := rfl
theorem yGP (i : Int) (S : Sto) : bZ [.val (.int i), .val (.typ "int")] S = .ok (.val (.bl true)) S := rfl
theorem yGQ (i : Int) (S : Sto) : bZ [.val (.int i), .val (.typ "bool")] S = .ok (.val (.bl false)) S := rfl
theorem yNP (i : List Nat) (S : Sto) : bZ [.val (.str i), .val (.typ "int")] S = .ok (.val (.bl false)) S := rfl
theorem wW {n : Nat} {F : List MV → Sto → R Er} {rs : List Er} {S : Sto} {b : Bool} (hn : rs.length = n) (hF : F (yI rs S).1 (yI rs S).2 = .ok (.val (.bl b)) S) : zJ n F rs S = .ok (.val (.bl b)) S := zEA hn hF (yKP _ _) (fun l => by simp)
theorem zIL (i : Int) (S : Sto) : zJ 1 kJ [.val (.int i)] S = .ok (.val (.bl true)) S := wW rfl (by
  show xM (cG [some (.int i)] S) = _
  unfold cG zET
  simp? [yGP, yGQ, jV]
  rfl)
theorem zWN (i : List Nat) (S : Sto) : zJ 1 kJ [.val (.str i)] S = .ok (.val (.bl false)) S := wW rfl (by
  show xM (cG [some (.str i)] S) = _
  unfold cG zET
  simp? [yNP, jV]
  rfl)
theorem yDD {c : Nat} (h : 97 ≤ c ∧ c ≤ 122) : (!decide ([c] < [97])) = true ∧ (!decide ([122] < [c])) = true := by
  have h1 : ¬ ([c] < [97]) := by
    intro z
    rw [List.cons_lt_cons_iff] at z
    rcases z with z | ⟨_, z⟩
    · (first | lia | omega)
    · exact absurd z (by simp)
  have h2 : ¬ ([122] < [c]) := by
    intro z
    rw [List.cons_lt_cons_iff] at z
    rcases z with z | ⟨_, z⟩
    · (first | lia | omega)
    · exact absurd z (by simp)
  exact ⟨by rw [decide_eq_false h1]; rfl, by rw [decide_eq_false h2]; rfl⟩
theorem zEI : ∀ {n : Nat} {S : Sto}, zRM [.new (List.replicate n (.bl true))] S = .ok (.val (.bl true)) S := by
  intro n S
  have h : ∀ n : Nat, zLN (List.replicate n (.bl true)) = some (List.replicate n true) := by
    intro n
    induction n with
    | zero => rfl
    | succ n ih => rw [List.replicate_succ, List.replicate_succ]; unfold zLN; rw [ih]; rfl
  show (match (some (List.replicate n (MV.bl true))).bind zLN with | some bs => R.ok (Er.val (.bl (bs.all id))) S | none => .no) = _
  rw [show (some (List.replicate n (MV.bl true))).bind zLN = some (List.replicate n true) from h n]
  show R.ok (Er.val (.bl ((List.replicate n true).all id))) S = _
  rw [show (List.replicate n true).all id = true by simp]
theorem zEJ {ds : List MV} : ds.map (fun _ => MV.bl true) = List.replicate ds.length (.bl true) := by
  induction ds with
  | nil => rfl
  | cons d ds ih => rw [List.map_cons, List.length_cons, List.replicate_succ, ih]
theorem yNQ {x : List Nat} (h : Nm x) (S : Sto) : zJ 1 zJH [.val (.str x)] S = .ok (.val (.bl true)) S := wW rfl (by
  have hl : ∀ S, wX [.val (.str x)] S = .ok (.val (.int x.length)) S := fun S => if_pos (fits (by have := h.2.1; (first | lia | omega)))
  have e1 : zHR [some (.str x)] S = .ok (.next [some (.str x)]) S := by
    unfold zHR
    simp? [hl, chF, le_int, decide_eq_true (show (1 : Int) ≤ x.length by have := h.1; (first | lia | omega)), decide_eq_true (show (x.length : Int) ≤ 8 by have := h.2.1; (first | lia | omega))]
    rfl
  have hc : xW (gNm 0) zCR dI (blk 1 [] [some (.str x)]) [] (x.map fun c => .str [c]) S = .ok ((x.map fun c => MV.str [c]).map fun _ => .bl true) S := bG (gP S) fun d hd => by
    obtain ⟨c, hc, rfl⟩ := List.mem_map.mp hd
    obtain ⟨h1, h2⟩ := yDD (h.2.2 c hc)
    refine ⟨[some (.str [c])], rfl, rfl, ?_⟩
    unfold dI
    simp? [chF, le_str, h1, h2]
  have e2 : zHS [some (.str x)] S = .ok (.ret (.val (.bl true))) S := by
    unfold zHS
    simp? [bok]
    show (((((if (x.map fun c => MV.str [c]).length < 1000000 then (xW (gNm 0) zCR dI (blk 1 [] [some (.str x)]) [] (x.map fun c => .str [c]) S).bind fun o S => R.ok (Er.new o) S else .no).bind fun p S1 => R.ok [p] S1).bind zRM).bind fun r S1 => R.ok (Fl.ret r) S1)) = _
    rw [if_pos (by rw [List.length_map]; have := h.2.1; (first | lia | omega)), hc, bok, bok, bok, zEJ, zEI]
    rfl
  show xM (zJG [some (.str x)] S) = _
  unfold zJG
  rw [zF e1, e2]
  rfl)
theorem yBP {d : MV} (h : Vl d) (S : Sto) : zJ 1 cH [.val d] S = .ok (.val (.bl true)) S := wW rfl (by
  show xM (zEU [some d] S) = _
  unfold zEU
  rcases h.cases with ⟨i, rfl, h0, h1⟩ | ⟨x, rfl, hx⟩
  · have habs : absF [.val (.int i)] S = .ok (.val (.int (if i < 0 then -i else i))) S := rfl
    have hlt : decide ((if i < 0 then -i else i) < (10 : Int) ^ 30) = true := decide_eq_true (by split <;> (first | lia | omega))
    rw [bF (show bH [some (.int i)] S = .ok (.ret (.val (.bl true))) S by
      unfold bH
      simp? [zIL, habs, show zKK (.val (.int 10)) (.val (.int 30)) S = .ok (.val (.int (10 ^ 30))) S from rfl, lt_int, hlt])]
    rfl
  · rw [zF (show bH [some (.str x)] S = .ok (.next [some (.str x)]) S by
      unfold bH
      simp? [zWN]
      rfl)]
    unfold zLP
    simp? [yNQ hx]
    rfl)
theorem yBQ (ds : List MV) (a b : Int) (S : Sto) : zJ 3 yJ [.val (.tup ds), .val (.int a), .val (.int b)] S = .ok (.val (.bl (decide (a ≤ ds.length) && decide ((ds.length : Int) ≤ b)))) S := wW rfl (by
  show xM (zEV [some (.tup ds), some (.int a), some (.int b)] S) = _
  unfold zEV zLQ
  simp? [jV, zFW, chF, le_int]
  cases decide (a ≤ (ds.length : Int)) <;> rfl)
theorem yJV (i b : Int) (S : Sto) : zJ 2 zO [.val (.int i), .val (.int b)] S = .ok (.val (.bl (decide (0 ≤ i) && decide (i < b)))) S := wW rfl (by
  show xM (jH [some (.int i), some (.int b)] S) = _
  unfold jH zAA
  simp? [zIL, jV, chF, le_int, lt_int]
  cases decide (0 ≤ i) <;> rfl)
theorem jM {i b : Int} (h0 : 0 ≤ i) (h1 : i < b) (S : Sto) : zJ 2 zO [.val (.int i), .val (.int b)] S = .ok (.val (.bl true)) S := by
  rw [yJV, decide_eq_true h0, decide_eq_true h1]; rfl
theorem zBJ {ds : List MV} {a b : Int} (h0 : a ≤ ds.length) (h1 : (ds.length : Int) ≤ b) (S : Sto) : zJ 3 yJ [.val (.tup ds), .val (.int a), .val (.int b)] S = .ok (.val (.bl true)) S := by
  rw [yBQ, decide_eq_true h0, decide_eq_true h1]; rfl
theorem zZI (a b : MV) (S : Sto) : zJ 3 yJ [.val (.tup [a, b]), .val (.int 2), .val (.int 2)] S = .ok (.val (.bl true)) S := zBJ (by simp) (by simp) S
theorem yGR (a b c : MV) (S : Sto) : zJ 3 yJ [.val (.tup [a, b, c]), .val (.int 3), .val (.int 3)] S = .ok (.val (.bl true)) S := zBJ (by simp) (by simp) S
theorem yJW (a b c : MV) (S : Sto) : zJ 3 yJ [.val (.tup [a, b, c]), .val (.int 2), .val (.int 2)] S = .ok (.val (.bl false)) S := by
  rw [yBQ, decide_eq_false (show ¬ (([a, b, c].length : Int) ≤ 2) by simp), Bool.and_false]
theorem yJX {p : Int × Int} (h : 1 ≤ p.1 ∧ p.1 ≤ 4 ∧ 0 ≤ p.2 ∧ p.2 ≤ p.1) (S : Sto) : zJ 1 zFA [.val (tbl p)] S = .ok (.val (.bl true)) S := wW rfl (by
  have i0 : ∀ S, ixF (.val (.tup [.int p.1, .int p.2])) (.val (.int 0)) S = .ok (.val (.int p.1)) S := fun S => rfl
  have i1 : ∀ S, ixF (.val (.tup [.int p.1, .int p.2])) (.val (.int 1)) S = .ok (.val (.int p.2)) S := fun S => rfl
  have e1 : zEW [some (.tup [.int p.1, .int p.2]), none] S = .ok (.next [some (.tup [.int p.1, .int p.2]), none]) S := by
    unfold zEW
    simp? [zZI, i0, zIL]
    rfl
  have e2 : zEX [some (.tup [.int p.1, .int p.2]), none] S = .ok (.next [some (.tup [.int p.1, .int p.2]), some (.int p.1)]) S := by
    unfold zEX
    simp? [i0]
  have e3 : zEY [some (.tup [.int p.1, .int p.2]), some (.int p.1)] S = .ok (.ret (.val (.bl true))) S := by
    unfold zEY
    simp? [chF, le_int, decide_eq_true h.1, decide_eq_true h.2.1, jV, i1, jM h.2.2.1 (show p.2 < p.1 + 1 by (first | lia | omega))]
  show xM (zEZ [some (.tup [.int p.1, .int p.2]), none] S) = _
  unfold zEZ
  rw [zF e1, zF e2, e3]
  rfl)
noncomputable def SqM (S : Sto) (m : MV) (ds : List MV) : Prop := m = .tup ds ∨ ∃ l, m = .loc l ∧ S[l]? = some (.lst ds)
theorem SqM.ix {S : Sto} {m : MV} {ds : List MV} {i : Int} {d : MV} (h : SqM S m ds) (hk : atI ds i = some d) : ixF (.val m) (.val (.int i)) S = .ok (.val d) S := by
  rcases h with rfl | ⟨l, rfl, hS⟩
  · exact ix_tup hk
  · exact zER hS hk
theorem SqM.len {S : Sto} {m : MV} {ds : List MV} (h : SqM S m ds) : wX [.val m] S = .ok (.val (.int ds.length)) S := by
  rcases h with rfl | ⟨l, rfl, hS⟩
  · rfl
  · exact yJI hS
theorem SqM.app {S T : Sto} {m : MV} {ds : List MV} (h : SqM S m ds) : SqM (S ++ T) m ds := by
  rcases h with h | ⟨l, h, hS⟩
  · exact .inl h
  · exact .inr ⟨l, h, by rw [List.getElem?_append_left (List.getElem?_eq_some_iff.mp hS).1]; exact hS⟩
theorem yNR {ws : List Int} {k : Nat} {w : Int} (h : ws[k]? = some w) : atI (ws.map MV.int) (k : Int) = some (.int w) := by
  have hl : k < ws.length := (List.getElem?_eq_some_iff.mp h).1
  unfold atI ixN
  rw [if_pos (by (first | lia | omega)), if_pos (by rw [List.length_map]; (first | lia | omega))]
  show (ws.map MV.int)[(k : Int).toNat]? = _
  rw [Int.toNat_natCast, List.getElem?_map, h]
  rfl
theorem yGS {ws : List Int} {sd : Side} (h : zZF ws sd) {m : MV} {S : Sto} (hm : SqM S m (ws.map MV.int)) : zJ 2 zEE [.val (wF sd), .val m] S = .ok (.val (.bl true)) S := wW rfl (by
  cases sd with
  | isv v =>
    have i0 : ∀ S, ixF (.val (.tup [.str sIs, v])) (.val (.int 0)) S = .ok (.val (.str sIs)) S := fun S => rfl
    have i1 : ∀ S, ixF (.val (.tup [.str sIs, v])) (.val (.int 1)) S = .ok (.val v) S := fun S => rfl
    have e1 : dR [some (.tup [.str sIs, v]), some m] S = .ok (.ret (.val (.bl true))) S := by
      unfold dR
      simp? [zZI, i0, i1, eq_str, show decide (sIs = [105, 115]) = true from rfl, jV, yBP h]
    show xM (zAI [some (.tup [.str sIs, v]), some m] S) = _
    unfold zAI
    rw [bF e1]
    rfl
  | cell k j =>
    obtain ⟨w, hw, hj⟩ := h
    have hkl : k < ws.length := (List.getElem?_eq_some_iff.mp hw).1
    have i0 : ∀ S, ixF (.val (.tup [.str zGX, .int (k : Nat), .int (j : Nat)])) (.val (.int 0)) S = .ok (.val (.str zGX)) S := fun S => rfl
    have i1 : ∀ S, ixF (.val (.tup [.str zGX, .int (k : Nat), .int (j : Nat)])) (.val (.int 1)) S = .ok (.val (.int (k : Nat))) S := fun S => rfl
    have i2 : ∀ S, ixF (.val (.tup [.str zGX, .int (k : Nat), .int (j : Nat)])) (.val (.int 2)) S = .ok (.val (.int (j : Nat))) S := fun S => rfl
    have e1 : dR [some (.tup [.str zGX, .int (k : Nat), .int (j : Nat)]), some m] S = .ok (.next [some (.tup [.str zGX, .int (k : Nat), .int (j : Nat)]), some m]) S := by
      unfold dR
      simp? [yJW]
      rfl
    have e2 : zHT [some (.tup [.str zGX, .int (k : Nat), .int (j : Nat)]), some m] S = .ok (.next [some (.tup [.str zGX, .int (k : Nat), .int (j : Nat)]), some m]) S := by
      unfold zHT
      simp? [yGR, i0, show neF (.val (.str zGX)) (.val (.str [99, 101, 108, 108])) S = .ok (.val (.bl false)) S from yGB (zUD _ _ _)]
      rfl
    have e3 : zHU [some (.tup [.str zGX, .int (k : Nat), .int (j : Nat)]), some m] S = .ok (.ret (.val (.bl true))) S := by
      unfold zHU
      simp? [i1, hm.len, List.length_map, jM (show (0 : Int) ≤ (k : Nat) by (first | lia | omega)) (show ((k : Nat) : Int) < ws.length by (first | lia | omega)), jV, i2, hm.ix (yNR hw), jM (show (0 : Int) ≤ (j : Nat) by (first | lia | omega)) hj]
    show xM (zAI [some (.tup [.str zGX, .int (k : Nat), .int (j : Nat)]), some m] S) = _
    unfold zAI
    rw [zF e1, zF e2, e3]
    rfl)
theorem yJY (neg : Bool) (p : Er) (ds : List MV) (S : Sto) : inF neg p (.val (.tup ds)) S = zMW neg p (.val (.tup ds)) S := by
  unfold inF
  split
  · rename_i h; cases h
  · rfl
theorem yNS {ws : List Int} {q : Test} (h : zQL ws q) {m : MV} {S : Sto} (hm : SqM S m (ws.map MV.int)) : zJ 2 zJJ [.val (testM q), .val m] S = .ok (.val (.bl true)) S := wW rfl (by
  obtain ⟨sl, w, sr⟩ := q
  obtain ⟨h1, h2, h3⟩ := h
  have h2 : w ∈ words3 := h2
  have i0 : ∀ S, ixF (.val (.tup [wF sl, .str w, wF sr])) (.val (.int 0)) S = .ok (.val (wF sl)) S := fun S => rfl
  have i1 : ∀ S, ixF (.val (.tup [wF sl, .str w, wF sr])) (.val (.int 1)) S = .ok (.val (.str w)) S := fun S => rfl
  have i2 : ∀ S, ixF (.val (.tup [wF sl, .str w, wF sr])) (.val (.int 2)) S = .ok (.val (wF sr)) S := fun S => rfl
  have hin : inF false (.val (.str w)) (.val (.tup [.str [115, 97, 109, 101], .str [117, 110, 108, 105, 107, 101], .str [108, 101, 115, 115]])) S = .ok (.val (.bl true)) S := by
    rw [yJY]
    unfold zMW
    show (match zTZ S yO (.str w) [.str [115, 97, 109, 101], .str [117, 110, 108, 105, 107, 101], .str [108, 101, 115, 115]] with | some bs => R.ok (Er.val (.bl (if false = true then !bs.any id else bs.any id))) S | none => .no) = _
    rw [zQI (zNF _) (fun y hy => by simp only [List.mem_cons, List.not_mem_nil, or_false] at hy; rcases hy with rfl | rfl | rfl <;> exact ⟨zNF _, by rw [zJO]; decide⟩)]
    simp only [words3, List.mem_cons, List.not_mem_nil, or_false] at h2
    rcases h2 with rfl | rfl | rfl <;> simp
  have e1 : zHV [some (.tup [wF sl, .str w, wF sr]), some m] S = .ok (.next [some (.tup [wF sl, .str w, wF sr]), some m]) S := by
    unfold zHV
    simp? [yGR]
    rfl
  have e2 : zHW [some (.tup [wF sl, .str w, wF sr]), some m] S = .ok (.ret (.val (.bl true))) S := by
    unfold zHW
    simp? [i0, i1, i2, yGS h1 hm, jV, hin, yGS h3 hm]
  show xM (zJI [some (.tup [wF sl, .str w, wF sr]), some m] S) = _
  unfold zJI
  rw [zF e1, e2]
  rfl)
theorem yJZ {ws : List Int} {qs : List Test} (h0 : 1 ≤ qs.length) (h1 : qs.length ≤ 3) (h : ∀ q ∈ qs, zQL ws q) {m : MV} {S : Sto} (hm : SqM S m (ws.map MV.int)) : jJ [.tup (qs.map testM), m] S = .ok (.val (.bl true)) S := by
  have hc : xW (gNm 0) zGS nJ [none, some m] [] (qs.map testM) S = .ok ((qs.map testM).map fun _ => .bl true) S := bG (gP S) fun d hd => by
    obtain ⟨q, hq, rfl⟩ := List.mem_map.mp hd
    refine ⟨[some (testM q), some m], rfl, rfl, ?_⟩
    unfold nJ
    simp? [yNS (h q hq) hm]
  show xM (zCI [some (.tup (qs.map testM)), some m] S) = _
  unfold zCI zJX
  simp? [zBJ (ds := qs.map testM) (a := 1) (b := 3) (by rw [List.length_map]; (first | lia | omega)) (by rw [List.length_map]; (first | lia | omega)), jV, show itT (.val (.tup (qs.map testM))) S = .ok ⟨qs.map testM, []⟩ S from rfl]
  rw [if_pos (by rw [List.length_map]; (first | lia | omega))]
  rw [show blk 1 [1] [some (.tup (qs.map testM)), some m] = [none, some m] from rfl, hc]
  simp? [zEJ, zEI]
  rfl
theorem zWO {ws : List Int} {qs : List Test} (h0 : 1 ≤ qs.length) (h1 : qs.length ≤ 3) (h : ∀ q ∈ qs, zQL ws q) (S : Sto) : zJ 2 jJ [.val (.tup (qs.map testM)), .new (ws.map MV.int)] S = .ok (.val (.bl true)) S :=
  by
  have hf := yJZ h0 h1 h (m := .loc S.length) (S := S ++ [.lst (ws.map MV.int)]) (.inr ⟨S.length, rfl, by simp⟩)
  refine zAQ (T := [.lst (ws.map MV.int)]) rfl ?_ (yKP _ _) (fun l => by simp)
  rw [show yI [.val (.tup (qs.map testM)), .new (ws.map MV.int)] S = ([.tup (qs.map testM), .loc S.length], S ++ [.lst (ws.map MV.int)]) from rfl]
  exact hf
theorem yNT {cs : List Nat} {w : Int} (h0 : 1 ≤ cs.length) (h1 : cs.length ≤ 3) (h : ∀ c ∈ cs, (c : Int) < w) (S : Sto) : zJ 2 dL [.val (.tup (cs.map yN)), .val (.int w)] S = .ok (.val (.bl true)) S := wW rfl (by
  have hc : xW (gNm 0) zCJ bI [none, some (.int w)] [] (cs.map yN) S = .ok ((cs.map yN).map fun _ => .bl true) S := bG (gP S) fun d hd => by
    obtain ⟨c, hcc, rfl⟩ := List.mem_map.mp hd
    refine ⟨[some (.int (c : Nat)), some (.int w)], rfl, rfl, ?_⟩
    unfold bI
    simp? [jM (show (0 : Int) ≤ (c : Nat) by (first | lia | omega)) (h c hcc)]
  show xM (dJ [some (.tup (cs.map yN)), some (.int w)] S) = _
  unfold dJ zGT
  simp? [zBJ (ds := cs.map yN) (a := 1) (b := 3) (by rw [List.length_map]; (first | lia | omega)) (by rw [List.length_map]; (first | lia | omega)), jV, show itT (.val (.tup (cs.map yN))) S = .ok ⟨cs.map yN, []⟩ S from rfl]
  rw [if_pos (by rw [List.length_map]; (first | lia | omega))]
  rw [show blk 1 [1] [some (.tup (cs.map yN)), some (.int w)] = [none, some (.int w)] from rfl, hc]
  simp? [zEJ, zEI]
  rfl)
section
variable {ts : List (Int × Int)} {m : MV} {S : Sto}
theorem yBR (hm : SqM S m (ts.map tbl)) {t : Nat} (ht : t < ts.length) : ∃ e, ixF (.val m) (.val (.int (t : Nat))) S = .ok (.val e) S ∧ ixF (.val e) (.val (.int 0)) S = .ok (.val (.int (wid ts t))) S := by
  have hgt : ts[t]? = some ts[t] := List.getElem?_eq_getElem ht
  exact ⟨tbl ts[t], hm.ix (zQJ hgt), by rw [zNH hgt]; rfl⟩
theorem zQM (hm : SqM S m (ts.map tbl)) : wX [.val m] S = .ok (.val (.int ts.length)) S := by rw [hm.len, List.length_map]
theorem yKA (hm : SqM S m (ts.map tbl)) {t : Nat} {qs : List Test} (h : zJP ts (.never t qs)) : zJ 2 zFE [.val (yA (.never t qs)), .val m] S = .ok (.val (.bl true)) S := wW rfl (by
  obtain ⟨ht, q1, q2, q3⟩ := h
  have i1 : ∀ S, ixF (.val (.tup [.str zDR, .int (t : Nat), .tup (qs.map testM)])) (.val (.int 1)) S = .ok (.val (.int (t : Nat))) S := fun S => rfl
  have i2 : ∀ S, ixF (.val (.tup [.str zDR, .int (t : Nat), .tup (qs.map testM)])) (.val (.int 2)) S = .ok (.val (.tup (qs.map testM))) S := fun S => rfl
  have hl : ∀ S, wX [.val (.tup [.str zDR, .int (t : Nat), .tup (qs.map testM)])] S = .ok (.val (.int 3)) S := fun S => rfl
  obtain ⟨e, ix1, ix2⟩ := yBR hm ht
  have e1 : zFB [some (.tup [.str zDR, .int (t : Nat), .tup (qs.map testM)]), some m] S = .ok (.next [some (.tup [.str zDR, .int (t : Nat), .tup (qs.map testM)]), some m]) S := by
    unfold zFB
    simp? [hl, ne_int, show decide ((3 : Int) = 3) = true from rfl, i1, zQM hm, jM (show (0 : Int) ≤ (t : Nat) by (first | lia | omega)) (show ((t : Nat) : Int) < ts.length by (first | lia | omega))]
    rfl
  have e2 : zFC [some (.tup [.str zDR, .int (t : Nat), .tup (qs.map testM)]), some m] S = .ok (.ret (.val (.bl true))) S := by
    unfold zFC
    have hc := zWO (ws := [wid ts t]) q1 q2 q3 S
    simp? [i2, i1, ix1, ix2]
    rw [show ([wid ts t] : List Int).map MV.int = [.int (wid ts t)] from rfl] at hc
    rw [hc]
    rfl
  show xM (zFD [some (.tup [.str zDR, .int (t : Nat), .tup (qs.map testM)]), some m] S) = _
  unfold zFD
  rw [zF e1, e2]
  rfl)
theorem yKB (hm : SqM S m (ts.map tbl)) {t u : Nat} {qs : List Test} (h : zJP ts (.apart t u qs)) : zJ 2 zFI [.val (yA (.apart t u qs)), .val m] S = .ok (.val (.bl true)) S := wW rfl (by
  obtain ⟨ht, hu, q1, q2, q3⟩ := h
  have i3 : ∀ S, ixF (.val (.tup [.str cV, .int (t : Nat), .int (u : Nat), .tup (qs.map testM)])) (.val (.int 3)) S = .ok (.val (.tup (qs.map testM))) S := fun S => rfl
  have hl : ∀ S, wX [.val (.tup [.str cV, .int (t : Nat), .int (u : Nat), .tup (qs.map testM)])] S = .ok (.val (.int 4)) S := fun S => rfl
  have hcut : ∀ S, zRL (.val (.tup [.str cV, .int (t : Nat), .int (u : Nat), .tup (qs.map testM)])) (some 1) (some 3) S = .ok (.val (.tup [.int (t : Nat), .int (u : Nat)])) S := fun S => rfl
  have hit : ∀ S, itT (.val (.tup [.int (t : Nat), .int (u : Nat)])) S = .ok ⟨[.int (t : Nat), .int (u : Nat)], []⟩ S := fun S => rfl
  have hc1 : xW (gNm 0) zHX zAT [none, some m] [] [.int (t : Nat), .int (u : Nat)] S = .ok ([MV.int (t : Nat), MV.int (u : Nat)].map fun _ => .bl true) S := bG (gP S) fun d hd => by
    have hd' : ∃ z : Nat, z < ts.length ∧ d = .int (z : Nat) := by
      simp only [List.mem_cons, List.not_mem_nil, or_false] at hd
      rcases hd with rfl | rfl
      · exact ⟨t, ht, rfl⟩
      · exact ⟨u, hu, rfl⟩
    obtain ⟨z, hz, rfl⟩ := hd'
    refine ⟨[some (.int (z : Nat)), some m], rfl, rfl, ?_⟩
    unfold zAT
    simp? [zQM hm, jM (show (0 : Int) ≤ (z : Nat) by (first | lia | omega)) (show ((z : Nat) : Int) < ts.length by (first | lia | omega))]
  have hc2 : xW (gNm 0) zAU bJ [none, some m] [] [.int (t : Nat), .int (u : Nat)] S = .ok [.int (wid ts t), .int (wid ts u)] S := by
    have := bG (S := S) (gf := gNm 0) (cf := zAU) (ef := bJ) (ρb := [none, some m]) (gs := []) (ds := [.int (t : Nat), .int (u : Nat)]) (F := fun d => match d with | .int i => .int (wid ts i.toNat) | d => d) (gP S) fun d hd => by
      have hd' : ∃ z : Nat, z < ts.length ∧ d = .int (z : Nat) := by
        simp only [List.mem_cons, List.not_mem_nil, or_false] at hd
        rcases hd with rfl | rfl
        · exact ⟨t, ht, rfl⟩
        · exact ⟨u, hu, rfl⟩
      obtain ⟨z, hz, rfl⟩ := hd'
      obtain ⟨e, ix1, ix2⟩ := yBR hm hz
      refine ⟨[some (.int (z : Nat)), some m], rfl, rfl, ?_⟩
      unfold bJ
      simp? [ix1, ix2]
      rw [Int.toNat_natCast]
    rw [this]
    simp
  have e1 : zFF [some (.tup [.str cV, .int (t : Nat), .int (u : Nat), .tup (qs.map testM)]), some m] S = .ok (.next [some (.tup [.str cV, .int (t : Nat), .int (u : Nat), .tup (qs.map testM)]), some m]) S := by
    unfold zFF
    simp? [hl, ne_int, show decide ((4 : Int) = 4) = true from rfl, hcut, hit]
    rw [show blk 1 [1] [some (.tup [.str cV, .int (t : Nat), .int (u : Nat), .tup (qs.map testM)]), some m] = [none, some m] from rfl, hc1, zEJ]
    rw [if_pos (show ([MV.int (t : Nat), MV.int (u : Nat)] : List MV).length < 1000000 by simp)]
    simp? [zEI]
    rfl
  have e2 : zFG [some (.tup [.str cV, .int (t : Nat), .int (u : Nat), .tup (qs.map testM)]), some m] S = .ok (.ret (.val (.bl true))) S := by
    unfold zFG
    have hc := zWO (ws := [wid ts t, wid ts u]) q1 q2 q3 S
    simp? [i3, hcut, hit]
    rw [show blk 1 [1] [some (.tup [.str cV, .int (t : Nat), .int (u : Nat), .tup (qs.map testM)]), some m] = [none, some m] from rfl, hc2]
    rw [if_pos (show ([MV.int (t : Nat), MV.int (u : Nat)] : List MV).length < 1000000 by simp)]
    simp? [bok]
    rw [show ([wid ts t, wid ts u] : List Int).map MV.int = [.int (wid ts t), .int (wid ts u)] from rfl] at hc
    rw [hc]
    rfl
  show xM (zFH [some (.tup [.str cV, .int (t : Nat), .int (u : Nat), .tup (qs.map testM)]), some m] S) = _
  unfold zFH
  rw [zF e1, e2]
  rfl)
theorem c_tie (hm : SqM S m (ts.map tbl)) {t u : Nat} {cs ds : List Nat} (h : zJP ts (.tie t cs u ds)) : zJ 2 zLT [.val (yA (.tie t cs u ds)), .val m] S = .ok (.val (.bl true)) S := wW rfl (by
  obtain ⟨ht, hu, q1, q2, q3, q4, q5⟩ := h
  generalize hR : yA (.tie t cs u ds) = Rr
  have i1 : ∀ S, ixF (.val Rr) (.val (.int 1)) S = .ok (.val (.int (t : Nat))) S := fun S => by rw [← hR]; rfl
  have i2 : ∀ S, ixF (.val Rr) (.val (.int 2)) S = .ok (.val (.tup (cs.map yN))) S := fun S => by rw [← hR]; rfl
  have i3 : ∀ S, ixF (.val Rr) (.val (.int 3)) S = .ok (.val (.int (u : Nat))) S := fun S => by rw [← hR]; rfl
  have i4 : ∀ S, ixF (.val Rr) (.val (.int 4)) S = .ok (.val (.tup (ds.map yN))) S := fun S => by rw [← hR]; rfl
  have hl : ∀ S, wX [.val Rr] S = .ok (.val (.int 5)) S := fun S => by rw [← hR]; rfl
  have e1 : zKN [some Rr, some m, none, none] S = .ok (.next [some Rr, some m, none, none]) S := by
    unfold zKN
    simp? [hl, ne_int, show decide ((5 : Int) = 5) = true from rfl]
    rfl
  have turn : ∀ {z : Nat} {es : List Nat} (x2 x3 : Option MV), z < ts.length → 1 ≤ es.length → es.length ≤ 3 → (∀ c ∈ es, (c : Int) < wid ts z) → zKM [some Rr, some m, some (.int (z : Nat)), some (.tup (es.map yN))] S = .ok (.next [some Rr, some m, some (.int (z : Nat)), some (.tup (es.map yN))]) S := fun {z es} x2 x3 hz h1 h2 h3 => by
    obtain ⟨e, ix1, ix2⟩ := yBR hm hz
    unfold zKM zLR
    simp? [zQM hm, jM (show (0 : Int) ≤ (z : Nat) by (first | lia | omega)) (show ((z : Nat) : Int) < ts.length by (first | lia | omega)), ix1, ix2, yNT h1 h2 h3]
    rfl
  have e2 : zKO [some Rr, some m, none, none] S = .ok (.next [some Rr, some m, some (.int (u : Nat)), some (.tup (ds.map yN))]) S := by
    unfold zKO
    simp? [i1, i2, i3, i4, show itT (.val (.tup [.tup [.int (t : Nat), .tup (cs.map yN)], .tup [.int (u : Nat), .tup (ds.map yN)]])) S = .ok ⟨[.tup [.int (t : Nat), .tup (cs.map yN)], .tup [.int (u : Nat), .tup (ds.map yN)]], []⟩ S from rfl]
    rw [zPX (show gTp 2 (yS (gNm 2) (yS (gNm 3) bB)) (.tup [.int (t : Nat), .tup (cs.map yN)]) [some Rr, some m, none, none] S = .ok [some Rr, some m, some (.int (t : Nat)), some (.tup (cs.map yN))] S from rfl) (turn none none ht q1 q2 q4) (gP S)]
    rw [zPX (show gTp 2 (yS (gNm 2) (yS (gNm 3) bB)) (.tup [.int (u : Nat), .tup (ds.map yN)]) [some Rr, some m, some (.int (t : Nat)), some (.tup (cs.map yN))] S = .ok [some Rr, some m, some (.int (u : Nat)), some (.tup (ds.map yN))] S from rfl) (turn none none hu (by (first | lia | omega)) (by (first | lia | omega)) q5) (gP S)]
    rfl
  have e3 : zKP [some Rr, some m, some (.int (u : Nat)), some (.tup (ds.map yN))] S = .ok (.ret (.val (.bl true))) S := by
    unfold zKP
    simp? [i2, i4, zFW, List.length_map, decide_eq_true (show (cs.length : Int) = ds.length by (first | lia | omega))]
  show xM (zLS [some Rr, some m, none, none] S) = _
  unfold zLS
  rw [zF e1, zF e2, e3]
  rfl)
theorem yNU (hm : SqM S m (ts.map tbl)) {r : Rule} (h : zJP ts r) : zJ 2 zJL [.val (yA r), .val m] S = .ok (.val (.bl true)) S := wW rfl (by
  have key : ∀ (w : List Nat) (rest : List MV), yA r = .tup (.str w :: rest) → zHY [some (yA r), some m] S = .ok (.next [some (yA r), some m]) S ∧ ∀ S, ixF (.val (yA r)) (.val (.int 0)) S = .ok (.val (.str w)) S := fun w rest e => by
    rw [e]
    refine ⟨?_, fun S => ix_tup (by unfold atI ixN; rw [if_pos (by decide), if_pos (by rw [List.length_cons]; (first | lia | omega))]; rfl)⟩
    unfold zHY
    simp? [zFW, decide_eq_false (show ¬ (((MV.str w :: rest).length : Nat) : Int) = 0 by rw [List.length_cons]; (first | lia | omega))]
    rfl
  show xM (zJK [some (yA r), some m] S) = _
  unfold zJK
  cases r with
  | never t qs =>
    obtain ⟨e1, i0⟩ := key zDR _ rfl
    have e2 : jK [some (yA (.never t qs)), some m] S = .ok (.ret (.val (.bl true))) S := by
      unfold jK
      simp? [i0, eq_str, show decide (zDR = [110, 101, 118, 101, 114]) = true from rfl, yKA hm h]
    rw [zF e1, bF e2]
    rfl
  | apart t u qs =>
    obtain ⟨e1, i0⟩ := key cV _ rfl
    have e2 : jK [some (yA (.apart t u qs)), some m] S = .ok (.next [some (yA (.apart t u qs)), some m]) S := by
      unfold jK
      simp? [i0, eq_str, show decide (cV = [110, 101, 118, 101, 114]) = false from rfl]
      rfl
    have e3 : dS [some (yA (.apart t u qs)), some m] S = .ok (.ret (.val (.bl true))) S := by
      unfold dS
      simp? [i0, eq_str, show decide (cV = [97, 112, 97, 114, 116]) = true from rfl, yKB hm h]
    rw [zF e1, zF e2, bF e3]
    rfl
  | tie t cs u ds =>
    obtain ⟨e1, i0⟩ := key yGN _ rfl
    have e2 : jK [some (yA (.tie t cs u ds)), some m] S = .ok (.next [some (yA (.tie t cs u ds)), some m]) S := by
      unfold jK
      simp? [i0, eq_str, show decide (yGN = [110, 101, 118, 101, 114]) = false from rfl]
      rfl
    have e3 : dS [some (yA (.tie t cs u ds)), some m] S = .ok (.next [some (yA (.tie t cs u ds)), some m]) S := by
      unfold dS
      simp? [i0, eq_str, show decide (yGN = [97, 112, 97, 114, 116]) = false from rfl]
      rfl
    have e4 : zHZ [some (yA (.tie t cs u ds)), some m] S = .ok (.ret (.val (.bl true))) S := by
      unfold zHZ
      simp? [i0, eq_str, show decide (yGN = [116, 105, 101]) = true from rfl, jV, c_tie hm h]
    rw [zF e1, zF e2, zF e3, e4]
    rfl)
end
section
variable {ts : List (Int × Int)} {m : MV} {S : Sto}
theorem c_row (hm : SqM S m (ts.map tbl)) {r : Nat × List MV} (h : ROk ts r) (hT : TOk ts) : zJ 2 zLW [.val (yC r), .val m] S = .ok (.val (.bl true)) S := wW rfl (by
  obtain ⟨t, cs⟩ := r
  obtain ⟨p, hp, hl, hv⟩ := h
  have hp : ts[t]? = some p := hp
  have hl : (cs.length : Int) = p.1 := hl
  have ht : t < ts.length := (List.getElem?_eq_some_iff.mp hp).1
  have hw := zNH hp
  have hpw := hT.2.2 p (List.mem_of_getElem? hp)
  obtain ⟨e, ix1, ix2⟩ := yBR hm ht
  rw [hw] at ix2
  generalize hR : yC (t, cs) = Rr
  have hRt : Rr = .tup [.int (t : Nat), .tup cs] := hR.symm
  have i0 : ∀ S, ixF (.val Rr) (.val (.int 0)) S = .ok (.val (.int (t : Nat))) S := fun S => by rw [hRt]; rfl
  have i1 : ∀ S, ixF (.val Rr) (.val (.int 1)) S = .ok (.val (.tup cs)) S := fun S => by rw [hRt]; rfl
  have h2 : zJ 3 yJ [.val Rr, .val (.int 2), .val (.int 2)] S = .ok (.val (.bl true)) S := by rw [hRt]; exact zZI _ _ S
  have e1 : zKQ [some Rr, some m, none] S = .ok (.next [some Rr, some m, none]) S := by
    unfold zKQ
    simp? [h2, i0, zQM hm, jM (show (0 : Int) ≤ (t : Nat) by (first | lia | omega)) (show ((t : Nat) : Int) < ts.length by (first | lia | omega))]
    rfl
  have e2 : zKR [some Rr, some m, none] S = .ok (.next [some Rr, some m, some (.int p.1)]) S := by
    unfold zKR
    simp? [i0, ix1, ix2]
  have hc : xW (gNm 0) zLU zFJ [none] [] cs S = .ok (cs.map fun _ => .bl true) S := bG (gP S) fun d hd => by
    refine ⟨[some d], rfl, rfl, ?_⟩
    unfold zFJ
    simp? [yBP (hv d hd)]
  have e3 : zKS [some Rr, some m, some (.int p.1)] S = .ok (.ret (.val (.bl true))) S := by
    unfold zKS
    simp? [i1, zBJ (ds := cs) (a := p.1) (b := p.1) (by (first | lia | omega)) (by (first | lia | omega)), jV, show itT (.val (.tup cs)) S = .ok ⟨cs, []⟩ S from rfl]
    rw [if_pos (show cs.length < 1000000 by (first | lia | omega))]
    rw [show blk 1 [] [some Rr, some m, some (.int p.1)] = [none] from rfl, hc, zEJ]
    simp? [zEI]
  show xM (zLV [some Rr, some m, none] S) = _
  unfold zLV
  rw [zF e1, zF e2, e3]
  rfl)
theorem gt_int (i j : Int) (S : Sto) : gtF (.val (.int i)) (.val (.int j)) S = .ok (.val (.bl (decide (j < i)))) S := rfl
theorem zMD {n : Nat} {F : List MV → Sto → R Er} {rs : List Er} {S T : Sto} (hn : rs.length = n) (hF : F (yI rs S).1 (yI rs S).2 = .ok (.val .non) (S ++ T)) : zJ n F rs S = .ok (.val .non) S := zAQ hn hF (yMY _) (fun l => by simp)
theorem yKC {a b c : MV} {as bs cs : List MV} (ha : SqM S a as) (hb : SqM S b bs) (hc : SqM S c cs) (h1 : as.length ≤ 4) (h2 : bs.length ≤ 6) (h3 : cs.length ≤ 60) : zJ 3 dN [.val a, .val b, .val c] S = .ok (.val .non) S := zMD (T := []) rfl (by
  rw [List.append_nil]
  show xM (dM [some a, some b, some c] S) = _
  unfold dM zGU
  simp? [ha.len, hb.len, hc.len, gt_int, decide_eq_false (show ¬ (4 : Int) < as.length by (first | lia | omega)), decide_eq_false (show ¬ (6 : Int) < bs.length by (first | lia | omega)), decide_eq_false (show ¬ (60 : Int) < cs.length by (first | lia | omega))]
  rfl)
theorem SqM.src {m : MV} {ds : List MV} (h : SqM S m ds) : ∃ gs, itE [.val m] S = .ok ⟨zKL ds, gs⟩ S ∧ stay gs S ∧ ∀ T, stay gs (S ++ T) := by
  rcases h with rfl | ⟨l, rfl, hS⟩
  · exact ⟨[], rfl, gP S, fun T => gP _⟩
  · refine ⟨[(l, ds)], ?_, zPY hS, fun T => zPY (by rw [List.getElem?_append_left (List.getElem?_eq_some_iff.mp hS).1]; exact hS)⟩
    show (match srcOf S (.val (.loc l)) with | some a => R.ok (⟨zKL a.ds, a.gs⟩ : Wk) S | none => .no) = _
    rw [show srcOf S (.val (.loc l)) = some ⟨true, ds, [(l, ds)]⟩ by unfold srcOf; dsimp only; rw [hS]]
theorem zOV {ds : List MV} {i : Nat} {d : MV} (h : (zKL ds)[i]? = some d) : ∃ e, ds[i]? = some e ∧ d = .tup [.int (i : Nat), e] := by
  unfold zKL at h
  rw [List.getElem?_map, List.getElem?_zipIdx] at h
  cases z : ds[i]? with
  | none => rw [z] at h; cases h
  | some e => rw [z] at h; refine ⟨e, rfl, ?_⟩; simp at h; rw [← h]
theorem yGT (hm : SqM S m (ts.map tbl)) (hT : TOk ts) : zJ 1 bL [.val m] S = .ok (.val .non) S := zMD (T := []) rfl (by
  rw [List.append_nil]
  obtain ⟨gs, hi, hs, _⟩ := hm.src
  have e1 : cJ [some m, none, none] S = .ok (.next [some m, none, none]) S := by
    unfold cJ
    simp? [zQM hm, decide_eq_false (show ¬ (ts.length : Int) = 0 by have := hT.1; (first | lia | omega))]
    rfl
  obtain ⟨ρ', S', e, _, hS'⟩ := zHP (L := zKL (ts.map tbl)) (gf := gTp 2 (yS (gNm 1) (yS (gNm 2) bB))) (body := cI) (gs := gs) (S := S) (ρ := [some m, none, none]) (fun i ρ S' => (∃ x1 x2, ρ = [some m, x1, x2]) ∧ S' = S) (fun i d hd ρ S1 ⟨⟨x1, x2, hρ⟩, hS1⟩ => by
    subst hρ hS1
    obtain ⟨f, hf, rfl⟩ := zOV hd
    obtain ⟨p, hp, rfl⟩ := List.mem_map.mp (List.mem_of_getElem? hf)
    refine ⟨[some m, some (.int (i : Nat)), some (tbl p)], S1, ?_, hs, ⟨_, _, rfl⟩, rfl⟩
    rw [show gTp 2 (yS (gNm 1) (yS (gNm 2) bB)) (.tup [.int (i : Nat), tbl p]) [some m, x1, x2] S1 = .ok [some m, some (.int (i : Nat)), some (tbl p)] S1 from rfl, bok]
    unfold cI zAV
    simp? [yJX (hT.2.2 p hp)]
    rfl) ⟨⟨none, none, rfl⟩, rfl⟩
  subst hS'
  have e2 : cK [some m, none, none] S' = .ok (.next ρ') S' := by
    unfold cK
    simp? [hi]
    exact e
  show xM (bK [some m, none, none] S') = _
  unfold bK
  rw [zF e1, e2]
  rfl)
theorem yKD (hm : SqM S m (ts.map tbl)) {b : MV} {rl : List Rule} (hb : SqM S b (rl.map yA)) (h : ∀ r ∈ rl, zJP ts r) : zJ 2 dP [.val m, .val b] S = .ok (.val .non) S := zMD (T := []) rfl (by
  rw [List.append_nil]
  obtain ⟨gs, hi, hs, _⟩ := hb.src
  obtain ⟨ρ', S', e, _, hS'⟩ := zHP (L := zKL (rl.map yA)) (gf := gTp 2 (yS (gNm 2) (yS (gNm 3) bB))) (body := nK) (gs := gs) (S := S) (ρ := [some m, some b, none, none]) (fun i ρ S' => (∃ x1 x2, ρ = [some m, some b, x1, x2]) ∧ S' = S) (fun i d hd ρ S1 ⟨⟨x1, x2, hρ⟩, hS1⟩ => by
    subst hρ hS1
    obtain ⟨f, hf, rfl⟩ := zOV hd
    obtain ⟨p, hp, rfl⟩ := List.mem_map.mp (List.mem_of_getElem? hf)
    refine ⟨[some m, some b, some (.int (i : Nat)), some (yA p)], S1, ?_, hs, ⟨_, _, rfl⟩, rfl⟩
    rw [show gTp 2 (yS (gNm 2) (yS (gNm 3) bB)) (.tup [.int (i : Nat), yA p]) [some m, some b, x1, x2] S1 = .ok [some m, some b, some (.int (i : Nat)), some (yA p)] S1 from rfl, bok]
    unfold nK zCK
    simp? [yNU hm (h p hp)]
    rfl) ⟨⟨none, none, rfl⟩, rfl⟩
  subst hS'
  have e2 : nL [some m, some b, none, none] S' = .ok (.next ρ') S' := by
    unfold nL
    simp? [hi]
    exact e
  show xM (dO [some m, some b, none, none] S') = _
  unfold dO
  rw [e2]
  rfl)
end
mutual
theorem yBS : ∀ {d : MV}, pd d = true → ∃ nk, kS d = some nk ∧ zBV nk ≤ dpt d
  | .int i, _ => ⟨_, zEB i, by rw [zBV]; exact Nat.zero_le _⟩
  | .str x, _ => ⟨_, zEC x, by rw [zBV]; exact Nat.zero_le _⟩
  | .tup ds, h => by
    obtain ⟨ks, h1, h2⟩ := zWP (by rw [← cU]; exact h : pdL ds = true)
    exact ⟨.tup ks, by rw [zED, h1]; rfl, by rw [zAN, kK]; (first | lia | omega)⟩
  | .non, h => by rw [pd] at h <;> first | cases h | (intros; simp)
  | .bl _, h => by rw [pd] at h <;> first | cases h | (intros; simp)
  | .scr _, h => by rw [pd] at h <;> first | cases h | (intros; simp)
  | .loc _, h => by rw [pd] at h <;> first | cases h | (intros; simp)
  | .typ _, h => by rw [pd] at h <;> first | cases h | (intros; simp)
theorem zWP : ∀ {ds : List MV}, pdL ds = true → ∃ ks, hW ds = some ks ∧ zJR ks ≤ zHB ds
  | [], _ => ⟨[], zJF, by rw [zJR]; exact Nat.zero_le _⟩
  | d :: ds, h => by
    rw [xF, Bool.and_eq_true] at h
    obtain ⟨k, h1, h2⟩ := yBS h.1
    obtain ⟨ks, h3, h4⟩ := zWP h.2
    exact ⟨k :: ks, by rw [zAS, h1, h3]; rfl, by rw [zKI, yK]; (first | lia | omega)⟩
end
section
variable {ts : List (Int × Int)} {m : MV} {S : Sto}
theorem yBT {r : Nat × List MV} (h : ROk ts r) : keyOk (yC r) = true := by
  have hp := zNG h
  obtain ⟨nk, h1, h2⟩ := yBS hp.1
  unfold keyOk
  rw [h1]
  show (zNA (yC r) && decide (zBV nk ≤ 4)) = true
  rw [decide_eq_true (show zBV nk ≤ 4 by (first | lia | omega))]
  rfl
theorem zTC : ∀ {kvs : List (MV × MV)} {k : MV}, (∀ p ∈ kvs, p.1 ≠ k) → look kvs k = none
  | [], k, _ => rfl
  | p :: kvs, k, h => by
    rw [zSU, if_neg (h p List.mem_cons_self)]
    exact zTC fun q hq => h q (List.mem_cons_of_mem _ hq)
noncomputable def zBY (rs : List (Nat × List MV)) : List (MV × MV) := rs.map fun r => (yC r, .bl true)
theorem yGU {T : Sto} {l : Nat} {rs : List (Nat × List MV)} (hS : T[l]? = some (.dic (zBY rs))) : zSV T (.val (.loc l)) = some (l, zBY rs) := by
  unfold zSV
  dsimp only
  rw [hS]
  dsimp only
  rw [if_pos]
  rw [List.all_eq_true]
  intro p hp
  obtain ⟨r, _, rfl⟩ := List.mem_map.mp hp
  rfl
theorem yDE {b : MV} {T : Sto} {l : Nat} {x2 : Option MV} {rs : List (Nat × List MV)} {r : Nat × List MV} (hS : T[l]? = some (.dic (zBY rs))) (hr : ROk ts r) (hn : r ∉ rs) (hl : rs.length < 1000) :
    bM [some m, some b, x2, some (yC r), some (.loc l)] T = .ok (.next [some m, some b, x2, some (yC r), some (.loc l)]) (T.set l (.dic (zBY (rs ++ [r])))) := by
  have hlk : look (zBY rs) (yC r) = none := zTC fun p hp => by
    obtain ⟨q, hq, rfl⟩ := List.mem_map.mp hp
    intro e
    have e : yC q = yC r := e
    rw [zWK e] at hq
    exact hn hq
  have hin : yCW false (.val (yC r)) (.val (.loc l)) T = .ok (.val (.bl false)) T := by
    unfold yCW
    dsimp only
    rw [yGU hS]
    dsimp only
    rw [if_pos (yBT hr), hlk]
    rfl
  have hset : ∀ ρ, zWJ (.val (.loc l)) (.val (yC r)) (.bl true) ρ T = .ok ρ (T.set l (.dic (zBY (rs ++ [r])))) := fun ρ => by
    unfold zWJ
    dsimp only
    rw [yGU hS]
    dsimp only
    rw [if_pos ⟨yBT hr, by unfold zBY; rw [List.length_map]; (first | lia | omega)⟩]
    unfold putK
    rw [hlk]
    unfold zBY
    rw [if_neg (by simp), List.map_append]
    rfl
  have e1 : cL [some m, some b, x2, some (yC r), some (.loc l)] T = .ok (.next [some m, some b, x2, some (yC r), some (.loc l)]) T := by
    unfold cL
    simp? [hin]
    rfl
  have e2 : cM [some m, some b, x2, some (yC r), some (.loc l)] T = .ok (.next [some m, some b, x2, some (yC r), some (.loc l)]) (T.set l (.dic (zBY (rs ++ [r])))) := by
    unfold cM
    simp? [yBJ, hset]
  unfold bM
  rw [zF e1, e2]
theorem yNV (hm : SqM S m (ts.map tbl)) (hT : TOk ts) {b : MV} {rs : List (Nat × List MV)} (hb : SqM S b (rs.map yC)) (h : ∀ r ∈ rs, ROk ts r) (hn : rs.Nodup) (hl : rs.length ≤ 60) : zJ 2 zAD [.val m, .val b] S = .ok (.val .non) S := by
  obtain ⟨gs, hi, hs, _⟩ := hb.src
  obtain ⟨ρ', S', e, ⟨y2, y3, hρ'⟩, hS'⟩ := zHP (L := zKL (rs.map yC)) (gf := gTp 2 (yS (gNm 2) (yS (gNm 3) bB))) (body := zAW) (gs := gs) (S := S) (ρ := [some m, some b, none, none, none]) (fun i ρ S' => (∃ x1 x2, ρ = [some m, some b, x1, x2, none]) ∧ S' = S) (fun i d hd ρ S1 ⟨⟨x1, x2, hρ⟩, hS1⟩ => by
    subst hρ hS1
    obtain ⟨f, hf, rfl⟩ := zOV hd
    obtain ⟨p, hp, rfl⟩ := List.mem_map.mp (List.mem_of_getElem? hf)
    refine ⟨[some m, some b, some (.int (i : Nat)), some (yC p), none], S1, ?_, hs, ⟨_, _, rfl⟩, rfl⟩
    rw [show gTp 2 (yS (gNm 2) (yS (gNm 3) bB)) (.tup [.int (i : Nat), yC p]) [some m, some b, x1, x2, none] S1 = .ok [some m, some b, some (.int (i : Nat)), some (yC p), none] S1 from rfl, bok]
    unfold zAW zEF
    simp? [c_row hm (h p hp) hT]
    rfl) ⟨⟨none, none, rfl⟩, rfl⟩
  rw [hρ', hS'] at e
  have e1 : zAX [some m, some b, none, none, none] S = .ok (.next [some m, some b, y2, y3, none]) S := by
    unfold zAX
    simp? [hi]
    exact e
  have e2 : zAY [some m, some b, y2, y3, none] S = .ok (.next [some m, some b, y2, y3, some (.loc S.length)]) (S ++ [.dic (zBY [])]) := by
    unfold zAY
    simp? [show yGE S = .ok (.val (.loc S.length)) (S ++ [.dic []]) from rfl]
    rfl
  obtain ⟨gs2, hi2, hs2, _⟩ := (hb.app (T := [.dic (zBY [])])).src
  have stays : ∀ kvs, stay gs2 (S ++ [.dic kvs]) := fun kvs => by
    rcases hb with rfl | ⟨l, rfl, hS⟩
    · have : gs2 = [] := by have := hi2; injection this with h1 _; injection h1 with _ h2; exact h2.symm
      rw [this]; exact gP _
    · have hll : l < S.length := (List.getElem?_eq_some_iff.mp hS).1
      intro p hp
      have hx := hs2 p hp
      have hpl : p.1 < S.length := by
        by_cases hlt : p.1 < S.length
        · exact hlt
        · have hlen := (List.getElem?_eq_some_iff.mp hx).1
          rw [List.length_append, List.length_singleton] at hlen
          rw [show p.1 = S.length by (first | lia | omega), List.getElem?_append_right (Nat.le_refl _), Nat.sub_self] at hx
          cases hx
      rw [List.getElem?_append_left hpl] at hx ⊢
      exact hx
  obtain ⟨ρ'', S'', e', ⟨z2, z3, hρ''⟩, hS''⟩ := zHP (L := zKL (rs.map yC)) (gf := gTp 2 (yS (gNm 2) (yS (gNm 3) bB))) (body := bM) (gs := gs2) (S := S ++ [.dic (zBY [])]) (ρ := [some m, some b, y2, y3, some (.loc S.length)]) (fun i ρ S' => (∃ x1 x2, ρ = [some m, some b, x1, x2, some (.loc S.length)]) ∧ S' = S ++ [.dic (zBY (rs.take i))]) (fun i d hd ρ S1 ⟨⟨x1, x2, hρ⟩, hS1⟩ => by
    subst hρ hS1
    obtain ⟨f, hf, rfl⟩ := zOV hd
    rw [List.getElem?_map] at hf
    cases zr : rs[i]? with
    | none => rw [zr] at hf; cases hf
    | some r =>
      rw [zr] at hf
      obtain rfl : yC r = f := Option.some.inj hf
      have hil : i < rs.length := (List.getElem?_eq_some_iff.mp zr).1
      have hri : rs[i] = r := (List.getElem?_eq_some_iff.mp zr).2
      have hnot : r ∉ rs.take i := by
        intro hmem
        obtain ⟨j, hj, ej⟩ := List.mem_iff_getElem.mp hmem
        rw [List.length_take] at hj
        rw [List.getElem_take] at ej
        have := (List.getElem_inj hn).mp (ej.trans hri.symm)
        (first | lia | omega)
      have htk : rs.take i ++ [r] = rs.take (i + 1) := by rw [List.take_succ_eq_append_getElem hil, hri]
      have hb2 := yDE (ts := ts) (m := m) (b := b) (T := S ++ [.dic (zBY (rs.take i))]) (l := S.length) (x2 := some (.int (i : Nat))) (rs := rs.take i) (r := r) (by simp) (h r (List.mem_of_getElem? zr)) hnot (by rw [List.length_take]; (first | lia | omega))
      refine ⟨[some m, some b, some (.int (i : Nat)), some (yC r), some (.loc S.length)], S ++ [.dic (zBY (rs.take (i + 1)))], ?_, stays _, ⟨_, _, rfl⟩, rfl⟩
      rw [show gTp 2 (yS (gNm 2) (yS (gNm 3) bB)) (.tup [.int (i : Nat), yC r]) [some m, some b, x1, x2, some (.loc S.length)] (S ++ [.dic (zBY (rs.take i))]) = .ok [some m, some b, some (.int (i : Nat)), some (yC r), some (.loc S.length)] (S ++ [.dic (zBY (rs.take i))]) from rfl, bok, hb2, htk]
      have hfin : List.set (S ++ [MO.dic (zBY (rs.take i))]) S.length (MO.dic (zBY (rs.take (i + 1)))) = S ++ [MO.dic (zBY (rs.take (i + 1)))] := by simp
      rw [hfin]) ⟨⟨y2, y3, rfl⟩, by rw [List.take_zero]⟩
  have e3 : zAZ [some m, some b, y2, y3, some (.loc S.length)] (S ++ [.dic (zBY [])]) = .ok (.next ρ'') S'' := by
    unfold zAZ
    simp? [hi2]
    exact e'
  refine zMD (T := [.dic (zBY (rs.take (zKL (rs.map yC)).length))]) rfl ?_
  show xM (zAC [some m, some b, none, none, none] S) = _
  unfold zAC
  rw [zF e1, zF e2, e3, hS'']
  rfl
end
section
variable {ts : List (Int × Int)} {S : Sto}
theorem SqM.tuple {m : MV} {ds : List MV} (h : SqM S m ds) : kI [.val m] S = .ok (.val (.tup ds)) S := by
  rcases h with rfl | ⟨l, rfl, hS⟩
  · rfl
  · exact zEH hS
theorem yNW {a b c : MV} {rl : List Rule} {rs : List (Nat × List MV)} (ha : SqM S a (ts.map tbl)) (hb : SqM S b (rl.map yA)) (hc : SqM S c (rs.map yC)) (hT : TOk ts) (hR : ∀ r ∈ rl, zJP ts r) (hrl : rl.length ≤ 6) (hr : ∀ r ∈ rs, ROk ts r) (hn : rs.Nodup) (hl : rs.length ≤ 60) :
    zJ 3 cN [.val a, .val b, .val c] S = .ok (.val (.tup [.tup (ts.map tbl), .tup (rl.map yA), .tup (rs.map yC)])) S := by
  refine zEA rfl ?_ (wY (wG fun d hd => ?_)) (fun l => by simp)
  · have e1 : zIA [some a, some b, some c] S = .ok (.next [some a, some b, some c]) S := by
      unfold zIA
      simp? [yKC ha hb hc (by rw [List.length_map]; exact hT.2.1) (by rw [List.length_map]; exact hrl) (by rw [List.length_map]; exact hl)]
    have e2 : zIB [some a, some b, some c] S = .ok (.next [some a, some b, some c]) S := by
      unfold zIB
      simp? [yGT ha hT]
    have e3 : zIC [some a, some b, some c] S = .ok (.next [some a, some b, some c]) S := by
      unfold zIC
      simp? [yKD ha hb hR]
    have e4 : zID [some a, some b, some c] S = .ok (.next [some a, some b, some c]) S := by
      unfold zID
      simp? [yNV ha hT hc hr hn hl]
    have e5 : zIE [some a, some b, some c] S = .ok (.ret (.val (.tup [.tup (ts.map tbl), .tup (rl.map yA), .tup (rs.map yC)]))) S := by
      unfold zIE
      simp? [ha.tuple, hb.tuple, hc.tuple]
    show xM (zJM [some a, some b, some c] S) = _
    unfold zJM
    rw [zF e1, zF e2, zF e3, zF e4, e5]
    rfl
  · simp only [List.mem_cons, List.not_mem_nil, or_false] at hd
    rcases hd with rfl | rfl | rfl
    · exact wY (wG fun e he => by
        obtain ⟨p, _, rfl⟩ := List.mem_map.mp he
        exact wY (wG fun e he => by simp at he; rcases he with rfl | rfl <;> exact hJ _ _))
    · exact wY (wG fun e he => by obtain ⟨r, hr', rfl⟩ := List.mem_map.mp he; exact yBM (hR r hr') _)
    · exact wY (wG fun e he => by obtain ⟨r, hr', rfl⟩ := List.mem_map.mp he; exact zZE (hr r hr') _)
end
theorem yKE (i : Int) (S : Sto) : zTY (.val (.int i)) (.val .non) S = .ok (.val (.bl false)) S := rfl
theorem yKF (i : List Nat) (S : Sto) : zTY (.val (.str i)) (.val .non) S = .ok (.val (.bl false)) S := rfl
theorem yGV (i : List MV) (S : Sto) : zTY (.val (.tup i)) (.val .non) S = .ok (.val (.bl false)) S := rfl
theorem yNX (i : List MV) (S : Sto) : bZ [.val (.tup i), .val (.typ "str")] S = .ok (.val (.bl false)) S := rfl
theorem yNY (i : List MV) (S : Sto) : bZ [.val (.tup i), .val (.typ "int")] S = .ok (.val (.bl false)) S := rfl
theorem yNZ (i : List MV) (S : Sto) : bZ [.val (.tup i), .val (.typ "list")] S = .ok (.val (.bl false)) S := rfl
theorem zQN (ds : List MV) : pairs ds ds = ds.map fun d => .tup [d, d] := by
  induction ds with
  | nil => rfl
  | cons d ds ih => show MV.tup [d, d] :: pairs ds ds = _; rw [ih]; rfl
mutual
noncomputable def sm : MV → Bool
  | .tup ds => decide (ds.length < 1000) && smL ds
  | _ => true
noncomputable def smL : List MV → Bool
  | [] => true
  | d :: ds => sm d && smL ds
end
theorem nV (ds : List MV) : sm (.tup ds) = (decide (ds.length < 1000) && smL ds) := by rw [sm]
theorem xI (d : MV) (ds : List MV) : smL (d :: ds) = (sm d && smL ds) := by rw [smL]
theorem yBU : ∀ {ds : List MV}, smL ds = true → ∀ d ∈ ds, sm d = true
  | [], _, d, h => by simp at h
  | e :: ds, hp, d, h => by
    rw [xI, Bool.and_eq_true] at hp
    rcases List.mem_cons.mp h with rfl | h
    · exact hp.1
    · exact yBU hp.2 d h
theorem zGA : ∀ {ds : List MV}, (∀ d ∈ ds, sm d = true) → smL ds = true
  | [], _ => by rw [smL]
  | d :: ds, h => by rw [xI, h d List.mem_cons_self, zGA fun e he => h e (List.mem_cons_of_mem _ he)]; rfl
theorem zWQ : ∀ (n : Nat) {d : MV} (S : Sto), pd d = true → sm d = true → dpt d < n → zJ 2 (zP n) [.val d, .val d] S = .ok (.val (.bl true)) S
  | 0, d, S, _, _, h => by (first | lia | omega)
  | n + 1, d, S, hp, hsm, h => wW rfl (by
    show xM (zAE (zP n) [some d, some d] S) = _
    unfold zAE
    rcases zQF hp with ⟨i, rfl⟩ | ⟨x, rfl⟩ | ⟨ds, rfl, pds⟩
    · rw [zF (show wK (zP n) [some (.int i), some (.int i)] S = .ok (.next [some (.int i), some (.int i)]) S by unfold wK; simp? [yKE]; rfl)]
      rw [zF (show wL (zP n) [some (.int i), some (.int i)] S = .ok (.next [some (.int i), some (.int i)]) S by unfold wL; simp? [bok]; rfl)]
      rw [bF (show jL (zP n) [some (.int i), some (.int i)] S = .ok (.ret (.val (.bl true))) S by unfold jL; simp? [yGP, yGQ, jV]; first | rfl | simp [bok])]
      rfl
    · rw [zF (show wK (zP n) [some (.str x), some (.str x)] S = .ok (.next [some (.str x), some (.str x)]) S by unfold wK; simp? [yKF]; rfl)]
      rw [bF (show wL (zP n) [some (.str x), some (.str x)] S = .ok (.ret (.val (.bl true))) S by unfold wL; simp? [jV, eq_str]; first | rfl | simp [bok])]
      rfl
    · rw [kK] at h
      rw [nV, Bool.and_eq_true, decide_eq_true_eq] at hsm
      have hlen : ds.length < 1000000 := by (first | lia | omega)
      have hc : xW (gTp 2 (yS (gNm 0) (yS (gNm 1) bB))) (zEG (zP n)) (cP (zP n)) [none, none] [] (pairs ds ds) S = .ok ((pairs ds ds).map fun _ => .bl true) S := bG (gP S) fun e he => by
        rw [zQN] at he
        obtain ⟨x, hx, rfl⟩ := List.mem_map.mp he
        refine ⟨[some x, some x], rfl, rfl, ?_⟩
        unfold cP
        simp? [zWQ n S (zOT pds x hx) (yBU hsm.2 x hx) (by have := zQE x hx; (first | lia | omega))]
      rw [zF (show wK (zP n) [some (.tup ds), some (.tup ds)] S = .ok (.next [some (.tup ds), some (.tup ds)]) S by unfold wK; simp? [yGV]; rfl)]
      rw [zF (show wL (zP n) [some (.tup ds), some (.tup ds)] S = .ok (.next [some (.tup ds), some (.tup ds)]) S by unfold wL; simp? [yNX]; rfl)]
      rw [zF (show jL (zP n) [some (.tup ds), some (.tup ds)] S = .ok (.next [some (.tup ds), some (.tup ds)]) S by unfold jL; simp? [yNY]; rfl)]
      rw [zF (show zBB (zP n) [some (.tup ds), some (.tup ds)] S = .ok (.next [some (.tup ds), some (.tup ds)]) S by unfold zBB; simp? [yNZ]; rfl)]
      rw [zF (show zBC (zP n) [some (.tup ds), some (.tup ds)] S = .ok (.next [some (.tup ds), some (.tup ds)]) S by unfold zBC; simp? [bok]; rfl)]
      unfold zIH
      simp? [zFW, jV, show itZ [.val (.tup ds), .val (.tup ds)] S = .ok ⟨pairs ds ds, []⟩ S from rfl]
      rw [if_pos (show (pairs ds ds).length < 1000000 by rw [zQN, List.length_map]; exact hlen)]
      rw [show blk 2 [] [some (.tup ds), some (.tup ds)] = [none, none] from rfl, hc, zEJ]
      simp [bok, zEI]
      rfl)
theorem zOW (ns : List Int) (k : Int) (hk : 0 ≤ k) (S : Sto) : ∃ c, zJ 2 yT [.val (.scr (ns.map MV.int)), .val (.int k)] S = .ok (.val (.int c)) S := by
  have hlen : wX [.val (.scr (ns.map MV.int))] S = .ok (.val (.int ns.length)) S := by
    show R.ok (Er.val (.int (((ns.map MV.int).length : Nat) : Int))) S = _
    rw [List.length_map]
  have e1 : cO [some (.scr (ns.map MV.int)), some (.int k)] S = if decide (k < ns.length) = true then (ixF (.val (.scr (ns.map MV.int))) (.val (.int k)) S).bind fun r S1 => .ok (.ret r) S1 else .ok (.next [some (.scr (ns.map MV.int)), some (.int k)]) S := by
    unfold cO
    simp? [hlen, lt_int]
  have fin : ∀ c, yT [.scr (ns.map MV.int), .int k] S = .ok (.val (.int c)) S → ∃ c, zJ 2 yT [.val (.scr (ns.map MV.int)), .val (.int k)] S = .ok (.val (.int c)) S := fun c h => ⟨c, zEA rfl h (hJ _ _) (fun l => by simp)⟩
  have hs : yB ["_law_script", "_law_k"] [.scr (ns.map MV.int), .int k] = [some (.scr (ns.map MV.int)), some (.int k)] := rfl
  by_cases hlt : k < ns.length
  · obtain ⟨d, hd⟩ := dG (xs := ns.map MV.int) (i := k) hk (by rw [List.length_map]; exact hlt)
    obtain ⟨c, rfl⟩ : ∃ c, d = .int c := dH (P := fun d => ∃ c, d = .int c) (fun e he => by obtain ⟨c, _, rfl⟩ := List.mem_map.mp he; exact ⟨c, rfl⟩) hd
    have hix : ixF (.val (.scr (ns.map MV.int))) (.val (.int k)) S = .ok (.val (.int c)) S := by
      show (match atI (ns.map MV.int) k with | some d => R.ok (Er.val d) S | none => .no) = _
      rw [hd]
    refine fin c ?_
    rw [decide_eq_true hlt, if_pos rfl, hix, bok] at e1
    unfold yT bN
    rw [hs, bF e1]
    rfl
  · refine fin 0 ?_
    rw [decide_eq_false hlt, if_neg Bool.false_ne_true] at e1
    unfold yT bN
    rw [hs, zF e1]
    rfl
theorem yBV {ws : List Int} {sd : Side} (h : zZF ws sd) : pd (wF sd) = true ∧ dpt (wF sd) ≤ 1 ∧ sm (wF sd) = true := by
  cases sd with
  | isv v =>
    have hv : Vl v := h
    rcases hv.cases with ⟨i, rfl, _⟩ | ⟨x, rfl, _⟩ <;> (unfold wF; simp [pd, pdL, dpt, zHB, sm, smL])
  | cell k j => unfold wF; simp [pd, pdL, dpt, zHB, sm, smL]
theorem zUP {ws : List Int} {q : Test} (h : zQL ws q) : pd (testM q) = true ∧ dpt (testM q) ≤ 2 ∧ sm (testM q) = true := by
  obtain ⟨a1, a2, a3⟩ := yBV h.1
  obtain ⟨b1, b2, b3⟩ := yBV h.2.2
  unfold testM
  refine ⟨by simp [pd, pdL, a1, b1], ?_, by simp [sm, smL, a3, b3]⟩
  rw [kK, yK, yK, yK, zBI, zJO]
  (first | lia | omega)
theorem zWR {ws : List Int} {qs : List Test} (h : ∀ q ∈ qs, zQL ws q) (hl : qs.length ≤ 3) : pd (.tup (qs.map testM)) = true ∧ dpt (.tup (qs.map testM)) ≤ 3 ∧ sm (.tup (qs.map testM)) = true := by
  refine ⟨?_, ?_, ?_⟩
  · rw [cU]; exact zFY fun d hd => by obtain ⟨q, hq, rfl⟩ := List.mem_map.mp hd; exact (zUP (h q hq)).1
  · rw [kK]; have := zFZ (n := 2) (ds := qs.map testM) fun d hd => by obtain ⟨q, hq, rfl⟩ := List.mem_map.mp hd; exact (zUP (h q hq)).2.1
    (first | lia | omega)
  · rw [nV, decide_eq_true (by rw [List.length_map]; (first | lia | omega)), zGA fun d hd => by obtain ⟨q, hq, rfl⟩ := List.mem_map.mp hd; exact (zUP (h q hq)).2.2]; rfl
theorem yBW {cs : List Nat} (hl : cs.length ≤ 3) : pd (.tup (cs.map yN)) = true ∧ dpt (.tup (cs.map yN)) ≤ 1 ∧ sm (.tup (cs.map yN)) = true := by
  refine ⟨?_, ?_, ?_⟩
  · rw [cU]; exact zFY fun d hd => by obtain ⟨q, hq, rfl⟩ := List.mem_map.mp hd; exact zIK _
  · rw [kK]; have := zFZ (n := 0) (ds := cs.map yN) fun d hd => by obtain ⟨q, hq, rfl⟩ := List.mem_map.mp hd; exact Nat.le_of_eq (zCM _)
    (first | lia | omega)
  · rw [nV, decide_eq_true (by rw [List.length_map]; (first | lia | omega)), zGA fun d hd => by obtain ⟨q, hq, rfl⟩ := List.mem_map.mp hd; unfold yN; simp [sm]]; rfl
theorem zOX {ts : List (Int × Int)} {r : Rule} (h : zJP ts r) : pd (yA r) = true ∧ dpt (yA r) ≤ 4 ∧ sm (yA r) = true := by
  cases r with
  | never t qs =>
    obtain ⟨a1, a2, a3⟩ := zWR h.2.2.2 h.2.2.1
    unfold yA
    refine ⟨?_, ?_, ?_⟩
    · rw [cU, xF, xF, xF, zJN, a1, zNF, zIK]; rfl
    · rw [kK, yK, yK, yK, zBI, zJO, zCM]; (first | lia | omega)
    · rw [nV, xI, xI, xI, a3]; simp [sm, smL]
  | apart t u qs =>
    obtain ⟨a1, a2, a3⟩ := zWR h.2.2.2.2 h.2.2.2.1
    unfold yA
    refine ⟨?_, ?_, ?_⟩
    · rw [cU, xF, xF, xF, xF, zJN, a1, zNF, zIK, zIK]; rfl
    · rw [kK, yK, yK, yK, yK, zBI, zJO, zCM, zCM]; (first | lia | omega)
    · rw [nV, xI, xI, xI, xI, a3]; simp [sm, smL]
  | tie t cs u ds =>
    obtain ⟨_, _, _, hc, hd, _⟩ := h
    obtain ⟨a1, a2, a3⟩ := yBW (cs := cs) hc
    obtain ⟨b1, b2, b3⟩ := yBW (cs := ds) (by (first | lia | omega))
    unfold yA
    refine ⟨?_, ?_, ?_⟩
    · rw [cU, xF, xF, xF, xF, xF, zJN, a1, b1, zNF, zIK, zIK]; rfl
    · rw [kK, yK, yK, yK, yK, yK, zBI, zJO, zCM, zCM]; (first | lia | omega)
    · rw [nV, xI, xI, xI, xI, xI, a3, b3]; simp [sm, smL]
theorem zUQ (p : Int × Int) : pd (tbl p) = true ∧ dpt (tbl p) ≤ 1 ∧ sm (tbl p) = true := by unfold tbl; simp [pd, pdL, dpt, zHB, sm, smL]
theorem yOA {ts : List (Int × Int)} (hT : TOk ts) {r : Nat × List MV} (h : ROk ts r) : sm (yC r) = true := by
  obtain ⟨p, hp, hl, hv⟩ := h
  have hw := hT.2.2 p (List.mem_of_getElem? hp)
  have hs : smL r.2 = true := zGA fun d hd => by
    rcases (hv d hd).cases with ⟨i, rfl, _⟩ | ⟨x, rfl, _⟩ <;> simp [sm]
  unfold yC
  rw [nV, xI, xI, nV, hs, decide_eq_true (show r.2.length < 1000 by (first | lia | omega))]
  simp [sm, smL]
theorem SqM.list {S : Sto} {m : MV} {ds : List MV} (h : SqM S m ds) : zHM [.val m] S = .ok (.new ds) S := by
  rcases h with rfl | ⟨l, rfl, hS⟩
  · rfl
  · show (match itemsOf S (.val (.loc l)) with | some ds => R.ok (Er.new ds) S | none => .no) = _
    rw [show itemsOf S (.val (.loc l)) = some ds by unfold itemsOf; exact zAR hS]
section
variable {ts : List (Int × Int)} {rl : List Rule} {rs : List (Nat × List MV)} {vs : List MV} {q : MV} {hd : Int} {x6 : Option MV}
abbrev wM (ts : List (Int × Int)) (rl : List Rule) (rs : List (Nat × List MV)) : MV := .tup [.tup (ts.map tbl), .tup (rl.map yA), .tup (rs.map yC)]
theorem yKG (hT : TOk ts) (hR : ∀ r ∈ rl, zJP ts r) (hrl : rl.length ≤ 6) (hr : ∀ r ∈ rs, ROk ts r) (hl : rs.length ≤ 60) : pd (wM ts rl rs) = true ∧ dpt (wM ts rl rs) < 8 ∧ sm (wM ts rl rs) = true := by
  have a : pdL (ts.map tbl) = true ∧ zHB (ts.map tbl) ≤ 1 ∧ smL (ts.map tbl) = true := ⟨zFY fun d hd => by obtain ⟨p, _, rfl⟩ := List.mem_map.mp hd; exact (zUQ p).1, zFZ fun d hd => by obtain ⟨p, _, rfl⟩ := List.mem_map.mp hd; exact (zUQ p).2.1, zGA fun d hd => by obtain ⟨p, _, rfl⟩ := List.mem_map.mp hd; exact (zUQ p).2.2⟩
  have b : pdL (rl.map yA) = true ∧ zHB (rl.map yA) ≤ 4 ∧ smL (rl.map yA) = true := ⟨zFY fun d hd => by obtain ⟨p, hp, rfl⟩ := List.mem_map.mp hd; exact (zOX (hR p hp)).1, zFZ fun d hd => by obtain ⟨p, hp, rfl⟩ := List.mem_map.mp hd; exact (zOX (hR p hp)).2.1, zGA fun d hd => by obtain ⟨p, hp, rfl⟩ := List.mem_map.mp hd; exact (zOX (hR p hp)).2.2⟩
  have c : pdL (rs.map yC) = true ∧ zHB (rs.map yC) ≤ 2 ∧ smL (rs.map yC) = true := ⟨zFY fun d hd => by obtain ⟨p, hp, rfl⟩ := List.mem_map.mp hd; exact (zNG (hr p hp)).1, zFZ fun d hd => by obtain ⟨p, hp, rfl⟩ := List.mem_map.mp hd; exact (zNG (hr p hp)).2, zGA fun d hd => by obtain ⟨p, hp, rfl⟩ := List.mem_map.mp hd; exact yOA hT (hr p hp)⟩
  have h4 := hT.2.1
  refine ⟨?_, ?_, ?_⟩
  · rw [cU, xF, xF, xF, zJN, cU, cU, cU, a.1, b.1, c.1]; rfl
  · rw [kK, yK, yK, yK, zBI, kK, kK, kK]; (first | lia | omega)
  · rw [nV, xI, xI, xI, nV, nV, nV, a.2.2, b.2.2, c.2.2, decide_eq_true (show (ts.map tbl).length < 1000 by rw [List.length_map]; (first | lia | omega)), decide_eq_true (show (rl.map yA).length < 1000 by rw [List.length_map]; (first | lia | omega)), decide_eq_true (show (rs.map yC).length < 1000 by rw [List.length_map]; (first | lia | omega))]
    simp [smL]
abbrev L10 (q : MV) (ts : List (Int × Int)) (hd : Int) (rl : List Rule) (rs : List (Nat × List MV)) (x6 x7 x8 x9 : Option MV) : Rho := [some q, some (.loc 0), some (.tup (ts.map tbl)), some (.int hd), some (.tup (rl.map yA)), some (.tup (rs.map yC)), x6, x7, x8, x9]
abbrev S5 (vs tb rl rs : List MV) : Sto := [.lst vs, .lst tb, .lst rl, .lst rs, .lst [.loc 1, .loc 2, .loc 3]]
theorem zNI {T : Sto} {a b : Nat} {ds : List MV} (ha : T[a]? = some (.lst ds)) (hb : T[b]? = some (.lst ds)) (hp : ∀ d ∈ ds, pd d = true ∧ dpt d < 30) (n : Nat) (hn : 30 ≤ n) : eqv T (n + 1) (.loc a) (.loc b) = some true := by
  show ((vwE T (.val (.loc a))).bind fun x => (vwE T (.val (.loc b))).bind fun y => eqW (eqv T n) x y) = some true
  rw [show vwE T (.val (.loc a)) = some (.ls ds) by show (cE T (.val (.loc a))).map Vw.ls = _; rw [zAR ha]; rfl, show vwE T (.val (.loc b)) = some (.ls ds) by show (cE T (.val (.loc b))).map Vw.ls = _; rw [zAR hb]; rfl]
  show (if ds.length = ds.length then (prs (eqv T n) ds ds).map fun bs => bs.all id else some false) = _
  rw [if_pos rfl]
  obtain ⟨bs, h1, h2⟩ := zQG (e := eqv T n) (ds := ds) (es := ds) fun x hx y hy => zQH n (hp x hx).1 (hp y hy).1 (by have := (hp x hx).2; (first | lia | omega))
  rw [h1]
  show some (bs.all id) = some true
  rw [decide_eq_true rfl, Bool.and_eq_true] at h2
  rw [h2.1]
theorem yGW (hT : TOk ts) (hR : ∀ r ∈ rl, zJP ts r) (hrl : rl.length ≤ 6) (hr : ∀ r ∈ rs, ROk ts r) (hn : rs.Nodup) (hl : rs.length ≤ 60) : ∃ S', zY zOQ (zY zOR (zY zOS (zY zLX (zY zLY (zY zLZ (zY zMA zQC)))))) (L10 q ts hd rl rs x6 none none none) [.lst vs] = .ok (.ret (.val (.bl true))) S' := by
  obtain ⟨bp, bd, bs⟩ := yKG hT hR hrl hr hl
  have e7 : zOQ (L10 q ts hd rl rs x6 none none none) [.lst vs] = .ok (.next (L10 q ts hd rl rs x6 (some (wM ts rl rs)) none none)) [.lst vs] := by
    unfold zOQ
    simp? [bok]
  have e8 : zOR (L10 q ts hd rl rs x6 (some (wM ts rl rs)) none none) [.lst vs] = .ok (.next (L10 q ts hd rl rs x6 (some (wM ts rl rs)) (some (.loc 4)) none)) (S5 vs (ts.map tbl) (rl.map yA) (rs.map yC)) := by
    unfold zOR
    simp? [show ∀ (d : List MV) (S : Sto), zHM [.val (.tup d)] S = .ok (.new d) S from fun d S => rfl]
    rfl
  have hb : ∀ S (a b c : MV), SqM S a (ts.map tbl) → SqM S b (rl.map yA) → SqM S c (rs.map yC) → zJ 3 cN [.val a, .val b, .val c] S = .ok (.val (wM ts rl rs)) S := fun S a b c h1 h2 h3 => yNW h1 h2 h3 hT hR hrl hr hn hl
  have i0 : ∀ vs tb rl rs, ixF (.val (.loc 4)) (.val (.int 0)) (S5 vs tb rl rs) = .ok (.val (.loc 1)) (S5 vs tb rl rs) := fun _ _ _ _ => rfl
  have i1 : ∀ vs tb rl rs, ixF (.val (.loc 4)) (.val (.int 1)) (S5 vs tb rl rs) = .ok (.val (.loc 2)) (S5 vs tb rl rs) := fun _ _ _ _ => rfl
  have i2 : ∀ vs tb rl rs, ixF (.val (.loc 4)) (.val (.int 2)) (S5 vs tb rl rs) = .ok (.val (.loc 3)) (S5 vs tb rl rs) := fun _ _ _ _ => rfl
  have e9 : zOS (L10 q ts hd rl rs x6 (some (wM ts rl rs)) (some (.loc 4)) none) (S5 vs (ts.map tbl) (rl.map yA) (rs.map yC)) = .ok (.next (L10 q ts hd rl rs x6 (some (wM ts rl rs)) (some (.loc 4)) (some (wM ts rl rs)))) (S5 vs (ts.map tbl) (rl.map yA) (rs.map yC)) := by
    unfold zOS
    simp? [wN (show (0 : Int) < 42 by decide) (show (42 : Int) < 1073741824 by decide), mod_lit (show (0 : Int) < 2 by decide), i0, i1, i2, hb _ _ _ _ (.inl rfl) (.inl rfl) (.inl rfl), hb (S5 vs (ts.map tbl) (rl.map yA) (rs.map yC)) (.loc 1) (.loc 2) (.loc 3) (.inr ⟨1, rfl, rfl⟩) (.inr ⟨2, rfl, rfl⟩) (.inr ⟨3, rfl, rfl⟩)]
    cases decide (hd / 42 % 2 = 1) <;> rfl
  have hal : ∀ S, zJ 2 (zP 8) [.val (wM ts rl rs), .val (wM ts rl rs)] S = .ok (.val (.bl true)) S := fun S => zWQ 8 S bp bs bd
  generalize hTn : S5 vs (ts.map tbl) (rl.map yA) (rs.map yC) ++ [MO.lst (ts.map tbl)] ++ [MO.lst (rl.map yA)] ++ [MO.lst (rs.map yC)] = T
  have hne : neF (.val (.loc 4)) (.new [.loc 5, .loc 6, .loc 7]) T = .ok (.val (.bl false)) T := by
    have pd1 : ∀ d ∈ ts.map tbl, pd d = true ∧ dpt d < 30 := fun d hd => by obtain ⟨p, _, rfl⟩ := List.mem_map.mp hd; have := zUQ p; exact ⟨this.1, by (first | lia | omega)⟩
    have pd2 : ∀ d ∈ rl.map yA, pd d = true ∧ dpt d < 30 := fun d hd => by obtain ⟨p, hp, rfl⟩ := List.mem_map.mp hd; have := zOX (hR p hp); exact ⟨this.1, by (first | lia | omega)⟩
    have pd3 : ∀ d ∈ rs.map yC, pd d = true ∧ dpt d < 30 := fun d hd => by obtain ⟨p, hp, rfl⟩ := List.mem_map.mp hd; have := zNG (hr p hp); exact ⟨this.1, by (first | lia | omega)⟩
    have q1 : eqv T 40 (.loc 1) (.loc 5) = some true := zNI (ds := ts.map tbl) (by rw [← hTn]; rfl) (by rw [← hTn]; rfl) pd1 39 (by decide)
    have q2 : eqv T 40 (.loc 2) (.loc 6) = some true := zNI (ds := rl.map yA) (by rw [← hTn]; rfl) (by rw [← hTn]; rfl) pd2 39 (by decide)
    have q3 : eqv T 40 (.loc 3) (.loc 7) = some true := zNI (ds := rs.map yC) (by rw [← hTn]; rfl) (by rw [← hTn]; rfl) pd3 39 (by decide)
    have hv : zPQ T yO (.val (.loc 4)) (.new [.loc 5, .loc 6, .loc 7]) = some true := by
      show ((vwE T (.val (.loc 4))).bind fun x => (vwE T (.new [.loc 5, .loc 6, .loc 7])).bind fun y => eqW (eqv T 40) x y) = some true
      rw [show vwE T (.val (.loc 4)) = some (.ls [.loc 1, .loc 2, .loc 3]) by show (cE T (.val (.loc 4))).map Vw.ls = _; rw [zAR (ds := [.loc 1, .loc 2, .loc 3]) (by rw [← hTn]; rfl)]; rfl]
      show (if ([.loc 1, .loc 2, .loc 3] : List MV).length = ([.loc 5, .loc 6, .loc 7] : List MV).length then (prs (eqv T 40) [.loc 1, .loc 2, .loc 3] [.loc 5, .loc 6, .loc 7]).map fun bs => bs.all id else some false) = _
      rw [if_pos (show ([MV.loc 1, MV.loc 2, MV.loc 3] : List MV).length = ([MV.loc 5, MV.loc 6, MV.loc 7] : List MV).length from rfl)]
      unfold prs
      rw [q1]
      unfold prs
      rw [q2]
      unfold prs
      rw [q3]
      rfl
    unfold neF
    rw [hv]
    rfl
  have e10 : zLX (L10 q ts hd rl rs x6 (some (wM ts rl rs)) (some (.loc 4)) (some (wM ts rl rs))) (S5 vs (ts.map tbl) (rl.map yA) (rs.map yC)) = .ok (.next (L10 q ts hd rl rs x6 (some (wM ts rl rs)) (some (.loc 4)) (some (wM ts rl rs)))) T := by
    unfold zLX
    simp? [hal, show ∀ (d : List MV) (S : Sto), zHM [.val (.tup d)] S = .ok (.new d) S from fun d S => rfl]
    have hlf : zBW [.new (ts.map tbl), .new (rl.map yA), .new (rs.map yC)] (S5 vs (ts.map tbl) (rl.map yA) (rs.map yC)) = .ok (.new [.loc 5, .loc 6, .loc 7]) T := by rw [← hTn]; exact zHQ (by simp)
    simp only [Bool.not_true, Bool.false_eq_true, if_false, bok, hlf, hne, yKQ]
  have hT4 : T[4]? = some (.lst [.loc 1, .loc 2, .loc 3]) := by rw [← hTn]; rfl
  have hT1 : T[1]? = some (.lst (ts.map tbl)) := by rw [← hTn]; rfl
  have hT2 : T[2]? = some (.lst (rl.map yA)) := by rw [← hTn]; rfl
  have hT3 : T[3]? = some (.lst (rs.map yC)) := by rw [← hTn]; rfl
  have e11 : zLY (L10 q ts hd rl rs x6 (some (wM ts rl rs)) (some (.loc 4)) (some (wM ts rl rs))) T = .ok (.next (L10 q ts hd rl rs x6 (some (wM ts rl rs)) (some (.loc 4)) (some (wM ts rl rs)))) (T.set 1 (.lst (ts.map tbl ++ [.tup [.int 1, .int 1]]))) := by
    unfold zLY
    simp? [zER hT4 (show atI [MV.loc 1, MV.loc 2, MV.loc 3] 0 = some (.loc 1) from rfl), zFV hT1, zMB hT1 (show (ts.map tbl).length < 1000000 by rw [List.length_map]; have := hT.2.1; (first | lia | omega))]
  generalize hU : T.set 1 (.lst (ts.map tbl ++ [.tup [.int 1, .int 1]])) = U at e11
  have hU4 : U[4]? = some (.lst [.loc 1, .loc 2, .loc 3]) := by rw [← hU, xR (by decide)]; exact hT4
  have hU2 : U[2]? = some (.lst (rl.map yA)) := by rw [← hU, xR (by decide)]; exact hT2
  have hU3 : U[3]? = some (.lst (rs.map yC)) := by rw [← hU, xR (by decide)]; exact hT3
  have e12 : ∃ V, zLZ (L10 q ts hd rl rs x6 (some (wM ts rl rs)) (some (.loc 4)) (some (wM ts rl rs))) U = .ok (.next (L10 q ts hd rl rs x6 (some (wM ts rl rs)) (some (.loc 4)) (some (wM ts rl rs)))) V ∧ V[4]? = some (.lst [.loc 1, .loc 2, .loc 3]) ∧ V[3]? = some (.lst (rs.map yC)) := by
    have hc : ∃ es, yFO (.val (.loc 2)) [] U = .ok (.val .non) (U.set 2 (.lst es)) := by
      refine ⟨[], ?_⟩
      unfold yFO zOG
      dsimp only
      rw [hU2]
    obtain ⟨es, hc⟩ := hc
    refine ⟨U.set 2 (.lst es), ?_, by rw [xR (by decide)]; exact hU4, by rw [xR (by decide)]; exact hU3⟩
    unfold zLZ
    simp? [zER hU4 (show atI [MV.loc 1, MV.loc 2, MV.loc 3] 1 = some (.loc 2) from rfl), zFV hU2, hc]
  obtain ⟨V, e12, hV4, hV3⟩ := e12
  have e13 : ∃ Z, zMA (L10 q ts hd rl rs x6 (some (wM ts rl rs)) (some (.loc 4)) (some (wM ts rl rs))) V = .ok (.next (L10 q ts hd rl rs x6 (some (wM ts rl rs)) (some (.loc 4)) (some (wM ts rl rs)))) Z := by
    have hc : ∃ es, yFQ (.val (.loc 3)) [] V = .ok (.val .non) (V.set 3 (.lst es)) := by
      refine ⟨(rs.map yC).reverse, ?_⟩
      unfold yFQ zOG
      dsimp only
      rw [hV3]
    obtain ⟨es, hc⟩ := hc
    refine ⟨V.set 3 (.lst es), ?_⟩
    unfold zMA
    simp? [zER hV4 (show atI [MV.loc 1, MV.loc 2, MV.loc 3] 2 = some (.loc 3) from rfl), zFV hV3, hc]
  obtain ⟨Z, e13⟩ := e13
  refine ⟨Z, ?_⟩
  rw [zF e7, zF e8, zF e9, zF e10, zF e11, zF e12, zF e13]
  have j0 : ixF (.val (wM ts rl rs)) (.val (.int 0)) Z = .ok (.val (.tup (ts.map tbl))) Z := rfl
  have j1 : ixF (.val (wM ts rl rs)) (.val (.int 1)) Z = .ok (.val (.tup (rl.map yA))) Z := rfl
  have j2 : ixF (.val (wM ts rl rs)) (.val (.int 2)) Z = .ok (.val (.tup (rs.map yC))) Z := rfl
  unfold zQC
  simp? [hal, jV, j0, j1, j2, hb Z _ _ _ (.inl rfl) (.inl rfl) (.inl rfl)]
end
theorem yGX : ∀ {ts : List (Int × Int)} {o : List MV}, (∀ y ∈ o, ∃ r, zJP ts r ∧ y = yA r) → ∃ rl : List Rule, o = rl.map yA ∧ ∀ r ∈ rl, zJP ts r := by
  intro ts o
  induction o with
  | nil => exact fun _ => ⟨[], rfl, fun c hc => by simp at hc⟩
  | cons a o ih =>
    intro h
    obtain ⟨r, hr, rfl⟩ := h a List.mem_cons_self
    obtain ⟨rl, rfl, hrl⟩ := ih fun y hy => h y (List.mem_cons_of_mem _ hy)
    exact ⟨r :: rl, rfl, fun d hd => (List.mem_cons.mp hd).elim (fun e => e ▸ hr) (hrl d)⟩
theorem sixty {ts : List (Int × Int)} (hT : TOk ts) {rl : List Rule} {rs : List (Nat × List MV)} {vs : List MV} {q : MV} {hd : Int} (hv : vs.length = 7) (hV : ∀ d ∈ vs, Vl d) (hr : ∀ r ∈ rs, ROk ts r) (hn : rs.Nodup) (hl : rs.length ≤ 60) :
    ∃ (rs' : List (Nat × List MV)) (x6 : Option MV), (∀ r ∈ rs', ROk ts r) ∧ rs'.Nodup ∧ rs'.length ≤ 60 ∧ zOP (L10 q ts hd rl rs none none none none) [.lst vs] = .ok (.next (L10 q ts hd rl rs' x6 none none none)) [.lst vs] := by
  cases hb : decide (hd / 84 % 8 = 5) with
  | false =>
    refine ⟨rs, none, hr, hn, hl, ?_⟩
    unfold zOP
    simp? [wN (show (0 : Int) < 84 by decide) (show (84 : Int) < 1073741824 by decide), mod_lit (show (0 : Int) < 8 by decide), hb]
    rfl
  | true =>
    have h0 : 0 < ts.length := hT.1
    have hg : ts[0]? = some ts[0] := List.getElem?_eq_getElem h0
    have hp := hT.2.2 ts[0] (List.getElem_mem h0)
    generalize ts[0] = p at hg hp
    have hS0 : ([MO.lst vs] : Sto)[0]? = some (.lst vs) := rfl
    obtain ⟨mo, c1, l1, p1⟩ := zQA (S := [MO.lst vs]) (gf := gNm 0) (cf := zSY) (ef := zND) (ρb := [none, some (.loc 0), some (.int hd)]) (gs := []) (P := Vl) (gP _) (ds := (List.range (p.1 - 1).toNat).map fun j => MV.int (j : Nat)) (fun d hd' => by
      obtain ⟨j, _, rfl⟩ := List.mem_map.mp hd'
      obtain ⟨y, hy⟩ := dG (xs := vs) (i := (hd / 672 + (j : Nat)) % 7) (Int.emod_nonneg _ (by decide)) (by have := Int.emod_lt_of_pos (hd / 672 + (j : Nat)) (show (0 : Int) < 7 by decide); rw [hv]; exact this)
      refine ⟨[some (.int (j : Nat)), some (.loc 0), some (.int hd)], y, rfl, rfl, ?_, dH hV hy⟩
      unfold zND
      simp? [wN (show (0 : Int) < 672 by decide) (show (672 : Int) < 1073741824 by decide), mod_lit (show (0 : Int) < 7 by decide), zER hS0 hy])
    rw [List.length_map, List.length_range] at l1
    have c2 : xW (gNm 0) zSZ zNE [none, some (.tup mo)] [] ((List.range 60).map fun k => MV.int (k : Nat)) [MO.lst vs] = .ok (((List.range 60).map fun k => MV.int (k : Nat)).map fun d => match d with | .int i => yC (0, .int (i - 30) :: mo) | d => d) [MO.lst vs] := bG (gP _) fun d hd' => by
      obtain ⟨k, _, rfl⟩ := List.mem_map.mp hd'
      refine ⟨[some (.int (k : Nat)), some (.tup mo)], rfl, rfl, ?_⟩
      unfold zNE
      simp? [tup1, yIY (S := [MO.lst vs]) (x := [MV.int ((k : Nat) - 30)]) (y := mo) (fits (by simp only [List.length_singleton]; (first | lia | omega)))]
      rfl
    have hrow : (((List.range 60).map fun k => MV.int (k : Nat)).map fun d => match d with | .int i => yC (0, .int (i - 30) :: mo) | d => d) = ((List.range 60).map fun k => ((0, .int (((k : Nat) : Int) - 30) :: mo) : Nat × List MV)).map yC := by
      rw [List.map_map, List.map_map]
      rfl
    rw [hrow] at c2
    refine ⟨(List.range 60).map fun k => (0, .int (((k : Nat) : Int) - 30) :: mo), some (.tup mo), ?_, ?_, by rw [List.length_map, List.length_range]; exact Nat.le_refl _, ?_⟩
    · intro r hr'
      obtain ⟨k, hk, rfl⟩ := List.mem_map.mp hr'
      rw [List.mem_range] at hk
      refine ⟨p, hg, ?_, fun d hd' => ?_⟩
      · show (((MV.int (((k : Nat) : Int) - 30) :: mo).length : Nat) : Int) = p.1
        rw [List.length_cons]
        (first | lia | omega)
      · rcases List.mem_cons.mp hd' with rfl | hd'
        · exact ⟨by (first | lia | omega), by (first | lia | omega)⟩
        · exact p1 d hd'
    · refine List.pairwise_map.mpr (List.nodup_range.imp fun {a b} h e => h ?_)
      have := (List.cons.inj (Prod.mk.inj e).2).1
      injection this with this
      (first | lia | omega)
    · have hl1 : ((List.range (p.1 - 1).toNat).map fun k => MV.int (k : Nat)).length < 1000000 := by rw [List.length_map, List.length_range]; (first | lia | omega)
      have hl2 : ((List.range (60 : Int).toNat).map fun k => MV.int (k : Nat)).length < 1000000 := by rw [List.length_map, List.length_range]; decide
      unfold zOP
      simp? [wN (show (0 : Int) < 84 by decide) (show (84 : Int) < 1073741824 by decide), mod_lit (show (0 : Int) < 8 by decide), hb, zY, ix_tup (S := [MO.lst vs]) (show atI (ts.map tbl) 0 = some (tbl p) from zQJ (t := 0) hg), show ixF (.val (tbl p)) (.val (.int 0)) [MO.lst vs] = .ok (.val (.int p.1)) [MO.lst vs] from rfl, zES (S := [MO.lst vs]) (show -(2 ^ 62) ≤ p.1 - 1 ∧ p.1 - 1 < 2 ^ 62 by (first | lia | omega)), hl1,
        show blk 1 [1, 3] (L10 q ts hd rl rs none none none none) = [none, some (.loc 0), some (.int hd)] from rfl, c1, show ∀ (o : List MV) (S : Sto), kI [.new o] S = .ok (.val (.tup o)) S from fun o S => rfl, zES (S := [MO.lst vs]) (show -(2 ^ 62) ≤ (60 : Int) ∧ (60 : Int) < 2 ^ 62 by decide), hl2]
      first
        | rfl
        | (rw [show (60 : Int).toNat = 60 from rfl]; rw [show blk 1 [6] [some q, some (.loc 0), some (.tup (ts.map tbl)), some (.int hd), some (.tup (rl.map yA)), some (.tup (rs.map yC)), some (.tup mo), none, none, none] = [none, some (.tup mo)] from rfl, c2]; rfl)
theorem yGY (ns : List Int) (h : ns.length ≤ 63) : ∃ S, zTA [.scr (ns.map MV.int)] [] = .ok (.val (.bl true)) S := by
  have hs : yB ["_law_script", "_law_pool_here", "_law_tables_here", "_law_head", "_law_rules", "_law_rows_here", "_law_more", "_law_due", "_law_handed", "_law_book"] [.scr (ns.map MV.int)] = [some (.scr (ns.map MV.int)), none, none, none, none, none, none, none, none, none] := rfl
  obtain ⟨c0, h0⟩ := zOW ns 0 (by decide) []
  obtain ⟨vs, hv, hV, hpool⟩ := yJS c0 []
  obtain ⟨c1, h1⟩ := zOW ns 1 (by decide) [.lst vs]
  obtain ⟨ts, hT, htab⟩ := yCZ c1 [.lst vs]
  obtain ⟨hd, h2⟩ := zOW ns 2 (by decide) [.lst vs]
  have hS0 : ([MO.lst vs] : Sto)[0]? = some (.lst vs) := rfl
  have hm0 : 0 ≤ hd % 7 := Int.emod_nonneg _ (by decide)
  have hm1 : hd % 7 < 7 := Int.emod_lt_of_pos _ (by decide)
  obtain ⟨out, k1, l1, p1⟩ := zQA (S := [MO.lst vs]) (gf := gNm 0) (cf := zSX) (ef := zNC) (ρb := [none, some (.scr (ns.map MV.int)), some (.loc 0), some (.tup (ts.map tbl))]) (gs := []) (P := fun y => ∃ r, zJP ts r ∧ y = yA r) (gP _) (ds := (List.range (hd % 7).toNat).map fun j => MV.int (j : Nat)) (fun d hd' => by
    obtain ⟨j, _, rfl⟩ := List.mem_map.mp hd'
    obtain ⟨c, hc⟩ := zOW ns (3 + (j : Nat)) (by (first | lia | omega)) [.lst vs]
    obtain ⟨r, hr, hrc⟩ := yJU hT c hv hV hS0
    refine ⟨[some (.int (j : Nat)), some (.scr (ns.map MV.int)), some (.loc 0), some (.tup (ts.map tbl))], yA r, rfl, rfl, ?_, r, hr, rfl⟩
    unfold zNC
    simp? [hc, hrc])
  rw [List.length_map, List.length_range] at l1
  obtain ⟨rl, rfl, hR⟩ := yGX p1
  rw [List.length_map] at l1
  have hw0 : 0 ≤ hd / 7 % 6 := Int.emod_nonneg _ (by decide)
  have hw1 : hd / 7 % 6 < 6 := Int.emod_lt_of_pos _ (by decide)
  have hcl : (nB ns (some 9) (some 59)).length ≤ 60 := by
    unfold nB
    rw [List.length_take, List.length_drop]
    have z1 : HT.sIx ns.length 0 (some 9) = min 9 ns.length := by unfold HT.sIx; simp only; split <;> (first | lia | omega)
    have z2 : HT.sIx ns.length ns.length (some 59) = min 59 ns.length := by unfold HT.sIx; simp only; split <;> (first | lia | omega)
    rw [z1, z2]
    (first | lia | omega)
  obtain ⟨rs, hr, hn, hl, hrows⟩ := yJT hT (nB ns (some 9) (some 59)) hcl (w := 2 + hd / 7 % 6) ⟨by (first | lia | omega), by (first | lia | omega)⟩ hv hV hS0
  obtain ⟨rs', x6, hr', hn', hl', e6⟩ := sixty hT (rl := rl) (q := .scr (ns.map MV.int)) (hd := hd) hv hV hr hn (by (first | lia | omega))
  obtain ⟨S', etail⟩ := yGW (q := .scr (ns.map MV.int)) (hd := hd) (x6 := x6) (vs := vs) hT hR (by (first | lia | omega)) hr' hn' hl'
  refine ⟨S', ?_⟩
  have e1 : zUI [some (.scr (ns.map MV.int)), none, none, none, none, none, none, none, none, none] [] = .ok (.next [some (.scr (ns.map MV.int)), some (.loc 0), none, none, none, none, none, none, none, none]) [.lst vs] := by
    unfold zUI
    simp? [h0, hpool]
    rfl
  have e2 : zUJ [some (.scr (ns.map MV.int)), some (.loc 0), none, none, none, none, none, none, none, none] [.lst vs] = .ok (.next [some (.scr (ns.map MV.int)), some (.loc 0), some (.tup (ts.map tbl)), none, none, none, none, none, none, none]) [.lst vs] := by
    unfold zUJ
    simp? [h1, htab]
  have e3 : zUK [some (.scr (ns.map MV.int)), some (.loc 0), some (.tup (ts.map tbl)), none, none, none, none, none, none, none] [.lst vs] = .ok (.next [some (.scr (ns.map MV.int)), some (.loc 0), some (.tup (ts.map tbl)), some (.int hd), none, none, none, none, none, none]) [.lst vs] := by
    unfold zUK
    simp? [h2]
  have hll : ((List.range (hd % 7).toNat).map fun k => MV.int (k : Nat)).length < 1000000 := by rw [List.length_map, List.length_range]; (first | lia | omega)
  have e4 : zUL [some (.scr (ns.map MV.int)), some (.loc 0), some (.tup (ts.map tbl)), some (.int hd), none, none, none, none, none, none] [.lst vs] = .ok (.next [some (.scr (ns.map MV.int)), some (.loc 0), some (.tup (ts.map tbl)), some (.int hd), some (.tup (rl.map yA)), none, none, none, none, none]) [.lst vs] := by
    unfold zUL
    simp? [mod_lit (show (0 : Int) < 7 by decide), zES (S := [MO.lst vs]) (show -(2 ^ 62) ≤ hd % 7 ∧ hd % 7 < 2 ^ 62 by (first | lia | omega)), hll,
      show blk 1 [0, 1, 2] [some (.scr (ns.map MV.int)), some (.loc 0), some (.tup (ts.map tbl)), some (.int hd), none, none, none, none, none, none] = [none, some (.scr (ns.map MV.int)), some (.loc 0), some (.tup (ts.map tbl))] from rfl, k1,
      show ∀ (o : List MV) (S : Sto), kI [.new o] S = .ok (.val (.tup o)) S from fun o S => rfl]
  have e5 : zUM [some (.scr (ns.map MV.int)), some (.loc 0), some (.tup (ts.map tbl)), some (.int hd), some (.tup (rl.map yA)), none, none, none, none, none] [.lst vs] = .ok (.next (L10 (.scr (ns.map MV.int)) ts hd rl rs none none none none)) [.lst vs] := by
    unfold zUM
    have hcut : zRL (.val (.scr (ns.map MV.int))) (some 9) (some 59) [MO.lst vs] = .ok (.new ((nB ns (some 9) (some 59)).map MV.int)) [MO.lst vs] := by
      rw [← yGD]; rfl
    simp? [hcut, wN (show (0 : Int) < 7 by decide) (show (7 : Int) < 1073741824 by decide), mod_lit (show (0 : Int) < 6 by decide), hrows]
  unfold zTA yGI
  rw [hs, zF e1, zF e2, zF e3, zF e4, zF e5, zF e6, etail]
  rfl
section
variable {P : Program} {w : World} {K : PySem.W.Frag} {mg : Str → Option Value} {base : Heap}
noncomputable def top (i : Nat) : Stmt := PySem.Challenge.pw_mendsure_k06_a_book_as_handed_in.main.body.getD i (.Pass ⟨0, 0, 0, 0⟩)
abbrev cW : Stmt := top 9
theorem zWS : FnScope ["thing"] ["thing"] (zG cW) := ⟨rfl, rfl, rfl, by decide +kernel, rfl, by decide +kernel, by decide +kernel⟩
theorem zWT {f : Addr} {fd : FuncData} (F : Fun K "is_whole" "is_whole" cW f fd) (zOB : mg "int" = none) (zR : mg "isinstance" = none) (zKW : mg "bool" = none) : FnOk P w K mg base CX0 1 f fd ["thing"] (spM ⟨K, mg, P, w⟩ 1 kJ) :=
  okM (k := 0) cG F zWS fun cdv A outer s H E hr => (zM (zV (jI (zN wQ bE rfl zR yL (zA (zB 0) (zA (zCD rfl zOB zYS) zC))) (gL (yEX (zN wQ bE rfl zR yL (zA (zB 0) (zA (zCD rfl zKW yBC) zC))))))))
abbrev cX : Stmt := top 10
theorem zZJ : FnScope ["thing"] ["thing"] (zG cX) := ⟨rfl, rfl, rfl, by decide +kernel, rfl, by decide +kernel, by decide +kernel⟩
theorem zZK {f : Addr} {fd : FuncData} (F : Fun K "is_name" "is_name" cX f fd) (zOE : mg "str" = none) (zR : mg "isinstance" = none) (yY : mg "len" = none) {zBT : Tok} (jS : mg "MOST_LETTERS" = some (.int 8 zBT)) (zBO : mg "all" = none) : FnOk P w K mg base CX0 1 f fd ["thing"] (spM ⟨K, mg, P, w⟩ 1 zJH) :=
  okM (k := 0) zJG F zZJ fun cdv A outer s H E hr => (zH (xV (zGN (zHJ (kF (yP (zN wQ bE rfl zR yL (zA (zB 0) (zA (zCD rfl zOE zYT) zC))))) (zCP (kF (yIM zD (zN yG xX rfl yY xY (zA (zB 0) zC)) (zEO rfl jS)))))) (zM (zV zCC)) yX) (zM (zV (zN jU (zMX rfl) rfl zBO zMY (zA (gG (zG cX) ["thing"] ["sign"] [] (yMI (zB 0)) rfl (fun _ _ _ _ hN => (jX 0 hN)) (fun _ _ _ _ => gF) (fun _ _ _ _ => (zTX (jE [97]) (zB 0) (jE [122])))) zC)))))
abbrev cY : Stmt := top 11
theorem zWU : FnScope ["thing"] ["thing"] (zG cY) := ⟨rfl, rfl, rfl, by decide +kernel, rfl, by decide +kernel, by decide +kernel⟩
theorem zWV {f : Addr} {fd : FuncData} (F : Fun K "is_value" "is_value" cY f fd) {wA : Addr} {kC : FuncData} (zBM : FnOk P w K mg base CX0 1 wA kC ["thing"] (spM ⟨K, mg, P, w⟩ 1 kJ)) (zBS : mg "is_whole" = some (.ref wA)) (nA : PySem.W.keepIn K (.ref wA) = true) (zBU : Binds K kC ["thing"] []) (zXO : mg "abs" = none) {zKZ : Addr} {zRB : FuncData} (yDR : FnOk P w K mg base CX0 1 zKZ zRB ["thing"] (spM ⟨K, mg, P, w⟩ 1 zJH)) (yDP : mg "is_name" = some (.ref zKZ)) (zZX : PySem.W.keepIn K (.ref zKZ) = true) (yDQ : Binds K zRB ["thing"] []) : FnOk P w K mg base CX0 2 f fd ["thing"] (spM ⟨K, mg, P, w⟩ 1 cH) :=
  okM (k := 1) zEU F zWU fun cdv A outer s H E hr => (zH (xV (yP (zK zBM (hr.mono (by decide)) rfl zBS nA zBU (zA (zB 0) zC))) (zM (zV (pm_lt hr.units (zN yEE yMR rfl zXO yMS (zA (zB 0) zC)) (zHL zD zD)))) yX) (zM (zV (zK yDR (hr.mono (by decide)) rfl yDP zZX yDQ (zA (zB 0) zC)))))
abbrev cZ : Stmt := top 20
theorem zWW : FnScope ["thing", "least", "most"] ["thing", "least", "most"] (zG cZ) := ⟨rfl, rfl, rfl, by decide +kernel, rfl, by decide +kernel, by decide +kernel⟩
theorem zWX {f : Addr} {fd : FuncData} (F : Fun K "is_tuple" "is_tuple" cZ f fd) (yQ : mg "tuple" = none) (zR : mg "isinstance" = none) (yY : mg "len" = none) : FnOk P w K mg base CX0 1 f fd ["thing", "least", "most"] (spM ⟨K, mg, P, w⟩ 3 yJ) :=
  okM (k := 0) zEV F zWW fun cdv A outer s H E hr => (zM (zV (jI (zN wQ bE rfl zR yL (zA (zB 0) (zA (zCD rfl yQ wE) zC))) (gL (zTX (zB 1) (zN yG xX rfl yY xY (zA (zB 0) zC)) (zB 2))))))
abbrev wC : Stmt := top 21
theorem zKU : FnScope ["thing", "bound"] ["thing", "bound"] (zG wC) := ⟨rfl, rfl, rfl, by decide +kernel, rfl, by decide +kernel, by decide +kernel⟩
theorem zKV {f : Addr} {fd : FuncData} (F : Fun K "is_number_below" "is_number_below" wC f fd) {wA : Addr} {kC : FuncData} (zBM : FnOk P w K mg base CX0 1 wA kC ["thing"] (spM ⟨K, mg, P, w⟩ 1 kJ)) (zBS : mg "is_whole" = some (.ref wA)) (nA : PySem.W.keepIn K (.ref wA) = true) (zBU : Binds K kC ["thing"] []) : FnOk P w K mg base CX0 2 f fd ["thing", "bound"] (spM ⟨K, mg, P, w⟩ 2 zO) :=
  okM (k := 1) jH F zKU fun cdv A outer s H E hr => (zM (zV (jI (zK zBM (hr.mono (by decide)) rfl zBS nA zBU (zA (zB 0) zC)) (gL (yIN hr.units zD (zB 0) (zB 1))))))
abbrev dA : Stmt := top 22
theorem zNU : FnScope ["thing", "wide"] ["thing"] (zG dA) := ⟨rfl, rfl, rfl, by decide +kernel, rfl, by decide +kernel, by decide +kernel⟩
theorem zWY {f : Addr} {fd : FuncData} (F : Fun K "is_table" "is_table" dA f fd) {zX : Addr} {yM : FuncData} (xT : FnOk P w K mg base CX0 1 zX yM ["thing", "least", "most"] (spM ⟨K, mg, P, w⟩ 3 yJ)) (xU : mg "is_tuple" = some (.ref zX)) (xG : PySem.W.keepIn K (.ref zX) = true) (xS : Binds K yM ["thing", "least", "most"] []) {wA : Addr} {kC : FuncData} (zBM : FnOk P w K mg base CX0 1 wA kC ["thing"] (spM ⟨K, mg, P, w⟩ 1 kJ)) (zBS : mg "is_whole" = some (.ref wA)) (nA : PySem.W.keepIn K (.ref wA) = true) (zBU : Binds K kC ["thing"] []) {zIV : Tok} (dY : mg "MOST_WIDE" = some (.int 4 zIV)) {zI : Addr} {zL : FuncData} (zS : FnOk P w K mg base CX0 2 zI zL ["thing", "bound"] (spM ⟨K, mg, P, w⟩ 2 zO)) (zT : mg "is_number_below" = some (.ref zI)) (zQ : PySem.W.keepIn K (.ref zI) = true) (zU : Binds K zL ["thing", "bound"] []) : FnOk P w K mg base CX0 3 f fd ["thing"] (spM ⟨K, mg, P, w⟩ 1 zFA) :=
  okM (k := 2) zEZ F zNU fun cdv A outer s H E hr => (zH (xV (zGN (zHJ (kF (yP (zK xT (hr.mono (by decide)) rfl xU xG xS (zA (zB 0) (zA zD (zA zD zC)))))) (zCP (kF (yP (zK zBM (hr.mono (by decide)) rfl zBS nA zBU (zA (zZ (zB 0) zD) zC))))))) (zM (zV zCC)) yX) (zH (zW 1 zNU.nd (zZ (zB 0) zD)) (zM (zV (jI (zTX zD (zB 1) (zEO rfl dY)) (gL (zK zS (hr.mono (by decide)) rfl zT zQ zU (zA (zZ (zB 0) zD) (zA (wP (zB 1) zD) zC)))))))))
abbrev zAJ : Stmt := top 23
theorem zZL : FnScope ["thing", "wides"] ["thing", "wides"] (zG zAJ) := ⟨rfl, rfl, rfl, by decide +kernel, rfl, by decide +kernel, by decide +kernel⟩
theorem zZM {f : Addr} {fd : FuncData} (F : Fun K "is_side" "is_side" zAJ f fd) {zX : Addr} {yM : FuncData} (xT : FnOk P w K mg base CX0 1 zX yM ["thing", "least", "most"] (spM ⟨K, mg, P, w⟩ 3 yJ)) (xU : mg "is_tuple" = some (.ref zX)) (xG : PySem.W.keepIn K (.ref zX) = true) (xS : Binds K yM ["thing", "least", "most"] []) {jR : Addr} {dZ : FuncData} (zLD : FnOk P w K mg base CX0 2 jR dZ ["thing"] (spM ⟨K, mg, P, w⟩ 1 cH)) (zLA : mg "is_value" = some (.ref jR)) (zIM : PySem.W.keepIn K (.ref jR) = true) (zLF : Binds K dZ ["thing"] []) {zI : Addr} {zL : FuncData} (zS : FnOk P w K mg base CX0 2 zI zL ["thing", "bound"] (spM ⟨K, mg, P, w⟩ 2 zO)) (zT : mg "is_number_below" = some (.ref zI)) (zQ : PySem.W.keepIn K (.ref zI) = true) (zU : Binds K zL ["thing", "bound"] []) (yY : mg "len" = none) : FnOk P w K mg base CX0 3 f fd ["thing", "wides"] (spM ⟨K, mg, P, w⟩ 2 zEE) :=
  okM (k := 2) zAI F zZL fun cdv A outer s H E hr => (zH (xV (yP (zK xT (hr.mono (by decide)) rfl xU xG xS (zA (zB 0) (zA zD (zA zD zC))))) (zM (zV (jI (zSR hr.units (zZ (zB 0) zD) (jE [105, 115])) (gL (zK zLD (hr.mono (by decide)) rfl zLA zIM zLF (zA (zZ (zB 0) zD) zC)))))) yX) (zH (xV (zGN (zHJ (kF (yP (zK xT (hr.mono (by decide)) rfl xU xG xS (zA (zB 0) (zA zD (zA zD zC)))))) (zCP (zWA hr.units (zZ (zB 0) zD) (jE [99, 101, 108, 108]))))) (zM (zV zCC)) yX) (zM (zV (jI (zK zS (hr.mono (by decide)) rfl zT zQ zU (zA (zZ (zB 0) zD) (zA (zN yG xX rfl yY xY (zA (zB 1) zC)) zC))) (gL (zK zS (hr.mono (by decide)) rfl zT zQ zU (zA (zZ (zB 0) zD) (zA (zZ (zB 1) (zZ (zB 0) zD)) zC)))))))))
abbrev zAK : Stmt := top 24
theorem zZN : FnScope ["thing", "wides"] ["thing", "wides"] (zG zAK) := ⟨rfl, rfl, rfl, by decide +kernel, rfl, by decide +kernel, by decide +kernel⟩
theorem zZO {f : Addr} {fd : FuncData} (F : Fun K "is_test" "is_test" zAK f fd) {zX : Addr} {yM : FuncData} (xT : FnOk P w K mg base CX0 1 zX yM ["thing", "least", "most"] (spM ⟨K, mg, P, w⟩ 3 yJ)) (xU : mg "is_tuple" = some (.ref zX)) (xG : PySem.W.keepIn K (.ref zX) = true) (xS : Binds K yM ["thing", "least", "most"] []) {zKX : Addr} {zQX : FuncData} (zTF : FnOk P w K mg base CX0 3 zKX zQX ["thing", "wides"] (spM ⟨K, mg, P, w⟩ 2 zEE)) (zTE : mg "is_side" = some (.ref zKX)) (zQZ : PySem.W.keepIn K (.ref zKX) = true) (zTG : Binds K zQX ["thing", "wides"] []) (zMN : GTup K mg "WORDS" [.str [115, 97, 109, 101], .str [117, 110, 108, 105, 107, 101], .str [108, 101, 115, 115]]) : FnOk P w K mg base CX0 4 f fd ["thing", "wides"] (spM ⟨K, mg, P, w⟩ 2 zJJ) :=
  okM (k := 3) zJI F zZN fun cdv A outer s H E hr => (zH (xV (kF (yP (zK xT (hr.mono (by decide)) rfl xU xG xS (zA (zB 0) (zA zD (zA zD zC)))))) (zM (zV zCC)) yX) (zM (zV (jI (zK zTF (hr.mono (by decide)) rfl zTE zQZ zTG (zA (zZ (zB 0) zD) (zA (zB 1) zC))) (jI (pm_in hr.units (zZ (zB 0) zD) (yJP (ds := [.str [115, 97, 109, 101], .str [117, 110, 108, 105, 107, 101], .str [108, 101, 115, 115]]) rfl zMN)) (gL (zK zTF (hr.mono (by decide)) rfl zTE zQZ zTG (zA (zZ (zB 0) zD) (zA (zB 1) zC)))))))))
abbrev jN : Stmt := top 25
theorem zUR : FnScope ["thing", "wides"] ["thing", "wides"] (zG jN) := ⟨rfl, rfl, rfl, by decide +kernel, rfl, by decide +kernel, by decide +kernel⟩
theorem zUS {f : Addr} {fd : FuncData} (F : Fun K "are_tests" "are_tests" jN f fd) {zX : Addr} {yM : FuncData} (xT : FnOk P w K mg base CX0 1 zX yM ["thing", "least", "most"] (spM ⟨K, mg, P, w⟩ 3 yJ)) (xU : mg "is_tuple" = some (.ref zX)) (xG : PySem.W.keepIn K (.ref zX) = true) (xS : Binds K yM ["thing", "least", "most"] []) {zGL : Tok} (bW : mg "MOST_TESTS" = some (.int 3 zGL)) {zLB : Addr} {zRD : FuncData} (yDH : FnOk P w K mg base CX0 4 zLB zRD ["thing", "wides"] (spM ⟨K, mg, P, w⟩ 2 zJJ)) (yDN : mg "is_test" = some (.ref zLB)) (yAD : PySem.W.keepIn K (.ref zLB) = true) (yDL : Binds K zRD ["thing", "wides"] []) (zBO : mg "all" = none) : FnOk P w K mg base CX0 5 f fd ["thing", "wides"] (spM ⟨K, mg, P, w⟩ 2 jJ) :=
  okM (k := 4) zCI F zUR fun cdv A outer s H E hr => (zM (zV (jI (zK xT (hr.mono (by decide)) rfl xU xG xS (zA (zB 0) (zA zD (zA (zEO rfl bW) zC)))) (gL (zN jU (zMX rfl) rfl zBO zMY (zA (gG (zG jN) ["thing", "wides"] ["part"] [1] (zMV (zB 0)) rfl (fun _ _ _ _ hN => (jX 0 hN)) (fun _ _ _ _ => gF) (fun _ _ _ _ => (zK yDH (hr.mono (by decide)) rfl yDN yAD yDL (zA (zB 0) (zA (zB 1) zC))))) zC))))))
abbrev wU : Stmt := top 26
theorem zQO : FnScope ["thing", "wide"] ["thing", "wide"] (zG wU) := ⟨rfl, rfl, rfl, by decide +kernel, rfl, by decide +kernel, by decide +kernel⟩
theorem zQP {f : Addr} {fd : FuncData} (F : Fun K "are_columns" "are_columns" wU f fd) {zX : Addr} {yM : FuncData} (xT : FnOk P w K mg base CX0 1 zX yM ["thing", "least", "most"] (spM ⟨K, mg, P, w⟩ 3 yJ)) (xU : mg "is_tuple" = some (.ref zX)) (xG : PySem.W.keepIn K (.ref zX) = true) (xS : Binds K yM ["thing", "least", "most"] []) {zIQ : Tok} (dW : mg "MOST_TIED" = some (.int 3 zIQ)) {zI : Addr} {zL : FuncData} (zS : FnOk P w K mg base CX0 2 zI zL ["thing", "bound"] (spM ⟨K, mg, P, w⟩ 2 zO)) (zT : mg "is_number_below" = some (.ref zI)) (zQ : PySem.W.keepIn K (.ref zI) = true) (zU : Binds K zL ["thing", "bound"] []) (zBO : mg "all" = none) : FnOk P w K mg base CX0 3 f fd ["thing", "wide"] (spM ⟨K, mg, P, w⟩ 2 dL) :=
  okM (k := 2) dJ F zQO fun cdv A outer s H E hr => (zM (zV (jI (zK xT (hr.mono (by decide)) rfl xU xG xS (zA (zB 0) (zA zD (zA (zEO rfl dW) zC)))) (gL (zN jU (zMX rfl) rfl zBO zMY (zA (gG (zG wU) ["thing", "wide"] ["part"] [1] (zMV (zB 0)) rfl (fun _ _ _ _ hN => (jX 0 hN)) (fun _ _ _ _ => gF) (fun _ _ _ _ => (zK zS (hr.mono (by decide)) rfl zT zQ zU (zA (zB 0) (zA (zB 1) zC))))) zC))))))
abbrev dB : Stmt := top 27
theorem zWZ : FnScope ["rule", "tables"] ["rule", "tables"] (zG dB) := ⟨rfl, rfl, rfl, by decide +kernel, rfl, by decide +kernel, by decide +kernel⟩
theorem zXA {f : Addr} {fd : FuncData} (F : Fun K "is_never" "is_never" dB f fd) (yY : mg "len" = none) {zI : Addr} {zL : FuncData} (zS : FnOk P w K mg base CX0 2 zI zL ["thing", "bound"] (spM ⟨K, mg, P, w⟩ 2 zO)) (zT : mg "is_number_below" = some (.ref zI)) (zQ : PySem.W.keepIn K (.ref zI) = true) (zU : Binds K zL ["thing", "bound"] []) {kO : Addr} {bV : FuncData} (zJA : FnOk P w K mg base CX0 5 kO bV ["thing", "wides"] (spM ⟨K, mg, P, w⟩ 2 jJ)) (zIR : mg "are_tests" = some (.ref kO)) (zGE : PySem.W.keepIn K (.ref kO) = true) (zIW : Binds K bV ["thing", "wides"] []) : FnOk P w K mg base CX0 6 f fd ["rule", "tables"] (spM ⟨K, mg, P, w⟩ 2 zFE) :=
  okM (k := 5) zFD F zWZ fun cdv A outer s H E hr => (zH (xV (zGN (zHJ (zWA hr.units (zN yG xX rfl yY xY (zA (zB 0) zC)) zD) (zCP (kF (yP (zK zS (hr.mono (by decide)) rfl zT zQ zU (zA (zZ (zB 0) zD) (zA (zN yG xX rfl yY xY (zA (zB 1) zC)) zC)))))))) (zM (zV zCC)) yX) (zM (zV (zK zJA (hr.mono (by decide)) rfl zIR zGE zIW (zA (zZ (zB 0) zD) (zA (nH (zA (zZ (zZ (zB 1) (zZ (zB 0) zD)) zD) zC)) zC))))))
abbrev jO : Stmt := top 28
theorem zXB : FnScope ["rule", "tables"] ["rule", "tables"] (zG jO) := ⟨rfl, rfl, rfl, by decide +kernel, rfl, by decide +kernel, by decide +kernel⟩
theorem zXC {f : Addr} {fd : FuncData} (F : Fun K "is_apart" "is_apart" jO f fd) (yY : mg "len" = none) {zI : Addr} {zL : FuncData} (zS : FnOk P w K mg base CX0 2 zI zL ["thing", "bound"] (spM ⟨K, mg, P, w⟩ 2 zO)) (zT : mg "is_number_below" = some (.ref zI)) (zQ : PySem.W.keepIn K (.ref zI) = true) (zU : Binds K zL ["thing", "bound"] []) (zBO : mg "all" = none) {kO : Addr} {bV : FuncData} (zJA : FnOk P w K mg base CX0 5 kO bV ["thing", "wides"] (spM ⟨K, mg, P, w⟩ 2 jJ)) (zIR : mg "are_tests" = some (.ref kO)) (zGE : PySem.W.keepIn K (.ref kO) = true) (zIW : Binds K bV ["thing", "wides"] []) : FnOk P w K mg base CX0 6 f fd ["rule", "tables"] (spM ⟨K, mg, P, w⟩ 2 zFI) :=
  okM (k := 5) zFH F zXB fun cdv A outer s H E hr => (zH (xV (zGN (zHJ (zWA hr.units (zN yG xX rfl yY xY (zA (zB 0) zC)) zD) (zCP (kF (yP (zN jU (zMX rfl) rfl zBO zMY (zA (gG (zG jO) ["rule", "tables"] ["part"] [1] (zMV (zPV (zB 0) (zCE zD) (zCE zD))) rfl (fun _ _ _ _ hN => (jX 0 hN)) (fun _ _ _ _ => gF) (fun _ _ _ _ => (zK zS (hr.mono (by decide)) rfl zT zQ zU (zA (zB 0) (zA (zN yG xX rfl yY xY (zA (zB 1) zC)) zC))))) zC))))))) (zM (zV zCC)) yX) (zM (zV (zK zJA (hr.mono (by decide)) rfl zIR zGE zIW (zA (zZ (zB 0) zD) (zA (gG (zG jO) ["rule", "tables"] ["part"] [1] (zMV (zPV (zB 0) (zCE zD) (zCE zD))) rfl (fun _ _ _ _ hN => (jX 0 hN)) (fun _ _ _ _ => gF) (fun _ _ _ _ => (zZ (zZ (zB 1) (zB 0)) zD))) zC))))))
abbrev zEK : Stmt := top 29
theorem zNJ : FnScope ["rule", "tables", "number", "columns"] ["rule", "tables"] (zG zEK) := ⟨rfl, rfl, rfl, by decide +kernel, rfl, by decide +kernel, by decide +kernel⟩
theorem yDF {f : Addr} {fd : FuncData} (F : Fun K "is_tie" "is_tie" zEK f fd) (yY : mg "len" = none) {zI : Addr} {zL : FuncData} (zS : FnOk P w K mg base CX0 2 zI zL ["thing", "bound"] (spM ⟨K, mg, P, w⟩ 2 zO)) (zT : mg "is_number_below" = some (.ref zI)) (zQ : PySem.W.keepIn K (.ref zI) = true) (zU : Binds K zL ["thing", "bound"] []) {zBN : Addr} {zIX : FuncData} (zRV : FnOk P w K mg base CX0 3 zBN zIX ["thing", "wide"] (spM ⟨K, mg, P, w⟩ 2 dL)) (zSA : mg "are_columns" = some (.ref zBN)) (zQY : PySem.W.keepIn K (.ref zBN) = true) (zRW : Binds K zIX ["thing", "wide"] []) : FnOk P w K mg base CX0 4 f fd ["rule", "tables"] (spM ⟨K, mg, P, w⟩ 2 zLT) :=
  okM (k := 3) zLS F zNJ fun cdv A outer s H E hr => (zH (xV (zWA hr.units (zN yG xX rfl yY xY (zA (zB 0) zC)) zD) (zM (zV zCC)) yX) (zH (zCQ PassesOwn.never rfl (zMV (jF (zA (jF (zA (zZ (zB 0) zD) (zA (zZ (zB 0) zD) zC))) (zA (jF (zA (zZ (zB 0) zD) (zA (zZ (zB 0) zD) zC))) zC)))) (zPO rfl (dF (kG 2 zNJ.nd) (dF (kG 3 zNJ.nd) zPN))) (zM (xV (zGN (zHJ (kF (yP (zK zS (hr.mono (by decide)) rfl zT zQ zU (zA (zB 2) (zA (zN yG xX rfl yY xY (zA (zB 1) zC)) zC))))) (zCP (kF (yP (zK zRV (hr.mono (by decide)) rfl zSA zQY zRW (zA (zB 3) (zA (zZ (zZ (zB 1) (zB 2)) zD) zC)))))))) (zM (zV zCC)) yX))) (zM (zV (zSR hr.units (zN yG xX rfl yY xY (zA (zZ (zB 0) zD) zC)) (zN yG xX rfl yY xY (zA (zZ (zB 0) zD) zC)))))))
abbrev zAL : Stmt := top 30
theorem zZP : FnScope ["thing", "tables"] ["thing", "tables"] (zG zAL) := ⟨rfl, rfl, rfl, by decide +kernel, rfl, by decide +kernel, by decide +kernel⟩
theorem zZQ {f : Addr} {fd : FuncData} (F : Fun K "is_rule" "is_rule" zAL f fd) (yQ : mg "tuple" = none) (zR : mg "isinstance" = none) (yY : mg "len" = none) {zIO : Addr} {zNX : FuncData} (yAC : FnOk P w K mg base CX0 6 zIO zNX ["rule", "tables"] (spM ⟨K, mg, P, w⟩ 2 zFE)) (yAE : mg "is_never" = some (.ref zIO)) (zXH : PySem.W.keepIn K (.ref zIO) = true) (zZW : Binds K zNX ["rule", "tables"] []) {zIS : Addr} {zNY : FuncData} (zZY : FnOk P w K mg base CX0 6 zIS zNY ["rule", "tables"] (spM ⟨K, mg, P, w⟩ 2 zFI)) (yAG : mg "is_apart" = some (.ref zIS)) (zXK : PySem.W.keepIn K (.ref zIS) = true) (zZU : Binds K zNY ["rule", "tables"] []) {zNO : Addr} {zTH : FuncData} (yHA : FnOk P w K mg base CX0 4 zNO zTH ["rule", "tables"] (spM ⟨K, mg, P, w⟩ 2 zLT)) (yHB : mg "is_tie" = some (.ref zNO)) (yDK : PySem.W.keepIn K (.ref zNO) = true) (yHC : Binds K zTH ["rule", "tables"] []) : FnOk P w K mg base CX0 7 f fd ["thing", "tables"] (spM ⟨K, mg, P, w⟩ 2 zJL) :=
  okM (k := 6) zJK F zZP fun cdv A outer s H E hr => (zH (xV (zGN (zHJ (kF (yP (zN wQ bE rfl zR yL (zA (zB 0) (zA (zCD rfl yQ wE) zC))))) (zCP (zJW hr.units (zN yG xX rfl yY xY (zA (zB 0) zC)) zD)))) (zM (zV zCC)) yX) (zH (xV (zJW hr.units (zZ (zB 0) zD) (jE [110, 101, 118, 101, 114])) (zM (zV (zK yAC (hr.mono (by decide)) rfl yAE zXH zZW (zA (zB 0) (zA (zB 1) zC))))) yX) (zH (xV (zJW hr.units (zZ (zB 0) zD) (jE [97, 112, 97, 114, 116])) (zM (zV (zK zZY (hr.mono (by decide)) rfl yAG zXK zZU (zA (zB 0) (zA (zB 1) zC))))) yX) (zM (zV (jI (zSR hr.units (zZ (zB 0) zD) (jE [116, 105, 101])) (gL (zK yHA (hr.mono (by decide)) rfl yHB yDK yHC (zA (zB 0) (zA (zB 1) zC))))))))))
abbrev zBK : Stmt := top 31
theorem zTD : FnScope ["thing", "tables", "wide"] ["thing", "tables"] (zG zBK) := ⟨rfl, rfl, rfl, by decide +kernel, rfl, by decide +kernel, by decide +kernel⟩
theorem yDG {f : Addr} {fd : FuncData} (F : Fun K "is_row" "is_row" zBK f fd) {zX : Addr} {yM : FuncData} (xT : FnOk P w K mg base CX0 1 zX yM ["thing", "least", "most"] (spM ⟨K, mg, P, w⟩ 3 yJ)) (xU : mg "is_tuple" = some (.ref zX)) (xG : PySem.W.keepIn K (.ref zX) = true) (xS : Binds K yM ["thing", "least", "most"] []) {zI : Addr} {zL : FuncData} (zS : FnOk P w K mg base CX0 2 zI zL ["thing", "bound"] (spM ⟨K, mg, P, w⟩ 2 zO)) (zT : mg "is_number_below" = some (.ref zI)) (zQ : PySem.W.keepIn K (.ref zI) = true) (zU : Binds K zL ["thing", "bound"] []) (yY : mg "len" = none) {jR : Addr} {dZ : FuncData} (zLD : FnOk P w K mg base CX0 2 jR dZ ["thing"] (spM ⟨K, mg, P, w⟩ 1 cH)) (zLA : mg "is_value" = some (.ref jR)) (zIM : PySem.W.keepIn K (.ref jR) = true) (zLF : Binds K dZ ["thing"] []) (zBO : mg "all" = none) : FnOk P w K mg base CX0 3 f fd ["thing", "tables"] (spM ⟨K, mg, P, w⟩ 2 zLW) :=
  okM (k := 2) zLV F zTD fun cdv A outer s H E hr => (zH (xV (zGN (zHJ (kF (yP (zK xT (hr.mono (by decide)) rfl xU xG xS (zA (zB 0) (zA zD (zA zD zC)))))) (zCP (kF (yP (zK zS (hr.mono (by decide)) rfl zT zQ zU (zA (zZ (zB 0) zD) (zA (zN yG xX rfl yY xY (zA (zB 1) zC)) zC)))))))) (zM (zV zCC)) yX) (zH (zW 2 zTD.nd (zZ (zZ (zB 1) (zZ (zB 0) zD)) zD)) (zM (zV (jI (zK xT (hr.mono (by decide)) rfl xU xG xS (zA (zZ (zB 0) zD) (zA (zB 2) (zA (zB 2) zC)))) (gL (zN jU (zMX rfl) rfl zBO zMY (zA (gG (zG zBK) ["thing", "tables", "wide"] ["cell"] [] (zMV (zZ (zB 0) zD)) rfl (fun _ _ _ _ hN => (jX 0 hN)) (fun _ _ _ _ => gF) (fun _ _ _ _ => (zK zLD (hr.mono (by decide)) rfl zLA zIM zLF (zA (zB 0) zC)))) zC))))))))
abbrev kY : Stmt := top 32
theorem zQQ : FnScope ["tables", "rules", "rows"] ["tables", "rules", "rows"] (zG kY) := ⟨rfl, rfl, rfl, by decide +kernel, rfl, by decide +kernel, by decide +kernel⟩
theorem zQR {f : Addr} {fd : FuncData} (F : Fun K "check_sizes" "check_sizes" kY f fd) (yY : mg "len" = none) {zDT : Tok} (gD : mg "MOST_TABLES" = some (.int 4 zDT)) {zGH : Tok} (bT : mg "MOST_RULES" = some (.int 6 zGH)) {zIT : Tok} (dX : mg "MOST_ROWS" = some (.int 60 zIT)) : FnOk P w K mg base CX0 1 f fd ["tables", "rules", "rows"] (spM ⟨K, mg, P, w⟩ 3 dN) :=
  okM (k := 0) dM F zQQ fun cdv A outer s H E hr => (zM (xV (zGN (zHJ (yFJ (zN yG xX rfl yY xY (zA (zB 0) zC)) (zEO rfl gD)) (zHJ (yFJ (zN yG xX rfl yY xY (zA (zB 1) zC)) (zEO rfl bT)) (zCP (yFJ (zN yG xX rfl yY xY (zA (zB 2) zC)) (zEO rfl dX)))))) (zM zDY) yX))
abbrev wZ : Stmt := top 33
theorem nW : FnScope ["tables", "place", "table"] ["tables"] (zG wZ) := ⟨rfl, rfl, rfl, by decide +kernel, rfl, by decide +kernel, by decide +kernel⟩
theorem zOH {f : Addr} {fd : FuncData} (F : Fun K "check_tables" "check_tables" wZ f fd) (yY : mg "len" = none) (wJ : mg "enumerate" = none) {zIP : Addr} {zOC : FuncData} (zZV : FnOk P w K mg base CX0 3 zIP zOC ["thing"] (spM ⟨K, mg, P, w⟩ 1 zFA)) (yAA : mg "is_table" = some (.ref zIP)) (zXJ : PySem.W.keepIn K (.ref zIP) = true) (yAF : Binds K zOC ["thing"] []) : FnOk P w K mg base CX0 4 f fd ["tables"] (spM ⟨K, mg, P, w⟩ 1 bL) :=
  okM (k := 3) bK F nW fun cdv A outer s H E hr => (zH (xV (zJW hr.units (zN yG xX rfl yY xY (zA (zB 0) zC)) zD) (zM zDY) yX) (zM (zCQ PassesOwn.never rfl (zOO rfl wJ (zA (zB 0) zC)) (zPO rfl (dF (kG 1 nW.nd) (dF (kG 2 nW.nd) zPN))) (zM (xV (kF (yP (zK zZV (hr.mono (by decide)) rfl yAA zXJ yAF (zA (zB 2) zC)))) (zM zDY) yX)))))
abbrev kZ : Stmt := top 34
theorem zBL : FnScope ["tables", "rules", "place", "rule"] ["tables", "rules"] (zG kZ) := ⟨rfl, rfl, rfl, by decide +kernel, rfl, by decide +kernel, by decide +kernel⟩
theorem zQS {f : Addr} {fd : FuncData} (F : Fun K "check_rules" "check_rules" kZ f fd) (wJ : mg "enumerate" = none) {zKY : Addr} {zRE : FuncData} (yDO : FnOk P w K mg base CX0 7 zKY zRE ["thing", "tables"] (spM ⟨K, mg, P, w⟩ 2 zJL)) (yDJ : mg "is_rule" = some (.ref zKY)) (zZZ : PySem.W.keepIn K (.ref zKY) = true) (yDI : Binds K zRE ["thing", "tables"] []) : FnOk P w K mg base CX0 8 f fd ["tables", "rules"] (spM ⟨K, mg, P, w⟩ 2 dP) :=
  okM (k := 7) dO F zBL fun cdv A outer s H E hr => (zM (zCQ PassesOwn.never rfl (zOO rfl wJ (zA (zB 1) zC)) (zPO rfl (dF (kG 2 zBL.nd) (dF (kG 3 zBL.nd) zPN))) (zM (xV (kF (yP (zK yDO (hr.mono (by decide)) rfl yDJ zZZ yDI (zA (zB 3) (zA (zB 0) zC))))) (zM zDY) yX))))
abbrev jY : Stmt := top 35
theorem jA : FnScope ["tables", "rows", "place", "row", "seen"] ["tables", "rows"] (zG jY) := ⟨rfl, rfl, rfl, by decide +kernel, rfl, by decide +kernel, by decide +kernel⟩
theorem zRQ {f : Addr} {fd : FuncData} (F : Fun K "check_rows" "check_rows" jY f fd) (wJ : mg "enumerate" = none) {zNN : Addr} {zTI : FuncData} (yHE : FnOk P w K mg base CX0 3 zNN zTI ["thing", "tables"] (spM ⟨K, mg, P, w⟩ 2 zLW)) (yHD : mg "is_row" = some (.ref zNN)) (yDM : PySem.W.keepIn K (.ref zNN) = true) (yGZ : Binds K zTI ["thing", "tables"] []) : FnOk P w K mg base CX0 4 f fd ["tables", "rows"] (spM ⟨K, mg, P, w⟩ 2 zAD) :=
  okM (k := 3) zAC F jA fun cdv A outer s H E hr => (zH (zCQ PassesOwn.never rfl (zOO rfl wJ (zA (zB 1) zC)) (zPO rfl (dF (kG 2 jA.nd) (dF (kG 3 jA.nd) zPN))) (zM (xV (kF (yP (zK yHE (hr.mono (by decide)) rfl yHD yDM yGZ (zA (zB 3) (zA (zB 0) zC))))) (zM zDY) yX))) (zH (zW 4 jA.nd yGF) (zM (zCQ PassesOwn.never rfl (zOO rfl wJ (zA (zB 1) zC)) (zPO rfl (dF (kG 2 jA.nd) (dF (kG 3 jA.nd) zPN))) (zH (xV (yNL hr.units (zB 3) (zB 4)) (zM zDY) yX) (zM (yFB zCC (yJO hr.units (zB 4) (zB 3)))))))))
abbrev zAM : Stmt := top 36
theorem zZR : FnScope ["tables", "rules", "rows"] ["tables", "rules", "rows"] (zG zAM) := ⟨rfl, rfl, rfl, by decide +kernel, rfl, by decide +kernel, by decide +kernel⟩
theorem zZS {f : Addr} {fd : FuncData} (F : Fun K "book_of" "book_of" zAM f fd) {zBP : Addr} {zIN : FuncData} (zRU : FnOk P w K mg base CX0 1 zBP zIN ["tables", "rules", "rows"] (spM ⟨K, mg, P, w⟩ 3 dN)) (zSB : mg "check_sizes" = some (.ref zBP)) (zQU : PySem.W.keepIn K (.ref zBP) = true) (zSG : Binds K zIN ["tables", "rules", "rows"] []) {nZ : Addr} {zGZ : FuncData} (zRG : FnOk P w K mg base CX0 4 nZ zGZ ["tables"] (spM ⟨K, mg, P, w⟩ 1 bL)) (zQW : mg "check_tables" = some (.ref nZ)) (zOK : PySem.W.keepIn K (.ref nZ) = true) (zRA : Binds K zGZ ["tables"] []) {zBQ : Addr} {zIZ : FuncData} (zRX : FnOk P w K mg base CX0 8 zBQ zIZ ["tables", "rules"] (spM ⟨K, mg, P, w⟩ 2 dP)) (zSC : mg "check_rules" = some (.ref zBQ)) (zRF : PySem.W.keepIn K (.ref zBQ) = true) (zSD : Binds K zIZ ["tables", "rules"] []) {zDW : Addr} {zKE : FuncData} (zVD : FnOk P w K mg base CX0 4 zDW zKE ["tables", "rows"] (spM ⟨K, mg, P, w⟩ 2 zAD)) (zVG : mg "check_rows" = some (.ref zDW)) (zSE : PySem.W.keepIn K (.ref zDW) = true) (zVF : Binds K zKE ["tables", "rows"] []) (yQ : mg "tuple" = none) : FnOk P w K mg base CX0 9 f fd ["tables", "rules", "rows"] (spM ⟨K, mg, P, w⟩ 3 cN) :=
  okM (k := 8) zJM F zZR fun cdv A outer s H E hr => (zH (bA (zK zRU (hr.mono (by decide)) rfl zSB zQU zSG (zA (zB 0) (zA (zB 1) (zA (zB 2) zC))))) (zH (bA (zK zRG (hr.mono (by decide)) rfl zQW zOK zRA (zA (zB 0) zC))) (zH (bA (zK zRX (hr.mono (by decide)) rfl zSC zRF zSD (zA (zB 0) (zA (zB 1) zC)))) (zH (bA (zK zVD (hr.mono (by decide)) rfl zVG zSE zVF (zA (zB 0) (zA (zB 2) zC)))) (zM (zV (jF (zA (xD yV kT rfl yQ wE (zA (zB 0) zC)) (zA (xD yV kT rfl yQ wE (zA (zB 1) zC)) (zA (xD yV kT rfl yQ wE (zA (zB 2) zC)) zC))))))))))
abbrev kA : Stmt := top 38
theorem zOI : FnScope ["_law_script", "_law_k"] ["_law_script", "_law_k"] (zG kA) := ⟨rfl, rfl, rfl, by decide +kernel, rfl, by decide +kernel, by decide +kernel⟩
theorem zOJ {f : Addr} {fd : FuncData} (F : Fun K "_law_cell_at" "_law_cell_at" kA f fd) (yY : mg "len" = none) : FnOk P w K mg base CX0 1 f fd ["_law_script", "_law_k"] (spM ⟨K, mg, P, w⟩ 2 yT) :=
  okM (k := 0) bN F zOI fun cdv A outer s H E hr => (zH (xV (yKO hr.units (zB 1) (zN yG xX rfl yY xY (zA (zB 0) zC))) (zM (zV (zZ (zB 0) (zB 1)))) yX) (zM (zV zD)))
abbrev dC : Stmt := top 39
theorem zNV : FnScope ["_law_cell", "_law_prime", "_law_number"] ["_law_cell", "_law_prime"] (zG dC) := ⟨rfl, rfl, rfl, by decide +kernel, rfl, by decide +kernel, by decide +kernel⟩
theorem zXD {f : Addr} {fd : FuncData} (F : Fun K "_law_mix" "_law_mix" dC f fd)  : FnOk P w K mg base CX0 1 f fd ["_law_cell", "_law_prime"] (spM ⟨K, mg, P, w⟩ 2 xH) :=
  okM (k := 0) zFN F zNV fun cdv A outer s H E hr => (zH (xV (zJW hr.units (xQ (zB 0) zD) zD) (zM (zV (xQ (kH (zB 0) zD) (zHL (zHL zD zD) zD)))) yX) (zH (zW 2 zNV.nd (xQ (zPT (wP (xQ (zB 0) zD) zD) zD) (zB 1))) (zM (zV (wP (zPT (xQ (zPT (zB 2) (zB 2)) zD) zD) (zB 2))))))
abbrev gT : Stmt := top 40
theorem kL : FnScope ["_law_cell", "_law_letters", "_law_number", "_law_name_here", "_law_k"] ["_law_cell"] (zG gT) := ⟨rfl, rfl, rfl, by decide +kernel, rfl, by decide +kernel, by decide +kernel⟩
theorem zUT {f : Addr} {fd : FuncData} (F : Fun K "_law_name" "_law_name" gT f fd) (wO : mg "range" = none) : FnOk P w K mg base CX0 1 f fd ["_law_cell"] (spM ⟨K, mg, P, w⟩ 1 gQ) :=
  okM (k := 0) zIF F kL fun cdv A outer s H E hr => (zH (zW 1 kL.nd (jE [97, 98, 99, 100, 101, 102, 103, 104, 105, 106, 107, 108, 109, 110, 111, 112, 113, 114, 115, 116, 117, 118, 119, 120, 121, 122])) (zH (zW 2 kL.nd (kH (zB 0) zD)) (zH (zW 3 kL.nd (jE [])) (zH (zCQ PassesOwn.never rfl (jW rfl wO (zA (wP zD (xQ (zB 0) zD)) zC)) (kG 4 kL.nd) (zH (zW 3 kL.nd (wP (zB 3) (zZ (zB 1) (xQ (zB 2) zD)))) (zM (zW 2 kL.nd (kH (zB 2) zD))))) (zM (zV (zB 3)))))))
abbrev gU : Stmt := top 41
theorem xJ : FnScope ["_law_cell", "_law_number", "_law_letters", "_law_name_here", "_law_at", "_law_turned", "_law_other", "_law_great"] ["_law_cell"] (zG gU) := ⟨rfl, rfl, rfl, by decide +kernel, rfl, by decide +kernel, by decide +kernel⟩
theorem zUU {f : Addr} {fd : FuncData} (F : Fun K "_law_pool" "_law_pool" gU f fd) {yU : Addr} {wB : FuncData} (gO : FnOk P w K mg base CX0 1 yU wB ["_law_cell", "_law_prime"] (spM ⟨K, mg, P, w⟩ 2 xH)) (gM : mg "_law_mix" = some (.ref yU)) (jQ : PySem.W.keepIn K (.ref yU) = true) (gN : Binds K wB ["_law_cell", "_law_prime"] []) {zGI : Addr} {zMM : FuncData} (zXT : FnOk P w K mg base CX0 1 zGI zMM ["_law_cell"] (spM ⟨K, mg, P, w⟩ 1 gQ)) (zXW : mg "_law_name" = some (.ref zGI)) (zVE : PySem.W.keepIn K (.ref zGI) = true) (zXQ : Binds K zMM ["_law_cell"] []) (yY : mg "len" = none) : FnOk P w K mg base CX0 2 f fd ["_law_cell"] (spM ⟨K, mg, P, w⟩ 1 gR) :=
  okM (k := 1) zIG F xJ fun cdv A outer s H E hr => (zH (zW 1 xJ.nd (zK gO (hr.mono (by decide)) rfl gM jQ gN (zA (zB 0) (zA zD zC)))) (zH (zW 2 xJ.nd (jE [97, 98, 99, 100, 101, 102, 103, 104, 105, 106, 107, 108, 109, 110, 111, 112, 113, 114, 115, 116, 117, 118, 119, 120, 121, 122])) (zH (zW 3 xJ.nd (zK zXT (hr.mono (by decide)) rfl zXW zVE zXQ (zA (zB 1) zC))) (zH (zW 1 xJ.nd (kH (zB 1) (zPT zD (zHL zD zD)))) (zH (zW 4 xJ.nd (xQ (zB 1) (zN yG xX rfl yY xY (zA (zB 3) zC)))) (zH (zW 5 xJ.nd (wP (wP (yIT (zB 2) (zA (zZ (zB 3) (zB 4)) zC)) zD) (xQ (kH (zB 1) zD) zD))) (zH (zW 6 xJ.nd (wP (wP (zPV (zB 3) yAW (zCE (zB 4))) (zZ (zB 2) (xQ (zB 5) zD))) (zPV (zB 3) (zCE (wP (zB 4) zD)) yAW))) (zH (zW 1 xJ.nd (kH (zB 1) zD)) (zH (zW 7 xJ.nd (wP (xQ (zHL (wP (zPT (xQ (zB 1) (zHL zD zD)) zD) zD) zD) (zPS (zHL zD zD) zD)) zD)) (zH (xV (zJW hr.units (xQ (zB 1) zD) zD) (zM (zW 7 xJ.nd (wP (xQ (kH (zB 1) zD) (zPS (zHL zD zD) zD)) zD))) yX) (zM (zV (nH (zA (xQ (kH (zB 1) zD) zD) (zA (zB 7) (zA (zB 3) (zA (zPS zD (zB 7)) (zA (zB 6) (zA (wP (xQ (kH (zB 1) zD) zD) zD) (zA (wP (zB 7) zD) zC))))))))))))))))))))
abbrev kM : Stmt := top 42
theorem zRR : FnScope ["_law_told", "_law_due"] ["_law_told", "_law_due"] (zG kM) := ⟨rfl, rfl, rfl, by decide +kernel, rfl, by decide +kernel, by decide +kernel⟩
theorem zRS {f : Addr} {fd : FuncData} (F : Fun K "_law_alike" "_law_alike" kM f fd) (hself : mg "_law_alike" = some (.ref f)) (kself : PySem.W.keepIn K (.ref f) = true) (bself : Binds K fd ["_law_told", "_law_due"] []) (zOE : mg "str" = none) (zR : mg "isinstance" = none) (zOB : mg "int" = none) (zKW : mg "bool" = none) (dE : mg "list" = none) (yQ : mg "tuple" = none) (yY : mg "len" = none) (zXF : mg "zip" = none) (zBO : mg "all" = none) : ∀ n, FnOk P w K mg base CX0 (0 + n) f fd ["_law_told", "_law_due"] (spM ⟨K, mg, P, w⟩ 2 (zP n)) := by
  intro n
  induction n with
  | zero => exact fn_no
  | succ n ih0 =>
    have ih : ∀ m, m = n → FnOk P w K mg base CX0 (0 + m) f fd ["_law_told", "_law_due"] (spM ⟨K, mg, P, w⟩ 2 (zP m)) := fun m e => e ▸ ih0
    exact okM (k := 0 + n) (zAE (zP n)) F zRR fun cdv A outer s H E hr => (zH (xV (tm_is (zB 1) yEU) (zM (zV (pm_is (zB 0) yEU))) yX) (zH (xV (yP (zN wQ bE rfl zR yL (zA (zB 1) (zA (zCD rfl zOE zYT) zC)))) (zM (zV (jI (zN wQ bE rfl zR yL (zA (zB 0) (zA (zCD rfl zOE zYT) zC))) (gL (zSR hr.units (zB 0) (zB 1)))))) yX) (zH (xV (yP (zN wQ bE rfl zR yL (zA (zB 1) (zA (zCD rfl zOB zYS) zC)))) (zM (zV (jI (zN wQ bE rfl zR yL (zA (zB 0) (zA (zCD rfl zOB zYS) zC))) (jI (yEX (zN wQ bE rfl zR yL (zA (zB 0) (zA (zCD rfl zKW yBC) zC)))) (gL (zSR hr.units (zB 0) (zB 1))))))) yX) (zH (xV (zGN (yEY (yP (zN wQ bE rfl zR yL (zA (zB 1) (zA (zCD rfl dE zCF) zC)))) (yAU (kF (yP (zN wQ bE rfl zR yL (zA (zB 0) (zA (zCD rfl dE zCF) zC)))))))) (zM (zV zCC)) yX) (zH (xV (zGN (yEY (yP (zN wQ bE rfl zR yL (zA (zB 1) (zA (zCD rfl yQ wE) zC)))) (yAU (kF (yP (zN wQ bE rfl zR yL (zA (zB 0) (zA (zCD rfl yQ wE) zC)))))))) (zM (zV zCC)) yX) (zM (zV (jI (zSR hr.units (zN yG xX rfl yY xY (zA (zB 0) zC)) (zN yG xX rfl yY xY (zA (zB 1) zC))) (gL (zN jU (zMX rfl) rfl zBO zMY (zA (gG (zG kM) ["_law_told", "_law_due"] ["_law_one", "_law_other"] [] (yMW rfl zXF (zA (zB 0) (zA (zB 1) zC))) rfl (fun _ _ _ _ hN => (yMK rfl (yAY (jX 0 hN) (yAY (jX 1 hN) yMJ)))) (fun _ _ _ _ => gF) (fun _ _ _ _ => (zK (ih n rfl) (hr.mono (by (first | lia | omega))) rfl hself kself bself (zA (zB 0) (zA (zB 1) zC))))) zC)))))))))))
abbrev jB : Stmt := top 43
theorem xZ : FnScope ["_law_cell", "_law_most", "_law_number", "_law_many", "_law_tables_here", "_law_k", "_law_wide"] ["_law_cell", "_law_most"] (zG jB) := ⟨rfl, rfl, rfl, by decide +kernel, rfl, by decide +kernel, by decide +kernel⟩
theorem zQT {f : Addr} {fd : FuncData} (F : Fun K "_law_tables" "_law_tables" jB f fd) {yU : Addr} {wB : FuncData} (gO : FnOk P w K mg base CX0 1 yU wB ["_law_cell", "_law_prime"] (spM ⟨K, mg, P, w⟩ 2 xH)) (gM : mg "_law_mix" = some (.ref yU)) (jQ : PySem.W.keepIn K (.ref yU) = true) (gN : Binds K wB ["_law_cell", "_law_prime"] []) (wO : mg "range" = none) (yQ : mg "tuple" = none) : FnOk P w K mg base CX0 2 f fd ["_law_cell", "_law_most"] (spM ⟨K, mg, P, w⟩ 2 kX) :=
  okM (k := 1) zDC F xZ fun cdv A outer s H E hr => (zH (zW 2 xZ.nd (zK gO (hr.mono (by decide)) rfl gM jQ gN (zA (zB 0) (zA zD zC)))) (zH (zW 3 xZ.nd (wP zD (xQ (zB 2) (zB 1)))) (zH (zW 2 xZ.nd (kH (zB 2) (zB 1))) (zH (zW 4 xZ.nd (nH zC)) (zH (zCQ PassesOwn.never rfl (jW rfl wO (zA (zB 3) zC)) (kG 5 xZ.nd) (zH (zW 6 xZ.nd (wP zD (xQ (zB 2) zD))) (zH (bA (zDZ (zB 4) (zA (jF (zA (zB 6) (zA (xQ (kH (zB 2) zD) (wP (zB 6) zD)) zC))) zC))) (zM (zW 2 xZ.nd (kH (zB 2) zD)))))) (zM (zV (xD yV kT rfl yQ wE (zA (zB 4) zC)))))))))
abbrev dD : Stmt := top 44
theorem jP : FnScope ["_law_cell", "_law_tables_here", "_law_pool_here", "_law_wide", "_law_number", "_law_t", "_law_cells", "_law_k"] ["_law_cell", "_law_tables_here", "_law_pool_here", "_law_wide"] (zG dD) := ⟨rfl, rfl, rfl, by decide +kernel, rfl, by decide +kernel, by decide +kernel⟩
theorem zXE {f : Addr} {fd : FuncData} (F : Fun K "_law_row" "_law_row" dD f fd) {yU : Addr} {wB : FuncData} (gO : FnOk P w K mg base CX0 1 yU wB ["_law_cell", "_law_prime"] (spM ⟨K, mg, P, w⟩ 2 xH)) (gM : mg "_law_mix" = some (.ref yU)) (jQ : PySem.W.keepIn K (.ref yU) = true) (gN : Binds K wB ["_law_cell", "_law_prime"] []) (yY : mg "len" = none) (wO : mg "range" = none) (yQ : mg "tuple" = none) : FnOk P w K mg base CX0 2 f fd ["_law_cell", "_law_tables_here", "_law_pool_here", "_law_wide"] (spM ⟨K, mg, P, w⟩ 4 cQ) :=
  okM (k := 1) zKT F jP fun cdv A outer s H E hr => (zH (zW 4 jP.nd (zK gO (hr.mono (by decide)) rfl gM jQ gN (zA (zB 0) (zA zD zC)))) (zH (zW 5 jP.nd (xQ (zB 4) (zN yG xX rfl yY xY (zA (zB 1) zC)))) (zH (zW 4 jP.nd (kH (zB 4) (zN yG xX rfl yY xY (zA (zB 1) zC)))) (zH (zW 6 jP.nd (nH zC)) (zH (zCQ PassesOwn.never rfl (jW rfl wO (zA (zZ (zZ (zB 1) (zB 5)) zD) zC)) (kG 7 jP.nd) (zH (bA (zDZ (zB 6) (zA (zZ (zB 2) (xQ (zB 4) (zB 3))) zC))) (zM (zW 4 jP.nd (kH (zB 4) (zB 3)))))) (zM (zV (jF (zA (zB 5) (zA (xD yV kT rfl yQ wE (zA (zB 6) zC)) zC))))))))))
abbrev gV : Stmt := top 45
theorem zAG : FnScope ["_law_cells", "_law_tables_here", "_law_pool_here", "_law_wide", "_law_rows_here", "_law_cell", "_law_row_here"] ["_law_cells", "_law_tables_here", "_law_pool_here", "_law_wide"] (zG gV) := ⟨rfl, rfl, rfl, by decide +kernel, rfl, by decide +kernel, by decide +kernel⟩
theorem zUV {f : Addr} {fd : FuncData} (F : Fun K "_law_rows" "_law_rows" gV f fd) {zIY : Addr} {zOA : FuncData} (zZT : FnOk P w K mg base CX0 2 zIY zOA ["_law_cell", "_law_tables_here", "_law_pool_here", "_law_wide"] (spM ⟨K, mg, P, w⟩ 4 cQ)) (yAB : mg "_law_row" = some (.ref zIY)) (zXS : PySem.W.keepIn K (.ref zIY) = true) (yAH : Binds K zOA ["_law_cell", "_law_tables_here", "_law_pool_here", "_law_wide"] []) (yQ : mg "tuple" = none) : FnOk P w K mg base CX0 3 f fd ["_law_cells", "_law_tables_here", "_law_pool_here", "_law_wide"] (spM ⟨K, mg, P, w⟩ 4 gS) :=
  okM (k := 2) zII F zAG fun cdv A outer s H E hr => (zH (zW 4 zAG.nd (nH zC)) (zH (zCQ PassesOwn.never rfl (yIG (zB 0)) (kG 5 zAG.nd) (zH (zW 6 zAG.nd (zK zZT (hr.mono (by decide)) rfl yAB zXS yAH (zA (zB 5) (zA (zB 1) (zA (zB 2) (zA (zB 3) zC)))))) (zM (xV (yFM hr.units (zB 6) (zB 4)) (zM (bA (zDZ (zB 4) (zA (zB 6) zC)))) yX)))) (zM (zV (xD yV kT rfl yQ wE (zA (zB 4) zC))))))
abbrev gW : Stmt := top 46
theorem zME : FnScope ["_law_state", "_law_size", "_law_found"] ["_law_state", "_law_size"] (zG gW) := ⟨rfl, rfl, rfl, by decide +kernel, rfl, by decide +kernel, by decide +kernel⟩
theorem zUW {f : Addr} {fd : FuncData} (F : Fun K "_law_take" "_law_take" gW f fd)  : FnOk P w K mg base CX0 1 f fd ["_law_state", "_law_size"] (spM ⟨K, mg, P, w⟩ 2 yE) :=
  okM (k := 0) zIJ F zME fun cdv A outer s H E hr => (zH (zW 2 zME.nd (xQ (zZ (zB 0) zD) (zB 1))) (zH (yFB (kH (zZ (zB 0) zD) (zB 1)) (yMT (zB 0) zD)) (zM (zV (zB 2)))))
abbrev gX : Stmt := top 47
theorem zMF : FnScope ["_law_state", "_law_there", "_law_tables_here", "_law_pool_here", "_law_k"] ["_law_state", "_law_there", "_law_tables_here", "_law_pool_here"] (zG gX) := ⟨rfl, rfl, rfl, by decide +kernel, rfl, by decide +kernel, by decide +kernel⟩
theorem zUX {f : Addr} {fd : FuncData} (F : Fun K "_law_side" "_law_side" gX f fd) {xK : Addr} {wT : FuncData} (xC : FnOk P w K mg base CX0 1 xK wT ["_law_state", "_law_size"] (spM ⟨K, mg, P, w⟩ 2 yE)) (xB : mg "_law_take" = some (.ref xK)) (yR : PySem.W.keepIn K (.ref xK) = true) (xA : Binds K wT ["_law_state", "_law_size"] []) (yY : mg "len" = none) : FnOk P w K mg base CX0 2 f fd ["_law_state", "_law_there", "_law_tables_here", "_law_pool_here"] (spM ⟨K, mg, P, w⟩ 4 wR) :=
  okM (k := 1) zCL F zMF fun cdv A outer s H E hr => (zH (xV (zJW hr.units (zK xC (hr.mono (by decide)) rfl xB yR xA (zA (zB 0) (zA zD zC))) zD) (zM (zV (jF (zA (jE [105, 115]) (zA (zZ (zB 3) (zK xC (hr.mono (by decide)) rfl xB yR xA (zA (zB 0) (zA zD zC)))) zC))))) yX) (zH (zW 4 zMF.nd (zK xC (hr.mono (by decide)) rfl xB yR xA (zA (zB 0) (zA (zN yG xX rfl yY xY (zA (zB 1) zC)) zC)))) (zM (zV (jF (zA (jE [99, 101, 108, 108]) (zA (zB 4) (zA (zK xC (hr.mono (by decide)) rfl xB yR xA (zA (zB 0) (zA (zZ (zZ (zB 2) (zZ (zB 1) (zB 4))) zD) zC))) zC))))))))
abbrev jZ : Stmt := top 48
theorem gC : FnScope ["_law_state", "_law_there", "_law_tables_here", "_law_pool_here", "_law_tests_here", "_law_k", "_law_word", "_law_left"] ["_law_state", "_law_there", "_law_tables_here", "_law_pool_here"] (zG jZ) := ⟨rfl, rfl, rfl, by decide +kernel, rfl, by decide +kernel, by decide +kernel⟩
theorem zRT {f : Addr} {fd : FuncData} (F : Fun K "_law_tests" "_law_tests" jZ f fd) (wO : mg "range" = none) {xK : Addr} {wT : FuncData} (xC : FnOk P w K mg base CX0 1 xK wT ["_law_state", "_law_size"] (spM ⟨K, mg, P, w⟩ 2 yE)) (xB : mg "_law_take" = some (.ref xK)) (yR : PySem.W.keepIn K (.ref xK) = true) (xA : Binds K wT ["_law_state", "_law_size"] []) {zGG : Addr} {zMQ : FuncData} (zNZ : FnOk P w K mg base CX0 2 zGG zMQ ["_law_state", "_law_there", "_law_tables_here", "_law_pool_here"] (spM ⟨K, mg, P, w⟩ 4 wR)) (zNW : mg "_law_side" = some (.ref zGG)) (zMG : PySem.W.keepIn K (.ref zGG) = true) (zOD : Binds K zMQ ["_law_state", "_law_there", "_law_tables_here", "_law_pool_here"] []) (yQ : mg "tuple" = none) : FnOk P w K mg base CX0 3 f fd ["_law_state", "_law_there", "_law_tables_here", "_law_pool_here"] (spM ⟨K, mg, P, w⟩ 4 wH) :=
  okM (k := 2) zFU F gC fun cdv A outer s H E hr => (zH (zW 4 gC.nd (nH zC)) (zH (zCQ PassesOwn.never rfl (jW rfl wO (zA (zZ (nH (zA zD (zA zD (zA zD (zA zD (zA zD (zA zD zC))))))) (zK xC (hr.mono (by decide)) rfl xB yR xA (zA (zB 0) (zA zD zC)))) zC)) (kG 5 gC.nd) (zH (zW 6 gC.nd (zZ (nH (zA (jE [115, 97, 109, 101]) (zA (jE [117, 110, 108, 105, 107, 101]) (zA (jE [108, 101, 115, 115]) zC)))) (zK xC (hr.mono (by decide)) rfl xB yR xA (zA (zB 0) (zA zD zC))))) (zH (zW 7 gC.nd (zK zNZ (hr.mono (by decide)) rfl zNW zMG zOD (zA (zB 0) (zA (zB 1) (zA (zB 2) (zA (zB 3) zC)))))) (zM (bA (zDZ (zB 4) (zA (jF (zA (zB 7) (zA (zB 6) (zA (zK zNZ (hr.mono (by decide)) rfl zNW zMG zOD (zA (zB 0) (zA (zB 1) (zA (zB 2) (zA (zB 3) zC))))) zC)))) zC))))))) (zM (zV (xD yV kT rfl yQ wE (zA (zB 4) zC))))))
abbrev kB : Stmt := top 49
theorem kN : FnScope ["_law_cell", "_law_tables_here", "_law_pool_here", "_law_state", "_law_kind", "_law_t", "_law_u", "_law_many", "_law_columns"] ["_law_cell", "_law_tables_here", "_law_pool_here"] (zG kB) := ⟨rfl, rfl, rfl, by decide +kernel, rfl, by decide +kernel, by decide +kernel⟩
theorem zUY {f : Addr} {fd : FuncData} (F : Fun K "_law_rule" "_law_rule" kB f fd) {yU : Addr} {wB : FuncData} (gO : FnOk P w K mg base CX0 1 yU wB ["_law_cell", "_law_prime"] (spM ⟨K, mg, P, w⟩ 2 xH)) (gM : mg "_law_mix" = some (.ref yU)) (jQ : PySem.W.keepIn K (.ref yU) = true) (gN : Binds K wB ["_law_cell", "_law_prime"] []) {xK : Addr} {wT : FuncData} (xC : FnOk P w K mg base CX0 1 xK wT ["_law_state", "_law_size"] (spM ⟨K, mg, P, w⟩ 2 yE)) (xB : mg "_law_take" = some (.ref xK)) (yR : PySem.W.keepIn K (.ref xK) = true) (xA : Binds K wT ["_law_state", "_law_size"] []) (yY : mg "len" = none) {zDV : Addr} {zKD : FuncData} (zMO : FnOk P w K mg base CX0 3 zDV zKD ["_law_state", "_law_there", "_law_tables_here", "_law_pool_here"] (spM ⟨K, mg, P, w⟩ 4 wH)) (zMP : mg "_law_tests" = some (.ref zDV)) (zKC : PySem.W.keepIn K (.ref zDV) = true) (zMJ : Binds K zKD ["_law_state", "_law_there", "_law_tables_here", "_law_pool_here"] []) (wO : mg "range" = none) (yQ : mg "tuple" = none) : FnOk P w K mg base CX0 4 f fd ["_law_cell", "_law_tables_here", "_law_pool_here"] (spM ⟨K, mg, P, w⟩ 3 wS) :=
  okM (k := 3) dU F kN fun cdv A outer s H E hr => (zH (zW 3 kN.nd (nH (zA (zK gO (hr.mono (by decide)) rfl gM jQ gN (zA (zB 0) (zA zD zC))) zC))) (zH (zW 4 kN.nd (zK xC (hr.mono (by decide)) rfl xB yR xA (zA (zB 3) (zA zD zC)))) (zH (zW 5 kN.nd (zK xC (hr.mono (by decide)) rfl xB yR xA (zA (zB 3) (zA (zN yG xX rfl yY xY (zA (zB 1) zC)) zC)))) (zH (zW 6 kN.nd (zK xC (hr.mono (by decide)) rfl xB yR xA (zA (zB 3) (zA (zN yG xX rfl yY xY (zA (zB 1) zC)) zC)))) (zH (xV (zJW hr.units (zB 4) zD) (zM (zV (jF (zA (jE [110, 101, 118, 101, 114]) (zA (zB 5) (zA (zK zMO (hr.mono (by decide)) rfl zMP zKC zMJ (zA (zB 3) (zA (jF (zA (zB 5) zC)) (zA (zB 1) (zA (zB 2) zC))))) zC)))))) yX) (zH (xV (yKO hr.units (zB 4) zD) (zM (zV (jF (zA (jE [97, 112, 97, 114, 116]) (zA (zB 5) (zA (zB 6) (zA (zK zMO (hr.mono (by decide)) rfl zMP zKC zMJ (zA (zB 3) (zA (jF (zA (zB 5) (zA (zB 6) zC))) (zA (zB 1) (zA (zB 2) zC))))) zC))))))) yX) (zH (zW 7 kN.nd (zZ (nH (zA zD (zA zD (zA zD (zA zD (zA zD zC)))))) (zK xC (hr.mono (by decide)) rfl xB yR xA (zA (zB 3) (zA zD zC))))) (zH (zW 8 kN.nd (xD yV kT rfl yQ wE (zA (gG (zG kB) ["_law_cell", "_law_tables_here", "_law_pool_here", "_law_state", "_law_kind", "_law_t", "_law_u", "_law_many", "_law_columns"] ["_law_k"] [1, 3, 5] (jW rfl wO (zA (zB 7) zC)) rfl (fun _ _ _ _ hN => (jX 0 hN)) (fun _ _ _ _ => gF) (fun _ _ _ _ => (zK xC (hr.mono (by decide)) rfl xB yR xA (zA (zB 2) (zA (zZ (zZ (zB 1) (zB 3)) zD) zC))))) zC))) (zM (zV (jF (zA (jE [116, 105, 101]) (zA (zB 5) (zA (zB 8) (zA (zB 6) (zA (xD yV kT rfl yQ wE (zA (gG (zG kB) ["_law_cell", "_law_tables_here", "_law_pool_here", "_law_state", "_law_kind", "_law_t", "_law_u", "_law_many", "_law_columns"] ["_law_k"] [1, 3, 6] (jW rfl wO (zA (zB 7) zC)) rfl (fun _ _ _ _ hN => (jX 0 hN)) (fun _ _ _ _ => gF) (fun _ _ _ _ => (zK xC (hr.mono (by decide)) rfl xB yR xA (zA (zB 2) (zA (zZ (zZ (zB 1) (zB 3)) zD) zC))))) zC)) zC))))))))))))))))
abbrev zGY : Stmt := top 50
theorem nX : FnScope ["_law_script", "_law_pool_here", "_law_tables_here", "_law_head", "_law_rules", "_law_rows_here", "_law_more", "_law_due", "_law_handed", "_law_book"] ["_law_script"] (zG zGY) := ⟨rfl, rfl, rfl, by decide +kernel, rfl, by decide +kernel, by decide +kernel⟩
theorem yOB {f : Addr} {fd : FuncData} (F : Fun K "law" "law" zGY f fd) {zGJ : Addr} {zMI : FuncData} (zXP : FnOk P w K mg base CX0 2 zGJ zMI ["_law_cell"] (spM ⟨K, mg, P, w⟩ 1 gR)) (zXN : mg "_law_pool" = some (.ref zGJ)) (zVB : PySem.W.keepIn K (.ref zGJ) = true) (zXV : Binds K zMI ["_law_cell"] []) {nY : Addr} {zHA : FuncData} (bX : FnOk P w K mg base CX0 1 nY zHA ["_law_script", "_law_k"] (spM ⟨K, mg, P, w⟩ 2 yT)) (bY : mg "_law_cell_at" = some (.ref nY)) (gK : PySem.W.keepIn K (.ref nY) = true) (bU : Binds K zHA ["_law_script", "_law_k"] []) {zBR : Addr} {zIU : FuncData} (zSF : FnOk P w K mg base CX0 2 zBR zIU ["_law_cell", "_law_most"] (spM ⟨K, mg, P, w⟩ 2 kX)) (zRY : mg "_law_tables" = some (.ref zBR)) (zRC : PySem.W.keepIn K (.ref zBR) = true) (zRZ : Binds K zIU ["_law_cell", "_law_most"] []) (wO : mg "range" = none) {zGC : Addr} {zMK : FuncData} (zXG : FnOk P w K mg base CX0 4 zGC zMK ["_law_cell", "_law_tables_here", "_law_pool_here"] (spM ⟨K, mg, P, w⟩ 3 wS)) (zXM : mg "_law_rule" = some (.ref zGC)) (zUZ : PySem.W.keepIn K (.ref zGC) = true) (zXL : Binds K zMK ["_law_cell", "_law_tables_here", "_law_pool_here"] []) (yQ : mg "tuple" = none) {zGD : Addr} {zMH : FuncData} (zXR : FnOk P w K mg base CX0 3 zGD zMH ["_law_cells", "_law_tables_here", "_law_pool_here", "_law_wide"] (spM ⟨K, mg, P, w⟩ 4 gS)) (zXI : mg "_law_rows" = some (.ref zGD)) (zVC : PySem.W.keepIn K (.ref zGD) = true) (zXU : Binds K zMH ["_law_cells", "_law_tables_here", "_law_pool_here", "_law_wide"] []) (dE : mg "list" = none) {zLC : Addr} {zQV : FuncData} (zNL : FnOk P w K mg base CX0 9 zLC zQV ["tables", "rules", "rows"] (spM ⟨K, mg, P, w⟩ 3 cN)) (zNM : mg "book_of" = some (.ref zLC)) (zLE : PySem.W.keepIn K (.ref zLC) = true) (zNK : Binds K zQV ["tables", "rules", "rows"] []) {zDU : Addr} {zKB : FuncData} (zGB : FnOk P w K mg base CX0 8 zDU zKB ["_law_told", "_law_due"] (spM ⟨K, mg, P, w⟩ 2 (zP 8))) (zGF : mg "_law_alike" = some (.ref zDU)) (zDS : PySem.W.keepIn K (.ref zDU) = true) (zGK : Binds K zKB ["_law_told", "_law_due"] []) : FnOk P w K mg base CX0 10 f fd ["_law_script"] (spM ⟨K, mg, P, w⟩ 1 zTA) :=
  okM (k := 9) yGI F nX fun cdv A outer s H E hr => (zH (zW 1 nX.nd (zK zXP (hr.mono (by decide)) rfl zXN zVB zXV (zA (zK bX (hr.mono (by decide)) rfl bY gK bU (zA (zB 0) (zA zD zC))) zC))) (zH (zW 2 nX.nd (zK zSF (hr.mono (by decide)) rfl zRY zRC zRZ (zA (zK bX (hr.mono (by decide)) rfl bY gK bU (zA (zB 0) (zA zD zC))) (zA zD zC)))) (zH (zW 3 nX.nd (zK bX (hr.mono (by decide)) rfl bY gK bU (zA (zB 0) (zA zD zC)))) (zH (zW 4 nX.nd (xD yV kT rfl yQ wE (zA (gG (zG zGY) ["_law_script", "_law_pool_here", "_law_tables_here", "_law_head", "_law_rules", "_law_rows_here", "_law_more", "_law_due", "_law_handed", "_law_book"] ["_law_k"] [0, 1, 2] (jW rfl wO (zA (xQ (zB 3) zD) zC)) rfl (fun _ _ _ _ hN => (jX 0 hN)) (fun _ _ _ _ => gF) (fun _ _ _ _ => (zK zXG (hr.mono (by decide)) rfl zXM zUZ zXL (zA (zK bX (hr.mono (by decide)) rfl bY gK bU (zA (zB 1) (zA (wP zD (zB 0)) zC))) (zA (zB 3) (zA (zB 2) zC)))))) zC))) (zH (zW 5 nX.nd (zK zXR (hr.mono (by decide)) rfl zXI zVC zXU (zA (zPV (zB 0) (zCE zD) (zCE zD)) (zA (zB 2) (zA (zB 1) (zA (wP zD (xQ (kH (zB 3) zD) zD)) zC)))))) (zH (xV (zJW hr.units (xQ (kH (zB 3) zD) zD) zD) (zH (zW 6 nX.nd (xD yV kT rfl yQ wE (zA (gG (zG zGY) ["_law_script", "_law_pool_here", "_law_tables_here", "_law_head", "_law_rules", "_law_rows_here", "_law_more", "_law_due", "_law_handed", "_law_book"] ["_law_j"] [1, 3] (jW rfl wO (zA (zPS (zZ (zZ (zB 2) zD) zD) zD) zC)) rfl (fun _ _ _ _ hN => (jX 0 hN)) (fun _ _ _ _ => gF) (fun _ _ _ _ => (zZ (zB 1) (xQ (wP (kH (zB 2) zD) (zB 0)) zD)))) zC))) (zM (zW 5 nX.nd (xD yV kT rfl yQ wE (zA (gG (zG zGY) ["_law_script", "_law_pool_here", "_law_tables_here", "_law_head", "_law_rules", "_law_rows_here", "_law_more", "_law_due", "_law_handed", "_law_book"] ["_law_k"] [6] (jW rfl wO (zA zD zC)) rfl (fun _ _ _ _ hN => (jX 0 hN)) (fun _ _ _ _ => gF) (fun _ _ _ _ => (jF (zA zD (zA (wP (jF (zA (zPS (zB 0) zD) zC)) (zB 1)) zC))))) zC))))) yX) (zH (zW 7 nX.nd (jF (zA (zB 2) (zA (zB 4) (zA (zB 5) zC))))) (zH (zW 8 nX.nd (nH (zA (xD jT zJE rfl dE zCF (zA (zB 2) zC)) (zA (xD jT zJE rfl dE zCF (zA (zB 4) zC)) (zA (xD jT zJE rfl dE zCF (zA (zB 5) zC)) zC))))) (zH (xV (zJW hr.units (xQ (kH (zB 3) zD) zD) zD) (zM (zW 9 nX.nd (zK zNL (hr.mono (by decide)) rfl zNM zLE zNK (zA (zB 2) (zA (zB 4) (zA (zB 5) zC)))))) (zM (zW 9 nX.nd (zK zNL (hr.mono (by decide)) rfl zNM zLE zNK (zA (zZ (zB 8) zD) (zA (zZ (zB 8) zD) (zA (zZ (zB 8) zD) zC))))))) (zH (xV (zGN (zHJ (kF (yP (zK zGB (hr.mono (by decide)) rfl zGF zDS zGK (zA (zB 9) (zA (zB 7) zC))))) (zCP (zWA hr.units (zB 8) (nH (zA (xD jT zJE rfl dE zCF (zA (zB 2) zC)) (zA (xD jT zJE rfl dE zCF (zA (zB 4) zC)) (zA (xD jT zJE rfl dE zCF (zA (zB 5) zC)) zC)))))))) (zM (zV zCC)) yX) (zH (bA (zDZ (zZ (zB 8) zD) (zA (jF (zA zD (zA zD zC))) zC))) (zH (bA (yFR (zZ (zB 8) zD))) (zH (bA (zYW (zZ (zB 8) zD))) (zM (zV (jI (zK zGB (hr.mono (by decide)) rfl zGF zDS zGK (zA (zB 9) (zA (zB 7) zC))) (gL (zK zGB (hr.mono (by decide)) rfl zGF zDS zGK (zA (zK zNL (hr.mono (by decide)) rfl zNM zLE zNK (zA (zZ (zB 9) zD) (zA (zZ (zB 9) zD) (zA (zZ (zB 9) zD) zC)))) (zA (zB 7) zC))))))))))))))))))))
end
theorem us1 {P : List Value → Prop} (h : ∀ a0, P [a0]) (us : List Value) (e : us.length = 1) : P us := by
  match us, e with | [_], _ => exact h _
theorem us2 {P : List Value → Prop} (h : ∀ a0 a1, P [a0, a1]) (us : List Value) (e : us.length = 2) : P us := by
  match us, e with | [_, _], _ => exact h _ _
theorem us3 {P : List Value → Prop} (h : ∀ a0 a1 a2, P [a0, a1, a2]) (us : List Value) (e : us.length = 3) : P us := by
  match us, e with | [_, _, _], _ => exact h _ _ _
theorem us4 {P : List Value → Prop} (h : ∀ a0 a1 a2 a3, P [a0, a1, a2, a3]) (us : List Value) (e : us.length = 4) : P us := by
  match us, e with | [_, _, _, _], _ => exact h _ _ _ _
theorem all_mk {l : PySem.W.OpenLaw} {w : World} {K : PySem.W.Frag} {h : Heap} {mg : Str → Option Value} {fa : Addr} (X : K.In h) (GG : h.Ns mainGlobals mg) (hfa : mg "law" = some (.ref fa))
    {g0 : Addr} {od0 an0 : Option Addr} {sl0 : Array (Option Value)} {oc0 kV0 dc0 pm0 cd0 ct0 : Value} (a0 : PySem.W.nsIn K mainGlobals "is_whole" = some (some (.ref g0))) (l0 : K.lookup g0 = some ⟨oc0, od0, .func (PySem.W.fnOf "is_whole" "is_whole" (yF cW) (yD cW) (zG cW) .none kV0 dc0 pm0 an0 cd0 ct0), sl0⟩) (c0 : PySem.W.codeIn K cd0 "is_whole" = true) (k0 : PySem.W.keepIn K (.ref g0) = true)
    {g1 : Addr} {od1 an1 : Option Addr} {sl1 : Array (Option Value)} {oc1 kV1 dc1 pm1 cd1 ct1 : Value} (a1 : PySem.W.nsIn K mainGlobals "is_name" = some (some (.ref g1))) (l1 : K.lookup g1 = some ⟨oc1, od1, .func (PySem.W.fnOf "is_name" "is_name" (yF cX) (yD cX) (zG cX) .none kV1 dc1 pm1 an1 cd1 ct1), sl1⟩) (c1 : PySem.W.codeIn K cd1 "is_name" = true) (k1 : PySem.W.keepIn K (.ref g1) = true)
    {g2 : Addr} {od2 an2 : Option Addr} {sl2 : Array (Option Value)} {oc2 kV2 dc2 pm2 cd2 ct2 : Value} (a2 : PySem.W.nsIn K mainGlobals "is_value" = some (some (.ref g2))) (l2 : K.lookup g2 = some ⟨oc2, od2, .func (PySem.W.fnOf "is_value" "is_value" (yF cY) (yD cY) (zG cY) .none kV2 dc2 pm2 an2 cd2 ct2), sl2⟩) (c2 : PySem.W.codeIn K cd2 "is_value" = true) (k2 : PySem.W.keepIn K (.ref g2) = true)
    {g3 : Addr} {od3 an3 : Option Addr} {sl3 : Array (Option Value)} {oc3 kV3 dc3 pm3 cd3 ct3 : Value} (a3 : PySem.W.nsIn K mainGlobals "is_tuple" = some (some (.ref g3))) (l3 : K.lookup g3 = some ⟨oc3, od3, .func (PySem.W.fnOf "is_tuple" "is_tuple" (yF cZ) (yD cZ) (zG cZ) .none kV3 dc3 pm3 an3 cd3 ct3), sl3⟩) (c3 : PySem.W.codeIn K cd3 "is_tuple" = true) (k3 : PySem.W.keepIn K (.ref g3) = true)
    {g4 : Addr} {od4 an4 : Option Addr} {sl4 : Array (Option Value)} {oc4 kV4 dc4 pm4 cd4 ct4 : Value} (a4 : PySem.W.nsIn K mainGlobals "is_number_below" = some (some (.ref g4))) (l4 : K.lookup g4 = some ⟨oc4, od4, .func (PySem.W.fnOf "is_number_below" "is_number_below" (yF wC) (yD wC) (zG wC) .none kV4 dc4 pm4 an4 cd4 ct4), sl4⟩) (c4 : PySem.W.codeIn K cd4 "is_number_below" = true) (k4 : PySem.W.keepIn K (.ref g4) = true)
    {g5 : Addr} {od5 an5 : Option Addr} {sl5 : Array (Option Value)} {oc5 kV5 dc5 pm5 cd5 ct5 : Value} (a5 : PySem.W.nsIn K mainGlobals "is_table" = some (some (.ref g5))) (l5 : K.lookup g5 = some ⟨oc5, od5, .func (PySem.W.fnOf "is_table" "is_table" (yF dA) (yD dA) (zG dA) .none kV5 dc5 pm5 an5 cd5 ct5), sl5⟩) (c5 : PySem.W.codeIn K cd5 "is_table" = true) (k5 : PySem.W.keepIn K (.ref g5) = true)
    {g6 : Addr} {od6 an6 : Option Addr} {sl6 : Array (Option Value)} {oc6 kV6 dc6 pm6 cd6 ct6 : Value} (a6 : PySem.W.nsIn K mainGlobals "is_side" = some (some (.ref g6))) (l6 : K.lookup g6 = some ⟨oc6, od6, .func (PySem.W.fnOf "is_side" "is_side" (yF zAJ) (yD zAJ) (zG zAJ) .none kV6 dc6 pm6 an6 cd6 ct6), sl6⟩) (c6 : PySem.W.codeIn K cd6 "is_side" = true) (k6 : PySem.W.keepIn K (.ref g6) = true)
    {g7 : Addr} {od7 an7 : Option Addr} {sl7 : Array (Option Value)} {oc7 kV7 dc7 pm7 cd7 ct7 : Value} (a7 : PySem.W.nsIn K mainGlobals "is_test" = some (some (.ref g7))) (l7 : K.lookup g7 = some ⟨oc7, od7, .func (PySem.W.fnOf "is_test" "is_test" (yF zAK) (yD zAK) (zG zAK) .none kV7 dc7 pm7 an7 cd7 ct7), sl7⟩) (c7 : PySem.W.codeIn K cd7 "is_test" = true) (k7 : PySem.W.keepIn K (.ref g7) = true)
    {g8 : Addr} {od8 an8 : Option Addr} {sl8 : Array (Option Value)} {oc8 kV8 dc8 pm8 cd8 ct8 : Value} (a8 : PySem.W.nsIn K mainGlobals "are_tests" = some (some (.ref g8))) (l8 : K.lookup g8 = some ⟨oc8, od8, .func (PySem.W.fnOf "are_tests" "are_tests" (yF jN) (yD jN) (zG jN) .none kV8 dc8 pm8 an8 cd8 ct8), sl8⟩) (c8 : PySem.W.codeIn K cd8 "are_tests" = true) (k8 : PySem.W.keepIn K (.ref g8) = true)
    {g9 : Addr} {od9 an9 : Option Addr} {sl9 : Array (Option Value)} {oc9 kV9 dc9 pm9 cd9 ct9 : Value} (a9 : PySem.W.nsIn K mainGlobals "are_columns" = some (some (.ref g9))) (l9 : K.lookup g9 = some ⟨oc9, od9, .func (PySem.W.fnOf "are_columns" "are_columns" (yF wU) (yD wU) (zG wU) .none kV9 dc9 pm9 an9 cd9 ct9), sl9⟩) (c9 : PySem.W.codeIn K cd9 "are_columns" = true) (k9 : PySem.W.keepIn K (.ref g9) = true)
    {g10 : Addr} {od10 an10 : Option Addr} {sl10 : Array (Option Value)} {oc10 kV10 dc10 pm10 cd10 ct10 : Value} (a10 : PySem.W.nsIn K mainGlobals "is_never" = some (some (.ref g10))) (l10 : K.lookup g10 = some ⟨oc10, od10, .func (PySem.W.fnOf "is_never" "is_never" (yF dB) (yD dB) (zG dB) .none kV10 dc10 pm10 an10 cd10 ct10), sl10⟩) (c10 : PySem.W.codeIn K cd10 "is_never" = true) (k10 : PySem.W.keepIn K (.ref g10) = true)
    {g11 : Addr} {od11 an11 : Option Addr} {sl11 : Array (Option Value)} {oc11 kV11 dc11 pm11 cd11 ct11 : Value} (a11 : PySem.W.nsIn K mainGlobals "is_apart" = some (some (.ref g11))) (l11 : K.lookup g11 = some ⟨oc11, od11, .func (PySem.W.fnOf "is_apart" "is_apart" (yF jO) (yD jO) (zG jO) .none kV11 dc11 pm11 an11 cd11 ct11), sl11⟩) (c11 : PySem.W.codeIn K cd11 "is_apart" = true) (k11 : PySem.W.keepIn K (.ref g11) = true)
    {g12 : Addr} {od12 an12 : Option Addr} {sl12 : Array (Option Value)} {oc12 kV12 dc12 pm12 cd12 ct12 : Value} (a12 : PySem.W.nsIn K mainGlobals "is_tie" = some (some (.ref g12))) (l12 : K.lookup g12 = some ⟨oc12, od12, .func (PySem.W.fnOf "is_tie" "is_tie" (yF zEK) (yD zEK) (zG zEK) .none kV12 dc12 pm12 an12 cd12 ct12), sl12⟩) (c12 : PySem.W.codeIn K cd12 "is_tie" = true) (k12 : PySem.W.keepIn K (.ref g12) = true)
    {g13 : Addr} {od13 an13 : Option Addr} {sl13 : Array (Option Value)} {oc13 kV13 dc13 pm13 cd13 ct13 : Value} (a13 : PySem.W.nsIn K mainGlobals "is_rule" = some (some (.ref g13))) (l13 : K.lookup g13 = some ⟨oc13, od13, .func (PySem.W.fnOf "is_rule" "is_rule" (yF zAL) (yD zAL) (zG zAL) .none kV13 dc13 pm13 an13 cd13 ct13), sl13⟩) (c13 : PySem.W.codeIn K cd13 "is_rule" = true) (k13 : PySem.W.keepIn K (.ref g13) = true)
    {g14 : Addr} {od14 an14 : Option Addr} {sl14 : Array (Option Value)} {oc14 kV14 dc14 pm14 cd14 ct14 : Value} (a14 : PySem.W.nsIn K mainGlobals "is_row" = some (some (.ref g14))) (l14 : K.lookup g14 = some ⟨oc14, od14, .func (PySem.W.fnOf "is_row" "is_row" (yF zBK) (yD zBK) (zG zBK) .none kV14 dc14 pm14 an14 cd14 ct14), sl14⟩) (c14 : PySem.W.codeIn K cd14 "is_row" = true) (k14 : PySem.W.keepIn K (.ref g14) = true)
    {g15 : Addr} {od15 an15 : Option Addr} {sl15 : Array (Option Value)} {oc15 kV15 dc15 pm15 cd15 ct15 : Value} (a15 : PySem.W.nsIn K mainGlobals "check_sizes" = some (some (.ref g15))) (l15 : K.lookup g15 = some ⟨oc15, od15, .func (PySem.W.fnOf "check_sizes" "check_sizes" (yF kY) (yD kY) (zG kY) .none kV15 dc15 pm15 an15 cd15 ct15), sl15⟩) (c15 : PySem.W.codeIn K cd15 "check_sizes" = true) (k15 : PySem.W.keepIn K (.ref g15) = true)
    {g16 : Addr} {od16 an16 : Option Addr} {sl16 : Array (Option Value)} {oc16 kV16 dc16 pm16 cd16 ct16 : Value} (a16 : PySem.W.nsIn K mainGlobals "check_tables" = some (some (.ref g16))) (l16 : K.lookup g16 = some ⟨oc16, od16, .func (PySem.W.fnOf "check_tables" "check_tables" (yF wZ) (yD wZ) (zG wZ) .none kV16 dc16 pm16 an16 cd16 ct16), sl16⟩) (c16 : PySem.W.codeIn K cd16 "check_tables" = true) (k16 : PySem.W.keepIn K (.ref g16) = true)
    {g17 : Addr} {od17 an17 : Option Addr} {sl17 : Array (Option Value)} {oc17 kV17 dc17 pm17 cd17 ct17 : Value} (a17 : PySem.W.nsIn K mainGlobals "check_rules" = some (some (.ref g17))) (l17 : K.lookup g17 = some ⟨oc17, od17, .func (PySem.W.fnOf "check_rules" "check_rules" (yF kZ) (yD kZ) (zG kZ) .none kV17 dc17 pm17 an17 cd17 ct17), sl17⟩) (c17 : PySem.W.codeIn K cd17 "check_rules" = true) (k17 : PySem.W.keepIn K (.ref g17) = true)
    {g18 : Addr} {od18 an18 : Option Addr} {sl18 : Array (Option Value)} {oc18 kV18 dc18 pm18 cd18 ct18 : Value} (a18 : PySem.W.nsIn K mainGlobals "check_rows" = some (some (.ref g18))) (l18 : K.lookup g18 = some ⟨oc18, od18, .func (PySem.W.fnOf "check_rows" "check_rows" (yF jY) (yD jY) (zG jY) .none kV18 dc18 pm18 an18 cd18 ct18), sl18⟩) (c18 : PySem.W.codeIn K cd18 "check_rows" = true) (k18 : PySem.W.keepIn K (.ref g18) = true)
    {g19 : Addr} {od19 an19 : Option Addr} {sl19 : Array (Option Value)} {oc19 kV19 dc19 pm19 cd19 ct19 : Value} (a19 : PySem.W.nsIn K mainGlobals "book_of" = some (some (.ref g19))) (l19 : K.lookup g19 = some ⟨oc19, od19, .func (PySem.W.fnOf "book_of" "book_of" (yF zAM) (yD zAM) (zG zAM) .none kV19 dc19 pm19 an19 cd19 ct19), sl19⟩) (c19 : PySem.W.codeIn K cd19 "book_of" = true) (k19 : PySem.W.keepIn K (.ref g19) = true)
    {g20 : Addr} {od20 an20 : Option Addr} {sl20 : Array (Option Value)} {oc20 kV20 dc20 pm20 cd20 ct20 : Value} (a20 : PySem.W.nsIn K mainGlobals "_law_cell_at" = some (some (.ref g20))) (l20 : K.lookup g20 = some ⟨oc20, od20, .func (PySem.W.fnOf "_law_cell_at" "_law_cell_at" (yF kA) (yD kA) (zG kA) .none kV20 dc20 pm20 an20 cd20 ct20), sl20⟩) (c20 : PySem.W.codeIn K cd20 "_law_cell_at" = true) (k20 : PySem.W.keepIn K (.ref g20) = true)
    {g21 : Addr} {od21 an21 : Option Addr} {sl21 : Array (Option Value)} {oc21 kV21 dc21 pm21 cd21 ct21 : Value} (a21 : PySem.W.nsIn K mainGlobals "_law_mix" = some (some (.ref g21))) (l21 : K.lookup g21 = some ⟨oc21, od21, .func (PySem.W.fnOf "_law_mix" "_law_mix" (yF dC) (yD dC) (zG dC) .none kV21 dc21 pm21 an21 cd21 ct21), sl21⟩) (c21 : PySem.W.codeIn K cd21 "_law_mix" = true) (k21 : PySem.W.keepIn K (.ref g21) = true)
    {g22 : Addr} {od22 an22 : Option Addr} {sl22 : Array (Option Value)} {oc22 kV22 dc22 pm22 cd22 ct22 : Value} (a22 : PySem.W.nsIn K mainGlobals "_law_name" = some (some (.ref g22))) (l22 : K.lookup g22 = some ⟨oc22, od22, .func (PySem.W.fnOf "_law_name" "_law_name" (yF gT) (yD gT) (zG gT) .none kV22 dc22 pm22 an22 cd22 ct22), sl22⟩) (c22 : PySem.W.codeIn K cd22 "_law_name" = true) (k22 : PySem.W.keepIn K (.ref g22) = true)
    {g23 : Addr} {od23 an23 : Option Addr} {sl23 : Array (Option Value)} {oc23 kV23 dc23 pm23 cd23 ct23 : Value} (a23 : PySem.W.nsIn K mainGlobals "_law_pool" = some (some (.ref g23))) (l23 : K.lookup g23 = some ⟨oc23, od23, .func (PySem.W.fnOf "_law_pool" "_law_pool" (yF gU) (yD gU) (zG gU) .none kV23 dc23 pm23 an23 cd23 ct23), sl23⟩) (c23 : PySem.W.codeIn K cd23 "_law_pool" = true) (k23 : PySem.W.keepIn K (.ref g23) = true)
    {g24 : Addr} {od24 an24 : Option Addr} {sl24 : Array (Option Value)} {oc24 kV24 dc24 pm24 cd24 ct24 : Value} (a24 : PySem.W.nsIn K mainGlobals "_law_alike" = some (some (.ref g24))) (l24 : K.lookup g24 = some ⟨oc24, od24, .func (PySem.W.fnOf "_law_alike" "_law_alike" (yF kM) (yD kM) (zG kM) .none kV24 dc24 pm24 an24 cd24 ct24), sl24⟩) (c24 : PySem.W.codeIn K cd24 "_law_alike" = true) (k24 : PySem.W.keepIn K (.ref g24) = true)
    {g25 : Addr} {od25 an25 : Option Addr} {sl25 : Array (Option Value)} {oc25 kV25 dc25 pm25 cd25 ct25 : Value} (a25 : PySem.W.nsIn K mainGlobals "_law_tables" = some (some (.ref g25))) (l25 : K.lookup g25 = some ⟨oc25, od25, .func (PySem.W.fnOf "_law_tables" "_law_tables" (yF jB) (yD jB) (zG jB) .none kV25 dc25 pm25 an25 cd25 ct25), sl25⟩) (c25 : PySem.W.codeIn K cd25 "_law_tables" = true) (k25 : PySem.W.keepIn K (.ref g25) = true)
    {g26 : Addr} {od26 an26 : Option Addr} {sl26 : Array (Option Value)} {oc26 kV26 dc26 pm26 cd26 ct26 : Value} (a26 : PySem.W.nsIn K mainGlobals "_law_row" = some (some (.ref g26))) (l26 : K.lookup g26 = some ⟨oc26, od26, .func (PySem.W.fnOf "_law_row" "_law_row" (yF dD) (yD dD) (zG dD) .none kV26 dc26 pm26 an26 cd26 ct26), sl26⟩) (c26 : PySem.W.codeIn K cd26 "_law_row" = true) (k26 : PySem.W.keepIn K (.ref g26) = true)
    {g27 : Addr} {od27 an27 : Option Addr} {sl27 : Array (Option Value)} {oc27 kV27 dc27 pm27 cd27 ct27 : Value} (a27 : PySem.W.nsIn K mainGlobals "_law_rows" = some (some (.ref g27))) (l27 : K.lookup g27 = some ⟨oc27, od27, .func (PySem.W.fnOf "_law_rows" "_law_rows" (yF gV) (yD gV) (zG gV) .none kV27 dc27 pm27 an27 cd27 ct27), sl27⟩) (c27 : PySem.W.codeIn K cd27 "_law_rows" = true) (k27 : PySem.W.keepIn K (.ref g27) = true)
    {g28 : Addr} {od28 an28 : Option Addr} {sl28 : Array (Option Value)} {oc28 kV28 dc28 pm28 cd28 ct28 : Value} (a28 : PySem.W.nsIn K mainGlobals "_law_take" = some (some (.ref g28))) (l28 : K.lookup g28 = some ⟨oc28, od28, .func (PySem.W.fnOf "_law_take" "_law_take" (yF gW) (yD gW) (zG gW) .none kV28 dc28 pm28 an28 cd28 ct28), sl28⟩) (c28 : PySem.W.codeIn K cd28 "_law_take" = true) (k28 : PySem.W.keepIn K (.ref g28) = true)
    {g29 : Addr} {od29 an29 : Option Addr} {sl29 : Array (Option Value)} {oc29 kV29 dc29 pm29 cd29 ct29 : Value} (a29 : PySem.W.nsIn K mainGlobals "_law_side" = some (some (.ref g29))) (l29 : K.lookup g29 = some ⟨oc29, od29, .func (PySem.W.fnOf "_law_side" "_law_side" (yF gX) (yD gX) (zG gX) .none kV29 dc29 pm29 an29 cd29 ct29), sl29⟩) (c29 : PySem.W.codeIn K cd29 "_law_side" = true) (k29 : PySem.W.keepIn K (.ref g29) = true)
    {g30 : Addr} {od30 an30 : Option Addr} {sl30 : Array (Option Value)} {oc30 kV30 dc30 pm30 cd30 ct30 : Value} (a30 : PySem.W.nsIn K mainGlobals "_law_tests" = some (some (.ref g30))) (l30 : K.lookup g30 = some ⟨oc30, od30, .func (PySem.W.fnOf "_law_tests" "_law_tests" (yF jZ) (yD jZ) (zG jZ) .none kV30 dc30 pm30 an30 cd30 ct30), sl30⟩) (c30 : PySem.W.codeIn K cd30 "_law_tests" = true) (k30 : PySem.W.keepIn K (.ref g30) = true)
    {g31 : Addr} {od31 an31 : Option Addr} {sl31 : Array (Option Value)} {oc31 kV31 dc31 pm31 cd31 ct31 : Value} (a31 : PySem.W.nsIn K mainGlobals "_law_rule" = some (some (.ref g31))) (l31 : K.lookup g31 = some ⟨oc31, od31, .func (PySem.W.fnOf "_law_rule" "_law_rule" (yF kB) (yD kB) (zG kB) .none kV31 dc31 pm31 an31 cd31 ct31), sl31⟩) (c31 : PySem.W.codeIn K cd31 "_law_rule" = true) (k31 : PySem.W.keepIn K (.ref g31) = true)
    {g32 : Addr} {od32 an32 : Option Addr} {sl32 : Array (Option Value)} {oc32 kV32 dc32 pm32 cd32 ct32 : Value} (a32 : PySem.W.nsIn K mainGlobals "law" = some (some (.ref g32))) (l32 : K.lookup g32 = some ⟨oc32, od32, .func (PySem.W.fnOf "law" "law" (yF zGY) (yD zGY) (zG zGY) .none kV32 dc32 pm32 an32 cd32 ct32), sl32⟩) (c32 : PySem.W.codeIn K cd32 "law" = true) (k32 : PySem.W.keepIn K (.ref g32) = true)
    {zBT : Tok} (jS : PySem.W.nsIn K mainGlobals "MOST_LETTERS" = some (some (.int 8 zBT)))
    {zIT : Tok} (dX : PySem.W.nsIn K mainGlobals "MOST_ROWS" = some (some (.int 60 zIT)))
    {zGH : Tok} (bT : PySem.W.nsIn K mainGlobals "MOST_RULES" = some (some (.int 6 zGH)))
    {zDT : Tok} (gD : PySem.W.nsIn K mainGlobals "MOST_TABLES" = some (some (.int 4 zDT)))
    {zGL : Tok} (bW : PySem.W.nsIn K mainGlobals "MOST_TESTS" = some (some (.int 3 zGL)))
    {zIQ : Tok} (dW : PySem.W.nsIn K mainGlobals "MOST_TIED" = some (some (.int 3 zIQ)))
    {zIV : Tok} (dY : PySem.W.nsIn K mainGlobals "MOST_WIDE" = some (some (.int 4 zIV)))
    {yBX : Addr} {oc_WORDS : Value} {od_WORDS : Option Addr} {its_WORDS : Array Value} {n_WORDS : Nat} {sl_WORDS : Array (Option Value)} (zMN : PySem.W.nsIn K mainGlobals "WORDS" = some (some (.ref yBX))) (zVA : K.lookup yBX = some ⟨oc_WORDS, od_WORDS, .seq its_WORDS n_WORDS, sl_WORDS⟩) (zML : oc_WORDS = .type "tuple" ∧ its_WORDS.size ≤ sizeLine ∧ Vals ([.str [115, 97, 109, 101], .str [117, 110, 108, 105, 107, 101], .str [108, 101, 115, 115]].map yBH) its_WORDS.toList)
    (zXO : PySem.W.nsIn K mainGlobals "abs" = some none)
    (zBO : PySem.W.nsIn K mainGlobals "all" = some none)
    (zKW : PySem.W.nsIn K mainGlobals "bool" = some none)
    (wJ : PySem.W.nsIn K mainGlobals "enumerate" = some none)
    (zOB : PySem.W.nsIn K mainGlobals "int" = some none)
    (zR : PySem.W.nsIn K mainGlobals "isinstance" = some none)
    (yY : PySem.W.nsIn K mainGlobals "len" = some none)
    (dE : PySem.W.nsIn K mainGlobals "list" = some none)
    (wO : PySem.W.nsIn K mainGlobals "range" = some none)
    (zOE : PySem.W.nsIn K mainGlobals "str" = some none)
    (yQ : PySem.W.nsIn K mainGlobals "tuple" = some none)
    (zXF : PySem.W.nsIn K mainGlobals "zip" = some none)
    : ∃ fd : FuncData, (∀ (s : Shared) (v : Value), BindsTo s fd ⟨[v], []⟩ [("_law_script", v)]) ∧ ∀ base : Heap, K.In base → base.Ns mainGlobals mg → FnOk l.prog w K mg base CX0 10 fa fd ["_law_script"] (zWF K zTA) := by
  have e := hfa.symm.trans (PySem.W.mg_of X GG a32)
  cases e
  have Z_abs := PySem.W.mg_none_of X GG zXO
  have Z_all := PySem.W.mg_none_of X GG zBO
  have Z_bool := PySem.W.mg_none_of X GG zKW
  have Z_enumerate := PySem.W.mg_none_of X GG wJ
  have Z_int := PySem.W.mg_none_of X GG zOB
  have Z_isinstance := PySem.W.mg_none_of X GG zR
  have Z_len := PySem.W.mg_none_of X GG yY
  have Z_list := PySem.W.mg_none_of X GG dE
  have Z_range := PySem.W.mg_none_of X GG wO
  have Z_str := PySem.W.mg_none_of X GG zOE
  have Z_tuple := PySem.W.mg_none_of X GG yQ
  have Z_zip := PySem.W.mg_none_of X GG zXF
  have M_MOST_LETTERS := PySem.W.mg_of X GG jS
  have M_MOST_ROWS := PySem.W.mg_of X GG dX
  have M_MOST_RULES := PySem.W.mg_of X GG bT
  have M_MOST_TABLES := PySem.W.mg_of X GG gD
  have M_MOST_TESTS := PySem.W.mg_of X GG bW
  have M_MOST_TIED := PySem.W.mg_of X GG dW
  have M_MOST_WIDE := PySem.W.mg_of X GG dY
  have M_WORDS : GTup K mg "WORDS" [.str [115, 97, 109, 101], .str [117, 110, 108, 105, 107, 101], .str [108, 101, 115, 115]] := ⟨⟨_, _, _, _, PySem.W.mg_of X GG zMN, zVA, zML.1, rfl, zML.2.1, zML.2.2⟩, rfl⟩
  have F0 := yZ (st := cW) l0 c0 k0
  have b0 := F0.binds (ps := ["thing"]) fun _ _ _ _ _ _ us hl => us1 (P := fun us => bindArgs _ ⟨us, []⟩ = pure (List.zip _ us)) (fun _ => rfl) us hl
  have m0 := PySem.W.mg_of X GG a0
  have F1 := yZ (st := cX) l1 c1 k1
  have b1 := F1.binds (ps := ["thing"]) fun _ _ _ _ _ _ us hl => us1 (P := fun us => bindArgs _ ⟨us, []⟩ = pure (List.zip _ us)) (fun _ => rfl) us hl
  have m1 := PySem.W.mg_of X GG a1
  have F2 := yZ (st := cY) l2 c2 k2
  have b2 := F2.binds (ps := ["thing"]) fun _ _ _ _ _ _ us hl => us1 (P := fun us => bindArgs _ ⟨us, []⟩ = pure (List.zip _ us)) (fun _ => rfl) us hl
  have m2 := PySem.W.mg_of X GG a2
  have F3 := yZ (st := cZ) l3 c3 k3
  have b3 := F3.binds (ps := ["thing", "least", "most"]) fun _ _ _ _ _ _ us hl => us3 (P := fun us => bindArgs _ ⟨us, []⟩ = pure (List.zip _ us)) (fun _ _ _ => rfl) us hl
  have m3 := PySem.W.mg_of X GG a3
  have F4 := yZ (st := wC) l4 c4 k4
  have b4 := F4.binds (ps := ["thing", "bound"]) fun _ _ _ _ _ _ us hl => us2 (P := fun us => bindArgs _ ⟨us, []⟩ = pure (List.zip _ us)) (fun _ _ => rfl) us hl
  have m4 := PySem.W.mg_of X GG a4
  have F5 := yZ (st := dA) l5 c5 k5
  have b5 := F5.binds (ps := ["thing"]) fun _ _ _ _ _ _ us hl => us1 (P := fun us => bindArgs _ ⟨us, []⟩ = pure (List.zip _ us)) (fun _ => rfl) us hl
  have m5 := PySem.W.mg_of X GG a5
  have F6 := yZ (st := zAJ) l6 c6 k6
  have b6 := F6.binds (ps := ["thing", "wides"]) fun _ _ _ _ _ _ us hl => us2 (P := fun us => bindArgs _ ⟨us, []⟩ = pure (List.zip _ us)) (fun _ _ => rfl) us hl
  have m6 := PySem.W.mg_of X GG a6
  have F7 := yZ (st := zAK) l7 c7 k7
  have b7 := F7.binds (ps := ["thing", "wides"]) fun _ _ _ _ _ _ us hl => us2 (P := fun us => bindArgs _ ⟨us, []⟩ = pure (List.zip _ us)) (fun _ _ => rfl) us hl
  have m7 := PySem.W.mg_of X GG a7
  have F8 := yZ (st := jN) l8 c8 k8
  have b8 := F8.binds (ps := ["thing", "wides"]) fun _ _ _ _ _ _ us hl => us2 (P := fun us => bindArgs _ ⟨us, []⟩ = pure (List.zip _ us)) (fun _ _ => rfl) us hl
  have m8 := PySem.W.mg_of X GG a8
  have F9 := yZ (st := wU) l9 c9 k9
  have b9 := F9.binds (ps := ["thing", "wide"]) fun _ _ _ _ _ _ us hl => us2 (P := fun us => bindArgs _ ⟨us, []⟩ = pure (List.zip _ us)) (fun _ _ => rfl) us hl
  have m9 := PySem.W.mg_of X GG a9
  have F10 := yZ (st := dB) l10 c10 k10
  have b10 := F10.binds (ps := ["rule", "tables"]) fun _ _ _ _ _ _ us hl => us2 (P := fun us => bindArgs _ ⟨us, []⟩ = pure (List.zip _ us)) (fun _ _ => rfl) us hl
  have m10 := PySem.W.mg_of X GG a10
  have F11 := yZ (st := jO) l11 c11 k11
  have b11 := F11.binds (ps := ["rule", "tables"]) fun _ _ _ _ _ _ us hl => us2 (P := fun us => bindArgs _ ⟨us, []⟩ = pure (List.zip _ us)) (fun _ _ => rfl) us hl
  have m11 := PySem.W.mg_of X GG a11
  have F12 := yZ (st := zEK) l12 c12 k12
  have b12 := F12.binds (ps := ["rule", "tables"]) fun _ _ _ _ _ _ us hl => us2 (P := fun us => bindArgs _ ⟨us, []⟩ = pure (List.zip _ us)) (fun _ _ => rfl) us hl
  have m12 := PySem.W.mg_of X GG a12
  have F13 := yZ (st := zAL) l13 c13 k13
  have b13 := F13.binds (ps := ["thing", "tables"]) fun _ _ _ _ _ _ us hl => us2 (P := fun us => bindArgs _ ⟨us, []⟩ = pure (List.zip _ us)) (fun _ _ => rfl) us hl
  have m13 := PySem.W.mg_of X GG a13
  have F14 := yZ (st := zBK) l14 c14 k14
  have b14 := F14.binds (ps := ["thing", "tables"]) fun _ _ _ _ _ _ us hl => us2 (P := fun us => bindArgs _ ⟨us, []⟩ = pure (List.zip _ us)) (fun _ _ => rfl) us hl
  have m14 := PySem.W.mg_of X GG a14
  have F15 := yZ (st := kY) l15 c15 k15
  have b15 := F15.binds (ps := ["tables", "rules", "rows"]) fun _ _ _ _ _ _ us hl => us3 (P := fun us => bindArgs _ ⟨us, []⟩ = pure (List.zip _ us)) (fun _ _ _ => rfl) us hl
  have m15 := PySem.W.mg_of X GG a15
  have F16 := yZ (st := wZ) l16 c16 k16
  have b16 := F16.binds (ps := ["tables"]) fun _ _ _ _ _ _ us hl => us1 (P := fun us => bindArgs _ ⟨us, []⟩ = pure (List.zip _ us)) (fun _ => rfl) us hl
  have m16 := PySem.W.mg_of X GG a16
  have F17 := yZ (st := kZ) l17 c17 k17
  have b17 := F17.binds (ps := ["tables", "rules"]) fun _ _ _ _ _ _ us hl => us2 (P := fun us => bindArgs _ ⟨us, []⟩ = pure (List.zip _ us)) (fun _ _ => rfl) us hl
  have m17 := PySem.W.mg_of X GG a17
  have F18 := yZ (st := jY) l18 c18 k18
  have b18 := F18.binds (ps := ["tables", "rows"]) fun _ _ _ _ _ _ us hl => us2 (P := fun us => bindArgs _ ⟨us, []⟩ = pure (List.zip _ us)) (fun _ _ => rfl) us hl
  have m18 := PySem.W.mg_of X GG a18
  have F19 := yZ (st := zAM) l19 c19 k19
  have b19 := F19.binds (ps := ["tables", "rules", "rows"]) fun _ _ _ _ _ _ us hl => us3 (P := fun us => bindArgs _ ⟨us, []⟩ = pure (List.zip _ us)) (fun _ _ _ => rfl) us hl
  have m19 := PySem.W.mg_of X GG a19
  have F20 := yZ (st := kA) l20 c20 k20
  have b20 := F20.binds (ps := ["_law_script", "_law_k"]) fun _ _ _ _ _ _ us hl => us2 (P := fun us => bindArgs _ ⟨us, []⟩ = pure (List.zip _ us)) (fun _ _ => rfl) us hl
  have m20 := PySem.W.mg_of X GG a20
  have F21 := yZ (st := dC) l21 c21 k21
  have b21 := F21.binds (ps := ["_law_cell", "_law_prime"]) fun _ _ _ _ _ _ us hl => us2 (P := fun us => bindArgs _ ⟨us, []⟩ = pure (List.zip _ us)) (fun _ _ => rfl) us hl
  have m21 := PySem.W.mg_of X GG a21
  have F22 := yZ (st := gT) l22 c22 k22
  have b22 := F22.binds (ps := ["_law_cell"]) fun _ _ _ _ _ _ us hl => us1 (P := fun us => bindArgs _ ⟨us, []⟩ = pure (List.zip _ us)) (fun _ => rfl) us hl
  have m22 := PySem.W.mg_of X GG a22
  have F23 := yZ (st := gU) l23 c23 k23
  have b23 := F23.binds (ps := ["_law_cell"]) fun _ _ _ _ _ _ us hl => us1 (P := fun us => bindArgs _ ⟨us, []⟩ = pure (List.zip _ us)) (fun _ => rfl) us hl
  have m23 := PySem.W.mg_of X GG a23
  have F24 := yZ (st := kM) l24 c24 k24
  have b24 := F24.binds (ps := ["_law_told", "_law_due"]) fun _ _ _ _ _ _ us hl => us2 (P := fun us => bindArgs _ ⟨us, []⟩ = pure (List.zip _ us)) (fun _ _ => rfl) us hl
  have m24 := PySem.W.mg_of X GG a24
  have F25 := yZ (st := jB) l25 c25 k25
  have b25 := F25.binds (ps := ["_law_cell", "_law_most"]) fun _ _ _ _ _ _ us hl => us2 (P := fun us => bindArgs _ ⟨us, []⟩ = pure (List.zip _ us)) (fun _ _ => rfl) us hl
  have m25 := PySem.W.mg_of X GG a25
  have F26 := yZ (st := dD) l26 c26 k26
  have b26 := F26.binds (ps := ["_law_cell", "_law_tables_here", "_law_pool_here", "_law_wide"]) fun _ _ _ _ _ _ us hl => us4 (P := fun us => bindArgs _ ⟨us, []⟩ = pure (List.zip _ us)) (fun _ _ _ _ => rfl) us hl
  have m26 := PySem.W.mg_of X GG a26
  have F27 := yZ (st := gV) l27 c27 k27
  have b27 := F27.binds (ps := ["_law_cells", "_law_tables_here", "_law_pool_here", "_law_wide"]) fun _ _ _ _ _ _ us hl => us4 (P := fun us => bindArgs _ ⟨us, []⟩ = pure (List.zip _ us)) (fun _ _ _ _ => rfl) us hl
  have m27 := PySem.W.mg_of X GG a27
  have F28 := yZ (st := gW) l28 c28 k28
  have b28 := F28.binds (ps := ["_law_state", "_law_size"]) fun _ _ _ _ _ _ us hl => us2 (P := fun us => bindArgs _ ⟨us, []⟩ = pure (List.zip _ us)) (fun _ _ => rfl) us hl
  have m28 := PySem.W.mg_of X GG a28
  have F29 := yZ (st := gX) l29 c29 k29
  have b29 := F29.binds (ps := ["_law_state", "_law_there", "_law_tables_here", "_law_pool_here"]) fun _ _ _ _ _ _ us hl => us4 (P := fun us => bindArgs _ ⟨us, []⟩ = pure (List.zip _ us)) (fun _ _ _ _ => rfl) us hl
  have m29 := PySem.W.mg_of X GG a29
  have F30 := yZ (st := jZ) l30 c30 k30
  have b30 := F30.binds (ps := ["_law_state", "_law_there", "_law_tables_here", "_law_pool_here"]) fun _ _ _ _ _ _ us hl => us4 (P := fun us => bindArgs _ ⟨us, []⟩ = pure (List.zip _ us)) (fun _ _ _ _ => rfl) us hl
  have m30 := PySem.W.mg_of X GG a30
  have F31 := yZ (st := kB) l31 c31 k31
  have b31 := F31.binds (ps := ["_law_cell", "_law_tables_here", "_law_pool_here"]) fun _ _ _ _ _ _ us hl => us3 (P := fun us => bindArgs _ ⟨us, []⟩ = pure (List.zip _ us)) (fun _ _ _ => rfl) us hl
  have m31 := PySem.W.mg_of X GG a31
  have F32 := yZ (st := zGY) l32 c32 k32
  have b32 := F32.binds (ps := ["_law_script"]) fun _ _ _ _ _ _ us hl => us1 (P := fun us => bindArgs _ ⟨us, []⟩ = pure (List.zip _ us)) (fun _ => rfl) us hl
  have m32 := PySem.W.mg_of X GG a32
  refine ⟨PySem.W.fnOf "law" "law" (yF zGY) (yD zGY) (zG zGY) .none kV32 dc32 pm32 an32 cd32 ct32, fun s v => .of_eq rfl, fun base _ _ => ?_⟩
  have G0 := zWT (P := l.prog) (w := w) (mg := mg) (base := base) F0 Z_int Z_isinstance Z_bool
  have G1 := zZK (P := l.prog) (w := w) (mg := mg) (base := base) F1 Z_str Z_isinstance Z_len M_MOST_LETTERS Z_all
  have G2 := zWV (P := l.prog) (w := w) (mg := mg) (base := base) F2 G0 m0 k0 b0 Z_abs G1 m1 k1 b1
  have G3 := zWX (P := l.prog) (w := w) (mg := mg) (base := base) F3 Z_tuple Z_isinstance Z_len
  have G4 := zKV (P := l.prog) (w := w) (mg := mg) (base := base) F4 G0 m0 k0 b0
  have G5 := zWY (P := l.prog) (w := w) (mg := mg) (base := base) F5 G3 m3 k3 b3 G0 m0 k0 b0 M_MOST_WIDE G4 m4 k4 b4
  have G6 := zZM (P := l.prog) (w := w) (mg := mg) (base := base) F6 G3 m3 k3 b3 G2 m2 k2 b2 G4 m4 k4 b4 Z_len
  have G7 := zZO (P := l.prog) (w := w) (mg := mg) (base := base) F7 G3 m3 k3 b3 G6 m6 k6 b6 M_WORDS
  have G8 := zUS (P := l.prog) (w := w) (mg := mg) (base := base) F8 G3 m3 k3 b3 M_MOST_TESTS G7 m7 k7 b7 Z_all
  have G9 := zQP (P := l.prog) (w := w) (mg := mg) (base := base) F9 G3 m3 k3 b3 M_MOST_TIED G4 m4 k4 b4 Z_all
  have G10 := zXA (P := l.prog) (w := w) (mg := mg) (base := base) F10 Z_len G4 m4 k4 b4 G8 m8 k8 b8
  have G11 := zXC (P := l.prog) (w := w) (mg := mg) (base := base) F11 Z_len G4 m4 k4 b4 Z_all G8 m8 k8 b8
  have G12 := yDF (P := l.prog) (w := w) (mg := mg) (base := base) F12 Z_len G4 m4 k4 b4 G9 m9 k9 b9
  have G13 := zZQ (P := l.prog) (w := w) (mg := mg) (base := base) F13 Z_tuple Z_isinstance Z_len G10 m10 k10 b10 G11 m11 k11 b11 G12 m12 k12 b12
  have G14 := yDG (P := l.prog) (w := w) (mg := mg) (base := base) F14 G3 m3 k3 b3 G4 m4 k4 b4 Z_len G2 m2 k2 b2 Z_all
  have G15 := zQR (P := l.prog) (w := w) (mg := mg) (base := base) F15 Z_len M_MOST_TABLES M_MOST_RULES M_MOST_ROWS
  have G16 := zOH (P := l.prog) (w := w) (mg := mg) (base := base) F16 Z_len Z_enumerate G5 m5 k5 b5
  have G17 := zQS (P := l.prog) (w := w) (mg := mg) (base := base) F17 Z_enumerate G13 m13 k13 b13
  have G18 := zRQ (P := l.prog) (w := w) (mg := mg) (base := base) F18 Z_enumerate G14 m14 k14 b14
  have G19 := zZS (P := l.prog) (w := w) (mg := mg) (base := base) F19 G15 m15 k15 b15 G16 m16 k16 b16 G17 m17 k17 b17 G18 m18 k18 b18 Z_tuple
  have G20 := zOJ (P := l.prog) (w := w) (mg := mg) (base := base) F20 Z_len
  have G21 := zXD (P := l.prog) (w := w) (mg := mg) (base := base) F21
  have G22 := zUT (P := l.prog) (w := w) (mg := mg) (base := base) F22 Z_range
  have G23 := zUU (P := l.prog) (w := w) (mg := mg) (base := base) F23 G21 m21 k21 b21 G22 m22 k22 b22 Z_len
  have G24 := zRS (P := l.prog) (w := w) (mg := mg) (base := base) F24 m24 k24 b24 Z_str Z_isinstance Z_int Z_bool Z_list Z_tuple Z_len Z_zip Z_all 8
  have G25 := zQT (P := l.prog) (w := w) (mg := mg) (base := base) F25 G21 m21 k21 b21 Z_range Z_tuple
  have G26 := zXE (P := l.prog) (w := w) (mg := mg) (base := base) F26 G21 m21 k21 b21 Z_len Z_range Z_tuple
  have G27 := zUV (P := l.prog) (w := w) (mg := mg) (base := base) F27 G26 m26 k26 b26 Z_tuple
  have G28 := zUW (P := l.prog) (w := w) (mg := mg) (base := base) F28
  have G29 := zUX (P := l.prog) (w := w) (mg := mg) (base := base) F29 G28 m28 k28 b28 Z_len
  have G30 := zRT (P := l.prog) (w := w) (mg := mg) (base := base) F30 Z_range G28 m28 k28 b28 G29 m29 k29 b29 Z_tuple
  have G31 := zUY (P := l.prog) (w := w) (mg := mg) (base := base) F31 G21 m21 k21 b21 G28 m28 k28 b28 Z_len G30 m30 k30 b30 Z_range Z_tuple
  have G32 := yOB (P := l.prog) (w := w) (mg := mg) (base := base) F32 G23 m23 k23 b23 G20 m20 k20 b20 G25 m25 k25 b25 Z_range G31 m31 k31 b31 Z_tuple G27 m27 k27 b27 Z_list G19 m19 k19 b19 G24 m24 k24 b24
  exact G32.imp fun vs H Q E => yFV (g := ⟨K, mg, l.prog, w⟩) vs H Q E
theorem walk {l : PySem.W.OpenLaw} {q : Program} {loose : List Str} {XP : (Str → Option Value) → Heap → Prop} {YP : World → Heap → Prop} {d : DefRec} {K : Params → PySem.W.Frag} (hn : l.most = some 63) (hdf : d.params.defaults = [])
    (hY : ∀ (w : World) (h : Heap), YP w h → (K w.params).In h)
    (F : ∀ (w : World) (mg : Str → Option Value) (fa : Addr) (h : Heap), (K w.params).In h → h.Ns mainGlobals mg → mg d.name = some (.ref fa) →
      ∃ fd : FuncData, (∀ (s : Shared) (u : Value), BindsTo s fd ⟨[u], []⟩ [("_law_script", u)]) ∧ ∀ base : Heap, (K w.params).In base → base.Ns mainGlobals mg → FnOk l.prog w (K w.params) mg base CX0 10 fa fd ["_law_script"] (zWF (K w.params) zTA)) :
    PySem.W.WalkO q loose XP YP l.row.toRowW d [] (fun f vs => PySem.call f vs) :=
  L2.walk_of (n := 63) (k := 10) (x := "_law_script") (CX := fun _ => CX0) (sp := fun w => zWF (K w.params) zTA) hn (by decide) hdf ⟨rfl, by decide, by decide⟩ hY F
    (fun w H a ns hl hO hS => yFW hO hS (yGY ns hl)) fun _ _ _ _ _ z => z
end My
end M
end L2
open PySem PySem.W PyProof.Rows
-- two names that the head would else fill with long equations of the heap, which it can do without (size alone)
noncomputable def PySem.W.Fast.tw15624408059540034506 : PySem.Params → PySem.Heap := fun P => { PySem.W.boot_heap P with objs := #[] }
theorem PySem.W.Fast.te15624408059540034506 : PySem.W.Fast.tw15624408059540034506 = PySem.W.Fast.tw15624408059540034506 := rfl
noncomputable def PySem.W.Fast.tw14603912615169813762 : PySem.Params → PySem.Heap := fun P => { PySem.W.boot_heap P with objs := #[] }
theorem PySem.W.Fast.te14603912615169813762 : PySem.W.Fast.tw14603912615169813762 = PySem.W.Fast.tw14603912615169813762 := rfl
set_option maxRecDepth 100000 in
set_option maxHeartbeats 0 in
theorem PySem.Challenge.cw_mendsure_k06_a_book_as_handed_in_holds : PySem.Challenge.rw_mendsure_k06_a_book_as_handed_in.Holds := by
  w_on; o_law; k_head; (case hw => w_witness2)
  k_fill
  refine L2.M.My.walk (l := PySem.Challenge.rw_mendsure_k06_a_book_as_handed_in) rfl rfl (fun w h Y => PySem.W.kIn_of Y) ?F
  case F =>
    intro w mg fa h KX G hmg
    refine' L2.M.My.all_mk KX G hmg ?a0 ?l0 ?c0 ?k0 ?a1 ?l1 ?c1 ?k1 ?a2 ?l2 ?c2 ?k2 ?a3 ?l3 ?c3 ?k3 ?a4 ?l4 ?c4 ?k4 ?a5 ?l5 ?c5 ?k5 ?a6 ?l6 ?c6 ?k6 ?a7 ?l7 ?c7 ?k7 ?a8 ?l8 ?c8 ?k8 ?a9 ?l9 ?c9 ?k9 ?a10 ?l10 ?c10 ?k10 ?a11 ?l11 ?c11 ?k11 ?a12 ?l12 ?c12 ?k12 ?a13 ?l13 ?c13 ?k13 ?a14 ?l14 ?c14 ?k14 ?a15 ?l15 ?c15 ?k15 ?a16 ?l16 ?c16 ?k16 ?a17 ?l17 ?c17 ?k17 ?a18 ?l18 ?c18 ?k18 ?a19 ?l19 ?c19 ?k19 ?a20 ?l20 ?c20 ?k20 ?a21 ?l21 ?c21 ?k21 ?a22 ?l22 ?c22 ?k22 ?a23 ?l23 ?c23 ?k23 ?a24 ?l24 ?c24 ?k24 ?a25 ?l25 ?c25 ?k25 ?a26 ?l26 ?c26 ?k26 ?a27 ?l27 ?c27 ?k27 ?a28 ?l28 ?c28 ?k28 ?a29 ?l29 ?c29 ?k29 ?a30 ?l30 ?c30 ?k30 ?a31 ?l31 ?c31 ?k31 ?a32 ?l32 ?c32 ?k32 ?jS ?dX ?bT ?gD ?bW ?dW ?dY ?zMN ?zVA ?zML ?zXO ?zBO ?zKW ?wJ ?zOB ?zR ?yY ?dE ?wO ?zOE ?yQ ?zXF
    (case a0 => k_is)
    (case l0 => k_is)
    (case c0 => k_is)
    (case k0 => k_is)
    (case a1 => k_is)
    (case l1 => k_is)
    (case c1 => k_is)
    (case k1 => k_is)
    (case a2 => k_is)
    (case l2 => k_is)
    (case c2 => k_is)
    (case k2 => k_is)
    (case a3 => k_is)
    (case l3 => k_is)
    (case c3 => k_is)
    (case k3 => k_is)
    (case a4 => k_is)
    (case l4 => k_is)
    (case c4 => k_is)
    (case k4 => k_is)
    (case a5 => k_is)
    (case l5 => k_is)
    (case c5 => k_is)
    (case k5 => k_is)
    (case a6 => k_is)
    (case l6 => k_is)
    (case c6 => k_is)
    (case k6 => k_is)
    (case a7 => k_is)
    (case l7 => k_is)
    (case c7 => k_is)
    (case k7 => k_is)
    (case a8 => k_is)
    (case l8 => k_is)
    (case c8 => k_is)
    (case k8 => k_is)
    (case a9 => k_is)
    (case l9 => k_is)
    (case c9 => k_is)
    (case k9 => k_is)
    (case a10 => k_is)
    (case l10 => k_is)
    (case c10 => k_is)
    (case k10 => k_is)
    (case a11 => k_is)
    (case l11 => k_is)
    (case c11 => k_is)
    (case k11 => k_is)
    (case a12 => k_is)
    (case l12 => k_is)
    (case c12 => k_is)
    (case k12 => k_is)
    (case a13 => k_is)
    (case l13 => k_is)
    (case c13 => k_is)
    (case k13 => k_is)
    (case a14 => k_is)
    (case l14 => k_is)
    (case c14 => k_is)
    (case k14 => k_is)
    (case a15 => k_is)
    (case l15 => k_is)
    (case c15 => k_is)
    (case k15 => k_is)
    (case a16 => k_is)
    (case l16 => k_is)
    (case c16 => k_is)
    (case k16 => k_is)
    (case a17 => k_is)
    (case l17 => k_is)
    (case c17 => k_is)
    (case k17 => k_is)
    (case a18 => k_is)
    (case l18 => k_is)
    (case c18 => k_is)
    (case k18 => k_is)
    (case a19 => k_is)
    (case l19 => k_is)
    (case c19 => k_is)
    (case k19 => k_is)
    (case a20 => k_is)
    (case l20 => k_is)
    (case c20 => k_is)
    (case k20 => k_is)
    (case a21 => k_is)
    (case l21 => k_is)
    (case c21 => k_is)
    (case k21 => k_is)
    (case a22 => k_is)
    (case l22 => k_is)
    (case c22 => k_is)
    (case k22 => k_is)
    (case a23 => k_is)
    (case l23 => k_is)
    (case c23 => k_is)
    (case k23 => k_is)
    (case a24 => k_is)
    (case l24 => k_is)
    (case c24 => k_is)
    (case k24 => k_is)
    (case a25 => k_is)
    (case l25 => k_is)
    (case c25 => k_is)
    (case k25 => k_is)
    (case a26 => k_is)
    (case l26 => k_is)
    (case c26 => k_is)
    (case k26 => k_is)
    (case a27 => k_is)
    (case l27 => k_is)
    (case c27 => k_is)
    (case k27 => k_is)
    (case a28 => k_is)
    (case l28 => k_is)
    (case c28 => k_is)
    (case k28 => k_is)
    (case a29 => k_is)
    (case l29 => k_is)
    (case c29 => k_is)
    (case k29 => k_is)
    (case a30 => k_is)
    (case l30 => k_is)
    (case c30 => k_is)
    (case k30 => k_is)
    (case a31 => k_is)
    (case l31 => k_is)
    (case c31 => k_is)
    (case k31 => k_is)
    (case a32 => k_is)
    (case l32 => k_is)
    (case c32 => k_is)
    (case k32 => k_is)
    (case jS => k_is)
    (case dX => k_is)
    (case bT => k_is)
    (case gD => k_is)
    (case bW => k_is)
    (case dW => k_is)
    (case dY => k_is)
    (case zMN => k_is)
    (case zVA => k_is)
    (case zML => exact ⟨rfl, by decide, .cons ⟨_, rfl⟩ (.cons ⟨_, rfl⟩ (.cons ⟨_, rfl⟩ (.nil)))⟩)
    (case zXO => k_is)
    (case zBO => k_is)
    (case zKW => k_is)
    (case wJ => k_is)
    (case zOB => k_is)
    (case zR => k_is)
    (case yY => k_is)
    (case dE => k_is)
    (case wO => k_is)
    (case zOE => k_is)
    (case yQ => k_is)
    (case zXF => k_is)
