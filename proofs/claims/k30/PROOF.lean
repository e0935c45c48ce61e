import PyProof.Rows.All
import Wide.All
import OpenK.AllK
import Wide.FinOn
import Lean
import PyProof.EqAt
import PyProof.EqKinds
import PyProof.TupleCall
import PySem.Challenge.RW_mendsure_k30_a_question_as_handed_in
set_option Elab.async false
set_option linter.all false
set_option maxRecDepth 100000
namespace L2
open PySem PySem.Spec PyProof.Rows
abbrev Key := Sum Int Str
def keyIs : Key → Value → Bool
  | .inl k, v => Value.isInt k v
  | .inr x, v => Value.isStrOf x v
def keyH (w : World) : Key → Int
  | .inl k => hashInt k
  | .inr x => hashStr w x
theorem keyIs_shape : ∀ {k : Key} {v : Value}, keyIs k v = true → (∃ i t, k = Sum.inl i ∧ v = Value.int i t) ∨ (∃ x t, k = Sum.inr x ∧ v = Value.str x t)
  | .inl i, v, h => by
    obtain ⟨t, e⟩ := Value.isInt_shape (k := i) (v := v) h
    exact .inl ⟨i, t, rfl, e⟩
  | .inr x, v, h => by
    obtain ⟨t, e⟩ := Value.isStrOf_shape (x := x) (v := v) h
    exact .inr ⟨x, t, rfl, e⟩
theorem keyIs_str (x : Str) (t : Tok) : keyIs (.inr x) (.str x t) = true := by simp [keyIs, Value.isStrOf]
theorem key_ll (a b : Int) : decide ((Sum.inl a : Key) = Sum.inl b) = (a == b) := by
  by_cases e : a = b
  · subst e; simp
  · have h : ¬ (Sum.inl a : Key) = Sum.inl b := fun q => e (Sum.inl.inj q)
    rw [decide_eq_false h]
    exact (beq_eq_false_iff_ne.mpr e).symm
theorem key_rr (a b : Str) : decide ((Sum.inr a : Key) = Sum.inr b) = decide (a = b) := by
  by_cases e : a = b
  · subst e; simp
  · have h : ¬ (Sum.inr a : Key) = Sum.inr b := fun q => e (Sum.inr.inj q)
    rw [decide_eq_false h, decide_eq_false e]
theorem key_lr (a : Int) (b : Str) : decide ((Sum.inl a : Key) = Sum.inr b) = false := decide_eq_false (fun q => nomatch q)
theorem key_rl (a : Str) (b : Int) : decide ((Sum.inr a : Key) = Sum.inl b) = false := decide_eq_false (fun q => nomatch q)
def mixKind (prog : Program) (w : World) : PySem.KeyKind prog w Key where
  is := keyIs
  hash := keyH w
  inj := fun v a b ha hb => by
    rcases keyIs_shape ha with ⟨i, t, rfl, rfl⟩ | ⟨x, t, rfl, rfl⟩
    · rcases keyIs_shape hb with ⟨j, u, rfl, e⟩ | ⟨y, u, rfl, e⟩
      · injection e with e1 _; rw [e1]
      · exact nomatch e
    · rcases keyIs_shape hb with ⟨j, u, rfl, e⟩ | ⟨y, u, rfl, e⟩
      · exact nomatch e
      · injection e with e1 _; rw [e1]
  byValue := fun k v h => by
    rcases keyIs_shape h with ⟨i, t, rfl, rfl⟩ | ⟨x, t, rfl, rfl⟩ <;> rfl
  pyHash := fun hv h => by
    rcases keyIs_shape hv with ⟨i, t, rfl, rfl⟩ | ⟨x, t, rfl, rfl⟩
    · exact wpAny_pyHash_int h
    · exact wpAny_pyHash_str h
  eqBool := fun hu hv h => by
    rcases keyIs_shape hu with ⟨i, t, rfl, rfl⟩ | ⟨x, t, rfl, rfl⟩
    · rcases keyIs_shape hv with ⟨j, u, rfl, rfl⟩ | ⟨y, u, rfl, rfl⟩
      · rw [key_ll] at h; exact wpAny_eqBool_int h
      · rw [key_lr] at h; exact SeqAt.EqAt.int_str i t y u _ _ _ _ h
    · rcases keyIs_shape hv with ⟨j, u, rfl, rfl⟩ | ⟨y, u, rfl, rfl⟩
      · rw [key_rl] at h; exact SeqAt.EqAt.str_int x t j u _ _ _ _ h
      · rw [key_rr] at h; exact wpAny_eqBool_str h
  «strs» := fun k x t v h => by
    rcases keyIs_shape h with ⟨i, u, rfl, e⟩ | ⟨y, u, rfl, e⟩
    · exact nomatch e
    · injection e with e1 _
      subst e1
      cases v <;> rfl
theorem mixKind_str (prog : Program) (w : World) (x : Str) (t : Tok) : (mixKind prog w).is (.inr x) (.str x t) = true := keyIs_str x t
end L2
namespace L2
open PySem PySem.Spec PyProof.Rows
inductive V where
  | non | bl (b : Bool) | int (i : Int) | str (x : Str) | byt (b : Array UInt8) | flt (b : UInt64) | ref (a : Addr) | ty (n : String)
  deriving DecidableEq
def RelV : V → Value → Prop
  | .non, u => u = Value.none
  | .bl b, u => u = Value.bool b
  | .int i, u => ∃ t, u = Value.int i t
  | .str x, u => ∃ t, u = Value.str x t
  | .byt b, u => ∃ t, u = Value.bytes b t
  | .flt b, u => ∃ t, u = Value.float b t
  | .ref a, u => u = Value.ref a
  | .ty n, u => u = Value.type n
abbrev Vals : List V → List Value → Prop := Paired RelV
theorem Vals.length {xs : List V} {us : List Value} (r : Vals xs us) : xs.length = us.length := Paired.length r
theorem Vals.get : ∀ {xs : List V} {us : List Value} {i : Nat} {x : V}, Vals xs us → xs[i]? = some x → ∃ u, us[i]? = some u ∧ RelV x u
  | _, _, _, _, .nil, e => by simp at e
  | _, _, 0, _, .cons r _, e => by simp at e; subst e; exact ⟨_, rfl, r⟩
  | _, _, i + 1, x, .cons _ t, e => by
    obtain ⟨u, h1, h2⟩ := Vals.get (i := i) (x := x) t (by simpa using e)
    exact ⟨u, by simpa using h1, h2⟩
theorem Vals.set {x : V} {u : Value} (r : RelV x u) : ∀ {xs : List V} {us : List Value} (i : Nat), Vals xs us → Vals (xs.set i x) (us.set i u)
  | _, _, _, .nil => .nil
  | _, _, 0, .cons _ t => .cons r t
  | _, _, i + 1, .cons q t => .cons q (Vals.set r i t)
theorem Vals.append : ∀ {xs ys : List V} {us ws : List Value}, Vals xs us → Vals ys ws → Vals (xs ++ ys) (us ++ ws)
  | _, _, _, _, .nil, s => s
  | _, _, _, _, .cons r t, s => .cons r (Vals.append t s)
theorem Vals.take : ∀ {xs : List V} {us : List Value} (n : Nat), Vals xs us → Vals (xs.take n) (us.take n)
  | _, _, 0, _ => .nil
  | _, _, _ + 1, .nil => .nil
  | _, _, n + 1, .cons r t => .cons r (Vals.take n t)
theorem Vals.drop : ∀ {xs : List V} {us : List Value} (n : Nat), Vals xs us → Vals (xs.drop n) (us.drop n)
  | _, _, 0, r => r
  | _, _, _ + 1, .nil => .nil
  | _, _, n + 1, .cons _ t => Vals.drop n t
def RelO : Option V → Option Value → Prop
  | some v, some u => RelV v u
  | none, none => True
  | _, _ => False
def KV {κ : Type} : List (κ × V) → List (κ × Value) → Prop := Paired fun (p : κ × V) (q : κ × Value) => p.1 = q.1 ∧ RelV p.2 q.2
def kV : Key → V
  | .inl i => .int i
  | .inr x => .str x
inductive HO where
  | lst (xs : List V)
  | tup (xs : List V)
  | dK (kvs : List (Key × V)) | dT (kvs : List (List Key × V))
  | set (S : Int → Bool) (n : Nat)
  | ins (C dx : Addr) (fs : List (Str × V))
  | own (x : Addr)
  | xd (fs : List (Str × V))
  | met (f x : Addr)
  | rng (lo hi : Int)
  | frz (o : Obj) (u : HO)
  | tbl (ps : Array Value)
  | ext (φ : Heap → Prop)
abbrev Hp := Addr → Option HO
def upd (H : Hp) (a : Addr) (o : HO) : Hp := fun b => if b = a then some o else H b
theorem upd_same {H : Hp} {a : Addr} {o : HO} : upd H a o a = some o := by unfold upd; rw [if_pos rfl]
theorem upd_ne {H : Hp} {a b : Addr} {o : HO} (h : b ≠ a) : upd H a o b = H b := by unfold upd; rw [if_neg h]
theorem ne_of_none {H : Hp} {a b : Addr} {o : HO} (h : H a = some o) (h' : H b = none) : a ≠ b := by
  intro e; subst e; rw [h] at h'; cases h'
section
variable (P : Program) (w : World)
def ObjOk (H : Hp) (h : Heap) (a : Addr) : HO → Prop
  | .lst xs => xs.length ≤ sizeLine ∧ ∃ (its : List Value) (n : Nat), Vals xs its ∧ h.get? a = some { cls := .type "list", data := .seq its.toArray n }
  | .tup xs => xs.length ≤ sizeLine ∧ ∃ its : List Value, Vals xs its ∧ IsTup h a its.toArray
  | .dK kvs => kvs.length ≤ sizeLine ∧ (a == sysModules) = false ∧ ∃ vs, KV kvs vs ∧ h.DictOf (mixKind P w) a vs
  | .dT kvs => kvs.length ≤ sizeLine ∧ (a == sysModules) = false ∧ ∃ xs : List (List Key × Addr × Value),
      Paired (fun (p : List Key × V) (q : List Key × Addr × Value) => p.1 = q.1 ∧ H q.2.1 = some (.tup (p.1.map kV)) ∧ RelV p.2 q.2.2) kvs xs ∧
      ∃ o es ep, h.get? a = some o ∧ o.ExactDict ∧ o.data = .dict es ep ∧ es.toList = xs.map (entryOfKey (tupleKind (mixKind P w))) ∧ (xs.map (·.1)).Nodup
  | .set S n => h.SetOf (intKind P w) a S n
  | .ins C dx fs => H dx = some (.own a) ∧ fs.length ≤ 1000 ∧ dx ≠ a ∧ h.get? a = some (PySem.W.instObj C dx) ∧
      ∃ mA, h.Ns1 dx mA ∧ (∀ f, RelO (fs.lookup f) (mA f)) ∧ PySem.Within mA (fs.map (·.1))
  | .own _ => ∃ o, h.get? a = some o
  | .xd fs => ∃ mA, h.Ns1 a mA ∧ ∀ f, RelO (fs.lookup f) (mA f)
  | .rng lo hi => ∃ t u v, h.get? a = some { cls := .type "range", data := .fields #[.int lo t, .int hi u, .int 1 v] }
  | .frz o u => h.get? a = some o ∧ ObjOk H h a u
  | .tbl ps => h.get? a = some { cls := .none, data := .fields ps }
  | .met f x => h.get? a = some (PySem.W.methodObj (.ref f) (.ref x))
  | .ext φ => φ h ∧ (∃ o, h.get? a = some o) ∧ ∀ h1 h2 : Heap, φ h1 → (∀ o, h1.get? a = some o → h2.get? a = some o) → φ h2
def HOk (H : Hp) (h : Heap) : Prop := ∀ a o, H a = some o → ObjOk P w H h a o
end
section
variable {P : Program} {w : World} {H H' : Hp} {h h' : Heap} {a : Addr} {o : HO}
theorem ObjOk.lt (x : ObjOk P w H h a o) : a < h.objs.size := by
  cases o with
  | lst xs => obtain ⟨_, _, _, _, e⟩ := x; exact Heap.lt_size e
  | tup xs => obtain ⟨_, _, _, p⟩ := x; exact p.lt
  | dK kvs => obtain ⟨_, _, _, _, o, _, _, e, _⟩ := x; exact Heap.lt_size e
  | dT kvs => obtain ⟨_, _, _, _, o, _, _, e, _⟩ := x; exact Heap.lt_size e
  | set S n => obtain ⟨o, _, _, _, e, _⟩ := x; exact Heap.lt_size e
  | ins C dx fs => obtain ⟨_, _, _, e, _⟩ := x; exact Heap.lt_size e
  | own y => obtain ⟨_, e⟩ := x; exact Heap.lt_size e
  | xd fs => obtain ⟨_, ⟨_, _, _, e, _⟩, _⟩ := x; exact Heap.lt_size e
  | rng lo hi => obtain ⟨_, _, _, e⟩ := x; exact Heap.lt_size e
  | frz ob u => obtain ⟨e, _⟩ := x; exact Heap.lt_size e
  | tbl ps => exact Heap.lt_size (show h.get? a = some _ from x)
  | met f y => exact Heap.lt_size (show h.get? a = some _ from x)
  | ext φ => obtain ⟨_, ⟨_, e⟩, _⟩ := x; exact Heap.lt_size e
theorem Paired.mapP {α β : Type} {F G : α → β → Prop} : ∀ {l₁ : List α} {l₂ : List β}, Paired F l₁ l₂ → (∀ a b, F a b → G a b) → Paired G l₁ l₂
  | _, _, .nil, _ => .nil
  | _, _, .cons r t, f => .cons (f _ _ r) (Paired.mapP t f)
theorem ObjOk.stay (x : ObjOk P w H h a o) (k : ∀ b u, (b = a ∨ H b = some (.own a)) → h.get? b = some u → h'.get? b = some u)
    (ho : ∀ b, H b = some (.own a) → H' b = some (.own a)) (ht : ∀ b xs, H b = some (.tup xs) → H' b = some (.tup xs)) : ObjOk P w H' h' a o := by
  induction o with
  | lst xs => obtain ⟨z, its, n, r, e⟩ := x; exact ⟨z, its, n, r, k _ _ (.inl rfl) e⟩
  | tup xs => obtain ⟨z, its, r, ob, e, c⟩ := x; exact ⟨z, its, r, ob, k _ _ (.inl rfl) e, c⟩
  | dK kvs => obtain ⟨z, y, vs, r, ob, es, ep, e, c⟩ := x; exact ⟨z, y, vs, r, ob, es, ep, k _ _ (.inl rfl) e, c⟩
  | dT kvs =>
    obtain ⟨z, y, xs, r, ob, es, ep, e, c⟩ := x
    exact ⟨z, y, xs, Paired.mapP r fun p q z => ⟨z.1, ht _ _ z.2.1, z.2.2⟩, ob, es, ep, k _ _ (.inl rfl) e, c⟩
  | set S n => obtain ⟨ob, es, ep, t, e, c⟩ := x; exact ⟨ob, es, ep, t, k _ _ (.inl rfl) e, c⟩
  | ins C dx fs =>
    obtain ⟨d, z, ne, e, mA, ⟨od, es, ep, e2, c⟩, r⟩ := x
    exact ⟨ho _ d, z, ne, k _ _ (.inl rfl) e, mA, ⟨od, es, ep, k _ _ (.inr d) e2, c⟩, r⟩
  | own y => obtain ⟨ob, e⟩ := x; exact ⟨ob, k _ _ (.inl rfl) e⟩
  | xd fs => obtain ⟨mA, ⟨od, es, ep, e, c⟩, r⟩ := x; exact ⟨mA, ⟨od, es, ep, k _ _ (.inl rfl) e, c⟩, r⟩
  | rng lo hi => obtain ⟨t, u, v, e⟩ := x; exact ⟨t, u, v, k _ _ (.inl rfl) e⟩
  | frz ob u ih => obtain ⟨e, q⟩ := x; exact ⟨k _ _ (.inl rfl) e, ih q⟩
  | tbl ps =>
    have e : h.get? a = some { cls := .none, data := .fields ps } := x
    show h'.get? a = some { cls := .none, data := .fields ps }
    exact k a _ (.inl rfl) e
  | met f y =>
    have e : h.get? a = some (PySem.W.methodObj (.ref f) (.ref y)) := x
    show h'.get? a = some (PySem.W.methodObj (.ref f) (.ref y))
    exact k a _ (.inl rfl) e
  | ext φ => obtain ⟨p, ⟨o, e⟩, st⟩ := x; exact ⟨st _ _ p fun o q => k _ _ (.inl rfl) q, ⟨o, k _ _ (.inl rfl) e⟩, st⟩
theorem HOk.lt (x : HOk P w H h) (e : H a = some o) : a < h.objs.size := (x a o e).lt
theorem HOk.fresh (x : HOk P w H h) (e : h.objs.size ≤ a) : H a = none := by
  cases q : H a with
  | none => rfl
  | some u => exact absurd (Nat.lt_of_lt_of_le (x.lt q) e) (Nat.lt_irrefl _)
theorem HOk.kept (x : HOk P w H h) (k : ∀ b u, h.get? b = some u → h'.get? b = some u) : HOk P w H h' := fun a o e =>
  (x a o e).stay (fun b u _ q => k b u q) (fun _ q => q) fun _ _ q => q
theorem HOk.laid (x : HOk P w H h) (k : ∀ b u, h.get? b = some u → h'.get? b = some u) (hp : h.objs.size ≤ a) (new : ObjOk P w (upd H a o) h' a o) : HOk P w (upd H a o) h' := fun b u e => by
  have hn := x.fresh hp
  by_cases hb : b = a
  · subst hb; rw [upd_same] at e; cases e; exact new
  · rw [upd_ne hb] at e
    exact (x b u e).stay (fun c v _ q => k c v q) (fun c q => by rw [upd_ne (ne_of_none q hn)]; exact q) fun c xs q => by rw [upd_ne (ne_of_none q hn)]; exact q
end
def Rd (H : Hp) (a : Addr) (u : HO) : Prop := H a = some u ∨ ∃ o, H a = some (.frz o u)
theorem Rd.ok {P : Program} {w : World} {H : Hp} {h : Heap} {a : Addr} {u : HO} (r : Rd H a u) (x : HOk P w H h) : ObjOk P w H h a u := by
  rcases r with r | ⟨o, r⟩
  · exact x a u r
  · obtain ⟨_, q⟩ := x a _ r
    exact q
def Mut : Option HO → Prop
  | some (.lst _) => True
  | some (.dK _) => True
  | some (.dT _) => True
  | some (.set _ _) => True
  | some (.ins _ _ _) => True
  | some (.ext _) => True
  | _ => False
section
variable {P : Program} {w : World} {H : Hp} {h h' : Heap} {x e : Addr} {o' : HO}
theorem HOk.write (ok : HOk P w H h) (mu : Mut (H x)) (he : e = x ∨ H e = some (.own x)) (k : ∀ b u, b ≠ e → h.get? b = some u → h'.get? b = some u) (heo : ∃ u, h'.get? e = some u)
    (new : ObjOk P w (upd H x o') h' x o') : HOk P w (upd H x o') h' := fun b u q => by
  have nown : ∀ c y, H c = some (.own y) → c ≠ x := fun c y r z => by subst z; rw [r] at mu; exact mu
  have ntup : ∀ c xs, H c = some (.tup xs) → c ≠ x := fun c xs r z => by subst z; rw [r] at mu; exact mu
  by_cases hb : b = x
  · subst hb; rw [upd_same] at q; cases q; exact new
  · rw [upd_ne hb] at q
    by_cases hbe : b = e
    · have q' : H b = some (.own x) := by
        rcases he with z | z
        · exact absurd (hbe.trans z) hb
        · rw [hbe]; exact z
      rw [q] at q'; cases q'
      obtain ⟨v, hv⟩ := heo
      exact ⟨v, by rw [hbe]; exact hv⟩
    · refine (ok b u q).stay (fun c v hc r => k c v ?_ r) (fun c r => by rw [upd_ne (nown c b r)]; exact r) fun c xs r => by rw [upd_ne (ntup c xs r)]; exact r
      rcases hc with rfl | hc
      · exact hbe
      · rintro rfl
        rcases he with z | z
        · exact nown c b hc z
        · rw [hc] at z; cases z; exact hb rfl
end
structure Un (fs ex : List Addr) (H H' : Hp) (h h' : Heap) : Prop where
  keep : ∀ b o, h.get? b = some o → H b = none → b ∉ fs → b ∉ ex → h'.get? b = some o
  slot : ∀ b o, h.get? b = some o → H b = none → b ∈ fs → b ∉ ex → ∃ sl, h'.get? b = some { o with slots := sl }
  free : ∀ b o, h.get? b = some o → H b = none → b ∉ ex → H' b = none
  there : ∀ b o, h.get? b = some o → b ∉ ex → ∃ o', h'.get? b = some o'
  tups : ∀ b xs, H b = some (.tup xs) → H' b = some (.tup xs)
  frzs : ∀ b o u, H b = some (.frz o u) → H' b = some (.frz o u)
  tbls : ∀ b ps, H b = some (.tbl ps) → ∃ more, H' b = some (.tbl (ps ++ more))
section
variable {fs fs' ex ex' : List Addr} {H H1 H2 : Hp} {h h1 h2 h' : Heap} {a x e : Addr} {o : HO}
theorem Un.any (u : Un fs ex H H1 h h1) {b : Addr} {ob : Obj} (q : h.get? b = some ob) (n : H b = none) (hx : b ∉ ex) : ∃ sl, h1.get? b = some { ob with slots := sl } := by
  by_cases hb : b ∈ fs
  · exact u.slot b ob q n hb hx
  · exact ⟨ob.slots, u.keep b ob q n hb hx⟩
theorem Un.kept (k : ∀ b u, h.get? b = some u → h'.get? b = some u) : Un fs ex H H h h' :=
  ⟨fun b ob q _ _ _ => k b ob q, fun b ob q _ _ _ => ⟨ob.slots, k b ob q⟩, fun _ _ _ n _ => n, fun b ob q _ => ⟨ob, k b ob q⟩, fun _ _ q => q, fun _ _ _ q => q, fun _ ps q => ⟨#[], by rw [q]; simp⟩⟩
theorem Un.refl : Un fs ex H H h h := Un.kept fun _ _ q => q
theorem Un.laid (k : ∀ b u, h.get? b = some u → h'.get? b = some u) (hp : h.objs.size ≤ a) (hn : H a = none) : Un fs ex H (upd H a o) h h' where
  keep := fun b u q _ _ _ => k b u q
  slot := fun b u q _ _ _ => ⟨u.slots, k b u q⟩
  free := fun b u q n _ => by rw [upd_ne (Nat.ne_of_lt (Nat.lt_of_lt_of_le (Heap.lt_size q) hp))]; exact n
  there := fun b u q _ => ⟨u, k b u q⟩
  tups := fun b xs q => by rw [upd_ne (ne_of_none q hn)]; exact q
  frzs := fun b u xs q => by rw [upd_ne (ne_of_none q hn)]; exact q
  tbls := fun b ps q => ⟨#[], by rw [upd_ne (ne_of_none q hn), q]; simp⟩
theorem Un.write (mu : Mut (H x)) (he : e = x ∨ H e = some (.own x)) (k : ∀ b u, b ≠ e → h.get? b = some u → h'.get? b = some u) (heo : ∃ u, h'.get? e = some u) : Un fs ex H (upd H x o) h h' := by
  have hx : ∀ b, H b = none → b ≠ x := fun b n z => by subst z; rw [n] at mu; exact mu
  have hb : ∀ b, H b = none → b ≠ e := fun b n z => by
    subst z
    rcases he with r | r
    · exact hx b n r
    · rw [n] at r; cases r
  have hm : ∀ b u, H b = some u → ¬ Mut (some u) → b ≠ x := fun b u q nm z => by subst z; rw [q] at mu; exact nm mu
  refine ⟨fun b u q n _ _ => k b u (hb b n) q, fun b u q n _ _ => ⟨u.slots, k b u (hb b n) q⟩, fun b u q n _ => by rw [upd_ne (hx b n)]; exact n, fun b u q _ => ?_,
    fun b xs q => by rw [upd_ne (hm b _ q fun z => z)]; exact q, fun b u xs q => by rw [upd_ne (hm b _ q fun z => z)]; exact q, fun b ps q => ⟨#[], by rw [upd_ne (hm b _ q fun z => z), q]; simp⟩⟩
  by_cases hbe : b = e
  · subst hbe; exact heo
  · exact ⟨u, k b u hbe q⟩
end
def trk (h : Heap) (H : Hp) : List Addr := (List.range h.objs.size).filter fun a => (H a).isSome
def hidT (h : Heap) (H : Hp) : Heap := PySem.W.hideAll h (trk h H)
theorem hidT_size (h : Heap) (H : Hp) : (hidT h H).objs.size = h.objs.size := PySem.W.hideAll_size _ _
theorem hidT_get {h : Heap} {H : Hp} {b : Addr} {o : Obj} (e : h.get? b = some o) (n : H b = none) : (hidT h H).get? b = some o :=
  PySem.W.hideAll_get _ e fun hm => by
    have q : (H b).isSome = true := (List.mem_filter.mp hm).2
    rw [n] at q; simp at q
theorem of_hidT {h : Heap} {H : Hp} {b : Addr} {o : Obj} (e : (hidT h H).get? b = some o) : h.get? b = some o ∧ H b = none := by
  have e' : h.get? b = some o := PySem.W.of_hideAll (trk h H) e
  refine ⟨e', ?_⟩
  cases q : H b with
  | none => rfl
  | some x =>
    have hm : b ∈ trk h H := List.mem_filter.mpr ⟨List.mem_range.mpr (Heap.lt_size e'), by simp [q]⟩
    have z : (hidT h H).get? b = none := PySem.W.hideAll_none (trk h H) hm
    rw [z] at e; cases e
def allNews (g h : Heap) (L : Addr) : List (Addr × Obj) := (List.range h.objs.size).filterMap fun a => if a = L ∨ (g.get? a).isSome = true then none else (h.get? a).map fun o => (a, o)
def rest (g h : Heap) (L d : Addr) : List (Addr × Obj) := (allNews g h L).filter fun p => decide (p.1 ≠ d)
end L2
namespace L2
open PySem PySem.Spec PyProof.Rows
structure Mod (K : PySem.W.Frag) (mg : Str → Option Value) (base : Heap) : Prop where
  kin : K.In base
  glob : base.Ns mainGlobals mg
  blt : ∃ mb, base.Ns builtinsNs mb ∧ ∀ x : Str, x ≠ "__name__" → mb x = bootBuiltins x
  nolimit : base.NoLimit
structure Cx where
  prog : Program
  w : World
  K : PySem.W.Frag
  mg : Str → Option Value
  base : Heap
  A : Around
  N : List Str
  s₀ : Shared
  H₀ : Hp
  env : Env
  outer : List Env
  stack : List Env
  ex : List Addr
  fn : Str → Bool
  calm : Bool
  pn : List (Addr × Obj)
  xe : Value → Shared → Prop
def frs (l : List Env) : List Addr := l.filterMap (·.frame)
abbrev Cx.fs (X : Cx) : List Addr := frs X.outer
def Vis (sc : Scope) (x : Str) : Prop := sc.names.lookup x = some .local ∨ sc.names.lookup x = some .cell ∨ sc.names.lookup x = some .free
def Loc (sc : Scope) (x : Str) : Prop := sc.names.lookup x = some .local ∨ sc.names.lookup x = some .cell
def Look (env : Env) (h : Heap) (m : Str → Option Value) (x : Str) (u : Value) : Prop :=
  (env.kindOf x = some .local ∧ m x = some u) ∨ ((env.kindOf x = some .cell ∨ env.kindOf x = some .free) ∧ ∃ c, env.cells.lookup x = some c ∧ h.IsCell c (some u))
structure Cx.Ok (X : Cx) : Prop where
  mod : Mod X.K X.mg X.base
  kind : X.env.scope.kind = .function
  glob : X.env.globals = mainGlobals
  blt : X.env.builtins = builtinsNs
  above : X.s₀.heap.objs.size ≤ X.env.locals
  inj : ∀ x y c, X.env.cells.lookup x = some c → X.env.cells.lookup y = some c → x = y
  has : ∀ x, (X.env.kindOf x = some .cell ∨ X.env.kindOf x = some .free) → ∃ c, X.env.cells.lookup x = some c
  cab : ∀ x c, X.fn x = true → X.env.cells.lookup x = some c → X.s₀.heap.objs.size ≤ c
  hd : X.calm = true → X.A.handled = none
  frames : X.A.frames = some X.stack
  stk : X.stack = X.outer ∨ (X.stack = X.env :: X.outer ∧ X.env.frame = some X.env.locals)
  exf : ∀ b ∈ X.ex, b ≠ X.env.locals ∧ ∀ x c, X.env.cells.lookup x = some c → c ≠ b
  bs : ∀ b o, X.base.get? b = some o → X.s₀.heap.get? b = some o ∧ X.H₀ b = none
  bsz : X.base.objs.size ≤ X.s₀.heap.objs.size
  noex : ∀ b o, X.base.get? b = some o → b ∉ X.ex
  exfs : ∀ b ∈ X.ex, b ∉ X.fs
  funs : X.s₀.heap.FunFrames X.base X.outer
  frf : ∀ b ∈ X.fs, X.H₀ b = none
structure Inv (X : Cx) (pins : List (Addr × Obj)) (σ : List (Option V)) (H : Hp) (s : Shared) : Prop where
  ok : X.Ok
  os : s.os = X.s₀.os
  bare : AllBare s.gens
  base : Un X.fs X.ex X.H₀ H X.s₀.heap s.heap
  loc : ∃ m, s.heap.Ns X.env.locals m ∧ ∀ (i : Nat) (x : Str) (v : V), X.N[i]? = some x → σ[i]? = some (some v) → Vis X.env.scope x → ∃ u, RelV v u ∧ Look X.env s.heap m x u
  cell : ∀ x c, X.env.cells.lookup x = some c → ∃ v, s.heap.IsCell c v
  free : H X.env.locals = none
  freeC : ∀ x c, X.env.cells.lookup x = some c → H c = none
  pin : ∀ p ∈ X.pn ++ pins, s.heap.get? p.1 = some p.2 ∧ H p.1 = none ∧ p.1 ≠ X.env.locals ∧ p.1 ∉ X.fs ∧ ∀ v, p.2.data ≠ .cell v
  hok : HOk X.prog X.w H s.heap
  len : σ.length = X.N.length
section
variable {X : Cx} {pins : List (Addr × Obj)} {σ : List (Option V)} {H H' : Hp} {s : Shared} {h' : Heap}
theorem Cx.Ok.nofr (ok : X.Ok) {b : Addr} {o : Obj} (e : X.base.get? b = some o) : b ∉ X.fs := fun hb => by
  have := (ok.funs.mem hb).1
  rw [e] at this; cases this
theorem Inv.bs (I : Inv X pins σ H s) : ∀ b o, X.base.get? b = some o → s.heap.get? b = some o ∧ H b = none := fun b o e =>
  ⟨I.base.keep b o (I.ok.bs b o e).1 (I.ok.bs b o e).2 (I.ok.nofr e) (I.ok.noex b o e), I.base.free b o (I.ok.bs b o e).1 (I.ok.bs b o e).2 (I.ok.noex b o e)⟩
theorem Inv.bk (I : Inv X pins σ H s) : ∀ b o, X.base.get? b = some o → s.heap.get? b = some o := fun b o e => (I.bs b o e).1
theorem Inv.mod (I : Inv X pins σ H s) : Mod X.K X.mg X.base := I.ok.mod
theorem Inv.kIn (I : Inv X pins σ H s) : X.K.In s.heap := I.ok.mod.kin.keeps I.bk
theorem Inv.lt (I : Inv X pins σ H s) : X.env.locals < s.heap.objs.size := let ⟨_, hn, _⟩ := I.loc; hn.lt
theorem Inv.sz (I : Inv X pins σ H s) : X.s₀.heap.objs.size ≤ s.heap.objs.size := Nat.le_trans I.ok.above (Nat.le_of_lt I.lt)
theorem Inv.nofs (I : Inv X pins σ H s) {a : Addr} (h : s.heap.objs.size ≤ a) : a ∉ X.fs := fun hb => by
  obtain ⟨_, o, ho, _⟩ := I.ok.funs.mem hb
  exact absurd (Nat.lt_of_lt_of_le (Heap.lt_size ho) (Nat.le_trans I.sz h)) (Nat.lt_irrefl _)
theorem Inv.cne (I : Inv X pins σ H s) : ∀ x c, X.env.cells.lookup x = some c → c ≠ X.env.locals := fun x c e z => by
  obtain ⟨v, o, ho, hd⟩ := I.cell x c e
  obtain ⟨m, ⟨o', es, ep, ho', hd', _⟩, _⟩ := I.loc
  rw [z, ho'] at ho; cases ho; rw [hd'] at hd; cases hd
theorem Inv.funs (I : Inv X pins σ H s) : s.heap.FunFrames X.base X.outer := by
  have all : ∀ (l : List Env), (∀ b ∈ frs l, b ∈ X.fs) → X.s₀.heap.FunFrames X.base l → s.heap.FunFrames X.base l := by
    intro l
    induction l with
    | nil => intro _ _; trivial
    | cons env r ih =>
      intro hs hl
      obtain ⟨hk, ⟨L, o, hf, hn, ho, hd⟩, hr⟩ := hl
      have hL : L ∈ X.fs := hs L (by unfold frs; rw [List.filterMap_cons, hf]; exact List.mem_cons_self)
      obtain ⟨sl, e⟩ := I.base.slot L o ho (I.ok.frf L hL) hL fun z => I.ok.exfs L z hL
      exact ⟨hk, ⟨L, _, hf, hn, e, hd⟩, ih (fun b hb => hs b (by unfold frs; rw [List.filterMap_cons, hf]; exact List.mem_cons_of_mem _ hb)) hr⟩
  exact all X.outer (fun _ hb => hb) I.ok.funs
theorem Inv.stack (I : Inv X pins σ H s) : s.heap.FunFrames X.base X.stack := by
  rcases I.ok.stk with e | ⟨e, hf⟩
  · rw [e]; exact I.funs
  · rw [e]
    obtain ⟨m, hn, _⟩ := I.loc
    refine .cons (by rw [I.ok.kind]; decide) hf hn ?_ I.funs
    exact Heap.get?_none_of_le (Nat.le_trans I.ok.bsz I.ok.above)
theorem Inv.stkSub (I : Inv X pins σ H s) : ∀ b ∈ frs X.stack, b ∈ X.env.locals :: X.fs := fun b hb => by
  rcases I.ok.stk with e | ⟨e, hf⟩
  · rw [e] at hb; exact List.mem_cons_of_mem _ hb
  · rw [e] at hb
    unfold frs at hb
    rw [List.filterMap_cons, hf] at hb
    exact hb
theorem Inv.stkFree (I : Inv X pins σ H s) : ∀ b ∈ frs X.stack, H b = none := fun b hb => by
  rcases List.mem_cons.mp (I.stkSub b hb) with e | hb
  · rw [e]; exact I.free
  · obtain ⟨_, o, ho, _⟩ := I.ok.funs.mem hb
    exact I.base.free b o ho (I.ok.frf b hb) fun z => I.ok.exfs b z hb
theorem Inv.step {g' : Array GenState} {t' : Nat} {d' : Drawn} {ch : List Addr} (I : Inv X pins σ H s)
    (hch : ∀ b ∈ ch, (b ∈ X.ex ∨ X.s₀.heap.objs.size ≤ b) ∧ b ≠ X.env.locals ∧ (∀ x c, X.env.cells.lookup x = some c → c ≠ b) ∧ ∀ p ∈ X.pn ++ pins, p.1 ≠ b)
    (keep : ∀ b o, b ≠ X.env.locals → b ∉ X.fs → b ∉ ch → s.heap.get? b = some o → H b = none → h'.get? b = some o)
    (slot : ∀ b o, b ≠ X.env.locals → b ∈ X.fs → b ∉ ch → s.heap.get? b = some o → H b = none → ∃ sl, h'.get? b = some { o with slots := sl }) (free : ∀ b o, b ∉ ch → s.heap.get? b = some o → H b = none → H' b = none)
    (there : ∀ b o, b ∉ ch → s.heap.get? b = some o → ∃ o', h'.get? b = some o')
    (tups : ∀ b xs, H b = some (.tup xs) → H' b = some (.tup xs)) (frzs : ∀ b o u, H b = some (.frz o u) → H' b = some (.frz o u)) (tbls : ∀ b ps, H b = some (.tbl ps) → ∃ more, H' b = some (.tbl (ps ++ more)))
    (ns : ∀ m, s.heap.Ns X.env.locals m → h'.Ns X.env.locals m) (hok : HOk X.prog X.w H' h') (hg : AllBare g') :
    Inv X pins σ H' { s with heap := h', gens := g', drawn := d', toks := t' } := by
  have neL : ∀ b o, X.s₀.heap.get? b = some o → b ≠ X.env.locals := fun b o e => Nat.ne_of_lt (Nat.lt_of_lt_of_le (Heap.lt_size e) I.ok.above)
  have neC : ∀ b o, X.s₀.heap.get? b = some o → b ∉ X.ex → b ∉ ch := fun b o e hx hb => by
    rcases (hch b hb).1 with z | z
    · exact hx z
    · exact absurd (Nat.lt_of_lt_of_le (Heap.lt_size e) z) (Nat.lt_irrefl _)
  have cellK : ∀ x c, X.env.cells.lookup x = some c → ∀ v, s.heap.IsCell c v → h'.IsCell c v := fun x c e v ⟨o, ho, hd⟩ => by
    have nch : c ∉ ch := fun z => (hch c z).2.2.1 x c e rfl
    by_cases hc : c ∈ X.fs
    · obtain ⟨sl, q⟩ := slot c o (I.cne x c e) hc nch ho (I.freeC x c e)
      exact ⟨_, q, hd⟩
    · exact ⟨o, keep c o (I.cne x c e) hc nch ho (I.freeC x c e), hd⟩
  refine ⟨I.ok, I.os, hg, ⟨fun b o e n hb hx => ?_, fun b o e n hb hx => ?_, fun b o e n hx => ?_, fun b o e hx => ?_, fun b xs e => tups b xs (I.base.tups b xs e), fun b o xs e => frzs b o xs (I.base.frzs b o xs e), fun b ps e => ?_⟩, ?_, fun x c e => ?_, ?_, fun x c e => ?_, fun p hp => ?_, hok, I.len⟩
  · exact keep b o (neL b o e) hb (neC b o e hx) (I.base.keep b o e n hb hx) (I.base.free b o e n hx)
  · obtain ⟨sl, e1⟩ := I.base.slot b o e n hb hx
    obtain ⟨sl', e2⟩ := slot b _ (neL b o e) hb (neC b o e hx) e1 (I.base.free b o e n hx)
    exact ⟨sl', e2⟩
  · obtain ⟨o', e1⟩ := I.base.there b o e hx
    exact free b o' (neC b o e hx) e1 (I.base.free b o e n hx)
  · obtain ⟨o', e1⟩ := I.base.there b o e hx
    exact there b o' (neC b o e hx) e1
  · obtain ⟨m1, e1⟩ := I.base.tbls b ps e
    obtain ⟨m2, e2⟩ := tbls b _ e1
    exact ⟨m1 ++ m2, by rw [e2, Array.append_assoc]⟩
  · obtain ⟨m, hn, hl⟩ := I.loc
    refine ⟨m, ns m hn, fun i x v e1 e2 e3 => ?_⟩
    obtain ⟨u, r, l⟩ := hl i x v e1 e2 e3
    refine ⟨u, r, ?_⟩
    rcases l with l | ⟨k, c, e, z⟩
    · exact .inl l
    · exact .inr ⟨k, c, e, cellK x c e _ z⟩
  · obtain ⟨v, z⟩ := I.cell x c e
    exact ⟨v, cellK x c e v z⟩
  · obtain ⟨m, ⟨o, _, _, ho, _⟩, _⟩ := I.loc
    exact free _ o (fun z => (hch _ z).2.1 rfl) ho I.free
  · obtain ⟨v, o, ho, hd⟩ := I.cell x c e
    exact free c o (fun z => (hch c z).2.2.1 x c e rfl) ho (I.freeC x c e)
  · obtain ⟨e, n, ne, nf, d⟩ := I.pin p hp
    have nch : p.1 ∉ ch := fun z => (hch p.1 z).2.2.2 p hp rfl
    exact ⟨keep p.1 p.2 ne nf nch e n, free p.1 p.2 nch e n, ne, nf, d⟩
theorem Inv.un {t' : Nat} (I : Inv X pins σ H s) (u : Un X.fs [] H H' s.heap h') (hok : HOk X.prog X.w H' h') : Inv X pins σ H' { s with heap := h', toks := t' } := by
  obtain ⟨m, ⟨o, es, ep, ho, r⟩, _⟩ := id I.loc
  obtain ⟨sl, hL⟩ := u.any ho I.free (by simp)
  exact I.step (g' := s.gens) (d' := s.drawn) (ch := []) (fun _ z => nomatch z) (fun b o _ hb _ e n => u.keep b o e n hb (by simp)) (fun b o _ hb _ e n => u.slot b o e n hb (by simp)) (fun b o _ e n => u.free b o e n (by simp)) (fun b o _ e => u.there b o e (by simp)) u.tups u.frzs u.tbls (fun m' hm => by
    obtain ⟨o', es', ep', ho', r'⟩ := hm
    rw [ho] at ho'; cases ho'
    exact ⟨_, es', ep', hL, r'⟩) hok I.bare
theorem Inv.call {g' : Array GenState} {t' : Nat} {d' : Drawn} {ch : List Addr} (I : Inv X pins σ H s) (u : Un (frs X.stack) ch H H' s.heap h') (hok : HOk X.prog X.w H' h') (hg : AllBare g')
    (hch : ∀ b ∈ ch, (b ∈ X.ex ∨ X.s₀.heap.objs.size ≤ b) ∧ b ≠ X.env.locals ∧ (∀ x c, X.env.cells.lookup x = some c → c ≠ b) ∧ ∀ p ∈ X.pn ++ pins, p.1 ≠ b) :
    Inv X pins σ H' { s with heap := h', gens := g', drawn := d', toks := t' } := by
  obtain ⟨m, ⟨o, es, ep, ho, r⟩, _⟩ := id I.loc
  obtain ⟨sl, hL⟩ := u.any ho I.free fun z => (hch _ z).2.1 rfl
  exact I.step (ch := ch) hch (fun b o hL hb hc e n => u.keep b o e n (fun z => (List.mem_cons.mp (I.stkSub b z)).elim hL hb) hc) (fun b o _ _ hc e n => u.any e n hc) (fun b o hc e n => u.free b o e n hc) (fun b o hc e => u.there b o e hc) u.tups u.frzs u.tbls (fun m' hm => by
    obtain ⟨o', es', ep', ho', r'⟩ := hm
    rw [ho] at ho'; cases ho'
    exact ⟨_, es', ep', hL, r'⟩) hok hg
theorem Inv.turned {t' : Nat} {it : Addr} (I : Inv X pins σ H s) (k : ∀ b o, b ≠ it → s.heap.get? b = some o → h'.get? b = some o) (hn : H it = none) (hL : it ≠ X.env.locals)
    (h1 : it ∈ X.ex ∨ X.s₀.heap.objs.size ≤ it) (h2 : ∀ x c, X.env.cells.lookup x = some c → c ≠ it) (h3 : ∀ p ∈ X.pn ++ pins, p.1 ≠ it) : Inv X pins σ H { s with heap := h', toks := t' } := by
  have nit : ∀ b u, H b = some u → b ≠ it := fun b u e z => by rw [z, hn] at e; cases e
  refine I.step (g' := s.gens) (d' := s.drawn) (ch := [it]) (fun b hb => ?_) (fun b o _ _ hc e _ => k b o (fun z => hc (by simp [z])) e) (fun b o _ _ hc e _ => ⟨o.slots, k b o (fun z => hc (by simp [z])) e⟩) (fun _ _ _ _ n => n)
    (fun b o hc e => ⟨o, k b o (fun z => hc (by simp [z])) e⟩) (fun _ _ e => e) (fun _ _ _ e => e) (fun b ps e => ⟨#[], by rw [e]; simp⟩) (fun m hm => ?_) (fun b u e => ?_) I.bare
  · have e : b = it := by simpa using hb
    subst e
    exact ⟨h1, hL, h2, h3⟩
  · obtain ⟨o, es, ep, ho, r⟩ := hm
    exact ⟨o, es, ep, k _ o (Ne.symm hL) ho, r⟩
  · refine (I.hok b u e).stay (fun c v hc q => k c v ?_ q) (fun _ q => q) fun _ _ q => q
    rcases hc with z | z
    · rw [z]; exact nit b u e
    · exact nit c _ z
theorem Inv.tok (I : Inv X pins σ H s) (t : Nat) : Inv X pins σ H { s with toks := t } := I.un (h' := s.heap) (t' := t) Un.refl I.hok
theorem Inv.kept {t' : Nat} (I : Inv X pins σ H s) (k : ∀ b u, s.heap.get? b = some u → h'.get? b = some u) : Inv X pins σ H { s with heap := h', toks := t' } := I.un (Un.kept k) (I.hok.kept k)
theorem Inv.laid {a : Addr} {o : HO} {t' : Nat} (I : Inv X pins σ H s) (k : ∀ b u, s.heap.get? b = some u → h'.get? b = some u) (hp : s.heap.objs.size ≤ a) (new : ObjOk X.prog X.w (upd H a o) h' a o) :
    Inv X pins σ (upd H a o) { s with heap := h', toks := t' } := I.un (Un.laid k hp (I.hok.fresh hp)) (I.hok.laid k hp new)
theorem Inv.write {x e : Addr} {o : HO} {t' : Nat} (I : Inv X pins σ H s) (mu : Mut (H x)) (he : e = x ∨ H e = some (.own x)) (k : ∀ b u, b ≠ e → s.heap.get? b = some u → h'.get? b = some u) (heo : ∃ u, h'.get? e = some u)
    (new : ObjOk X.prog X.w (upd H x o) h' x o) : Inv X pins σ (upd H x o) { s with heap := h', toks := t' } := I.un (Un.write mu he k heo) (I.hok.write mu he k heo new)
theorem Inv.pins_of {pins' : List (Addr × Obj)} (I : Inv X pins σ H s) (h : ∀ p ∈ pins', s.heap.get? p.1 = some p.2 ∧ H p.1 = none ∧ p.1 ≠ X.env.locals ∧ p.1 ∉ X.fs ∧ ∀ v, p.2.data ≠ .cell v) : Inv X pins' σ H s :=
  ⟨I.ok, I.os, I.bare, I.base, I.loc, I.cell, I.free, I.freeC, fun p hp => (List.mem_append.mp hp).elim (fun z => I.pin p (List.mem_append_left _ z)) (h p), I.hok, I.len⟩
theorem nodup_ix {N : List Str} (hN : N.Nodup) {i j : Nat} {x : Str} (a : N[i]? = some x) (b : N[j]? = some x) : i = j := by
  obtain ⟨h1, e1⟩ := List.getElem?_eq_some_iff.mp a
  obtain ⟨h2, e2⟩ := List.getElem?_eq_some_iff.mp b
  exact (List.getElem_inj hN).mp (e1.trans e2.symm)
theorem store_ok2 {M : Model} {A : Around} {E : Value → Shared → Prop} {i : Nat} {x : Str} {v : V} {u : Value} {Q : Unit → Shared → Prop} (I : Inv X pins σ H s) (hN : X.N.Nodup) (hi : X.N[i]? = some x) (hx : Loc X.env.scope x) (r : RelV v u)
    (h : ∀ s', Inv X pins (σ.set i (some v)) H s' → (∃ a, Heap.SameBut a s.heap s'.heap ∧ (a = X.env.locals ∨ X.env.cells.lookup x = some a)) → Q () s') (hf : X.fn x = true ∨ X.env.scope.names.lookup x = some .local := by first | exact .inl rfl | exact .inr rfl | assumption) : wpAny M A (storeName X.env x u) Q E s := by
  obtain ⟨m, hn, hl⟩ := id I.loc
  have hcls : (X.env.scope.kind == .class || (X.env.scope.kind == .module && X.env.locals != X.env.globals)) = false := by rw [I.ok.kind]; rfl
  have hiσ : i < σ.length := by rw [I.len]; exact (List.getElem?_eq_some_iff.mp hi).1
  have cne := I.cne
  have tracked : ∀ {a : Addr} {h' : Heap}, (∃ o, s.heap.get? a = some o ∧ H a = none) → Heap.SameBut a s.heap h' → HOk X.prog X.w H h' := fun {a h'} ha hs b ob e => by
    obtain ⟨_, _, hfree⟩ := ha
    refine (I.hok b ob e).stay (fun c w' hc q => (hs.2 c ?_).trans q) (fun _ q => q) fun _ _ q => q
    rintro rfl
    rcases hc with rfl | hc
    · rw [hfree] at e; cases e
    · rw [hfree] at hc; cases hc
  rcases hx with hk | hk
  · refine wpAny_storeName_local hk hn (fun h' hn' hs => ?_) hcls
    obtain ⟨oL, _, _, hoL, _⟩ := id hn
    refine h _ ⟨I.ok, I.os, I.bare, ⟨fun b o e n hb hx => ?_, fun b o e n hb hx => ?_, I.base.free, fun b o e hx => ?_, I.base.tups, I.base.frzs, I.base.tbls⟩, ⟨_, hn', fun j y v' e1 e2 e3 => ?_⟩, fun y c e => ?_, I.free, I.freeC, fun p hp => ?_, tracked ⟨oL, hoL, I.free⟩ hs, by simpa using I.len⟩ ⟨_, hs, .inl rfl⟩
    · exact (hs.2 b (Nat.ne_of_lt (Nat.lt_of_lt_of_le (Heap.lt_size e) I.ok.above))).trans (I.base.keep b o e n hb hx)
    · obtain ⟨sl, e1⟩ := I.base.slot b o e n hb hx
      exact ⟨sl, (hs.2 b (Nat.ne_of_lt (Nat.lt_of_lt_of_le (Heap.lt_size e) I.ok.above))).trans e1⟩
    · obtain ⟨o', e1⟩ := I.base.there b o e hx
      exact ⟨o', (hs.2 b (Nat.ne_of_lt (Nat.lt_of_lt_of_le (Heap.lt_size e) I.ok.above))).trans e1⟩
    · by_cases hj : j = i
      · subst hj
        rw [hi] at e1; cases e1
        rw [List.getElem?_set_self hiσ] at e2
        cases e2
        exact ⟨u, r, .inl ⟨hk, by simp⟩⟩
      · rw [List.getElem?_set_ne (Ne.symm hj)] at e2
        obtain ⟨u', r', q⟩ := hl j y v' e1 e2 e3
        refine ⟨u', r', ?_⟩
        rcases q with ⟨k, e⟩ | ⟨k, c, e, z⟩
        · refine .inl ⟨k, ?_⟩
          have : y ≠ x := fun e => hj (nodup_ix hN e1 (e ▸ hi))
          simp [this, e]
        · exact .inr ⟨k, c, e, z.sameBut hs (cne y c e)⟩
    · obtain ⟨w', z⟩ := I.cell y c e
      exact ⟨w', z.sameBut hs (cne y c e)⟩
    · obtain ⟨e, n, ne, nf, d⟩ := I.pin p hp
      exact ⟨(hs.2 p.1 ne).trans e, n, ne, nf, d⟩
  · have hfn : X.fn x = true := by
      rcases hf with z | z
      · exact z
      · rw [z] at hk; cases hk
    obtain ⟨c, hc⟩ := I.ok.has x (.inl hk)
    obtain ⟨w', z⟩ := I.cell x c hc
    refine wpAny_storeName_cell I.ok.kind hk hc z (fun h' hc' hs => ?_)
    obtain ⟨oc, hoc, hocd⟩ := id z
    refine h { s with heap := h' } ⟨I.ok, I.os, I.bare, ⟨fun b o e n hb hx => ?_, fun b o e n hb hx => ?_, I.base.free, fun b o e hx => ?_, I.base.tups, I.base.frzs, I.base.tbls⟩, ⟨m, hn.sameBut hs (Ne.symm (cne x c hc)), fun j y v' e1 e2 e3 => ?_⟩, fun y c' e => ?_, I.free, I.freeC, fun p hp => ?_, tracked ⟨oc, hoc, I.freeC x c hc⟩ hs, by simpa using I.len⟩ ⟨c, hs, .inr hc⟩
    · exact (hs.2 b (Nat.ne_of_lt (Nat.lt_of_lt_of_le (Heap.lt_size e) (I.ok.cab x c hfn hc)))).trans (I.base.keep b o e n hb hx)
    · obtain ⟨sl, e1⟩ := I.base.slot b o e n hb hx
      exact ⟨sl, (hs.2 b (Nat.ne_of_lt (Nat.lt_of_lt_of_le (Heap.lt_size e) (I.ok.cab x c hfn hc)))).trans e1⟩
    · obtain ⟨o', e1⟩ := I.base.there b o e hx
      exact ⟨o', (hs.2 b (Nat.ne_of_lt (Nat.lt_of_lt_of_le (Heap.lt_size e) (I.ok.cab x c hfn hc)))).trans e1⟩
    · by_cases hj : j = i
      · subst hj
        rw [hi] at e1; cases e1
        rw [List.getElem?_set_self hiσ] at e2
        cases e2
        exact ⟨u, r, .inr ⟨.inl hk, c, hc, hc'⟩⟩
      · rw [List.getElem?_set_ne (Ne.symm hj)] at e2
        obtain ⟨u', r', q⟩ := hl j y v' e1 e2 e3
        refine ⟨u', r', ?_⟩
        rcases q with q | ⟨k, c', e, z'⟩
        · exact .inl q
        · refine .inr ⟨k, c', e, z'.sameBut hs ?_⟩
          rintro rfl
          exact hj (nodup_ix hN e1 (I.ok.inj _ _ _ e hc ▸ hi))
    · by_cases hcc : c' = c
      · subst hcc; exact ⟨_, hc'⟩
      · obtain ⟨w2, z2⟩ := I.cell y c' e
        exact ⟨w2, z2.sameBut hs hcc⟩
    · obtain ⟨e, n, ne, nf, d⟩ := I.pin p hp
      refine ⟨(hs.2 p.1 ?_).trans e, n, ne, nf, d⟩
      intro q
      rw [q, hoc] at e
      have q' : oc = p.2 := Option.some.inj e
      exact d w' (by rw [← q']; exact hocd)
theorem store_ok {M : Model} {A : Around} {E : Value → Shared → Prop} {i : Nat} {x : Str} {v : V} {u : Value} {Q : Unit → Shared → Prop} (I : Inv X pins σ H s) (hN : X.N.Nodup) (hi : X.N[i]? = some x) (hx : Loc X.env.scope x) (r : RelV v u)
    (h : ∀ s', Inv X pins (σ.set i (some v)) H s' → Q () s') (hf : X.fn x = true ∨ X.env.scope.names.lookup x = some .local := by first | exact .inl rfl | exact .inr rfl | assumption) : wpAny M A (storeName X.env x u) Q E s :=
  store_ok2 I hN hi hx r (fun s' I' _ => h s' I') hf
theorem Inv.call' {s' : Shared} {ch : List Addr} (I : Inv X pins σ H s) (ho : s'.os = s.os) (u : Un (frs X.stack) ch H H' s.heap s'.heap) (hok : HOk X.prog X.w H' s'.heap) (hg : AllBare s'.gens)
    (hch : ∀ b ∈ ch, (b ∈ X.ex ∨ X.s₀.heap.objs.size ≤ b) ∧ b ≠ X.env.locals ∧ (∀ x c, X.env.cells.lookup x = some c → c ≠ b) ∧ ∀ p ∈ X.pn ++ pins, p.1 ≠ b) : Inv X pins σ H' s' := by
  obtain ⟨h', g', d', t', o'⟩ := s'
  have e : o' = s.os := ho
  subst e
  exact I.call (g' := g') (t' := t') (d' := d') u hok hg hch
end
abbrev XK := Value → Option Addr → Hp → Prop
abbrev St := List (Option V)
abbrev VK := V → Hp → Prop
abbrev TE := St → Hp → VK → Prop
abbrev TT := St → Hp → (Bool → Hp → Prop) → Prop
abbrev TA := St → Hp → (List V → Hp → Prop) → Prop
structure Ends where
  nx : St → Hp → Prop
  rt : VK
  bk : St → Hp → Prop := fun _ _ => False
  ct : St → Hp → Prop := fun _ _ => False
abbrev TS := Ends → St → Hp → Prop
def EP (X : Cx) (pins : List (Addr × Obj)) (σ : St) (Q : VK) (u : Value) (s' : Shared) : Prop := ∃ v H', Inv X pins σ H' s' ∧ RelV v u ∧ Q v H'
def TP (X : Cx) (pins : List (Addr × Obj)) (σ : St) (Q : Bool → Hp → Prop) (b : Bool) (s' : Shared) : Prop := ∃ H', Inv X pins σ H' s' ∧ Q b H'
def AP (X : Cx) (pins : List (Addr × Obj)) (σ : St) (Q : List V → Hp → Prop) (us : List Value) (s' : Shared) : Prop := ∃ vs H', Inv X pins σ H' s' ∧ Vals vs us ∧ Q vs H'
def SP (X : Cx) (pins : List (Addr × Obj)) (D : Ends) (f : Flow) (s' : Shared) : Prop :=
  match f with
  | .next => ∃ σ' H', Inv X pins σ' H' s' ∧ D.nx σ' H'
  | .brk => ∃ σ' H', Inv X pins σ' H' s' ∧ D.bk σ' H'
  | .cont => ∃ σ' H', Inv X pins σ' H' s' ∧ D.ct σ' H'
  | .ret u => ∃ v σ' H', Inv X pins σ' H' s' ∧ RelV v u ∧ D.rt v H'
def PE (X : Cx) (e : Expr) (t : TE) : Prop :=
  ∀ (pins : List (Addr × Obj)) (s : Shared) (σ : St) (H : Hp) (Q : VK), Inv X pins σ H s → t σ H Q → wpAny (model X.prog X.w) X.A (eval e X.env) (EP X pins σ Q) X.xe s
def PT (X : Cx) (e : Expr) (t : TT) : Prop :=
  ∀ (pins : List (Addr × Obj)) (s : Shared) (σ : St) (H : Hp) (Q : Bool → Hp → Prop), Inv X pins σ H s → t σ H Q → wpAny (model X.prog X.w) X.A (isTrue e X.env (eval e X.env)) (TP X pins σ Q) X.xe s
def PW (X : Cx) (e : Expr) (t : TT) : Prop :=
  ∀ (whole : Sem Value) (pins : List (Addr × Obj)) (s : Shared) (σ : St) (H : Hp) (Q : Bool → Hp → Prop), Inv X pins σ H s → t σ H Q → wpAny (model X.prog X.w) X.A (isTrue e X.env whole) (TP X pins σ Q) X.xe s
theorem PW.pt {X : Cx} {e : Expr} {t : TT} (h : PW X e t) : PT X e t := h _
def PA (X : Cx) (es : List Expr) (t : TA) : Prop :=
  ∀ (pos : Pos) (pins : List (Addr × Obj)) (s : Shared) (σ : St) (H : Hp) (Q : List V → Hp → Prop), Inv X pins σ H s → t σ H Q → wpAny (model X.prog X.w) X.A (spliced (backTo pos (starEach es X.env))) (AP X pins σ Q) X.xe s
def PS (X : Cx) (st : Stmt) (t : TS) : Prop :=
  ∀ (pins : List (Addr × Obj)) (s : Shared) (σ : St) (H : Hp) (D : Ends), Inv X pins σ H s → t D σ H → wpAny (model X.prog X.w) X.A (exec st X.env) (SP X pins D) X.xe s
def PSs (X : Cx) (st : List Stmt) (t : TS) : Prop :=
  ∀ (pins : List (Addr × Obj)) (s : Shared) (σ : St) (H : Hp) (D : Ends), Inv X pins σ H s → t D σ H → wpAny (model X.prog X.w) X.A (execs st X.env) (SP X pins D) X.xe s
theorem thn {α : Type} {t : Sem α} {Q Q' : α → Shared → Prop} {M : Model} {A : Around} {E : Value → Shared → Prop} {s : Shared} (h : wpAny M A t Q E s) (hQ : ∀ a s, Q a s → Q' a s) : wpAny M A t Q' E s := wpAny_mono h hQ fun _ _ x => x
end L2
namespace L2
open PySem PySem.Spec PyProof.Rows
section
variable {X : Cx}
def tVar (i : Nat) : TE := fun σ H Q => ∃ v, σ[i]? = some (some v) ∧ Q v H
def tC (v : V) : TE := fun _ H Q => Q v H
theorem pe_var {i : Nat} {x : Str} {pos : Pos} (hN : X.N[i]? = some x) (hv : Vis X.env.scope x) (hd : (x == ("__debug__" : Str)) = false := by decide) (hcd : (x == ("__classdict__" : Str)) = false := by decide) : PE X (.Name x pos) (tVar i) := by
  intro pins s σ H Q I h
  obtain ⟨v, e, h⟩ := h
  obtain ⟨m, hn, hl⟩ := I.loc
  obtain ⟨u, r, l⟩ := hl i x v hN e hv
  have fin : EP X pins σ Q u s := ⟨v, H, I, r, h⟩
  rcases l with ⟨hk, hm⟩ | ⟨hk, c, hc, hcell⟩
  · exact wpAny_Name (wpAny_loadName_local I.ok.kind hk hn hm fin) hd
  · rcases hk with hk | hk
    · exact wpAny_Name (wpAny_loadName_cell I.ok.kind hk hc hcell fin) hd
    · exact wpAny_Name (wpAny_loadName_free I.ok.kind hk hc hcell fin hcd) hd
theorem pe_int {i j pos} : PE X (.Constant (.int i) j pos) (tC (.int i)) := fun _ _ _ H _ I h => wpAny_Constant_int ⟨.int i, H, I.tok _, ⟨_, rfl⟩, h⟩
theorem pe_bl {b j pos} : PE X (.Constant (.bool b) j pos) (tC (.bl b)) := fun _ _ _ H _ I h => Constant_bool ⟨.bl b, H, I, rfl, h⟩
theorem pe_str {x j pos} : PE X (.Constant (.str x) j pos) (tC (.str x)) := fun _ _ _ H _ I h => Calls.Constant_str ⟨.str x, H, I.tok _, ⟨_, rfl⟩, h⟩
def Gl (X : Cx) (x : Str) : Prop := X.env.kindOf x = some .globalImplicit
theorem ld_glob {E : Value → Shared → Prop} {pins : List (Addr × Obj)} {s : Shared} {σ : St} {H : Hp} {x : Str} {u : Value} {pos : Pos} {Q : Value → Shared → Prop} (I : Inv X pins σ H s) (hg : Gl X x) (hm : X.mg x = some u) (h : Q u s)
    (hd : (x == ("__debug__" : Str)) = false := by decide) : wpAny (model X.prog X.w) X.A (eval (.Name x pos) X.env) Q E s :=
  Calls.Name_function_global I.ok.kind hg (Calls.loadGlobal_global (by rw [I.ok.glob]; exact I.mod.glob.keeps I.bk) hm h) hd
theorem ld_blt {E : Value → Shared → Prop} {pins : List (Addr × Obj)} {s : Shared} {σ : St} {H : Hp} {x : Str} {u : Value} {pos : Pos} {Q : Value → Shared → Prop} (I : Inv X pins σ H s) (hg : Gl X x) (hm : X.mg x = none) (hv : bootBuiltins x = some u) (h : Q u s)
    (hn : x ≠ "__name__" := by decide) (hd : (x == ("__debug__" : Str)) = false := by decide) : wpAny (model X.prog X.w) X.A (eval (.Name x pos) X.env) Q E s := by
  obtain ⟨mb, h1, h2⟩ := I.mod.blt
  exact Calls.Name_function_global I.ok.kind hg (Calls.loadGlobal_builtin (by rw [I.ok.glob]; exact I.mod.glob.keeps I.bk) hm (by rw [I.ok.blt]; exact h1.keeps I.bk) ((h2 x hn).trans hv) h) hd
theorem pe_glob {x : Str} {v : V} {u : Value} {pos : Pos} (hg : Gl X x) (hm : X.mg x = some u) (r : RelV v u) (hd : (x == ("__debug__" : Str)) = false := by decide) : PE X (.Name x pos) (tC v) :=
  fun _ _ _ H _ I h => ld_glob I hg hm ⟨v, H, I, r, h⟩ hd
theorem pe_bltn {x : Str} {v : V} {u : Value} {pos : Pos} (hg : Gl X x) (hm : X.mg x = none) (hv : bootBuiltins x = some u) (r : RelV v u) (hn : x ≠ "__name__" := by decide) (hd : (x == ("__debug__" : Str)) = false := by decide) : PE X (.Name x pos) (tC v) :=
  fun _ _ _ H _ I h => ld_blt I hg hm hv ⟨v, H, I, r, h⟩ hn hd
variable {a b : Expr} {ta tb : TE} {pos : Pos}
variable {tA tB' : TT} {rest : List Expr}
def tAnd (t u : TT) : TT := fun σ H Q => t σ H fun c H1 => if c = true then u σ H1 Q else Q false H1
def tOr (t u : TT) : TT := fun σ H Q => t σ H fun c H1 => if c = true then Q true H1 else u σ H1 Q
def tNot (t : TT) : TT := fun σ H Q => t σ H fun c H1 => Q (!c) H1
theorem pw_and1 (ha : PT X a tA) : PW X (.BoolOp .And [a] pos) tA := by
  intro wh pins s σ H Q I h
  refine isTrue_and (thn (ha pins s σ H Q I h) fun c s1 e => ?_)
  cases c with
  | true => exact isTrue_and_nil e
  | false => exact e
theorem pw_or1 (ha : PT X a tA) : PW X (.BoolOp .Or [a] pos) tA := by
  intro wh pins s σ H Q I h
  refine isTrue_or (thn (ha pins s σ H Q I h) fun c s1 e => ?_)
  cases c with
  | false => exact isTrue_or_nil e
  | true => exact e
theorem pw_and (ha : PT X a tA) (hb : PW X (.BoolOp .And (b :: rest) pos) tB') : PW X (.BoolOp .And (a :: b :: rest) pos) (tAnd tA tB') := by
  intro wh pins s σ H Q I h
  refine isTrue_and (thn (ha pins s σ H _ I h) fun c s1 ⟨H1, I1, q1⟩ => ?_)
  cases c with
  | true => exact hb wh pins s1 σ H1 Q I1 q1
  | false => exact ⟨H1, I1, q1⟩
theorem pw_or (ha : PT X a tA) (hb : PW X (.BoolOp .Or (b :: rest) pos) tB') : PW X (.BoolOp .Or (a :: b :: rest) pos) (tOr tA tB') := by
  intro wh pins s σ H Q I h
  refine isTrue_or (thn (ha pins s σ H _ I h) fun c s1 ⟨H1, I1, q1⟩ => ?_)
  cases c with
  | true => exact ⟨H1, I1, q1⟩
  | false => exact hb wh pins s1 σ H1 Q I1 q1
theorem pt_not (ha : PT X a tA) : PT X (.UnaryOp .Not a pos) (tNot tA) := by
  intro pins s σ H Q I h
  exact isTrue_not (ha pins s σ H (fun c H1 => Q (!c) H1) I h)
def tAndV (ta tb : TE) : TE := fun σ H Q => ta σ H fun x H1 => ∃ c, x = .bl c ∧ if c = true then tb σ H1 Q else Q (.bl false) H1
def tNotV (ta : TE) : TE := fun σ H Q => ta σ H fun x H1 => ∃ c, x = .bl c ∧ Q (.bl (!c)) H1
theorem pe_one {op} {t : TE} (h : PE X a t) : PE X (.BoolOp op [a] pos) t := fun pins s σ H Q I hw => BoolOp_one (h pins s σ H Q I hw)
theorem pe_and (ha : PE X a ta) (hb : PE X (.BoolOp .And (b :: rest) pos) tb) : PE X (.BoolOp .And (a :: b :: rest) pos) (tAndV ta tb) := by
  intro pins s σ H Q I h
  refine BoolOp_and (thn (ha pins s σ H _ I h) fun v s1 ⟨x, H1, I1, r1, q1⟩ => ?_)
  obtain ⟨c, rfl, q1⟩ := q1
  cases r1
  refine wpAny_truthy_bool ?_
  cases c with
  | true => exact hb pins s1 σ H1 Q I1 q1
  | false => exact ⟨.bl false, H1, I1, rfl, q1⟩
theorem pe_not (ha : PE X a ta) : PE X (.UnaryOp .Not a pos) (tNotV ta) := by
  intro pins s σ H Q I h
  refine UnaryOp_ (thn (ha pins s σ H _ I h) fun v s1 ⟨x, H1, I1, r1, q1⟩ => ?_)
  obtain ⟨c, rfl, q1⟩ := q1
  cases r1
  exact not_of (wpAny_truthy_bool ⟨.bl (!c), H1, I1, rfl, q1⟩)
end
end L2
namespace L2
open PySem PySem.Spec PyProof.Rows
def SqL (K : PySem.W.Frag) (H : Hp) (a : Addr) (xs : List V) : Prop :=
  Rd H a (.lst xs) ∨
    ∃ (o : Obj) (its : Array Value) (n : Nat), K.lookup a = some o ∧ o.cls = .type "list" ∧ o.dict = none ∧ o.data = .seq its n ∧ its.size ≤ sizeLine ∧ Vals xs its.toList
def SqT (K : PySem.W.Frag) (H : Hp) (a : Addr) (xs : List V) : Prop :=
  Rd H a (.tup xs) ∨
    ∃ (o : Obj) (its : Array Value) (n : Nat), K.lookup a = some o ∧ o.cls = .type "tuple" ∧ o.data = .seq its n ∧ its.size ≤ sizeLine ∧ Vals xs its.toList
def absV : Value → Option V
  | .none => some .non
  | .bool b => some (.bl b)
  | .int i _ => some (.int i)
  | .str x _ => some (.str x)
  | .bytes b _ => some (.byt b)
  | .float b _ => some (.flt b)
  | .ref a => some (.ref a)
  | .type n => some (.ty n)
  | _ => none
theorem RelV.abs {x : V} {u : Value} (r : RelV x u) : absV u = some x := by
  cases x with
  | non => cases r; rfl
  | bl _ => cases r; rfl
  | int _ => obtain ⟨t, rfl⟩ := r; rfl
  | str _ => obtain ⟨t, rfl⟩ := r; rfl
  | byt _ => obtain ⟨t, rfl⟩ := r; rfl
  | flt _ => obtain ⟨t, rfl⟩ := r; rfl
  | ref _ => cases r; rfl
  | ty _ => cases r; rfl
theorem RelV.inj {x y : V} {u : Value} (r : RelV x u) (q : RelV y u) : x = y := Option.some.inj (r.abs.symm.trans q.abs)
theorem Vals.inj : ∀ {xs ys : List V} {us : List Value}, Vals xs us → Vals ys us → xs = ys
  | _, _, _, .nil, .nil => rfl
  | _, _, _, .cons r t, .cons r' t' => by rw [r.inj r', Vals.inj t t']
section
variable {X : Cx} {pins : List (Addr × Obj)} {σ : St} {H : Hp} {s : Shared} {a : Addr} {xs ys : List V}
theorem SqL.of {K : PySem.W.Frag} (h : H a = some (.lst xs)) : SqL K H a xs := .inl (.inl h)
theorem SqT.of {K : PySem.W.Frag} (h : H a = some (.tup xs)) : SqT K H a xs := .inl (.inl h)
theorem Inv.list (I : Inv X pins σ H s) (h : SqL X.K H a xs) : ∃ its : List Value, Vals xs its ∧ PlainL s.heap a its.toArray ∧ xs.length ≤ sizeLine := by
  rcases h with h | ⟨o, its, n, hk, hc, hd, hs, hz, r⟩
  · obtain ⟨z, its, n, r, e⟩ := h.ok I.hok
    exact ⟨its, r, ⟨_, n, e, rfl, rfl, rfl⟩, z⟩
  · refine ⟨its.toList, r, ⟨o, n, I.kIn a o hk, hc, hd, by simpa using hs⟩, ?_⟩
    have e := r.length
    simp only [Array.length_toList] at e
    omega
theorem Inv.tuple (I : Inv X pins σ H s) (h : SqT X.K H a xs) : ∃ its : List Value, Vals xs its ∧ IsTup s.heap a its.toArray ∧ xs.length ≤ sizeLine := by
  rcases h with h | ⟨o, its, n, hk, hc, hs, hz, r⟩
  · obtain ⟨z, its, r, p⟩ := h.ok I.hok
    exact ⟨its, r, p, z⟩
  · refine ⟨its.toList, r, ⟨o, I.kIn a o hk, hc, n, by simpa using hs⟩, ?_⟩
    have e := r.length
    simp only [Array.length_toList] at e
    omega
theorem Inv.list_inj (I : Inv X pins σ H s) (h : SqL X.K H a xs) (h' : SqL X.K H a ys) : xs = ys := by
  obtain ⟨its, r, ⟨o, n, e, _, _, d⟩, _⟩ := I.list h
  obtain ⟨its', r', ⟨o', n', e', _, _, d'⟩, _⟩ := I.list h'
  rw [e] at e'; cases e'
  rw [d] at d'
  injection d' with d1 _
  have : its = its' := by simpa using congrArg Array.toList d1
  subst this
  exact r.inj r'
theorem Inv.tuple_inj (I : Inv X pins σ H s) (h : SqT X.K H a xs) (h' : SqT X.K H a ys) : xs = ys := by
  obtain ⟨its, r, ⟨o, e, _, n, d⟩, _⟩ := I.tuple h
  obtain ⟨its', r', ⟨o', e', _, n', d'⟩, _⟩ := I.tuple h'
  rw [e] at e'; cases e'
  rw [d] at d'
  injection d' with d1 _
  have : its = its' := by simpa using congrArg Array.toList d1
  subst this
  exact r.inj r'
end
abbrev Cx.wish (X : Cx) (E : Value → Shared → Prop) : Cx := { X with xe := E }
abbrev Cx.nox (X : Cx) : Cx := X.wish fun _ _ => False
theorem Cx.Ok.wish {X : Cx} (ok : X.Ok) (E : Value → Shared → Prop) : (X.wish E).Ok :=
  ⟨ok.mod, ok.kind, ok.glob, ok.blt, ok.above, ok.inj, ok.has, ok.cab, ok.hd, ok.frames, ok.stk, ok.exf, ok.bs, ok.bsz, ok.noex, ok.exfs, ok.funs, ok.frf⟩
theorem Cx.Ok.unwish {X : Cx} {E : Value → Shared → Prop} (ok : (X.wish E).Ok) : X.Ok :=
  ⟨ok.mod, ok.kind, ok.glob, ok.blt, ok.above, ok.inj, ok.has, ok.cab, ok.hd, ok.frames, ok.stk, ok.exf, ok.bs, ok.bsz, ok.noex, ok.exfs, ok.funs, ok.frf⟩
section
variable {X : Cx} {pins : List (Addr × Obj)} {σ : St} {H : Hp} {s : Shared} {E : Value → Shared → Prop}
theorem Inv.wish (I : Inv X pins σ H s) (E : Value → Shared → Prop) : Inv (X.wish E) pins σ H s := ⟨I.ok.wish E, I.os, I.bare, I.base, I.loc, I.cell, I.free, I.freeC, I.pin, I.hok, I.len⟩
theorem Inv.unwish (I : Inv (X.wish E) pins σ H s) : Inv X pins σ H s := ⟨I.ok.unwish, I.os, I.bare, I.base, I.loc, I.cell, I.free, I.freeC, I.pin, I.hok, I.len⟩
theorem SP.unwish {D : Ends} {f : Flow} {s' : Shared} (h : SP (X.wish E) pins D f s') : SP X pins D f s' := by
  cases f with
  | next => obtain ⟨σ', H', I, q⟩ := h; exact ⟨σ', H', I.unwish, q⟩
  | brk => obtain ⟨σ', H', I, q⟩ := h; exact ⟨σ', H', I.unwish, q⟩
  | cont => obtain ⟨σ', H', I, q⟩ := h; exact ⟨σ', H', I.unwish, q⟩
  | ret u => obtain ⟨v, σ', H', I, r, q⟩ := h; exact ⟨v, σ', H', I.unwish, r, q⟩
theorem PSs.nox {st : List Stmt} {t : TS} (h : PSs X.nox st t) : PSs X st t := fun pins s σ H D I hw =>
  wpAny_mono (h pins s σ H D (I.wish _) hw) (fun _ _ q => q.unwish) fun _ _ z => False.elim z
end
section
variable {X : Cx} {st : Stmt} {rest : List Stmt} {t u : TS} {e : Expr} {te : TE} {pos : Pos}
def tNext : TS := fun D σ H => D.nx σ H
def tSeq (t u : TS) : TS := fun D σ H => t { D with nx := u D } σ H
theorem pss_nil : PSs X [] tNext := fun _ _ σ H _ I h => wpAny_execs_nil ⟨σ, H, I, h⟩
theorem pss_cons (h1 : PS X st t) (h2 : PSs X rest u) : PSs X (st :: rest) (tSeq t u) := by
  intro pins s σ H D I h
  refine wpAny_execs_cons (thn (h1 pins s σ H { D with nx := u D } I h) fun f s1 q => ?_)
  cases f with
  | next =>
    obtain ⟨σ', H', I', q⟩ := q
    exact h2 pins s1 σ' H' D I' q
  | ret v => exact q
  | brk => exact q
  | cont => exact q
theorem pss_one (h1 : PS X st t) : PSs X [st] t := by
  intro pins s σ H D I h
  refine wpAny_execs_cons (thn (h1 pins s σ H D I h) fun f s1 q => ?_)
  cases f with
  | next => exact wpAny_execs_nil q
  | ret v => exact q
  | brk => exact q
  | cont => exact q
theorem Inv.quiet {pins : List (Addr × Obj)} {σ : St} {H : Hp} {s : Shared} (I : Inv X pins σ H s) : interactive X.env = false := by simp [interactive, I.ok.kind]
def tDrop (te : TE) : TS := fun D σ H => te σ H fun _ H1 => D.nx σ H1
theorem ps_expr (he : PE X e te) (hs : swapsWith e none pos.line X.env = pure false := by rfl) : PS X (.Expr e pos) (tDrop te) := by
  intro pins s σ H D I h
  exact wpAny_Expr_any (thn (he pins s σ H _ I h) fun v s1 ⟨x, H1, I1, r1, q1⟩ => ⟨σ, H1, I1, q1⟩) I.quiet hs
def tRet (te : TE) : TS := fun D σ H => te σ H D.rt
theorem ps_ret (he : PE X e te) : PS X (.Return (some e) pos) (tRet te) := by
  intro pins s σ H D I h
  exact wpAny_Return_some (thn (he pins s σ H _ I h) fun v s1 ⟨x, H1, I1, r1, q1⟩ => ⟨x, σ, H1, I1, r1, q1⟩)
def tIfS (c : TT) (t u : TS) : TS := fun D σ H => c σ H fun b H1 => if b = true then t D σ H1 else u D σ H1
theorem ps_if {c : Expr} {a b : List Stmt} {tc : TT} (hc : PT X c tc) (ha : PSs X a t) (hb : PSs X b u) : PS X (.If c a b pos) (tIfS tc t u) := by
  intro pins s σ H D I h
  refine wpAny_If (thn (hc pins s σ H _ I h) fun d s1 ⟨H1, I1, q1⟩ => ?_)
  cases d with
  | true => exact ha pins s1 σ H1 D I1 q1
  | false => exact hb pins s1 σ H1 D I1 q1
def tNever : TS := fun _ _ _ => False
theorem ps_never : PS X st tNever := fun _ _ _ _ _ _ h => h.elim
end
abbrev TG := V → St → Hp → (St → Hp → Prop) → Prop
abbrev TGs := List V → St → Hp → (St → Hp → Prop) → Prop
def PG (X : Cx) (target : Expr) (t : TG) : Prop :=
  ∀ (pins : List (Addr × Obj)) (s : Shared) (σ : St) (H : Hp) (v : V) (u : Value) (Q : St → Hp → Prop), Inv X pins σ H s → RelV v u → t v σ H Q →
    wpAny (model X.prog X.w) X.A (assign target X.env u) (fun _ s' => ∃ σ' H', Inv X pins σ' H' s' ∧ Q σ' H') X.xe s
def PGs (X : Cx) (ts : List Expr) (t : TGs) : Prop :=
  ∀ (pins : List (Addr × Obj)) (s : Shared) (σ : St) (H : Hp) (vs : List V) (us : List Value) (Q : St → Hp → Prop), Inv X pins σ H s → Vals vs us → t vs σ H Q →
    wpAny (model X.prog X.w) X.A (assignInOrder ((assignEach ts X.env).map (·.2)) us) (fun _ s' => ∃ σ' H', Inv X pins σ' H' s' ∧ Q σ' H') X.xe s
abbrev TSet := V → V → V → Hp → (Hp → Prop) → Prop
def PSet (X : Cx) (t : TSet) : Prop :=
  ∀ (pins : List (Addr × Obj)) (s : Shared) (σ : St) (H : Hp) (o i v : V) (ov iv u : Value) (Q : Hp → Prop), Inv X pins σ H s → RelV o ov → RelV i iv → RelV v u → t o i v H Q →
    wpAny (model X.prog X.w) X.A (setItem ov iv u) (fun _ s' => ∃ H', Inv X pins σ H' s' ∧ Q H') X.xe s
section
variable {X : Cx} {pos : Pos}
def gName (i : Nat) : TG := fun v σ H Q => Q (σ.set i (some v)) H
theorem pg_name {i : Nat} {x : Str} (hN : X.N.Nodup) (hi : X.N[i]? = some x) (hx : Loc X.env.scope x) (hf : X.fn x = true ∨ X.env.scope.names.lookup x = some .local := by first | exact .inl rfl | exact .inr rfl | assumption) : PG X (.Name x pos) (gName i) := by
  intro pins s σ H v u Q I r h
  exact wpAny_assign_Name (store_ok I hN hi hx r (fun s' I' => ⟨_, H, I', h⟩) hf)
def gNil : TGs := fun vs σ H Q => vs = [] ∧ Q σ H
def gCons (t : TG) (u : TGs) : TGs := fun vs σ H Q => ∃ v r, vs = v :: r ∧ t v σ H fun σ' H' => u r σ' H' Q
theorem pgs_nil : PGs X [] gNil := by
  intro pins s σ H vs us Q I r h
  obtain ⟨e, h⟩ := h
  subst e
  cases r
  exact assignInOrder_nil ⟨σ, H, I, h⟩
theorem pgs_cons {e : Expr} {es : List Expr} {t : TG} {u : TGs} (h1 : PG X e t) (h2 : PGs X es u)
    (hs : (assignEach (e :: es) X.env).map (·.2) = assign e X.env :: (assignEach es X.env).map (·.2) := by rfl) : PGs X (e :: es) (gCons t u) := by
  intro pins s σ H vs us Q I r h
  obtain ⟨v, vr, e1, h⟩ := h
  subst e1
  cases r with
  | cons r rr =>
    rw [hs]
    refine assignInOrder_cons (thn (h1 pins s σ H _ _ _ I r h) fun _ s1 ⟨σ1, H1, I1, q1⟩ => ?_)
    exact h2 pins s1 σ1 H1 _ _ Q I1 rr q1
def gTup (K : PySem.W.Frag) (n : Nat) (t : TGs) : TG := fun v σ H Q => ∃ a xs, v = .ref a ∧ SqT K H a xs ∧ xs.length = n ∧ t xs σ H Q
theorem pg_tup {es : List Expr} {k : Nat} {t : TGs} {n : Nat} (hc : X.calm = true) (h : PGs X es t)
    (hn : (assignEach es X.env).length = n := by rfl) (hst : (assignEach es X.env).findIdx? (·.1) = none := by rfl) : PG X (.Tuple es k pos) (gTup X.K n t) := by
  intro pins s σ H v u Q I r hw
  obtain ⟨a, xs, e1, hq, hl, hw⟩ := hw
  subst e1
  cases r
  obtain ⟨its, rv, ht, hz⟩ := I.tuple hq
  refine assign_Tuple_tuple (I.ok.hd hc) ht (by simp [hn, ← hl, rv.length]) hst fun h' hx => ?_
  have I1 : Inv X pins σ H { s with heap := h' } := I.kept (t' := s.toks) fun b o e => hx b o (Nat.ne_of_lt (Heap.lt_size e)) e
  exact h pins _ σ H xs _ Q I1 (by simpa using rv) hw
def gSub (to ti : TE) (t : TSet) : TG := fun v σ H Q => to σ H fun o H1 => ti σ H1 fun i H2 => t o i v H2 fun H3 => Q σ H3
theorem pg_sub {o i : Expr} {to ti : TE} {t : TSet} (ho : PE X o to) (hi : PE X i ti) (hs : PSet X t)
    (ha : ∀ v, assign (.Subscript o i pos) X.env v = (do
      let ov ← holding [v] (eval o X.env)
      let iv ← holding [v, ov] (eval i X.env)
      standAt pos
      holding [v, ov, iv] (setItem ov iv v)
      release [v, ov, iv] []) := by intro _; rfl) : PG X (.Subscript o i pos) (gSub to ti t) := by
  intro pins s σ H v u Q I r h
  rw [ha]
  refine wpAny_bind (wpAny_holding (thn (ho pins s σ H _ I h) fun ov s1 ⟨x, H1, I1, r1, q1⟩ => ?_))
  refine wpAny_bind (wpAny_holding (thn (hi pins s1 σ H1 _ I1 q1) fun iv s2 ⟨y, H2, I2, r2, q2⟩ => ?_))
  refine wpAny_bind (wpAny_standAt (wpAny_bind (wpAny_holding (thn (hs pins s2 σ H2 x y v ov iv u _ I2 r1 r2 r q2) fun _ s3 ⟨H3, I3, q3⟩ => ?_))))
  exact wpAny_release ⟨σ, H3, I3, q3⟩
def tAsg (te : TE) (g : TG) : TS := fun D σ H => te σ H fun x H1 => g x σ H1 D.nx
theorem ps_asg {tg e : Expr} {te : TE} {g : TG} (he : PE X e te) (hg : PG X tg g) (hs : swapsWithSole [tg] e pos.line X.env = pure false := by rfl) (hw : swappedStores [tg] e X.env = pure none := by rfl)
    (h1 : (assignEach [tg] X.env).map (·.2) = [assign tg X.env] := by rfl) : PS X (.Assign [tg] e pos) (tAsg te g) := by
  intro pins s σ H D I h
  refine wpAny_Assign_stores (thn (he pins s σ H _ I h) fun v s1 ⟨x, H1, I1, r1, q1⟩ => ?_) hs hw
  rw [h1]
  exact thn (hg pins s1 σ H1 x v _ I1 r1 q1) fun _ s2 q => q
theorem ps_set {i : Nat} {x : Str} {e : Expr} {te : TE} {pos' : Pos} (hN : X.N.Nodup) (hi : X.N[i]? = some x) (hx : Loc X.env.scope x) (he : PE X e te) (hs : swapsWith e (some (.Name x pos')) pos.line X.env = pure false := by rfl) (hf : X.fn x = true ∨ X.env.scope.names.lookup x = some .local := by first | exact .inl rfl | exact .inr rfl | assumption) :
    PS X (.Assign [.Name x pos'] e pos) (tAsg te (gName i)) := by
  intro pins s σ H D I h
  refine wpAny_Assign_Name (thn (he pins s σ H _ I h) fun v s1 ⟨y, H1, I1, r1, q1⟩ => ?_) hs
  exact store_ok I1 hN hi hx r1 (fun s2 I2 => ⟨_, H1, I2, q1⟩) hf
end
structure It where
  go : Nat → Hp → Prop
  yld : Nat → Hp → V → Hp → Prop
  stop : Nat → Hp → Prop
def FpOk (X : Cx) (pins : List (Addr × Obj)) (H : Hp) (b : Addr) : Prop :=
  H b = none ∧ b ≠ X.env.locals ∧ b ∉ X.fs ∧ (b ∈ X.ex ∨ X.s₀.heap.objs.size ≤ b) ∧ (∀ x c, X.env.cells.lookup x = some c → c ≠ b) ∧ ∀ p ∈ X.pn ++ pins, p.1 ≠ b
theorem Inv.fpOk {X : Cx} {pins : List (Addr × Obj)} {σ : St} {H H' : Hp} {s : Shared} {b : Addr} (I : Inv X pins σ H s) (hb : s.heap.objs.size ≤ b) (hn : H' b = none) : FpOk X pins H' b := by
  refine ⟨hn, Nat.ne_of_gt (Nat.lt_of_lt_of_le I.lt hb), I.nofs hb, .inr (Nat.le_trans I.sz hb), fun x c e z => ?_, fun p hp z => ?_⟩
  · obtain ⟨v, q⟩ := I.cell x c e
    exact absurd (Nat.lt_of_lt_of_le q.lt (by rw [z]; exact hb)) (Nat.lt_irrefl _)
  · exact absurd (Nat.lt_of_lt_of_le (Heap.lt_size (I.pin p hp).1) (by rw [z]; exact hb)) (Nat.lt_irrefl _)
structure Turn (P : Program) (w : World) (K : PySem.W.Frag) (tg : Expr) (J : It) (fp : List Addr) (it : Addr) (tn : Nat → Heap → Prop) : Prop where
  mem : it ∈ fp
  obj : ∀ i h, tn i h → ∀ b ∈ fp, ∃ o, h.get? b = some o ∧ ∀ v, o.data ≠ .cell v
  keep : ∀ i h h', tn i h → (∀ b ∈ fp, ∀ o, h.get? b = some o → h'.get? b = some o) → tn i h'
  item : ∀ (X : Cx), X.prog = P → X.w = w → X.K = K → X.calm = true → ∀ (i : Nat) (pins : List (Addr × Obj)) (s : Shared) (σ : St) (H : Hp) (E : Value → Shared → Prop), Inv X pins σ H s → (∀ b ∈ fp, FpOk X pins H b) → tn i s.heap → J.go i H →
    wpAny (model P w) X.A (pyNext (.ref it)) (fun r s1 => ∃ u, r = some u ∧
      wpAny (model P w) X.A (letOwnedTupleGo tg (.ref it) u) (fun _ s2 => ∃ x H', Inv X pins σ H' s2 ∧ RelV x u ∧ J.yld i H x H' ∧ tn (i + 1) s2.heap ∧ ∀ b ∈ fp, H' b = none) E s1) E s
  done : ∀ (X : Cx), X.prog = P → X.w = w → X.K = K → X.calm = true → ∀ (i : Nat) (pins : List (Addr × Obj)) (s : Shared) (σ : St) (H : Hp) (E : Value → Shared → Prop), Inv X pins σ H s → (∀ b ∈ fp, FpOk X pins H b) → tn i s.heap → J.stop i H →
    wpAny (model P w) X.A (pyNext (.ref it)) (fun r s1 => r = none ∧ Inv X pins σ H s1) E s
  self : ∀ (A : Around) (i : Nat) (s : Shared) (Q : Value → Shared → Prop) (E : Value → Shared → Prop), tn i s.heap → Q (.ref it) s → wpAny (model P w) A (pyIter (.ref it)) Q E s
abbrev TI := St → Hp → (It → Hp → Prop) → Prop
def PIE (X : Cx) (pins : List (Addr × Obj)) (σ : St) (tg : Expr) (R : It → Hp → Prop) (itv : Value) (s2 : Shared) : Prop :=
  ∃ (it : Addr) (fp : List Addr) (tn : Nat → Heap → Prop) (J : It) (H' : Hp), itv = .ref it ∧ Inv X pins σ H' s2 ∧ Turn X.prog X.w X.K tg J fp it tn ∧ tn 0 s2.heap ∧ (∀ b ∈ fp, FpOk X pins H' b) ∧ R J H'
def PI (X : Cx) (tg iter : Expr) (wi : TI) : Prop :=
  ∀ (pins : List (Addr × Obj)) (s : Shared) (σ : St) (H : Hp) (R : It → Hp → Prop), Inv X pins σ H s → wi σ H R →
    wpAny (model X.prog X.w) X.A (eval iter X.env) (fun v s1 => wpAny (model X.prog X.w) X.A (pyIter v) (PIE X pins σ tg R) X.xe s1) X.xe s
theorem go_of {M : Model} {A : Around} {E : Value → Shared → Prop} {s : Shared} {tg : Expr} {it : Addr} {u : Value} {o : Obj} {n : String} {vs : Array Value} {Q : Unit → Shared → Prop} (ho : s.heap.get? it = some o) (hc : o.cls = .type n) (hd : o.data = .fields vs)
    (hn : ["enumerate", "zip", "dict_itemiterator", "dict_reverseitemiterator", "odict_iterator", "itertools.zip_longest", "itertools.pairwise"].contains n = false) (hQ : Q () s) : wpAny M A (letOwnedTupleGo tg (.ref it) u) Q E s := by
  unfold letOwnedTupleGo
  cases tg <;> first
    | exact wpAny_pure hQ
    | (cases u <;> first
        | exact wpAny_pure hQ
        | (refine wpAny_bind (wpAny_load ho ?_)
           rw [hc, hd]
           show wpAny M A (if (["enumerate", "zip", "dict_itemiterator", "dict_reverseitemiterator", "odict_iterator", "itertools.zip_longest", "itertools.pairwise"].contains n && vs[0]? == some (rawInt _)) = true then _ else _) Q E s
           rw [if_neg (by intro h; rw [hn, Bool.false_and] at h; cases h)]
           exact wpAny_pure hQ))
def Itl (K : PySem.W.Frag) (a : Addr) : It :=
  ⟨fun i H => ∃ xs x, SqL K H a xs ∧ xs[i]? = some x, fun i H x H' => H' = H ∧ ∀ xs, SqL K H a xs → xs[i]? = some x, fun i H => ∃ xs, SqL K H a xs ∧ xs.length ≤ i⟩
def Itt (K : PySem.W.Frag) (a : Addr) : It :=
  ⟨fun i H => ∃ xs x, SqT K H a xs ∧ xs[i]? = some x, fun i H x H' => H' = H ∧ ∀ xs, SqT K H a xs → xs[i]? = some x, fun i H => ∃ xs, SqT K H a xs ∧ xs.length ≤ i⟩
def Itr (lo : Int) (n : Nat) : It := ⟨fun i _ => i < n, fun i H x H' => H' = H ∧ x = .int (lo + i), fun i _ => n ≤ i⟩
theorem turn_list {P : Program} {w : World} {K : PySem.W.Frag} {tg : Expr} (a it : Addr) : Turn P w K tg (Itl K a) [it] it (fun i h => h.IsListIter it a i) where
  mem := by simp
  obj := fun i h st b hb => by
    have e : b = it := by simpa using hb
    subst e
    obtain ⟨o, e, c, d⟩ := st
    exact ⟨o, e, fun v z => by rw [d] at z; cases z⟩
  keep := fun i h h' st k => st.at fun o e => k it (by simp) o e
  item := by
    intro X hP hw hK hc i pins s σ H E I hf st hg
    subst hP hw hK
    obtain ⟨xs, x, hq, hx⟩ := hg
    obtain ⟨its, rv, p, hz⟩ := I.list hq
    obtain ⟨u, hu, ru⟩ := rv.get hx
    obtain ⟨f0, f1, f2, f3, f4, f5⟩ := hf it (by simp)
    refine wpAny_pyNext_list_item st p.isList (x := u) (by simpa using hu) fun h' st' sb => ?_
    have I1 : Inv X pins σ H { s with heap := h' } := I.turned (t' := s.toks) (fun b o hb e => (sb.2 b hb).trans e) f0 f1 f3 f4 f5
    obtain ⟨o, e, c, d⟩ := id st'
    exact ⟨u, rfl, go_of (s := { s with heap := h' }) e c d (by decide) ⟨x, H, I1, ru, ⟨rfl, fun ys hy => by rw [I.list_inj hy hq]; exact hx⟩, st', fun b hb => (hf b hb).1⟩⟩
  done := by
    intro X hP hw hK hc i pins s σ H E I hf st hg
    subst hP hw hK
    obtain ⟨xs, hq, hx⟩ := hg
    obtain ⟨its, rv, p, hz⟩ := I.list hq
    obtain ⟨f0, f1, f2, f3, f4, f5⟩ := hf it (by simp)
    have hl := rv.length
    exact wpAny_pyNext_list_end (I.ok.hd hc) st p.isList (by simp; omega) fun h' eb => ⟨rfl, I.turned (t' := s.toks) (fun b o hb e => eb b o hb e) f0 f1 f3 f4 f5⟩
  self := fun _ _ _ _ _ st h => wpAny_pyIter_listiter st h
theorem turn_tuple {P : Program} {w : World} {K : PySem.W.Frag} {tg : Expr} (a it : Addr) : Turn P w K tg (Itt K a) [it] it (fun i h => h.IsTupleIter it a i) where
  mem := by simp
  obj := fun i h st b hb => by
    have e : b = it := by simpa using hb
    subst e
    obtain ⟨o, e, c, d⟩ := st
    exact ⟨o, e, fun v z => by rw [d] at z; cases z⟩
  keep := fun i h h' st k => st.at fun o e => k it (by simp) o e
  item := by
    intro X hP hw hK hc i pins s σ H E I hf st hg
    subst hP hw hK
    obtain ⟨xs, x, hq, hx⟩ := hg
    obtain ⟨its, rv, p, hz⟩ := I.tuple hq
    obtain ⟨u, hu, ru⟩ := rv.get hx
    obtain ⟨f0, f1, f2, f3, f4, f5⟩ := hf it (by simp)
    refine wpAny_pyNext_tuple_item st (show s.heap.IsTuple a its.toArray from p) (x := u) (by simpa using hu) fun h' st' sb => ?_
    have I1 : Inv X pins σ H { s with heap := h' } := I.turned (t' := s.toks) (fun b o hb e => (sb.2 b hb).trans e) f0 f1 f3 f4 f5
    obtain ⟨o, e, c, d⟩ := id st'
    exact ⟨u, rfl, go_of (s := { s with heap := h' }) e c d (by decide) ⟨x, H, I1, ru, ⟨rfl, fun ys hy => by rw [I.tuple_inj hy hq]; exact hx⟩, st', fun b hb => (hf b hb).1⟩⟩
  done := by
    intro X hP hw hK hc i pins s σ H E I hf st hg
    subst hP hw hK
    obtain ⟨xs, hq, hx⟩ := hg
    obtain ⟨its, rv, p, hz⟩ := I.tuple hq
    obtain ⟨f0, f1, f2, f3, f4, f5⟩ := hf it (by simp)
    have hl := rv.length
    exact wpAny_pyNext_tuple_end (I.ok.hd hc) st (show s.heap.IsTuple a its.toArray from p) (by simp; omega) fun h' eb => ⟨rfl, I.turned (t' := s.toks) (fun b o hb e => eb b o hb e) f0 f1 f3 f4 f5⟩
  self := fun _ _ _ _ _ st h => wpAny_pyIter_tupleiter st h
theorem turn_range {P : Program} {w : World} {K : PySem.W.Frag} {tg : Expr} (it : Addr) (lo : Int) (n : Nat) : Turn P w K tg (Itr lo n) [it] it (fun i h => IsRangeIter h it (lo + (i : Nat) * 1) ((n : Int) - (i : Nat)) 1) where
  mem := by simp
  obj := fun i h st b hb => by
    have e : b = it := by simpa using hb
    subst e
    exact ⟨_, st, fun v z => by
      have z' : Data.fields _ = Data.cell v := z
      cases z'⟩
  keep := fun i h h' st k => k it (by simp) _ st
  item := by
    intro X hP hw hK hc i pins s σ H E I hf st hg
    subst hP hw hK
    obtain ⟨f0, f1, f2, f3, f4, f5⟩ := hf it (by simp)
    have W := Walks.range (prog := X.prog) (w := X.w) (I.ok.hd hc) it lo 1 n
    refine W.item i s _ _ hg st fun v h' tk hv st' kk => ?_
    obtain ⟨t, rfl⟩ := hv
    have I1 : Inv X pins σ H { s with heap := h', toks := tk } := I.turned (fun b o hb e => kk b o (by simpa using hb) e) f0 f1 f3 f4 f5
    refine ⟨_, rfl, go_of (s := { s with heap := h', toks := tk }) (n := "range_iterator") st' rfl rfl (by decide) ⟨.int (lo + i), H, I1, ⟨t, ?_⟩, ⟨rfl, rfl⟩, st', fun b hb => (hf b hb).1⟩⟩
    rw [Int.mul_one]
  done := by
    intro X hP hw hK hc i pins s σ H E I hf st hg
    subst hP hw hK
    obtain ⟨f0, f1, f2, f3, f4, f5⟩ := hf it (by simp)
    exact wpAny_pyNext_range_end (I.ok.hd hc) st (by have : n ≤ i := hg; omega) fun h' eb => ⟨rfl, I.turned (t' := s.toks) (fun b o hb e => eb b o hb e) f0 f1 f3 f4 f5⟩
  self := fun _ _ _ _ _ st h => wpAny_pyIter_rangeiter st h
end L2
namespace L2
open PySem PySem.Spec PyProof.Rows
section
variable {X : Cx} {tg : Expr}
def iList (K : PySem.W.Frag) (tl : TE) : TI := fun σ H R => tl σ H fun x H1 => ∃ a, x = .ref a ∧ (∃ xs, SqL K H1 a xs) ∧ R (Itl K a) H1
def iTup (K : PySem.W.Frag) (tl : TE) : TI := fun σ H R => tl σ H fun x H1 => ∃ a, x = .ref a ∧ (∃ xs, SqT K H1 a xs) ∧ R (Itt K a) H1
theorem pi_list {l : Expr} {tl : TE} (hl : PE X l tl) : PI X tg l (iList X.K tl) := by
  intro pins s σ H R I h
  refine thn (hl pins s σ H _ I h) fun v s1 ⟨x, H1, I1, r1, q1⟩ => ?_
  obtain ⟨a, e, ⟨xs, hq⟩, q⟩ := q1
  subst e
  cases r1
  obtain ⟨its, rv, p, hz⟩ := I1.list hq
  refine wpAny_pyIter_list p.isList ?_
  refine ⟨s1.heap.objs.size, [s1.heap.objs.size], _, _, H1, rfl, I1.kept (t' := s1.toks) fun b o e => Heap.get?_push_of_some _ e, turn_list a _, ⟨_, Heap.get?_push_size _ rfl, rfl, rfl⟩, fun b hb => ?_, q⟩
  have e : b = s1.heap.objs.size := by simpa using hb
  subst e
  exact I1.fpOk (Nat.le_refl _) (I1.hok.fresh (Nat.le_refl _))
theorem pi_tup {l : Expr} {tl : TE} (hl : PE X l tl) : PI X tg l (iTup X.K tl) := by
  intro pins s σ H R I h
  refine thn (hl pins s σ H _ I h) fun v s1 ⟨x, H1, I1, r1, q1⟩ => ?_
  obtain ⟨a, e, ⟨xs, hq⟩, q⟩ := q1
  subst e
  cases r1
  obtain ⟨its, rv, p, hz⟩ := I1.tuple hq
  refine wpAny_pyIter_tuple (show s1.heap.IsTuple a its.toArray from p) ?_
  refine ⟨s1.heap.objs.size, [s1.heap.objs.size], _, _, H1, rfl, I1.kept (t' := s1.toks) fun b o e => Heap.get?_push_of_some _ e, turn_tuple a _, ⟨_, Heap.get?_push_size _ rfl, rfl, rfl⟩, fun b hb => ?_, q⟩
  have e : b = s1.heap.objs.size := by simpa using hb
  subst e
  exact I1.fpOk (Nat.le_refl _) (I1.hok.fresh (Nat.le_refl _))
theorem range_it {pins : List (Addr × Obj)} {σ : St} {H : Hp} {s : Shared} {R : It → Hp → Prop} {E : Value → Shared → Prop} {lo hi : Int} {t u v : Tok} {tk : Nat} (I : Inv X pins σ H s) (h1 : -(2 ^ 62) ≤ lo) (h2 : lo < 2 ^ 62) (h3 : -(2 ^ 62) ≤ hi) (h4 : hi < 2 ^ 62)
    (q : R (Itr lo (hi - lo).toNat) H) : wpAny (model X.prog X.w) X.A (pyIter (.ref s.heap.objs.size)) (PIE X pins σ tg R) E { s with heap := s.heap.push { cls := .type "range", data := .fields #[.int lo t, .int hi u, .int 1 v] }, toks := tk } := by
  refine wpAny_pyIter_range (IsRange.new ..) (small_one h1 h2 h3 h4) ?_
  have I1 : Inv X pins σ H { s with heap := s.heap.push { cls := .type "range", data := .fields #[.int lo t, .int hi u, .int 1 v] }, toks := tk } := I.kept fun b o e => Heap.get?_push_of_some _ e
  refine ⟨(s.heap.push { cls := .type "range", data := .fields #[.int lo t, .int hi u, .int 1 v] }).objs.size, [(s.heap.push { cls := .type "range", data := .fields #[.int lo t, .int hi u, .int 1 v] }).objs.size], _, _, H, rfl,
    I1.kept (t' := tk) fun b o e => Heap.get?_push_of_some _ e, turn_range _ lo (hi - lo).toNat, ?_, fun b hb => ?_, q⟩
  · have e1 : lo + ((0 : Nat) : Int) * 1 = lo := by simp
    have e2 : (((hi - lo).toNat : Nat) : Int) - ((0 : Nat) : Int) = Builtin.Range.rangeSize lo hi 1 := by rw [rangeSize_one]; split <;> omega
    show IsRangeIter _ _ (lo + ((0 : Nat) : Int) * 1) ((((hi - lo).toNat : Nat) : Int) - ((0 : Nat) : Int)) 1
    rw [e1, e2]
    exact Heap.get?_push_size _ rfl
  · have e : b = (s.heap.push { cls := .type "range", data := .fields #[.int lo t, .int hi u, .int 1 v] }).objs.size := by simpa using hb
    subst e
    exact I1.fpOk (Nat.le_refl _) (I1.hok.fresh (Nat.le_refl _))
def iRng1 (ta : TA) : TI := fun σ H R => ta σ H fun vs H1 => ∃ j : Int, vs = [.int j] ∧ -(2 ^ 62) ≤ j ∧ j < 2 ^ 62 ∧ R (Itr 0 j.toNat) H1
theorem pi_range1 {a : Expr} {ta : TA} {p pos : Pos} (hg : Gl X "range") (hm : X.mg "range" = none) (ha : PA X [a] ta) (hs : starEach [a] X.env = [(false, eval a X.env)] := by rfl) : PI X tg (.Call (.Name "range" p) [a] [] pos) (iRng1 ta) := by
  intro pins s σ H R I h
  refine Call_ (ld_blt I hg hm boot_range (PyProof.Rows.callWith_type1 (thn (ha pos pins s σ H _ I h) fun us s1 ⟨vs, H1, I1, r1, q1⟩ => ?_) hs rfl))
  obtain ⟨j, e, q1, q2, q⟩ := q1
  subst e
  cases r1 with
  | cons r rr =>
    cases rr
    obtain ⟨t, rfl⟩ := r
    exact call_range_1 (range_it I1 (by omega) (by omega) q1 q2 (by simpa using q))
def tFor (wi : TI) (g : TG) (tb : TS) : TS := fun D σ H => wi σ H fun J H1 => ∃ W : Nat → Nat → St → Hp → Prop, (∃ m, W 0 m σ H1) ∧ ∀ i m σ H, W i m σ H →
  (J.stop i H ∧ D.nx σ H) ∨ (J.go i H ∧ ∃ N : St → Hp → Prop, (∀ σ' H', N σ' H' → ∃ m', m' < m ∧ W (i + 1) m' σ' H') ∧ ∀ x H', J.yld i H x H' → g x σ H' fun σ2 H2 => tb { D with nx := N, ct := N, bk := D.nx } σ2 H2)
def pinsAt (fp : List Addr) (h : Heap) : List (Addr × Obj) := fp.filterMap fun b => (h.get? b).map fun o => (b, o)
theorem mem_pinsAt {fp : List Addr} {h : Heap} {b : Addr} {o : Obj} (hb : b ∈ fp) (e : h.get? b = some o) : (b, o) ∈ pinsAt fp h := List.mem_filterMap.mpr ⟨b, hb, by rw [e]; rfl⟩
theorem of_pinsAt {fp : List Addr} {h : Heap} {p : Addr × Obj} (hp : p ∈ pinsAt fp h) : p.1 ∈ fp ∧ h.get? p.1 = some p.2 := by
  obtain ⟨b, hb, e⟩ := List.mem_filterMap.mp hp
  cases q : h.get? b with
  | none => rw [q] at e; cases e
  | some o =>
    rw [q] at e
    have e' : (b, o) = p := Option.some.inj e
    subst e'
    exact ⟨hb, q⟩
theorem Inv.pinned {pins : List (Addr × Obj)} {σ : St} {H : Hp} {s : Shared} {fp : List Addr} (I : Inv X pins σ H s) (hf : ∀ b ∈ fp, FpOk X pins H b) (ho : ∀ b ∈ fp, ∃ o, s.heap.get? b = some o ∧ ∀ v, o.data ≠ .cell v) : Inv X (pins ++ pinsAt fp s.heap) σ H s :=
  I.pins_of fun p hp => (List.mem_append.mp hp).elim (fun z => I.pin p (List.mem_append_right _ z)) fun z => by
    obtain ⟨hb, e⟩ := of_pinsAt z
    obtain ⟨f0, f1, f2, _⟩ := hf p.1 hb
    obtain ⟨o, e', d⟩ := ho p.1 hb
    rw [e] at e'; cases e'
    exact ⟨e, f0, f1, f2, d⟩
theorem Inv.unpinned {pins pl : List (Addr × Obj)} {σ : St} {H : Hp} {s : Shared} (I : Inv X (pins ++ pl) σ H s) : Inv X pins σ H s := I.pins_of fun p hp => I.pin p (List.mem_append_right _ (List.mem_append_left _ hp))
theorem ps_for {iter : Expr} {body : List Stmt} {wi : TI} {g : TG} {tb : TS} {pos : Pos} (hp : PassesOwn (model X.prog X.w) X.A X.env X.xe) (hc : X.calm = true) (hi : PI X tg iter wi) (hg : PG X tg g) (hb : PSs X body tb)
    (hs : ∀ x, foldedSetIterable iter X.env x = pure x := by intro _; rfl) : PS X (.For tg iter body [] pos) (tFor wi g tb) := by
  intro pins s σ H D I h
  refine wpAny_For (thn (hi pins s σ H _ I h) fun v s1 h1 => thn h1 fun itv s2 h2 => ?_) hs
  obtain ⟨it, fp, tn, J, H2, e, I2, T, st2, f2, W, ⟨m0, w0⟩, turn⟩ := h2
  subst e
  have stat : ∀ {H' : Hp}, (∀ b ∈ fp, H' b = none) → ∀ b ∈ fp, FpOk X pins H' b := fun hn b hb => ⟨hn b hb, (f2 b hb).2⟩
  refine codeAny_forLoop_any (fun n s' => ∃ i σ' H', Inv X pins σ' H' s' ∧ tn i s'.heap ∧ (∀ b ∈ fp, H' b = none) ∧ W i n σ' H') ?_ m0 ⟨0, σ, H2, I2, st2, fun b hb => (f2 b hb).1, w0⟩
  rintro n s3 ⟨i, σ3, H3, I3, st3, fr3, w3⟩
  rcases turn i n σ3 H3 w3 with ⟨stop, qn⟩ | ⟨go, N, hN, step⟩
  · refine wpAny_passesOwn hp (thn (T.done X rfl rfl rfl hc i pins s3 σ3 H3 X.xe I3 (stat fr3) st3 stop) fun r s4 ⟨hr, I4⟩ => ?_)
    subst hr
    exact wpAny_execs_nil ⟨σ3, H3, I4, qn⟩
  · refine wpAny_passesOwn hp (thn (T.item X rfl rfl rfl hc i pins s3 σ3 H3 X.xe I3 (stat fr3) st3 go) fun r s4 ⟨u, hr, h4⟩ => ?_)
    subst hr
    refine wpAny_passesOwn hp (thn h4 fun _ s5 ⟨x, H5, I5, r5, y5, st5, fr5⟩ => ?_)
    have I5' := I5.pinned (stat fr5) (T.obj _ _ st5)
    refine wpAny_passesOwn hp (thn (hg _ s5 σ3 H5 x u _ I5' r5 (step x H5 y5)) fun _ s6 ⟨σ6, H6, I6, q6⟩ => ?_)
    refine wpAny_passesOwn hp (thn (hb _ s6 σ6 H6 _ I6 q6) fun f s7 q7 => ?_)
    have again : ∀ {σ7 : St} {H7 : Hp}, Inv X (pins ++ pinsAt fp s5.heap) σ7 H7 s7 → N σ7 H7 → ∃ m, m < n ∧ ∃ i σ' H', Inv X pins σ' H' s7 ∧ tn i s7.heap ∧ (∀ b ∈ fp, H' b = none) ∧ W i m σ' H' := fun {σ7 H7} I7 n7 => by
      obtain ⟨m', hm, w7⟩ := hN σ7 H7 n7
      refine ⟨m', hm, i + 1, σ7, H7, I7.unpinned, T.keep _ _ _ st5 fun b hb o e => (I7.pin (b, o) (List.mem_append_right _ (List.mem_append_right _ (mem_pinsAt hb e)))).1, fun b hb => ?_, w7⟩
      obtain ⟨o, e, d⟩ := T.obj _ _ st5 b hb
      exact (I7.pin (b, o) (List.mem_append_right _ (List.mem_append_right _ (mem_pinsAt hb e)))).2.1
    cases f with
    | next => obtain ⟨σ7, H7, I7, n7⟩ := q7; exact again I7 n7
    | cont => obtain ⟨σ7, H7, I7, n7⟩ := q7; exact again I7 n7
    | brk => obtain ⟨σ7, H7, I7, q7⟩ := q7; exact ⟨σ7, H7, I7.unpinned, q7⟩
    | ret v => obtain ⟨x7, σ7, H7, I7, r7, q7⟩ := q7; exact ⟨x7, σ7, H7, I7.unpinned, r7, q7⟩
end
end L2
namespace L2
open PySem PySem.Spec PyProof.Rows
abbrev R2 := V → V → Hp → VK → Prop
def OpR (X : Cx) (f : Value → Value → Sem Value) (r : R2) : Prop :=
  ∀ (pins : List (Addr × Obj)) (s : Shared) (σ : St) (H : Hp) (x y : V) (v u : Value) (Q : VK), Inv X pins σ H s → RelV x v → RelV y u → r x y H Q →
    wpAny (model X.prog X.w) X.A (f v u) (EP X pins σ Q) X.xe s
def CallR (X : Cx) (f : Value) (r : List V → Hp → VK → Prop) : Prop :=
  ∀ (pins : List (Addr × Obj)) (s : Shared) (σ : St) (H : Hp) (xs : List V) (us : List Value) (Q : VK), Inv X pins σ H s → Vals xs us → r xs H Q →
    wpAny (model X.prog X.w) X.A (call f us) (EP X pins σ Q) X.xe s
def TruR (X : Cx) (r : V → Hp → (Bool → Hp → Prop) → Prop) : Prop :=
  ∀ (pins : List (Addr × Obj)) (s : Shared) (σ : St) (H : Hp) (x : V) (v : Value) (Q : Bool → Hp → Prop), Inv X pins σ H s → RelV x v → r x H Q →
    wpAny (model X.prog X.w) X.A (truthy v) (TP X pins σ Q) X.xe s
def tOp (r : R2) (ta tb : TE) : TE := fun σ H Q => ta σ H fun x H1 => tb σ H1 fun y H2 => r x y H2 Q
def rI (C : Int → Int → Prop) (g : Int → Int → V) : R2 := fun x y H Q => ∃ i j, x = .int i ∧ y = .int j ∧ C i j ∧ Q (g i j) H
def rI0 (g : Int → Int → V) : R2 := fun x y H Q => ∃ i j, x = .int i ∧ y = .int j ∧ Q (g i j) H
section
variable {X : Cx} {a b c : Expr} {ta tb tc : TE} {pos : Pos}
theorem binT (ha : PE X a ta) (hb : PE X b tb) {pins : List (Addr × Obj)} {s : Shared} {σ : St} {H : Hp} {R : V → V → Hp → Prop} (I : Inv X pins σ H s)
    (h : ta σ H fun x H1 => tb σ H1 fun y H2 => R x y H2) {Q : Value → Shared → Prop} {f : Value → Value → Sem Value}
    (hf : ∀ v u s2 x y H2, Inv X pins σ H2 s2 → RelV x v → RelV y u → R x y H2 → wpAny (model X.prog X.w) X.A (f v u) Q X.xe s2) :
    wpAny (model X.prog X.w) X.A (eval a X.env) (fun v s₁ => wpAny (model X.prog X.w) X.A (eval b X.env) (fun u s₂ => wpAny (model X.prog X.w) X.A (f v u) Q X.xe s₂) X.xe s₁) X.xe s := by
  refine thn (ha pins s σ H _ I h) fun v s1 ⟨x, H1, I1, r1, q1⟩ => ?_
  refine thn (hb pins s1 σ H1 _ I1 q1) fun u s2 ⟨y, H2, I2, r2, q2⟩ => ?_
  exact hf v u s2 x y H2 I2 r1 r2 q2
theorem pe_op {op : Operator} {r : R2} (ho : OpR X (binaryOp op) r) (ha : PE X a ta) (hb : PE X b tb) : PE X (.BinOp a op b pos) (tOp r ta tb) := by
  intro pins s σ H Q I h
  exact wpAny_BinOp (binT ha hb I h fun v u s2 x y H2 I2 rx ry q => ho pins s2 σ H2 x y v u Q I2 rx ry q)
theorem opI {f : Value → Value → Sem Value} {C : Int → Int → Prop} {g : Int → Int → Int}
    (rule : ∀ (i j : Int) (t u : Tok) (s : Shared) (Q : Value → Shared → Prop) (E : Value → Shared → Prop), C i j → Q (.int (g i j) s.toks) { s with toks := s.toks + 1 } → wpAny (model X.prog X.w) X.A (f (.int i t) (.int j u)) Q E s) :
    OpR X f (rI C fun i j => .int (g i j)) := by
  intro pins s σ H x y v u Q I rx ry h
  obtain ⟨i, j, rfl, rfl, hc, q⟩ := h
  obtain ⟨t, rfl⟩ := rx
  obtain ⟨t', rfl⟩ := ry
  exact rule i j t t' s _ _ hc ⟨.int (g i j), H, I.tok _, ⟨_, rfl⟩, q⟩
theorem opI0 {f : Value → Value → Sem Value} {g : Int → Int → Int}
    (rule : ∀ (i j : Int) (t u : Tok) (s : Shared) (Q : Value → Shared → Prop) (E : Value → Shared → Prop), Q (.int (g i j) s.toks) { s with toks := s.toks + 1 } → wpAny (model X.prog X.w) X.A (f (.int i t) (.int j u)) Q E s) :
    OpR X f (rI0 fun i j => .int (g i j)) := by
  intro pins s σ H x y v u Q I rx ry h
  obtain ⟨i, j, rfl, rfl, q⟩ := h
  obtain ⟨t, rfl⟩ := rx
  obtain ⟨t', rfl⟩ := ry
  exact rule i j t t' s _ _ ⟨.int (g i j), H, I.tok _, ⟨_, rfl⟩, q⟩
theorem opB0 {f : Value → Value → Sem Value} {g : Int → Int → Bool}
    (rule : ∀ (i j : Int) (t u : Tok) (s : Shared) (Q : Value → Shared → Prop) (E : Value → Shared → Prop), Q (.bool (g i j)) s → wpAny (model X.prog X.w) X.A (f (.int i t) (.int j u)) Q E s) :
    OpR X f (rI0 fun i j => .bl (g i j)) := by
  intro pins s σ H x y v u Q I rx ry h
  obtain ⟨i, j, rfl, rfl, q⟩ := h
  obtain ⟨t, rfl⟩ := rx
  obtain ⟨t', rfl⟩ := ry
  exact rule i j t t' s _ _ ⟨.bl (g i j), H, I, rfl, q⟩
def CMul (i j : Int) : Prop := (-(2 ^ 64) < i ∧ i < 2 ^ 64) ∨ (-(2 ^ 64) < j ∧ j < 2 ^ 64)
theorem CMul.ok {i j : Int} (h : CMul i j) : IntMulOk i j := by
  rcases h with ⟨h1, h2⟩ | ⟨h1, h2⟩
  · exact .of_left (intBits_le_64 h1 h2)
  · exact .of_right (intBits_le_64 h1 h2)
theorem op_add : OpR X (binaryOp .Add) (rI0 fun i j => .int (i + j)) := opI0 fun _ _ _ _ _ _ _ q => add_int q
theorem op_sub : OpR X (binaryOp .Sub) (rI0 fun i j => .int (i - j)) := opI0 fun _ _ _ _ _ _ _ q => sub_int q
theorem op_mod : OpR X (binaryOp .Mod) (rI (fun _ j => 0 < j) fun i j => .int (i % j)) := opI fun i j _ _ _ _ _ hc q => by
  have h1 : (0 : Int) < j := hc
  exact mod_int' (by omega) (by rw [Int.fmod_eq_emod_of_nonneg i (by omega)]; exact q)
end
section
variable {X : Cx} {a b c : Expr} {ta tb tc : TE} {pos : Pos}
theorem fin_bl {pins : List (Addr × Obj)} {σ : St} {H : Hp} {s : Shared} {Q : VK} {k k' : Bool} (I : Inv X pins σ H s) (q : Q (.bl k) H) (e : k = k') : EP X pins σ Q (.bool k') s := by
  subst e
  exact ⟨.bl k, H, I, rfl, q⟩
theorem op_le : OpR X (compareOp .LtE) (rI0 fun i j => .bl (decide (i ≤ j))) := opB0 fun _ _ _ _ _ _ _ q => le_int q
theorem op_gt : OpR X (compareOp .Gt) (rI0 fun i j => .bl (decide (j < i))) := opB0 fun _ _ _ _ _ _ _ q => gt_int q
theorem op_in_str : OpR X (compareOp .In) (fun x y H Q => ∃ i j, x = .str i ∧ y = .str j ∧ Q (.bl (!(Builtin.Str.occurrences j i 0 j.length 1).isEmpty)) H) := by
  intro pins s σ H x y v u Q I rx ry h
  obtain ⟨i, j, rfl, rfl, q⟩ := h
  obtain ⟨t, rfl⟩ := rx
  obtain ⟨t', rfl⟩ := ry
  exact in_str (fin_bl I q rfl)
theorem op_notin_str : OpR X (compareOp .NotIn) (fun x y H Q => ∃ i j, x = .str i ∧ y = .str j ∧ Q (.bl (!(!(Builtin.Str.occurrences j i 0 j.length 1).isEmpty))) H) := by
  intro pins s σ H x y v u Q I rx ry h
  obtain ⟨i, j, rfl, rfl, q⟩ := h
  obtain ⟨t, rfl⟩ := rx
  obtain ⟨t', rfl⟩ := ry
  exact notIn_str (fin_bl I q rfl)
theorem OpR.or {f : Value → Value → Sem Value} {r r' : R2} (h : OpR X f r) (h' : OpR X f r') : OpR X f (fun x y H Q => r x y H Q ∨ r' x y H Q) := by
  intro pins s σ H x y v u Q I rx ry q
  rcases q with q | q
  · exact h pins s σ H x y v u Q I rx ry q
  · exact h' pins s σ H x y v u Q I rx ry q
theorem nomark (b : Expr) {op : CmpOp} (h : op ≠ .In := by decide) (h2 : op ≠ .NotIn := by decide) : behindInMarks op b = false := by
  have e1 : (op == CmpOp.In) = false := by cases op <;> first | rfl | exact absurd rfl h
  have e2 : (op == CmpOp.NotIn) = false := by cases op <;> first | rfl | exact absurd rfl h2
  cases b <;> simp [behindInMarks, e1, e2]
theorem pe_cmpR {op : CmpOp} {r : R2} (ho : OpR X (compareOp op) r) (ha : PE X a ta) (hb : PE X b tb) (hm : behindInMarks op b = false) : PE X (.Compare a [op] [b] pos) (tOp r ta tb) := by
  intro pins s σ H Q I h
  exact wpAny_Compare1 (binT ha hb I h fun v u s2 x y H2 I2 rx ry q => ho pins s2 σ H2 x y v u Q I2 rx ry q) hm
def tTest (t : TE) : TT := fun σ H Q => t σ H fun x H' => ∃ k, x = .bl k ∧ Q k H'
theorem pt_cmpR {op : CmpOp} {r : R2} (ho : OpR X (compareOp op) r) (ha : PE X a ta) (hb : PE X b tb) (hm : behindInMarks op b = false) : PT X (.Compare a [op] [b] pos) (tTest (tOp r ta tb)) := by
  intro pins s σ H Q I h
  refine wpAny_isTrue_Compare1 (thn (ha pins s σ H _ I h) fun v s1 ⟨x, H1, I1, r1, q1⟩ => thn (hb pins s1 σ H1 _ I1 q1) fun u s2 ⟨y, H2, I2, r2, q2⟩ =>
    thn (ho pins s2 σ H2 x y v u _ I2 r1 r2 q2) fun c s3 ⟨z, H3, I3, r3, k, e, q3⟩ => ?_) hm
  subst e
  cases r3
  exact wpAny_truthy_bool ⟨H3, I3, q3⟩
def tChain (r r' : R2) (ta tb tc : TE) : TE := fun σ H Q => ta σ H fun x H1 => tb σ H1 fun y H2 => r x y H2 fun z H3 => ∃ k, z = .bl k ∧
  (if k = true then tc σ H3 fun w' H4 => r' y w' H4 Q else Q (.bl false) H3)
theorem pe_chain {op op' : CmpOp} {r r' : R2} (ho : OpR X (compareOp op) r) (ho' : OpR X (compareOp op') r') (ha : PE X a ta) (hb : PE X b tb) (hc : PE X c tc)
    (hm : lastMarks [op, op'] [b, c] = false := by with_unfolding_all rfl) : PE X (.Compare a [op, op'] [b, c] pos) (tChain r r' ta tb tc) := by
  intro pins s σ H Q I h
  refine Compare_chain (thn (ha pins s σ H _ I h) fun v s1 ⟨x, H1, I1, r1, q1⟩ => chain_link (thn (hb pins s1 σ H1 _ I1 q1) fun u s2 ⟨y, H2, I2, r2, q2⟩ =>
    thn (ho pins s2 σ H2 x y v u _ I2 r1 r2 q2) fun d s3 ⟨z, H3, I3, r3, k, e, q3⟩ => ?_)) hm
  subst e
  cases r3
  refine wpAny_truthy_bool ?_
  cases k with
  | false => exact ite_ff ⟨.bl false, H3, I3, rfl, q3⟩
  | true => exact ite_tt (chain_last (thn (hc pins s3 σ H3 _ I3 q3) fun w' s4 ⟨z', H4, I4, r4, q4⟩ => ho' pins s4 σ H4 y z' u w' Q I4 r2 r4 q4))
theorem pt_chain {op op' : CmpOp} {r r' : R2} (ho : OpR X (compareOp op) r) (ho' : OpR X (compareOp op') r') (ha : PE X a ta) (hb : PE X b tb) (hc : PE X c tc)
    (hm : lastMarks [op, op'] [b, c] = false := by with_unfolding_all rfl) : PT X (.Compare a [op, op'] [b, c] pos) (tTest (tChain r r' ta tb tc)) := by
  intro pins s σ H Q I h
  refine isTrue_chain (thn (ha pins s σ H _ I h) fun v s1 ⟨x, H1, I1, r1, q1⟩ => test_link (thn (hb pins s1 σ H1 _ I1 q1) fun u s2 ⟨y, H2, I2, r2, q2⟩ =>
    thn (ho pins s2 σ H2 x y v u _ I2 r1 r2 q2) fun d s3 ⟨z, H3, I3, r3, k, e, q3⟩ => ?_)) hm
  subst e
  cases r3
  refine wpAny_truthy_bool ?_
  cases k with
  | false =>
    obtain ⟨k', e', q'⟩ := q3
    cases e'
    exact ite_ff ⟨H3, I3, q'⟩
  | true =>
    refine ite_tt (test_last (thn (hc pins s3 σ H3 _ I3 q3) fun w' s4 ⟨z', H4, I4, r4, q4⟩ => thn (ho' pins s4 σ H4 y z' u w' _ I4 r2 r4 q4) fun d' s5 ⟨z2, H5, I5, r5, k2, e2, q5⟩ => ?_))
    subst e2
    cases r5
    exact wpAny_truthy_bool ⟨H5, I5, q5⟩
def TruV (K : PySem.W.Frag) (x : V) (H : Hp) (k : Bool) : Prop :=
  match x with
  | .non => k = false
  | .bl b => k = b
  | .int i => k = (i != 0)
  | .str y => y.length ≤ sizeLine ∧ k = ((y.length : Int) != 0)
  | .byt y => y.size ≤ sizeLine ∧ k = ((y.size : Int) != 0)
  | .ref p => (∃ xs, SqL K H p xs ∧ k = !xs.isEmpty) ∨ (∃ xs, SqT K H p xs ∧ k = !xs.isEmpty) ∨ ∃ kvs, H p = some (.dK kvs) ∧ k = !kvs.isEmpty
  | _ => False
theorem isEmpty_kv {κ : Type} {kvs : List (κ × V)} {vs : List (κ × Value)} (r : KV kvs vs) : (!vs.isEmpty) = !kvs.isEmpty := by
  cases r <;> rfl
theorem isEmpty_of {xs : List V} {its : List Value} (r : Vals xs its) : (!its.toArray.isEmpty) = !xs.isEmpty := by
  cases r <;> simp
theorem line63 : (sizeLine : Nat) < 2 ^ 63 := by rw [sizeLine_eq]; decide
theorem tru_ok : TruR X (fun x H Q => ∃ k, TruV X.K x H k ∧ Q k H) := by
  intro pins s σ H x v Q I rx h
  obtain ⟨k, e, q⟩ := h
  have hl := line63
  have hs : sizeLine = 16777216 := sizeLine_eq
  cases x with
  | non =>
    cases rx
    have e' : k = false := e
    subst e'
    exact truthy_none ⟨H, I, q⟩
  | bl b =>
    cases rx
    have e' : k = b := e
    subst e'
    exact wpAny_truthy_bool ⟨H, I, q⟩
  | int i =>
    obtain ⟨t, rfl⟩ := rx
    have e' : k = (i != 0) := e
    subst e'
    exact PySem.P.truthy_int ⟨H, I, q⟩
  | str y =>
    obtain ⟨t, rfl⟩ := rx
    obtain ⟨hy, e'⟩ : y.length ≤ sizeLine ∧ k = ((y.length : Int) != 0) := e
    subst e'
    exact PySem.P.truthy_str (by omega) ⟨H, I.tok _, q⟩
  | byt y =>
    obtain ⟨t, rfl⟩ := rx
    obtain ⟨hy, e'⟩ : y.size ≤ sizeLine ∧ k = ((y.size : Int) != 0) := e
    subst e'
    exact PySem.W.truthy_bytes (by omega) ⟨H, I.tok _, q⟩
  | ref p =>
    cases rx
    have e' : (∃ xs, SqL X.K H p xs ∧ k = !xs.isEmpty) ∨ (∃ xs, SqT X.K H p xs ∧ k = !xs.isEmpty) ∨ ∃ kvs, H p = some (.dK kvs) ∧ k = !kvs.isEmpty := e
    rcases e' with ⟨xs, hx, e'⟩ | ⟨xs, hx, e'⟩ | ⟨kvs, hx, e'⟩
    · subst e'
      obtain ⟨its, r, pl, hz⟩ := I.list hx
      have hlen := r.length
      exact wpAny_truthy_list pl.isList (by simp only [List.size_toArray]; omega) ⟨H, I.tok _, by rw [isEmpty_of r]; exact q⟩
    · subst e'
      obtain ⟨its, r, pl, hz⟩ := I.tuple hx
      have hlen := r.length
      exact truthy_tuple pl (by simp only [List.size_toArray]; omega) ⟨H, I.tok _, by rw [isEmpty_of r]; exact q⟩
    · subst e'
      obtain ⟨hz, hS, vs, r, m⟩ : kvs.length ≤ sizeLine ∧ (p == sysModules) = false ∧ ∃ vs, KV kvs vs ∧ s.heap.DictOf (mixKind X.prog X.w) p vs := I.hok p _ hx
      have hlen : kvs.length = vs.length := Paired.length r
      exact wpAny_truthy_dict hS m (by omega) ⟨H, I.tok _, by rw [isEmpty_kv r]; exact q⟩
  | _ => exact (show False from e).elim
theorem pt_truth (ha : PE X a ta) (he : ∀ whole, isTrue a X.env whole = (do let v ← whole; standAt a.pos; holding [v] (truthy v))) :
    PT X a (fun σ H Q => ta σ H fun x H' => ∃ k, TruV X.K x H' k ∧ Q k H') := by
  intro pins s σ H Q I h
  exact isTrue_plain (thn (ha pins s σ H _ I h) fun v s1 ⟨x, H1, I1, r1, q1⟩ => tru_ok pins s1 σ H1 x v Q I1 r1 q1) (he _)
theorem op_add_str : OpR X (binaryOp .Add) (fun x y H Q => ∃ i j, x = .str i ∧ y = .str j ∧ i.length + j.length ≤ sizeLine ∧ Q (.str (i ++ j)) H) := by
  intro pins s σ H x y v u Q I rx ry h
  obtain ⟨i, j, rfl, rfl, hz, q⟩ := h
  obtain ⟨t, rfl⟩ := rx
  obtain ⟨t', rfl⟩ := ry
  exact add_str (fun t' tk => ⟨.str (i ++ j), H, I.tok _, ⟨_, rfl⟩, q⟩) hz
theorem vals1 {x : V} {us : List Value} (r : Vals [x] us) : ∃ u, us = [u] ∧ RelV x u := by
  cases r with
  | cons r1 r2 => cases r2; exact ⟨_, rfl, r1⟩
theorem vals2 {x y : V} {us : List Value} (r : Vals [x, y] us) : ∃ u w', us = [u, w'] ∧ RelV x u ∧ RelV y w' := by
  cases r with
  | cons r1 r2 =>
    cases r2 with
    | cons r3 r4 => cases r4; exact ⟨_, _, rfl, r1, r3⟩
theorem call_abs : CallR X (.builtin "abs") (fun xs H Q => ∃ i, xs = [.int i] ∧ Q (.int (if i < 0 then -i else i)) H) := by
  intro pins s σ H xs us Q I r h
  obtain ⟨i, rfl, q⟩ := h
  obtain ⟨u, rfl, t, rfl⟩ := vals1 r
  exact call_abs_int fun u tk => ⟨.int (if i < 0 then -i else i), H, I.tok _, ⟨_, rfl⟩, q⟩
end
end L2
namespace L2
open PySem PySem.Spec PyProof.Rows
structure Room (k : Nat) (A : Around) : Prop where
  hd : A.handled = none
  dp : A.depth + 3 * k + 5 < recursionLimit
  un : A.units + 16 * k + 200 < cLine
theorem Room.mono {j k : Nat} {A : Around} (r : Room k A) (h : j ≤ k) : Room j A := ⟨r.hd, by have := r.dp; omega, by have := r.un; omega⟩
theorem Room.deeper {k : Nat} {A : Around} (r : Room (k + 1) A) (env : Env) : Room k (A.deeper env) :=
  ⟨r.hd, by have := r.dp; show A.depth + 1 + 3 * k + 5 < _; omega, by have := r.un; show A.units + 3 + 16 * k + 200 < _; omega⟩
theorem Room.in1 {k : Nat} {A : Around} (r : Room (k + 1) A) : Room k A.in1 :=
  ⟨r.hd, by have := r.dp; show A.depth + 3 * k + 5 < _; omega, by have := r.un; show A.units + 1 + 16 * k + 200 < _; omega⟩
theorem Room.depth {k : Nat} {A : Around} (r : Room k A) : A.depth < recursionLimit := by have := r.dp; omega
theorem Room.units {k : Nat} {A : Around} (r : Room k A) : A.units + 64 < cLine := by have := r.un; omega
def tNil : TA := fun _ H Q => Q [] H
def tCons (ta : TE) (tr : TA) : TA := fun σ H Q => ta σ H fun x H1 => tr σ H1 fun xs H2 => Q (x :: xs) H2
section
variable {X : Cx} {e : Expr} {es : List Expr} {te : TE} {t : TA} {pos : Pos}
theorem pa_nil : PA X [] tNil := fun _ _ _ _ H Q I h => Calls.spliced_nil ⟨[], H, I, .nil, h⟩
theorem pa_cons (ha : PE X e te) (hr : PA X es t) (hs : starEach (e :: es) X.env = (false, eval e X.env) :: starEach es X.env := by rfl) : PA X (e :: es) (tCons te t) := by
  intro pos pins s σ H Q I h
  rw [hs]
  show wpAny _ _ (spliced ((false, eval e X.env) :: backTo pos (starEach es X.env))) _ _ s
  refine Calls.spliced_cons (thn (ha pins s σ H _ I h) fun u s1 ⟨x, H1, I1, r1, q1⟩ => ?_)
  exact thn (hr pos pins s1 σ H1 _ I1 q1) fun us s2 ⟨xs, H2, I2, r2, q2⟩ => ⟨x :: xs, H2, I2, .cons r1 r2, q2⟩
def tTup (t : TA) : TE := fun σ H Q => t σ H fun xs H1 => xs.length ≤ sizeLine ∧ ∀ p, H1 p = none → Q (.ref p) (upd H1 p (.tup xs))
def tLst (t : TA) : TE := fun σ H Q => t σ H fun xs H1 => xs.length ≤ sizeLine ∧ ∀ p, H1 p = none → Q (.ref p) (upd H1 p (.lst xs))
theorem pe_tup {x1} (h : PA X es t) : PE X (.Tuple es x1 pos) (tTup t) := by
  intro pins s σ H Q I hq
  refine wpAny_Tuple_spliced (thn (h pos pins s σ H _ I hq) fun us s1 ⟨xs, H1, I1, r, z, q⟩ => ⟨by rw [← r.length]; exact z, ?_⟩)
  have hf : H1 s1.heap.objs.size = none := I1.hok.fresh (Nat.le_refl _)
  refine ⟨.ref s1.heap.objs.size, upd H1 s1.heap.objs.size (.tup xs), I1.laid (t' := s1.toks) (fun b u e => Heap.get?_push_of_some _ e) (Nat.le_refl _) ?_, rfl, q _ hf⟩
  exact ⟨z, us, r, ⟨_, Heap.get?_push_size _ rfl, rfl, _, rfl⟩⟩
theorem pe_lst (h : PA X es t) : PE X (.List es pos) (tLst t) := by
  intro pins s σ H Q I hq
  refine wpAny_List_spliced (thn (h pos pins s σ H _ I hq) fun us s1 ⟨xs, H1, I1, r, z, q⟩ => ⟨by rw [← r.length]; exact z, ?_⟩)
  have hf : H1 s1.heap.objs.size = none := I1.hok.fresh (Nat.le_refl _)
  refine ⟨.ref s1.heap.objs.size, upd H1 s1.heap.objs.size (.lst xs), I1.laid (t' := s1.toks) (fun b u e => Heap.get?_push_of_some _ e) (Nat.le_refl _) ?_, rfl, q _ hf⟩
  exact ⟨z, us, 0, r, Heap.get?_push_size _ rfl⟩
end
abbrev Sp := List V → Hp → VK → XK → Prop
abbrev CXT := List Env → Hp → Shared → XK → Value → Shared → Prop
structure Env0 (P : Program) (w : World) (K : PySem.W.Frag) (mg : Str → Option Value) (base : Heap) (A : Around) (outer : List Env) (s : Shared) (H : Hp) : Prop where
  frames : A.frames = some outer
  mod : Mod K mg base
  bs : ∀ b o, base.get? b = some o → s.heap.get? b = some o ∧ H b = none
  bsz : base.objs.size ≤ s.heap.objs.size
  funs : s.heap.FunFrames base outer
  frf : ∀ b ∈ frs outer, H b = none
  hok : HOk P w H s.heap
  bare : AllBare s.gens
def CE (outer : List Env) (P : Program) (w : World) (H : Hp) (s : Shared) (Q : VK) (u : Value) (s' : Shared) : Prop :=
  ∃ v H', s'.os = s.os ∧ AllBare s'.gens ∧ Un (frs outer) [] H H' s.heap s'.heap ∧ HOk P w H' s'.heap ∧ RelV v u ∧ Q v H'
def CR (CX : CXT) (outer : List Env) (P : Program) (w : World) (H : Hp) (s : Shared) (Q : VK) (E : XK) (r : Result) (s' : Shared) : Prop :=
  match r with
  | .ok (.ret u) => CE outer P w H s Q u s'
  | .ok _ => False
  | .error e => CX outer H s E e s'
structure FnOk (P : Program) (w : World) (K : PySem.W.Frag) (mg : Str → Option Value) (base : Heap) (CX : CXT) (k : Nat) (f : Addr) (fd : FuncData) (ps : List Str) (sp : Sp) : Prop where
  len : ∀ vs H Q E, sp vs H Q E → vs.length = ps.length
  run : ∀ (A : Around) (outer : List Env) (s : Shared) (H : Hp) (args : Args) (us : List Value) (vs : List V) (Q : VK) (E : XK), Room k A → Env0 P w K mg base A outer s H → BindsTo s fd args (ps.zip us) → Vals vs us → sp vs H Q E →
    codeAny (model P w) A (.call (.ref f) args) (CR CX outer P w H s Q E) s
theorem FnOk.imp {P : Program} {w : World} {K : PySem.W.Frag} {mg : Str → Option Value} {base : Heap} {CX : CXT} {k : Nat} {f : Addr} {fd : FuncData} {ps : List Str} {sp sp' : Sp} (F : FnOk P w K mg base CX k f fd ps sp)
    (h : ∀ vs H Q E, sp' vs H Q E → sp vs H Q E) : FnOk P w K mg base CX k f fd ps sp' :=
  ⟨fun vs H Q E q => F.len vs H Q E (h _ _ _ _ q), fun A outer s H args us vs Q E hr he hb hv hs => F.run A outer s H args us vs Q E hr he hb hv (h _ _ _ _ hs)⟩
theorem Env0.in1 {P : Program} {w : World} {K : PySem.W.Frag} {mg : Str → Option Value} {base : Heap} {A : Around} {outer : List Env} {s : Shared} {H : Hp} (e : Env0 P w K mg base A outer s H) :
    Env0 P w K mg base A.in1 outer s H := ⟨e.frames, e.mod, e.bs, e.bsz, e.funs, e.frf, e.hok, e.bare⟩
section
variable {X : Cx} {pins : List (Addr × Obj)} {σ : St} {H : Hp} {s s' : Shared}
theorem Inv.env0 (I : Inv X pins σ H s) : Env0 X.prog X.w X.K X.mg X.base X.A X.stack s H :=
  ⟨I.ok.frames, I.ok.mod, I.bs, Nat.le_trans I.ok.bsz I.sz, I.stack, I.stkFree, I.hok, I.bare⟩
theorem Inv.after {Q : VK} {u : Value} (I : Inv X pins σ H s) (h : CE X.stack X.prog X.w H s Q u s') : EP X pins σ Q u s' := by
  obtain ⟨v, H', os, bare, un, hok, r, q⟩ := h
  obtain ⟨hh, g, d, t, os'⟩ := s'
  obtain rfl : os' = s.os := os
  exact ⟨v, H', I.call (h' := hh) (g' := g) (d' := d) (t' := t) (ch := []) un hok bare (fun b z => absurd z (by simp)), r, q⟩
end
def tCall (sp : Sp) (dvs : List V) (E : XK) (t : TA) : TE := fun σ H Q => t σ H fun vs H1 => sp (vs ++ dvs) H1 Q E
def Binds (K : PySem.W.Frag) (fd : FuncData) (ps : List Str) (ds : List Value) : Prop :=
  ∀ (s : Shared) (us : List Value), K.In s.heap → (us ++ ds).length = ps.length → BindsTo s fd ⟨us, []⟩ (ps.zip (us ++ ds))
theorem Binds.all {K : PySem.W.Frag} {fd : FuncData} {ps : List Str} (h : ∀ us : List Value, us.length = ps.length → bindArgs fd ⟨us, []⟩ = pure (ps.zip us)) : Binds K fd ps [] := fun s us _ hl => by
  rw [List.append_nil] at hl ⊢
  exact .of_eq (h us hl)
def Passes (CX : CXT) (X : Cx) (E : XK) : Prop := ∀ (pins : List (Addr × Obj)) (σ : St) (H : Hp) (s : Shared) (e : Value) (s' : Shared), Inv X pins σ H s → CX X.stack H s E e s' → X.xe e s'
section
variable {X : Cx} {CX : CXT} {k : Nat} {f C : Addr} {fd : FuncData} {ps : List Str} {sp : Sp} {dvs : List V} {ds : List Value} {E : XK} {x m : Str} {p pos apos : Pos} {e o : Expr} {es : List Expr} {ta : TE} {t : TA}
theorem run_fn {pins : List (Addr × Obj)} {σ : St} {H : Hp} {s : Shared} {Q : VK} {us : List Value} {vs : List V} (F : FnOk X.prog X.w X.K X.mg X.base CX k f fd ps sp) (hr : Room k X.A) (hb : Binds X.K fd ps ds) (hd : Vals dvs ds) (hx : Passes CX X E)
    (I : Inv X pins σ H s) (r : Vals vs us) (h : sp (vs ++ dvs) H Q E) : wpAny (model X.prog X.w) X.A (call (.ref f) us) (EP X pins σ Q) X.xe s := by
  have r2 : Vals (vs ++ dvs) (us ++ ds) := r.append hd
  have hl : (us ++ ds).length = ps.length := by rw [← r2.length]; exact F.len _ _ _ _ h
  refine wpAny_call (codeAny_mono (F.run X.A X.stack s H ⟨us, []⟩ (us ++ ds) (vs ++ dvs) Q E hr I.env0 (hb s us I.kIn hl) r2 h) fun r s' hq => ?_)
  cases r with
  | error e => exact hx pins σ H s e s' I hq
  | ok fl =>
    cases fl with
    | ret u => exact I.after hq
    | next => exact False.elim hq
    | brk => exact False.elim hq
    | cont => exact False.elim hq
theorem pe_call (F : FnOk X.prog X.w X.K X.mg X.base CX k f fd ps sp) (hr : Room k X.A) (hg : Gl X x) (hm : X.mg x = some (.ref f)) (hk : PySem.W.keepIn X.K (.ref f) = true) (hb : Binds X.K fd ps ds) (hd : Vals dvs ds) (hx : Passes CX X E)
    (ha : PA X (e :: es) t) (hdb : (x == ("__debug__" : Str)) = false := by decide) (he : starEach (e :: es) X.env = (false, eval e X.env) :: starEach es X.env := by rfl) (hpl : (backTo pos (starEach es X.env)).any (·.1) = false := by rfl) :
    PE X (.Call (.Name x p) (e :: es) [] pos) (tCall sp dvs E t) := by
  intro pins s σ H Q I h
  refine wpAny_Call_Name_kw (ld_glob I hg hm ?_ hdb)
  refine PySem.W.callWith_K (h₀ := X.base) I.ok.mod.kin hk (thn (ha pos pins s σ H _ I h) fun us s1 ⟨vs, H1, I1, r, q⟩ => ⟨I1.kIn, ?_⟩) he hpl
  exact run_fn F hr hb hd hx I1 r q
end
structure FnScope (N P : List Str) (sc : Scope) : Prop where
  kind : sc.kind = .function
  co : sc.isCoroutine = false
  gen : sc.isGenerator = false
  nd : N.Nodup
  pre : N.take P.length = P
  par : ∀ x ∈ P, sc.names.lookup x = some .local ∨ sc.names.lookup x = some .cell
  nofree : ∀ y ∈ sc.names, y.2 ≠ .free
theorem bindL_out {kindOf : Str → Option NameKind} {x : Str} : ∀ {binds : List (Str × Value)} {m : Str → Option Value}, (∀ v, (x, v) ∉ binds) → bindL kindOf binds m x = m x
  | [], _, _ => rfl
  | (n, v) :: r, m, h => by
    unfold bindL
    rw [bindL_out fun w hw => h w (List.mem_cons_of_mem _ hw)]
    split
    · have : x ≠ n := by rintro rfl; exact h v List.mem_cons_self
      simp [this]
    · rfl
theorem bindC_out {kindOf : Str → Option NameKind} {x : Str} : ∀ {binds : List (Str × Value)} {m : Str → Option Value}, (∀ v, (x, v) ∉ binds) → bindC kindOf binds m x = m x
  | [], _, _ => rfl
  | (n, v) :: r, m, h => by
    unfold bindC
    rw [bindC_out fun w hw => h w (List.mem_cons_of_mem _ hw)]
    split
    · rfl
    · have : x ≠ n := by rintro rfl; exact h v List.mem_cons_self
      simp [this]
theorem bindL_get {kindOf : Str → Option NameKind} {x : Str} {v : Value} : ∀ {P : List Str} {vs : List Value} {i : Nat} {m : Str → Option Value}, P.Nodup → P[i]? = some x → vs[i]? = some v → kindOf x = some .local →
    bindL kindOf (P.zip vs) m x = some v
  | [], _, _, _, _, h, _, _ => by simp at h
  | _ :: _, [], _, _, _, _, h, _ => by simp at h
  | p :: P, w :: vs, 0, m, nd, h1, h2, hk => by
    simp at h1 h2; subst h1; subst h2
    show bindL kindOf ((p, w) :: P.zip vs) m p = _
    unfold bindL
    rw [bindL_out fun v hv => (List.nodup_cons.mp nd).1 (List.of_mem_zip hv).1, if_pos hk]
    simp
  | p :: P, w :: vs, i + 1, m, nd, h1, h2, hk => by
    show bindL kindOf ((p, w) :: P.zip vs) m x = _
    unfold bindL
    exact bindL_get (i := i) (List.nodup_cons.mp nd).2 (by simpa using h1) (by simpa using h2) hk
theorem bindC_get {kindOf : Str → Option NameKind} {x : Str} {v : Value} : ∀ {P : List Str} {vs : List Value} {i : Nat} {m : Str → Option Value}, P.Nodup → P[i]? = some x → vs[i]? = some v → kindOf x ≠ some .local →
    bindC kindOf (P.zip vs) m x = some v
  | [], _, _, _, _, h, _, _ => by simp at h
  | _ :: _, [], _, _, _, _, h, _ => by simp at h
  | p :: P, w :: vs, 0, m, nd, h1, h2, hk => by
    simp at h1 h2; subst h1; subst h2
    show bindC kindOf ((p, w) :: P.zip vs) m p = _
    unfold bindC
    rw [bindC_out fun v hv => (List.nodup_cons.mp nd).1 (List.of_mem_zip hv).1, if_neg hk]
    simp
  | p :: P, w :: vs, i + 1, m, nd, h1, h2, hk => by
    show bindC kindOf ((p, w) :: P.zip vs) m x = _
    unfold bindC
    exact bindC_get (i := i) (List.nodup_cons.mp nd).2 (by simpa using h1) (by simpa using h2) hk
def start (N : List Str) (vs : List V) : St := vs.map some ++ List.replicate (N.length - vs.length) none
def cxOf (CX : CXT) (P : Program) (w : World) (K : PySem.W.Frag) (mg : Str → Option Value) (base : Heap) (N : List Str) (qual : Str) (scope : Scope) (f : Addr) (cd : Value) (A : Around) (outer : List Env) (s : Shared) (H : Hp) (E : XK) : Cx where
  prog := P
  w := w
  K := K
  mg := mg
  base := base
  A := A.deeper (envOfC qual scope s.heap.objs.size f cd)
  N := N
  s₀ := s
  H₀ := H
  env := envOfC qual scope s.heap.objs.size f cd
  outer := outer
  stack := envOfC qual scope s.heap.objs.size f cd :: outer
  ex := []
  calm := true
  fn := fun _ => true
  pn := []
  xe := fun e s' => wpAny (model P w) (A.deeper (envOfC qual scope s.heap.objs.size f cd)) (leaving (envOfC qual scope s.heap.objs.size f cd) e) (fun _ s'' => CX outer H s E e s'') (fun e' s'' => CX outer H s E e' s'') s'
theorem cell_has {sc : Scope} {n : Nat} {x : Str} (h : sc.names.lookup x = some .cell) : ∃ c, (cellsFrom n sc.names []).lookup x = some c := by
  have q := PySem.W.cellsFrom_some sc.names n [] (.inl h)
  exact Option.isSome_iff_exists.mp q
theorem inv_start {CX : CXT} {P : Program} {w : World} {K : PySem.W.Frag} {mg : Str → Option Value} {base : Heap} {N ps : List Str} {qual : Str} {scope : Scope} {f : Addr} {cd : Value} {A : Around} {outer : List Env} {s s1 : Shared} {H : Hp} {E : XK} {us : List Value} {vs : List V}
    (S : FnScope N ps scope) (hd : A.handled = none) (e0 : Env0 P w K mg base A outer s H) (hl : vs.length = ps.length) (r : Vals vs us)
    (x : InCallC s s.heap.objs.size (bindL (envOfC qual scope s.heap.objs.size f cd).kindOf (ps.zip us) fun _ => none) (cellsFrom (s.heap.objs.size + 1) scope.names []) (bindC (envOfC qual scope s.heap.objs.size f cd).kindOf (ps.zip us) fun _ => none) s1) :
    Inv (cxOf CX P w K mg base N qual scope f cd A outer s H E) [] (start N vs) H s1 := by
  have hpl : ps.length ≤ N.length := by have := congrArg List.length S.pre; rw [List.length_take] at this; omega
  obtain ⟨h1, tk, rfl, hk⟩ := x.done
  have noA : ∀ b : Addr, b ∉ (cxOf CX P w K mg base N qual scope f cd A outer s H E).ex := fun b z => absurd (show b ∈ ([] : List Addr) from z) (by simp)
  refine ⟨⟨e0.mod, S.kind, rfl, rfl, Nat.le_refl _, fun y z c h1 h2 => ?_, fun y hy => ?_, fun y c _ h => ?_, fun _ => hd, Around.frames_deeper e0.frames, .inr ⟨rfl, rfl⟩, fun b z => absurd z (noA b), e0.bs, e0.bsz, fun b _ _ => noA b, fun b z => absurd z (noA b), e0.funs, e0.frf⟩,
    rfl, e0.bare, Un.kept hk, ⟨_, x.toInCall.ns, fun i y v h1 h2 h3 => ?_⟩, fun y c h => ⟨_, x.cell y c h⟩, e0.hok.fresh (Nat.le_refl _), fun y c h => ?_, fun p hp => absurd (show p ∈ ([] : List (Addr × Obj)) from hp) (by simp), e0.hok.kept hk, ?_⟩
  · exact name_of_addr x.apart (PySem.mem_of_lookup h1) (PySem.mem_of_lookup h2)
  · have hy : scope.names.lookup y = some .cell ∨ scope.names.lookup y = some .free := hy
    rcases hy with hy | hy
    · exact cell_has hy
    · exact absurd rfl (S.nofree _ (PySem.mem_of_lookup hy))
  · exact Nat.le_of_lt (x.above y c (PySem.mem_of_lookup h))
  · have hi : i < vs.length := by
      unfold start at h2
      by_cases hi : i < vs.length
      · exact hi
      · rw [List.getElem?_append_right (by simpa using hi)] at h2
        rw [List.getElem?_replicate] at h2
        split at h2 <;> cases h2
    have ha : vs[i]? = some v := by
      unfold start at h2
      rw [List.getElem?_append_left (by simpa using hi), List.getElem?_map] at h2
      cases e : vs[i]? with
      | none => rw [e] at h2; cases h2
      | some a => rw [e] at h2; cases h2; rfl
    obtain ⟨u, hu, rv⟩ := r.get ha
    have hp : ps[i]? = some y := by
      rw [← S.pre, List.getElem?_take_of_lt (by omega)]; exact h1
    have ndP : ps.Nodup := by rw [← S.pre]; exact S.nd.sublist (List.take_sublist _ _)
    refine ⟨u, rv, ?_⟩
    rcases S.par y (List.mem_of_getElem? hp) with k | k
    · exact .inl ⟨k, bindL_get ndP hp hu k⟩
    · obtain ⟨c, e⟩ := cell_has (n := s.heap.objs.size + 1) k
      refine .inr ⟨.inl k, c, e, ?_⟩
      have q := x.cell y c e
      rw [bindC_get ndP hp hu (by show scope.names.lookup y ≠ _; rw [k]; decide)] at q
      exact q
  · exact e0.hok.fresh (Nat.le_of_lt (x.above y c (PySem.mem_of_lookup h)))
  · unfold start
    show _ = N.length
    rw [List.length_append, List.length_map, List.length_replicate]
    omega
theorem fn_of {CX : CXT} {P : Program} {w : World} {K : PySem.W.Frag} {mg : Str → Option Value} {base : Heap} {k : Nat} {f : Addr} {name qual : Str} {params : Arguments} {body : List Stmt} {scope : Scope} {dV kV doc pm cdv ct oc : Value} {an od : Option Addr}
    {osl : Array (Option Value)} {N ps : List Str} {sp : Sp} (lk : K.lookup f = some ⟨oc, od, .func (PySem.W.fnOf name qual params body scope dV kV doc pm an cdv ct), osl⟩) (hcd : PySem.W.codeIn K cdv qual = true) (S : FnScope N ps scope)
    (len : ∀ vs H Q E, sp vs H Q E → vs.length = ps.length)
    (hbody : ∀ (A : Around) (outer : List Env) (s : Shared) (H : Hp) (vs : List V) (Q : VK) (E : XK), Room k (A.deeper (envOfC qual scope s.heap.objs.size f cdv)) → sp vs H Q E →
      ∃ t, PSs (cxOf CX P w K mg base N qual scope f cdv A outer s H E) body t ∧ t { nx := fun _ H' => Q .non H', rt := Q } (start N vs) H) :
    FnOk P w K mg base CX (k + 1) f (PySem.W.fnOf name qual params body scope dV kV doc pm an cdv ct) ps sp := by
  refine ⟨len, fun A outer s H args us vs Q E hr e0 hb r hsp => ?_⟩
  have hl := len _ _ _ _ hsp
  have KX : K.In s.heap := e0.mod.kin.keeps fun b o e => (e0.bs b o e).1
  have lim : s.heap.NoLimit := e0.mod.nolimit.keeps fun b o e => (e0.bs b o e).1
  have hkind : ∀ y ∈ ps.zip us, scope.names.lookup y.1 = some .local ∨ (scope.names.lookup y.1 = some .cell ∧ ((cellsFrom (s.heap.objs.size + 1) scope.names []).lookup y.1).isSome = true) := fun ⟨n, v⟩ hy => by
    rcases S.par n (List.of_mem_zip hy).1 with q | q
    · exact .inl q
    · exact .inr ⟨q, PySem.W.cellsFrom_some _ _ _ (.inl q)⟩
  refine codeAny_call_function hr.depth (KX _ _ lk) rfl S.co S.gen rfl (PySem.W.codeRec_of KX hcd) (hb _ _ _ _ ?_)
  refine wpAny_newFunctionEnv_cells S.kind hkind fun env he s1 x => ?_
  subst he
  refine ⟨lim.keeps x.toInCall.keep, codeAny_func ?_⟩
  obtain ⟨t, ht, hq⟩ := hbody A outer s H vs Q E (hr.deeper _) hsp
  have I : Inv (cxOf CX P w K mg base N qual scope f cdv A outer s H E) [] (start N vs) H s1 := inv_start S hr.hd e0 hl r x
  refine wpAny_mono (ht [] s1 (start N vs) H _ I hq) (fun fl s' hs => ?_) fun e s' hs => hs
  have fin : ∀ {σ' : St} {H' : Hp} {v : V} {u : Value}, Inv (cxOf CX P w K mg base N qual scope f cdv A outer s H E) [] σ' H' s' → RelV v u → Q v H' → CE outer P w H s Q u s' :=
    fun {σ' H' v u} J rv q => ⟨v, H', J.os, J.bare, J.base, J.hok, rv, q⟩
  cases fl with
  | ret u =>
    obtain ⟨v, σ', H', J, rv, q⟩ := hs
    exact fin J rv q
  | next =>
    obtain ⟨σ', H', J, q⟩ := hs
    exact fin (v := V.non) (u := Value.none) J rfl q
  | brk =>
    obtain ⟨_, _, _, q⟩ := hs
    exact False.elim q
  | cont =>
    obtain ⟨_, _, _, q⟩ := hs
    exact False.elim q
end L2
namespace L2
open PySem PySem.Spec PyProof.Rows
section
variable {X : Cx} {x : Str} {p pos : Pos} {e : Expr} {es : List Expr} {t : TA} {id T : String} {r : List V → Hp → VK → Prop}
def tCB (r : List V → Hp → VK → Prop) (t : TA) : TE := fun σ H Q => t σ H fun vs H1 => r vs H1 Q
theorem pe_callB (hc : CallR X (.builtin id) r) (hg : Gl X x) (hm : X.mg x = none) (hv : bootBuiltins x = some (.builtin id)) (ha : PA X (e :: es) t) (hn : x ≠ "__name__" := by decide) (hdb : (x == ("__debug__" : Str)) = false := by decide)
    (he : starEach (e :: es) X.env = (false, eval e X.env) :: starEach es X.env := by rfl) (hpl : (backTo pos (starEach es X.env)).any (·.1) = false := by rfl) : PE X (.Call (.Name x p) (e :: es) [] pos) (tCB r t) := by
  intro pins s σ H Q I h
  refine wpAny_Call_Name_kw (ld_blt I hg hm hv ?_ hn hdb)
  exact PyProof.Rows.callWith_builtin1 (thn (ha pos pins s σ H _ I h) fun us s1 ⟨vs, H1, I1, r1, q1⟩ => hc pins s1 σ H1 vs us Q I1 r1 q1) he hpl
theorem pe_callTy (hc : CallR X (.type T) r) (hg : Gl X x) (hm : X.mg x = none) (hv : bootBuiltins x = some (.type T)) (ha : PA X (e :: es) t) (hn : x ≠ "__name__" := by decide) (hdb : (x == ("__debug__" : Str)) = false := by decide)
    (he : starEach (e :: es) X.env = (false, eval e X.env) :: starEach es X.env := by rfl) (hpl : (backTo pos (starEach es X.env)).any (·.1) = false := by rfl) : PE X (.Call (.Name x p) (e :: es) [] pos) (tCB r t) := by
  intro pins s σ H Q I h
  refine wpAny_Call_Name_kw (ld_blt I hg hm hv ?_ hn hdb)
  exact PyProof.Rows.callWith_type1 (thn (ha pos pins s σ H _ I h) fun us s1 ⟨vs, H1, I1, r1, q1⟩ => hc pins s1 σ H1 vs us Q I1 r1 q1) he hpl
end
end L2
namespace HT
open PySem PyProof.Rows
section
variable {prog : Program} {w : World} {A : Around} {E : Value → Shared → Prop} {s : Shared}
theorem cat_tup {t b : Addr} {vs ws : List Value} {Q : Value → Shared → Prop} (ht : IsTup s.heap t vs.toArray) (hb : IsTup s.heap b ws.toArray) (hv : vs ≠ [])
    (h1 : ws = [] → Q (.ref t) s) (h2 : ws ≠ [] → Q (.ref s.heap.objs.size) { s with heap := s.heap.push { cls := .type "tuple", data := .seq (vs ++ ws).toArray } })
    (hsz : vs.length + ws.length ≤ sizeLine) : wpAny (model prog w) A (binaryOp .Add (.ref t) (.ref b)) Q E s := by
  obtain ⟨⟨cls, dd, data, sl⟩, ho, hc, n, hd⟩ := id ht
  obtain ⟨⟨cls2, dd2, data2, sl2⟩, ho2, hc2, n2, hd2⟩ := id hb
  simp only at hc hd hc2 hd2
  subst hc hd hc2 hd2
  have e : vs.toArray ++ ws.toArray = (vs ++ ws).toArray := by simp
  by_cases hw : ws = []
  · exact concat_meets ⟨_, ho, rfl⟩ ⟨_, ho2, rfl⟩ noFill_tuple_add seq_tuple_add PySem.F.slot_tuple_add PySem.F.entry_tuple_add (PySem.F.args_tuple_add_2 _ _)
      (tuple_addW1 t b vs.toArray ws.toArray n n2 dd dd2 sl sl2 (by simpa using hv) (by simp [hw])) ⟨ho, ho2, h1 hw⟩
  · refine concat_meets ⟨_, ho, rfl⟩ ⟨_, ho2, rfl⟩ noFill_tuple_add seq_tuple_add PySem.F.slot_tuple_add PySem.F.entry_tuple_add (PySem.F.args_tuple_add_2 _ _)
      (tuple_addW2 t b vs.toArray ws.toArray n n2 dd dd2 sl sl2 (by simpa using hv) (by simpa using hw) (by rw [List.size_toArray, List.size_toArray]; exact hsz)) ⟨ho, ho2, ?_⟩
    rw [e]
    exact h2 hw
def sIx (n d : Nat) : Option Int → Nat
  | none => d
  | some v => if v < 0 then (v + (n : Int)).toNat else min v.toNat n
theorem sIx_le (n d : Nat) (hd : d ≤ n) (o : Option Int) : sIx n d o ≤ n := by
  cases o with
  | none => exact hd
  | some v =>
    show (if v < 0 then (v + (n : Int)).toNat else min v.toNat n) ≤ n
    by_cases hv : v < 0
    · rw [if_pos hv]; omega
    · rw [if_neg hv]; exact Nat.min_le_right _ _
theorem clip_eq (v : Int) (n d : Nat) : (if v < 0 then max (v + (n : Int)) 0 else min v (n : Int)) = ((sIx n d (some v) : Nat) : Int) := by
  show (if v < 0 then max (v + (n : Int)) 0 else min v (n : Int)) = (((if v < 0 then (v + (n : Int)).toNat else min v.toNat n) : Nat) : Int)
  by_cases hv : v < 0
  · simp only [if_pos hv]; omega
  · simp only [if_neg hv]; omega
theorem adjust_gen (lo hi : Option Int) (n : Nat) : Builtin.Slice.sliceAdjust lo hi 1 (n : Int) = (((sIx n 0 lo : Nat) : Int), ((sIx n n hi : Nat) : Int)) := by
  have h1 : ¬ ((1 : Int) < 0) := by omega
  unfold Builtin.Slice.sliceAdjust
  simp only [h1, if_false]
  refine Prod.ext ?_ ?_
  · cases lo with
    | none => rfl
    | some v => exact clip_eq v n 0
  · cases hi with
    | none => rfl
    | some v => exact clip_eq v n n
theorem places_gen (i j : Nat) : Builtin.Slice.slicePlaces (i : Int) (j : Int) 1 = j - i := by
  unfold Builtin.Slice.slicePlaces
  have h1 : (1 : Int) > 0 := by omega
  simp only [h1, if_true, Int.ediv_one]
  split <;> omega
theorem slicePart_ {v : Value} {o : Option Int} {Q : Option Int → Shared → Prop} (p : IsPart v o) (h : Q o s) : wpAny (model prog w) A (Builtin.Slice.slicePartIndex v) Q E s := by
  cases p with
  | none => exact slicePart_none h
  | int i t => exact slicePart_int h
theorem sliceApplied_gen {sl : Addr} {vl vu : Value} {lo hi : Option Int} {n : Nat} {Q : Int × Int × Nat → Shared → Prop} (hs : s.heap.IsSliceOf sl vl vu .none) (pl : IsPart vl lo) (pu : IsPart vu hi)
    (h : Q (((sIx n 0 lo : Nat) : Int), 1, sIx n n hi - sIx n 0 lo) s) : wpAny (model prog w) A (Builtin.Slice.sliceApplied (.ref sl) (pure (n : Int))) Q E s := by
  obtain ⟨os, hos, hcs, hds⟩ := id hs
  unfold Builtin.Slice.sliceApplied Builtin.Slice.sliceFields
  refine wpAny_bind (wpAny_bind (wpAny_field hos hds (x := vl) rfl (wpAny_bind (wpAny_field hos hds (x := vu) rfl (wpAny_bind (wpAny_field hos hds (x := .none) rfl (wpAny_pure ?_)))))))
  refine wpAny_bind (slicePart_none ?_)
  show wpAny _ _ (if ((1 : Int) == 0) = true then _ else _) _ _ s
  rw [if_neg (by decide)]
  refine wpAny_bind (slicePart_ pl (wpAny_bind (slicePart_ pu (wpAny_bind (wpAny_pure ?_)))))
  show wpAny _ _ (match Builtin.Slice.sliceAdjust lo hi 1 (n : Int) with | (lo, hi) => pure (lo, (1 : Int), Builtin.Slice.slicePlaces lo hi 1)) _ _ s
  rw [adjust_gen lo hi n]
  show wpAny _ _ (pure (((sIx n 0 lo : Nat) : Int), (1 : Int), Builtin.Slice.slicePlaces ((sIx n 0 lo : Nat) : Int) ((sIx n n hi : Nat) : Int) 1)) _ _ s
  rw [places_gen]
  exact wpAny_pure h
theorem pick_gen (xs : Array Value) (i k : Nat) : ((List.range k).filterMap fun (m : Nat) => xs[((i : Int) + (m : Int) * 1).toNat]?).toArray = ((xs.toList.drop i).take k).toArray := by
  have e : (fun (m : Nat) => xs[((i : Int) + (m : Int) * 1).toNat]?) = fun m => xs[i + m]? := by
    funext m
    have : ((i : Int) + (m : Int) * 1).toNat = i + m := by omega
    rw [this]
  rw [e]
  have := pick_run xs i k
  rw [List.filterMap_map] at this
  have e2 : ((fun x => xs[x]?) ∘ fun x => i + x) = fun m => xs[i + m]? := rfl
  rw [e2] at this
  rw [this]
theorem getItem_tuple_cut {t sl : Addr} {items : Array Value} {vl vu : Value} {lo hi : Option Int} {Q : Value → Shared → Prop} (ht : IsTup s.heap t items) (hs : s.heap.IsSliceOf sl vl vu .none) (pl : IsPart vl lo) (pu : IsPart vu hi)
    (hw : ¬ (sIx items.size 0 lo = 0 ∧ sIx items.size items.size hi = items.size))
    (h : Q (.ref s.heap.objs.size) { s with heap := s.heap.push { cls := .type "tuple", data := .seq ((items.toList.drop (sIx items.size 0 lo)).take (sIx items.size items.size hi - sIx items.size 0 lo)).toArray } })
    (hsz : items.size ≤ sizeLine) : wpAny (model prog w) A (getItem (.ref t) (.ref sl)) Q E s := by
  have htake : sizeOk (.seq ((items.toList.drop (sIx items.size 0 lo)).take (sIx items.size items.size hi - sIx items.size 0 lo)).toArray) := by
    show ((items.toList.drop (sIx items.size 0 lo)).take (sIx items.size items.size hi - sIx items.size 0 lo)).toArray.size ≤ sizeLine
    rw [List.size_toArray, List.length_take, List.length_drop, Array.length_toList]
    omega
  have hj : sIx items.size items.size hi ≤ items.size := sIx_le _ _ (Nat.le_refl _) hi
  obtain ⟨os, hos, hcs, hds⟩ := id hs
  have hTs : s.TypeIs (.ref sl) "slice" := ⟨os, hos, hcs⟩
  unfold getItem
  try with_reducible refine wpAny_holding ?_
  first | refine wpAny_bind (wpAny_pure ?_) | skip
  refine wpAny_bind (wpAny_sequenceKey ht.typeIs (by decide) ?_)
  refine wpAny_bind (wpAny_callSpecial?_slot (name := Str.ofString "__getitem__") ht.typeIs PyProof.Rows.slot_tuple_getitem
    (wpAny_call_entry PyProof.Rows.slot_tuple_getitem ht.typeIs entry_tuple_getitem ?_ (args_tuple_getitem _ _)))
  show wpAny _ _ (Builtin.Tuple.tupleItemsOf (.ref t) >>= _) _ _ s
  refine wpAny_bind (tupleItemsOf_ ht ?_)
  refine wpAny_bind (wpAny_typeOf hTs ?_)
  rw [if_pos (by decide)]
  refine wpAny_bind (sliceApplied_gen hs pl pu ?_)
  have hno : ¬ ((((sIx items.size 0 lo : Nat) : Int) == 0 && (1 : Int) == 1 && (sIx items.size items.size hi - sIx items.size 0 lo) == items.size) = true) := by
    intro q
    rw [Bool.and_eq_true, Bool.and_eq_true] at q
    have q1 : ((sIx items.size 0 lo : Nat) : Int) = 0 := eq_of_beq q.1.1
    have q2 : sIx items.size items.size hi - sIx items.size 0 lo = items.size := eq_of_beq q.2
    exact hw ⟨by omega, by omega⟩
  show wpAny _ _ (if (((sIx items.size 0 lo : Nat) : Int) == 0 && (1 : Int) == 1 && (sIx items.size items.size hi - sIx items.size 0 lo) == items.size) = true then _ else _) _ _ s
  rw [if_neg hno, pick_gen]
  first
    | exact wpAny_bind (m := Builtin.Tuple.tupleExact _) (wpAny_newObj_type (wpAny_pure ⟨_, rfl, wpAny_pure h⟩) htake)
    | exact wpAny_bind (m := Builtin.Tuple.tupleExact _) (wpAny_newObj_type (wpAny_bind (wpAny_pure (wpAny_pure ⟨_, rfl, wpAny_pure h⟩))) htake)
    | exact wpAny_bind (wpAny_bind (m := Builtin.Tuple.tupleExact _) (wpAny_newObj_type (wpAny_pure (wpAny_pure ⟨_, rfl, wpAny_pure h⟩)) htake))
    | exact wpAny_bind (wpAny_bind (m := Builtin.Tuple.tupleExact _) (wpAny_newObj_type (wpAny_pure ⟨_, rfl, wpAny_pure h⟩) htake))
end
end HT
namespace L2
open PySem PySem.Spec PyProof.Rows
abbrev TO := St → Hp → (Option Int → Hp → Prop) → Prop
def PO (X : Cx) (e : Option Expr) (t : TO) : Prop :=
  ∀ (pins : List (Addr × Obj)) (s : Shared) (σ : St) (H : Hp) (Q : Option Int → Hp → Prop), Inv X pins σ H s → t σ H Q →
    wpAny (model X.prog X.w) X.A (evalPart e X.env) (fun u s' => ∃ o H', Inv X pins σ H' s' ∧ IsPart u o ∧ Q o H') X.xe s
def tNoPart : TO := fun _ H Q => Q none H
def tPart (t : TE) : TO := fun σ H Q => t σ H fun x H1 => ∃ i, x = .int i ∧ Q (some i) H1
section
variable {X : Cx} {e : Expr} {te : TE} {lo hi : Option Expr} {tl th : TO} {pos p2 : Pos}
theorem po_none : PO X none tNoPart := by
  intro pins s σ H Q I h
  rw [evalPart_none]
  exact wpAny_pure ⟨none, H, I, .none, h⟩
theorem po_some (h : PE X e te) : PO X (some e) (tPart te) := by
  intro pins s σ H Q I hw
  rw [evalPart_some]
  refine thn (h pins s σ H _ I hw) fun u s1 ⟨x, H1, I1, r1, q1⟩ => ?_
  obtain ⟨i, rfl, q⟩ := q1
  obtain ⟨t, rfl⟩ := r1
  exact ⟨some i, H1, I1, .int i t, q⟩
def SlR (X : Cx) (r : V → Option Int → Option Int → Hp → VK → Prop) : Prop :=
  ∀ (pins : List (Addr × Obj)) (s : Shared) (σ : St) (H : Hp) (x : V) (v vl vu : Value) (lo hi : Option Int) (sl : Addr) (Q : VK), Inv X pins σ H s → RelV x v → s.heap.IsSliceOf sl vl vu .none → IsPart vl lo → IsPart vu hi → r x lo hi H Q →
    ∃ T id, typeLookup (.type T) "__getitem__" = pure (some (.builtin id)) ∧ s.TypeIs v T ∧ wpAny (model X.prog X.w) X.A (getItem v (.ref sl)) (EP X pins σ Q) X.xe s
theorem SlR.or {r r' : V → Option Int → Option Int → Hp → VK → Prop} (h : SlR X r) (h' : SlR X r') : SlR X (fun x lo hi H Q => r x lo hi H Q ∨ r' x lo hi H Q) := by
  intro pins s σ H x v vl vu lo hi sl Q I rx hs pl pu q
  rcases q with q | q
  · exact h pins s σ H x v vl vu lo hi sl Q I rx hs pl pu q
  · exact h' pins s σ H x v vl vu lo hi sl Q I rx hs pl pu q
def tSl (r : V → Option Int → Option Int → Hp → VK → Prop) (te : TE) (tl th : TO) : TE := fun σ H Q => te σ H fun x H1 => tl σ H1 fun l H2 => th σ H2 fun u H3 => r x l u H3 Q
theorem pe_slice {r : V → Option Int → Option Int → Hp → VK → Prop} (hr : SlR X r) (he : PE X e te) (hl : PO X lo tl) (hu : PO X hi th) : PE X (.Subscript e (.Slice lo hi none p2) pos) (tSl r te tl th) := by
  intro pins s σ H Q I h
  refine Subscript_ (thn (he pins s σ H _ I h) fun v s1 ⟨x, H1, I1, r1, q1⟩ => ?_)
  refine wpAny_Slice (thn (hl pins s1 σ H1 _ I1 q1) fun vl s2 ⟨l, H2, I2, pl, q2⟩ => thn (hu pins s2 σ H2 _ I2 q2) fun vu s3 ⟨u, H3, I3, pu, q3⟩ => ?_)
  rw [evalPart_none]
  refine wpAny_pure ?_
  have I4 : Inv X pins σ H3 { s3 with heap := s3.heap.push { cls := .type "slice", data := .fields #[vl, vu, .none] } } := I3.kept (t' := s3.toks) fun b ob q => Heap.get?_push_of_some _ q
  obtain ⟨T, id, hT, ht, hg⟩ := hr pins { s3 with heap := s3.heap.push { cls := .type "slice", data := .fields #[vl, vu, .none] } } σ H3 x v vl vu l u s3.heap.objs.size Q I4 r1 (Heap.IsSliceOf.new ..) pl pu q3
  show wpAny (model X.prog X.w) X.A (subscriptTail e (.Slice lo hi none p2) v (.ref s3.heap.objs.size)) (EP X pins σ Q) X.xe { s3 with heap := s3.heap.push { cls := .type "slice", data := .fields #[vl, vu, .none] } }
  exact tail_any (ops := [.ref s3.heap.objs.size, v]) ht hT hg (by with_unfolding_all rfl)
def cutV (xs : List V) (lo hi : Option Int) : List V := (xs.drop (HT.sIx xs.length 0 lo)).take (HT.sIx xs.length xs.length hi - HT.sIx xs.length 0 lo)
theorem cutV_length (xs : List V) (lo hi : Option Int) : (cutV xs lo hi).length ≤ xs.length := by
  unfold cutV
  rw [List.length_take, List.length_drop]
  omega
def rSlT (K : PySem.W.Frag) : V → Option Int → Option Int → Hp → VK → Prop := fun x lo hi H Q => ∃ a xs, x = .ref a ∧ SqT K H a xs ∧
  ¬ (HT.sIx xs.length 0 lo = 0 ∧ HT.sIx xs.length xs.length hi = xs.length) ∧ ∀ p, H p = none → Q (.ref p) (upd H p (.tup (cutV xs lo hi)))
theorem sl_tup : SlR X (rSlT X.K) := by
  intro pins s σ H x v vl vu lo hi sl Q I rx hs pl pu h
  obtain ⟨a, xs, rfl, hx, hw, q⟩ := h
  cases rx
  obtain ⟨its, r, ht, hz⟩ := I.tuple hx
  have hlen : its.toArray.size = xs.length := by rw [List.size_toArray]; exact r.length.symm
  refine ⟨"tuple", _, PyProof.Rows.slot_tuple_getitem.lookup, ht.typeIs, ?_⟩
  refine HT.getItem_tuple_cut ht hs pl pu (by rw [hlen]; exact hw) ?_ (by rw [hlen]; exact hz)
  rw [hlen]
  refine ⟨.ref s.heap.objs.size, _, I.laid (t' := s.toks) (o := .tup (cutV xs lo hi)) (fun b ob q => Heap.get?_push_of_some _ q) (Nat.le_refl _) ?_, rfl, q _ (I.hok.fresh (Nat.le_refl _))⟩
  exact ⟨Nat.le_trans (cutV_length xs lo hi) hz, _, (r.drop (HT.sIx xs.length 0 lo)).take (HT.sIx xs.length xs.length hi - HT.sIx xs.length 0 lo), IsTup.new _ _⟩
def rCatT (K : PySem.W.Frag) : R2 := fun x y H Q => ∃ a b xs ys, x = .ref a ∧ y = .ref b ∧ SqT K H a xs ∧ SqT K H b ys ∧ xs ≠ [] ∧ xs.length + ys.length ≤ sizeLine ∧
  (ys = [] → Q (.ref a) H) ∧ (ys ≠ [] → ∀ p, H p = none → Q (.ref p) (upd H p (.tup (xs ++ ys))))
theorem Vals.nil_iff {xs : List V} {us : List Value} (r : Vals xs us) : us = [] ↔ xs = [] := by
  cases r with
  | nil => simp
  | cons _ _ => simp
theorem op_catT : OpR X (binaryOp .Add) (rCatT X.K) := by
  intro pins s σ H x y v u Q I rx ry h
  obtain ⟨a, b, xs, ys, rfl, rfl, ha, hb, hx, hz, q1, q2⟩ := h
  cases rx
  cases ry
  obtain ⟨its, r1, p1, _⟩ := I.tuple ha
  obtain ⟨its2, r2, p2, _⟩ := I.tuple hb
  refine HT.cat_tup p1 p2 (fun z => hx (r1.nil_iff.mp z)) (fun z => ⟨.ref a, H, I, rfl, q1 (r2.nil_iff.mp z)⟩) (fun z => ?_) (by rw [← r1.length, ← r2.length]; exact hz)
  refine ⟨.ref s.heap.objs.size, _, I.laid (t' := s.toks) (o := .tup (xs ++ ys)) (fun b ob q => Heap.get?_push_of_some _ q) (Nat.le_refl _) ?_, rfl, q2 (fun w => z (r2.nil_iff.mpr w)) _ (I.hok.fresh (Nat.le_refl _))⟩
  exact ⟨by rw [List.length_append]; exact hz, _, r1.append r2, IsTup.new _ _⟩
end
end L2
namespace L2
open PySem PySem.Spec PyProof.Rows
def ixN (n : Nat) (i : Int) : Option Nat := if 0 ≤ i then (if i < n then some i.toNat else none) else if -(n : Int) ≤ i then some (i + n).toNat else none
def atI {α : Type} (xs : List α) (i : Int) : Option α := (ixN xs.length i).bind fun j => xs[j]?
theorem ixN_seq {n : Nat} {i : Int} {j : Nat} (h : ixN n i = some j) : seqIndex? i n = some j ∧ j < n ∧ -(n : Int) ≤ i ∧ i < n := by
  unfold ixN at h
  by_cases h0 : 0 ≤ i
  · rw [if_pos h0] at h
    by_cases h1 : i < n
    · rw [if_pos h1] at h
      have e : i.toNat = j := Option.some.inj h
      exact ⟨by rw [seqIndex_of h0 h1, e], by omega, by omega, h1⟩
    · rw [if_neg h1] at h; cases h
  · rw [if_neg h0] at h
    by_cases h1 : -(n : Int) ≤ i
    · rw [if_pos h1] at h
      have e : (i + n).toNat = j := Option.some.inj h
      exact ⟨by rw [seqIndex_neg (by omega) h1, e], by omega, h1, by omega⟩
    · rw [if_neg h1] at h; cases h
theorem atI_get {α : Type} {xs : List α} {i : Int} {v : α} (h : atI xs i = some v) : ∃ j, seqIndex? i xs.length = some j ∧ xs[j]? = some v ∧ j < xs.length ∧ -(xs.length : Int) ≤ i ∧ i < xs.length := by
  unfold atI at h
  cases e : ixN xs.length i with
  | none => rw [e] at h; cases h
  | some j =>
    rw [e] at h
    obtain ⟨h1, h2, h3, h4⟩ := ixN_seq e
    exact ⟨j, h1, h, h2, h3, h4⟩
def PlainIx (b : Expr) : Prop := ∀ o i, subscripted b false o i = operate [o, i] (getItem o i)
def IxR (X : Cx) (r : R2) : Prop :=
  ∀ (value slice : Expr) (pins : List (Addr × Obj)) (s : Shared) (σ : St) (H : Hp) (x y : V) (v u : Value) (Q : VK), Inv X pins σ H s → RelV x v → RelV y u → r x y H Q →
    subscripted slice false v u = operate [v, u] (getItem v u) → wpAny (model X.prog X.w) X.A (subscriptTail value slice v u) (EP X pins σ Q) X.xe s
def MtR (X : Cx) (id : String) (r : V → List V → Hp → VK → Prop) : Prop :=
  ∀ (pins : List (Addr × Obj)) (s : Shared) (σ : St) (H : Hp) (x : V) (xs : List V) (v : Value) (us : List Value) (Q : VK), Inv X pins σ H s → RelV x v → Vals xs us → r x xs H Q →
    wpAny (model X.prog X.w) X.A (call (.builtin id) (v :: us)) (EP X pins σ Q) X.xe s
section
variable {X : Cx} {a b : Expr} {ta tb : TE} {pos : Pos}
theorem IxR.or {r r' : R2} (h : IxR X r) (h' : IxR X r') : IxR X (fun x y H Q => r x y H Q ∨ r' x y H Q) := by
  intro value slice pins s σ H x y v u Q I rx ry q hs
  rcases q with q | q
  · exact h value slice pins s σ H x y v u Q I rx ry q hs
  · exact h' value slice pins s σ H x y v u Q I rx ry q hs
theorem pe_ix {r : R2} (hr : IxR X r) (ha : PE X a ta) (hb : PE X b tb) (hs : PlainIx b) : PE X (.Subscript a b pos) (tOp r ta tb) := by
  intro pins s σ H Q I h
  exact Subscript_ (binT ha hb I h fun v u s2 x y H2 I2 rx ry q => hr a b pins s2 σ H2 x y v u Q I2 rx ry q (hs _ _))
def rIxL (K : PySem.W.Frag) : R2 := fun x y H Q => ∃ p xs i v, x = .ref p ∧ y = .int i ∧ SqL K H p xs ∧ atI xs i = some v ∧ Q v H
def rIxT (K : PySem.W.Frag) : R2 := fun x y H Q => ∃ p xs i v, x = .ref p ∧ y = .int i ∧ SqT K H p xs ∧ atI xs i = some v ∧ Q v H
def rIxS : R2 := fun x y H Q => ∃ z i c, x = .str z ∧ y = .int i ∧ z.length ≤ sizeLine ∧ atI z.cps.toList i = some c ∧ Q (.str ⟨#[c]⟩) H
theorem ix_list : IxR X (rIxL X.K) := by
  intro value slice pins s σ H x y v u Q I rx ry h hs
  obtain ⟨p, xs, i, z, rfl, rfl, hq, he, q⟩ := h
  cases rx
  obtain ⟨t, rfl⟩ := ry
  obtain ⟨its, r, pl, hz⟩ := I.list hq
  obtain ⟨j, h1, h2, h3, h4, h5⟩ := atI_get he
  obtain ⟨w, ew, rw'⟩ := r.get h2
  have hl := r.length
  have hn := line63
  have fin : EP X pins σ Q w s := ⟨z, H, I, rw', q⟩
  by_cases h0 : 0 ≤ i
  · have hj : i.toNat = j := by
      rw [seqIndex_of h0 h5] at h1
      exact Option.some.inj h1
    exact item_listR pl.isList h0 (by omega) (by rw [hj]; simpa using ew) fin hs
  · have hj : (i + (its.toArray.size : Int)).toNat = j := by
      rw [seqIndex_neg (by omega) h4] at h1
      rw [List.size_toArray, ← hl]
      exact Option.some.inj h1
    exact subscriptTail_builtinR (x := w) pl.isList.typeIs slot_list_getitem.lookup
      (wpAny_getItem_list_neg (Q := fun r s' => r = w ∧ EP X pins σ Q r s') pl.isList (by omega) (by rw [List.size_toArray] <;> omega) (by omega) (by rw [hj]; simpa using ew) ⟨rfl, fin⟩) hs
theorem ix_tup : IxR X (rIxT X.K) := by
  intro value slice pins s σ H x y v u Q I rx ry h hs
  obtain ⟨p, xs, i, z, rfl, rfl, hq, he, q⟩ := h
  cases rx
  obtain ⟨t, rfl⟩ := ry
  obtain ⟨its, r, pl, hz⟩ := I.tuple hq
  obtain ⟨j, h1, h2, h3, h4, h5⟩ := atI_get he
  obtain ⟨w, ew, rw'⟩ := r.get h2
  have hl := r.length
  have hn := line63
  have fin : EP X pins σ Q w s := ⟨z, H, I, rw', q⟩
  exact subscriptTail_builtinR (x := w) pl.typeIs slot_tuple_getitem.lookup
    (getItem_tuple (j := j) (Q := fun r s' => r = w ∧ EP X pins σ Q r s') pl (by omega) (by omega) (by rw [List.size_toArray, ← hl]; exact h1) (by simpa using ew) ⟨rfl, fin⟩) hs
theorem ix_str : IxR X rIxS := by
  intro value slice pins s σ H x y v u Q I rx ry h hs
  obtain ⟨z, i, c, rfl, rfl, hz, he, q⟩ := h
  obtain ⟨t, rfl⟩ := rx
  obtain ⟨t', rfl⟩ := ry
  obtain ⟨j, h1, h2, h3, h4, h5⟩ := atI_get he
  have hl : z.cps.toList.length = z.length := by simp [Str.length]
  rw [hl] at h1 h4 h5
  have hn := line63
  exact tail_any (typeIs_str s z t) slot_str_getitem.lookup (getItem_str (c := c) (by
    have e1 : decide (i < -(2 ^ 63 : Int)) = false := decide_eq_false (by omega)
    have e2 : decide (i ≥ 2 ^ 63) = false := decide_eq_false (by omega)
    rw [e1, e2, Bool.or_false]) (by rw [h1]; simpa using h2) ⟨.str ⟨#[c]⟩, H, I.tok _, ⟨_, rfl⟩, q⟩) hs
def rIx (K : PySem.W.Frag) : R2 := fun x y H Q => rIxL K x y H Q ∨ rIxT K x y H Q ∨ rIxS x y H Q
theorem ix_seq : IxR X (rIx X.K) := ix_list.or (ix_tup.or ix_str)
theorem mapSeq_set (its : List Value) (n j : Nat) (u : Value) : Obj.mapSeq (·.setIfInBounds j u) { cls := .type "list", data := .seq its.toArray n } = { cls := .type "list", data := .seq (its.set j u).toArray n } := by
  simp [Obj.mapSeq]
theorem Inv.lst {pins : List (Addr × Obj)} {σ : St} {H : Hp} {s : Shared} {p : Addr} {xs : List V} (I : Inv X pins σ H s) (h : H p = some (.lst xs)) :
    ∃ (its : List Value) (n : Nat), Vals xs its ∧ s.heap.get? p = some { cls := .type "list", data := .seq its.toArray n } ∧ xs.length ≤ sizeLine := by
  obtain ⟨z, its, n, r, e⟩ := I.hok p _ h
  exact ⟨its, n, r, e, z⟩
theorem Inv.lstUpd {pins : List (Addr × Obj)} {σ : St} {H : Hp} {s : Shared} {p : Addr} {xs ys : List V} {its its' : List Value} {n n' : Nat} {f : Obj → Obj} (I : Inv X pins σ H s) (h : H p = some (.lst xs))
    (ho : s.heap.get? p = some { cls := .type "list", data := .seq its.toArray n }) (hf : f { cls := .type "list", data := .seq its.toArray n } = { cls := .type "list", data := .seq its'.toArray n' }) (r : Vals ys its') (hz : ys.length ≤ sizeLine) (t : Nat) :
    Inv X pins σ (upd H p (.lst ys)) { s with heap := s.heap.update p f, toks := t } := by
  have e : (s.heap.update p f).get? p = some { cls := .type "list", data := .seq its'.toArray n' } := by
    rw [Heap.get?_update_self f ho (by rw [hf] <;> rfl), hf]
  refine I.write (x := p) (e := p) (by rw [h]; trivial) (.inl rfl) (fun b u hb q => (Heap.get?_update_other _ _ (Ne.symm hb)).trans q) ⟨_, e⟩ ?_
  exact ⟨hz, its', n', r, e⟩
def rSetL : V → V → V → Hp → (Hp → Prop) → Prop := fun o i v H Q => ∃ p xs k j, o = .ref p ∧ i = .int k ∧ H p = some (.lst xs) ∧ ixN xs.length k = some j ∧ Q (upd H p (.lst (xs.set j v)))
theorem set_list : PSet X rSetL := by
  intro pins s σ H o i v ov iv u Q I ro ri rv h
  obtain ⟨p, xs, k, j, rfl, rfl, hp, hj, q⟩ := h
  cases ro
  obtain ⟨t, rfl⟩ := ri
  obtain ⟨its, n, r, ho, hz⟩ := I.lst hp
  obtain ⟨h1, h2, h3, h4⟩ := ixN_seq hj
  have hl := r.length
  have hn := line63
  have I' : Inv X pins σ (upd H p (.lst (xs.set j v))) { s with heap := s.heap.update p (Obj.mapSeq (·.setIfInBounds j u)) } :=
    I.lstUpd hp ho (mapSeq_set its n j u) (r.set rv j) (by rw [List.length_set]; exact hz) s.toks
  by_cases h0 : 0 ≤ k
  · have hk : k.toNat = j := by
      rw [seqIndex_of h0 h4] at h1
      exact Option.some.inj h1
    exact PySem.W.ki_setAt ho h0 (by omega) (by rw [List.size_toArray, ← hl]; exact h4) (by rw [hk]; exact ⟨_, I', q⟩)
  · have hk : (k + (its.toArray.size : Int)).toNat = j := by
      rw [seqIndex_neg (by omega) h3] at h1
      rw [List.size_toArray, ← hl]
      exact Option.some.inj h1
    exact PySem.W.ki_setBack ho (by omega) (by rw [List.size_toArray, ← hl]; exact h3) (by omega) (by rw [hk]; exact ⟨_, I', q⟩)
theorem slice_bounds (lo hi : Option Int) (n : Nat) : (sliceBounds lo hi none n).1 = ((HT.sIx n 0 lo : Nat) : Int) ∧ (sliceBounds lo hi none n).2.1 = ((HT.sIx n n hi : Nat) : Int) ∧ (sliceBounds lo hi none n).2.2 = 1 := by
  refine ⟨?_, ?_, rfl⟩
  · cases lo with
    | none => simp [sliceBounds, HT.sIx]
    | some i =>
      simp only [sliceBounds, HT.sIx, Option.getD_none, show (1 : Int) > 0 by decide, if_true]
      by_cases h : i < 0
      · simp only [h, if_true] <;> omega
      · simp only [h, if_false] <;> omega
  · cases hi with
    | none => simp [sliceBounds, HT.sIx]
    | some i =>
      simp only [sliceBounds, HT.sIx, Option.getD_none, show (1 : Int) > 0 by decide, if_true]
      by_cases h : i < 0
      · simp only [h, if_true] <;> omega
      · simp only [h, if_false] <;> omega
theorem slicePick_cut (its : List Value) (lo hi : Option Int) : slicePick its.toArray lo hi none = ((its.drop (HT.sIx its.length 0 lo)).take (HT.sIx its.length its.length hi - HT.sIx its.length 0 lo)).toArray := by
  obtain ⟨h1, h2, h3⟩ := slice_bounds lo hi its.toArray.size
  unfold slicePick
  rw [h1, h2, h3]
  simp only [sliceRange_one, pick_run, List.size_toArray] <;> rfl
def rSlL (K : PySem.W.Frag) : V → Option Int → Option Int → Hp → VK → Prop := fun x lo hi H Q => ∃ a xs, x = .ref a ∧ SqL K H a xs ∧ ∀ p, H p = none → Q (.ref p) (upd H p (.lst (cutV xs lo hi)))
theorem sl_list : SlR X (rSlL X.K) := by
  intro pins s σ H x v vl vu lo hi sl Q I rx hs pl pu h
  obtain ⟨a, xs, rfl, hx, q⟩ := h
  cases rx
  obtain ⟨its, r, ht, hz⟩ := I.list hx
  have hlen := r.length
  refine ⟨"list", _, slot_list_getitem.lookup, ht.isList.typeIs, ?_⟩
  refine wpAny_getItem_list_slice ht.isList hs pl pu .none (by simp) ?_ (by rw [List.size_toArray] <;> omega)
  rw [slicePick_cut, ← hlen]
  refine ⟨.ref s.heap.objs.size, _, I.laid (t' := s.toks) (o := .lst (cutV xs lo hi)) (fun b ob q => Heap.get?_push_of_some _ q) (Nat.le_refl _) ?_, rfl, q _ (I.hok.fresh (Nat.le_refl _))⟩
  exact ⟨Nat.le_trans (cutV_length xs lo hi) hz, _, 0, (r.drop (HT.sIx xs.length 0 lo)).take (HT.sIx xs.length xs.length hi - HT.sIx xs.length 0 lo), Heap.get?_push_size _ rfl⟩
def flatV : V → Bool
  | .non => true
  | .bl _ => true
  | .int _ => true
  | .str _ => true
  | _ => false
def eqV : V → V → Bool
  | .non, .non => true
  | .bl a, .bl b => a == b
  | .bl a, .int b => (if a then 1 else 0) == b
  | .int a, .bl b => a == (if b then 1 else 0)
  | .int a, .int b => a == b
  | .str a, .str b => a == b
  | _, _ => false
theorem eqAt_V {A : Around} {s : Shared} {y x : V} {u v : Value} (ry : RelV y u) (rx : RelV x v) (fy : flatV y = true) (fx : flatV x = true) : SeqAt.EqAt A s u v (eqV y x) := by
  cases y with
  | non =>
    cases ry
    cases x with
    | non => cases rx; exact SeqAt.EqAt.same _
    | bl b => cases rx; exact SeqAt.EqAt.none_bool b
    | int b => obtain ⟨t, rfl⟩ := rx; exact SeqAt.EqAt.none_int b t
    | str b => obtain ⟨t, rfl⟩ := rx; exact SeqAt.EqAt.none_str b t
    | _ => exact absurd (show false = true from fx) Bool.false_ne_true
  | bl a =>
    cases ry
    cases x with
    | non => cases rx; exact SeqAt.EqAt.bool_none a
    | bl b => cases rx; exact SeqAt.EqAt.bool_bool a b
    | int b => obtain ⟨t, rfl⟩ := rx; exact SeqAt.EqAt.bool_int a b t
    | str b => obtain ⟨t, rfl⟩ := rx; exact SeqAt.EqAt.bool_str a b t
    | _ => exact absurd (show false = true from fx) Bool.false_ne_true
  | int a =>
    obtain ⟨t', rfl⟩ := ry
    cases x with
    | non => cases rx; exact SeqAt.EqAt.int_none a t'
    | bl b => cases rx; exact SeqAt.EqAt.int_bool a t' b
    | int b => obtain ⟨t, rfl⟩ := rx; exact SeqAt.EqAt.int_int a t' b t
    | str b => obtain ⟨t, rfl⟩ := rx; exact SeqAt.EqAt.int_str a t' b t
    | _ => exact absurd (show false = true from fx) Bool.false_ne_true
  | str a =>
    obtain ⟨t', rfl⟩ := ry
    cases x with
    | non => cases rx; exact SeqAt.EqAt.str_none a t'
    | bl b => cases rx; exact SeqAt.EqAt.str_bool a t' b
    | int b => obtain ⟨t, rfl⟩ := rx; exact SeqAt.EqAt.str_int a t' b t
    | str b => obtain ⟨t, rfl⟩ := rx; exact SeqAt.EqAt.str_str a t' b t
    | _ => exact absurd (show false = true from fx) Bool.false_ne_true
  | _ => exact absurd (show false = true from fy) Bool.false_ne_true
theorem call_len_seq : CallR X (.builtin "len") (fun xs H Q => ∃ p ys, xs = [.ref p] ∧ (SqL X.K H p ys ∨ SqT X.K H p ys) ∧ Q (.int ys.length) H) := by
  intro pins s σ H xs us Q I r h
  obtain ⟨p, ys, rfl, hq, q⟩ := h
  obtain ⟨u, rfl, rx⟩ := vals1 r
  cases rx
  have hn := line63
  rcases hq with hq | hq
  · obtain ⟨its, r', pl, hz⟩ := I.list hq
    have hlen := r'.length
    exact Calls.call_len_list pl.isList (by simp only [List.size_toArray] <;> omega) ⟨.int ys.length, H, I.tok _, ⟨s.toks + 1, by rw [List.size_toArray, hlen]⟩, q⟩
  · obtain ⟨its, r', pl, hz⟩ := I.tuple hq
    have hlen := r'.length
    exact len_tuple pl (by simp only [List.size_toArray] <;> omega) ⟨.int ys.length, H, I.tok _, ⟨s.toks + 1, by rw [List.size_toArray, hlen]⟩, q⟩
theorem call_len_str : CallR X (.builtin "len") (fun xs H Q => ∃ z, xs = [.str z] ∧ z.length ≤ sizeLine ∧ Q (.int z.length) H) := by
  intro pins s σ H xs us Q I r h
  obtain ⟨z, rfl, hz, q⟩ := h
  obtain ⟨u, rfl, t, rfl⟩ := vals1 r
  have hn := line63
  exact len_str (by omega) ⟨.int z.length, H, I.tok _, ⟨_, rfl⟩, q⟩
theorem CallR.or {f : Value} {r r' : List V → Hp → VK → Prop} (h : CallR X f r) (h' : CallR X f r') : CallR X f (fun xs H Q => r xs H Q ∨ r' xs H Q) := by
  intro pins s σ H xs us Q I rs q
  rcases q with q | q
  · exact h pins s σ H xs us Q I rs q
  · exact h' pins s σ H xs us Q I rs q
theorem call_list_of : CallR X (.type "list") (fun xs H Q => ∃ p ys, xs = [.ref p] ∧ (SqL X.K H p ys ∨ SqT X.K H p ys) ∧ ∀ l, H l = none → Q (.ref l) (upd H l (.lst ys))) := by
  intro pins s σ H xs us Q I r h
  obtain ⟨p, ys, rfl, hq, q⟩ := h
  obtain ⟨u, rfl, rx⟩ := vals1 r
  cases rx
  have fin : ∀ (its : List Value), Vals ys its → ys.length ≤ sizeLine → ∀ (h' : Heap) (c' : Nat), (∀ b o', s.heap.get? b = some o' → h'.get? b = some o') →
      h'.get? s.heap.objs.size = some { cls := .type "list", dict := none, data := .seq its.toArray c', slots := #[] } → EP X pins σ Q (.ref s.heap.objs.size) { s with heap := h' } := fun its r' hz h' c' kp e =>
    ⟨.ref s.heap.objs.size, _, I.laid (t' := s.toks) kp (Nat.le_refl _) (show ObjOk X.prog X.w _ h' _ (.lst ys) from ⟨hz, its, c', r', e⟩), rfl, q _ (I.hok.fresh (Nat.le_refl _))⟩
  rcases hq with hq | hq
  · obtain ⟨its, r', pl, hz⟩ := I.list hq
    have hlen := r'.length
    obtain ⟨o, ho, hc, n, hd⟩ := pl.isList
    exact call_list_seq p (.inl rfl) ho hc hd (fun h' c' kp e => fin its r' hz h' c' kp e) (by simp only [List.size_toArray] <;> omega)
  · obtain ⟨its, r', pl, hz⟩ := I.tuple hq
    have hlen := r'.length
    obtain ⟨o, ho, hc, n, hd⟩ := pl
    exact call_list_seq p (.inr rfl) ho hc hd (fun h' c' kp e => fin its r' hz h' c' kp e) (by simp only [List.size_toArray] <;> omega)
theorem call_tuple_of : CallR X (.type "tuple") (fun xs H Q => ∃ p ys, xs = [.ref p] ∧ ((SqL X.K H p ys ∧ ∀ l, H l = none → Q (.ref l) (upd H l (.tup ys))) ∨ (SqT X.K H p ys ∧ Q (.ref p) H))) := by
  intro pins s σ H xs us Q I r h
  obtain ⟨p, ys, rfl, h⟩ := h
  obtain ⟨u, rfl, rx⟩ := vals1 r
  cases rx
  rcases h with ⟨hq, q⟩ | ⟨hq, q⟩
  · obtain ⟨its, r', pl, hz⟩ := I.list hq
    have hlen := r'.length
    refine call_tuple_list pl.isList (fun h' kp => ?_) (by simp only [List.size_toArray] <;> omega)
    have I1 : Inv X pins σ H { s with heap := h' } := I.kept (t' := s.toks) kp
    have I2 : Inv X pins σ (upd H h'.objs.size (.tup ys)) { s with heap := h'.push { cls := .type "tuple", data := .seq its.toArray } } :=
      I1.laid (t' := s.toks) (fun b o e => Heap.get?_push_of_some _ e) (Nat.le_refl _) (show ObjOk X.prog X.w _ _ _ (.tup ys) from ⟨hz, its, r', IsTup.new _ _⟩)
    exact ⟨.ref h'.objs.size, _, I2, rfl, q _ (I1.hok.fresh (Nat.le_refl _))⟩
  · obtain ⟨its, r', pl, hz⟩ := I.tuple hq
    exact call_tuple_same pl ⟨.ref p, H, I, rfl, q⟩
def tyV (K : PySem.W.Frag) (T : String) (x : V) (H : Hp) : Prop := match x with
  | .str _ => T = "str"
  | .int _ => T = "int"
  | .ref p => (T = "list" ∧ ∃ xs, SqL K H p xs) ∨ (T = "tuple" ∧ ∃ o, K.lookup p = some o ∧ o.cls = .type "tuple" ∧ o.dict = none) ∨
      (T = "dict" ∧ ((∃ kvs, H p = some (.dK kvs)) ∨ ∃ kvs, H p = some (.dT kvs))) ∨ (T = "set" ∧ ∃ S n, H p = some (.set S n))
  | _ => False
theorem tyV_is {pins : List (Addr × Obj)} {σ : St} {H : Hp} {s : Shared} {T : String} {x : V} {v : Value} (I : Inv X pins σ H s) (r : RelV x v) (ty : tyV X.K T x H) :
    s.TypeIs v T ∧ ∀ a, v = .ref a → ∃ ob, s.heap.get? a = some ob ∧ ob.dict = none := by
  cases x with
  | str z =>
    obtain ⟨t, rfl⟩ := r
    cases (show T = "str" from ty)
    exact ⟨typeIs_str s z t, fun _ e => nomatch e⟩
  | int i =>
    obtain ⟨t, rfl⟩ := r
    cases (show T = "int" from ty)
    exact ⟨typeIs_int s i t, fun _ e => nomatch e⟩
  | ref p =>
    cases r
    rcases ty with ⟨rfl, xs, hq⟩ | ⟨rfl, o, hk, hc, hd⟩ | ⟨rfl, hk⟩ | ⟨rfl, S, n, hk⟩
    · obtain ⟨its, _, pl, _⟩ := I.list hq
      refine ⟨pl.isList.typeIs, fun a e => ?_⟩
      cases e
      obtain ⟨o, n, e, c, hd, _⟩ := pl
      exact ⟨o, e, hd⟩
    · refine ⟨⟨o, I.kIn p o hk, hc⟩, fun a e => ?_⟩
      cases e
      exact ⟨o, I.kIn _ o hk, hd⟩
    · have z : ∃ o, s.heap.get? p = some o ∧ o.ExactDict := by
        rcases hk with ⟨kvs, hk⟩ | ⟨kvs, hk⟩
        · obtain ⟨_, _, _, _, o, _, _, e, ex, _⟩ := I.hok p _ hk
          exact ⟨o, e, ex⟩
        · obtain ⟨_, _, _, _, o, _, _, e, ex, _⟩ := I.hok p _ hk
          exact ⟨o, e, ex⟩
      obtain ⟨o, e, ex⟩ := z
      refine ⟨⟨o, e, ex.1⟩, fun a e2 => ?_⟩
      cases e2
      exact ⟨o, e, ex.2.1⟩
    · obtain ⟨o, _, _, _, e, ex, _⟩ := I.hok p _ hk
      refine ⟨⟨o, e, ex.1⟩, fun a e2 => ?_⟩
      cases e2
      exact ⟨o, e, ex.2.1⟩
  | _ => exact False.elim ty
def tBM0 (K : PySem.W.Frag) (T : String) (r : V → List V → Hp → VK → Prop) (to : TE) : TE := fun σ H Q => to σ H fun x H1 => tyV K T x H1 ∧ r x [] H1 Q
def tBM (K : PySem.W.Frag) (T : String) (r : V → List V → Hp → VK → Prop) (to : TE) (t : TA) : TE := fun σ H Q => to σ H fun x H1 => tyV K T x H1 ∧ t σ H1 fun xs H2 => r x xs H2 Q
variable {o e : Expr} {es : List Expr} {to : TE} {t : TA} {name : Str} {apos cpos : Pos} {T id : String} {r : V → List V → Hp → VK → Prop}
theorem pe_bm0 (pa : PlainAttrs T) (slot : Slot T name id) (hty : typeOf (.builtin id) = pure (.type "method_descriptor")) (hm : MtR X id r) (ho : PE X o to)
    (hbase : attributeBase o name X.env (eval o X.env) = eval o X.env := by rfl) (hline : (apos.endLine == cpos.line) = true := by rfl) : PE X (.Call (.Attribute o name apos) [] [] cpos) (tBM0 X.K T r to) := by
  intro pins s σ H Q I h
  refine wpAny_Call_method0_late hbase hline (thn (ho pins s σ H _ I h) fun v s1 ⟨x, H1, I1, r1, ty, q1⟩ => ?_)
  obtain ⟨h1, h2⟩ := tyV_is I1 r1 ty
  exact ⟨T, id, pa, slot, hty, h1, h2, Calls.callWith_builtin rfl (PySem.evalArgs_none (hm pins s1 σ H1 x [] v [] Q I1 r1 .nil q1))⟩
theorem pe_bm (pa : PlainAttrs T) (slot : Slot T name id) (hty : typeOf (.builtin id) = pure (.type "method_descriptor")) (hm : MtR X id r) (ho : PE X o to) (ha : PA X (e :: es) t)
    (hbase : attributeBase o name X.env (eval o X.env) = eval o X.env := by rfl)
    (hfew : ((backTo cpos (starEach (e :: es) X.env)).all (fun x => !x.1) && (backToKw cpos (keywordEach [] X.env)).all (fun x => x.1.isSome)
      && decide ((e :: es).length + ([] : List Keyword).length + (if ([] : List Keyword).isEmpty then 0 else 1) < 30)) = true := by rfl)
    (hline : (apos.endLine == cpos.line) = true := by rfl) (hs : starEach (e :: es) X.env = (false, eval e X.env) :: starEach es X.env := by rfl) (hplain : (backTo cpos (starEach es X.env)).any (·.1) = false := by rfl) :
    PE X (.Call (.Attribute o name apos) (e :: es) [] cpos) (tBM X.K T r to t) := by
  intro pins s σ H Q I h
  refine wpAny_Call_method_late hbase hfew hline rfl (thn (ho pins s σ H _ I h) fun v s1 ⟨x, H1, I1, r1, ty, q1⟩ => ?_)
  obtain ⟨h1, h2⟩ := tyV_is I1 r1 ty
  refine ⟨T, id, pa, slot, hty, h1, h2, ?_⟩
  have hA := ha cpos pins s1 σ H1 _ I1 q1
  rw [hs] at hA ⊢
  refine Calls.callWith_builtin (by show (false || (backTo cpos (starEach es X.env)).any (·.1)) = false; rw [hplain] <;> rfl) (Calls.evalArgs_plain ?_)
  exact thn hA fun us s2 ⟨vs, H2, I2, r2, q2⟩ => hm pins s2 σ H2 x vs v us Q I2 r1 r2 q2
end
end L2
namespace L2
open PySem PySem.Spec PyProof.Rows
def MtM (X : Cx) (id : String) (r : V → List V → Hp → VK → Prop) : Prop :=
  ∀ (pins : List (Addr × Obj)) (s : Shared) (σ : St) (H : Hp) (x : V) (xs : List V) (v : Value) (us : List Value) (Q : VK), Inv X pins σ H s → RelV x v → Vals xs us → r x xs H Q →
    wpAny (model X.prog X.w) X.A (call (.builtin id) (v :: us)) (EP X pins σ Q) X.xe s
theorem Vals.one : ∀ {x : V} {us : List Value}, Vals [x] us → ∃ u, us = [u] ∧ RelV x u
  | _, _, .cons r .nil => ⟨_, rfl, r⟩
theorem Vals.zero : ∀ {us : List Value}, Vals [] us → us = []
  | _, .nil => rfl
theorem Vals.eraseIdx : ∀ {xs : List V} {us : List Value} (i : Nat), Vals xs us → Vals (xs.eraseIdx i) (us.eraseIdx i)
  | _, _, _, .nil => .nil
  | _, _, 0, .cons _ t => t
  | _, _, i + 1, .cons r t => .cons r (Vals.eraseIdx i t)
theorem Vals.reverse {xs : List V} {us : List Value} (h : Vals xs us) : Vals xs.reverse us.reverse := by
  induction h with
  | nil => exact .nil
  | cons r t ih => rw [List.reverse_cons, List.reverse_cons]; exact Vals.append ih (.cons r .nil)
theorem Vals.rep {xs : List V} {us : List Value} (h : Vals xs us) : ∀ k : Nat, Vals (List.replicate k xs).flatten (List.replicate k us).flatten
  | 0 => .nil
  | k + 1 => by
    rw [List.replicate_succ, List.replicate_succ, List.flatten_cons, List.flatten_cons]
    exact Vals.append h (Vals.rep h k)
theorem len_erase {α : Type} : ∀ (l : List α) (i : Nat), (l.eraseIdx i).length ≤ l.length
  | [], _ => Nat.le_refl _
  | _ :: _, 0 => Nat.le_succ _
  | _ :: r, i + 1 => Nat.succ_le_succ (len_erase r i)
theorem foldl_rep (its : List Value) : ∀ (k : Nat) (acc : List Value),
    List.foldl (fun x1 x2 => x1 ++ x2) acc.toArray (List.replicate k its.toArray) = (acc ++ (List.replicate k its).flatten).toArray
  | 0, acc => by simp
  | k + 1, acc => by
    have e : acc.toArray ++ its.toArray = (acc ++ its).toArray := by simp
    have e2 : (acc ++ its) ++ (List.replicate k its).flatten = acc ++ (List.replicate (k + 1) its).flatten := by
      rw [List.replicate_succ, List.flatten_cons, List.append_assoc]
    rw [← e2, ← foldl_rep its k (acc ++ its), ← e, List.replicate_succ, List.foldl_cons]
section
variable {X : Cx} {pins : List (Addr × Obj)} {σ : St} {H : Hp} {s : Shared} {l b : Addr} {xs ys zs : List V}
theorem Inv.lset {its its' : List Value} {n : Nat} {f : Array Value → Array Value} {t' : Nat} (I : Inv X pins σ H s) (hH : H l = some (.lst xs))
    (e : s.heap.get? l = some { cls := .type "list", data := .seq its.toArray n }) (hf : f its.toArray = its'.toArray) (hv : Vals ys its') (hz : ys.length ≤ sizeLine) :
    Inv X pins σ (upd H l (.lst ys)) { s with heap := s.heap.update l (Obj.mapSeq f), toks := t' } := by
  have q := PySem.IsL.update e f
  rw [hf] at q
  refine I.write (x := l) (e := l) (by rw [hH]; exact trivial) (.inl rfl) (fun b' u hb hu => (Heap.get?_update_other s.heap (Obj.mapSeq f) (Ne.symm hb)).trans hu) ⟨_, q⟩ ?_
  exact ⟨hz, its', _, hv, q⟩
theorem Inv.lnew {its : List Value} {t' : Nat} (I : Inv X pins σ H s) (hv : Vals ys its) (hz : ys.length ≤ sizeLine) :
    Inv X pins σ (upd H s.heap.objs.size (.lst ys)) { s with heap := s.heap.push { cls := .type "list", data := .seq its.toArray }, toks := t' } :=
  I.laid (fun _ _ q => Heap.get?_push_of_some _ q) (Nat.le_refl _) ⟨hz, its, 0, hv, Heap.get?_push_size _ rfl⟩
theorem Inv.fresh (I : Inv X pins σ H s) : H s.heap.objs.size = none := I.hok.fresh (Nat.le_refl _)
theorem Inv.lstM (I : Inv X pins σ H s) (hH : H l = some (.lst xs)) : xs.length ≤ sizeLine ∧ ∃ (its : List Value) (n : Nat), Vals xs its ∧ xs.length = its.length ∧ s.heap.get? l = some { cls := .type "list", data := .seq its.toArray n } := by
  obtain ⟨z, its, n, r, e⟩ := I.hok l _ hH
  exact ⟨z, its, n, r, r.length, e⟩
theorem notLongL {n : Nat} (h : n ≤ sizeLine) : Builtin.List.listTooLong n = false := by
  unfold Builtin.List.listTooLong
  exact decide_eq_false (by omega)
end
section
variable {X : Cx}
def rAppend : V → List V → Hp → VK → Prop := fun x vs H Q => ∃ l xs y, x = .ref l ∧ vs = [y] ∧ H l = some (.lst xs) ∧ xs.length < sizeLine ∧ Q .non (upd H l (.lst (xs ++ [y])))
theorem mt_append : MtM X "list.append" rAppend := by
  intro pins s σ H x vs v us Q I rx rv h
  obtain ⟨l, xs, y, rfl, rfl, hH, hz, q⟩ := h
  cases rx
  obtain ⟨u, rfl, ru⟩ := rv.one
  obtain ⟨z, its, n, r, hl, e⟩ := I.lstM hH
  refine call_meets F.slot_list_append ⟨_, e, rfl⟩ F.entry_list_append (F.args_list_append_2 _ _) (PySem.list_append l its.toArray n u (by rw [List.size_toArray]; omega)) ⟨e, ?_⟩
  refine ⟨.non, _, I.lset (its' := its ++ [u]) hH e (by simp) (r.append (.cons ru .nil)) ?_, rfl, q⟩
  rw [List.length_append, List.length_singleton]
  omega
def rPopAt : V → List V → Hp → VK → Prop := fun x vs H Q => ∃ l xs i k y, x = .ref l ∧ vs = [.int i] ∧ H l = some (.lst xs) ∧ -(2 ^ 63) ≤ i ∧ i < 2 ^ 63 ∧ seqIndex? i xs.length = some k ∧ xs[k]? = some y ∧ Q y (upd H l (.lst (xs.eraseIdx k)))
theorem mt_popAt : MtM X "list.pop" rPopAt := by
  intro pins s σ H x vs v us Q I rx rv h
  obtain ⟨l, xs, i, k, y, rfl, rfl, hH, h1, h2, hk, hy, q⟩ := h
  cases rx
  obtain ⟨u, rfl, ru⟩ := rv.one
  obtain ⟨t, rfl⟩ := ru
  obtain ⟨z, its, n, r, hl, e⟩ := I.lstM hH
  obtain ⟨w, hw, rw'⟩ := r.get hy
  refine call_meets F.slot_list_pop ⟨_, e, rfl⟩ F.entry_list_pop (F.args_list_pop_2 _ _)
    (MeetsSeq.list_pop_at l its.toArray n i t k w (fitsIndex_both h1 h2) (by rw [List.size_toArray, ← hl]; exact hk) (by rw [← Array.getElem?_toList]; exact hw) (by rw [List.size_toArray]; omega)) ⟨e, ?_⟩
  refine ⟨y, _, I.lset (its' := its.eraseIdx k) hH e ?_ (r.eraseIdx k) ?_, rw', q⟩
  · show its.toArray.eraseIdxIfInBounds k = (its.eraseIdx k).toArray
    rw [List.eraseIdxIfInBounds_toArray]
  · have := len_erase xs k
    omega
def rClear : V → List V → Hp → VK → Prop := fun x vs H Q => ∃ l xs, x = .ref l ∧ vs = [] ∧ H l = some (.lst xs) ∧ Q .non (upd H l (.lst []))
theorem mt_clear : MtM X "list.clear" rClear := by
  intro pins s σ H x vs v us Q I rx rv h
  obtain ⟨l, xs, rfl, rfl, hH, q⟩ := h
  cases rx
  have hus := rv.zero
  subst hus
  obtain ⟨z, its, n, r, hl, e⟩ := I.lstM hH
  refine call_meets F.slot_list_clear ⟨_, e, rfl⟩ F.entry_list_clear (F.args_list_clear_1 _) (AutoSeq1.list_clear_list_0 l its.toArray n (by rw [List.size_toArray]; omega)) ⟨e, ?_⟩
  exact ⟨.non, _, I.lset (its' := []) (ys := []) hH e rfl .nil (Nat.zero_le _), rfl, q⟩
def rCat : R2 := fun x y H Q => ∃ l b xs zs, x = .ref l ∧ y = .ref b ∧ H l = some (.lst xs) ∧ H b = some (.lst zs) ∧ xs.length + zs.length ≤ sizeLine ∧ ∀ p, H p = none → Q (.ref p) (upd H p (.lst (xs ++ zs)))
theorem op_cat : OpR X (binaryOp .Add) rCat := by
  intro pins s σ H x y v u Q I rx ry h
  obtain ⟨l, b, xs, zs, rfl, rfl, hH, hB, hz, q⟩ := h
  cases rx
  cases ry
  obtain ⟨z, its, n, r, hl, e⟩ := I.lstM hH
  obtain ⟨z2, its2, n2, r2, hl2, e2⟩ := I.lstM hB
  refine PySem.P.add_list e e2 ?_ (by rw [List.size_toArray, List.size_toArray]; omega)
  have ea : its.toArray ++ its2.toArray = (its ++ its2).toArray := by simp
  rw [ea]
  exact ⟨.ref _, _, I.lnew (t' := s.toks) (r.append r2) (by rw [List.length_append]; omega), rfl, q _ I.fresh⟩
def rRep : R2 := fun x y H Q => ∃ l k xs, x = .ref l ∧ y = .int k ∧ H l = some (.lst xs) ∧ -(2 ^ 63) ≤ k ∧ k < 2 ^ 63 ∧ xs.length * k.toNat ≤ sizeLine ∧
  ∀ p, H p = none → Q (.ref p) (upd H p (.lst (List.replicate k.toNat xs).flatten))
theorem len_rep {α : Type} (xs : List α) (k : Nat) : (List.replicate k xs).flatten.length = k * xs.length := by
  induction k with
  | zero => simp
  | succ k ih => rw [List.replicate_succ, List.flatten_cons, List.length_append, ih, Nat.succ_mul, Nat.add_comm]
theorem op_rep : OpR X (binaryOp .Mult) rRep := by
  intro pins s σ H x y v u Q I rx ry h
  obtain ⟨l, k, xs, rfl, rfl, hH, h1, h2, hz, q⟩ := h
  cases rx
  obtain ⟨t, rfl⟩ := ry
  obtain ⟨z, its, n, r, hl, e⟩ := I.lstM hH
  have hlen : its.toArray.size * k.toNat ≤ sizeLine := by rw [List.size_toArray, ← hl]; exact hz
  have hcap : ¬ its.toArray.size * k.toNat > (2 ^ 63 - 1) / 8 := by
    have : (sizeLine : Nat) ≤ (2 ^ 63 - 1) / 8 := by decide
    omega
  have hfit : ¬ (!Builtin.List.listFitsIndex k) = true := by
    rw [fitsIndex_both h1 h2]
    exact Bool.false_ne_true
  have hlong : ¬ Builtin.List.listTooLong (its.toArray.size * k.toNat) = true := by
    rw [notLongL hlen]
    exact Bool.false_ne_true
  have hnew : List.foldl (fun x1 x2 => x1 ++ x2) #[] (List.replicate (if its.toArray.isEmpty = true then 0 else k.toNat) its.toArray) = (List.replicate k.toNat its).flatten.toArray := by
    have f0 : ∀ m : Nat, List.foldl (fun x1 x2 => x1 ++ x2) #[] (List.replicate m its.toArray) = (List.replicate m its).flatten.toArray := fun m => by
      have := foldl_rep its m []
      rw [List.nil_append] at this
      exact this
    rw [f0]
    cases its with
    | nil => simp
    | cons a r' => rw [if_neg (by simp)]
  refine wpAny_binaryOp_repeat_ref (T := "list") (U := "int") (by decide) ⟨_, e, rfl⟩ (fun s' => typeIs_int s' k t) noFill_list_mul F.fills_int_mul F.slot_int_rmul repeat_list F.slot_int_index.lookup
    (call_meets F.slot_int_rmul (typeIs_int s k t) F.entry_int_rmul (F.args_int_rmul_2 _ _) (int___rmul___int_list k t l its.toArray n)
      ⟨e, rfl, ⟨_, e, rfl⟩, call_meets F.slot_list_mul ⟨_, e, rfl⟩ F.entry_list_mul (F.args_list_mul_2 _ _) (AutoListH.list___mul___list_int_3 l its.toArray n k t hfit hcap hlong) ⟨e, ?_⟩⟩)
  rw [hnew]
  exact ⟨.ref _, _, I.lnew (t' := s.toks) (r.rep k.toNat) (by rw [len_rep, Nat.mul_comm]; exact hz), rfl, q _ I.fresh⟩
end
end L2
namespace Att
open PySem PySem.W PySem.Calls PyProof.Rows
theorem ints_of_wellAll {P : Params} {h : Heap} : ∀ (ns : List Int) (vs : List Value), WellAll P h vs (ns.map WData.int) → IntsAre vs ns := by
  intro ns
  induction ns with
  | nil =>
    intro vs w
    rw [List.map_nil] at w
    cases w
    exact .nil
  | cons n ns ih =>
    intro vs w
    rw [List.map_cons] at w
    cases w with
    | cons a b =>
      cases a
      exact .cons _ _ (ih _ b)
theorem script_of {l : OpenLaw} {n : Nat} (hn : l.most = some n) {P : Params} {h : Heap} {args : List WData} {vals : List Value}
    (hpre : l.row.toRowW.claim.pre args = true) (hwl : WellAll P h vals args) :
    ∃ a vs ns, vals = [Value.ref a] ∧ args = [WData.list (ns.map WData.int)] ∧ h.get? a = some { cls := .type "list", data := .seq vs.toArray } ∧ IntsAre vs ns ∧ ns.length ≤ n := by
  have hsh : WShape.hasAll [] args [.list .int] = true := (pre_splitW hpre).1
  have hc : l.pre.holds [] { args := args } = true := (pre_splitW hpre).2
  obtain ⟨d, r, rfl, h1, h2⟩ := hasAllW_cons hsh
  obtain rfl := hasAllW_nil h2
  obtain ⟨xs, rfl, h3⟩ := hasW_list h1
  obtain ⟨ns, rfl⟩ := items_int h3
  have hlen : ns.length ≤ n := by
    unfold OpenLaw.pre at hc
    have h4 : (WTm.not (.lt (.lit (.int (n : Int))) (.len (.arg 0)))).holds [] { args := [.list (ns.map .int)] } = true := by
      have h4 := (holds_andW hc).1
      rw [hn] at h4
      exact h4
    have h5 := condW_of h4 (w_not (w_lt w_lit (w_len_list (w_arg rfl))))
    rw [List.length_map] at h5
    refine Nat.le_of_not_lt fun q => ?_
    have q' : (n : Int) < ((ns.length : Nat) : Int) := by omega
    first
      | (rw [decide_eq_true q'] at h5; exact absurd h5 (by decide))
      | (simp at h5; omega)
  cases hwl with
  | cons w1 w2 =>
    cases w2
    cases w1 with
    | list ho hall => exact ⟨_, _, ns, rfl, rfl, ho, ints_of_wellAll ns _ hall, hlen⟩
theorem post_true (l : OpenLaw) (args : List WData) : l.row.toRowW.claim.post args (.bool true) args = true :=
  postW_of (r := l.row.toRowW) (X := (true == true))
    (show WShape.has [] (.bool true) .bool = true by first | rfl | decide | simp [WShape.has, WShape.arms, WShape.armsAll])
    (show (WTm.eq .res (.lit (.bool true))).value [] { args := args, res := some (.bool true), after := args } = some (.bool (true == true)) from w_eq_bool (w_res rfl) w_lit) rfl
theorem attach_call {l : OpenLaw} {n : Nat} {q : Program} {loose : List Str} {XP : (Str → Option Value) → Heap → Prop} {YP : World → Heap → Prop} {d : DefRec}
    (hn : l.most = some n) (hdf : d.params.defaults = [])
    (call : ∀ (w : World) (s₀ s₁ : Shared) (mg mb : Str → Option Value) (fa : Addr) (o : Obj) (pm cd doc : Value) (a : Addr) (vs : List Value) (ns : List Int),
      Ground q loose [] XP w s₀ mg mb s₁.heap → YP w s₁.heap →
      s₁.heap.get? fa = some o → o.data = .func (docDef d.name d.params d.body d.scope pm cd doc) → s₁.heap.CodeRec cd d.name → mg d.name = some (.ref fa) →
      s₁.heap.get? a = some { cls := .type "list", data := .seq vs.toArray } → IntsAre vs ns → ns.length ≤ n → s₁.gens = #[] →
      codeAny (model l.prog w) callerA (.call (.ref fa) ⟨[.ref a], []⟩) (fun r s' => r = .ok (.ret (.bool true)) ∧ OldK s₁.heap s'.heap ∧ s'.os = s₁.os ∧ AllBare s'.gens) s₁) :
    WalkO q loose XP YP l.row.toRowW d [] (fun f vs => PySem.call f vs) := by
  intro w s₀ s₁ mg mb G Y fa o pm cd doc dV kV ho hd hcd hD hmg hg args vals as hpre hlay hrd hwl hlo
  obtain rfl : dV = .none := Dflts.none hD hdf
  obtain rfl : kV = .none := Dflts.noKw hD
  obtain ⟨a, vs, ns, rfl, rfl, hobj, hints, hlen⟩ := script_of hn hpre hwl
  refine enter_call (codeAny_mono (call w s₀ s₁ mg mb fa o pm cd doc a vs ns G Y ho (fd_plain hd) hcd hmg hobj hints hlen hg) fun r s' hq => ?_)
  obtain ⟨rfl, h2, h3, h4⟩ := hq
  exact ⟨.inl ⟨.bool true, .bool true, [], rfl, fun _ => rfl, .bool true, post_true l _, fun _ => ⟨List.Pairwise.nil, fun _ hm => (nomatch hm)⟩⟩, h2, h3, h4⟩
end Att
namespace L2
open PySem PySem.Spec PyProof.Rows
theorem vals_ints : ∀ {vs : List Value} {ns : List Int}, IntsAre vs ns → Vals (ns.map V.int) vs
  | _, _, .nil => .nil
  | _, _, .cons n t h => .cons ⟨t, rfl⟩ (vals_ints h)
def Only (H : Hp) : Prop := ∀ b, H b = none ∨ ∃ o xs, H b = some (.frz o (.lst xs))
theorem law_call {P : Program} {w : World} {K : PySem.W.Frag} {mg mb : Str → Option Value} {CX : CXT} {k : Nat} {fa a : Addr} {fd : FuncData} {x : Str} {sp : Sp} {s₁ : Shared} {vs : List Value} {ns : List Int}
    (KX : K.In s₁.heap) (hns : s₁.heap.Ns mainGlobals mg) (hb : s₁.heap.Ns builtinsNs mb) (hbb : ∀ x : Str, x ≠ "__name__" → mb x = bootBuiltins x) (hlim : s₁.heap.NoLimit) (hg : s₁.gens = #[])
    (ha : s₁.heap.get? a = some { cls := .type "list", data := .seq vs.toArray }) (hi : IntsAre vs ns) (hl : ns.length ≤ sizeLine) (hr : Room k callerA)
    (F : ∀ base : Heap, K.In base → base.Ns mainGlobals mg → FnOk P w K mg base CX k fa fd [x] sp) (hbind : ∀ (s : Shared) (u : Value), BindsTo s fd ⟨[u], []⟩ [(x, u)])
    (hsp : ∀ H : Hp, Only H → SqL K H a (ns.map V.int) → sp [.ref a] H (fun v _ => v = .bl true) fun _ _ _ => False)
    (hCX : ∀ H e s', CX [] H s₁ (fun _ _ _ => False) e s' → False) :
    codeAny (model P w) callerA (.call (.ref fa) ⟨[.ref a], []⟩) (fun r s' => r = .ok (.ret (.bool true)) ∧ OldK s₁.heap s'.heap ∧ s'.os = s₁.os ∧ AllBare s'.gens) s₁ := by
  have rv := vals_ints hi
  have lenV := hi.length
  have core : ∀ H : Hp, Only H → SqL K H a (ns.map V.int) → HOk P w H s₁.heap → (∀ b, H b ≠ none → b = a) → (H a ≠ none → K.lookup a = none) →
      codeAny (model P w) callerA (.call (.ref fa) ⟨[.ref a], []⟩) (fun r s' => r = .ok (.ret (.bool true)) ∧ OldK s₁.heap s'.heap ∧ s'.os = s₁.os ∧ AllBare s'.gens) s₁ := by
    intro H hO hS hok hA hK
    have base_of : ∀ {b : Addr} {o : Obj}, s₁.heap.get? b = some o → H b = none → (hidT s₁.heap H).get? b = some o := fun e n => hidT_get e n
    have noA : ∀ {b : Addr} {o : Obj} {es : Array DictEntry} {ep : Nat}, s₁.heap.get? b = some o → o.data = .dict es ep → H b = none := fun {b o es ep} e d => by
      cases q : H b with
      | none => rfl
      | some u =>
        have e' : b = a := hA b (by rw [q]; simp)
        subst e'
        rw [ha] at e; cases e
        have d' : Data.seq vs.toArray _ = Data.dict es ep := d
        cases d'
    have nsK : ∀ {b : Addr} {m : Str → Option Value}, s₁.heap.Ns b m → (hidT s₁.heap H).Ns b m := fun {b m} ⟨o, es, ep, e, d, r⟩ => ⟨o, es, ep, base_of e (noA e d), d, r⟩
    have hKb : K.In (hidT s₁.heap H) := fun b o e => base_of (KX b o e) (by
      cases q : H b with
      | none => rfl
      | some u =>
        have e' : b = a := hA b (by rw [q]; simp)
        subst e'
        rw [hK (by rw [q]; simp)] at e; cases e)
    have hM : Mod K mg (hidT s₁.heap H) := ⟨hKb, nsK hns, ⟨mb, nsK hb, hbb⟩, let ⟨mc, h1, h2⟩ := hlim; ⟨mc, nsK h1, h2⟩⟩
    have e0 : Env0 P w K mg (hidT s₁.heap H) callerA [] s₁ H := ⟨rfl, hM, fun b o e => of_hidT e, Nat.le_of_eq (hidT_size _ _), trivial, fun b hb => absurd (show b ∈ ([] : List Addr) from hb) (by simp), hok, .of_eq hg⟩
    refine codeAny_mono ((F _ hKb (nsK hns)).run callerA [] s₁ H ⟨[.ref a], []⟩ [.ref a] [.ref a] _ _ hr e0 (hbind s₁ (.ref a)) (.cons rfl .nil) (hsp H hO hS)) fun r s' h => ?_
    cases r with
    | error e => exact (hCX H e s' h).elim
    | ok fl =>
      cases fl with
      | next => exact False.elim h
      | brk => exact False.elim h
      | cont => exact False.elim h
      | ret u =>
        obtain ⟨v, H', os, bare, un, hok', r', q⟩ := h
        have q' : v = .bl true := q
        subst q'
        obtain rfl : u = Value.bool true := r'
        refine ⟨rfl, OldK.of_keep fun b o e => ?_, os, bare⟩
        cases q : H b with
        | none => exact un.keep b o e q (by intro z; exact absurd (show b ∈ ([] : List Addr) from z) (by simp)) (by simp)
        | some u =>
          rcases hO b with z | ⟨ob, xs, z⟩
          · rw [q] at z; cases z
          · have z2 := un.frzs b ob _ z
            obtain ⟨e1, _⟩ := hok b _ z
            obtain ⟨e2, _⟩ := hok' b _ z2
            rw [e] at e1; cases e1
            exact e2
  cases hk : K.lookup a with
  | some o =>
    have e := KX a o hk
    rw [ha] at e
    cases e
    refine core (fun _ => none) (fun _ => .inl rfl) (.inr ⟨_, vs.toArray, _, hk, rfl, rfl, rfl, by rw [List.size_toArray, lenV]; exact hl, by simpa using rv⟩) (fun b u z => by have z' : (none : Option HO) = some u := z; cases z') (fun b z => absurd rfl z) fun z => absurd rfl z
  | none =>
    refine core (fun b => if b = a then some (.frz { cls := .type "list", data := .seq vs.toArray } (.lst (ns.map V.int))) else none) (fun b => ?_) (.inl (.inr ⟨{ cls := .type "list", data := .seq vs.toArray }, if_pos rfl⟩)) (fun b u z => ?_) (fun b z => ?_) fun _ => hk
    · by_cases hb : b = a
      · exact .inr ⟨_, _, if_pos hb⟩
      · exact .inl (if_neg hb)
    · by_cases hb : b = a
      · have z' := (if_pos hb).symm.trans z
        cases z'
        subst hb
        exact ⟨ha, by rw [List.length_map]; exact hl, vs, _, rv, ha⟩
      · have z' := (if_neg hb).symm.trans z
        cases z'
    · by_cases hb : b = a
      · exact hb
      · exact absurd (if_neg hb) z
end L2
namespace L2
open PySem PySem.Spec PyProof.Rows
theorem walk_of {l : PySem.W.OpenLaw} {n k : Nat} {q : Program} {loose : List Str} {XP : (Str → Option Value) → Heap → Prop} {YP : World → Heap → Prop} {d : DefRec} {K : Params → PySem.W.Frag} {CX : World → CXT} {sp : World → Sp} {x : Str}
    (hn : l.most = some n) (hn2 : n ≤ sizeLine) (hdf : d.params.defaults = []) (hr : Room k callerA)
    (hY : ∀ (w : World) (h : Heap), YP w h → (K w.params).In h)
    (F : ∀ (w : World) (mg : Str → Option Value) (fa : Addr) (h : Heap), (K w.params).In h → h.Ns mainGlobals mg → mg d.name = some (.ref fa) →
      ∃ fd : FuncData, (∀ (s : Shared) (u : Value), BindsTo s fd ⟨[u], []⟩ [(x, u)]) ∧
        ∀ base : Heap, (K w.params).In base → base.Ns mainGlobals mg → FnOk l.prog w (K w.params) mg base (CX w) k fa fd [x] (sp w))
    (hsp : ∀ (w : World) (H : Hp) (a : Addr) (ns : List Int), ns.length ≤ n → Only H → SqL (K w.params) H a (ns.map V.int) → sp w [.ref a] H (fun v _ => v = .bl true) fun _ _ _ => False)
    (hCX : ∀ (w : World) (H : Hp) (s : Shared) (e : Value) (s' : Shared), CX w [] H s (fun _ _ _ => False) e s' → False) :
    PySem.W.WalkO q loose XP YP l.row.toRowW d [] (fun f vs => PySem.call f vs) := by
  refine Att.attach_call hn hdf fun w s₀ s₁ mg mb fa o pm cd doc a vs ns G Y ho hd hcd hmg hobj hints hlen hg => ?_
  have KX := hY w _ Y
  obtain ⟨fd, hb, hF⟩ := F w mg fa _ KX G.T.g hmg
  exact law_call KX G.T.g G.T.b G.T.builtins G.T.nolimit hg hobj hints (Nat.le_trans hlen hn2) hr hF hb (fun H hO hS => hsp w H a ns hlen hO hS) fun H e s' => hCX w H s₁ e s'
end L2
namespace L2
open PySem PySem.Spec PyProof.Rows
def defArgs (s : Stmt) : Arguments := match s with
  | .FunctionDef _ a _ _ _ _ _ _ _ _ => a
  | _ => { posonlyargs := [], args := [], vararg := none, kwonlyargs := [], kw_defaults := [], kwarg := none, defaults := [] }
def defBody (s : Stmt) : List Stmt := match s with
  | .FunctionDef _ _ b _ _ _ _ _ _ _ => b
  | _ => []
def defScope (s : Stmt) : Scope := match s with
  | .FunctionDef _ _ _ _ _ _ sc _ _ _ => sc
  | _ => { kind := .function, names := [], isGenerator := false, isCoroutine := false }
abbrev CX0 : CXT := fun _ _ _ _ _ _ => False
abbrev E0 : XK := fun _ _ _ => False
theorem pass0 {X : Cx} : Passes CX0 X E0 := fun _ _ _ _ _ _ _ h => h.elim
structure Fun (K : PySem.W.Frag) (x qual : Str) (st : Stmt) (f : Addr) (fd : FuncData) : Prop where
  ex : ∃ (oc : Value) (od : Option Addr) (kV doc pm : Value) (an : Option Addr) (cdv ct : Value) (osl : Array (Option Value)),
    fd = PySem.W.fnOf x qual (defArgs st) (defBody st) (defScope st) .none kV doc pm an cdv ct ∧ K.lookup f = some ⟨oc, od, .func fd, osl⟩ ∧ PySem.W.codeIn K cdv qual = true
  kp : PySem.W.keepIn K (.ref f) = true
section
variable {P : Program} {w : World} {K : PySem.W.Frag} {mg : Str → Option Value} {base : Heap}
theorem Fun.ok {x qual : Str} {st : Stmt} {f : Addr} {fd : FuncData} {N ps : List Str} {k : Nat} {sp : Sp} (F : Fun K x qual st f fd) (S : FnScope N ps (defScope st)) (len : ∀ vs H Q E, sp vs H Q E → vs.length = ps.length)
    (hbody : ∀ (cdv : Value) (A : Around) (outer : List Env) (s : Shared) (H : Hp) (vs : List V) (Q : VK) (E : XK), Room k (A.deeper (envOfC qual (defScope st) s.heap.objs.size f cdv)) → sp vs H Q E →
      ∃ t, PSs (cxOf CX0 P w K mg base N qual (defScope st) f cdv A outer s H E).nox (defBody st) t ∧ t { nx := fun _ H' => Q .non H', rt := Q } (start N vs) H) : FnOk P w K mg base CX0 (k + 1) f fd ps sp := by
  obtain ⟨oc, od, kV, doc, pm, an, cdv, ct, osl, rfl, lk, hcd⟩ := F.ex
  refine fn_of lk hcd S len fun A outer s H vs Q E hr hsp => ?_
  obtain ⟨t, h, q⟩ := hbody cdv A outer s H vs Q E hr hsp
  exact ⟨t, h.nox, q⟩
theorem Fun.binds {x qual : Str} {st : Stmt} {f : Addr} {fd : FuncData} {ps : List Str} (F : Fun K x qual st f fd)
    (h : ∀ (kV doc pm : Value) (an : Option Addr) (cdv ct : Value) (us : List Value), us.length = ps.length → bindArgs (PySem.W.fnOf x qual (defArgs st) (defBody st) (defScope st) .none kV doc pm an cdv ct) ⟨us, []⟩ = pure (ps.zip us)) : Binds K fd ps [] := by
  obtain ⟨oc, od, kV, doc, pm, an, cdv, ct, osl, rfl, lk, hcd⟩ := F.ex
  exact .all (h kV doc pm an cdv ct)
theorem fun_mk {x qual : Str} {st : Stmt} {f : Addr} {oc : Value} {od an : Option Addr} {osl : Array (Option Value)} {kV doc pm cdv ct : Value} (l : K.lookup f = some ⟨oc, od, .func (PySem.W.fnOf x qual (defArgs st) (defBody st) (defScope st) .none kV doc pm an cdv ct), osl⟩)
    (c : PySem.W.codeIn K cdv qual = true) (k : PySem.W.keepIn K (.ref f) = true) : Fun K x qual st f (PySem.W.fnOf x qual (defArgs st) (defBody st) (defScope st) .none kV doc pm an cdv ct) := ⟨⟨oc, od, kV, doc, pm, an, cdv, ct, osl, rfl, l, c⟩, k⟩
end
section
variable {X : Cx}
theorem pv (i : Nat) {x : Str} {pos : Pos} (hN : X.N[i]? = some x := by rfl) (hv : Vis X.env.scope x := by first | exact Or.inl rfl | exact Or.inr (Or.inl rfl) | exact Or.inr (Or.inr rfl)) (hd : (x == ("__debug__" : Str)) = false := by decide)
    (hcd : (x == ("__classdict__" : Str)) = false := by decide) : PE X (.Name x pos) (tVar i) := pe_var hN hv hd hcd
end
end L2
set_option maxHeartbeats 4000000
namespace L2
open PySem PySem.Spec PyProof.Rows
def closL (env : Env) (l : List (Str × NameKind)) (cs : List (Str × Addr)) : List (Str × Addr) :=
  l.foldl (fun c y => if y.2 == .free then (y.1, (env.cells.lookup y.1).getD 0) :: c else c) cs
theorem forIn_yields {α β : Type} {l : List α} {f : α → β → Sem (ForInStep β)} {g : β → α → β} : ∀ (c : β), (∀ x ∈ l, ∀ c, f x c = pure (.yield (g c x))) →
    forIn l c f = pure (l.foldl g c) := by
  induction l with
  | nil => intro c _; rfl
  | cons x l ih =>
    intro c h
    rw [List.forIn_cons, h x List.mem_cons_self, pure_bind]
    exact ih _ fun y hy => h y (List.mem_cons_of_mem _ hy)
theorem closureFor_of {scope : Scope} {env : Env} (h : ∀ y ∈ scope.names, y.2 = .free → ∃ c, env.cells.lookup y.1 = some c) : closureFor scope env = pure (closL env scope.names []) := by
  unfold closureFor closL
  dsimp only
  rw [forIn_yields (g := fun c y => if y.2 == .free then (y.1, (env.cells.lookup y.1).getD 0) :: c else c) [] ?_]
  · rfl
  · intro y hy c
    obtain ⟨n, k⟩ := y
    by_cases hk : k = .free
    · subst hk
      obtain ⟨a, ha⟩ := h _ hy rfl
      have ha' : env.cells.lookup n = some a := ha
      simp [cellOf, ha']
    · have e : (k == NameKind.free) = false := by simpa using hk
      simp [e]
theorem closL_sound {env : Env} : ∀ (l : List (Str × NameKind)) (cs : List (Str × Addr)), (∀ y ∈ l, y.2 = .free → ∃ c, env.cells.lookup y.1 = some c) → (∀ p ∈ cs, env.cells.lookup p.1 = some p.2) →
    ∀ p ∈ closL env l cs, env.cells.lookup p.1 = some p.2
  | [], _, _, h => h
  | (n, k) :: l, cs, hl, h => by
    refine closL_sound l _ (fun y hy => hl y (List.mem_cons_of_mem _ hy)) fun p hp => ?_
    by_cases hk : k = .free
    · subst hk
      obtain ⟨c, hc⟩ := hl _ List.mem_cons_self rfl
      have hc' : env.cells.lookup n = some c := hc
      have hp' : p ∈ (n, (env.cells.lookup n).getD 0) :: cs := hp
      rcases List.mem_cons.mp hp' with rfl | hp
      · show env.cells.lookup n = some ((env.cells.lookup n).getD 0)
        rw [hc']; rfl
      · exact h p hp
    · have hp' : p ∈ (if (k == NameKind.free) = true then (n, (env.cells.lookup n).getD 0) :: cs else cs) := hp
      rw [if_neg (by simpa using hk)] at hp'
      exact h p hp'
theorem closL_mono {env : Env} : ∀ (l : List (Str × NameKind)) (cs : List (Str × Addr)) (p : Str × Addr), p ∈ cs → p ∈ closL env l cs
  | [], _, _, h => h
  | (n, k) :: l, cs, p, h => by
    refine closL_mono l _ p ?_
    show p ∈ (if (k == .free) = true then (n, (env.cells.lookup n).getD 0) :: cs else cs)
    split
    · exact List.mem_cons_of_mem _ h
    · exact h
theorem closL_there {env : Env} : ∀ (l : List (Str × NameKind)) (cs : List (Str × Addr)) (n : Str), (n, NameKind.free) ∈ l → ∃ c, (n, c) ∈ closL env l cs
  | [], _, _, h => nomatch h
  | (m, k) :: l, cs, n, h => by
    rcases List.mem_cons.mp h with e | h
    · have e1 : n = m := congrArg Prod.fst e
      have e2 : NameKind.free = k := congrArg Prod.snd e
      subst e1 e2
      exact ⟨(env.cells.lookup n).getD 0, closL_mono l _ _ List.mem_cons_self⟩
    · exact closL_there l _ n h
theorem lookup_of_mem {β : Type} : ∀ {l : List (Str × β)} {n : Str}, (∃ c, (n, c) ∈ l) → ∃ c, l.lookup n = some c
  | [], _, h => let ⟨_, z⟩ := h; nomatch z
  | (m, b) :: l, n, h => by
    by_cases e : n = m
    · subst e
      exact ⟨b, by simp [List.lookup_cons]⟩
    · obtain ⟨c, hc⟩ := h
      rcases List.mem_cons.mp hc with z | z
      · cases z; exact absurd rfl e
      · obtain ⟨c', h'⟩ := lookup_of_mem ⟨c, z⟩
        refine ⟨c', ?_⟩
        have e' : (n == m) = false := by simpa using e
        simp [List.lookup_cons, e', h']
def relS (scope osc : Scope) : List (Str × NameKind) := scope.names.map fun (n, k) => if (k == .free && osc.kind == .function && osc.names.lookup n == some .cell) then (n, .cell) else (n, k)
def compB (osc : Scope) (N : List Str) (sc : Scope) (idx : List Nat) : Bool :=
  decide (sc.kind = .function) && sc.names.all (fun y => decide (y.2 ≠ .cell)) && sc.names.all (fun y => decide (y.2 ≠ .local) || decide (sc.names.lookup y.1 = some .local)) &&
  sc.names.all (fun y => decide (y.2 ≠ .free) || decide (osc.names.lookup y.1 = some .cell) || decide (osc.names.lookup y.1 = some .free)) &&
  idx.all (fun i => match N[i]? with
    | some y => (decide (osc.names.lookup y = some .cell) || decide (osc.names.lookup y = some .free)) && (decide ((relS sc osc).lookup y = some .cell) || decide ((relS sc osc).lookup y = some .free))
    | none => false)
def caps (σ : St) (idx : List Nat) : St := idx.map fun i => (σ[i]?).join
theorem caps_length (σ : St) (idx : List Nat) : (caps σ idx).length = idx.length := by unfold caps; rw [List.length_map]
def cxComp (X : Cx) (sc : Scope) (T : List Str) (idx : List Nat) (C : Addr) (s₂ : Shared) (H1 : Hp) (fp : List Addr) : Cx where
  prog := X.prog
  w := X.w
  K := X.K
  mg := X.mg
  base := X.base
  A := X.A
  N := T ++ idx.map fun i => (X.N[i]?).getD Str.empty
  s₀ := s₂
  H₀ := H1
  env := compEnvC sc (closL X.env sc.names []) C X.env
  outer := X.stack
  stack := X.stack
  ex := fp
  fn := fun _ => false
  calm := X.calm
  pn := []
  xe := fun _ _ => False
def tComp (wi : TI) (g : TG) (tc : Addr → Shared → Hp → List Addr → TT) (te : Addr → Shared → Hp → List Addr → TE) (nt : Nat) (idx : List Nat) : TE := fun σ H Q => wi σ H fun J H1 => ∃ W : Nat → Nat → List V → Hp → Prop, (∃ m, W 0 m [] H1) ∧ ∀ i m ys H2, W i m ys H2 → ys.length ≤ sizeLine ∧
  ((J.stop i H2 ∧ ∀ D, H2 D = none → Q (.ref D) (upd H2 D (.lst ys))) ∨
   (J.go i H2 ∧ ys.length < sizeLine ∧ ∀ x H3, J.yld i H2 x H3 → ∀ τ : St, τ.length = nt → g x (τ ++ caps σ idx) H3 fun σ4 H4 => (∃ τ', σ4 = τ' ++ caps σ idx ∧ τ'.length = nt) ∧
     ∀ C s₂ fp, tc C s₂ H1 fp σ4 H4 fun b H5 => if b = true then te C s₂ H1 fp σ4 H5 fun y H6 => ∃ m', m' < m ∧ W (i + 1) m' (ys ++ [y]) H6 else ∃ m', m' < m ∧ W (i + 1) m' ys H5))
section
variable {prog : Program} {w : World} {A : Around} {R : Result → Shared → Prop} {s : Shared}
theorem compLoop_gen {elt target iter : Expr} {ifs : List Expr} {scope : Scope} {pos : Pos} {it acc : Value} {env : Env} (I : Nat → Shared → Prop)
    (turn : ∀ n s, I n s → wpAny (model prog w) A (pyNext it) (fun r s₁ => match r with
      | none => R (.ok .next) s₁
      | some v => wpAny (model prog w) A (letOwnedTupleGo target it v) (fun _ s₁' => wpAny (model prog w) A (assign target env v) (fun _ s₂ =>
          wpAny (model prog w) A (forIn ifs true fun c r => if r = true then do let ok ← isTrue c env (eval c env); pure (ForInStep.yield ok) else pure (ForInStep.yield r)) (fun ok s₃ =>
            if ok = true then wpAny (model prog w) A (eval elt env) (fun x s₄ =>
              wpAny (model prog w) A (call (.builtin "list.append") [acc, x]) (fun _ s₅ => ∃ m, m < n ∧ I m s₅) (fun _ _ => False) s₄) (fun _ _ => False) s₃
            else ∃ m, m < n ∧ I m s₃) (fun _ _ => False) s₂) (fun _ _ => False) s₁') (fun _ _ => False) s₁) (fun _ _ => False) s)
    (n : Nat) (h : I n s) : codeAny (model prog w) A (.compLoop (.ListComp elt [⟨target, iter, ifs, 0⟩] scope pos) 0 it acc env) R s := by
  refine codeAny_loop rfl I (fun n s hI => ?_) n h
  show wpAny _ A ((compTurn (.ListComp elt [⟨target, iter, ifs, 0⟩] scope pos) 0 it acc env).onRaise (fun x => do noteFrame x env; theTreesLotGoes x)) _ _ s
  refine wpAny_noted ?_
  rw [compTurn_list]
  have no : ∀ {E' : Value → Shared → Prop} (v : Value) (s' : Shared), False → E' v s' := fun _ _ z => z.elim
  refine wpAny_bind (wpAny_standAt (wpAny_bind (wpAny_mono (turn n s hI) (fun r s₁ h₁ => ?_) (no))))
  cases r with
  | none => exact wpAny_pure h₁
  | some v =>
    refine wpAny_bind (wpAny_mono h₁ (fun _ s₁' h₁' => wpAny_bind (wpAny_mono h₁' (fun _ s₂ h₂ => wpAny_bind (wpAny_mono h₂ (fun ok s₃ h₃ => ?_) no)) no)) no)
    cases ok with
    | false => exact wpAny_pure ⟨rfl, h₃⟩
    | true =>
      exact wpAny_bind (wpAny_bind (wpAny_mono h₃ (fun x s₄ h₄ => wpAny_bind (wpAny_mono h₄ (fun _ s₅ h₅ => wpAny_pure (wpAny_pure ⟨rfl, h₅⟩)) no)) no))
end
def PIfs (X : Cx) (ifs : List Expr) (t : TT) : Prop :=
  ∀ (pins : List (Addr × Obj)) (s : Shared) (σ : St) (H : Hp) (Q : Bool → Hp → Prop), Inv X pins σ H s → t σ H Q →
    wpAny (model X.prog X.w) X.A (forIn ifs true fun c r => if r = true then do let ok ← isTrue c X.env (eval c X.env); pure (ForInStep.yield ok) else pure (ForInStep.yield r)) (TP X pins σ Q) X.xe s
def tNoIf : TT := fun _ H Q => Q true H
theorem pifs_nil {X : Cx} : PIfs X [] tNoIf := fun _ _ _ H _ I h => wpAny_tests_nil ⟨H, I, h⟩
end L2
namespace L2
open PySem PySem.Spec PyProof.Rows
structure CompF (osc : Scope) (N : List Str) (sc : Scope) (idx : List Nat) : Prop where
  kind : sc.kind = .function
  nocell : ∀ y ∈ sc.names, y.2 ≠ .cell
  locs : ∀ y ∈ sc.names, y.2 = .local → sc.names.lookup y.1 = some .local
  frees : ∀ y ∈ sc.names, y.2 = .free → osc.names.lookup y.1 = some .cell ∨ osc.names.lookup y.1 = some .free
  cap : ∀ i ∈ idx, ∃ y, N[i]? = some y ∧ (osc.names.lookup y = some .cell ∨ osc.names.lookup y = some .free) ∧ ((relS sc osc).lookup y = some .cell ∨ (relS sc osc).lookup y = some .free)
theorem compB_f {osc : Scope} {N : List Str} {sc : Scope} {idx : List Nat} (h : compB osc N sc idx = true) : CompF osc N sc idx := by
  unfold compB at h
  simp only [Bool.and_eq_true, List.all_eq_true, decide_eq_true_eq, Bool.or_eq_true] at h
  obtain ⟨⟨⟨⟨h1, h2⟩, h3⟩, h4⟩, h5⟩ := h
  refine ⟨h1, fun y hy => h2 y hy, fun y hy e => ?_, fun y hy e => ?_, fun i hi => ?_⟩
  · rcases h3 y hy with z | z
    · exact absurd e z
    · exact z
  · rcases h4 y hy with (z | z) | z
    · exact absurd e z
    · exact .inl z
    · exact .inr z
  · have q := h5 i hi
    cases e : N[i]? with
    | none => rw [e] at q; cases q
    | some y =>
      rw [e] at q
      simp only [Bool.and_eq_true, decide_eq_true_eq, Bool.or_eq_true] at q
      exact ⟨y, rfl, q.1, q.2⟩
theorem relS_free {sc osc : Scope} {x : Str} (hno : ∀ y ∈ sc.names, y.2 ≠ .cell) (h : (relS sc osc).lookup x = some .cell ∨ (relS sc osc).lookup x = some .free) : (x, NameKind.free) ∈ sc.names := by
  have key : ∀ k', (k' = .cell ∨ k' = .free) → (x, k') ∈ relS sc osc → (x, NameKind.free) ∈ sc.names := by
    intro k' hk' hm
    unfold relS at hm
    obtain ⟨⟨n, k⟩, hy, e⟩ := List.mem_map.mp hm
    dsimp only at e
    split at e
    · rename_i hc
      cases e
      rw [Bool.and_eq_true, Bool.and_eq_true] at hc
      have : k = .free := by simpa using hc.1.1
      subst this
      exact hy
    · cases e
      rcases hk' with rfl | rfl
      · exact absurd rfl (hno _ hy)
      · exact hy
  rcases h with h | h
  · exact key _ (.inl rfl) (PySem.mem_of_lookup h)
  · exact key _ (.inr rfl) (PySem.mem_of_lookup h)
section
variable {X : Cx} {pins : List (Addr × Obj)} {σ : St} {H1 : Hp} {s₂ : Shared} {sc : Scope} {T : List Str} {idx : List Nat} {C : Addr} {fp : List Addr}
theorem clos_has (I : Inv X pins σ H1 s₂) (F : CompF X.env.scope X.N sc idx) : ∀ y ∈ sc.names, y.2 = .free → ∃ c, X.env.cells.lookup y.1 = some c :=
  fun y hy e => I.ok.has y.1 (F.frees y hy e)
theorem clos_look (I : Inv X pins σ H1 s₂) (F : CompF X.env.scope X.N sc idx) {x : Str} {c : Addr} (e : (closL X.env sc.names []).lookup x = some c) : X.env.cells.lookup x = some c :=
  closL_sound sc.names [] (clos_has I F) (fun _ z => nomatch z) (x, c) (PySem.mem_of_lookup e)
theorem clos_of (I : Inv X pins σ H1 s₂) (F : CompF X.env.scope X.N sc idx) {x : Str} {c : Addr} (hx : (x, NameKind.free) ∈ sc.names) (e : X.env.cells.lookup x = some c) : (closL X.env sc.names []).lookup x = some c := by
  obtain ⟨c', h'⟩ := lookup_of_mem (closL_there (env := X.env) sc.names [] x hx)
  rw [h']
  rw [clos_look I F h'] at e
  exact e
theorem cxComp_ok (I : Inv X pins σ H1 s₂) (F : CompF X.env.scope X.N sc idx) (hC : s₂.heap.objs.size ≤ C) (hfp : ∀ b ∈ fp, FpOk X pins H1 b) (hlt : ∀ b ∈ fp, b < s₂.heap.objs.size) : (cxComp X sc T idx C s₂ H1 fp).Ok where
  mod := I.ok.mod
  kind := F.kind
  glob := I.ok.glob
  blt := I.ok.blt
  above := hC
  inj := fun x y c h1 h2 => I.ok.inj x y c (clos_look I F h1) (clos_look I F h2)
  has := fun x hx => by
    have hx' : (relS sc X.env.scope).lookup x = some .cell ∨ (relS sc X.env.scope).lookup x = some .free := hx
    exact lookup_of_mem (closL_there sc.names [] x (relS_free F.nocell hx'))
  cab := fun x c h _ => nomatch h
  hd := I.ok.hd
  frames := I.ok.frames
  stk := .inl rfl
  exf := fun b hb => ⟨Nat.ne_of_lt (Nat.lt_of_lt_of_le (hlt b hb) hC), fun x c e => (hfp b hb).2.2.2.2.1 x c (clos_look I F e)⟩
  bs := I.bs
  bsz := Nat.le_trans I.ok.bsz I.sz
  noex := fun b o e hb => by
    rcases (hfp b hb).2.2.2.1 with z | z
    · exact I.ok.noex b o e z
    · exact absurd (Nat.lt_of_lt_of_le (Heap.lt_size e) (Nat.le_trans I.ok.bsz z)) (Nat.lt_irrefl _)
  exfs := fun b hb z => by
    rcases List.mem_cons.mp (I.stkSub b z) with e | e
    · exact (hfp b hb).2.1 e
    · exact (hfp b hb).2.2.1 e
  funs := I.stack
  frf := I.stkFree
theorem cxComp_inv {s₄ : Shared} {m : Str → Option Value} (I : Inv X pins σ H1 s₂) (F : CompF X.env.scope X.N sc idx) (hC : s₂.heap.objs.size ≤ C) (hfp : ∀ b ∈ fp, FpOk X pins H1 b) (hlt : ∀ b ∈ fp, b < s₂.heap.objs.size)
    (kp : ∀ b o, s₂.heap.get? b = some o → s₄.heap.get? b = some o) (ho : s₄.os = s₂.os) (hg : s₄.gens = s₂.gens) (hn : s₄.heap.Ns C m) :
    Inv (cxComp X sc T idx C s₂ H1 fp) [] (T.map (fun _ => none) ++ caps σ idx) H1 s₄ := by
  have cellK : ∀ c v, s₂.heap.IsCell c v → s₄.heap.IsCell c v := fun c v ⟨o, h1, h2⟩ => ⟨o, kp c o h1, h2⟩
  refine ⟨cxComp_ok I F hC hfp hlt, ho, by rw [hg]; exact I.bare, Un.kept kp, ⟨m, hn, fun i x v e1 e2 e3 => ?_⟩, fun x c e => ?_, I.hok.fresh hC, fun x c e => I.freeC x c (clos_look I F e), fun p hp => absurd (show p ∈ ([] : List (Addr × Obj)) from hp) (by simp), I.hok.kept kp, ?_⟩
  · have e1' : (T ++ idx.map fun i => (X.N[i]?).getD Str.empty)[i]? = some x := e1
    by_cases hi : i < T.length
    · rw [List.getElem?_append_left (by simpa using hi), List.getElem?_map] at e2
      cases z : T[i]? with
      | none => rw [z] at e2; cases e2
      | some y => rw [z] at e2; cases e2
    · rw [List.getElem?_append_right (by simpa using hi)] at e2
      rw [List.getElem?_append_right (by omega)] at e1'
      rw [List.length_map] at e2
      unfold caps at e2
      rw [List.getElem?_map] at e1' e2
      cases z : idx[i - T.length]? with
      | none => rw [z] at e2; cases e2
      | some j =>
        rw [z] at e1' e2
        have hj : j ∈ idx := List.mem_of_getElem? z
        obtain ⟨y, hy, k1, k2⟩ := F.cap j hj
        have ex : y = x := by
          have q : (X.N[j]?).getD Str.empty = x := Option.some.inj e1'
          rw [hy] at q; exact q
        subst ex
        have ev : σ[j]? = some (some v) := by
          have q : (σ[j]?).join = some v := Option.some.inj e2
          cases w' : σ[j]? with
          | none => rw [w'] at q; cases q
          | some a => rw [w'] at q; have q' : a = some v := q; rw [q']
        obtain ⟨m0, hn0, hl0⟩ := I.loc
        have vis : Vis X.env.scope y := k1.elim (fun z => .inr (.inl z)) fun z => .inr (.inr z)
        obtain ⟨u, r, l⟩ := hl0 j y v hy ev vis
        refine ⟨u, r, ?_⟩
        rcases l with ⟨kl, _⟩ | ⟨_, c, hc, q⟩
        · have kl' : X.env.scope.names.lookup y = some .local := kl
          rcases k1 with z | z <;> rw [z] at kl' <;> cases kl'
        · exact .inr ⟨k2, c, clos_of I F (relS_free F.nocell k2) hc, cellK c _ q⟩
  · obtain ⟨v, q⟩ := I.cell x c (clos_look I F e)
    exact ⟨v, cellK c v q⟩
  · show (T.map (fun _ => (none : Option V)) ++ caps σ idx).length = (T ++ idx.map fun i => (X.N[i]?).getD Str.empty).length
    rw [List.length_append, List.length_append, List.length_map, List.length_map, caps_length]
theorem cxComp_end {σ1 : St} {H' : Hp} {s' : Shared} {h' : Heap} {D : Addr} {ys : List V} {its : List Value} {n : Nat} (I : Inv X pins σ H1 s₂) (hC : s₂.heap.objs.size ≤ C) (hfp : ∀ b ∈ fp, FpOk X pins H1 b)
    (J : Inv (cxComp X sc T idx C s₂ H1 fp) [] σ1 H' s') (hs : Heap.SameBut C s'.heap h') (hD : s₂.heap.objs.size ≤ D) (hDC : D ≠ C) (eD : s'.heap.get? D = some { cls := .type "list", data := .seq its.toArray n }) (nD : H' D = none) (r : Vals ys its) (hz : ys.length ≤ sizeLine) :
    Inv X pins σ (upd H' D (.lst ys)) { s' with heap := h' } := by
  have old : ∀ b o, s₂.heap.get? b = some o → b ≠ C ∧ b ≠ D := fun b o e => ⟨Nat.ne_of_lt (Nat.lt_of_lt_of_le (Heap.lt_size e) hC), Nat.ne_of_lt (Nat.lt_of_lt_of_le (Heap.lt_size e) hD)⟩
  have oldH : ∀ b u, H1 b = some u → b ≠ D := fun b u e => Nat.ne_of_lt (Nat.lt_of_lt_of_le (I.hok.lt e) hD)
  have nC : H' C = none := J.free
  have B : Un (frs X.stack) fp H1 H' s₂.heap s'.heap := J.base
  have mv : ∀ b o, b ≠ C → s'.heap.get? b = some o → h'.get? b = some o := fun b o hb e => (hs.2 b hb).trans e
  refine I.call' (s' := { s' with heap := h' }) (ch := fp) J.os ⟨fun b o e q hb hx => ?_, fun b o e q hb hx => ?_, fun b o e q hx => ?_, fun b o e hx => ?_, fun b xs e => ?_, fun b o u e => ?_, fun b ps e => ?_⟩ ?_ J.bare fun b hb => ⟨(hfp b hb).2.2.2.1, (hfp b hb).2.1, (hfp b hb).2.2.2.2.1, (hfp b hb).2.2.2.2.2⟩
  · exact mv b o (old b o e).1 (B.keep b o e q hb hx)
  · obtain ⟨sl, z⟩ := B.slot b o e q hb hx
    exact ⟨sl, mv b _ (old b o e).1 z⟩
  · rw [upd_ne (old b o e).2]; exact B.free b o e q hx
  · obtain ⟨o', z⟩ := B.there b o e hx
    exact ⟨o', mv b o' (old b o e).1 z⟩
  · rw [upd_ne (oldH b _ e)]; exact B.tups b xs e
  · rw [upd_ne (oldH b _ e)]; exact B.frzs b o u e
  · obtain ⟨more, z⟩ := B.tbls b ps e
    exact ⟨more, by rw [upd_ne (oldH b _ e)]; exact z⟩
  · intro b u e
    by_cases hb : b = D
    · subst hb
      rw [upd_same] at e; cases e
      exact ⟨hz, its, n, r, mv b _ hDC eD⟩
    · rw [upd_ne hb] at e
      refine (J.hok b u e).stay (fun c v hc q => mv c v ?_ q) (fun c q => by rw [upd_ne (ne_of_none q nD)]; exact q) fun c xs q => by rw [upd_ne (ne_of_none q nD)]; exact q
      rcases hc with z | z
      · rw [z]; exact ne_of_none e nC
      · exact ne_of_none z nC
end
end L2
namespace L2
open PySem PySem.Spec PyProof.Rows
section
variable {X : Cx}
theorem pe_comp {elt tg iter : Expr} {ifs : List Expr} {pos : Pos} {sc : Scope} {wi : TI} {g : TG} {tc : Addr → Shared → Hp → List Addr → TT} {te : Addr → Shared → Hp → List Addr → TE} (T : List Str) (idx : List Nat)
    (hi : PI X tg iter wi) (hcalm : X.calm = true) (hB : compB X.env.scope X.N sc idx = true)
    (hg : ∀ C s₂ H1 fp, PG (cxComp X sc T idx C s₂ H1 fp) tg g)
    (hc : ∀ C s₂ H1 fp, PIfs (cxComp X sc T idx C s₂ H1 fp) ifs (tc C s₂ H1 fp))
    (he : ∀ C s₂ H1 fp, PE (cxComp X sc T idx C s₂ H1 fp) elt (te C s₂ H1 fp))
    (hs : ∀ x, foldedSetIterable iter X.env x = pure x := by intro _; rfl) :
    PE X (.ListComp elt [⟨tg, iter, ifs, 0⟩] sc pos) (tComp wi g tc te T.length idx) := by
  intro pins s σ H Q I h
  rw [eval_ListComp]
  have cf := compB_f hB
  refine wpAny_comprehension_free (use := none) (cl := closL X.env sc.names []) rfl hs (closureFor_of (clos_has I cf)) cf.kind cf.locs ?_
  refine thn (hi pins s σ H _ I h) fun v s1 h1 => thn h1 fun itv s2 h2 => ?_
  obtain ⟨it, fp, tn, J, H2, e, I2, Tn, st2, f2, W, ⟨m0, w0⟩, turn⟩ := h2
  subst e
  have hlt : ∀ b ∈ fp, b < s2.heap.objs.size := fun b hb => let ⟨o, e, _⟩ := Tn.obj _ _ st2 b hb; Heap.lt_size e
  refine wpAny_newObj_type (wpAny_newFunctionEnv cf.nocell (by intro y hy; simp at hy) (fun h₁ hns₁ hsb₁ => ?_) cf.kind)
  dsimp only at hns₁ hsb₁ ⊢
  generalize hH2 : s2.heap.push { cls := .type "list", dict := none, data := .seq ([] : List Value).toArray } = HH at hns₁ hsb₁ ⊢
  have hC : HH.objs.size = s2.heap.objs.size + 1 := by rw [← hH2, Heap.size_push]
  have hDC : s2.heap.objs.size ≠ HH.objs.size := by rw [hC]; exact Nat.ne_of_lt (Nat.lt_succ_self _)
  have hCle : s2.heap.objs.size ≤ HH.objs.size := by rw [hC]; exact Nat.le_succ _
  have old : ∀ b o, s2.heap.get? b = some o → h₁.get? b = some o := fun b o e => hsb₁.extBut b o (by rw [hC]; exact Nat.ne_of_lt (Nat.lt_succ_of_lt (Heap.lt_size e))) (Heap.get?_push_of_some _ (hH2 ▸ Heap.get?_push_of_some _ e))
  have eD0 : h₁.get? s2.heap.objs.size = some { cls := .type "list", data := .seq ([] : List Value).toArray 0 } := hsb₁.extBut _ _ hDC (Heap.get?_push_of_some _ (hH2 ▸ Heap.get?_push_size _ rfl))
  have nD0 : H2 s2.heap.objs.size = none := I2.hok.fresh (Nat.le_refl _)
  have cD : ∀ x c, (closL X.env sc.names []).lookup x = some c → c ≠ s2.heap.objs.size := fun x c e => by
    obtain ⟨v, q⟩ := I2.cell x c (clos_look I2 cf e)
    exact Nat.ne_of_lt q.lt
  have loop : ∀ s4 : Shared, s4 = { s2 with heap := h₁, toks := s2.toks + ([] : List (Str × Value)).length } →
      codeAny (model X.prog X.w) X.A (.compLoop (.ListComp elt [⟨tg, iter, ifs, 0⟩] sc pos) 0 (.ref it) (.ref s2.heap.objs.size) (compEnvC sc (closL X.env sc.names []) HH.objs.size X.env))
        (compPost (model X.prog X.w) X.A X.xe none (EP X pins σ Q) (.ref s2.heap.objs.size) HH.objs.size) s4 := by
    rintro s4 rfl
    have J0 : Inv (cxComp X sc T idx HH.objs.size s2 H2 fp) [] (T.map (fun _ => none) ++ caps σ idx) H2 { s2 with heap := h₁, toks := s2.toks + ([] : List (Str × Value)).length } :=
      cxComp_inv I2 cf hCle f2 hlt old rfl rfl hns₁
    refine compLoop_gen (fun k s' => ∃ (i : Nat) (ys : List V) (its : List Value) (n : Nat) (H' : Hp) (τ : St), Inv (cxComp X sc T idx HH.objs.size s2 H2 fp) [] (τ ++ caps σ idx) H' s' ∧ τ.length = T.length ∧ tn i s'.heap ∧ (∀ b ∈ fp, H' b = none) ∧
      s'.heap.get? s2.heap.objs.size = some { cls := .type "list", data := .seq its.toArray n } ∧ H' s2.heap.objs.size = none ∧ Vals ys its ∧ W i k ys H') ?_ m0
      ⟨0, [], [], 0, H2, T.map (fun _ => none), J0, by rw [List.length_map], Tn.keep _ _ _ st2 fun b _ o e => old b o e, fun b hb => (f2 b hb).1, eD0, nD0, .nil, w0⟩
    rintro k s3 ⟨i, ys, its, n, H3, τ, I3, hτ, st3, fr3, eD3, nD3, r3, w3⟩
    obtain ⟨hz, alt⟩ := turn i k ys H3 w3
    have hDfs : s2.heap.objs.size ∉ (cxComp X sc T idx HH.objs.size s2 H2 fp).fs := fun z => by
      obtain ⟨_, o, ho, _⟩ := I2.stack.mem (show s2.heap.objs.size ∈ frs X.stack from z)
      exact absurd (Heap.lt_size ho) (Nat.lt_irrefl _)
    have pinD : ∀ {H' : Hp} {s' : Shared}, s'.heap.get? s2.heap.objs.size = some { cls := .type "list", data := .seq its.toArray n } → H' s2.heap.objs.size = none →
        ∀ p ∈ [(s2.heap.objs.size, ({ cls := .type "list", data := .seq its.toArray n } : Obj))], s'.heap.get? p.1 = some p.2 ∧ H' p.1 = none ∧ p.1 ≠ (cxComp X sc T idx HH.objs.size s2 H2 fp).env.locals ∧ p.1 ∉ (cxComp X sc T idx HH.objs.size s2 H2 fp).fs ∧ ∀ v, p.2.data ≠ .cell v :=
      fun {H' s'} e1 e2 p hp => by
        have ep : p = (s2.heap.objs.size, { cls := .type "list", data := .seq its.toArray n }) := by simpa using hp
        subst ep
        exact ⟨e1, e2, hDC, hDfs, fun v z => by cases z⟩
    have P3 : Inv (cxComp X sc T idx HH.objs.size s2 H2 fp) [(s2.heap.objs.size, { cls := .type "list", data := .seq its.toArray n })] (τ ++ caps σ idx) H3 s3 := I3.pins_of (pinD eD3 nD3)
    have stat : ∀ {H' : Hp}, (∀ b ∈ fp, H' b = none) → ∀ b ∈ fp, FpOk (cxComp X sc T idx HH.objs.size s2 H2 fp) [(s2.heap.objs.size, { cls := .type "list", data := .seq its.toArray n })] H' b := fun {H'} hn b hb => by
      have hb2 := hlt b hb
      refine ⟨hn b hb, Nat.ne_of_lt (Nat.lt_of_lt_of_le hb2 hCle), I3.ok.exfs b hb, .inl hb, fun x c e => (f2 b hb).2.2.2.2.1 x c (clos_look I2 cf e), fun p hp => ?_⟩
      have ep : p = (s2.heap.objs.size, ({ cls := .type "list", data := .seq its.toArray n } : Obj)) := by simpa [cxComp] using hp
      subst ep
      exact Nat.ne_of_gt hb2
    rcases alt with ⟨stop, q⟩ | ⟨go, hl2, step⟩
    · refine thn (Tn.done (cxComp X sc T idx HH.objs.size s2 H2 fp) rfl rfl rfl hcalm i _ s3 _ H3 (fun _ _ => False) P3 (stat fr3) st3 stop) fun r s4 ⟨hr, I4⟩ => ?_
      subst hr
      obtain ⟨m, hn, _⟩ := id I4.loc
      refine ⟨m, hn, fun h' hs' => ?_⟩
      have eD4 := (I4.pin (s2.heap.objs.size, { cls := .type "list", data := .seq its.toArray n }) (by simp)).1
      exact ⟨.ref s2.heap.objs.size, _, cxComp_end I2 hCle f2 (I4.pins_of (fun p hp => nomatch hp)) hs' (Nat.le_refl _) hDC eD4 nD3 r3 hz, rfl, q _ nD3⟩
    · refine thn (Tn.item (cxComp X sc T idx HH.objs.size s2 H2 fp) rfl rfl rfl hcalm i _ s3 _ H3 (fun _ _ => False) P3 (stat fr3) st3 go) fun r s4 ⟨u, hr, h4⟩ => ?_
      subst hr
      refine thn h4 fun _ s5 ⟨x, H5, I5, r5, y5, st5, fr5⟩ => ?_
      have I5' := I5.pinned (stat fr5) (Tn.obj _ _ st5)
      refine thn (hg HH.objs.size s2 H2 fp _ s5 _ H5 x u _ I5' r5 (step x H5 y5 τ hτ)) fun _ s6 ⟨σ6, H6, I6, ⟨τ', e6, l6⟩, q6⟩ => ?_
      subst e6
      refine thn (hc HH.objs.size s2 H2 fp _ s6 _ H6 _ I6 (q6 HH.objs.size s2 fp)) fun ok s7 ⟨H7, I7, q7⟩ => ?_
      have mD : (s2.heap.objs.size, ({ cls := .type "list", data := .seq its.toArray n } : Obj)) ∈ (cxComp X sc T idx HH.objs.size s2 H2 fp).pn ++ ([(s2.heap.objs.size, { cls := .type "list", data := .seq its.toArray n })] ++ pinsAt fp s5.heap) :=
        List.mem_append_right _ (List.mem_append_left _ (by simp))
      have mF : ∀ b ∈ fp, ∀ o, s5.heap.get? b = some o → (b, o) ∈ (cxComp X sc T idx HH.objs.size s2 H2 fp).pn ++ ([(s2.heap.objs.size, { cls := .type "list", data := .seq its.toArray n })] ++ pinsAt fp s5.heap) := fun b hb o e =>
        List.mem_append_right _ (List.mem_append_right _ (mem_pinsAt hb e))
      cases ok with
      | false =>
        rw [if_neg Bool.false_ne_true] at q7 ⊢
        obtain ⟨m', hm', w7⟩ := q7
        refine ⟨m', hm', i + 1, ys, its, n, H7, τ', I7.pins_of (fun p hp => nomatch hp), l6, Tn.keep _ _ _ st5 fun b hb o e => (I7.pin _ (mF b hb o e)).1, fun b hb => ?_, (I7.pin _ mD).1, (I7.pin _ mD).2.1, r3, w7⟩
        obtain ⟨o, e, d⟩ := Tn.obj _ _ st5 b hb
        exact (I7.pin _ (mF b hb o e)).2.1
      | true =>
        rw [if_pos rfl] at q7 ⊢
        refine thn (he HH.objs.size s2 H2 fp _ s7 _ H7 _ I7 q7) fun y s8 ⟨yv, H8, I8, r8, m', hm', w8⟩ => ?_
        have eD8 := (I8.pin _ mD).1
        have nD8 := (I8.pin _ mD).2.1
        have hl := r3.length
        have q := PySem.IsL.update eD8 (fun z => z.push y)
        rw [show its.toArray.push y = (its ++ [y]).toArray by simp] at q
        refine call_meets PySem.F.slot_list_append ⟨_, eD8, rfl⟩ PySem.F.entry_list_append (PySem.F.args_list_append_2 _ _) (PySem.list_append s2.heap.objs.size its.toArray n y (by rw [List.size_toArray]; omega)) ⟨eD8, ?_⟩
        have I9 : Inv (cxComp X sc T idx HH.objs.size s2 H2 fp) [] (τ' ++ caps σ idx) H8 s8 := I8.pins_of (fun p hp => nomatch hp)
        have up : ∀ b o, b ≠ s2.heap.objs.size → s8.heap.get? b = some o → (s8.heap.update s2.heap.objs.size (Obj.mapSeq fun z => z.push y)).get? b = some o := fun b o hb e => (Heap.get?_update_other s8.heap _ (Ne.symm hb)).trans e
        refine ⟨m', hm', i + 1, ys ++ [yv], its ++ [y], _, H8, τ', I9.turned (t' := s8.toks) up nD8 hDC (.inr (Nat.le_refl _)) cD (fun p hp => nomatch hp), l6, ?_, fun b hb => ?_, q, nD8, r3.append (.cons r8 .nil), w8⟩
        · exact Tn.keep _ _ _ st5 fun b hb o e => up b o (Nat.ne_of_lt (hlt b hb)) (I8.pin _ (mF b hb o e)).1
        · obtain ⟨o, e, d⟩ := Tn.obj _ _ st5 b hb
          exact (I8.pin _ (mF b hb o e)).2.1
  exact codeAny_compStart_list (loop _ rfl) (Tn.self X.A 0 _ _ _ (Tn.keep _ _ _ st2 fun b _ o e => old b o e) (loop _ rfl))
end
end L2
namespace L2
open PySem PySem.Spec PyProof.Rows
def mkS (x : List Nat) : Str := ⟨x.toArray⟩
theorem mkS_len (x : List Nat) : (mkS x).length = x.length := by simp [mkS, Str.length]
theorem mkS_cps (x : List Nat) : (mkS x).cps.toList = x := by simp [mkS]
theorem mkS_inj {x y : List Nat} (h : mkS x = mkS y) : x = y := by
  have := congrArg (fun s => s.cps.toList) h
  simpa [mkS] using this
theorem mkS_app (x y : List Nat) : mkS x ++ mkS y = mkS (x ++ y) := by
  show Str.append (mkS x) (mkS y) = _
  simp [Str.append, mkS]
theorem mkS_one (c : Nat) : (⟨#[c]⟩ : Str) = mkS [c] := rfl
def cutL {α : Type} (xs : List α) (lo hi : Option Int) : List α := (xs.drop (HT.sIx xs.length 0 lo)).take (HT.sIx xs.length xs.length hi - HT.sIx xs.length 0 lo)
theorem strIdx (lo hi : Option Int) (n : Nat) : Builtin.Str.strSliceIndices lo hi 1 n = (List.range (HT.sIx n n hi - HT.sIx n 0 lo)).map (HT.sIx n 0 lo + ·) := by
  have e1 : (match lo with | none => (if (1 : Int) > 0 then (0 : Int) else (n : Int) - 1) | some i => if (1 : Int) > 0 then max 0 (min (if i < 0 then i + (n : Int) else i) (n : Int)) else max (-1) (min (if i < 0 then i + (n : Int) else i) ((n : Int) - 1))) = ((HT.sIx n 0 lo : Nat) : Int) := by
    cases lo with
    | none => simp [HT.sIx]
    | some i =>
      simp only [HT.sIx, show (1 : Int) > 0 by decide, if_true]
      by_cases h : i < 0
      · simp only [h, if_true]; omega
      · simp only [h, if_false]; omega
  have e2 : (match hi with | none => (if (1 : Int) > 0 then (n : Int) else -1) | some i => if (1 : Int) > 0 then max 0 (min (if i < 0 then i + (n : Int) else i) (n : Int)) else max (-1) (min (if i < 0 then i + (n : Int) else i) ((n : Int) - 1))) = ((HT.sIx n n hi : Nat) : Int) := by
    cases hi with
    | none => simp [HT.sIx]
    | some i =>
      simp only [HT.sIx, show (1 : Int) > 0 by decide, if_true]
      by_cases h : i < 0
      · simp only [h, if_true]; omega
      · simp only [h, if_false]; omega
  rw [← sliceRange_one]
  unfold Builtin.Str.strSliceIndices
  dsimp only
  rw [← e1, ← e2]
  cases lo <;> cases hi <;> rfl
theorem slice_cut (x : List Nat) (lo hi : Option Int) : Txt.slice (mkS x) lo hi = mkS (cutL x lo hi) := by
  unfold Txt.slice
  rw [strIdx, mkS_len]
  have hp : ((List.range (HT.sIx x.length x.length hi - HT.sIx x.length 0 lo)).map (HT.sIx x.length 0 lo + ·)).filterMap ((mkS x).cps[·]?) = cutL x lo hi := by
    have := pick_run (mkS x).cps (HT.sIx x.length 0 lo) (HT.sIx x.length x.length hi - HT.sIx x.length 0 lo)
    rw [mkS_cps] at this
    exact this
  rw [hp]
  split
  · rename_i hc
    rw [Bool.and_eq_true] at hc
    have hl : HT.sIx x.length x.length hi - HT.sIx x.length 0 lo = x.length := by simpa using hc.2
    have h2 : HT.sIx x.length x.length hi ≤ x.length := HT.sIx_le _ _ (Nat.le_refl _) _
    have h3 : HT.sIx x.length 0 lo ≤ x.length := HT.sIx_le _ _ (Nat.zero_le _) _
    have e : HT.sIx x.length 0 lo = 0 := by omega
    unfold cutL
    rw [hl, e]
    simp
  · rfl
section
variable {X : Cx}
def rSlS : V → Option Int → Option Int → Hp → VK → Prop := fun x lo hi H Q => ∃ cs, x = .str (mkS cs) ∧ cs.length ≤ sizeLine ∧ Q (.str (mkS (cutL cs lo hi))) H
theorem sl_str : SlR X rSlS := by
  intro pins s σ H x v vl vu lo hi sl Q I rx hs pl pu h
  obtain ⟨cs, rfl, hz, q⟩ := h
  obtain ⟨t, rfl⟩ := rx
  have hl : (Txt.slice (mkS cs) lo hi).length ≤ sizeLine := Nat.le_trans (Txt.slice_le _ _ _) (by rw [mkS_len]; exact hz)
  rw [← slice_cut] at q
  refine ⟨"str", _, slot_str_getitem.lookup, typeIs_str _ _ _, ?_⟩
  obtain ⟨o, ho, hc, hd⟩ := hs
  cases pl with
  | none =>
    cases pu with
    | none => exact wpAny_getItem_str_slice (l := none) (u := none) (st := none) ⟨o, ho, hc, hd⟩ rfl (post_val_or_str ⟨hl, fun t' k => ⟨.str _, H, I.tok _, ⟨_, rfl⟩, q⟩⟩)
    | int j uj => exact wpAny_getItem_str_slice (l := none) (u := some (j, uj)) (st := none) ⟨o, ho, hc, hd⟩ rfl (post_val_or_str ⟨hl, fun t' k => ⟨.str _, H, I.tok _, ⟨_, rfl⟩, q⟩⟩)
  | int i ui =>
    cases pu with
    | none => exact wpAny_getItem_str_slice (l := some (i, ui)) (u := none) (st := none) ⟨o, ho, hc, hd⟩ rfl (post_val_or_str ⟨hl, fun t' k => ⟨.str _, H, I.tok _, ⟨_, rfl⟩, q⟩⟩)
    | int j uj => exact wpAny_getItem_str_slice (l := some (i, ui)) (u := some (j, uj)) (st := none) ⟨o, ho, hc, hd⟩ rfl (post_val_or_str ⟨hl, fun t' k => ⟨.str _, H, I.tok _, ⟨_, rfl⟩, q⟩⟩)
theorem op_le_str : OpR X (compareOp .LtE) (fun x y H Q => ∃ i j, x = .str i ∧ y = .str j ∧ Q (.bl (!(j.cps.toList < i.cps.toList))) H) := by
  intro pins s σ H x y v u Q I rx ry h
  obtain ⟨i, j, rfl, rfl, q⟩ := h
  obtain ⟨t, rfl⟩ := rx
  obtain ⟨t', rfl⟩ := ry
  exact PySem.P.le_str ⟨.bl _, H, I, rfl, q⟩
def repL (cs : List Nat) (k : Int) : List Nat := (List.replicate k.toNat cs).flatten
theorem foldl_app (cs : List Nat) : ∀ (k : Nat) (acc : List Nat), List.foldl (fun x1 x2 => x1 ++ x2) acc.toArray (List.replicate k cs.toArray) = (acc ++ (List.replicate k cs).flatten).toArray
  | 0, acc => by simp
  | k + 1, acc => by
    rw [List.replicate_succ, List.foldl_cons, List.replicate_succ, List.flatten_cons, ← List.append_assoc, ← foldl_app cs k (acc ++ cs)]
    simp
theorem op_mul_str : OpR X (binaryOp .Mult) (fun x y H Q => ∃ cs k, x = .str (mkS cs) ∧ y = .int k ∧ 0 ≤ k ∧ k < 1000 ∧ cs.length ≤ 1000 ∧ Q (.str (mkS (repL cs k))) H) := by
  intro pins s σ H x y v u Q I rx ry h
  obtain ⟨cs, k, rfl, rfl, h0, h1, hc, q⟩ := h
  obtain ⟨t, rfl⟩ := rx
  obtain ⟨t', rfl⟩ := ry
  have hs : sizeLine = 16777216 := sizeLine_eq
  have hprod : cs.length * k.toNat ≤ 1000 * 1000 := Nat.mul_le_mul hc (by omega)
  have e : ∀ b, Q (.str b) H → b = mkS (repL cs k) → True := fun _ _ _ => trivial
  refine PySem.P.mul_str (by rw [decide_eq_false (by omega), decide_eq_false (by omega)]; rfl) (fun h2 _ => ?_) (fun _ _ => ?_) ?_
  · rw [mkS_len]
    have hk : 1 ≤ k := by omega
    have : (1000 : Int) ≤ (2 ^ 63 - 1) / k := by
      rw [Int.le_ediv_iff_mul_le (by omega)]
      omega
    omega
  · rw [mkS_len]
    unfold PySem.Builtin.Str.tooLong
    exact decide_eq_false (by omega)
  · have made : ∀ (z : Str), z = mkS (repL cs k) → z.length ≤ sizeLine → (Made.str z).post (EP X pins σ Q) s := fun z ez hz => ⟨hz, by rw [ez]; exact ⟨.str _, H, I.tok _, ⟨_, rfl⟩, q⟩⟩
    have hlen : (repL cs k).length = k.toNat * cs.length := by
      unfold repL; rw [len_rep]
    by_cases hn : k < 1
    · rw [if_pos hn]
      have hk : k.toNat = 0 := by omega
      refine made _ ?_ (by decide)
      unfold repL; rw [hk]; rfl
    · rw [if_neg hn]
      by_cases h3 : (k == 1 || (mkS cs).length == 0) = true
      · rw [if_pos h3]
        refine ⟨.str (mkS cs), H, I, ⟨_, rfl⟩, ?_⟩
        have : repL cs k = cs := by
          unfold repL
          rw [Bool.or_eq_true] at h3
          rcases h3 with h3 | h3
          · have : k = 1 := by simpa using h3
            subst this
            simp
          · rw [mkS_len] at h3
            have : cs = [] := by cases cs with | nil => rfl | cons _ _ => simp at h3
            subst this
            simp
        rw [this] at q
        exact q
      · rw [if_neg h3]
        refine made _ ?_ ?_
        · unfold repL mkS
          have := foldl_app cs k.toNat []
          rw [List.nil_append] at this
          exact congrArg Str.mk this
        · have e3 : (List.foldl (fun x1 x2 => x1 ++ x2) #[] (List.replicate k.toNat (mkS cs).cps)) = (repL cs k).toArray := by
            have := foldl_app cs k.toNat []
            rw [List.nil_append] at this
            exact this
          show (List.foldl (fun x1 x2 => x1 ++ x2) #[] (List.replicate k.toNat (mkS cs).cps)).size ≤ sizeLine
          rw [e3, List.size_toArray, hlen, Nat.mul_comm]
          omega
theorem call_all_bls : CallR X (.builtin "all") (fun xs H Q => ∃ (a : Addr) (bs : List Bool), xs = [.ref a] ∧ SqL X.K H a (bs.map V.bl) ∧ X.calm = true ∧ Q (.bl (bs.all id)) H) := by
  intro pins s σ H xs us Q I r h
  obtain ⟨a, bs, rfl, hq, hc, q⟩ := h
  obtain ⟨u, rfl, ru⟩ := vals1 r
  cases ru
  obtain ⟨its, rv, pl, hz⟩ := I.list hq
  have hlen : its.length = bs.length := by rw [← rv.length, List.length_map]
  refine PySem.call_all_walk (wpAny_pyIter_list pl.isList ?_)
  have hI : a ≠ s.heap.objs.size := by
    obtain ⟨o, ho, _⟩ := pl.isList
    exact Nat.ne_of_lt (Heap.lt_size ho)
  have I1 : ∀ (h' : Heap) (tk : Nat), (∀ b o, b ∉ [s.heap.objs.size] → (s.heap.push { cls := .type "list_iterator", data := .fields #[.ref a, .int 0 0] }).get? b = some o → h'.get? b = some o) → Inv X pins σ H { s with heap := h', toks := tk } := fun h' tk k =>
    I.kept fun b o e => k b o (by simpa using Nat.ne_of_lt (Heap.lt_size e)) (Heap.get?_push_of_some _ e)
  refine ⟨s.heap.objs.size, [s.heap.objs.size, a], [s.heap.objs.size], its.toArray.size, _, _, fun i => bs.getD i false, rfl, PySem.Walks.list (by first | exact I.ok.hd hc | exact (show X.A.in1.handled = none from I.ok.hd hc)) _ a hI its.toArray, ⟨⟨_, Heap.get?_push_size _ rfl, rfl, rfl⟩, pl.isList.at fun o e => Heap.get?_push_of_some _ e⟩, ?_, fun h' tk k => ?_⟩
  · intro i v s' Q' E' hv hQ'
    have hv' : its[i]? = some v := by simpa using hv
    have hi : i < bs.length := by rw [← hlen]; exact (List.getElem?_eq_some_iff.mp hv').1
    have hb : (bs.map V.bl)[i]? = some (V.bl (bs.getD i false)) := by
      rw [List.getElem?_map, List.getElem?_eq_getElem hi]
      simp [List.getD_eq_getElem?_getD, hi]
    obtain ⟨u', hu', rv'⟩ := rv.get hb
    rw [hv'] at hu'
    cases hu'
    cases rv'
    exact wpAny_truthy_bool hQ'
  · refine ⟨.bl (bs.all id), H, I1 h' tk k, ?_, q⟩
    show Value.bool _ = Value.bool _
    congr 1
    rw [List.size_toArray, hlen]
    have : ∀ (l : List Bool), (List.range l.length).all (fun i => l.getD i false) = l.all id := by
      intro l
      rw [Bool.eq_iff_iff, List.all_eq_true, List.all_eq_true]
      constructor
      · intro h x hx
        obtain ⟨i, hi, rfl⟩ := List.getElem_of_mem hx
        have := h i (List.mem_range.mpr hi)
        simpa [List.getD_eq_getElem?_getD, hi] using this
      · intro h i hi
        have hi' := List.mem_range.mp hi
        have := h l[i] (List.getElem_mem hi')
        simpa [List.getD_eq_getElem?_getD, hi'] using this
    exact this bs
def Its (x : List Nat) : It := ⟨fun i _ => i < x.length, fun i H v H' => H' = H ∧ ∃ c, x[i]? = some c ∧ v = .str (mkS [c]), fun i _ => x.length ≤ i⟩
def iStr (tl : TE) : TI := fun σ H R => tl σ H fun v H1 => ∃ x, v = .str (mkS x) ∧ R (Its x) H1
theorem turn_str {P : Program} {w : World} {K : PySem.W.Frag} {tg : Expr} (it : Addr) (ty : String) (x : List Nat) (t : Tok) (hty : ty = "str_ascii_iterator" ∨ ty = "str_iterator") :
    Turn P w K tg (Its x) [it] it (fun i h => h.IsStrIter it ty (mkS x) t i) where
  mem := by simp
  obj := fun i h st b hb => by
    have e : b = it := by simpa using hb
    subst e
    obtain ⟨o, e, c, d⟩ := st
    exact ⟨o, e, fun v z => by rw [d] at z; cases z⟩
  keep := fun i h h' st k => let ⟨o, ho, r⟩ := st; ⟨o, k it (by simp) o ho, r⟩
  item := by
    intro X hP hw hK hc i pins s σ H E I hf st hg
    subst hP hw hK
    obtain ⟨f0, f1, f2, f3, f4, f5⟩ := hf it (by simp)
    have hi : i < x.length := hg
    have hxi : (mkS x).cps[i]? = some x[i] := by simp [mkS, hi]
    have fin : ∀ (h' : Heap), h'.IsStrIter it ty (mkS x) t (i + 1) → Heap.SameBut it s.heap h' → ∃ u, some (Value.str ⟨#[x[i]]⟩ s.toks) = some u ∧
        wpAny (model X.prog X.w) X.A (letOwnedTupleGo tg (.ref it) u) (fun _ s2 => ∃ y H', Inv X pins σ H' s2 ∧ RelV y u ∧ (Its x).yld i H y H' ∧ s2.heap.IsStrIter it ty (mkS x) t (i + 1) ∧ ∀ b ∈ [it], H' b = none) E { s with heap := h', toks := s.toks + 1 } := fun h' st' sb => by
      have I1 : Inv X pins σ H { s with heap := h', toks := s.toks + 1 } := I.turned (fun b o hb e => (sb.2 b hb).trans e) f0 f1 f3 f4 f5
      obtain ⟨o, e, c, d⟩ := id st'
      refine ⟨_, rfl, go_of (s := { s with heap := h', toks := s.toks + 1 }) e c d (by rcases hty with rfl | rfl <;> decide) ⟨.str (mkS [x[i]]), H, I1, ⟨_, rfl⟩, ⟨rfl, x[i], by simp [hi], rfl⟩, st', fun b hb => (hf b hb).1⟩⟩
    rcases hty with rfl | rfl
    · exact wpAny_pyNext_ascii_item st hxi fun h' st' sb => fin h' st' sb
    · exact wpAny_pyNext_wide_item st hxi fun h' st' sb => fin h' st' sb
  done := by
    intro X hP hw hK hc i pins s σ H E I hf st hg
    subst hP hw hK
    obtain ⟨f0, f1, f2, f3, f4, f5⟩ := hf it (by simp)
    have hi : x.length ≤ i := hg
    have hxi : (mkS x).cps[i]? = none := by simp [mkS, hi]
    rcases hty with rfl | rfl
    · exact wpAny_pyNext_ascii_end (I.ok.hd hc) st hxi fun h' eb => ⟨rfl, I.turned (t' := s.toks) (fun b o hb e => eb b o hb e) f0 f1 f3 f4 f5⟩
    · exact wpAny_pyNext_wide_end (I.ok.hd hc) st hxi fun h' eb => ⟨rfl, I.turned (t' := s.toks) (fun b o hb e => eb b o hb e) f0 f1 f3 f4 f5⟩
  self := fun _ _ _ _ _ st h => by
    rcases hty with rfl | rfl
    · exact wpAny_pyIter_striter_ascii st h
    · exact wpAny_pyIter_striter_wide st h
theorem pi_str {tg l : Expr} {tl : TE} (hl : PE X l tl) : PI X tg l (iStr tl) := by
  intro pins s σ H R I h
  refine thn (hl pins s σ H _ I h) fun v s1 ⟨x, H1, I1, r1, q1⟩ => ?_
  obtain ⟨cs, e, q⟩ := q1
  subst e
  obtain ⟨t, rfl⟩ := r1
  have fp : ∀ (o : Obj), ∀ b ∈ [s1.heap.objs.size], FpOk X pins H1 b := fun o b hb => by
    have e : b = s1.heap.objs.size := by simpa using hb
    subst e
    exact I1.fpOk (Nat.le_refl _) (I1.hok.fresh (Nat.le_refl _))
  cases ha : (mkS cs).cps.all (· < 128)
  · refine wpAny_pyIter_wide ha ?_
    exact ⟨s1.heap.objs.size, [s1.heap.objs.size], _, _, H1, rfl, I1.kept (t' := s1.toks) fun b o e => Heap.get?_push_of_some _ e, turn_str _ "str_iterator" cs t (.inr rfl), ⟨_, Heap.get?_push_size _ rfl, rfl, rfl⟩, fp default, q⟩
  · refine wpAny_pyIter_ascii ha ?_
    exact ⟨s1.heap.objs.size, [s1.heap.objs.size], _, _, H1, rfl, I1.kept (t' := s1.toks) fun b o e => Heap.get?_push_of_some _ e, turn_str _ "str_ascii_iterator" cs t (.inl rfl), ⟨_, Heap.get?_push_size _ rfl, rfl, rfl⟩, fp default, q⟩
end
end L2
namespace L2
open PySem PySem.Spec PyProof.Rows
section
variable {X : Cx}
theorem comp_use {elt tg iter : Expr} {ifs : List Expr} {pos : Pos} {sc : Scope} {wi : TI} {g : TG} {tc : Addr → Shared → Hp → List Addr → TT} {te : Addr → Shared → Hp → List Addr → TE} (T : List Str) (idx : List Nat)
    (hi : PI X tg iter wi) (hcalm : X.calm = true) (hB : compB X.env.scope X.N sc idx = true)
    (hg : ∀ C s₂ H1 fp, PG (cxComp X sc T idx C s₂ H1 fp) tg g)
    (hc : ∀ C s₂ H1 fp, PIfs (cxComp X sc T idx C s₂ H1 fp) ifs (tc C s₂ H1 fp))
    (he : ∀ C s₂ H1 fp, PE (cxComp X sc T idx C s₂ H1 fp) elt (te C s₂ H1 fp))
    (hs : ∀ x, foldedSetIterable iter X.env x = pure x := by intro _; rfl)
    {pins : List (Addr × Obj)} {s : Shared} {σ : St} {H : Hp} {Q : VK} {use : Value → Sem Unit} {Q' : Value → Shared → Prop} (I : Inv X pins σ H s) (h : tComp wi g tc te T.length idx σ H Q)
    (fin : ∀ (D C : Addr) (s4 : Shared) (H' : Hp), Inv X pins σ H' s4 → FpOk X pins H' C → (∃ m, s4.heap.Ns C m) → Q (.ref D) H' →
      wpAny (model X.prog X.w) X.A (use (.ref D)) (fun _ s'' => ∃ m, s''.heap.Ns C m ∧ ∀ h', Heap.SameBut C s''.heap h' → Q' .none { s'' with heap := h' }) X.xe s4) :
    wpAny (model X.prog X.w) X.A (comprehension (.ListComp elt [⟨tg, iter, ifs, 0⟩] sc pos) sc X.env (firstIterPos [⟨tg, iter, ifs, 0⟩] pos) (newList []) false (eval iter X.env) (some use)) Q' X.xe s := by
  have cf := compB_f hB
  refine wpAny_comprehension_free (use := some use) (cl := closL X.env sc.names []) rfl hs (closureFor_of (clos_has I cf)) cf.kind cf.locs ?_
  refine thn (hi pins s σ H _ I h) fun v s1 h1 => thn h1 fun itv s2 h2 => ?_
  obtain ⟨it, fp, tn, J, H2, e, I2, Tn, st2, f2, W, ⟨m0, w0⟩, turn⟩ := h2
  subst e
  have hlt : ∀ b ∈ fp, b < s2.heap.objs.size := fun b hb => let ⟨o, e, _⟩ := Tn.obj _ _ st2 b hb; Heap.lt_size e
  refine wpAny_newObj_type (wpAny_newFunctionEnv cf.nocell (by intro y hy; simp at hy) (fun h₁ hns₁ hsb₁ => ?_) cf.kind)
  dsimp only at hns₁ hsb₁ ⊢
  generalize hH2 : s2.heap.push { cls := .type "list", dict := none, data := .seq ([] : List Value).toArray } = HH at hns₁ hsb₁ ⊢
  have hC : HH.objs.size = s2.heap.objs.size + 1 := by rw [← hH2, Heap.size_push]
  have hDC : s2.heap.objs.size ≠ HH.objs.size := by rw [hC]; exact Nat.ne_of_lt (Nat.lt_succ_self _)
  have hCle : s2.heap.objs.size ≤ HH.objs.size := by rw [hC]; exact Nat.le_succ _
  have old : ∀ b o, s2.heap.get? b = some o → h₁.get? b = some o := fun b o e => hsb₁.extBut b o (by rw [hC]; exact Nat.ne_of_lt (Nat.lt_succ_of_lt (Heap.lt_size e))) (Heap.get?_push_of_some _ (hH2 ▸ Heap.get?_push_of_some _ e))
  have eD0 : h₁.get? s2.heap.objs.size = some { cls := .type "list", data := .seq ([] : List Value).toArray 0 } := hsb₁.extBut _ _ hDC (Heap.get?_push_of_some _ (hH2 ▸ Heap.get?_push_size _ rfl))
  have nD0 : H2 s2.heap.objs.size = none := I2.hok.fresh (Nat.le_refl _)
  have cD : ∀ x c, (closL X.env sc.names []).lookup x = some c → c ≠ s2.heap.objs.size := fun x c e => by
    obtain ⟨v, q⟩ := I2.cell x c (clos_look I2 cf e)
    exact Nat.ne_of_lt q.lt
  have loop : ∀ s4 : Shared, s4 = { s2 with heap := h₁, toks := s2.toks + ([] : List (Str × Value)).length } →
      codeAny (model X.prog X.w) X.A (.compLoop (.ListComp elt [⟨tg, iter, ifs, 0⟩] sc pos) 0 (.ref it) (.ref s2.heap.objs.size) (compEnvC sc (closL X.env sc.names []) HH.objs.size X.env))
        (compPost (model X.prog X.w) X.A X.xe (some use) Q' (.ref s2.heap.objs.size) HH.objs.size) s4 := by
    rintro s4 rfl
    have J0 : Inv (cxComp X sc T idx HH.objs.size s2 H2 fp) [] (T.map (fun _ => none) ++ caps σ idx) H2 { s2 with heap := h₁, toks := s2.toks + ([] : List (Str × Value)).length } :=
      cxComp_inv I2 cf hCle f2 hlt old rfl rfl hns₁
    refine compLoop_gen (fun k s' => ∃ (i : Nat) (ys : List V) (its : List Value) (n : Nat) (H' : Hp) (τ : St), Inv (cxComp X sc T idx HH.objs.size s2 H2 fp) [] (τ ++ caps σ idx) H' s' ∧ τ.length = T.length ∧ tn i s'.heap ∧ (∀ b ∈ fp, H' b = none) ∧
      s'.heap.get? s2.heap.objs.size = some { cls := .type "list", data := .seq its.toArray n } ∧ H' s2.heap.objs.size = none ∧ Vals ys its ∧ W i k ys H') ?_ m0
      ⟨0, [], [], 0, H2, T.map (fun _ => none), J0, by rw [List.length_map], Tn.keep _ _ _ st2 fun b _ o e => old b o e, fun b hb => (f2 b hb).1, eD0, nD0, .nil, w0⟩
    rintro k s3 ⟨i, ys, its, n, H3, τ, I3, hτ, st3, fr3, eD3, nD3, r3, w3⟩
    obtain ⟨hz, alt⟩ := turn i k ys H3 w3
    have hDfs : s2.heap.objs.size ∉ (cxComp X sc T idx HH.objs.size s2 H2 fp).fs := fun z => by
      obtain ⟨_, o, ho, _⟩ := I2.stack.mem (show s2.heap.objs.size ∈ frs X.stack from z)
      exact absurd (Heap.lt_size ho) (Nat.lt_irrefl _)
    have pinD : ∀ {H' : Hp} {s' : Shared}, s'.heap.get? s2.heap.objs.size = some { cls := .type "list", data := .seq its.toArray n } → H' s2.heap.objs.size = none →
        ∀ p ∈ [(s2.heap.objs.size, ({ cls := .type "list", data := .seq its.toArray n } : Obj))], s'.heap.get? p.1 = some p.2 ∧ H' p.1 = none ∧ p.1 ≠ (cxComp X sc T idx HH.objs.size s2 H2 fp).env.locals ∧ p.1 ∉ (cxComp X sc T idx HH.objs.size s2 H2 fp).fs ∧ ∀ v, p.2.data ≠ .cell v :=
      fun {H' s'} e1 e2 p hp => by
        have ep : p = (s2.heap.objs.size, { cls := .type "list", data := .seq its.toArray n }) := by simpa using hp
        subst ep
        exact ⟨e1, e2, hDC, hDfs, fun v z => by cases z⟩
    have P3 : Inv (cxComp X sc T idx HH.objs.size s2 H2 fp) [(s2.heap.objs.size, { cls := .type "list", data := .seq its.toArray n })] (τ ++ caps σ idx) H3 s3 := I3.pins_of (pinD eD3 nD3)
    have stat : ∀ {H' : Hp}, (∀ b ∈ fp, H' b = none) → ∀ b ∈ fp, FpOk (cxComp X sc T idx HH.objs.size s2 H2 fp) [(s2.heap.objs.size, { cls := .type "list", data := .seq its.toArray n })] H' b := fun {H'} hn b hb => by
      have hb2 := hlt b hb
      refine ⟨hn b hb, Nat.ne_of_lt (Nat.lt_of_lt_of_le hb2 hCle), I3.ok.exfs b hb, .inl hb, fun x c e => (f2 b hb).2.2.2.2.1 x c (clos_look I2 cf e), fun p hp => ?_⟩
      have ep : p = (s2.heap.objs.size, ({ cls := .type "list", data := .seq its.toArray n } : Obj)) := by simpa [cxComp] using hp
      subst ep
      exact Nat.ne_of_gt hb2
    rcases alt with ⟨stop, q⟩ | ⟨go, hl2, step⟩
    · refine thn (Tn.done (cxComp X sc T idx HH.objs.size s2 H2 fp) rfl rfl rfl hcalm i _ s3 _ H3 (fun _ _ => False) P3 (stat fr3) st3 stop) fun r s4 ⟨hr, I4⟩ => ?_
      subst hr
      obtain ⟨m, hn, _⟩ := id I4.loc
      have eD4 := (I4.pin (s2.heap.objs.size, { cls := .type "list", data := .seq its.toArray n }) (by simp)).1
      have J4 := cxComp_end I2 hCle f2 (I4.pins_of (fun p hp => nomatch hp)) (Heap.SameBut.refl _ _) (Nat.le_refl _) hDC eD4 nD3 r3 hz
      exact fin _ _ s4 _ J4 (I2.fpOk hCle (by rw [upd_ne (Ne.symm hDC)]; exact I4.free)) ⟨m, hn⟩ (q _ nD3)
    · refine thn (Tn.item (cxComp X sc T idx HH.objs.size s2 H2 fp) rfl rfl rfl hcalm i _ s3 _ H3 (fun _ _ => False) P3 (stat fr3) st3 go) fun r s4 ⟨u, hr, h4⟩ => ?_
      subst hr
      refine thn h4 fun _ s5 ⟨x, H5, I5, r5, y5, st5, fr5⟩ => ?_
      have I5' := I5.pinned (stat fr5) (Tn.obj _ _ st5)
      refine thn (hg HH.objs.size s2 H2 fp _ s5 _ H5 x u _ I5' r5 (step x H5 y5 τ hτ)) fun _ s6 ⟨σ6, H6, I6, ⟨τ', e6, l6⟩, q6⟩ => ?_
      subst e6
      refine thn (hc HH.objs.size s2 H2 fp _ s6 _ H6 _ I6 (q6 HH.objs.size s2 fp)) fun ok s7 ⟨H7, I7, q7⟩ => ?_
      have mD : (s2.heap.objs.size, ({ cls := .type "list", data := .seq its.toArray n } : Obj)) ∈ (cxComp X sc T idx HH.objs.size s2 H2 fp).pn ++ ([(s2.heap.objs.size, { cls := .type "list", data := .seq its.toArray n })] ++ pinsAt fp s5.heap) :=
        List.mem_append_right _ (List.mem_append_left _ (by simp))
      have mF : ∀ b ∈ fp, ∀ o, s5.heap.get? b = some o → (b, o) ∈ (cxComp X sc T idx HH.objs.size s2 H2 fp).pn ++ ([(s2.heap.objs.size, { cls := .type "list", data := .seq its.toArray n })] ++ pinsAt fp s5.heap) := fun b hb o e =>
        List.mem_append_right _ (List.mem_append_right _ (mem_pinsAt hb e))
      cases ok with
      | false =>
        rw [if_neg Bool.false_ne_true] at q7 ⊢
        obtain ⟨m', hm', w7⟩ := q7
        refine ⟨m', hm', i + 1, ys, its, n, H7, τ', I7.pins_of (fun p hp => nomatch hp), l6, Tn.keep _ _ _ st5 fun b hb o e => (I7.pin _ (mF b hb o e)).1, fun b hb => ?_, (I7.pin _ mD).1, (I7.pin _ mD).2.1, r3, w7⟩
        obtain ⟨o, e, d⟩ := Tn.obj _ _ st5 b hb
        exact (I7.pin _ (mF b hb o e)).2.1
      | true =>
        rw [if_pos rfl] at q7 ⊢
        refine thn (he HH.objs.size s2 H2 fp _ s7 _ H7 _ I7 q7) fun y s8 ⟨yv, H8, I8, r8, m', hm', w8⟩ => ?_
        have eD8 := (I8.pin _ mD).1
        have nD8 := (I8.pin _ mD).2.1
        have hl := r3.length
        have q := PySem.IsL.update eD8 (fun z => z.push y)
        rw [show its.toArray.push y = (its ++ [y]).toArray by simp] at q
        refine call_meets PySem.F.slot_list_append ⟨_, eD8, rfl⟩ PySem.F.entry_list_append (PySem.F.args_list_append_2 _ _) (PySem.list_append s2.heap.objs.size its.toArray n y (by rw [List.size_toArray]; omega)) ⟨eD8, ?_⟩
        have I9 : Inv (cxComp X sc T idx HH.objs.size s2 H2 fp) [] (τ' ++ caps σ idx) H8 s8 := I8.pins_of (fun p hp => nomatch hp)
        have up : ∀ b o, b ≠ s2.heap.objs.size → s8.heap.get? b = some o → (s8.heap.update s2.heap.objs.size (Obj.mapSeq fun z => z.push y)).get? b = some o := fun b o hb e => (Heap.get?_update_other s8.heap _ (Ne.symm hb)).trans e
        refine ⟨m', hm', i + 1, ys ++ [yv], its ++ [y], _, H8, τ', I9.turned (t' := s8.toks) up nD8 hDC (.inr (Nat.le_refl _)) cD (fun p hp => nomatch hp), l6, ?_, fun b hb => ?_, q, nD8, r3.append (.cons r8 .nil), w8⟩
        · exact Tn.keep _ _ _ st5 fun b hb o e => up b o (Nat.ne_of_lt (hlt b hb)) (I8.pin _ (mF b hb o e)).1
        · obtain ⟨o, e, d⟩ := Tn.obj _ _ st5 b hb
          exact (I8.pin _ (mF b hb o e)).2.1
  exact codeAny_compStart_list (loop _ rfl) (Tn.self X.A 0 _ _ _ (Tn.keep _ _ _ st2 fun b _ o e => old b o e) (loop _ rfl))
def PU (X : Cx) (e : Expr) (t : TE) : Prop := ∀ (i : Nat) (x : Str) (pos' pos : Pos), X.N.Nodup → X.N[i]? = some x → Loc X.env.scope x → (X.fn x = true ∨ X.env.scope.names.lookup x = some .local) →
  swapsWith e (some (.Name x pos')) pos.line X.env = pure true → PS X (.Assign [.Name x pos'] e pos) (tAsg t (gName i))
theorem pu_comp {elt tg iter : Expr} {ifs : List Expr} {pos : Pos} {sc : Scope} {wi : TI} {g : TG} {tc : Addr → Shared → Hp → List Addr → TT} {te : Addr → Shared → Hp → List Addr → TE} (T : List Str) (idx : List Nat)
    (hi : PI X tg iter wi) (hcalm : X.calm = true) (hB : compB X.env.scope X.N sc idx = true)
    (hg : ∀ C s₂ H1 fp, PG (cxComp X sc T idx C s₂ H1 fp) tg g)
    (hc : ∀ C s₂ H1 fp, PIfs (cxComp X sc T idx C s₂ H1 fp) ifs (tc C s₂ H1 fp))
    (he : ∀ C s₂ H1 fp, PE (cxComp X sc T idx C s₂ H1 fp) elt (te C s₂ H1 fp))
    (hs : ∀ x, foldedSetIterable iter X.env x = pure x := by intro _; rfl) :
    PU X (.ListComp elt [⟨tg, iter, ifs, 0⟩] sc pos) (tComp wi g tc te T.length idx) := by
  intro i x pos' spos hN hix hx hf hsw pins s σ H D I h
  rw [exec_Assign_Name_used _ _ _ _ hsw]
  refine wpAny_bind (wpAny_standAt (wpAny_bind ?_))
  rw [arm_evalThenUse_ListComp]
  refine wpAny_bind (thn (comp_use T idx hi hcalm hB hg hc he hs (use := assign (.Name x pos') X.env) (Q' := fun _ s' => ∃ σ' H', Inv X pins σ' H' s' ∧ D.nx σ' H') I h fun Dd C s4 H' I4 fo hm q => ?_) fun _ s' hq => wpAny_pure (wpAny_pure hq))
  refine wpAny_assign_Name (store_ok2 I4 hN hix hx (show RelV (.ref Dd) (.ref Dd) from rfl) (fun s' I' ⟨a, hs', ha⟩ => ?_) hf)
  obtain ⟨m, hm⟩ := hm
  have hCa : C ≠ a := by
    rintro rfl
    rcases ha with ha | ha
    · exact fo.2.1 ha
    · exact fo.2.2.2.2.1 x _ ha rfl
  refine ⟨m, hm.sameBut hs' hCa, fun h' hs'' => ⟨_, H', ?_, q⟩⟩
  exact I'.turned (t' := s'.toks) (fun b o hb e => (hs''.2 b hb).trans e) fo.1 fo.2.1 fo.2.2.2.1 fo.2.2.2.2.1 fo.2.2.2.2.2
end
end L2
namespace L2
namespace M
open PySem PySem.Spec PyProof.Rows
theorem rcAt_V {A : Around} {s : Shared} {y x : V} {u v : Value} (ry : RelV y u) (rx : RelV x v) (fy : flatV y = true) (fx : flatV x = true) : SeqAt.RcAt A s u v (eqV y x) := by
  cases y with
  | non =>
    cases ry
    cases x with
    | non => cases rx; exact SeqAt.RcAt.none_none
    | bl b => cases rx; exact SeqAt.RcAt.none_bool b
    | int b => obtain ⟨t, rfl⟩ := rx; exact SeqAt.RcAt.none_int b t
    | str b => obtain ⟨t, rfl⟩ := rx; exact SeqAt.RcAt.none_str b t
    | _ => exact absurd (show false = true from fx) Bool.false_ne_true
  | bl a =>
    cases ry
    cases x with
    | non => cases rx; exact SeqAt.RcAt.bool_none a
    | bl b => cases rx; exact SeqAt.RcAt.bool_bool a b
    | int b => obtain ⟨t, rfl⟩ := rx; exact SeqAt.RcAt.bool_int a b t
    | str b => obtain ⟨t, rfl⟩ := rx; exact SeqAt.RcAt.bool_str a b t
    | _ => exact absurd (show false = true from fx) Bool.false_ne_true
  | int a =>
    obtain ⟨t', rfl⟩ := ry
    cases x with
    | non => cases rx; exact SeqAt.RcAt.int_none a t'
    | bl b => cases rx; exact SeqAt.RcAt.int_bool a t' b
    | int b => obtain ⟨t, rfl⟩ := rx; exact SeqAt.RcAt.int_int a t' b t
    | str b => obtain ⟨t, rfl⟩ := rx; exact SeqAt.RcAt.int_str a t' b t
    | _ => exact absurd (show false = true from fx) Bool.false_ne_true
  | str a =>
    obtain ⟨t', rfl⟩ := ry
    cases x with
    | non => cases rx; exact SeqAt.RcAt.str_none a t'
    | bl b => cases rx; exact SeqAt.RcAt.str_bool a t' b
    | int b => obtain ⟨t, rfl⟩ := rx; exact SeqAt.RcAt.str_int a t' b t
    | str b => obtain ⟨t, rfl⟩ := rx; exact SeqAt.RcAt.str_str a t' b t
    | _ => exact absurd (show false = true from fx) Bool.false_ne_true
  | _ => exact absurd (show false = true from fy) Bool.false_ne_true
theorem rnAt_V {A : Around} {s : Shared} {y x : V} {u v : Value} (ry : RelV y u) (rx : RelV x v) (fy : flatV y = true) (fx : flatV x = true) : SeqAt.RcNeAt A s u v (!eqV y x) := by
  cases y with
  | non =>
    cases ry
    cases x with
    | non => cases rx; exact SeqAt.RcNeAt.none_none
    | bl b => cases rx; exact SeqAt.RcNeAt.none_bool b
    | int b => obtain ⟨t, rfl⟩ := rx; exact SeqAt.RcNeAt.none_int b t
    | str b => obtain ⟨t, rfl⟩ := rx; exact SeqAt.RcNeAt.none_str b t
    | _ => exact absurd (show false = true from fx) Bool.false_ne_true
  | bl a =>
    cases ry
    cases x with
    | non => cases rx; exact SeqAt.RcNeAt.bool_none a
    | bl b => cases rx; exact SeqAt.RcNeAt.bool_bool a b
    | int b => obtain ⟨t, rfl⟩ := rx; exact SeqAt.RcNeAt.bool_int a b t
    | str b => obtain ⟨t, rfl⟩ := rx; exact SeqAt.RcNeAt.bool_str a b t
    | _ => exact absurd (show false = true from fx) Bool.false_ne_true
  | int a =>
    obtain ⟨t', rfl⟩ := ry
    cases x with
    | non => cases rx; exact SeqAt.RcNeAt.int_none a t'
    | bl b => cases rx; exact SeqAt.RcNeAt.int_bool a t' b
    | int b => obtain ⟨t, rfl⟩ := rx; exact SeqAt.RcNeAt.int_int a t' b t
    | str b => obtain ⟨t, rfl⟩ := rx; exact SeqAt.RcNeAt.int_str a t' b t
    | _ => exact absurd (show false = true from fx) Bool.false_ne_true
  | str a =>
    obtain ⟨t', rfl⟩ := ry
    cases x with
    | non => cases rx; exact SeqAt.RcNeAt.str_none a t'
    | bl b => cases rx; exact SeqAt.RcNeAt.str_bool a t' b
    | int b => obtain ⟨t, rfl⟩ := rx; exact SeqAt.RcNeAt.str_int a t' b t
    | str b => obtain ⟨t, rfl⟩ := rx; exact SeqAt.RcNeAt.str_str a t' b t
    | _ => exact absurd (show false = true from fx) Bool.false_ne_true
  | _ => exact absurd (show false = true from fy) Bool.false_ne_true
theorem eq_ll {A : Around} {s : Shared} {x : V} {v : Value} {l : Addr} {items : Array Value} (rx : RelV x v) (fx : flatV x = true) (hl : s.heap.IsList l items) (hu : A.units < cLine) : SeqAt.EqAt A s (.ref l) v false := by
  cases x with
  | non => cases rx; exact SeqAt.EqAt.list_none hl hu
  | bl b => cases rx; exact SeqAt.EqAt.list_bool b hl hu
  | int b => obtain ⟨t, rfl⟩ := rx; exact SeqAt.EqAt.list_int b t hl hu
  | str b => obtain ⟨t, rfl⟩ := rx; exact SeqAt.EqAt.list_str b t hl hu
  | _ => exact absurd (show false = true from fx) Bool.false_ne_true
theorem eq_lr {A : Around} {s : Shared} {x : V} {v : Value} {l : Addr} {items : Array Value} (rx : RelV x v) (fx : flatV x = true) (hl : s.heap.IsList l items) (hu : A.units < cLine) : SeqAt.EqAt A s v (.ref l) false := by
  cases x with
  | non => cases rx; exact SeqAt.EqAt.none_list hl hu
  | bl b => cases rx; exact SeqAt.EqAt.bool_list b hl hu
  | int b => obtain ⟨t, rfl⟩ := rx; exact SeqAt.EqAt.int_list b t hl hu
  | str b => obtain ⟨t, rfl⟩ := rx; exact SeqAt.EqAt.str_list b t hl hu
  | _ => exact absurd (show false = true from fx) Bool.false_ne_true
theorem eq_tl {A : Around} {s : Shared} {x : V} {v : Value} {l : Addr} {items : Array Value} (rx : RelV x v) (fx : flatV x = true) (hl : s.heap.IsTuple l items) (hu : A.units < cLine) : SeqAt.EqAt A s (.ref l) v false := by
  cases x with
  | non => cases rx; exact SeqAt.EqAt.tuple_none hl hu
  | bl b => cases rx; exact SeqAt.EqAt.tuple_bool b hl hu
  | int b => obtain ⟨t, rfl⟩ := rx; exact SeqAt.EqAt.tuple_int b t hl hu
  | str b => obtain ⟨t, rfl⟩ := rx; exact SeqAt.EqAt.tuple_str b t hl hu
  | _ => exact absurd (show false = true from fx) Bool.false_ne_true
theorem eq_tr {A : Around} {s : Shared} {x : V} {v : Value} {l : Addr} {items : Array Value} (rx : RelV x v) (fx : flatV x = true) (hl : s.heap.IsTuple l items) (hu : A.units < cLine) : SeqAt.EqAt A s v (.ref l) false := by
  cases x with
  | non => cases rx; exact SeqAt.EqAt.none_tuple hl hu
  | bl b => cases rx; exact SeqAt.EqAt.bool_tuple b hl hu
  | int b => obtain ⟨t, rfl⟩ := rx; exact SeqAt.EqAt.int_tuple b t hl hu
  | str b => obtain ⟨t, rfl⟩ := rx; exact SeqAt.EqAt.str_tuple b t hl hu
  | _ => exact absurd (show false = true from fx) Bool.false_ne_true
theorem rc_ll {A : Around} {s : Shared} {x : V} {v : Value} {l : Addr} {items : Array Value} (rx : RelV x v) (fx : flatV x = true) (hl : s.heap.IsList l items) (hu : A.units < cLine) : SeqAt.RcAt A s (.ref l) v false := by
  cases x with
  | non => cases rx; exact SeqAt.RcAt.list_none hl hu
  | bl b => cases rx; exact SeqAt.RcAt.list_bool b hl hu
  | int b => obtain ⟨t, rfl⟩ := rx; exact SeqAt.RcAt.list_int b t hl hu
  | str b => obtain ⟨t, rfl⟩ := rx; exact SeqAt.RcAt.list_str b t hl hu
  | _ => exact absurd (show false = true from fx) Bool.false_ne_true
theorem rc_lr {A : Around} {s : Shared} {x : V} {v : Value} {l : Addr} {items : Array Value} (rx : RelV x v) (fx : flatV x = true) (hl : s.heap.IsList l items) (hu : A.units < cLine) : SeqAt.RcAt A s v (.ref l) false := by
  cases x with
  | non => cases rx; exact SeqAt.RcAt.none_list hl hu
  | bl b => cases rx; exact SeqAt.RcAt.bool_list b hl hu
  | int b => obtain ⟨t, rfl⟩ := rx; exact SeqAt.RcAt.int_list b t hl hu
  | str b => obtain ⟨t, rfl⟩ := rx; exact SeqAt.RcAt.str_list b t hl hu
  | _ => exact absurd (show false = true from fx) Bool.false_ne_true
theorem rc_tl {A : Around} {s : Shared} {x : V} {v : Value} {l : Addr} {items : Array Value} (rx : RelV x v) (fx : flatV x = true) (hl : s.heap.IsTuple l items) (hu : A.units < cLine) : SeqAt.RcAt A s (.ref l) v false := by
  cases x with
  | non => cases rx; exact SeqAt.RcAt.tuple_none hl hu
  | bl b => cases rx; exact SeqAt.RcAt.tuple_bool b hl hu
  | int b => obtain ⟨t, rfl⟩ := rx; exact SeqAt.RcAt.tuple_int b t hl hu
  | str b => obtain ⟨t, rfl⟩ := rx; exact SeqAt.RcAt.tuple_str b t hl hu
  | _ => exact absurd (show false = true from fx) Bool.false_ne_true
theorem rc_tr {A : Around} {s : Shared} {x : V} {v : Value} {l : Addr} {items : Array Value} (rx : RelV x v) (fx : flatV x = true) (hl : s.heap.IsTuple l items) (hu : A.units < cLine) : SeqAt.RcAt A s v (.ref l) false := by
  cases x with
  | non => cases rx; exact SeqAt.RcAt.none_tuple hl hu
  | bl b => cases rx; exact SeqAt.RcAt.bool_tuple b hl hu
  | int b => obtain ⟨t, rfl⟩ := rx; exact SeqAt.RcAt.int_tuple b t hl hu
  | str b => obtain ⟨t, rfl⟩ := rx; exact SeqAt.RcAt.str_tuple b t hl hu
  | _ => exact absurd (show false = true from fx) Bool.false_ne_true
theorem rn_ll {A : Around} {s : Shared} {x : V} {v : Value} {l : Addr} {items : Array Value} (rx : RelV x v) (fx : flatV x = true) (hl : s.heap.IsList l items) (hu : A.units < cLine) : SeqAt.RcNeAt A s (.ref l) v true := by
  cases x with
  | non => cases rx; exact SeqAt.RcNeAt.list_none hl hu
  | bl b => cases rx; exact SeqAt.RcNeAt.list_bool b hl hu
  | int b => obtain ⟨t, rfl⟩ := rx; exact SeqAt.RcNeAt.list_int b t hl hu
  | str b => obtain ⟨t, rfl⟩ := rx; exact SeqAt.RcNeAt.list_str b t hl hu
  | _ => exact absurd (show false = true from fx) Bool.false_ne_true
theorem rn_lr {A : Around} {s : Shared} {x : V} {v : Value} {l : Addr} {items : Array Value} (rx : RelV x v) (fx : flatV x = true) (hl : s.heap.IsList l items) (hu : A.units < cLine) : SeqAt.RcNeAt A s v (.ref l) true := by
  cases x with
  | non => cases rx; exact SeqAt.RcNeAt.none_list hl hu
  | bl b => cases rx; exact SeqAt.RcNeAt.bool_list b hl hu
  | int b => obtain ⟨t, rfl⟩ := rx; exact SeqAt.RcNeAt.int_list b t hl hu
  | str b => obtain ⟨t, rfl⟩ := rx; exact SeqAt.RcNeAt.str_list b t hl hu
  | _ => exact absurd (show false = true from fx) Bool.false_ne_true
theorem rn_tl {A : Around} {s : Shared} {x : V} {v : Value} {l : Addr} {items : Array Value} (rx : RelV x v) (fx : flatV x = true) (hl : s.heap.IsTuple l items) (hu : A.units < cLine) : SeqAt.RcNeAt A s (.ref l) v true := by
  cases x with
  | non => cases rx; exact SeqAt.RcNeAt.tuple_none hl hu
  | bl b => cases rx; exact SeqAt.RcNeAt.tuple_bool b hl hu
  | int b => obtain ⟨t, rfl⟩ := rx; exact SeqAt.RcNeAt.tuple_int b t hl hu
  | str b => obtain ⟨t, rfl⟩ := rx; exact SeqAt.RcNeAt.tuple_str b t hl hu
  | _ => exact absurd (show false = true from fx) Bool.false_ne_true
theorem rn_tr {A : Around} {s : Shared} {x : V} {v : Value} {l : Addr} {items : Array Value} (rx : RelV x v) (fx : flatV x = true) (hl : s.heap.IsTuple l items) (hu : A.units < cLine) : SeqAt.RcNeAt A s v (.ref l) true := by
  cases x with
  | non => cases rx; exact SeqAt.RcNeAt.none_tuple hl hu
  | bl b => cases rx; exact SeqAt.RcNeAt.bool_tuple b hl hu
  | int b => obtain ⟨t, rfl⟩ := rx; exact SeqAt.RcNeAt.int_tuple b t hl hu
  | str b => obtain ⟨t, rfl⟩ := rx; exact SeqAt.RcNeAt.str_tuple b t hl hu
  | _ => exact absurd (show false = true from fx) Bool.false_ne_true
theorem eqV_refl {y : V} (h : flatV y = true) : eqV y y = true := by
  cases y <;> first | rfl | (simp [eqV]; done) | exact absurd (show false = true from h) Bool.false_ne_true
inductive NK where
  | key (k : Key) | tup (ks : List NK)
noncomputable instance : DecidableEq NK := fun _ _ => Classical.propDecidable _
section
variable {prog : Program} {w : World} (knd : KeyKind prog w Key)
mutual
def isN (h : Heap) : NK → Value → Prop
  | .key k, v => knd.is k v = true
  | .tup ks, v => ∃ a o items n, v = .ref a ∧ h.get? a = some o ∧ o.cls = .type "tuple" ∧ o.data = .seq items n ∧ isNL h ks items.toList
def isNL (h : Heap) : List NK → List Value → Prop
  | [], vs => vs = []
  | k :: ks, vs => ∃ v r, vs = v :: r ∧ isN h k v ∧ isNL h ks r
end
mutual
def hashN : NK → Int
  | .key k => knd.hash k
  | .tup ks => reduceHash (Builtin.Tuple.tupleHashOf (hashNL ks))
def hashNL : List NK → List Int
  | [] => []
  | k :: ks => hashN k :: hashNL ks
end
mutual
def drawN : NK → Nat
  | .key _ => 1
  | .tup ks => drawNL ks + 1
def drawNL : List NK → Nat
  | [] => 0
  | k :: ks => drawN k + drawNL ks
end
mutual
def depN : NK → Nat
  | .key _ => 0
  | .tup ks => depNL ks + 1
def depNL : List NK → Nat
  | [] => 0
  | k :: ks => max (depN k) (depNL ks)
end
variable {knd}
theorem isN_key {h : Heap} {k : Key} {v : Value} : isN knd h (.key k) v ↔ knd.is k v = true := by unfold isN; exact Iff.rfl
theorem isN_tup {h : Heap} {ks : List NK} {v : Value} : isN knd h (.tup ks) v ↔ ∃ a o items n, v = .ref a ∧ h.get? a = some o ∧ o.cls = .type "tuple" ∧ o.data = .seq items n ∧ isNL knd h ks items.toList := by
  conv => lhs; unfold isN
theorem isNL_nil {h : Heap} {vs : List Value} : isNL knd h [] vs ↔ vs = [] := by unfold isNL; exact Iff.rfl
theorem isNL_cons {h : Heap} {k : NK} {ks : List NK} {vs : List Value} : isNL knd h (k :: ks) vs ↔ ∃ v r, vs = v :: r ∧ isN knd h k v ∧ isNL knd h ks r := by
  conv => lhs; unfold isNL
mutual
theorem isN_inj {h : Heap} : ∀ {x y : NK} {v : Value}, isN knd h x v → isN knd h y v → x = y
  | .key k, .key k', v, hx, hy => by rw [knd.inj v k k' (isN_key.mp hx) (isN_key.mp hy)]
  | .key k, .tup ks, v, hx, hy => by
    obtain ⟨a, o, items, n, rfl, _⟩ := isN_tup.mp hy
    have := knd.byValue _ _ (isN_key.mp hx)
    simp [carriedByValue] at this
  | .tup ks, .key k, v, hx, hy => by
    obtain ⟨a, o, items, n, rfl, _⟩ := isN_tup.mp hx
    have := knd.byValue _ _ (isN_key.mp hy)
    simp [carriedByValue] at this
  | .tup ks, .tup ks', v, hx, hy => by
    obtain ⟨a, o, items, n, e, ho, _, hd, hi⟩ := isN_tup.mp hx
    obtain ⟨a', o', items', n', e', ho', _, hd', hi'⟩ := isN_tup.mp hy
    rw [e] at e'
    cases e'
    obtain rfl : o = o' := Option.some.inj (ho.symm.trans ho')
    rw [hd] at hd'
    injection hd' with h1 _
    subst h1
    rw [isNL_inj hi hi']
theorem isNL_inj {h : Heap} : ∀ {xs ys : List NK} {vs : List Value}, isNL knd h xs vs → isNL knd h ys vs → xs = ys
  | [], [], _, _, _ => rfl
  | [], y :: ys, vs, hx, hy => by
    obtain ⟨v, r, e, _⟩ := isNL_cons.mp hy
    rw [isNL_nil.mp hx] at e; cases e
  | x :: xs, [], vs, hx, hy => by
    obtain ⟨v, r, e, _⟩ := isNL_cons.mp hx
    rw [isNL_nil.mp hy] at e; cases e
  | x :: xs, y :: ys, vs, hx, hy => by
    obtain ⟨v, r, e, h1, h2⟩ := isNL_cons.mp hx
    obtain ⟨v', r', e', h1', h2'⟩ := isNL_cons.mp hy
    rw [e] at e'
    cases e'
    rw [isN_inj h1 h1', isNL_inj h2 h2']
end
mutual
theorem isN_move {h h' : Heap} (m : ∀ a o items n, h.get? a = some o → o.data = .seq items n → h'.get? a = some o) : ∀ {x : NK} {v : Value}, isN knd h x v → isN knd h' x v
  | .key k, v, hx => isN_key.mpr (isN_key.mp hx)
  | .tup ks, v, hx => by
    obtain ⟨a, o, items, n, e, ho, hc, hd, hi⟩ := isN_tup.mp hx
    exact isN_tup.mpr ⟨a, o, items, n, e, m a o items n ho hd, hc, hd, isNL_move m hi⟩
theorem isNL_move {h h' : Heap} (m : ∀ a o items n, h.get? a = some o → o.data = .seq items n → h'.get? a = some o) : ∀ {xs : List NK} {vs : List Value}, isNL knd h xs vs → isNL knd h' xs vs
  | [], vs, hx => isNL_nil.mpr (isNL_nil.mp hx)
  | x :: xs, vs, hx => by
    obtain ⟨v, r, e, h1, h2⟩ := isNL_cons.mp hx
    exact isNL_cons.mpr ⟨v, r, e, isN_move m h1, isNL_move m h2⟩
end
theorem hashNL_map : ∀ ks : List NK, hashNL knd ks = ks.map (hashN knd)
  | [] => by unfold hashNL; rfl
  | k :: ks => by unfold hashNL; rw [hashNL_map ks]; rfl
theorem drawNL_nil : drawNL [] = 0 := by rw [drawNL]
theorem drawNL_cons (k : NK) (ks : List NK) : drawNL (k :: ks) = drawN k + drawNL ks := by rw [drawNL]
theorem depNL_cons (k : NK) (ks : List NK) : depNL (k :: ks) = max (depN k) (depNL ks) := by rw [depNL]
theorem depN_tup (ks : List NK) : depN (.tup ks) = depNL ks + 1 := by rw [depN]
theorem drawNL_append : ∀ (xs ys : List NK), drawNL (xs ++ ys) = drawNL xs + drawNL ys
  | [], ys => by rw [drawNL_nil, List.nil_append, Nat.zero_add]
  | x :: xs, ys => by rw [List.cons_append, drawNL_cons, drawNL_cons, drawNL_append xs ys]; omega
theorem tup_type {s : Shared} {ks : List NK} {a : Addr} (h : isN knd s.heap (.tup ks) (.ref a)) : s.TypeIs (.ref a) "tuple" := by
  obtain ⟨a', o, items, n, e, ho, hc, _⟩ := isN_tup.mp h
  cases e
  exact ⟨o, ho, hc⟩
theorem pyHash_N : ∀ (n : Nat) {A : Around} {E : Value → Shared → Prop} {s : Shared} {k : NK} {v : Value} {Q : Int → Shared → Prop}, depN k ≤ n → A.units + n < cLine → isN knd s.heap k v → Q (hashN knd k) { s with toks := s.toks + drawN k } → wpAny (model prog w) A (pyHash v) Q E s
  | n, A, E, s, .key k, v, Q, _, _, hk, h => knd.pyHash (isN_key.mp hk) (by rw [hashN, drawN] at h; exact h)
  | 0, A, E, s, .tup ks, v, Q, hd, _, _, _ => by rw [depN_tup] at hd; omega
  | n + 1, A, E, s, .tup ks, v, Q, hdep, hu, hk, h => by
    obtain ⟨a, o, items, m, rfl, ho, hc, hd, hi⟩ := isN_tup.mp hk
    have hT : s.TypeIs (.ref a) "tuple" := ⟨o, ho, hc⟩
    rw [depN_tup] at hdep
    have hdl : ∀ k ∈ ks, depN k ≤ n := by
      have : ∀ ks : List NK, depNL ks ≤ n → ∀ k ∈ ks, depN k ≤ n := by
        intro ks
        induction ks with
        | nil => intro _ k hk; simp at hk
        | cons x xs ih =>
          intro hx k hk
          rw [depNL_cons] at hx
          rcases List.mem_cons.mp hk with rfl | hk
          · omega
          · exact ih (by omega) k hk
      exact this ks (by omega)
    rw [hashN, drawN, hashNL_map] at h
    unfold pyHash
    first | unfold pyHashByItsType | skip
    first | refine wpAny_bind (wpAny_cRoomFor_or (.inr (show A.units < cLine by omega)) ?_) | skip
    refine wpAny_bind (wpAny_specialOf hT F.slot_tuple_hash.lookup ?_)
    show wpAny _ _ (if (some (Value.builtin "tuple.__hash__") == some Value.none) = true then _ else _) Q E s
    rw [if_neg (by rw [beq_builtin_none]; exact Bool.false_ne_true)]
    refine wpAny_bind (wpAny_specialOf hT F.slot_tuple_hash.lookup ?_)
    show wpAny _ _ (callSpecialIfBoundUnlessNone? (.ref a) "__hash__" _ >>= _) Q E s
    refine wpAny_bind (wpAny_callSpecialIfBoundUnlessNone?_slot hT F.slot_tuple_hash (wpAny_call_entry F.slot_tuple_hash hT F.entry_tuple_hash ?_ (F.args_tuple_hash_1 _)))
    show wpAny _ _ (Builtin.Tuple.tupleItemsOf (.ref a) >>= _) _ _ s
    refine wpAny_bind (wpAny_tupleItemsOf ho hd ?_)
    refine wpAny_bind ?_
    rw [← Array.forIn_toList]
    refine wpAny_forIn_list _
      (fun rest (b : Array Int) s' => ∃ done left, ks = done ++ left ∧ isNL knd s.heap left rest ∧ b.toList = done.map (hashN knd) ∧ s' = { s with toks := s.toks + drawNL done })
      _ ?_ ?_ _ _ ⟨[], ks, rfl, hi, rfl, by rw [drawNL_nil]; rfl⟩
    · rintro x rest b s' ⟨done, left, rfl, hl, hb, rfl⟩
      cases left with
      | nil => rw [isNL_nil] at hl; cases hl
      | cons k ks' =>
        obtain ⟨v, r, e, h1, hl'⟩ := isNL_cons.mp hl
        cases e
        refine wpAny_bind (pyHash_N n (hdl k (by simp)) (show A.units + 1 + n < cLine by omega) h1 ?_)
        have e1 : drawNL (done ++ [k]) = drawNL done + drawN k := by rw [drawNL_append, drawNL_cons, drawNL_nil]; rfl
        first
          | exact wpAny_pure ⟨done ++ [k], ks', by simp, hl', by simp [hb], by simp [Nat.add_assoc, e1]⟩
          | exact wpAny_bind (wpAny_pure (wpAny_pure ⟨done ++ [k], ks', by simp, hl', by simp [hb], by simp [Nat.add_assoc, e1]⟩))
    · rintro b s' ⟨done, left, rfl, hl, hb, rfl⟩
      cases left with
      | cons k ks' => obtain ⟨v, r, e, _⟩ := isNL_cons.mp hl; cases e
      | nil =>
        rw [List.append_nil] at h
        show wpAny _ _ (retInt (Builtin.Tuple.tupleHashOf b.toList)) _ _ _
        rw [hb]
        refine wpAny_ret_mkInt ?_
        show wpAny _ _ (if (decide (-(2 : Int) ^ 63 ≤ Builtin.Tuple.tupleHashOf (done.map (hashN knd))) && decide (Builtin.Tuple.tupleHashOf (done.map (hashN knd)) < 2 ^ 63)) = true then _ else _) Q E _
        unfold reduceHash at h
        by_cases hr : (decide (-(2 : Int) ^ 63 ≤ Builtin.Tuple.tupleHashOf (done.map (hashN knd))) && decide (Builtin.Tuple.tupleHashOf (done.map (hashN knd)) < 2 ^ 63)) = true
        · rw [if_pos hr]
          rw [if_pos hr] at h
          exact wpAny_pure (by simpa [Nat.add_assoc] using h)
        · rw [if_neg hr]
          rw [if_neg hr] at h
          exact wpAny_bind (wpAny_rule (wpAny_pure (by simpa [Nat.add_assoc] using h)))
end
section
variable {prog : Program} {w : World}
abbrev mk (prog : Program) (w : World) : KeyKind prog w Key := mixKind prog w
theorem dec_key (a b : Key) : decide (NK.key a = NK.key b) = decide (a = b) := by
  by_cases h : a = b
  · subst h; simp
  · rw [decide_eq_false h, decide_eq_false fun z => h (NK.key.inj z)]
theorem dec_kt (a : Key) (b : List NK) : decide (NK.key a = NK.tup b) = false := decide_eq_false fun z => nomatch z
theorem dec_tk (a : Key) (b : List NK) : decide (NK.tup b = NK.key a) = false := decide_eq_false fun z => nomatch z
theorem dec_tt (a b : List NK) : decide (NK.tup a = NK.tup b) = decide (a = b) := by
  by_cases h : a = b
  · subst h; simp
  · rw [decide_eq_false h, decide_eq_false fun z => h (NK.tup.inj z)]
theorem key_flat {k : Key} {v : Value} (h : (mk prog w).is k v = true) : ∃ x : V, RelV x v ∧ flatV x = true := by
  rcases keyIs_shape (show keyIs k v = true from h) with ⟨i, t, rfl, rfl⟩ | ⟨x, t, rfl, rfl⟩
  · exact ⟨.int i, ⟨t, rfl⟩, rfl⟩
  · exact ⟨.str x, ⟨t, rfl⟩, rfl⟩
theorem tuple_eqN {A : Around} {E : Value → Shared → Prop} {s : Shared} {x y : List NK} {a b : Addr} {P : Fin → Shared → Prop}
    (he : ∀ k1 ∈ x, ∀ k2 u v (Q : Bool → Shared → Prop), isN (mk prog w) s.heap k1 u → isN (mk prog w) s.heap k2 v → Q (decide (k1 = k2)) s → wpAny (model prog w) A (eqBool u v) Q E s)
    (hx : isN (mk prog w) s.heap (.tup x) (.ref a)) (hy : isN (mk prog w) s.heap (.tup y) (.ref b)) (h : P (.done (.ret (.bool (decide (x = y))))) s) :
    wpAny (model prog w) A (Builtin.«tuple.__eq__» ⟨[.ref a, .ref b], []⟩) P E s := by
  have hTb := tup_type hy
  obtain ⟨_, oa, xs, na, e, hoa, _, hda, hia⟩ := isN_tup.mp hx
  cases e
  obtain ⟨_, ob, ys, nb, e, hob, _, hdb, hib⟩ := isN_tup.mp hy
  cases e
  show wpAny _ _ (isInstance (.ref b) (.type "tuple") >>= _) _ _ s
  refine wpAny_bind (wpAny_isInstance hTb isSubtype_tuple_tuple ?_)
  simp only [Bool.not_true, Bool.false_eq_true, if_false]
  refine wpAny_bind (wpAny_tupleItemsOf hoa hda ?_)
  refine wpAny_bind (wpAny_tupleItemsOf hob hdb ?_)
  refine wpAny_bind ?_
  refine wpAny_forIn_list _
    (fun rest r s' => r.1 = none ∧ s' = s ∧ ∃ x' y' xs' ys', rest = List.zip xs' ys' ∧ (∀ k ∈ x', k ∈ x) ∧ isNL (mk prog w) s.heap x' xs' ∧ isNL (mk prog w) s.heap y' ys' ∧ decide (x' = y') = decide (x = y) ∧ (xs'.length == ys'.length) = (xs.size == ys.size))
    _ ?_ ?_ _ _ ⟨rfl, rfl, x, y, xs.toList, ys.toList, rfl, fun k hk => hk, hia, hib, rfl, by simp⟩
  · rintro ⟨u, v⟩ rest r s' ⟨hr, rfl, x', y', xs', ys', hz, hm, hx', hy', hdec, hlen⟩
    cases x' with
    | nil => rw [isNL_nil.mp hx'] at hz; simp at hz
    | cons k1 x'' =>
      cases y' with
      | nil => rw [isNL_nil.mp hy'] at hz; simp at hz
      | cons k2 y'' =>
        obtain ⟨u', xs'', rfl, h1, hx''⟩ := isNL_cons.mp hx'
        obtain ⟨v', ys'', rfl, h2, hy''⟩ := isNL_cons.mp hy'
        simp only [List.zip_cons_cons, List.cons.injEq, Prod.mk.injEq] at hz
        obtain ⟨⟨rfl, rfl⟩, rfl⟩ := hz
        refine wpAny_bind (he k1 (hm k1 List.mem_cons_self) k2 _ _ _ h1 h2 ?_)
        by_cases hk : k1 = k2
        · subst hk
          rw [decide_eq_true rfl]
          simp only [Bool.not_true, Bool.false_eq_true, if_false]
          refine wpAny_pure ⟨rfl, rfl, x'', y'', xs'', ys'', rfl, fun k hk => hm k (List.mem_cons_of_mem _ hk), hx'', hy'', ?_, by simpa using hlen⟩
          rw [← hdec]
          by_cases hxy : x'' = y''
          · simp [hxy]
          · simp [hxy]
        · rw [decide_eq_false hk]
          simp only [Bool.not_false, if_true]
          have hf : decide (x = y) = false := by rw [← hdec]; simp [hk]
          rw [hf] at h
          exact wpAny_bind (wpAny_pure (wpAny_pure (wpAny_pure h)))
  · rintro ⟨r1, r2⟩ s' ⟨hr, rfl, x', y', xs', ys', hz, hm, hx', hy', hdec, hlen⟩
    simp only at hr
    subst hr
    refine wpAny_pure ?_
    have hfin : (xs.size == ys.size) = decide (x = y) := by
      rw [← hdec, ← hlen]
      cases x' with
      | nil =>
        rw [isNL_nil.mp hx']
        cases y' with
        | nil => rw [isNL_nil.mp hy']; simp
        | cons k2 y'' => obtain ⟨v', ys'', rfl, h2, hy''⟩ := isNL_cons.mp hy'; simp
      | cons k1 x'' =>
        obtain ⟨u', xs'', rfl, h1, hx''⟩ := isNL_cons.mp hx'
        cases y' with
        | nil => rw [isNL_nil.mp hy']; simp
        | cons k2 y'' => obtain ⟨v', ys'', rfl, h2, hy''⟩ := isNL_cons.mp hy'; simp at hz
    show P (.done (.ret (.bool (xs.size == ys.size)))) s'
    rw [hfin]; exact h
theorem depNL_le {n : Nat} : ∀ {ks : List NK}, depNL ks ≤ n → ∀ k ∈ ks, depN k ≤ n
  | [], _, k, hk => by simp at hk
  | x :: xs, hx, k, hk => by
    rw [depNL_cons] at hx
    rcases List.mem_cons.mp hk with rfl | hk
    · omega
    · exact depNL_le (by omega) k hk
theorem eqBool_N : ∀ (n : Nat) {A : Around} {E : Value → Shared → Prop} {s : Shared} {x y : NK} {u v : Value} {Q : Bool → Shared → Prop}, depN x ≤ n → A.units + n < cLine → isN (mk prog w) s.heap x u → isN (mk prog w) s.heap y v → Q (decide (x = y)) s → wpAny (model prog w) A (eqBool u v) Q E s
  | n, A, E, s, .key a, .key b, u, v, Q, _, _, hx, hy, h => (mk prog w).eqBool (isN_key.mp hx) (isN_key.mp hy) (by rw [dec_key] at h; exact h)
  | n, A, E, s, .key a, .tup b, u, v, Q, _, hu, hx, hy, h => by
    obtain ⟨z, rz, fz⟩ := key_flat (isN_key.mp hx)
    obtain ⟨l, o, items, m, rfl, ho, hc, hd, _⟩ := isN_tup.mp hy
    rw [dec_kt] at h
    exact eq_tr rz fz (items := items) ⟨o, ho, hc, m, hd⟩ (by omega) prog w E Q h
  | n, A, E, s, .tup a, .key b, u, v, Q, _, hu, hx, hy, h => by
    obtain ⟨z, rz, fz⟩ := key_flat (isN_key.mp hy)
    obtain ⟨l, o, items, m, rfl, ho, hc, hd, _⟩ := isN_tup.mp hx
    rw [dec_tk] at h
    exact eq_tl rz fz (items := items) ⟨o, ho, hc, m, hd⟩ (by omega) prog w E Q h
  | 0, A, E, s, .tup a, .tup b, u, v, Q, hd, _, hx, hy, h => by rw [depN_tup] at hd; omega
  | n + 1, A, E, s, .tup x, .tup y, u, v, Q, hd, hu, hx, hy, h => by
    obtain ⟨a, _, _, _, ea, _⟩ := isN_tup.mp hx
    obtain ⟨b, _, _, _, eb, _⟩ := isN_tup.mp hy
    subst ea eb
    rw [depN_tup] at hd
    rw [dec_tt] at h
    unfold eqBool
    try with_reducible refine wpAny_holding ?_
    show wpAny _ _ (if (Value.ref a == Value.ref b) = true then _ else _) Q E s
    by_cases hab : (Value.ref a == Value.ref b) = true
    · rw [if_pos hab]
      have e : a = b := by have := eq_of_beq hab; injection this
      subst e
      have : x = y := NK.tup.inj (isN_inj hx hy)
      subst this
      exact wpAny_bind (wpAny_rule (wpAny_pure (by simpa using h)))
    · rw [if_neg hab]
      refine wpAny_bind (wpAny_richCompare_same_room (op := .Eq) (tup_type hx) (tup_type hy) F.slot_tuple_eq
        (wpAny_call_entry F.slot_tuple_eq (tup_type hx) F.entry_tuple_eq (tuple_eqN (fun k1 hk1 k2 u v Q h1 h2 h3 => eqBool_N n (depNL_le (by omega) k1 hk1) (show A.units + 1 + n < cLine by omega) h1 h2 h3) hx hy ⟨_, rfl, (fun e => nomatch e), wpAny_truthy_bool h⟩) (F.args_tuple_eq_2 _ _)) (by omega))
theorem quiet_N : ∀ (n m : Nat) {A : Around} {E : Value → Shared → Prop} {s : Shared} {x : NK} {u : Value} {Q : Bool → Shared → Prop}, depN x ≤ n → n < m → isN (mk prog w) s.heap x u → Q true s → wpAny (model prog w) A (eqIsQuiet m u) Q E s
  | n, m, A, E, s, .key k, u, Q, _, _, hx, h => by
    rw [eqIsQuiet_byValue m ((mk prog w).byValue _ _ (isN_key.mp hx))]
    exact wpAny_pure h
  | 0, m, A, E, s, .tup ks, u, Q, hd, _, hx, h => by rw [depN_tup] at hd; omega
  | n + 1, 0, A, E, s, .tup ks, u, Q, hd, hm, hx, h => by omega
  | n + 1, m + 1, A, E, s, .tup ks, u, Q, hdp, hm, hx, h => by
    obtain ⟨a, o, items, j, rfl, ho, hc, hd, hi⟩ := isN_tup.mp hx
    have hT : s.TypeIs (.ref a) "tuple" := ⟨o, ho, hc⟩
    rw [depN_tup] at hdp
    unfold eqIsQuiet
    refine wpAny_bind (wpAny_specialOf hT F.slot_tuple_eq.lookup ?_)
    show wpAny _ _ (isInstance (.ref a) (.type "tuple") >>= _) _ _ s
    refine wpAny_bind (wpAny_isInstance hT isSubtype_tuple_tuple ?_)
    simp only [Bool.not_true, Bool.false_eq_true, if_false]
    refine wpAny_bind (wpAny_seqItems ho hd ?_)
    refine wpAny_bind ?_
    show wpAny _ _ (forIn items _ _) _ _ s
    rw [← Array.forIn_toList]
    refine wpAny_forIn_list _ (fun rest r s' => r.1 = none ∧ s' = s ∧ ∃ left, (∀ k ∈ left, k ∈ ks) ∧ isNL (mk prog w) s.heap left rest) _ ?_ ?_ _ _ ⟨rfl, rfl, ks, fun k hk => hk, hi⟩
    · rintro v rest r s' ⟨hr, rfl, left, hm', hl⟩
      cases left with
      | nil => rw [isNL_nil] at hl; cases hl
      | cons k left =>
        obtain ⟨v', r', e, h1, h2⟩ := isNL_cons.mp hl
        cases e
        refine wpAny_bind (quiet_N n m (depNL_le (by omega) k (hm' k List.mem_cons_self)) (by omega) h1 ?_)
        simp only [Bool.not_true, Bool.false_eq_true, if_false]
        exact wpAny_pure ⟨rfl, rfl, left, fun k hk => hm' k (List.mem_cons_of_mem _ hk), h2⟩
    · rintro ⟨r1, r2⟩ s' ⟨hr, rfl, _⟩
      simp only at hr
      subst hr
      exact wpAny_pure h
end
noncomputable def nestKind (prog : Program) (w : World) : HeapKind prog w NK where
  is := fun h k a => isN (mk prog w) h k (.ref a) ∧ depN k ≤ 4
  hash := hashN (mk prog w)
  draws := drawN
  room := fun A => A.units + 4 < cLine
  inj := fun hx hy => isN_inj hx.1 hy.1
  keeps := fun x ho hd hs => ⟨isN_move (fun a o' items n e q => (hs.2 a fun z => by
    subst z
    rw [ho] at e; cases e
    rw [hd] at q; cases q).trans e) x.1, x.2⟩
  pyHash := fun hu hk h => pyHash_N 4 hk.2 hu hk.1 h
  eqBool := fun hu hx hy h => eqBool_N 4 hx.2 hu hx.1 hy.1 h
  quiet := fun hk h => quiet_N 4 8 hk.2 (by decide) hk.1 h
def DN (P : Program) (w : World) (a : Addr) (xs : List (NK × Addr × Value)) : HO :=
  .ext fun h => xs.length ≤ sizeLine ∧ (a == sysModules) = false ∧ ∃ o es ep, h.get? a = some o ∧ o.ExactDict ∧ o.data = .dict es ep ∧ es.toList = xs.map (entryOfKey (nestKind P w)) ∧ (xs.map (·.1)).Nodup
end M
end L2
namespace L2
open PySem PySem.Spec PyProof.Rows
structure Mvd (fs : List Addr) (e T : Addr) (h h' : Heap) : Prop where
  keep : ∀ b o, b ≠ e → b ≠ T → b ∉ fs → h.get? b = some o → h'.get? b = some o
  slot : ∀ b o, b ≠ e → b ≠ T → h.get? b = some o → ∃ sl, h'.get? b = some { o with slots := sl }
  there : ∀ b o, h.get? b = some o → ∃ o', h'.get? b = some o'
theorem Mvd.new {fs : List Addr} {e T T' : Addr} {h h1 h2 : Heap} (a : Mvd fs e T h h1) (n : h.get? T' = none) (b : Mvd fs e T' h1 h2) : Mvd fs e T h h2 := by
  have ne : ∀ c o, h.get? c = some o → c ≠ T' := fun c o q z => by rw [z, n] at q; cases q
  exact ⟨fun c o h1 h2 h3 q => b.keep c o h1 (ne c o q) h3 (a.keep c o h1 h2 h3 q), fun c o h1 h2 q => by
    obtain ⟨sl, e1⟩ := a.slot c o h1 h2 q
    obtain ⟨sl', e2⟩ := b.slot c _ h1 (ne c o q) e1
    exact ⟨sl', e2⟩, fun c o q => let ⟨o', e1⟩ := a.there c o q; b.there c o' e1⟩
end L2
namespace L2
open PySem PySem.Spec PyProof.Rows
abbrev bmV : List Value := [.type "ValueError", .type "Exception", .type "BaseException", .type "object"]
def qn : List Str := ["__class__", "__getattribute__", "__getattr__"]
end L2
namespace L2
namespace M
open PySem PySem.Spec PyProof.Rows
inductive MV where
  | non | bl (b : Bool) | int (i : Int) | str (x : List Nat) | tup (ds : List MV) | scr (ds : List MV) | loc (l : Nat) | typ (n : String)
instance : Inhabited MV := ⟨.non⟩
inductive MO where
  | lst (ds : List MV) | dic (kvs : List (MV × MV)) | ins (c : Str) (fs : List (Str × MV))
abbrev Sto := List MO
def SqF (K : PySem.W.Frag) (H : Hp) (a : Addr) (xs : List V) : Prop :=
  (∃ o, H a = some (.frz o (.lst xs))) ∨
    ∃ (o : Obj) (its : Array Value) (n : Nat), K.lookup a = some o ∧ o.cls = .type "list" ∧ o.dict = none ∧ o.data = .seq its n ∧ its.size ≤ sizeLine ∧ Vals xs its.toList
theorem SqF.l {K : PySem.W.Frag} {H : Hp} {a : Addr} {xs : List V} (h : SqF K H a xs) : SqL K H a xs := by
  rcases h with ⟨o, h⟩ | h
  · exact .inl (.inr ⟨o, h⟩)
  · exact .inr h
mutual
def Den (K : PySem.W.Frag) (α : List Addr) (H : Hp) : MV → V → Prop
  | .non, v => v = .non
  | .bl b, v => v = .bl b
  | .int i, v => v = .int i
  | .str x, v => v = .str (mkS x)
  | .tup ds, v => ∃ a vs, v = .ref a ∧ SqT K H a vs ∧ DenL K α H ds vs
  | .scr ds, v => ∃ a vs, v = .ref a ∧ SqF K H a vs ∧ DenL K α H ds vs
  | .loc l, v => ∃ a, v = .ref a ∧ α[l]? = some a
  | .typ n, v => v = .ty n
def DenL (K : PySem.W.Frag) (α : List Addr) (H : Hp) : List MV → List V → Prop
  | [], vs => vs = []
  | d :: ds, vs => ∃ v r, vs = v :: r ∧ Den K α H d v ∧ DenL K α H ds r
end
structure Ex0 (α : List Addr) (H : Hp) (α' : List Addr) (H' : Hp) : Prop where
  pre : ∃ t, α' = α ++ t
  tup : ∀ b xs, H b = some (.tup xs) → H' b = some (.tup xs)
  frz : ∀ b o u, H b = some (.frz o u) → H' b = some (.frz o u)
structure Ext (α : List Addr) (H : Hp) (α' : List Addr) (H' : Hp) : Prop extends Ex0 α H α' H' where
  new : ∀ b ∈ α', b ∈ α ∨ H b = none
  keep : ∀ b o, H b = some o → b ∉ α → H' b = some o
  has : ∀ b o, H b = some o → ∃ o', H' b = some o'
section
variable {K : PySem.W.Frag} {α α' α'' : List Addr} {H H' H'' : Hp}
theorem Ext.refl (α : List Addr) (H : Hp) : Ext α H α H := ⟨⟨⟨[], by simp⟩, fun _ _ h => h, fun _ _ _ h => h⟩, fun b h => .inl h, fun _ _ h _ => h, fun _ o h => ⟨o, h⟩⟩
theorem Ex0.grow (α t : List Addr) (H : Hp) : Ex0 α H (α ++ t) H := ⟨⟨t, rfl⟩, fun _ _ h => h, fun _ _ _ h => h⟩
theorem Ext.free (x : Ext α H α' H') {b : Addr} (h : H' b = none) : H b = none := by
  cases e : H b with
  | none => rfl
  | some o => obtain ⟨o', h'⟩ := x.has b o e; rw [h] at h'; cases h'
theorem Ext.out (x : Ext α H α' H') {b : Addr} {o : HO} (h : H b = some o) (n : b ∉ α) : b ∉ α' := fun z => by
  rcases x.new b z with z | z
  · exact n z
  · rw [h] at z; cases z
theorem Ext.trans (x : Ext α H α' H') (y : Ext α' H' α'' H'') : Ext α H α'' H'' where
  pre := by
    obtain ⟨t, rfl⟩ := x.pre
    obtain ⟨u, rfl⟩ := y.pre
    exact ⟨t ++ u, by rw [List.append_assoc]⟩
  new := fun b h => (y.new b h).elim (x.new b) fun z => .inr (x.free z)
  keep := fun b o h n => y.keep b o (x.keep b o h n) (x.out h n)
  has := fun b o h => let ⟨o', h'⟩ := x.has b o h; y.has b o' h'
  tup := fun b xs h => y.tup b xs (x.tup b xs h)
  frz := fun b o u h => y.frz b o u (x.frz b o u h)
theorem Ex0.at (x : Ex0 α H α' H') {l : Nat} {a : Addr} (h : α[l]? = some a) : α'[l]? = some a := by
  obtain ⟨t, rfl⟩ := x.pre
  rw [List.getElem?_append_left (List.getElem?_eq_some_iff.mp h).1]
  exact h
theorem Ex0.sqT (x : Ex0 α H α' H') {a : Addr} {vs : List V} (q : SqT K H a vs) : SqT K H' a vs := by
  rcases q with (q | ⟨o, q⟩) | q
  · exact .inl (.inl (x.tup a vs q))
  · exact .inl (.inr ⟨o, x.frz a o _ q⟩)
  · exact .inr q
theorem Ex0.sqF (x : Ex0 α H α' H') {a : Addr} {vs : List V} (q : SqF K H a vs) : SqF K H' a vs := by
  rcases q with ⟨o, q⟩ | q
  · exact .inl ⟨o, x.frz a o _ q⟩
  · exact .inr q
mutual
theorem Den.ex0 (x : Ex0 α H α' H') : ∀ {d : MV} {v : V}, Den K α H d v → Den K α' H' d v
  | .non, _, q => by unfold Den at q ⊢; exact q
  | .bl _, _, q => by unfold Den at q ⊢; exact q
  | .int _, _, q => by unfold Den at q ⊢; exact q
  | .str _, _, q => by unfold Den at q ⊢; exact q
  | .typ _, _, q => by unfold Den at q ⊢; exact q
  | .loc _, _, q => by
    unfold Den at q ⊢
    obtain ⟨a, e, h⟩ := q
    exact ⟨a, e, x.at h⟩
  | .tup ds, _, q => by
    unfold Den at q ⊢
    obtain ⟨a, vs, e, s, l⟩ := q
    exact ⟨a, vs, e, x.sqT s, DenL.ex0 x l⟩
  | .scr ds, _, q => by
    unfold Den at q ⊢
    obtain ⟨a, vs, e, s, l⟩ := q
    exact ⟨a, vs, e, x.sqF s, DenL.ex0 x l⟩
theorem DenL.ex0 (x : Ex0 α H α' H') : ∀ {ds : List MV} {vs : List V}, DenL K α H ds vs → DenL K α' H' ds vs
  | [], _, q => by unfold DenL at q ⊢; exact q
  | d :: ds, _, q => by
    unfold DenL at q ⊢
    obtain ⟨v, r, e, a, l⟩ := q
    exact ⟨v, r, e, Den.ex0 x a, DenL.ex0 x l⟩
end
theorem Den.ext (x : Ext α H α' H') {d : MV} {v : V} (q : Den K α H d v) : Den K α' H' d v := q.ex0 x.toEx0
theorem DenL.ext (x : Ext α H α' H') {d : List MV} {v : List V} (q : DenL K α H d v) : DenL K α' H' d v := q.ex0 x.toEx0
theorem den_non : Den K α H .non .non := by unfold Den; rfl
theorem den_bl (b : Bool) : Den K α H (.bl b) (.bl b) := by unfold Den; rfl
theorem den_int (i : Int) : Den K α H (.int i) (.int i) := by unfold Den; rfl
theorem den_str (x : List Nat) : Den K α H (.str x) (.str (mkS x)) := by unfold Den; rfl
theorem den_typ (n : String) : Den K α H (.typ n) (.ty n) := by unfold Den; rfl
theorem den_tup {ds : List MV} {a : Addr} {vs : List V} (s : SqT K H a vs) (l : DenL K α H ds vs) : Den K α H (.tup ds) (.ref a) := by unfold Den; exact ⟨a, vs, rfl, s, l⟩
theorem den_scr {ds : List MV} {a : Addr} {vs : List V} (s : SqF K H a vs) (l : DenL K α H ds vs) : Den K α H (.scr ds) (.ref a) := by unfold Den; exact ⟨a, vs, rfl, s, l⟩
theorem den_loc {l : Nat} {a : Addr} (h : α[l]? = some a) : Den K α H (.loc l) (.ref a) := by unfold Den; exact ⟨a, rfl, h⟩
theorem of_non {v : V} (d : Den K α H .non v) : v = .non := by unfold Den at d; exact d
theorem of_bl {b : Bool} {v : V} (d : Den K α H (.bl b) v) : v = .bl b := by unfold Den at d; exact d
theorem of_int {i : Int} {v : V} (d : Den K α H (.int i) v) : v = .int i := by unfold Den at d; exact d
theorem of_str {x : List Nat} {v : V} (d : Den K α H (.str x) v) : v = .str (mkS x) := by unfold Den at d; exact d
theorem of_typ {n : String} {v : V} (d : Den K α H (.typ n) v) : v = .ty n := by unfold Den at d; exact d
theorem of_tup {ds : List MV} {v : V} (d : Den K α H (.tup ds) v) : ∃ a vs, v = .ref a ∧ SqT K H a vs ∧ DenL K α H ds vs := by unfold Den at d; exact d
theorem of_scr {ds : List MV} {v : V} (d : Den K α H (.scr ds) v) : ∃ a vs, v = .ref a ∧ SqF K H a vs ∧ DenL K α H ds vs := by unfold Den at d; exact d
theorem of_loc {l : Nat} {v : V} (d : Den K α H (.loc l) v) : ∃ a, v = .ref a ∧ α[l]? = some a := by unfold Den at d; exact d
theorem denl_nil : DenL K α H [] [] := by unfold DenL; rfl
theorem denl_cons {d : MV} {v : V} {ds : List MV} {vs : List V} (a : Den K α H d v) (l : DenL K α H ds vs) : DenL K α H (d :: ds) (v :: vs) := by unfold DenL; exact ⟨v, vs, rfl, a, l⟩
theorem DenL.uncons {d : MV} {ds : List MV} {vs : List V} (l : DenL K α H (d :: ds) vs) : ∃ v r, vs = v :: r ∧ Den K α H d v ∧ DenL K α H ds r := by unfold DenL at l; exact l
theorem DenL.isnil {vs : List V} (l : DenL K α H [] vs) : vs = [] := by unfold DenL at l; exact l
theorem DenL.length : ∀ {ds : List MV} {vs : List V}, DenL K α H ds vs → vs.length = ds.length
  | [], _, q => by rw [q.isnil]; rfl
  | d :: ds, _, q => by
    obtain ⟨v, r, rfl, _, l⟩ := q.uncons
    rw [List.length_cons, List.length_cons, DenL.length l]
theorem DenL.append : ∀ {ds es : List MV} {vs us : List V}, DenL K α H ds vs → DenL K α H es us → DenL K α H (ds ++ es) (vs ++ us)
  | [], _, _, _, q, l => by rw [q.isnil]; exact l
  | d :: ds, _, _, _, q, l => by
    obtain ⟨v, r, rfl, a, l'⟩ := q.uncons
    exact denl_cons a (DenL.append l' l)
theorem DenL.drop : ∀ {ds : List MV} {vs : List V} (n : Nat), DenL K α H ds vs → DenL K α H (ds.drop n) (vs.drop n)
  | _, _, 0, q => q
  | [], _, n + 1, q => by rw [q.isnil]; exact denl_nil
  | d :: ds, _, n + 1, q => by
    obtain ⟨v, r, rfl, _, l⟩ := q.uncons
    exact DenL.drop n l
theorem DenL.take : ∀ {ds : List MV} {vs : List V} (n : Nat), DenL K α H ds vs → DenL K α H (ds.take n) (vs.take n)
  | _, _, 0, q => denl_nil
  | [], _, n + 1, q => by rw [q.isnil]; exact denl_nil
  | d :: ds, _, n + 1, q => by
    obtain ⟨v, r, rfl, a, l⟩ := q.uncons
    exact denl_cons a (DenL.take n l)
theorem DenL.reverse : ∀ {ds : List MV} {vs : List V}, DenL K α H ds vs → DenL K α H ds.reverse vs.reverse
  | [], _, q => by rw [q.isnil]; exact denl_nil
  | d :: ds, _, q => by
    obtain ⟨v, r, rfl, a, l⟩ := q.uncons
    rw [List.reverse_cons, List.reverse_cons]
    exact (DenL.reverse l).append (denl_cons a denl_nil)
theorem DenL.set {d : MV} {v : V} (a : Den K α H d v) : ∀ {ds : List MV} {vs : List V} (n : Nat), DenL K α H ds vs → DenL K α H (ds.set n d) (vs.set n v)
  | [], _, _, q => by rw [q.isnil]; exact denl_nil
  | e :: ds, _, 0, q => by
    obtain ⟨v', r, rfl, a', l⟩ := q.uncons
    exact denl_cons a l
  | e :: ds, _, n + 1, q => by
    obtain ⟨v', r, rfl, a', l⟩ := q.uncons
    exact denl_cons a' (DenL.set a n l)
theorem DenL.get : ∀ {ds : List MV} {vs : List V} {i : Nat} {v : V}, DenL K α H ds vs → vs[i]? = some v → ∃ d, ds[i]? = some d ∧ Den K α H d v
  | [], _, _, _, q, e => by rw [q.isnil] at e; simp at e
  | d :: ds, _, 0, _, q, e => by
    obtain ⟨v, r, rfl, a, l⟩ := q.uncons
    simp at e; subst e
    exact ⟨d, rfl, a⟩
  | d :: ds, _, i + 1, _, q, e => by
    obtain ⟨v, r, rfl, a, l⟩ := q.uncons
    obtain ⟨d', h1, h2⟩ := DenL.get (i := i) l (by simpa using e)
    exact ⟨d', by simpa using h1, h2⟩
theorem DenL.at {ds : List MV} {vs : List V} {i : Nat} {d : MV} (q : DenL K α H ds vs) (e : ds[i]? = some d) : ∃ v, vs[i]? = some v ∧ Den K α H d v := by
  have hi : i < ds.length := (List.getElem?_eq_some_iff.mp e).1
  have hv : i < vs.length := by rw [q.length]; exact hi
  obtain ⟨d', h1, h2⟩ := q.get (List.getElem?_eq_getElem hv)
  rw [e] at h1; cases h1
  exact ⟨_, List.getElem?_eq_getElem hv, h2⟩
theorem DenL.cut {ds : List MV} {vs : List V} (q : DenL K α H ds vs) (lo hi : Option Int) : DenL K α H (cutL ds lo hi) (cutV vs lo hi) := by
  unfold cutL cutV
  rw [q.length]
  exact (q.drop _).take _
theorem denl_ints : ∀ (ns : List Int), DenL K α H (ns.map MV.int) (ns.map V.int)
  | [] => denl_nil
  | b :: bs => denl_cons (den_int b) (denl_ints bs)
end
structure Gm where
  K : PySem.W.Frag
  mg : Str → Option Value
  P : Program
  w : World
abbrev _root_.L2.Cx.g (X : Cx) : Gm := ⟨X.K, X.mg, X.prog, X.w⟩
inductive DenF (K : PySem.W.Frag) (α : List Addr) (H : Hp) : List (Str × MV) → List (Str × V) → Prop
  | nil : DenF K α H [] []
  | cons {x : Str} {d : MV} {v : V} {fs gs} : Den K α H d v → DenF K α H fs gs → DenF K α H ((x, d) :: fs) ((x, v) :: gs)
theorem DenF.ex0 {K : PySem.W.Frag} {α α' : List Addr} {H H' : Hp} (x : Ex0 α H α' H') : ∀ {fs gs}, DenF K α H fs gs → DenF K α' H' fs gs
  | _, _, .nil => .nil
  | _, _, .cons a l => .cons (a.ex0 x) (DenF.ex0 x l)
def KeyD : MV → Key → Prop
  | .int i, k => k = .inl i
  | .str x, k => k = .inr (mkS x)
  | _, _ => False
inductive DenK (K : PySem.W.Frag) (α : List Addr) (H : Hp) : List (MV × MV) → List (Key × V) → Prop
  | nil : DenK K α H [] []
  | cons {k : MV} {k' : Key} {d : MV} {v : V} {fs gs} : KeyD k k' → Den K α H d v → DenK K α H fs gs → DenK K α H ((k, d) :: fs) ((k', v) :: gs)
theorem DenK.ex0 {K : PySem.W.Frag} {α α' : List Addr} {H H' : Hp} (x : Ex0 α H α' H') : ∀ {fs gs}, DenK K α H fs gs → DenK K α' H' fs gs
  | _, _, .nil => .nil
  | _, _, .cons k a l => .cons k (a.ex0 x) (DenK.ex0 x l)
mutual
def nkOf : MV → Option NK
  | .int i => some (.key (.inl i))
  | .str x => some (.key (.inr (mkS x)))
  | .tup ds => (nkOfL ds).map .tup
  | _ => none
def nkOfL : List MV → Option (List NK)
  | [] => some []
  | d :: ds => (nkOf d).bind fun k => (nkOfL ds).map (k :: ·)
end
inductive DenN (K : PySem.W.Frag) (α : List Addr) (H : Hp) : List (MV × MV) → List (NK × Addr × Value) → Prop
  | nil : DenN K α H [] []
  | cons {k : MV} {nk : NK} {a : Addr} {d : MV} {v : V} {u : Value} {fs xs} : nkOf k = some nk → depN nk ≤ 4 → Den K α H k (.ref a) → Den K α H d v → RelV v u → DenN K α H fs xs → DenN K α H ((k, d) :: fs) ((nk, a, u) :: xs)
theorem DenN.ex0 {K : PySem.W.Frag} {α α' : List Addr} {H H' : Hp} (x : Ex0 α H α' H') : ∀ {fs xs}, DenN K α H fs xs → DenN K α' H' fs xs
  | _, _, .nil => .nil
  | _, _, .cons k e a d r l => .cons k e (a.ex0 x) (d.ex0 x) r (DenN.ex0 x l)
def ObD (g : Gm) (α : List Addr) (H : Hp) (a : Addr) : MO → Prop
  | .lst ds => ∃ vs, H a = some (.lst vs) ∧ DenL g.K α H ds vs
  | .dic kvs => (∃ ks, H a = some (.dK ks) ∧ DenK g.K α H kvs ks) ∨ ∃ xs, H a = some (DN g.P g.w a xs) ∧ DenN g.K α H kvs xs
  | .ins c fs => ∃ C gs, g.mg c = some (.ref C) ∧ DenF g.K α H fs gs ∧
      ∃ oe, H a = some (.ext fun h => h.get? a = some oe) ∧ oe.cls = .ref C ∧ (fs = [] ∨ ∃ dx od, oe.dict = some dx ∧ H dx = some (.frz od (.xd gs)))
theorem ObD.there {g : Gm} {α : List Addr} {H : Hp} {a : Addr} {o : MO} (h : ObD g α H a o) : ∃ ho, H a = some ho ∧ (∀ xs, ho ≠ .tup xs) ∧ ∀ ob u, ho ≠ .frz ob u := by
  cases o with
  | lst ds => obtain ⟨vs, h, _⟩ := h; exact ⟨_, h, (fun xs z => by cases z), fun _ _ z => by cases z⟩
  | dic ds =>
    rcases h with ⟨vs, h, _⟩ | ⟨vs, h, _⟩
    · exact ⟨_, h, (fun xs z => by cases z), fun _ _ z => by cases z⟩
    · exact ⟨_, h, (fun xs z => by cases z), fun _ _ z => by cases z⟩
  | ins c ds =>
    obtain ⟨_, _, _, _, _, h, _⟩ := h
    exact ⟨_, h, (fun xs z => by cases z), fun _ _ z => by cases z⟩
theorem ObD.move {g : Gm} {α α' : List Addr} {H H' : Hp} {a : Addr} {o : MO} (h : ObD g α H a o) (x : Ex0 α H α' H') (e : H' a = H a) : ObD g α' H' a o := by
  cases o with
  | lst ds => obtain ⟨vs, h, l⟩ := h; exact ⟨vs, e.trans h, l.ex0 x⟩
  | dic ds =>
    rcases h with ⟨vs, h, l⟩ | ⟨vs, h, l⟩
    · exact .inl ⟨vs, e.trans h, l.ex0 x⟩
    · exact .inr ⟨vs, e.trans h, l.ex0 x⟩
  | ins c ds =>
    obtain ⟨C, gs, m, l, oe, h, hc, hf⟩ := h
    exact ⟨C, gs, m, l.ex0 x, oe, e.trans h, hc, hf.imp id fun ⟨dx, od, h1, h2⟩ => ⟨dx, od, h1, x.frz _ _ _ h2⟩⟩
structure Wd (g : Gm) (α : List Addr) (S : Sto) (H : Hp) : Prop where
  len : α.length = S.length
  nd : α.Nodup
  obj : ∀ (l : Nat) (a : Addr) (o : MO), α[l]? = some a → S[l]? = some o → ObD g α H a o
section
variable {g : Gm} {α α' : List Addr} {S S' : Sto} {H H' : Hp}
theorem Wd.at (w : Wd g α S H) {l : Nat} {o : MO} (h : S[l]? = some o) : ∃ a, α[l]? = some a ∧ ObD g α H a o := by
  have hl : l < α.length := by rw [w.len]; exact (List.getElem?_eq_some_iff.mp h).1
  exact ⟨α[l], List.getElem?_eq_getElem hl, w.obj l _ o (List.getElem?_eq_getElem hl) h⟩
theorem Wd.of (w : Wd g α S H) {l : Nat} {a : Addr} (h : α[l]? = some a) : ∃ o, S[l]? = some o ∧ ObD g α H a o := by
  have hl : l < S.length := by rw [← w.len]; exact (List.getElem?_eq_some_iff.mp h).1
  exact ⟨S[l], List.getElem?_eq_getElem hl, w.obj l a _ h (List.getElem?_eq_getElem hl)⟩
theorem Wd.mem (w : Wd g α S H) {a : Addr} (h : a ∈ α) : ∃ ho, H a = some ho ∧ (∀ xs, ho ≠ .tup xs) ∧ ∀ ob u, ho ≠ .frz ob u := by
  obtain ⟨l, hl⟩ := List.getElem?_of_mem h
  obtain ⟨o, _, q⟩ := w.of hl
  exact q.there
theorem Wd.newx (w : Wd g α S H) {p : Addr} {o : HO} (hp : H p = none) : Ext α H α (upd H p o) where
  pre := ⟨[], by simp⟩
  new := fun b h => .inl h
  keep := fun b o h _ => by rw [upd_ne (ne_of_none h hp)]; exact h
  has := fun b o h => ⟨o, by rw [upd_ne (ne_of_none h hp)]; exact h⟩
  tup := fun b o h => by rw [upd_ne (ne_of_none h hp)]; exact h
  frz := fun b o u h => by rw [upd_ne (ne_of_none h hp)]; exact h
theorem Wd.fresh (w : Wd g α S H) {p : Addr} (hp : H p = none) : p ∉ α := fun z => by
  obtain ⟨_, h, _⟩ := w.mem z; rw [hp] at h; cases h
theorem Wd.new (w : Wd g α S H) {p : Addr} {o : HO} (hp : H p = none) : Wd g α S (upd H p o) :=
  ⟨w.len, w.nd, fun l a ob h1 h2 => (w.obj l a ob h1 h2).move (w.newx hp).toEx0 (upd_ne fun z => w.fresh hp (by rw [← z]; exact List.mem_of_getElem? h1))⟩
theorem Wd.writex (w : Wd g α S H) {l : Nat} {a : Addr} {o : HO} (h : α[l]? = some a) : Ext α H α (upd H a o) where
  pre := ⟨[], by simp⟩
  new := fun b h => .inl h
  keep := fun b o e n => by rw [upd_ne fun z => n (by rw [z]; exact List.mem_of_getElem? h)]; exact e
  has := fun b o e => by
    by_cases z : b = a
    · subst z; exact ⟨_, upd_same⟩
    · exact ⟨o, by rw [upd_ne z]; exact e⟩
  tup := fun b xs e => by
    obtain ⟨ho, h1, h2, _⟩ := w.mem (List.mem_of_getElem? h)
    rw [upd_ne fun z => h2 xs (by subst z; rw [e] at h1; exact (Option.some.inj h1).symm)]; exact e
  frz := fun b ob u e => by
    obtain ⟨ho, h1, _, h2⟩ := w.mem (List.mem_of_getElem? h)
    rw [upd_ne fun z => h2 ob u (by subst z; rw [e] at h1; exact (Option.some.inj h1).symm)]; exact e
theorem Wd.ne (w : Wd g α S H) {l m : Nat} {a b : Addr} (h : α[l]? = some a) (h' : α[m]? = some b) (n : l ≠ m) : a ≠ b := by
  rintro rfl
  obtain ⟨h1, e1⟩ := List.getElem?_eq_some_iff.mp h
  obtain ⟨h2, e2⟩ := List.getElem?_eq_some_iff.mp h'
  exact n ((List.getElem_inj w.nd).mp (e1.trans e2.symm))
theorem Wd.write (w : Wd g α S H) {l : Nat} {a : Addr} {o : HO} {ob : MO} (h : α[l]? = some a) (q : ObD g α (upd H a o) a ob) : Wd g α (S.set l ob) (upd H a o) where
  len := by rw [List.length_set]; exact w.len
  nd := w.nd
  obj := fun m b ob' h1 h2 => by
    by_cases e : l = m
    · subst e
      rw [h] at h1
      have hl : l < S.length := by rw [← w.len]; exact (List.getElem?_eq_some_iff.mp h).1
      rw [List.getElem?_set_self hl] at h2
      rw [← Option.some.inj h1, ← Option.some.inj h2]
      exact q
    · rw [List.getElem?_set_ne e] at h2
      exact (w.obj m b ob' h1 h2).move (w.writex h).toEx0 (upd_ne (w.ne h1 h fun z => e z.symm))
theorem Wd.enterx (w : Wd g α S H) {H0 : Hp} {α0 : List Addr} (x : Ext α0 H0 α H) {b : Addr} (h0 : H0 b = none) (n : b ∉ α) : Ext α0 H0 (α ++ [b]) H where
  pre := let ⟨t, e⟩ := x.pre; ⟨t ++ [b], by rw [e, List.append_assoc]⟩
  new := fun c hc => (List.mem_append.mp hc).elim (x.new c) fun z => .inr (by rw [List.mem_singleton.mp z]; exact h0)
  keep := x.keep
  has := x.has
  tup := x.tup
  frz := x.frz
theorem Wd.enter (w : Wd g α S H) {b : Addr} {ds : List MV} {vs : List V} (h : H b = some (.lst vs)) (n : b ∉ α) (l : DenL g.K α H ds vs) : Wd g (α ++ [b]) (S ++ [.lst ds]) H where
  len := by rw [List.length_append, List.length_append, w.len]; rfl
  nd := List.nodup_append.mpr ⟨w.nd, by simp, fun a ha c hc => by rw [List.mem_singleton.mp hc]; rintro rfl; exact n ha⟩
  obj := fun m a o h1 h2 => by
    by_cases hm : m < α.length
    · rw [List.getElem?_append_left hm] at h1
      rw [List.getElem?_append_left (by rw [← w.len]; exact hm)] at h2
      exact (w.obj m a o h1 h2).move (Ex0.grow α [b] H) rfl
    · have hm' : m = α.length := by
        have := (List.getElem?_eq_some_iff.mp h1).1
        rw [List.length_append, List.length_singleton] at this
        omega
      subst hm'
      rw [List.getElem?_append_right (Nat.le_refl _), Nat.sub_self] at h1
      rw [List.getElem?_append_right (by rw [w.len]; exact Nat.le_refl _), w.len, Nat.sub_self] at h2
      cases h1; cases h2
      exact ⟨vs, h, l.ex0 (Ex0.grow α [b] H)⟩
end
end M
end L2
namespace L2
namespace M
open PySem PySem.Spec PyProof.Rows
inductive R (β : Type) where
  | ok (b : β) (S : Sto) | exc (c : Str) (fs : List (Str × MV)) (S : Sto) | no
def R.bind {β γ : Type} : R β → (β → Sto → R γ) → R γ
  | .ok b S, k => k b S
  | .exc c fs S, _ => .exc c fs S
  | .no, _ => .no
theorem R.bind_ok {β γ : Type} (b : β) (S : Sto) (k : β → Sto → R γ) : (R.ok b S).bind k = k b S := rfl
inductive Er where
  | val (d : MV) | new (ds : List MV)
instance : Inhabited Er := ⟨.val .non⟩
def DenX (K : PySem.W.Frag) (α : List Addr) (H : Hp) : Er → V → Prop
  | .val d, v => Den K α H d v
  | .new ds, v => ∃ b vs, v = .ref b ∧ H b = some (.lst vs) ∧ b ∉ α ∧ DenL K α H ds vs
def DenE (K : PySem.W.Frag) (H : Hp) (α' : List Addr) (H' : Hp) (r : Er) (v : V) : Prop := DenX K α' H' r v ∧ match r with | .new _ => ∀ a, v = .ref a → H a = none | _ => True
section
variable {K : PySem.W.Frag} {α α' : List Addr} {H H0 H' : Hp}
theorem DenX.ext (x : Ext α H α' H') : ∀ {r : Er} {v : V}, DenX K α H r v → DenX K α' H' r v
  | .val d, _, q => Den.ext x q
  | .new ds, _, ⟨b, vs, e, h, n, l⟩ => ⟨b, vs, e, x.keep b _ h n, x.out h n, l.ext x⟩
theorem DenE.val {d : MV} {v : V} (q : Den K α' H' d v) : DenE K H α' H' (.val d) v := ⟨q, trivial⟩
theorem DenE.back (hf : ∀ b, H b = none → H0 b = none) {r : Er} {v : V} (q : DenE K H α' H' r v) : DenE K H0 α' H' r v := by
  refine ⟨q.1, ?_⟩
  cases r with
  | new ds => exact fun a e => hf a (q.2 a e)
  | _ => trivial
theorem DenE.ext {α'' : List Addr} {H'' : Hp} (x : Ext α' H' α'' H'') {r : Er} {v : V} (q : DenE K H α' H' r v) : DenE K H α'' H'' r v := ⟨q.1.ext x, q.2⟩
end
section
variable {K : PySem.W.Frag} {α : List Addr} {H : Hp} {v : V}
theorem xe_non (d : DenX K α H (.val .non) v) : v = .non := of_non (K := K) (α := α) (H := H) d
theorem xe_bl {b : Bool} (d : DenX K α H (.val (.bl b)) v) : v = .bl b := of_bl (K := K) (α := α) (H := H) d
theorem xe_int {b : Int} (d : DenX K α H (.val (.int b)) v) : v = .int b := of_int (K := K) (α := α) (H := H) d
theorem xe_str {b : List Nat} (d : DenX K α H (.val (.str b)) v) : v = .str (mkS b) := of_str (K := K) (α := α) (H := H) d
theorem xe_typ {b : String} (d : DenX K α H (.val (.typ b)) v) : v = .ty b := of_typ (K := K) (α := α) (H := H) d
theorem xe_tup {ds : List MV} (d : DenX K α H (.val (.tup ds)) v) : ∃ a vs, v = .ref a ∧ SqT K H a vs ∧ DenL K α H ds vs := of_tup (K := K) (α := α) (H := H) d
theorem xe_scr {ds : List MV} (d : DenX K α H (.val (.scr ds)) v) : ∃ a vs, v = .ref a ∧ SqF K H a vs ∧ DenL K α H ds vs := of_scr (K := K) (α := α) (H := H) d
theorem xe_loc {l : Nat} (d : DenX K α H (.val (.loc l)) v) : ∃ a, v = .ref a ∧ α[l]? = some a := of_loc (K := K) (α := α) (H := H) d
end
def newsA : List Er → List V → List Addr
  | .new _ :: rs, .ref b :: vs => b :: newsA rs vs
  | _ :: rs, _ :: vs => newsA rs vs
  | _, _ => []
inductive ArgsE (K : PySem.W.Frag) (H : Hp) (α' : List Addr) (H' : Hp) : List Er → List V → Prop
  | nil : ArgsE K H α' H' [] []
  | cons {r v rs vs} : DenE K H α' H' r v → (∀ ds b, r = .new ds → v = .ref b → b ∉ newsA rs vs) → ArgsE K H α' H' rs vs → ArgsE K H α' H' (r :: rs) (v :: vs)
theorem ArgsE.nones {K : PySem.W.Frag} {H : Hp} {α' : List Addr} {H' : Hp} : ∀ {rs vs}, ArgsE K H α' H' rs vs → ∀ b ∈ newsA rs vs, H b = none
  | _, _, .nil => fun b h => by simp [newsA] at h
  | .val d :: _, v :: _, .cons a n l => fun b h => ArgsE.nones l b (by simpa [newsA] using h)
  | .new ds :: _, v :: _, .cons a n l => fun b h => by
    obtain ⟨c, vs, rfl, _⟩ := a.1
    rcases List.mem_cons.mp (show b ∈ c :: newsA _ _ from h) with rfl | h
    · exact a.2 _ rfl
    · exact ArgsE.nones l b h
theorem ArgsE.back {K : PySem.W.Frag} {H H0 : Hp} {α' : List Addr} {H' : Hp} (hf : ∀ b, H b = none → H0 b = none) : ∀ {rs vs}, ArgsE K H α' H' rs vs → ArgsE K H0 α' H' rs vs
  | _, _, .nil => .nil
  | _, _, .cons a n l => .cons (a.back hf) n (ArgsE.back hf l)
theorem ArgsE.length {K : PySem.W.Frag} {H : Hp} {α' : List Addr} {H' : Hp} : ∀ {rs vs}, ArgsE K H α' H' rs vs → vs.length = rs.length
  | _, _, .nil => rfl
  | _, _, .cons _ _ l => by rw [List.length_cons, List.length_cons, ArgsE.length l]
class Dn (β : Type) (τ : outParam Type) where
  d : Gm → Hp → List Addr → Sto → Hp → β → τ → Prop
  back : ∀ {g : Gm} {H H0 : Hp} {α' : List Addr} {S' : Sto} {H' : Hp} {b : β} {u : τ}, (∀ b, H b = none → H0 b = none) → d g H α' S' H' b u → d g H0 α' S' H' b u
instance : Dn Er V := ⟨fun g H α' _ H' r v => DenE g.K H α' H' r v, fun hf q => q.back hf⟩
instance : Dn Bool Bool := ⟨fun _ _ _ _ _ b u => u = b, fun _ q => q⟩
instance : Dn (List Er) (List V) := ⟨fun g H α' _ H' r v => ArgsE g.K H α' H' r v, fun hf q => q.back hf⟩
instance : Dn (Option Int) (Option Int) := ⟨fun _ _ _ _ _ b u => u = b, fun _ q => q⟩
abbrev XW := Str → List (Str × MV) → Sto → List Addr → Hp → Prop
abbrev W0 : XW := fun _ _ _ _ _ => False
def Post {β τ : Type} [Dn β τ] (g : Gm) (W : XW) (α : List Addr) (H : Hp) : R β → (τ → Hp → Prop) → Prop
  | .ok b S, Q => ∀ u α' H', Ext α H α' H' → Wd g α' S H' → Dn.d g H α' S H' b u → Q u H'
  | .exc c fs S, _ => ∀ α' H', Ext α H α' H' → Wd g α' S H' → W c fs S α' H'
  | .no, _ => False
section
variable {β τ γ υ : Type} [Dn β τ] [Dn γ υ] {g : Gm} {W : XW} {α α' : List Addr} {H H' : Hp}
theorem Post.shift (x : Ext α H α' H') : ∀ {m : R β} {Q : τ → Hp → Prop}, Post g W α H m Q → Post g W α' H' m Q
  | .ok b S, Q, q => fun u α2 H2 x2 w2 d2 => q u α2 H2 (x.trans x2) w2 (Dn.back (fun b h => x.free h) d2)
  | .exc c fs S, _, q => fun α2 H2 x2 w2 => q α2 H2 (x.trans x2) w2
  | .no, _, q => q
theorem Post.bind {m : R β} {k : β → Sto → R γ} {Q : υ → Hp → Prop} {Q' : τ → Hp → Prop} (q : Post g W α H (m.bind k) Q)
    (f : ∀ u b S1 α1 H1, m = .ok b S1 → Ext α H α1 H1 → Wd g α1 S1 H1 → Dn.d g H α1 S1 H1 b u → Post g W α H (k b S1) Q → Q' u H1) : Post g W α H m Q' := by
  cases m with
  | ok b S => exact fun u α1 H1 x w d => f u b S α1 H1 rfl x w d q
  | exc c fs S => exact q
  | no => exact q
theorem Post.here {b : β} {S : Sto} {Q : τ → Hp → Prop} {u : τ} (q : Post g W α H (.ok b S) Q) (w : Wd g α S H) (d : Dn.d g H α S H b u) : Q u H := q u α H (Ext.refl α H) w d
end
theorem Post.val {g : Gm} {W : XW} {α : List Addr} {H : Hp} {d : MV} {S : Sto} {Q : VK} {v : V} (q : Post g W α H (.ok (Er.val d) S) Q) (w : Wd g α S H) (k : Den g.K α H d v) : Q v H := q.here w (DenE.val k)
theorem Post.newl {g : Gm} {W : XW} {α : List Addr} {H : Hp} {ds : List MV} {S : Sto} {Q : VK} {vs : List V} {p : Addr} (q : Post g W α H (.ok (Er.new ds) S) Q) (w : Wd g α S H) (hp : H p = none) (l : DenL g.K α H ds vs) : Q (.ref p) (upd H p (.lst vs)) :=
  q (.ref p) α _ (w.newx hp) (w.new hp) ⟨⟨p, vs, rfl, upd_same, w.fresh hp, l.ext (w.newx hp)⟩, fun a e => by cases e; exact hp⟩
theorem Post.newt {g : Gm} {W : XW} {α : List Addr} {H : Hp} {ds : List MV} {S : Sto} {Q : VK} {vs : List V} {p : Addr} (q : Post g W α H (.ok (Er.val (.tup ds)) S) Q) (w : Wd g α S H) (hp : H p = none) (l : DenL g.K α H ds vs) : Q (.ref p) (upd H p (.tup vs)) :=
  q (.ref p) α _ (w.newx hp) (w.new hp) (.val (den_tup (.of upd_same) (l.ext (w.newx hp))))
abbrev Rho := List (Option MV)
structure Slots (K : PySem.W.Frag) (α : List Addr) (H : Hp) (ρ : Rho) (σ : St) : Prop where
  len : σ.length = ρ.length
  slot : ∀ (i : Nat) (d : MV), ρ[i]? = some (some d) → ∃ v, σ[i]? = some (some v) ∧ Den K α H d v
section
variable {K : PySem.W.Frag} {α α' : List Addr} {H H' : Hp} {ρ : Rho} {σ : St}
theorem Slots.ex0 (q : Slots K α H ρ σ) (x : Ex0 α H α' H') : Slots K α' H' ρ σ := ⟨q.len, fun i d e => let ⟨v, h1, h2⟩ := q.slot i d e; ⟨v, h1, h2.ex0 x⟩⟩
theorem Slots.ext (q : Slots K α H ρ σ) (x : Ext α H α' H') : Slots K α' H' ρ σ := q.ex0 x.toEx0
theorem set_get {α : Type} {l : List α} {i j : Nat} {x y : α} (h : (l.set i x)[j]? = some y) : (j = i ∧ y = x ∧ i < l.length) ∨ (j ≠ i ∧ l[j]? = some y) := by
  by_cases hj : i = j
  · subst hj
    by_cases hl : i < l.length
    · rw [List.getElem?_set_self hl] at h
      exact .inl ⟨rfl, (Option.some.inj h).symm, hl⟩
    · rw [List.getElem?_eq_none (by rw [List.length_set]; omega)] at h; cases h
  · rw [List.getElem?_set_ne hj] at h
    exact .inr ⟨fun z => hj z.symm, h⟩
theorem Slots.set (q : Slots K α H ρ σ) {i : Nat} {d : MV} {v : V} (h : Den K α H d v) : Slots K α H (ρ.set i (some d)) (σ.set i (some v)) := by
  refine ⟨by rw [List.length_set, List.length_set]; exact q.len, fun j e z => ?_⟩
  rcases set_get z with ⟨rfl, e', hl⟩ | ⟨hj, e'⟩
  · cases e'
    exact ⟨v, by rw [List.getElem?_set_self (by rw [q.len]; exact hl)], h⟩
  · obtain ⟨u, h1, h2⟩ := q.slot j e e'
    exact ⟨u, by rw [List.getElem?_set_ne (Ne.symm hj)]; exact h1, h2⟩
end
def Jd (X : Cx) (W : XW) {β τ : Type} [Dn β τ] (P : (St → Hp → (τ → Hp → Prop) → Prop) → Prop) (f : Rho → Sto → R β) : Prop :=
  ∃ t, P t ∧ ∀ α ρ S σ H Q, Wd X.g α S H → Slots X.K α H ρ σ → Post X.g W α H (f ρ S) Q → t σ H Q
abbrev PEm (X : Cx) (W : XW) (e : Expr) (f : Rho → Sto → R Er) : Prop := Jd X W (PE X e) f
abbrev PTm (X : Cx) (W : XW) (e : Expr) (f : Rho → Sto → R Bool) : Prop := Jd X W (PT X e) f
abbrev PWm (X : Cx) (W : XW) (e : Expr) (f : Rho → Sto → R Bool) : Prop := Jd X W (PW X e) f
abbrev PAm (X : Cx) (W : XW) (es : List Expr) (f : Rho → Sto → R (List Er)) : Prop := Jd X W (PA X es) f
abbrev POm (X : Cx) (W : XW) (e : Option Expr) (f : Rho → Sto → R (Option Int)) : Prop := Jd X W (PO X e) f
section
variable {X : Cx} {W : XW} {a b c e : Expr} {es : List Expr} {f g h : Rho → Sto → R Er} {tf tg : Rho → Sto → R Bool} {af : Rho → Sto → R (List Er)} {pos : Pos}
def rdSl : Option (Option MV) → Sto → R Er
  | some (some d), S => .ok (.val d) S
  | _, _ => .no
theorem pm_var (i : Nat) {x : Str} (hN : X.N[i]? = some x := by rfl) (hv : Vis X.env.scope x := by first | exact Or.inl rfl | exact Or.inr (Or.inl rfl) | exact Or.inr (Or.inr rfl)) (hd : (x == ("__debug__" : Str)) = false := by decide)
    (hcd : (x == ("__classdict__" : Str)) = false := by decide) : PEm X W (.Name x pos) (fun ρ S => rdSl (ρ[i]?) S) := by
  refine ⟨_, pv i hN hv hd hcd, fun α ρ S σ H Q wd sl q => ?_⟩
  dsimp only at q
  cases z : ρ[i]? with
  | none => rw [z] at q; exact q.elim
  | some o =>
    cases o with
    | none => rw [z] at q; exact q.elim
    | some d =>
      rw [z] at q
      obtain ⟨v, h1, h2⟩ := sl.slot i d z
      exact ⟨v, h1, Post.val q wd h2⟩
theorem pm_int {i : Int} {j : Nat} : PEm X W (.Constant (.int i) j pos) (fun _ S => .ok (.val (.int i)) S) := ⟨_, pe_int, fun α ρ S σ H Q wd sl q => Post.val q wd (den_int i)⟩
theorem pm_bl {i : Bool} {j : Nat} : PEm X W (.Constant (.bool i) j pos) (fun _ S => .ok (.val (.bl i)) S) := ⟨_, pe_bl, fun α ρ S σ H Q wd sl q => Post.val q wd (den_bl i)⟩
theorem pm_str {x : Str} {j : Nat} (cs : List Nat) (hx : x = mkS cs := by rfl) : PEm X W (.Constant (.str x) j pos) (fun _ S => .ok (.val (.str cs)) S) :=
  ⟨_, pe_str, fun α ρ S σ H Q wd sl q => Post.val q wd (by rw [hx]; exact den_str cs)⟩
theorem pm_gint {x : Str} {i : Int} {t : Tok} (hg : Gl X x) (hm : X.mg x = some (.int i t)) (hd : (x == ("__debug__" : Str)) = false := by decide) : PEm X W (.Name x pos) (fun _ S => .ok (.val (.int i)) S) :=
  ⟨_, pe_glob (v := .int i) hg hm ⟨t, rfl⟩ hd, fun α ρ S σ H Q wd sl q => Post.val q wd (den_int i)⟩
theorem pm_ty {x : Str} {T : String} (hg : Gl X x) (hm : X.mg x = none) (hv : bootBuiltins x = some (.type T)) (hn : x ≠ "__name__" := by decide) (hd : (x == ("__debug__" : Str)) = false := by decide) : PEm X W (.Name x pos) (fun _ S => .ok (.val (.typ T)) S) :=
  ⟨_, pe_bltn (v := .ty T) hg hm hv rfl hn hd, fun α ρ S σ H Q wd sl q => Post.val q wd (den_typ T)⟩
def Op2 (X : Cx) (W : XW) (r : R2) (F : Er → Er → Sto → R Er) : Prop := ∀ p q x y α S H Q, Wd X.g α S H → DenX X.K α H p x → DenX X.K α H q y → Post X.g W α H (F p q S) Q → r x y H Q
theorem two {r : R2} {F : Er → Er → Sto → R Er} (hF : Op2 X W r F) {ta tb : TE} (fa : ∀ α ρ S σ H Q, Wd X.g α S H → Slots X.K α H ρ σ → Post X.g W α H (f ρ S) Q → ta σ H Q)
    (fb : ∀ α ρ S σ H Q, Wd X.g α S H → Slots X.K α H ρ σ → Post X.g W α H (g ρ S) Q → tb σ H Q) {α : List Addr} {ρ : Rho} {S : Sto} {σ : St} {H : Hp} {Q : VK} (wd : Wd X.g α S H) (sl : Slots X.K α H ρ σ)
    (q : Post X.g W α H ((f ρ S).bind fun p S1 => (g ρ S1).bind fun q S2 => F p q S2) Q) : ta σ H fun x H1 => tb σ H1 fun y H2 => r x y H2 Q :=
  fa α ρ S σ H _ wd sl (q.bind fun u p S1 α1 H1 e1 x1 w1 d1 q1 => fb α1 ρ S1 σ H1 _ w1 (sl.ext x1) ((q1.shift x1).bind fun u2 p2 S2 α2 H2 e2 x2 w2 d2 q2 =>
    hF p p2 u u2 α2 S2 H2 Q w2 (d1.1.ext x2) d2.1 (q2.shift x2)))
theorem pm_op {op : Operator} {r : R2} {F : Er → Er → Sto → R Er} (ho : OpR X (binaryOp op) r) (hF : Op2 X W r F) (ha : PEm X W a f) (hb : PEm X W b g) : PEm X W (.BinOp a op b pos) (fun ρ S => (f ρ S).bind fun p S1 => (g ρ S1).bind fun q S2 => F p q S2) := by
  obtain ⟨ta, ha, fa⟩ := ha
  obtain ⟨tb, hb, fb⟩ := hb
  exact ⟨_, pe_op ho ha hb, fun α ρ S σ H Q wd sl q => two hF fa fb wd sl q⟩
theorem pm_cmp {op : CmpOp} {r : R2} {F : Er → Er → Sto → R Er} (ho : OpR X (compareOp op) r) (hF : Op2 X W r F) (ha : PEm X W a f) (hb : PEm X W b g) (hm : behindInMarks op b = false := by first | exact nomark _ | with_unfolding_all rfl) :
    PEm X W (.Compare a [op] [b] pos) (fun ρ S => (f ρ S).bind fun p S1 => (g ρ S1).bind fun q S2 => F p q S2) := by
  obtain ⟨ta, ha, fa⟩ := ha
  obtain ⟨tb, hb, fb⟩ := hb
  exact ⟨_, pe_cmpR ho ha hb hm, fun α ρ S σ H Q wd sl q => two hF fa fb wd sl q⟩
theorem pm_ix {r : R2} {F : Er → Er → Sto → R Er} (ho : IxR X r) (hF : Op2 X W r F) (ha : PEm X W a f) (hb : PEm X W b g) (hs : PlainIx b := by exact fun _ _ => rfl) :
    PEm X W (.Subscript a b pos) (fun ρ S => (f ρ S).bind fun p S1 => (g ρ S1).bind fun q S2 => F p q S2) := by
  obtain ⟨ta, ha, fa⟩ := ha
  obtain ⟨tb, hb, fb⟩ := hb
  exact ⟨_, pe_ix ho ha hb hs, fun α ρ S σ H Q wd sl q => two hF fa fb wd sl q⟩
def asB : Er → Sto → R Bool
  | .val (.bl b), S => .ok b S
  | _, _ => .no
theorem asB_post {p : Er} {S : Sto} {α : List Addr} {H : Hp} {Q : Bool → Hp → Prop} (q : Post X.g W α H (asB p S) Q) : ∃ k, p = .val (.bl k) ∧ Post X.g W α H (.ok k S) Q := by
  unfold asB at q
  split at q
  · exact ⟨_, rfl, q⟩
  · exact q.elim
theorem asB_bind {β τ : Type} [Dn β τ] {p : Er} {S : Sto} {α : List Addr} {H : Hp} {k : Bool → Sto → R β} {Q : τ → Hp → Prop} (q : Post X.g W α H ((asB p S).bind k) Q) : ∃ c, p = .val (.bl c) ∧ Post X.g W α H (k c S) Q := by
  unfold asB at q
  split at q
  · exact ⟨_, rfl, q⟩
  · exact q.elim
theorem tm_cmp {op : CmpOp} {r : R2} {F : Er → Er → Sto → R Er} (ho : OpR X (compareOp op) r) (hF : Op2 X W r F) (ha : PEm X W a f) (hb : PEm X W b g) (hm : behindInMarks op b = false := by first | exact nomark _ | with_unfolding_all rfl) :
    PTm X W (.Compare a [op] [b] pos) (fun ρ S => ((f ρ S).bind fun p S1 => (g ρ S1).bind fun q S2 => F p q S2).bind asB) := by
  obtain ⟨ta, ha, fa⟩ := ha
  obtain ⟨tb, hb, fb⟩ := hb
  refine ⟨_, pt_cmpR ho ha hb hm, fun α ρ S σ H Q wd sl q => ?_⟩
  refine two hF fa fb wd sl (Q := fun x H' => ∃ k, x = .bl k ∧ Q k H') (q.bind fun u p S1 α1 H1 e1 x1 w1 d1 q1 => ?_)
  obtain ⟨k, rfl, q2⟩ := asB_post (q1.shift x1)
  exact ⟨k, xe_bl d1.1, q2.here w1 rfl⟩
def chF (F G : Er → Er → Sto → R Er) (p q : Er) (S : Sto) (k : Sto → R Er) : R Er := (F p q S).bind fun z S1 => (asB z S1).bind fun c S2 => if c = true then (k S2).bind fun r S3 => G q r S3 else .ok (.val (.bl false)) S2
theorem chain {r r' : R2} {F G : Er → Er → Sto → R Er} (hF : Op2 X W r F) (hG : Op2 X W r' G) {ta tb tc : TE} (fa : ∀ α ρ S σ H Q, Wd X.g α S H → Slots X.K α H ρ σ → Post X.g W α H (f ρ S) Q → ta σ H Q)
    (fb : ∀ α ρ S σ H Q, Wd X.g α S H → Slots X.K α H ρ σ → Post X.g W α H (g ρ S) Q → tb σ H Q) (fc : ∀ α ρ S σ H Q, Wd X.g α S H → Slots X.K α H ρ σ → Post X.g W α H (h ρ S) Q → tc σ H Q) {α : List Addr} {ρ : Rho} {S : Sto} {σ : St} {H : Hp} {Q : VK} (wd : Wd X.g α S H) (sl : Slots X.K α H ρ σ)
    (q : Post X.g W α H ((f ρ S).bind fun p S1 => (g ρ S1).bind fun q S2 => chF F G p q S2 fun S3 => h ρ S3) Q) : tChain r r' ta tb tc σ H Q :=
  fa α ρ S σ H _ wd sl (q.bind fun u p S1 α1 H1 e1 x1 w1 d1 q1 => fb α1 ρ S1 σ H1 _ w1 (sl.ext x1) ((q1.shift x1).bind fun u2 p2 S2 α2 H2 e2 x2 w2 d2 q2 => by
    refine hF p p2 u u2 α2 S2 H2 _ w2 (d1.1.ext x2) d2.1 (Post.bind (q2.shift x2) fun u3 p3 S3 α3 H3 e3 x3 w3 d3 q3 => ?_)
    obtain ⟨k, rfl, q4⟩ := asB_bind (q3.shift x3)
    refine ⟨k, xe_bl d3.1, ?_⟩
    cases k with
    | true =>
      rw [if_pos rfl] at q4 ⊢
      exact fc α3 ρ S3 σ H3 _ w3 (((sl.ext x1).ext x2).ext x3) (q4.bind fun u5 p5 S5 α5 H5 e5 x5 w5 d5 q5 => hG p2 p5 u2 u5 α5 S5 H5 Q w5 ((d2.1.ext x3).ext x5) d5.1 (q5.shift x5))
    | false =>
      rw [if_neg Bool.false_ne_true] at q4 ⊢
      exact Post.val q4 w3 (den_bl false)))
theorem pm_chain {op op' : CmpOp} {r r' : R2} {F G : Er → Er → Sto → R Er} (ho : OpR X (compareOp op) r) (ho' : OpR X (compareOp op') r') (hF : Op2 X W r F) (hG : Op2 X W r' G) (ha : PEm X W a f) (hb : PEm X W b g) (hc : PEm X W c h)
    (hm : lastMarks [op, op'] [b, c] = false := by with_unfolding_all rfl) :
    PEm X W (.Compare a [op, op'] [b, c] pos) (fun ρ S => (f ρ S).bind fun p S1 => (g ρ S1).bind fun q S2 => chF F G p q S2 fun S3 => h ρ S3) := by
  obtain ⟨ta, ha, fa⟩ := ha
  obtain ⟨tb, hb, fb⟩ := hb
  obtain ⟨tc, hc, fc⟩ := hc
  exact ⟨_, pe_chain ho ho' ha hb hc hm, fun α ρ S σ H Q wd sl q => chain hF hG fa fb fc wd sl q⟩
theorem tm_chain {op op' : CmpOp} {r r' : R2} {F G : Er → Er → Sto → R Er} (ho : OpR X (compareOp op) r) (ho' : OpR X (compareOp op') r') (hF : Op2 X W r F) (hG : Op2 X W r' G) (ha : PEm X W a f) (hb : PEm X W b g) (hc : PEm X W c h)
    (hm : lastMarks [op, op'] [b, c] = false := by with_unfolding_all rfl) :
    PTm X W (.Compare a [op, op'] [b, c] pos) (fun ρ S => ((f ρ S).bind fun p S1 => (g ρ S1).bind fun q S2 => chF F G p q S2 fun S3 => h ρ S3).bind asB) := by
  obtain ⟨ta, ha, fa⟩ := ha
  obtain ⟨tb, hb, fb⟩ := hb
  obtain ⟨tc, hc, fc⟩ := hc
  refine ⟨_, pt_chain ho ho' ha hb hc hm, fun α ρ S σ H Q wd sl q => ?_⟩
  refine chain hF hG fa fb fc wd sl (Q := fun x H' => ∃ k, x = .bl k ∧ Q k H') (q.bind fun u p S1 α1 H1 e1 x1 w1 d1 q1 => ?_)
  obtain ⟨k, rfl, q2⟩ := asB_post (q1.shift x1)
  exact ⟨k, xe_bl d1.1, q2.here w1 rfl⟩
def truF : Er → Sto → R Bool
  | .val .non, S => .ok false S
  | .val (.bl b), S => .ok b S
  | .val (.int i), S => .ok (i != 0) S
  | .val (.str x), S => if x.length ≤ sizeLine then .ok (!x.isEmpty) S else .no
  | .val (.tup ds), S => .ok (!ds.isEmpty) S
  | .val (.scr ds), S => .ok (!ds.isEmpty) S
  | .val (.loc l), S => match S[l]? with
    | some (.lst ds) => .ok (!ds.isEmpty) S
    | _ => .no
  | .val (.typ _), _ => .no
  | .new ds, S => .ok (!ds.isEmpty) S
theorem empty_len {ds : List MV} {vs : List V} {K : PySem.W.Frag} {α : List Addr} {H : Hp} (l : DenL K α H ds vs) : (!vs.isEmpty) = !ds.isEmpty := by
  have := l.length
  cases ds <;> cases vs <;> simp_all
theorem tru_post {p : Er} {x : V} {S : Sto} {α : List Addr} {H : Hp} {Q : Bool → Hp → Prop} (wd : Wd X.g α S H) (d : DenX X.K α H p x) (q : Post X.g W α H (truF p S) Q) : ∃ k, TruV X.K x H k ∧ Q k H := by
  match p, d, q with
  | .val .non, d, q => cases xe_non d; exact ⟨_, rfl, q.here wd rfl⟩
  | .val (.bl b), d, q => cases xe_bl d; exact ⟨_, rfl, q.here wd rfl⟩
  | .val (.int i), d, q => cases xe_int d; exact ⟨_, rfl, q.here wd rfl⟩
  | .val (.typ n), d, q => exact q.elim
  | .val (.str z), d, q =>
    cases xe_str d
    have q' : Post X.g W α H (if z.length ≤ sizeLine then R.ok (!z.isEmpty) S else R.no) Q := q
    split at q'
    · rename_i hz
      refine ⟨_, ⟨by rw [mkS_len]; exact hz, ?_⟩, q'.here wd rfl⟩
      rw [mkS_len]
      cases z with
      | nil => rfl
      | cons c r =>
        have h0 : ((r.length : Int) + 1) ≠ 0 := by omega
        simp [h0]
    · exact q'.elim
  | .val (.tup ds), d, q =>
    obtain ⟨a, vs, rfl, s, l⟩ := xe_tup d
    exact ⟨_, .inr (.inl ⟨vs, s, (empty_len l).symm⟩), q.here wd rfl⟩
  | .val (.scr ds), d, q =>
    obtain ⟨a, vs, rfl, s, l⟩ := xe_scr d
    exact ⟨_, .inl ⟨vs, s.l, (empty_len l).symm⟩, q.here wd rfl⟩
  | .val (.loc n), d, q =>
    obtain ⟨a, rfl, h⟩ := xe_loc d
    obtain ⟨o, h1, h2⟩ := wd.of h
    have q' : Post X.g W α H (match S[n]? with | some (.lst ds) => R.ok (!ds.isEmpty) S | _ => R.no) Q := q
    rw [h1] at q'
    cases o with
    | lst ds =>
      obtain ⟨vs, h3, l⟩ := h2
      exact ⟨_, .inl ⟨vs, .of h3, (empty_len l).symm⟩, q'.here wd rfl⟩
    | dic ds => exact q'.elim
    | ins c fs => exact q'.elim
  | .new ds, ⟨a, vs, ex, s, n, l⟩, q => subst ex; exact ⟨_, .inl ⟨vs, .of s, (empty_len l).symm⟩, q.here wd rfl⟩
theorem tm_plain (ha : PEm X W a f) (he : ∀ whole, isTrue a X.env whole = (do let v ← whole; standAt a.pos; holding [v] (truthy v)) := by intro _; rfl) : PTm X W a (fun ρ S => (f ρ S).bind truF) := by
  obtain ⟨ta, ha, fa⟩ := ha
  exact ⟨_, pt_truth ha he, fun α ρ S σ H Q wd sl q => fa α ρ S σ H _ wd sl (q.bind fun u p S1 α1 H1 e1 x1 w1 d1 q1 => tru_post w1 d1.1 (q1.shift x1))⟩
end
end M
end L2
namespace L2
namespace M
open PySem PySem.Spec PyProof.Rows
section
variable {X : Cx} {W : XW} {a b c e : Expr} {es : List Expr} {f g h : Rho → Sto → R Er} {tf tg : Rho → Sto → R Bool} {af : Rho → Sto → R (List Er)} {pos : Pos}
def andF (p : Er) (S : Sto) (k : Sto → R Er) : R Er := (asB p S).bind fun c S1 => if c = true then k S1 else .ok (.val (.bl false)) S1
theorem pm_one {op} (ha : PEm X W a f) : PEm X W (.BoolOp op [a] pos) f := let ⟨t, h, k⟩ := ha; ⟨t, pe_one h, k⟩
theorem pm_and (ha : PEm X W a f) (hb : PEm X W (.BoolOp .And (b :: es) pos) g) : PEm X W (.BoolOp .And (a :: b :: es) pos) (fun ρ S => (f ρ S).bind fun p S1 => andF p S1 fun S2 => g ρ S2) := by
  obtain ⟨ta, ha, fa⟩ := ha
  obtain ⟨tb, hb, fb⟩ := hb
  refine ⟨_, pe_and ha hb, fun α ρ S σ H Q wd sl q => fa α ρ S σ H _ wd sl (q.bind fun u p S1 α1 H1 e1 x1 w1 d1 q1 => ?_)⟩
  obtain ⟨k, rfl, q2⟩ := asB_bind (q1.shift x1)
  refine ⟨k, xe_bl d1.1, ?_⟩
  cases k with
  | true => rw [if_pos rfl] at q2 ⊢; exact fb α1 ρ S1 σ H1 _ w1 (sl.ext x1) q2
  | false => rw [if_neg Bool.false_ne_true] at q2 ⊢; exact Post.val q2 w1 (den_bl false)
theorem pm_not (ha : PEm X W a f) : PEm X W (.UnaryOp .Not a pos) (fun ρ S => (f ρ S).bind fun p S1 => (asB p S1).bind fun k S2 => .ok (.val (.bl !k)) S2) := by
  obtain ⟨ta, ha, fa⟩ := ha
  refine ⟨_, pe_not ha, fun α ρ S σ H Q wd sl q => fa α ρ S σ H _ wd sl (q.bind fun u p S1 α1 H1 e1 x1 w1 d1 q1 => ?_)⟩
  obtain ⟨k, rfl, q2⟩ := asB_bind (q1.shift x1)
  exact ⟨k, xe_bl d1.1, Post.val q2 w1 (den_bl _)⟩
theorem wm_and1 (ha : PTm X W a tf) : PWm X W (.BoolOp .And [a] pos) tf := let ⟨t, h, k⟩ := ha; ⟨t, pw_and1 h, k⟩
theorem wm_or1 (ha : PTm X W a tf) : PWm X W (.BoolOp .Or [a] pos) tf := let ⟨t, h, k⟩ := ha; ⟨t, pw_or1 h, k⟩
theorem wm_and (ha : PTm X W a tf) (hb : PWm X W (.BoolOp .And (b :: es) pos) tg) : PWm X W (.BoolOp .And (a :: b :: es) pos) (fun ρ S => (tf ρ S).bind fun k S1 => if k = true then tg ρ S1 else .ok false S1) := by
  obtain ⟨ta, ha, fa⟩ := ha
  obtain ⟨tb, hb, fb⟩ := hb
  refine ⟨_, pw_and ha hb, fun α ρ S σ H Q wd sl q => fa α ρ S σ H _ wd sl (q.bind fun u p S1 α1 H1 e1 x1 w1 d1 q1 => ?_)⟩
  cases d1
  cases u with
  | true => rw [if_pos rfl] at q1 ⊢; exact fb α1 ρ S1 σ H1 _ w1 (sl.ext x1) (q1.shift x1)
  | false => rw [if_neg Bool.false_ne_true] at q1 ⊢; exact (q1.shift x1).here w1 rfl
theorem wm_or (ha : PTm X W a tf) (hb : PWm X W (.BoolOp .Or (b :: es) pos) tg) : PWm X W (.BoolOp .Or (a :: b :: es) pos) (fun ρ S => (tf ρ S).bind fun k S1 => if k = true then .ok true S1 else tg ρ S1) := by
  obtain ⟨ta, ha, fa⟩ := ha
  obtain ⟨tb, hb, fb⟩ := hb
  refine ⟨_, pw_or ha hb, fun α ρ S σ H Q wd sl q => fa α ρ S σ H _ wd sl (q.bind fun u p S1 α1 H1 e1 x1 w1 d1 q1 => ?_)⟩
  cases d1
  cases u with
  | true => rw [if_pos rfl] at q1 ⊢; exact (q1.shift x1).here w1 rfl
  | false => rw [if_neg Bool.false_ne_true] at q1 ⊢; exact fb α1 ρ S1 σ H1 _ w1 (sl.ext x1) (q1.shift x1)
theorem wm_pt (h : PWm X W a tf) : PTm X W a tf := let ⟨t, h, k⟩ := h; ⟨t, h.pt, k⟩
theorem tm_not (ha : PTm X W a tf) : PTm X W (.UnaryOp .Not a pos) (fun ρ S => (tf ρ S).bind fun k S1 => .ok (!k) S1) := by
  obtain ⟨ta, ha, fa⟩ := ha
  refine ⟨_, pt_not ha, fun α ρ S σ H Q wd sl q => fa α ρ S σ H _ wd sl (q.bind fun u p S1 α1 H1 e1 x1 w1 d1 q1 => ?_)⟩
  cases d1
  exact (q1.shift x1).here w1 rfl
end
section
variable {K : PySem.W.Frag} {H0 : Hp}
def enterA : List Er → Sto → List MV × Sto
  | [], S => ([], S)
  | .val d :: rs, S => ((d :: (enterA rs S).1), (enterA rs S).2)
  | .new xs :: rs, S => ((.loc S.length :: (enterA rs (S ++ [.lst xs])).1), (enterA rs (S ++ [.lst xs])).2)
theorem ArgsE.grow {H0 : Hp} {α : List Addr} {H : Hp} {b : Addr} {rs : List Er} {vs : List V} (q : ArgsE K H0 α H rs vs) (n : b ∉ newsA rs vs) : ArgsE K H0 (α ++ [b]) H rs vs := by
  induction q with
  | nil => exact .nil
  | @cons r v rs vs a m l ih =>
    cases r with
    | val d => exact .cons ⟨Den.ex0 (Ex0.grow α [b] H) a.1, trivial⟩ m (ih (by simpa [newsA] using n))
    | new ds =>
      obtain ⟨⟨c, us, rfl, h1, h2, h3⟩, h4⟩ := a
      have n' : b ∉ c :: newsA rs vs := n
      refine .cons ⟨⟨c, us, rfl, h1, fun z => ?_, h3.ex0 (Ex0.grow α [b] H)⟩, h4⟩ m (ih fun z => n' (List.mem_cons_of_mem _ z))
      rcases List.mem_append.mp z with z | z
      · exact h2 z
      · exact n' (by rw [List.mem_singleton.mp z]; exact List.mem_cons_self)
theorem enter_ok {g : Gm} {H0 : Hp} {α0 : List Addr} {H : Hp} : ∀ {rs : List Er} {vs : List V} {α : List Addr} {S : Sto}, Wd g α S H → Ext α0 H0 α H → ArgsE g.K H0 α H rs vs →
    ∃ α', Ext α0 H0 α' H ∧ Ex0 α H α' H ∧ Wd g α' (enterA rs S).2 H ∧ DenL g.K α' H (enterA rs S).1 vs
  | _, _, α, S, w, x, .nil => ⟨α, x, ⟨⟨[], by simp⟩, fun _ _ h => h, fun _ _ _ h => h⟩, w, denl_nil⟩
  | .val d :: rs, v :: vs, α, S, w, x, .cons a n l => by
    obtain ⟨α', x', y', w', l'⟩ := enter_ok w x l
    exact ⟨α', x', y', w', denl_cons (Den.ex0 y' a.1) l'⟩
  | .new ds :: rs, v :: vs, α, S, w, x, .cons a n l => by
    obtain ⟨⟨c, us, rfl, h1, h2, h3⟩, h4⟩ := a
    obtain ⟨α', x', y', w', l'⟩ := enter_ok (w.enter h1 h2 h3) (w.enterx x (h4 c rfl) h2) (l.grow (n ds c rfl rfl))
    refine ⟨α', x', ⟨?_, y'.tup, y'.frz⟩, w', denl_cons (den_loc (y'.at ?_)) l'⟩
    · obtain ⟨t, e⟩ := y'.pre
      exact ⟨[c] ++ t, by rw [e, List.append_assoc]⟩
    · rw [← w.len, List.getElem?_append_right (Nat.le_refl _), Nat.sub_self]; rfl
theorem enter_len : ∀ (rs : List Er) (S : Sto), (enterA rs S).1.length = rs.length
  | [], S => rfl
  | .val d :: rs, S => by show (d :: (enterA rs S).1).length = _; rw [List.length_cons, enter_len rs S]; rfl
  | .new ds :: rs, S => by show (_ :: (enterA rs _).1).length = _; rw [List.length_cons, enter_len rs _]; rfl
end
section
variable {X : Cx} {W : XW} {a b c e : Expr} {es : List Expr} {f g h : Rho → Sto → R Er} {tf tg : Rho → Sto → R Bool} {af : Rho → Sto → R (List Er)} {pos : Pos}
theorem am_nil : PAm X W [] (fun _ S => .ok [] S) := ⟨_, pa_nil, fun α ρ S σ H Q wd sl q => q.here wd .nil⟩
theorem am_cons (ha : PEm X W a f) (hr : PAm X W es af) (hs : starEach (a :: es) X.env = (false, eval a X.env) :: starEach es X.env := by rfl) : PAm X W (a :: es) (fun ρ S => (f ρ S).bind fun p S1 => (af ρ S1).bind fun ps S2 => .ok (p :: ps) S2) := by
  obtain ⟨ta, ha, fa⟩ := ha
  obtain ⟨tr, hr, fr⟩ := hr
  refine ⟨_, pa_cons ha hr hs, fun α ρ S σ H Q wd sl q => fa α ρ S σ H _ wd sl (q.bind fun u p S1 α1 H1 e1 x1 w1 d1 q1 => fr α1 ρ S1 σ H1 _ w1 (sl.ext x1) ?_)⟩
  have q1' : Post X.g W α H ((af ρ S1).bind fun ps S2 => .ok (p :: ps) S2) Q := q1
  cases z : af ρ S1 with
  | ok ps S2 =>
    rw [z] at q1'
    intro vs α2 H2 x2 w2 d2
    refine q1' (u :: vs) α2 H2 (x1.trans x2) w2 (ArgsE.cons (DenE.ext x2 d1) (fun ds b er eu hb => ?_) (ArgsE.back (fun b h => x1.free h) d2))
    subst er eu
    obtain ⟨⟨c, us, ec, h1, _⟩, _⟩ := d1
    cases ec
    have := ArgsE.nones d2 _ hb
    rw [h1] at this; cases this
  | exc c fs S2 => rw [z] at q1'; exact fun α2 H2 x2 w2 => q1' α2 H2 (x1.trans x2) w2
  | no => rw [z] at q1'; exact q1'
def tupF (rs : List Er) (S : Sto) : R Er := if rs.length ≤ sizeLine then .ok (.val (.tup (enterA rs S).1)) (enterA rs S).2 else .no
def lstF (rs : List Er) (S : Sto) : R Er := if rs.length ≤ sizeLine then .ok (.new (enterA rs S).1) (enterA rs S).2 else .no
theorem pm_tup {x1} (h : PAm X W es af) : PEm X W (.Tuple es x1 pos) (fun ρ S => (af ρ S).bind tupF) := by
  obtain ⟨t, h, k⟩ := h
  refine ⟨_, pe_tup h, fun α ρ S σ H Q wd sl q => k α ρ S σ H _ wd sl (q.bind fun vs rs S1 α1 H1 e1 x1 w1 d1 q1 => ?_)⟩
  have q1' : Post X.g W α H (if rs.length ≤ sizeLine then R.ok (Er.val (.tup (enterA rs S1).1)) (enterA rs S1).2 else R.no) Q := q1
  split at q1'
  · rename_i hz
    obtain ⟨α2, x2, y2, w2, l2⟩ := enter_ok w1 x1 d1
    exact ⟨by rw [ArgsE.length d1]; exact hz, fun p hp => (q1'.shift x2).newt w2 hp l2⟩
  · exact q1'.elim
theorem pm_lst (h : PAm X W es af) : PEm X W (.List es pos) (fun ρ S => (af ρ S).bind lstF) := by
  obtain ⟨t, h, k⟩ := h
  refine ⟨_, pe_lst h, fun α ρ S σ H Q wd sl q => k α ρ S σ H _ wd sl (q.bind fun vs rs S1 α1 H1 e1 x1 w1 d1 q1 => ?_)⟩
  have q1' : Post X.g W α H (if rs.length ≤ sizeLine then R.ok (Er.new (enterA rs S1).1) (enterA rs S1).2 else R.no) Q := q1
  split at q1'
  · rename_i hz
    obtain ⟨α2, x2, y2, w2, l2⟩ := enter_ok w1 x1 d1
    exact ⟨by rw [ArgsE.length d1]; exact hz, fun p hp => (q1'.shift x2).newl w2 hp l2⟩
  · exact q1'.elim
inductive ArgsX (K : PySem.W.Frag) (α : List Addr) (H : Hp) : List Er → List V → Prop
  | nil : ArgsX K α H [] []
  | cons {r v rs vs} : DenX K α H r v → ArgsX K α H rs vs → ArgsX K α H (r :: rs) (v :: vs)
theorem ArgsE.x {K : PySem.W.Frag} {H0 : Hp} {α : List Addr} {H : Hp} : ∀ {rs vs}, ArgsE K H0 α H rs vs → ArgsX K α H rs vs
  | _, _, .nil => .nil
  | _, _, .cons a _ l => .cons a.1 (ArgsE.x l)
def CallM (X : Cx) (W : XW) (r : List V → Hp → VK → Prop) (F : List Er → Sto → R Er) : Prop := ∀ rs vs α S H Q, Wd X.g α S H → ArgsX X.K α H rs vs → Post X.g W α H (F rs S) Q → r vs H Q
theorem pm_callB {id : String} {r : List V → Hp → VK → Prop} {F : List Er → Sto → R Er} {x : Str} {p : Pos} (hc : CallR X (.builtin id) r) (hF : CallM X W r F) (hg : Gl X x) (hm : X.mg x = none) (hv : bootBuiltins x = some (.builtin id)) (ha : PAm X W (e :: es) af)
    (hn : x ≠ "__name__" := by decide) (hdb : (x == ("__debug__" : Str)) = false := by decide)
    (he : starEach (e :: es) X.env = (false, eval e X.env) :: starEach es X.env := by rfl) (hpl : (backTo pos (starEach es X.env)).any (·.1) = false := by rfl) : PEm X W (.Call (.Name x p) (e :: es) [] pos) (fun ρ S => (af ρ S).bind F) := by
  obtain ⟨t, ha, k⟩ := ha
  exact ⟨_, pe_callB hc hg hm hv ha hn hdb he hpl, fun α ρ S σ H Q wd sl q => k α ρ S σ H _ wd sl (q.bind fun vs rs S1 α1 H1 e1 x1 w1 d1 q1 => hF rs vs α1 S1 H1 Q w1 (ArgsE.x d1) (q1.shift x1))⟩
theorem pm_callTy {T : String} {r : List V → Hp → VK → Prop} {F : List Er → Sto → R Er} {x : Str} {p : Pos} (hc : CallR X (.type T) r) (hF : CallM X W r F) (hg : Gl X x) (hm : X.mg x = none) (hv : bootBuiltins x = some (.type T)) (ha : PAm X W (e :: es) af)
    (hn : x ≠ "__name__" := by decide) (hdb : (x == ("__debug__" : Str)) = false := by decide)
    (he : starEach (e :: es) X.env = (false, eval e X.env) :: starEach es X.env := by rfl) (hpl : (backTo pos (starEach es X.env)).any (·.1) = false := by rfl) : PEm X W (.Call (.Name x p) (e :: es) [] pos) (fun ρ S => (af ρ S).bind F) := by
  obtain ⟨t, ha, k⟩ := ha
  exact ⟨_, pe_callTy hc hg hm hv ha hn hdb he hpl, fun α ρ S σ H Q wd sl q => k α ρ S σ H _ wd sl (q.bind fun vs rs S1 α1 H1 e1 x1 w1 d1 q1 => hF rs vs α1 S1 H1 Q w1 (ArgsE.x d1) (q1.shift x1))⟩
def MtdM (X : Cx) (W : XW) (r : V → List V → Hp → VK → Prop) (F : Er → List Er → Sto → R Er) : Prop := ∀ p rs x vs α S H0 H Q α0, Wd X.g α S H → Ext α0 H0 α H → DenX X.K α H p x → ArgsE X.K H0 α H rs vs → Post X.g W α0 H0 (F p rs S) Q → r x vs H Q
def TyM (X : Cx) (T : String) (ty : Er → Sto → Bool) : Prop := ∀ p x α S H, Wd X.g α S H → DenX X.K α H p x → ty p S = true → tyV X.K T x H
theorem pm_meth {T : String} {name : Str} {id : String} {r : V → List V → Hp → VK → Prop} {F : Er → List Er → Sto → R Er} {ty : Er → Sto → Bool} {apos : Pos} (pa : PlainAttrs T) (slot : Slot T name id) (hty : typeOf (.builtin id) = pure (.type "method_descriptor")) (hm : MtR X id r) (hF : MtdM X W r F) (hT : TyM X T ty)
    (ho : PEm X W a f) (ha : PAm X W (e :: es) af)
    (hbase : attributeBase a name X.env (eval a X.env) = eval a X.env := by rfl)
    (hfew : ((backTo pos (starEach (e :: es) X.env)).all (fun x => !x.1) && (backToKw pos (keywordEach [] X.env)).all (fun x => x.1.isSome)
      && decide ((e :: es).length + ([] : List Keyword).length + (if ([] : List Keyword).isEmpty then 0 else 1) < 30)) = true := by rfl)
    (hline : (apos.endLine == pos.line) = true := by rfl) (hs : starEach (e :: es) X.env = (false, eval e X.env) :: starEach es X.env := by rfl) (hplain : (backTo pos (starEach es X.env)).any (·.1) = false := by rfl) :
    PEm X W (.Call (.Attribute a name apos) (e :: es) [] pos) (fun ρ S => (f ρ S).bind fun p S1 => if ty p S1 = true then (af ρ S1).bind fun rs S2 => F p rs S2 else .no) := by
  obtain ⟨to, ho, fo⟩ := ho
  obtain ⟨t, ha, k⟩ := ha
  refine ⟨_, pe_bm pa slot hty hm ho ha hbase hfew hline hs hplain, fun α ρ S σ H Q wd sl q => fo α ρ S σ H _ wd sl (q.bind fun u p S1 α1 H1 e1 x1 w1 d1 q1 => ?_)⟩
  split at q1
  · rename_i hz
    exact ⟨hT p u α1 S1 H1 w1 d1.1 hz, k α1 ρ S1 σ H1 _ w1 (sl.ext x1) ((q1.shift x1).bind fun vs rs S2 α2 H2 e2 x2 w2 d2 q2 => hF p rs u vs α2 S2 H1 H2 Q α1 w2 x2 (d1.1.ext x2) d2 q2)⟩
  · exact q1.elim
theorem pm_meth0 {T : String} {name : Str} {id : String} {r : V → List V → Hp → VK → Prop} {F : Er → List Er → Sto → R Er} {ty : Er → Sto → Bool} {apos : Pos} (pa : PlainAttrs T) (slot : Slot T name id) (hty : typeOf (.builtin id) = pure (.type "method_descriptor")) (hm : MtR X id r) (hF : MtdM X W r F) (hT : TyM X T ty)
    (ho : PEm X W a f) (hbase : attributeBase a name X.env (eval a X.env) = eval a X.env := by rfl) (hline : (apos.endLine == pos.line) = true := by rfl) :
    PEm X W (.Call (.Attribute a name apos) [] [] pos) (fun ρ S => (f ρ S).bind fun p S1 => if ty p S1 = true then F p [] S1 else .no) := by
  obtain ⟨to, ho, fo⟩ := ho
  refine ⟨_, pe_bm0 pa slot hty hm ho hbase hline, fun α ρ S σ H Q wd sl q => fo α ρ S σ H _ wd sl (q.bind fun u p S1 α1 H1 e1 x1 w1 d1 q1 => ?_)⟩
  split at q1
  · rename_i hz
    exact ⟨hT p u α1 S1 H1 w1 d1.1 hz, hF p [] u [] α1 S1 H1 H1 Q α1 w1 (Ext.refl _ _) d1.1 .nil (q1.shift x1)⟩
  · exact q1.elim
theorem om_none : POm X W none (fun _ S => .ok none S) := ⟨_, po_none, fun α ρ S σ H Q wd sl q => q.here wd rfl⟩
def asI : Er → Sto → R (Option Int)
  | .val (.int i), S => .ok (some i) S
  | _, _ => .no
theorem om_some (ha : PEm X W a f) : POm X W (some a) (fun ρ S => (f ρ S).bind asI) := by
  obtain ⟨ta, ha, fa⟩ := ha
  refine ⟨_, po_some ha, fun α ρ S σ H Q wd sl q => fa α ρ S σ H _ wd sl (q.bind fun u p S1 α1 H1 e1 x1 w1 d1 q1 => ?_)⟩
  unfold asI at q1
  split at q1
  · exact ⟨_, xe_int d1.1, (q1.shift x1).here w1 rfl⟩
  · exact q1.elim
def Sl3 (X : Cx) (W : XW) (r : V → Option Int → Option Int → Hp → VK → Prop) (F : Er → Option Int → Option Int → Sto → R Er) : Prop := ∀ p lo hi x α S H Q, Wd X.g α S H → DenX X.K α H p x → Post X.g W α H (F p lo hi S) Q → r x lo hi H Q
theorem pm_slice {lo hi : Option Expr} {r : V → Option Int → Option Int → Hp → VK → Prop} {F : Er → Option Int → Option Int → Sto → R Er} {lf hf : Rho → Sto → R (Option Int)} {p2 : Pos} (hr : SlR X r) (hF : Sl3 X W r F) (ha : PEm X W a f) (hl : POm X W lo lf) (hh : POm X W hi hf) :
    PEm X W (.Subscript a (.Slice lo hi none p2) pos) (fun ρ S => (f ρ S).bind fun p S1 => (lf ρ S1).bind fun l S2 => (hf ρ S2).bind fun u S3 => F p l u S3) := by
  obtain ⟨ta, ha, fa⟩ := ha
  obtain ⟨tl, hl, fl⟩ := hl
  obtain ⟨th, hh, fh⟩ := hh
  refine ⟨_, pe_slice hr ha hl hh, fun α ρ S σ H Q wd sl q => fa α ρ S σ H _ wd sl (q.bind fun u p S1 α1 H1 e1 x1 w1 d1 q1 => fl α1 ρ S1 σ H1 _ w1 (sl.ext x1) ((q1.shift x1).bind fun u2 l S2 α2 H2 e2 x2 w2 d2 q2 =>
    fh α2 ρ S2 σ H2 _ w2 ((sl.ext x1).ext x2) ((q2.shift x2).bind fun u3 m S3 α3 H3 e3 x3 w3 d3 q3 => ?_)))⟩
  cases d2
  cases d3
  exact hF p u2 u3 u α3 S3 H3 Q w3 ((d1.1.ext x2).ext x3) (q3.shift x3)
end
end M
end L2
namespace L2
namespace M
open PySem PySem.Spec PyProof.Rows
inductive Fl where
  | next (ρ : Rho) | ret (r : Er) | brk (ρ : Rho) | cont (ρ : Rho)
def PostS (g : Gm) (W : XW) (α : List Addr) (H : Hp) (D : Ends) : R Fl → Prop
  | .ok (.next ρ) S => ∀ σ α' H', Ext α H α' H' → Wd g α' S H' → Slots g.K α' H' ρ σ → D.nx σ H'
  | .ok (.ret r) S => ∀ v α' H', Ext α H α' H' → Wd g α' S H' → DenE g.K H α' H' r v → D.rt v H'
  | .ok (.brk ρ) S => ∀ σ α' H', Ext α H α' H' → Wd g α' S H' → Slots g.K α' H' ρ σ → D.bk σ H'
  | .ok (.cont ρ) S => ∀ σ α' H', Ext α H α' H' → Wd g α' S H' → Slots g.K α' H' ρ σ → D.ct σ H'
  | .exc c fs S => ∀ α' H', Ext α H α' H' → Wd g α' S H' → W c fs S α' H'
  | .no => False
section
variable {g : Gm} {W : XW} {α α' : List Addr} {H H' : Hp} {D D' : Ends}
theorem PostS.shift (x : Ext α H α' H') : ∀ {m : R Fl}, PostS g W α H D m → PostS g W α' H' D m
  | .ok (.next ρ) S, q => fun σ α2 H2 x2 w2 s2 => q σ α2 H2 (x.trans x2) w2 s2
  | .ok (.ret r) S, q => fun v α2 H2 x2 w2 d2 => q v α2 H2 (x.trans x2) w2 (d2.back fun b h => x.free h)
  | .ok (.brk ρ) S, q => fun σ α2 H2 x2 w2 s2 => q σ α2 H2 (x.trans x2) w2 s2
  | .ok (.cont ρ) S, q => fun σ α2 H2 x2 w2 s2 => q σ α2 H2 (x.trans x2) w2 s2
  | .exc c fs S, q => fun α2 H2 x2 w2 => q α2 H2 (x.trans x2) w2
  | .no, q => q
theorem PostS.expr {β τ : Type} [Dn β τ] {m : R β} {k : β → Sto → R Fl} {Q' : τ → Hp → Prop} (q : PostS g W α H D (m.bind k))
    (f : ∀ u b S1 α1 H1, m = .ok b S1 → Ext α H α1 H1 → Wd g α1 S1 H1 → Dn.d g H α1 S1 H1 b u → PostS g W α H D (k b S1) → Q' u H1) : Post g W α H m Q' := by
  cases m with
  | ok b S => exact fun u α1 H1 x w d => f u b S α1 H1 rfl x w d q
  | exc c fs S => exact q
  | no => exact q
theorem PostS.stmt {m : R Fl} {k : Fl → Sto → R Fl} (q : PostS g W α H D (m.bind k))
    (hn : ∀ ρ S σ α1 H1, m = .ok (.next ρ) S → Ext α H α1 H1 → Wd g α1 S H1 → Slots g.K α1 H1 ρ σ → PostS g W α H D (k (.next ρ) S) → D'.nx σ H1)
    (hr : ∀ r S v α1 H1, m = .ok (.ret r) S → Ext α H α1 H1 → Wd g α1 S H1 → DenE g.K H α1 H1 r v → PostS g W α H D (k (.ret r) S) → D'.rt v H1)
    (hb : ∀ ρ S σ α1 H1, m = .ok (.brk ρ) S → Ext α H α1 H1 → Wd g α1 S H1 → Slots g.K α1 H1 ρ σ → PostS g W α H D (k (.brk ρ) S) → D'.bk σ H1)
    (hc : ∀ ρ S σ α1 H1, m = .ok (.cont ρ) S → Ext α H α1 H1 → Wd g α1 S H1 → Slots g.K α1 H1 ρ σ → PostS g W α H D (k (.cont ρ) S) → D'.ct σ H1) : PostS g W α H D' m := by
  cases m with
  | ok fl S =>
    cases fl with
    | next ρ => exact fun σ α1 H1 x w s => hn ρ S σ α1 H1 rfl x w s q
    | ret r => exact fun v α1 H1 x w d => hr r S v α1 H1 rfl x w d q
    | brk ρ => exact fun σ α1 H1 x w s => hb ρ S σ α1 H1 rfl x w s q
    | cont ρ => exact fun σ α1 H1 x w s => hc ρ S σ α1 H1 rfl x w s q
  | exc c fs S => exact q
  | no => exact q
end
def PSm (X : Cx) (W : XW) (st : Stmt) (F : Rho → Sto → R Fl) : Prop :=
  ∃ t, PS X st t ∧ ∀ α ρ S σ H D, Wd X.g α S H → Slots X.K α H ρ σ → PostS X.g W α H D (F ρ S) → t D σ H
def PSsm (X : Cx) (W : XW) (st : List Stmt) (F : Rho → Sto → R Fl) : Prop :=
  ∃ t, PSs X st t ∧ ∀ α ρ S σ H D, Wd X.g α S H → Slots X.K α H ρ σ → PostS X.g W α H D (F ρ S) → t D σ H
def seqF (F G : Rho → Sto → R Fl) : Rho → Sto → R Fl := fun ρ S => (F ρ S).bind fun fl S1 => match fl with
  | .next ρ' => G ρ' S1
  | .ret r => .ok (.ret r) S1
  | .brk ρ' => .ok (.brk ρ') S1
  | .cont ρ' => .ok (.cont ρ') S1
section
variable {X : Cx} {W : XW} {st : Stmt} {sts as bs : List Stmt} {F G : Rho → Sto → R Fl} {f g : Rho → Sto → R Er} {tf : Rho → Sto → R Bool} {e c : Expr} {pos : Pos}
theorem sm_nil : PSsm X W [] (fun ρ S => .ok (.next ρ) S) := ⟨_, pss_nil, fun α ρ S σ H D wd sl q => q σ α H (Ext.refl α H) wd sl⟩
theorem sm_one (h : PSm X W st F) : PSsm X W [st] F := let ⟨t, h, k⟩ := h; ⟨t, pss_one h, k⟩
theorem sm_cons (h1 : PSm X W st F) (h2 : PSsm X W sts G) : PSsm X W (st :: sts) (seqF F G) := by
  obtain ⟨t, h1, k1⟩ := h1
  obtain ⟨u, h2, k2⟩ := h2
  refine ⟨_, pss_cons h1 h2, fun α ρ S σ H D wd sl q => k1 α ρ S σ H _ wd sl (q.stmt ?_ ?_ ?_ ?_)⟩
  · intro ρ1 S1 σ1 α1 H1 e x1 w1 s1 q1
    exact k2 α1 ρ1 S1 σ1 H1 D w1 s1 (PostS.shift x1 q1)
  · intro r S1 v α1 H1 e x1 w1 d1 q1
    exact q1 v α1 H1 x1 w1 d1
  · intro ρ1 S1 σ1 α1 H1 e x1 w1 s1 q1
    exact q1 σ1 α1 H1 x1 w1 s1
  · intro ρ1 S1 σ1 α1 H1 e x1 w1 s1 q1
    exact q1 σ1 α1 H1 x1 w1 s1
theorem sm_ret (he : PEm X W e f) : PSm X W (.Return (some e) pos) (fun ρ S => (f ρ S).bind fun r S1 => .ok (.ret r) S1) := by
  obtain ⟨t, he, k⟩ := he
  exact ⟨_, ps_ret he, fun α ρ S σ H D wd sl q => k α ρ S σ H _ wd sl (q.expr fun u r S1 α1 H1 e x1 w1 d1 q1 => q1 u α1 H1 x1 w1 d1)⟩
theorem sm_never : PSm X W st (fun _ _ => .no) := ⟨_, ps_never, fun α ρ S σ H D wd sl q => q.elim⟩
theorem sm_expr (he : PEm X W e f) (hs : swapsWith e none pos.line X.env = pure false := by rfl) : PSm X W (.Expr e pos) (fun ρ S => (f ρ S).bind fun _ S1 => .ok (.next ρ) S1) := by
  obtain ⟨t, he, k⟩ := he
  exact ⟨_, ps_expr he hs, fun α ρ S σ H D wd sl q => k α ρ S σ H _ wd sl (q.expr fun u r S1 α1 H1 e x1 w1 d1 q1 => q1 σ α1 H1 x1 w1 (sl.ext x1))⟩
theorem sm_if (hc : PTm X W c tf) (ha : PSsm X W as F) (hb : PSsm X W bs G) : PSm X W (.If c as bs pos) (fun ρ S => (tf ρ S).bind fun k S1 => if k = true then F ρ S1 else G ρ S1) := by
  obtain ⟨tc, hc, kc⟩ := hc
  obtain ⟨ta, ha, ka⟩ := ha
  obtain ⟨tb, hb, kb⟩ := hb
  refine ⟨_, ps_if hc ha hb, fun α ρ S σ H D wd sl q => kc α ρ S σ H _ wd sl (q.expr fun u p S1 α1 H1 e x1 w1 d1 q1 => ?_)⟩
  cases d1
  cases u with
  | true => rw [if_pos rfl] at q1 ⊢; exact ka α1 ρ S1 σ H1 D w1 (sl.ext x1) (PostS.shift x1 q1)
  | false => rw [if_neg Bool.false_ne_true] at q1 ⊢; exact kb α1 ρ S1 σ H1 D w1 (sl.ext x1) (PostS.shift x1 q1)
instance : Dn Rho St := ⟨fun g _ α' _ H' ρ σ => Slots g.K α' H' ρ σ, fun _ q => q⟩
def PGm (X : Cx) (W : XW) (tg : Expr) (gf : MV → Rho → Sto → R Rho) : Prop :=
  ∃ t, PG X tg t ∧ ∀ α ρ S σ H d v Q, Wd X.g α S H → Slots X.K α H ρ σ → Den X.K α H d v → Post X.g W α H (gf d ρ S) Q → t v σ H Q
def PGsm (X : Cx) (W : XW) (tgs : List Expr) (gf : List MV → Rho → Sto → R Rho) : Prop :=
  ∃ t, PGs X tgs t ∧ ∀ α ρ S σ H ds vs Q, Wd X.g α S H → Slots X.K α H ρ σ → DenL X.K α H ds vs → Post X.g W α H (gf ds ρ S) Q → t vs σ H Q
def gNm (i : Nat) : MV → Rho → Sto → R Rho := fun d ρ S => .ok (ρ.set i (some d)) S
theorem gm_name (i : Nat) {x : Str} (hN : X.N.Nodup) (hi : X.N[i]? = some x := by rfl) (hx : Loc X.env.scope x := by first | exact Or.inl rfl | exact Or.inr rfl) (hf : X.fn x = true ∨ X.env.scope.names.lookup x = some .local := by first | exact .inl rfl | exact .inr rfl | assumption) :
    PGm X W (.Name x pos) (gNm i) := ⟨_, pg_name hN hi hx hf, fun α ρ S σ H d v Q wd sl de q => Post.here (b := ρ.set i (some d)) q wd (sl.set de)⟩
def gsNil : List MV → Rho → Sto → R Rho
  | [], ρ, S => .ok ρ S
  | _, _, _ => .no
def gsCons (g1 : MV → Rho → Sto → R Rho) (g2 : List MV → Rho → Sto → R Rho) : List MV → Rho → Sto → R Rho
  | d :: ds, ρ, S => (g1 d ρ S).bind fun ρ1 S1 => g2 ds ρ1 S1
  | _, _, _ => .no
theorem gm_nil : PGsm X W [] gsNil := ⟨_, pgs_nil, fun α ρ S σ H ds vs Q wd sl de q => by
  cases ds with
  | nil => exact ⟨de.isnil, Post.here (b := ρ) q wd sl⟩
  | cons d ds => exact q.elim⟩
theorem gm_cons {es : List Expr} {g1 : MV → Rho → Sto → R Rho} {g2 : List MV → Rho → Sto → R Rho} (h1 : PGm X W e g1) (h2 : PGsm X W es g2) (hs : (assignEach (e :: es) X.env).map (·.2) = assign e X.env :: (assignEach es X.env).map (·.2) := by rfl) : PGsm X W (e :: es) (gsCons g1 g2) := by
  obtain ⟨t1, h1, k1⟩ := h1
  obtain ⟨t2, h2, k2⟩ := h2
  refine ⟨_, pgs_cons h1 h2 hs, fun α ρ S σ H ds vs Q wd sl de q => ?_⟩
  cases ds with
  | nil => exact q.elim
  | cons d ds =>
    obtain ⟨v, r, rfl, a, l⟩ := de.uncons
    refine ⟨v, r, rfl, k1 α ρ S σ H d v _ wd sl a (Post.bind q fun u p S1 α1 H1 e x1 w1 d1 q1 => k2 α1 p S1 u H1 ds r Q w1 d1 (l.ext x1) (q1.shift x1))⟩
def gTp (n : Nat) (g2 : List MV → Rho → Sto → R Rho) : MV → Rho → Sto → R Rho
  | .tup ds, ρ, S => if ds.length = n then g2 ds ρ S else .no
  | _, _, _ => .no
theorem gm_tup {es : List Expr} {k n : Nat} {g2 : List MV → Rho → Sto → R Rho} (hc : X.calm = true) (h : PGsm X W es g2)
    (hn : (assignEach es X.env).length = n := by rfl) (hst : (assignEach es X.env).findIdx? (·.1) = none := by rfl) : PGm X W (.Tuple es k pos) (gTp n g2) := by
  obtain ⟨t, h, k⟩ := h
  refine ⟨_, pg_tup hc h hn hst, fun α ρ S σ H d v Q wd sl de q => ?_⟩
  unfold gTp at q
  split at q
  · split at q
    · rename_i hl
      obtain ⟨a, vs, rfl, s, l⟩ := of_tup de
      exact ⟨a, vs, rfl, s, by rw [l.length]; exact hl, k α ρ S σ H _ vs Q wd sl l q⟩
    · exact q.elim
  · exact q.elim
def enter1 (r : Er) (S : Sto) : R MV := match r with
  | .val d => .ok d S
  | .new ds => .ok (.loc S.length) (S ++ [.lst ds])
theorem enter1_ok {g : Gm} {H0 : Hp} {α0 α : List Addr} {H : Hp} {S : Sto} {r : Er} {v : V} (w : Wd g α S H) (x : Ext α0 H0 α H) (d : DenE g.K H0 α H r v) :
    ∃ d' S' α', enter1 r S = .ok d' S' ∧ Ext α0 H0 α' H ∧ Ex0 α H α' H ∧ Wd g α' S' H ∧ Den g.K α' H d' v := by
  cases r with
  | val d' => exact ⟨d', S, α, rfl, x, ⟨⟨[], by simp⟩, fun _ _ h => h, fun _ _ _ h => h⟩, w, d.1⟩
  | new ds =>
    obtain ⟨⟨c, us, rfl, h1, h2, h3⟩, h4⟩ := d
    exact ⟨.loc S.length, S ++ [.lst ds], α ++ [c], rfl, w.enterx x (h4 c rfl) h2, Ex0.grow α [c] H, w.enter h1 h2 h3, den_loc (by rw [← w.len, List.getElem?_append_right (Nat.le_refl _), Nat.sub_self]; rfl)⟩
def setF (ρ : Rho) (i : Nat) (r : Er) (S : Sto) : R Fl := (enter1 r S).bind fun d S1 => .ok (.next (ρ.set i (some d))) S1
theorem sm_set (i : Nat) {x : Str} {pos' : Pos} (hN : X.N.Nodup) (he : PEm X W e f) (hi : X.N[i]? = some x := by rfl) (hx : Loc X.env.scope x := by first | exact Or.inl rfl | exact Or.inr rfl)
    (hs : swapsWith e (some (.Name x pos')) pos.line X.env = pure false := by rfl) (hf : X.fn x = true ∨ X.env.scope.names.lookup x = some .local := by first | exact .inl rfl | exact .inr rfl | assumption) :
    PSm X W (.Assign [.Name x pos'] e pos) (fun ρ S => (f ρ S).bind (setF ρ i)) := by
  obtain ⟨t, he, k⟩ := he
  refine ⟨_, ps_set hN hi hx he hs hf, fun α ρ S σ H D wd sl q => k α ρ S σ H _ wd sl (q.expr fun u r S1 α1 H1 e x1 w1 d1 q1 => ?_)⟩
  obtain ⟨d', S', α', e1, x', y', w', de⟩ := enter1_ok w1 x1 d1
  unfold setF at q1
  rw [e1] at q1
  exact q1 _ α' H1 x' w' (((sl.ext x1).ex0 y').set de)
def asgF (gf : MV → Rho → Sto → R Rho) (ρ : Rho) (r : Er) (S : Sto) : R Fl := (enter1 r S).bind fun d S1 => (gf d ρ S1).bind fun ρ' S2 => .ok (.next ρ') S2
theorem sm_asg {tg : Expr} {gf : MV → Rho → Sto → R Rho} (he : PEm X W e f) (hg : PGm X W tg gf) (hs : swapsWithSole [tg] e pos.line X.env = pure false := by rfl) (hw : swappedStores [tg] e X.env = pure none := by rfl)
    (h1 : (assignEach [tg] X.env).map (·.2) = [assign tg X.env] := by rfl) : PSm X W (.Assign [tg] e pos) (fun ρ S => (f ρ S).bind (asgF gf ρ)) := by
  obtain ⟨t, he, k⟩ := he
  obtain ⟨tg', hg, kg⟩ := hg
  refine ⟨_, ps_asg he hg hs hw h1, fun α ρ S σ H D wd sl q => k α ρ S σ H _ wd sl (q.expr fun u r S1 α1 H1 e x1 w1 d1 q1 => ?_)⟩
  obtain ⟨d', S', α', e1, x', y', w', de⟩ := enter1_ok w1 x1 d1
  unfold asgF at q1
  rw [e1] at q1
  have q1 : PostS X.g W α H D ((gf d' ρ S').bind fun ρ' S2 => .ok (.next ρ') S2) := q1
  exact kg α' ρ S' σ H1 d' u _ w' ((sl.ext x1).ex0 y') de ((PostS.shift x' q1).expr fun σ2 ρ2 S2 α2 H2 e2 x2 w2 s2 q2 => q2 σ2 α2 H2 x2 w2 s2)
structure Wk where
  ds : List MV
  gs : List (Nat × List MV)
def stay (gs : List (Nat × List MV)) (S : Sto) : Prop := ∀ p ∈ gs, S[p.1]? = some (.lst p.2)
def ItM (g : Gm) (J : It) (P : List Addr → Sto → Hp → Prop) (ds : List MV) : Prop := ∀ i α S H, P α S H → Wd g α S H → (i < ds.length → J.go i H ∧ ∀ x H', J.yld i H x H' → Ext α H α H' ∧ Wd g α S H' ∧ P α S H' ∧ ∃ d, ds[i]? = some d ∧ Den g.K α H' d x) ∧ (ds.length ≤ i → J.stop i H)
structure WkD (g : Gm) (α : List Addr) (S : Sto) (H : Hp) (k : Wk) (J : It) (P : List Addr → Sto → Hp → Prop) : Prop where
  it : ItM g J P k.ds
  here : P α S H
  stays : ∀ α1 S1 H1 α2 S2 H2, P α1 S1 H1 → Ext α1 H1 α2 H2 → Wd g α2 S2 H2 → stay k.gs S2 → P α2 S2 H2
  st : stay k.gs S
instance : Dn Wk It := ⟨fun g _ α S H k J => ∃ P, WkD g α S H k J P, fun _ q => q⟩
abbrev PIm (X : Cx) (W : XW) (tg iter : Expr) (f : Rho → Sto → R Wk) : Prop := Jd X W (PI X tg iter) f
variable {tg iter : Expr}
theorem itm_list {a : Addr} {ds : List MV} : ItM X.g (Itl X.K a) (fun α S H => ∃ vs, SqL X.K H a vs ∧ DenL X.K α H ds vs) ds := by
  intro i α S H ⟨vs, s, l⟩ w
  have hl := l.length
  refine ⟨fun hi => ?_, fun hi => ⟨vs, s, by omega⟩⟩
  have hv : i < vs.length := by omega
  refine ⟨⟨vs, vs[i], s, List.getElem?_eq_getElem hv⟩, fun x H' y => ?_⟩
  obtain ⟨rfl, y⟩ := y
  obtain ⟨d, h1, h2⟩ := l.get (y vs s)
  exact ⟨Ext.refl _ _, w, ⟨vs, s, l⟩, d, h1, h2⟩
theorem itm_tup {a : Addr} {ds : List MV} : ItM X.g (Itt X.K a) (fun α S H => ∃ vs, SqT X.K H a vs ∧ DenL X.K α H ds vs) ds := by
  intro i α S H ⟨vs, s, l⟩ w
  have hl := l.length
  refine ⟨fun hi => ?_, fun hi => ⟨vs, s, by omega⟩⟩
  have hv : i < vs.length := by omega
  refine ⟨⟨vs, vs[i], s, List.getElem?_eq_getElem hv⟩, fun x H' y => ?_⟩
  obtain ⟨rfl, y⟩ := y
  obtain ⟨d, h1, h2⟩ := l.get (y vs s)
  exact ⟨Ext.refl _ _, w, ⟨vs, s, l⟩, d, h1, h2⟩
theorem itm_str {x : List Nat} : ItM X.g (Its x) (fun _ _ _ => True) (x.map fun c => .str [c]) := by
  intro i α S H _ w
  refine ⟨fun hi => ⟨show i < x.length by simpa using hi, fun v H' y => ?_⟩, fun hi => by show x.length ≤ i; simpa using hi⟩
  obtain ⟨rfl, c, h1, h2⟩ := y
  refine ⟨Ext.refl _ _, w, trivial, .str [c], by rw [List.getElem?_map, h1]; rfl, ?_⟩
  rw [h2]
  exact den_str [c]
theorem itm_range {lo : Int} {n : Nat} : ItM X.g (Itr lo n) (fun _ _ _ => True) ((List.range n).map fun k => .int (lo + (k : Nat))) := by
  intro i α S H _ w
  refine ⟨fun hi => ⟨show i < n by simpa using hi, fun v H' y => ?_⟩, fun hi => by show n ≤ i; simpa using hi⟩
  obtain ⟨rfl, y⟩ := y
  have hi' : i < n := by simpa using hi
  refine ⟨Ext.refl _ _, w, trivial, .int (lo + i), by rw [List.getElem?_map, List.getElem?_range hi']; rfl, ?_⟩
  rw [y]
  exact den_int _
def itL : Er → Sto → R Wk
  | .new ds, S => .ok ⟨ds, []⟩ S
  | .val (.scr ds), S => .ok ⟨ds, []⟩ S
  | .val (.loc l), S => match S[l]? with
    | some (.lst ds) => .ok ⟨ds, [(l, ds)]⟩ S
    | _ => .no
  | _, _ => .no
theorem stay_nil {S : Sto} : stay [] S := fun p h => by simp at h
theorem im_list (he : PEm X W iter f) : PIm X W tg iter (fun ρ S => (f ρ S).bind itL) := by
  obtain ⟨t, he, k⟩ := he
  refine ⟨_, pi_list he, fun α ρ S σ H Rc wd sl q => k α ρ S σ H _ wd sl (q.bind fun u p S1 α1 H1 e x1 w1 d1 q1 => ?_)⟩
  replace q1 := q1.shift x1
  unfold itL at q1
  split at q1
  · rename_i S0 ds
    obtain ⟨⟨b, vs, rfl, h1, h2, h3⟩, h4⟩ := d1
    refine ⟨b, rfl, ⟨vs, .of h1⟩, q1.here (u := Itl X.K b) w1 ⟨fun α2 S2 H2 => ∃ vs, SqL X.K H2 b vs ∧ DenL X.K α2 H2 ds vs ∧ H2 b = some (.lst vs) ∧ b ∉ α2, ?_, ⟨vs, .of h1, h3, h1, h2⟩, ?_, stay_nil⟩⟩
    · intro i α2 S2 H2 ⟨vs2, a1, a2, a3, a4⟩ w2
      obtain ⟨i1, i2⟩ := itm_list (X := X) (a := b) (ds := ds) i α2 S2 H2 ⟨vs2, a1, a2⟩ w2
      refine ⟨fun hi => ⟨(i1 hi).1, fun x H' y => ?_⟩, i2⟩
      obtain ⟨j1, j2, j3, j4⟩ := (i1 hi).2 x H' y
      obtain ⟨rfl, _⟩ := y
      exact ⟨j1, j2, ⟨vs2, a1, a2, a3, a4⟩, j4⟩
    · intro α2 S2 H2 α3 S3 H3 ⟨vs2, a1, a2, a3, a4⟩ x w3 _
      exact ⟨vs2, .of (x.keep b _ a3 a4), a2.ext x, x.keep b _ a3 a4, x.out a3 a4⟩
  · rename_i S0 ds
    obtain ⟨a, vs, rfl, s, l⟩ := xe_scr d1.1
    refine ⟨a, rfl, ⟨vs, s.l⟩, q1.here (u := Itl X.K a) w1 ⟨fun α2 S2 H2 => ∃ vs, SqL X.K H2 a vs ∧ DenL X.K α2 H2 ds vs ∧ SqF X.K H2 a vs, ?_, ⟨vs, s.l, l, s⟩, ?_, stay_nil⟩⟩
    · intro i α2 S2 H2 ⟨vs2, a1, a2, a3⟩ w2
      obtain ⟨i1, i2⟩ := itm_list (X := X) (a := a) (ds := ds) i α2 S2 H2 ⟨vs2, a1, a2⟩ w2
      refine ⟨fun hi => ⟨(i1 hi).1, fun x H' y => ?_⟩, i2⟩
      obtain ⟨j1, j2, j3, j4⟩ := (i1 hi).2 x H' y
      obtain ⟨rfl, _⟩ := y
      exact ⟨j1, j2, ⟨vs2, a1, a2, a3⟩, j4⟩
    · intro α2 S2 H2 α3 S3 H3 ⟨vs2, a1, a2, a3⟩ x w3 _
      exact ⟨vs2, (x.sqF a3).l, a2.ext x, x.sqF a3⟩
  · rename_i S0 n
    obtain ⟨a, rfl, h⟩ := xe_loc d1.1
    obtain ⟨o, h1, h2⟩ := w1.of h
    rw [h1] at q1
    cases o with
    | lst ds =>
      obtain ⟨vs, h3, l⟩ := h2
      refine ⟨a, rfl, ⟨vs, .of h3⟩, Post.here (b := (⟨ds, [(n, ds)]⟩ : Wk)) q1 (u := Itl X.K a) w1 ⟨fun α2 S2 H2 => ∃ vs, SqL X.K H2 a vs ∧ DenL X.K α2 H2 ds vs ∧ α2[n]? = some a, ?_, ⟨vs, .of h3, l, h⟩, ?_, ?_⟩⟩
      · intro i α2 S2 H2 ⟨vs2, a1, a2, a3⟩ w2
        obtain ⟨i1, i2⟩ := itm_list (X := X) (a := a) (ds := ds) i α2 S2 H2 ⟨vs2, a1, a2⟩ w2
        refine ⟨fun hi => ⟨(i1 hi).1, fun x H' y => ?_⟩, i2⟩
        obtain ⟨j1, j2, j3, j4⟩ := (i1 hi).2 x H' y
        obtain ⟨rfl, _⟩ := y
        exact ⟨j1, j2, ⟨vs2, a1, a2, a3⟩, j4⟩
      · intro α2 S2 H2 α3 S3 H3 ⟨vs2, a1, a2, a3⟩ x w3 hs
        have a3' := x.at a3
        have := w3.obj n a _ a3' (hs (n, ds) (by simp))
        obtain ⟨vs3, b1, b2⟩ := this
        exact ⟨vs3, .of b1, b2, a3'⟩
      · intro p hp
        have : p = (n, ds) := by simpa using hp
        subst this
        exact h1
    | dic ds => exact q1.elim
    | ins c fs => exact q1.elim
  · exact q1.elim
def itT : Er → Sto → R Wk
  | .val (.tup ds), S => .ok ⟨ds, []⟩ S
  | _, _ => .no
theorem im_tup (he : PEm X W iter f) : PIm X W tg iter (fun ρ S => (f ρ S).bind itT) := by
  obtain ⟨t, he, k⟩ := he
  refine ⟨_, pi_tup he, fun α ρ S σ H Rc wd sl q => k α ρ S σ H _ wd sl (q.bind fun u p S1 α1 H1 e x1 w1 d1 q1 => ?_)⟩
  replace q1 := q1.shift x1
  unfold itT at q1
  split at q1
  · rename_i S0 ds
    obtain ⟨a, vs, rfl, s, l⟩ := xe_tup d1.1
    exact ⟨a, rfl, ⟨vs, s⟩, q1.here (u := Itt X.K a) w1 ⟨_, itm_tup, ⟨vs, s, l⟩, fun α2 S2 H2 α3 S3 H3 ⟨vs2, a1, a2⟩ x w3 _ => ⟨vs2, x.sqT a1, a2.ext x⟩, stay_nil⟩⟩
  · exact q1.elim
def itS : Er → Sto → R Wk
  | .val (.str x), S => .ok ⟨x.map fun c => .str [c], []⟩ S
  | _, _ => .no
theorem im_str (he : PEm X W iter f) : PIm X W tg iter (fun ρ S => (f ρ S).bind itS) := by
  obtain ⟨t, he, k⟩ := he
  refine ⟨_, pi_str he, fun α ρ S σ H Rc wd sl q => k α ρ S σ H _ wd sl (q.bind fun u p S1 α1 H1 e x1 w1 d1 q1 => ?_)⟩
  replace q1 := q1.shift x1
  unfold itS at q1
  split at q1
  · rename_i S0 x
    exact ⟨x, xe_str d1.1, q1.here (u := Its x) w1 ⟨_, itm_str, trivial, fun _ _ _ _ _ _ _ _ _ _ => trivial, stay_nil⟩⟩
  · exact q1.elim
def rng1F : List Er → Sto → R Wk
  | [.val (.int j)], S => if -(2 ^ 62) ≤ j ∧ j < 2 ^ 62 then .ok ⟨(List.range j.toNat).map fun k => .int (k : Nat), []⟩ S else .no
  | _, _ => .no
variable {af : Rho → Sto → R (List Er)} {p : Pos} {a b : Expr}
theorem args1 {K : PySem.W.Frag} {H0 : Hp} {α : List Addr} {H : Hp} {r : Er} {vs : List V} (d : ArgsE K H0 α H [r] vs) : ∃ v, vs = [v] ∧ DenX K α H r v := by
  cases d with
  | cons a n l => cases l; exact ⟨_, rfl, a.1⟩
theorem im_range1 (hg : Gl X "range") (hm : X.mg "range" = none) (ha : PAm X W [a] af) (hs : starEach [a] X.env = [(false, eval a X.env)] := by rfl) : PIm X W tg (.Call (.Name "range" p) [a] [] pos) (fun ρ S => (af ρ S).bind rng1F) := by
  obtain ⟨t, ha, k⟩ := ha
  refine ⟨_, pi_range1 hg hm ha hs, fun α ρ S σ H Rc wd sl q => k α ρ S σ H _ wd sl (q.bind fun vs rs S1 α1 H1 e x1 w1 d1 q1 => ?_)⟩
  replace q1 := q1.shift x1
  unfold rng1F at q1
  split at q1
  · split at q1
    · rename_i S0 j hj
      obtain ⟨v, rfl, dv⟩ := args1 d1
      cases xe_int dv
      have := itm_range (X := X) (lo := 0) (n := j.toNat)
      simp only [Int.zero_add] at this
      exact ⟨j, rfl, hj.1, hj.2, q1.here (u := Itr 0 j.toNat) w1 ⟨_, this, trivial, fun _ _ _ _ _ _ _ _ _ _ => trivial, stay_nil⟩⟩
    · exact q1.elim
  · exact q1.elim
open Classical in
noncomputable def forF (gf : MV → Rho → Sto → R Rho) (body : Rho → Sto → R Fl) (gs : List (Nat × List MV)) : List MV → Rho → Sto → R Fl
  | [], ρ, S => .ok (.next ρ) S
  | d :: ds, ρ, S => (gf d ρ S).bind fun ρ0 S0 => (body ρ0 S0).bind fun fl S1 => match fl with
    | .next ρ' => if stay gs S1 then forF gf body gs ds ρ' S1 else .no
    | .cont ρ' => if stay gs S1 then forF gf body gs ds ρ' S1 else .no
    | .brk ρ' => .ok (.next ρ') S1
    | .ret r => .ok (.ret r) S1
open Classical in
theorem sm_for {itf : Rho → Sto → R Wk} {gf : MV → Rho → Sto → R Rho} (hp : PassesOwn (model X.prog X.w) X.A X.env X.xe) (hc : X.calm = true) (hi : PIm X W tg iter itf) (hg : PGm X W tg gf) (hb : PSsm X W as F)
    (hs : ∀ y, foldedSetIterable iter X.env y = pure y := by intro _; rfl) : PSm X W (.For tg iter as [] pos) (fun ρ S => (itf ρ S).bind fun k S1 => forF gf F k.gs k.ds ρ S1) := by
  obtain ⟨wi, hi, ki⟩ := hi
  obtain ⟨tg', hg, kg⟩ := hg
  obtain ⟨tb, hb, kb⟩ := hb
  refine ⟨_, ps_for hp hc hi hg hb hs, fun α ρ S σ H D wd sl q => ki α ρ S σ H _ wd sl (q.expr fun J k S1 α1 H1 e x1 w1 d1 q1 => ?_)⟩
  obtain ⟨P, hP⟩ := d1
  have sl1 := sl.ext x1
  replace q1 := PostS.shift x1 q1
  refine ⟨fun n m σ2 H2 => m = k.ds.length - n ∧ n ≤ k.ds.length ∧ ∃ α2 ρ2 S2, Wd X.g α2 S2 H2 ∧ Slots X.K α2 H2 ρ2 σ2 ∧ P α2 S2 H2 ∧ PostS X.g W α2 H2 D (forF gf F k.gs (k.ds.drop n) ρ2 S2), ⟨_, rfl, Nat.zero_le _, α1, ρ, S1, w1, sl1, hP.here, by simpa using q1⟩, ?_⟩
  rintro n m σ2 H2 ⟨rfl, hn, α2, ρ2, S2, w2, sl2, p2, q2⟩
  obtain ⟨i1, i2⟩ := hP.it n α2 S2 H2 p2 w2
  by_cases hlt : n < k.ds.length
  · obtain ⟨go, yl⟩ := i1 hlt
    refine .inr ⟨go, fun σ3 H3 => ∃ α3 ρ3 S3, Wd X.g α3 S3 H3 ∧ Slots X.K α3 H3 ρ3 σ3 ∧ P α3 S3 H3 ∧ PostS X.g W α3 H3 D (forF gf F k.gs (k.ds.drop (n + 1)) ρ3 S3), fun σ3 H3 ⟨α3, ρ3, S3, h3⟩ => ⟨k.ds.length - (n + 1), by omega, rfl, hlt, α3, ρ3, S3, h3⟩, fun v H3 y => ?_⟩
    obtain ⟨x3, w3, p3, d, hd, dv⟩ := yl v H3 y
    have hdrop : k.ds.drop n = d :: k.ds.drop (n + 1) := by
      rw [List.drop_eq_getElem_cons hlt]
      have := List.getElem?_eq_getElem hlt
      rw [hd] at this
      rw [← Option.some.inj this]
    rw [hdrop] at q2
    unfold forF at q2
    replace q2 := PostS.shift x3 q2
    refine kg α2 ρ2 S2 σ2 H3 d v _ w3 (sl2.ext x3) dv (q2.expr fun σ4 ρ4 S4 α4 H4 e4 x4 w4 s4 q4 => ?_)
    have p4 : ∀ α5 S5 H5, Ext α4 H4 α5 H5 → Wd X.g α5 S5 H5 → stay k.gs S5 → P α5 S5 H5 := fun α5 S5 H5 x5 w5 s5 => hP.stays α2 S2 H3 α5 S5 H5 p3 (x4.trans x5) w5 s5
    refine kb α4 ρ4 S4 σ4 H4 _ w4 s4 ((PostS.shift x4 q4).stmt ?_ ?_ ?_ ?_)
    · intro ρ5 S5 σ5 α5 H5 e5 x5 w5 s5 q5
      have q5' : PostS X.g W α4 H4 D (if stay k.gs S5 then forF gf F k.gs (k.ds.drop (n + 1)) ρ5 S5 else .no) := q5
      split at q5'
      · rename_i hst
        exact ⟨α5, ρ5, S5, w5, s5, p4 α5 S5 H5 x5 w5 hst, PostS.shift x5 q5'⟩
      · exact q5'.elim
    · intro r S5 v5 α5 H5 e5 x5 w5 d5 q5
      exact q5 v5 α5 H5 x5 w5 d5
    · intro ρ5 S5 σ5 α5 H5 e5 x5 w5 s5 q5
      exact q5 σ5 α5 H5 x5 w5 s5
    · intro ρ5 S5 σ5 α5 H5 e5 x5 w5 s5 q5
      have q5' : PostS X.g W α4 H4 D (if stay k.gs S5 then forF gf F k.gs (k.ds.drop (n + 1)) ρ5 S5 else .no) := q5
      split at q5'
      · rename_i hst
        exact ⟨α5, ρ5, S5, w5, s5, p4 α5 S5 H5 x5 w5 hst, PostS.shift x5 q5'⟩
      · exact q5'.elim
  · have e : n = k.ds.length := by omega
    subst e
    refine .inl ⟨i2 (Nat.le_refl _), ?_⟩
    rw [List.drop_length] at q2
    exact q2 σ2 α2 H2 (Ext.refl _ _) w2 sl2
end
end M
end L2
namespace L2
namespace M
open PySem PySem.Spec PyProof.Rows
def noX {β : Type} : R β → R β
  | .ok b S => .ok b S
  | _ => .no
theorem noX_ok {β : Type} (b : β) (S : Sto) : noX (R.ok b S) = .ok b S := rfl
theorem Post.bindY {β τ γ υ : Type} [Dn β τ] [Dn γ υ] {g : Gm} {W : XW} {α α' : List Addr} {H H' : Hp} (x : Ext α H α' H') {m : R β} {k : β → Sto → R γ} {Q : υ → Hp → Prop} {Q' : τ → Hp → Prop} (q : Post g W α H ((noX m).bind k) Q)
    (f : ∀ u b S1 α1 H1, m = .ok b S1 → Ext α' H' α1 H1 → Wd g α1 S1 H1 → Dn.d g H' α1 S1 H1 b u → Post g W α H (k b S1) Q → Q' u H1) : Post g W0 α' H' m Q' := by
  cases m with
  | ok b S => exact fun u α1 H1 x w d => f u b S α1 H1 rfl x w d q
  | exc c fs S => exact q.elim
  | no => exact q
theorem R.bind_assoc {β γ δ : Type} (m : R β) (k1 : β → Sto → R γ) (k2 : γ → Sto → R δ) : (m.bind k1).bind k2 = m.bind fun b S => (k1 b S).bind k2 := by cases m <;> rfl
def blk (nt : Nat) (idx : List Nat) (ρ : Rho) : Rho := List.replicate nt none ++ idx.map fun i => (ρ[i]?).join
open Classical in
noncomputable def compF (gf : MV → Rho → Sto → R Rho) (cf : Rho → Sto → R Bool) (ef : Rho → Sto → R Er) (ρb : Rho) (gs : List (Nat × List MV)) : List MV → Sto → R (List MV)
  | [], S => .ok [] S
  | d :: ds, S => (noX (gf d ρb S)).bind fun ρ1 S0 => (noX (cf ρ1 S0)).bind fun k S1 =>
    if k = true then (noX (ef ρ1 S1)).bind fun r S2 => (enter1 r S2).bind fun y S3 => if stay gs S3 then (compF gf cf ef ρb gs ds S3).bind fun out S4 => .ok (y :: out) S4 else .no
    else if stay gs S1 then compF gf cf ef ρb gs ds S1 else .no
theorem slots_blk {K : PySem.W.Frag} {α : List Addr} {H : Hp} {ρ : Rho} {σ : St} (q : Slots K α H ρ σ) (nt : Nat) (idx : List Nat) (τ : St) (hτ : τ.length = nt) : Slots K α H (blk nt idx ρ) (τ ++ caps σ idx) := by
  refine ⟨by unfold blk; rw [List.length_append, List.length_append, caps_length, List.length_map, List.length_replicate, hτ], fun i d e => ?_⟩
  unfold blk at e
  by_cases hi : i < nt
  · rw [List.getElem?_append_left (by rw [List.length_replicate]; exact hi), List.getElem?_replicate] at e
    split at e <;> cases e
  · rw [List.getElem?_append_right (by rw [List.length_replicate]; omega), List.length_replicate, List.getElem?_map] at e
    cases z : idx[i - nt]? with
    | none => rw [z] at e; cases e
    | some k =>
      rw [z] at e
      have e2 : (ρ[k]?).join = some d := Option.some.inj e
      cases z2 : ρ[k]? with
      | none => rw [z2] at e2; cases e2
      | some o =>
        rw [z2] at e2
        have e3 : o = some d := e2
        subst e3
        obtain ⟨v, h1, h2⟩ := q.slot k d z2
        refine ⟨v, ?_, h2⟩
        rw [List.getElem?_append_right (by omega), hτ]
        unfold caps
        rw [List.getElem?_map, z]
        show some (σ[k]?).join = some (some v)
        rw [h1]; rfl
def Keeps (nt : Nat) (σ : St) (Q : St → Hp → Prop) : St → Hp → Prop := fun σ' H' => σ'.length = σ.length → (∀ j, nt ≤ j → σ'[j]? = σ[j]?) → Q σ' H'
def PGn (nt : Nat) (X : Cx) (W : XW) (tg : Expr) (gf : MV → Rho → Sto → R Rho) : Prop :=
  ∃ t, PG X tg t ∧ ∀ α ρ S σ H d v Q, Wd X.g α S H → Slots X.K α H ρ σ → Den X.K α H d v → Post X.g W α H (gf d ρ S) (Keeps nt σ Q) → t v σ H Q
section
variable {X : Cx} {W : XW} {e : Expr} {pos : Pos} {nt : Nat}
theorem gn_name (i : Nat) {x : Str} (hN : X.N.Nodup) (hi : X.N[i]? = some x := by rfl) (hx : Loc X.env.scope x := by first | exact Or.inl rfl | exact Or.inr rfl) (hf : X.fn x = true ∨ X.env.scope.names.lookup x = some .local := by first | exact .inl rfl | exact .inr rfl | assumption) (hlt : i < nt := by decide) :
    PGn nt X W (.Name x pos) (gNm i) := ⟨_, pg_name hN hi hx hf, fun α ρ S σ H d v Q wd sl de q => Post.here (b := ρ.set i (some d)) q wd (sl.set de) (by rw [List.length_set]) fun j hj => by rw [List.getElem?_set_ne (by omega)]⟩
end
abbrev PIfm (X : Cx) (W : XW) (ifs : List Expr) (f : Rho → Sto → R Bool) : Prop := Jd X W (PIfs X ifs) f
section
variable {X : Cx} {W : XW} {iter : Expr} {c : Expr} {tf : Rho → Sto → R Bool} {pos : Pos}
theorem ifm_nil : PIfm X W [] (fun _ S => .ok true S) := ⟨_, pifs_nil, fun α ρ S σ H Q wd sl q => q.here wd rfl⟩
open Classical in
theorem cu_comp {elt tg : Expr} {ifs : List Expr} {sc : Scope} {itf : Rho → Sto → R Wk} {cf : Rho → Sto → R Bool} {ef : Rho → Sto → R Er} {gf : MV → Rho → Sto → R Rho} (osc : Scope) (N : List Str) (T : List Str) (idx : List Nat)
    (hi : PIm X W tg iter itf) (hcalm : X.calm = true)
    (hg : ∀ C s₂ H1 fp, ([] ++ T ++ idx.map fun i => (N[i]?).getD Str.empty).Nodup → PGn T.length (cxComp X sc T idx C s₂ H1 fp) W0 tg gf)
    (hc : ∀ C s₂ H1 fp, PIfm (cxComp X sc T idx C s₂ H1 fp) W0 ifs cf) (he : ∀ C s₂ H1 fp, PEm (cxComp X sc T idx C s₂ H1 fp) W0 elt ef)
    (e1 : X.env.scope = osc := by rfl) (e2 : X.N = N := by rfl) (hB : compB osc N sc idx = true := by decide +kernel) (hN : ([] ++ T ++ idx.map fun i => (N[i]?).getD Str.empty).Nodup := by decide +kernel)
    (hs : ∀ y, foldedSetIterable iter X.env y = pure y := by intro _; rfl) :
    Jd (β := Er) (τ := V) X W (fun t => PE X (.ListComp elt [⟨tg, iter, ifs, 0⟩] sc pos) t ∧ PU X (.ListComp elt [⟨tg, iter, ifs, 0⟩] sc pos) t) (fun ρ S => (itf ρ S).bind fun k S1 => if k.ds.length < 1000000 then (compF gf cf ef (blk T.length idx ρ) k.gs k.ds S1).bind fun out S2 => .ok (.new out) S2 else .no) := by
  obtain ⟨wi, hi, ki⟩ := hi
  subst e1 e2
  have big : (1000000 : Nat) < sizeLine := by rw [sizeLine_eq]; decide
  have hg' : ∃ t, (∀ C s₂ H1 fp, PG (cxComp X sc T idx C s₂ H1 fp) tg t) ∧ ∀ α ρ S σ H d v Q, Wd X.g α S H → Slots X.K α H ρ σ → Den X.K α H d v → Post X.g W0 α H (gf d ρ S) (Keeps T.length σ Q) → t v σ H Q := by
    refine ⟨fun v σ H Q => ∃ α ρ S d, Wd X.g α S H ∧ Slots X.K α H ρ σ ∧ Den X.K α H d v ∧ Post X.g W0 α H (gf d ρ S) (Keeps T.length σ Q), fun C s₂ H1 fp pins s σ H v u Q I r ⟨α, ρ, S, d, h1, h2, h3, h4⟩ => ?_, fun α ρ S σ H d v Q h1 h2 h3 h4 => ⟨α, ρ, S, d, h1, h2, h3, h4⟩⟩
    obtain ⟨t, ht, kt⟩ := hg C s₂ H1 fp hN
    exact ht pins s σ H v u Q I r (kt α ρ S σ H d v Q h1 h2 h3 h4)
  obtain ⟨tg', hg1, kg⟩ := hg'
  refine ⟨_, ⟨pe_comp T idx hi hcalm hB hg1 (fun C s₂ H1 fp => (Classical.choose_spec (hc C s₂ H1 fp)).1) (fun C s₂ H1 fp => (Classical.choose_spec (he C s₂ H1 fp)).1) hs, pu_comp T idx hi hcalm hB hg1 (fun C s₂ H1 fp => (Classical.choose_spec (hc C s₂ H1 fp)).1) (fun C s₂ H1 fp => (Classical.choose_spec (he C s₂ H1 fp)).1) hs⟩, fun α ρ S σ H Q wd sl q => ki α ρ S σ H _ wd sl (q.bind fun J k S1 α1 H1 e1 x1 w1 d1 q1 => ?_)⟩
  obtain ⟨P, hP⟩ := d1
  split at q1
  · rename_i hlen
    refine ⟨fun n m ys H2 => m = k.ds.length - n ∧ n ≤ k.ds.length ∧ ys.length ≤ n ∧ ∃ α2 S2, Ext α H α2 H2 ∧ Wd X.g α2 S2 H2 ∧ P α2 S2 H2 ∧ ∃ outs, DenL X.K α2 H2 outs ys ∧ Post X.g W α H ((compF gf cf ef (blk T.length idx ρ) k.gs (k.ds.drop n) S2).bind fun o S' => .ok (Er.new (outs ++ o)) S') Q,
      ⟨_, rfl, Nat.zero_le _, Nat.le_refl _, α1, S1, x1, w1, hP.here, [], denl_nil, by simpa using q1⟩, ?_⟩
    rintro n m ys H2 ⟨rfl, hn, hy, α2, S2, x2, w2, p2, outs, l, q2⟩
    obtain ⟨i1, i2⟩ := hP.it n α2 S2 H2 p2 w2
    refine ⟨by omega, ?_⟩
    by_cases hlt : n < k.ds.length
    · obtain ⟨go, yl⟩ := i1 hlt
      refine .inr ⟨go, by omega, fun v H3 y τ hτ => ?_⟩
      obtain ⟨x3, w3, p3, d, hd, dv⟩ := yl v H3 y
      have hdrop : k.ds.drop n = d :: k.ds.drop (n + 1) := by
        rw [List.drop_eq_getElem_cons hlt]
        have := List.getElem?_eq_getElem hlt
        rw [hd] at this
        rw [← Option.some.inj this]
      rw [hdrop] at q2
      unfold compF at q2
      have slb := slots_blk (sl.ext (x2.trans x3)) T.length idx τ hτ
      refine kg α2 (blk T.length idx ρ) S2 _ H3 d v _ w3 slb dv ?_
      rw [R.bind_assoc] at q2
      refine q2.bindY (x2.trans x3) fun σ4 ρ4 S4 α4 H4 e4 x4 w4 s4 q4 len4 kp4 => ⟨⟨σ4.take T.length, ?_, ?_⟩, fun C s₂ fp => ?_⟩
      · refine List.ext_getElem? fun j => ?_
        have hl4 : σ4.length = T.length + idx.length := by rw [len4, List.length_append, caps_length, hτ]
        by_cases hj : j < T.length
        · rw [List.getElem?_append_left (by rw [List.length_take]; omega), List.getElem?_take_of_lt hj]
        · rw [kp4 j (by omega), List.getElem?_append_right (by omega), List.getElem?_append_right (by rw [List.length_take]; omega), hτ, List.length_take, Nat.min_eq_left (by omega)]
      · rw [List.length_take, len4, List.length_append, caps_length, hτ]; omega
      have x34 : Ext α H α4 H4 := (x2.trans x3).trans x4
      have p4 : ∀ α5 S5 H5, Ext α4 H4 α5 H5 → Wd X.g α5 S5 H5 → stay k.gs S5 → P α5 S5 H5 := fun α5 S5 H5 x5 w5 s5 => hP.stays α2 S2 H3 α5 S5 H5 p3 (x4.trans x5) w5 s5
      rw [R.bind_assoc] at q4
      refine (Classical.choose_spec (hc C s₂ H1 fp)).2 α4 ρ4 S4 σ4 H4 _ w4 s4 (q4.bindY x34 fun b5 b5' S5 α5 H5 e5 x5 w5 d5 q5 => ?_)
      cases d5
      cases b5 with
      | false =>
        rw [if_neg Bool.false_ne_true] at q5 ⊢
        split at q5
        · rename_i hst
          exact ⟨k.ds.length - (n + 1), by omega, rfl, hlt, by omega, α5, S5, x34.trans x5, w5, p4 α5 S5 H5 x5 w5 hst, outs, (l.ext (x3.trans x4)).ext x5, q5⟩
        · exact q5.elim
      | true =>
        rw [if_pos rfl, R.bind_assoc] at q5
        rw [if_pos rfl]
        refine (Classical.choose_spec (he C s₂ H1 fp)).2 α5 ρ4 S5 σ4 H5 _ w5 (s4.ext x5) (q5.bindY (x34.trans x5) fun y6 r6 S6 α6 H6 e6 x6 w6 d6 q6 => ?_)
        obtain ⟨d', S', α', e7, x7, y7, w7, de⟩ := enter1_ok w6 x6 d6
        rw [e7] at q6
        have q6 : Post X.g W α H ((if stay k.gs S' then (compF gf cf ef (blk T.length idx ρ) k.gs (k.ds.drop (n + 1)) S').bind fun out S4 => .ok (d' :: out) S4 else .no).bind fun o S' => .ok (Er.new (outs ++ o)) S') Q := q6
        split at q6
        · rename_i hst
          refine ⟨k.ds.length - (n + 1), by omega, rfl, hlt, by rw [List.length_append, List.length_singleton]; omega, α', S', (x34.trans x5).trans x7, w7, p4 α' S' H6 (x5.trans x7) w7 hst, outs ++ [d'], ((l.ext (x3.trans x4)).ext (x5.trans x7)).append (denl_cons de denl_nil), ?_⟩
          rw [R.bind_assoc] at q6
          have e8 : (fun (o : List MV) (S' : Sto) => R.ok (Er.new ((outs ++ [d']) ++ o)) S') = (fun (b : List MV) S => (R.ok (d' :: b) S).bind fun o S' => .ok (Er.new (outs ++ o)) S') := by
            funext o S'
            show _ = R.ok (Er.new (outs ++ (d' :: o))) S'
            rw [List.append_assoc]; rfl
          rw [e8]
          exact q6
        · exact q6.elim
    · have e : n = k.ds.length := by omega
      subst e
      rw [List.drop_length] at q2
      have q3 : Post X.g W α H (.ok (Er.new (outs ++ [])) S2) Q := q2
      rw [List.append_nil] at q3
      exact .inl ⟨i2 (Nat.le_refl _), fun D hD => (q3.shift x2).newl w2 hD l⟩
  · exact q1.elim
open Classical in
theorem pm_comp {elt tg : Expr} {ifs : List Expr} {sc : Scope} {itf : Rho → Sto → R Wk} {cf : Rho → Sto → R Bool} {ef : Rho → Sto → R Er} {gf : MV → Rho → Sto → R Rho} (osc : Scope) (N : List Str) (T : List Str) (idx : List Nat)
    (hi : PIm X W tg iter itf) (hcalm : X.calm = true)
    (hg : ∀ C s₂ H1 fp, ([] ++ T ++ idx.map fun i => (N[i]?).getD Str.empty).Nodup → PGn T.length (cxComp X sc T idx C s₂ H1 fp) W0 tg gf)
    (hc : ∀ C s₂ H1 fp, PIfm (cxComp X sc T idx C s₂ H1 fp) W0 ifs cf) (he : ∀ C s₂ H1 fp, PEm (cxComp X sc T idx C s₂ H1 fp) W0 elt ef)
    (e1 : X.env.scope = osc := by rfl) (e2 : X.N = N := by rfl) (hB : compB osc N sc idx = true := by decide +kernel) (hN : ([] ++ T ++ idx.map fun i => (N[i]?).getD Str.empty).Nodup := by decide +kernel)
    (hs : ∀ y, foldedSetIterable iter X.env y = pure y := by intro _; rfl) :
    PEm X W (.ListComp elt [⟨tg, iter, ifs, 0⟩] sc pos) (fun ρ S => (itf ρ S).bind fun k S1 => if k.ds.length < 1000000 then (compF gf cf ef (blk T.length idx ρ) k.gs k.ds S1).bind fun out S2 => .ok (.new out) S2 else .no) := let ⟨t, h, k⟩ := (cu_comp osc N T idx hi hcalm hg hc he e1 e2 hB hN hs); ⟨t, h.1, k⟩
open Classical in
end
end M
end L2
namespace L2
namespace M
open PySem PySem.Spec PyProof.Rows
mutual
def lo (n : Nat) : MV → Prop
  | .loc l => l < n
  | .tup ds => loL n ds
  | .scr ds => loL n ds
  | _ => True
def loL (n : Nat) : List MV → Prop
  | [] => True
  | d :: ds => lo n d ∧ loL n ds
end
def loO (n : Nat) : MO → Prop
  | .lst ds => loL n ds
  | .dic kvs => ∀ p ∈ kvs, lo n p.1 ∧ lo n p.2
  | .ins _ fs => ∀ p ∈ fs, lo n p.2
section
variable {K : PySem.W.Frag} {α t : List Addr} {H : Hp}
mutual
theorem Den.back : ∀ {d : MV} {v : V}, Den K (α ++ t) H d v → lo α.length d → Den K α H d v
  | .non, _, q, _ => by cases of_non q; exact den_non
  | .bl _, _, q, _ => by cases of_bl q; exact den_bl _
  | .int _, _, q, _ => by cases of_int q; exact den_int _
  | .str _, _, q, _ => by cases of_str q; exact den_str _
  | .typ _, _, q, _ => by cases of_typ q; exact den_typ _
  | .loc l, _, q, h => by
    obtain ⟨a, rfl, e⟩ := of_loc q
    have hl : l < α.length := by unfold lo at h; exact h
    rw [List.getElem?_append_left hl] at e
    exact den_loc e
  | .tup ds, _, q, h => by
    obtain ⟨a, vs, rfl, s, l⟩ := of_tup q
    exact den_tup s (DenL.back l (by unfold lo at h; exact h))
  | .scr ds, _, q, h => by
    obtain ⟨a, vs, rfl, s, l⟩ := of_scr q
    exact den_scr s (DenL.back l (by unfold lo at h; exact h))
theorem DenL.back : ∀ {ds : List MV} {vs : List V}, DenL K (α ++ t) H ds vs → loL α.length ds → DenL K α H ds vs
  | [], _, q, _ => by rw [q.isnil]; exact denl_nil
  | d :: ds, _, q, h => by
    obtain ⟨v, r, rfl, a, l⟩ := q.uncons
    unfold loL at h
    exact denl_cons (Den.back a h.1) (DenL.back l h.2)
end
mutual
theorem Den.lo : ∀ {d : MV} {v : V}, Den K α H d v → lo α.length d
  | .non, _, q => by unfold M.lo; trivial
  | .bl _, _, q => by unfold M.lo; trivial
  | .int _, _, q => by unfold M.lo; trivial
  | .str _, _, q => by unfold M.lo; trivial
  | .typ _, _, q => by unfold M.lo; trivial
  | .loc l, _, q => by
    obtain ⟨a, rfl, e⟩ := of_loc q
    unfold M.lo
    exact (List.getElem?_eq_some_iff.mp e).1
  | .tup ds, _, q => by
    obtain ⟨a, vs, rfl, s, l⟩ := of_tup q
    unfold M.lo
    exact DenL.lo l
  | .scr ds, _, q => by
    obtain ⟨a, vs, rfl, s, l⟩ := of_scr q
    unfold M.lo
    exact DenL.lo l
theorem DenL.lo : ∀ {ds : List MV} {vs : List V}, DenL K α H ds vs → loL α.length ds
  | [], _, q => by unfold loL; trivial
  | d :: ds, _, q => by
    obtain ⟨v, r, rfl, a, l⟩ := q.uncons
    unfold loL
    exact ⟨Den.lo a, DenL.lo l⟩
end
theorem DenK.back : ∀ {fs gs}, DenK K (α ++ t) H fs gs → (∀ p ∈ fs, M.lo α.length p.1 ∧ M.lo α.length p.2) → DenK K α H fs gs
  | _, _, .nil, _ => .nil
  | _, _, .cons k a l, h => .cons k (a.back (h _ List.mem_cons_self).2) (DenK.back l fun p hp => h p (List.mem_cons_of_mem _ hp))
theorem KeyD.lo {n : Nat} {k : MV} {k' : Key} (h : KeyD k k') : M.lo n k := by
  unfold KeyD at h
  split at h
  · unfold M.lo; trivial
  · unfold M.lo; trivial
  · exact h.elim
theorem DenK.lo : ∀ {fs gs}, DenK K α H fs gs → ∀ p ∈ fs, M.lo α.length p.1 ∧ M.lo α.length p.2
  | _, _, .nil => fun p h => by simp at h
  | _, _, .cons k a l => fun p h => (List.mem_cons.mp h).elim (fun e => by subst e; exact ⟨k.lo, a.lo⟩) (DenK.lo l p)
theorem DenN.back : ∀ {fs xs}, DenN K (α ++ t) H fs xs → (∀ p ∈ fs, M.lo α.length p.1 ∧ M.lo α.length p.2) → DenN K α H fs xs
  | _, _, .nil, _ => .nil
  | _, _, .cons k e a d r l, h => .cons k e (a.back (h _ List.mem_cons_self).1) (d.back (h _ List.mem_cons_self).2) r (DenN.back l fun p hp => h p (List.mem_cons_of_mem _ hp))
theorem DenN.lo : ∀ {fs xs}, DenN K α H fs xs → ∀ p ∈ fs, M.lo α.length p.1 ∧ M.lo α.length p.2
  | _, _, .nil => fun p h => by simp at h
  | _, _, .cons k e a d r l => fun p h => (List.mem_cons.mp h).elim (fun z => by subst z; exact ⟨a.lo, d.lo⟩) (DenN.lo l p)
theorem DenF.back : ∀ {fs gs}, DenF K (α ++ t) H fs gs → (∀ p ∈ fs, M.lo α.length p.2) → DenF K α H fs gs
  | _, _, .nil, _ => .nil
  | _, _, .cons a l, h => .cons (a.back (h _ List.mem_cons_self)) (DenF.back l fun p hp => h p (List.mem_cons_of_mem _ hp))
theorem DenF.lo : ∀ {fs gs}, DenF K α H fs gs → ∀ p ∈ fs, M.lo α.length p.2
  | _, _, .nil => fun p h => by simp at h
  | _, _, .cons a l => fun p h => (List.mem_cons.mp h).elim (fun e => by subst e; exact a.lo) (DenF.lo l p)
theorem ObD.back {g : Gm} {a : Addr} {o : MO} (q : ObD g (α ++ t) H a o) (h : loO α.length o) : ObD g α H a o := by
  cases o with
  | lst ds => obtain ⟨vs, h1, l⟩ := q; exact ⟨vs, h1, l.back h⟩
  | dic ds =>
    rcases q with ⟨vs, h1, l⟩ | ⟨vs, h1, l⟩
    · exact .inl ⟨vs, h1, l.back h⟩
    · exact .inr ⟨vs, h1, l.back h⟩
  | ins c fs => obtain ⟨C, gs, m, l, r⟩ := q; exact ⟨C, gs, m, l.back h, r⟩
theorem ObD.lo {g : Gm} {a : Addr} {o : MO} (q : ObD g α H a o) : loO α.length o := by
  cases o with
  | lst ds => obtain ⟨vs, h1, l⟩ := q; exact l.lo
  | dic ds =>
    rcases q with ⟨vs, h1, l⟩ | ⟨vs, h1, l⟩
    · exact l.lo
    · exact l.lo
  | ins c fs => obtain ⟨C, gs, m, l, r⟩ := q; exact l.lo
end
def cutOk (S S2 : Sto) : Prop := S.length ≤ S2.length ∧ ∀ l, l < S.length → S2[l]? = S[l]? ∨ ∃ o, S2[l]? = some o ∧ loO S.length o
open Classical in
noncomputable def trimF (S : Sto) (r : Er) (S2 : Sto) : R Er :=
  if cutOk S S2 then match r with
    | .val (.loc l) => if l < S.length then .ok r (S2.take S.length) else match S2[l]? with
      | some (.lst ds) => if loL S.length ds then .ok (.new ds) (S2.take S.length) else .ok r S2
      | _ => .ok r S2
    | .val d => if lo S.length d then .ok r (S2.take S.length) else .ok r S2
    | .new ds => if loL S.length ds then .ok r (S2.take S.length) else .ok r S2
  else .ok r S2
theorem trim_ok {g : Gm} {α α1 α2 α3 : List Addr} {H H1 H3 : Hp} {S1 S3 : Sto} {r : Er} {v : V} (x1 : Ext α H α1 H1) (w1 : Wd g α1 S1 H1) (h12 : ∃ t, α2 = α1 ++ t) (x2 : Ext α H α2 H1) (x3 : Ext α2 H1 α3 H3) (w3 : Wd g α3 S3 H3) (d : DenE g.K H1 α3 H3 r v) :
    ∃ r' S' α', trimF S1 r S3 = .ok r' S' ∧ Ext α H α' H3 ∧ Wd g α' S' H3 ∧ DenE g.K H α' H3 r' v := by
  have x23 := x2.trans x3
  have dfull : DenE g.K H α3 H3 r v := d.back fun b h => x1.free h
  unfold trimF
  by_cases hc : cutOk S1 S3
  · rw [if_pos hc]
    obtain ⟨t, ht⟩ : ∃ t, α3 = α1 ++ t := by
      obtain ⟨t, e⟩ := h12
      obtain ⟨u, e'⟩ := x3.pre
      exact ⟨t ++ u, by rw [e', e, List.append_assoc]⟩
    have hn : α1.length = S1.length := w1.len
    have xc : Ext α H α1 H3 := ⟨⟨x1.pre, x23.tup, x23.frz⟩, x1.new, x23.keep, x23.has⟩
    have wc : Wd g α1 (S3.take S1.length) H3 := by
      refine ⟨by rw [List.length_take, hn, Nat.min_eq_left hc.1], w1.nd, fun l a o h1 h2 => ?_⟩
      have hl : l < S1.length := by rw [← hn]; exact (List.getElem?_eq_some_iff.mp h1).1
      rw [List.getElem?_take_of_lt hl] at h2
      have h1' : α3[l]? = some a := by rw [ht, List.getElem?_append_left (by rw [hn]; exact hl)]; exact h1
      have q := w3.obj l a o h1' h2
      rw [ht] at q
      refine q.back ?_
      rcases hc.2 l hl with e | ⟨o', e, lo'⟩
      · rw [e] at h2
        exact (w1.obj l a o h1 h2).lo
      · rw [h2] at e
        cases e
        rw [hn]; exact lo'
    have dlo : ∀ d, lo S1.length d → Den g.K α3 H3 d v → DenE g.K H α1 H3 (.val d) v := fun d hd q => .val ((ht ▸ q : Den g.K (α1 ++ t) H3 d v).back (by rw [hn]; exact hd))
    cases r with
    | new ds =>
      dsimp only
      split
      · rename_i hl
        obtain ⟨⟨b, vs, rfl, h1, h2, h3⟩, h4⟩ := dfull
        exact ⟨_, _, α1, rfl, xc, wc, ⟨b, vs, rfl, h1, fun z => h2 (by rw [ht]; exact List.mem_append_left _ z), (ht ▸ h3 : DenL g.K (α1 ++ t) H3 ds vs).back (by rw [hn]; exact hl)⟩, h4⟩
      · exact ⟨_, _, α3, rfl, x23, w3, dfull⟩
    | val mv =>
      have dd : Den g.K α3 H3 mv v := dfull.1
      cases mv with
      | loc l =>
        dsimp only
        split
        · rename_i hl
          exact ⟨_, _, α1, rfl, xc, wc, dlo _ (by unfold lo; exact hl) dd⟩
        · rename_i hl
          obtain ⟨a, rfl, ha⟩ := of_loc dd
          split
          · rename_i ds hS
            split
            · rename_i hlo
              obtain ⟨vs, h1, h2⟩ := w3.obj l a _ ha hS
              have hna : a ∉ α1 := fun z => by
                obtain ⟨m, hm⟩ := List.getElem?_of_mem z
                have hml : m < α1.length := (List.getElem?_eq_some_iff.mp hm).1
                have hm' : α3[m]? = some a := by rw [ht, List.getElem?_append_left hml]; exact hm
                obtain ⟨u1, e1⟩ := List.getElem?_eq_some_iff.mp hm'
                obtain ⟨u2, e2⟩ := List.getElem?_eq_some_iff.mp ha
                have := (List.getElem_inj w3.nd).mp (e1.trans e2.symm)
                omega
              refine ⟨_, _, α1, rfl, xc, wc, ⟨a, vs, rfl, h1, hna, (ht ▸ h2 : DenL g.K (α1 ++ t) H3 ds vs).back (by rw [hn]; exact hlo)⟩, fun b e => ?_⟩
              cases e
              rcases x23.new a (List.mem_of_getElem? ha) with z | z
              · obtain ⟨u, eu⟩ := x1.pre
                exact absurd (by rw [eu]; exact List.mem_append_left _ z) hna
              · exact z
            · exact ⟨_, _, α3, rfl, x23, w3, dfull⟩
          · exact ⟨_, _, α3, rfl, x23, w3, dfull⟩
      | non => dsimp only; split; (· rename_i hl; exact ⟨_, _, α1, rfl, xc, wc, dlo _ hl dd⟩); (· exact ⟨_, _, α3, rfl, x23, w3, dfull⟩)
      | bl b => dsimp only; split; (· rename_i hl; exact ⟨_, _, α1, rfl, xc, wc, dlo _ hl dd⟩); (· exact ⟨_, _, α3, rfl, x23, w3, dfull⟩)
      | int b => dsimp only; split; (· rename_i hl; exact ⟨_, _, α1, rfl, xc, wc, dlo _ hl dd⟩); (· exact ⟨_, _, α3, rfl, x23, w3, dfull⟩)
      | str b => dsimp only; split; (· rename_i hl; exact ⟨_, _, α1, rfl, xc, wc, dlo _ hl dd⟩); (· exact ⟨_, _, α3, rfl, x23, w3, dfull⟩)
      | typ b => dsimp only; split; (· rename_i hl; exact ⟨_, _, α1, rfl, xc, wc, dlo _ hl dd⟩); (· exact ⟨_, _, α3, rfl, x23, w3, dfull⟩)
      | tup b => dsimp only; split; (· rename_i hl; exact ⟨_, _, α1, rfl, xc, wc, dlo _ hl dd⟩); (· exact ⟨_, _, α3, rfl, x23, w3, dfull⟩)
      | scr b => dsimp only; split; (· rename_i hl; exact ⟨_, _, α1, rfl, xc, wc, dlo _ hl dd⟩); (· exact ⟨_, _, α3, rfl, x23, w3, dfull⟩)
  · rw [if_neg hc]
    exact ⟨_, _, α3, rfl, x23, w3, dfull⟩
def spM (g : Gm) (n : Nat) (F : List MV → Sto → R Er) : Sp := fun vs H Q _ => ∃ α S ds, Wd g α S H ∧ DenL g.K α H ds vs ∧ ds.length = n ∧ Post g W0 α H (F ds S) Q
noncomputable def callF (n : Nat) (F : List MV → Sto → R Er) (rs : List Er) (S : Sto) : R Er := if rs.length = n then (noX (F (enterA rs S).1 (enterA rs S).2)).bind fun r S2 => trimF S r S2 else .no
section
variable {X : Cx} {W : XW} {e : Expr} {es : List Expr} {af : Rho → Sto → R (List Er)} {pos : Pos}
theorem call_post {n : Nat} {F : List MV → Sto → R Er} {rs : List Er} {vs : List V} {α α1 : List Addr} {H H1 : Hp} {S1 : Sto} {Q : VK} (x1 : Ext α H α1 H1) (w1 : Wd X.g α1 S1 H1) (d1 : ArgsE X.K H α1 H1 rs vs) (q : Post X.g W α H (callF n F rs S1) Q) :
    spM X.g n F vs H1 Q E0 := by
  unfold callF at q
  split at q
  · rename_i hl
    obtain ⟨α2, x2, y2, w2, l2⟩ := enter_ok w1 x1 d1
    refine ⟨α2, _, _, w2, l2, by rw [enter_len]; exact hl, ?_⟩
    cases z : F (enterA rs S1).1 (enterA rs S1).2 with
    | ok r S3 =>
      rw [z] at q
      intro v α3 H3 x3 w3 d3
      obtain ⟨r', S', α', e', x', w', d'⟩ := trim_ok x1 w1 y2.pre x2 x3 w3 d3
      have q : Post X.g W α H (trimF S1 r S3) Q := q
      rw [e'] at q
      exact q v α' H3 x' w' d'
    | exc c fs S3 => rw [z] at q; exact q.elim
    | no => rw [z] at q; exact q.elim
  · exact q.elim
theorem pm_call {k n : Nat} {fa : Addr} {fd : FuncData} {ps : List Str} {F : List MV → Sto → R Er} {x : Str} {p : Pos} (G : FnOk X.prog X.w X.K X.mg X.base CX0 k fa fd ps (spM X.g n F)) (hr : Room k X.A) (hg : Gl X x) (hm : X.mg x = some (.ref fa))
    (hk : PySem.W.keepIn X.K (.ref fa) = true) (hb : Binds X.K fd ps []) (ha : PAm X W (e :: es) af) (hdb : (x == ("__debug__" : Str)) = false := by decide)
    (he : starEach (e :: es) X.env = (false, eval e X.env) :: starEach es X.env := by rfl) (hpl : (backTo pos (starEach es X.env)).any (·.1) = false := by rfl) :
    PEm X W (.Call (.Name x p) (e :: es) [] pos) (fun ρ S => (af ρ S).bind fun rs S1 => callF n F rs S1) := by
  obtain ⟨t, ha, kk⟩ := ha
  refine ⟨_, pe_call G hr hg hm hk hb .nil pass0 ha hdb he hpl, fun α ρ S σ H Q wd sl q => kk α ρ S σ H _ wd sl (q.bind fun vs rs S1 α1 H1 e1 x1 w1 d1 q1 => ?_)⟩
  rw [List.append_nil]
  exact call_post x1 w1 d1 q1
end
def startR (N : List Str) (ds : List MV) : Rho := ds.map some ++ List.replicate (N.length - ds.length) none
def finF : R Fl → R Er
  | .ok (.next _) S => .ok (.val .non) S
  | .ok (.ret r) S => .ok r S
  | .exc c fs S => .exc c fs S
  | _ => .no
theorem slots_start {K : PySem.W.Frag} {α : List Addr} {N : List Str} {H : Hp} {ds : List MV} {vs : List V} (l : DenL K α H ds vs) : Slots K α H (startR N ds) (start N vs) := by
  have hlen := l.length
  refine ⟨?_, fun i d e => ?_⟩
  · unfold start startR
    rw [List.length_append, List.length_append, List.length_map, List.length_map, List.length_replicate, List.length_replicate, hlen]
  · unfold startR at e
    by_cases hi : i < ds.length
    · rw [List.getElem?_append_left (by simpa using hi), List.getElem?_map] at e
      cases z : ds[i]? with
      | none => rw [z] at e; cases e
      | some d' =>
        rw [z] at e
        obtain ⟨v, h1, h2⟩ := l.at z
        have e' : d' = d := Option.some.inj (Option.some.inj e)
        subst e'
        refine ⟨v, ?_, h2⟩
        unfold start
        rw [List.getElem?_append_left (by rw [List.length_map, hlen]; exact hi), List.getElem?_map, h1]; rfl
    · rw [List.getElem?_append_right (by simpa using hi), List.getElem?_replicate] at e
      split at e <;> cases e
section
variable {P : Program} {w : World} {K : PySem.W.Frag} {mg : Str → Option Value} {base : Heap}
theorem okM {x qual : Str} {st : Stmt} {f : Addr} {fd : FuncData} {N ps : List Str} {k : Nat} (Fb : Rho → Sto → R Fl) (F : Fun K x qual st f fd) (Sc : FnScope N ps (defScope st))
    (hbody : ∀ (cdv : Value) (A : Around) (outer : List Env) (s : Shared) (H : Hp) (E : XK), Room k (A.deeper (envOfC qual (defScope st) s.heap.objs.size f cdv)) →
      PSsm (cxOf CX0 P w K mg base N qual (defScope st) f cdv A outer s H E).nox W0 (defBody st) Fb) :
    FnOk P w K mg base CX0 (k + 1) f fd ps (spM ⟨K, mg, P, w⟩ ps.length fun ds S => finF (Fb (startR N ds) S)) := by
  refine F.ok Sc (fun vs H Q E h => ?_) (fun cdv A outer s H vs Q E hr h => ?_)
  · obtain ⟨α, S, ds, _, l, hl, _⟩ := h
    rw [l.length, hl]
  · obtain ⟨α, S, ds, wd, l, hl, q⟩ := h
    obtain ⟨t, ht, kk⟩ := hbody cdv A outer s H E hr
    refine ⟨t, ht, kk α (startR N ds) S (start N vs) H _ wd (slots_start l) ?_⟩
    dsimp only at q
    cases z : Fb (startR N ds) S with
    | ok fl S' =>
      rw [z] at q
      cases fl with
      | next ρ => exact fun σ α' H' x' w' s' => q .non α' H' x' w' (DenE.val den_non)
      | ret r => exact fun v α' H' x' w' d' => q v α' H' x' w' d'
      | brk ρ => exact q.elim
      | cont ρ => exact q.elim
    | exc c fs S' => rw [z] at q; exact fun α' H' x' w' => q α' H' x' w'
    | no => rw [z] at q; exact q
end
end M
end L2
namespace L2
namespace M
open PySem PySem.Spec PyProof.Rows
inductive Vw where
  | fl (v : V) | tp (ds : List MV) | ls (ds : List MV)
def lsOf (S : Sto) : Er → Option (List MV)
  | .new ds => some ds
  | .val (.scr ds) => some ds
  | .val (.loc l) => match S[l]? with
    | some (.lst ds) => some ds
    | _ => none
  | _ => none
def vwE (S : Sto) : Er → Option Vw
  | .val .non => some (.fl .non)
  | .val (.bl b) => some (.fl (.bl b))
  | .val (.int i) => some (.fl (.int i))
  | .val (.str x) => some (.fl (.str (mkS x)))
  | .val (.tup ds) => some (.tp ds)
  | .val (.typ _) => none
  | r => (lsOf S r).map .ls
def prs (e : MV → MV → Option Bool) : List MV → List MV → Option (List Bool)
  | d :: ds, f :: fs => (e d f).bind fun k => (prs e ds fs).map (k :: ·)
  | _, _ => some []
def eqW (e : MV → MV → Option Bool) : Vw → Vw → Option Bool
  | .fl x, .fl y => some (eqV x y)
  | .tp ds, .tp es => (prs e ds es).map fun bs => bs.all id && ds.length == es.length
  | .ls ds, .ls es => if ds.length = es.length then (prs e ds es).map fun bs => bs.all id else some false
  | _, _ => some false
theorem eqW_tp (e : MV → MV → Option Bool) (ds es : List MV) : eqW e (.tp ds) (.tp es) = (prs e ds es).map fun bs => bs.all id && ds.length == es.length := rfl
theorem eqW_ls (e : MV → MV → Option Bool) (ds es : List MV) : eqW e (.ls ds) (.ls es) = if ds.length = es.length then (prs e ds es).map fun bs => bs.all id else some false := rfl
def eqv (S : Sto) : Nat → MV → MV → Option Bool
  | 0, _, _ => none
  | n + 1, a, b => (vwE S (.val a)).bind fun x => (vwE S (.val b)).bind fun y => eqW (eqv S n) x y
def eqvE (S : Sto) (n : Nat) (a b : Er) : Option Bool := (vwE S a).bind fun x => (vwE S b).bind fun y => eqW (eqv S n) x y
section
variable {X : Cx} {α : List Addr} {S : Sto} {H : Hp}
theorem ls_of {K : PySem.W.Frag} {g : Gm} (hK : g.K = K) (wd : Wd g α S H) {r : Er} {ds : List MV} {x : V} (e : lsOf S r = some ds) (d : DenX K α H r x) : ∃ a vs, x = .ref a ∧ SqL K H a vs ∧ DenL K α H ds vs := by
  subst hK
  unfold lsOf at e
  split at e
  · cases e
    obtain ⟨b, vs, rfl, h, _, l⟩ := d
    exact ⟨b, vs, rfl, .of h, l⟩
  · cases e
    obtain ⟨a, vs, rfl, s, l⟩ := xe_scr d
    exact ⟨a, vs, rfl, s.l, l⟩
  · rename_i n
    obtain ⟨a, rfl, h⟩ := xe_loc d
    split at e
    · rename_i es hS
      cases e
      obtain ⟨vs, h1, l⟩ := wd.obj n a _ h hS
      exact ⟨a, vs, rfl, .of h1, l⟩
    · cases e
  · cases e
theorem vw_fl {r : Er} {x y : V} (e : vwE S r = some (.fl y)) (d : DenX X.K α H r x) : x = y ∧ flatV y = true := by
  unfold vwE at e
  split at e
  · cases e; exact ⟨xe_non d, rfl⟩
  · cases e; exact ⟨xe_bl d, rfl⟩
  · cases e; exact ⟨xe_int d, rfl⟩
  · cases e; exact ⟨xe_str d, rfl⟩
  · cases e
  · cases e
  · cases z : lsOf S r <;> rw [z] at e <;> cases e
theorem vw_tp {r : Er} {x : V} {ds : List MV} (e : vwE S r = some (.tp ds)) (d : DenX X.K α H r x) : ∃ a vs, x = .ref a ∧ SqT X.K H a vs ∧ DenL X.K α H ds vs := by
  unfold vwE at e
  split at e
  · cases e
  · cases e
  · cases e
  · cases e
  · cases e; exact xe_tup d
  · cases e
  · cases z : lsOf S r <;> rw [z] at e <;> cases e
theorem vw_ls (wd : Wd X.g α S H) {r : Er} {x : V} {ds : List MV} (e : vwE S r = some (.ls ds)) (d : DenX X.K α H r x) : ∃ a vs, x = .ref a ∧ SqL X.K H a vs ∧ DenL X.K α H ds vs := by
  unfold vwE at e
  split at e
  · cases e
  · cases e
  · cases e
  · cases e
  · cases e
  · cases e
  · cases z : lsOf S r with
    | none => rw [z] at e; cases e
    | some es => rw [z] at e; cases e; exact ls_of rfl wd z d
theorem prs_len {e : MV → MV → Option Bool} : ∀ {ds es : List MV} {bs : List Bool}, prs e ds es = some bs → bs.length = min ds.length es.length
  | [], _, _, h => by simp [prs] at h; subst h; simp
  | _ :: _, [], _, h => by simp [prs] at h; subst h; simp
  | d :: ds, f :: fs, bs, h => by
    unfold prs at h
    cases z : e d f with
    | none => rw [z] at h; cases h
    | some k =>
      rw [z] at h
      cases z2 : prs e ds fs with
      | none => simp [z2] at h
      | some cs =>
        simp [z2] at h
        subst h
        simp [prs_len z2]
theorem prs_get {e : MV → MV → Option Bool} : ∀ {ds es : List MV} {bs : List Bool} {j : Nat} {d f : MV}, prs e ds es = some bs → ds[j]? = some d → es[j]? = some f → e d f = some (bs.getD j true)
  | [], _, _, _, _, _, h, h1, _ => by simp at h1
  | _ :: _, [], _, _, _, _, h, _, h2 => by simp at h2
  | d :: ds, f :: fs, bs, j, d', f', h, h1, h2 => by
    unfold prs at h
    cases z : e d f with
    | none => rw [z] at h; cases h
    | some k =>
      rw [z] at h
      cases z2 : prs e ds fs with
      | none => simp [z2] at h
      | some cs =>
        simp [z2] at h
        subst h
        cases j with
        | zero => simp at h1 h2; subst h1 h2; simpa using z
        | succ j => simpa using prs_get z2 (by simpa using h1) (by simpa using h2)
theorem range_all {bs : List Bool} {n : Nat} (h : bs.length = n) : (List.range n).all (fun j => bs.getD j true) = bs.all id := by
  subst h
  rw [Bool.eq_iff_iff, List.all_eq_true, List.all_eq_true]
  constructor
  · intro h x hx
    obtain ⟨i, hi, rfl⟩ := List.getElem_of_mem hx
    have := h i (List.mem_range.mpr hi)
    simpa [List.getD_eq_getElem?_getD, hi] using this
  · intro h i hi
    have hi' := List.mem_range.mp hi
    have := h bs[i] (List.getElem_mem hi')
    simpa [List.getD_eq_getElem?_getD, hi'] using this
variable {pins : List (Addr × Obj)} {σ : St} {s : Shared}
theorem not_both (I : Inv X pins σ H s) {a : Addr} {xs ys : List V} (h : SqL X.K H a xs) (h' : SqT X.K H a ys) : False := by
  obtain ⟨_, _, pl, _⟩ := I.list h
  obtain ⟨_, _, pt, _⟩ := I.tuple h'
  obtain ⟨o, n, e, c, _, _⟩ := pl
  obtain ⟨o', e', c', _⟩ := pt
  rw [e] at e'
  cases e'
  rw [c] at c'
  exact absurd c' (by simp)
theorem eqW_same (I : Inv X pins σ H s) (wd : Wd X.g α S H) {e : MV → MV → Option Bool} (he : ∀ d f v k, Den X.K α H d v → Den X.K α H f v → e d f = some k → k = true) {a b : Er} {x : V} {p q : Vw} {k : Bool}
    (ha : vwE S a = some p) (hb : vwE S b = some q) (da : DenX X.K α H a x) (db : DenX X.K α H b x) (h : eqW e p q = some k) : k = true := by
  have hp : ∀ {ds es : List MV} {vs : List V} {bs : List Bool}, DenL X.K α H ds vs → DenL X.K α H es vs → prs e ds es = some bs → bs.all id = true := by
    intro ds es vs bs l1 l2 z
    rw [List.all_eq_true]
    intro k hk
    obtain ⟨i, hi, rfl⟩ := List.getElem_of_mem hk
    have hl := prs_len z
    have h1 : i < ds.length := by omega
    have h2 : i < es.length := by omega
    obtain ⟨v, g1, g2⟩ := l1.at (List.getElem?_eq_getElem h1)
    obtain ⟨v', g3, g4⟩ := l2.at (List.getElem?_eq_getElem h2)
    rw [g1] at g3; cases g3
    have := he _ _ _ _ g2 g4 (prs_get z (List.getElem?_eq_getElem h1) (List.getElem?_eq_getElem h2))
    simpa [List.getD_eq_getElem?_getD, hi] using this
  cases p with
  | fl y =>
    obtain ⟨rfl, f1⟩ := vw_fl ha da
    cases q with
    | fl z => obtain ⟨rfl, f2⟩ := vw_fl hb db; cases h; exact eqV_refl f1
    | tp ds => obtain ⟨a, vs, rfl, _⟩ := vw_tp hb db; exact absurd (show false = true from f1) Bool.false_ne_true
    | ls ds => obtain ⟨a, vs, rfl, _⟩ := vw_ls wd hb db; exact absurd (show false = true from f1) Bool.false_ne_true
  | tp ds =>
    obtain ⟨a1, vs, rfl, s1, l1⟩ := vw_tp ha da
    cases q with
    | fl z => obtain ⟨rfl, f2⟩ := vw_fl hb db; exact absurd (show false = true from f2) Bool.false_ne_true
    | tp es =>
      obtain ⟨a2, us, e2, s2, l2⟩ := vw_tp hb db
      cases e2
      cases I.tuple_inj s1 s2
      rw [eqW_tp] at h
      cases z : prs e ds es with
      | none => rw [z] at h; cases h
      | some bs =>
        rw [z] at h
        cases h
        show (bs.all id && ds.length == es.length) = true
        rw [hp l1 l2 z, ← l1.length, ← l2.length]; simp
    | ls es => obtain ⟨a2, us, e2, s2, l2⟩ := vw_ls wd hb db; cases e2; exact (not_both I s2 s1).elim
  | ls ds =>
    obtain ⟨a1, vs, rfl, s1, l1⟩ := vw_ls wd ha da
    cases q with
    | fl z => obtain ⟨rfl, f2⟩ := vw_fl hb db; exact absurd (show false = true from f2) Bool.false_ne_true
    | tp es => obtain ⟨a2, us, e2, s2, l2⟩ := vw_tp hb db; cases e2; exact (not_both I s1 s2).elim
    | ls es =>
      obtain ⟨a2, us, e2, s2, l2⟩ := vw_ls wd hb db
      cases e2
      cases I.list_inj s1 s2
      rw [eqW_ls] at h
      rw [if_pos (by rw [← l1.length, ← l2.length])] at h
      cases z : prs e ds es with
      | none => rw [z] at h; cases h
      | some bs => rw [z] at h; cases h; exact hp l1 l2 z
theorem eqv_same (I : Inv X pins σ H s) (wd : Wd X.g α S H) : ∀ (n : Nat) (d f : MV) (v : V) (k : Bool), Den X.K α H d v → Den X.K α H f v → eqv S n d f = some k → k = true
  | 0, _, _, _, _, _, _, h => by cases h
  | n + 1, d, f, v, k, h1, h2, h => by
    unfold eqv at h
    cases za : vwE S (.val d) with
    | none => rw [za] at h; cases h
    | some p =>
      cases zb : vwE S (.val f) with
      | none => rw [za, zb] at h; cases h
      | some q =>
        rw [za, zb] at h
        exact eqW_same I wd (eqv_same I wd n) za zb (a := .val d) (b := .val f) h1 h2 h
theorem items_at {e : MV → MV → Option Bool} {A : Around} (he : ∀ d f x y u v k, Den X.K α H d x → Den X.K α H f y → RelV x u → RelV y v → e d f = some k → SeqAt.EqAt A s u v k)
    {ds es : List MV} {vs us : List V} {its its2 : List Value} {bs : List Bool} (l1 : DenL X.K α H ds vs) (l2 : DenL X.K α H es us) (r1 : Vals vs its) (r2 : Vals us its2) (z : prs e ds es = some bs) :
    ∀ j (h1 : j < its.toArray.size) (h2 : j < its2.toArray.size), SeqAt.EqAt A s its.toArray[j] its2.toArray[j] (bs.getD j true) := by
  intro j h1 h2
  have g1 : j < vs.length := by rw [r1.length]; simpa using h1
  have g2 : j < us.length := by rw [r2.length]; simpa using h2
  obtain ⟨d, d1, d2⟩ := l1.get (List.getElem?_eq_getElem g1)
  obtain ⟨f, f1, f2⟩ := l2.get (List.getElem?_eq_getElem g2)
  obtain ⟨u, u1, u2⟩ := r1.get (List.getElem?_eq_getElem g1)
  obtain ⟨v, v1, v2⟩ := r2.get (List.getElem?_eq_getElem g2)
  have e1 : its.toArray[j] = u := by
    have : its[j]? = some (its[j]'(by simpa using h1)) := List.getElem?_eq_getElem _
    rw [u1] at this
    simpa using (Option.some.inj this).symm
  have e2 : its2.toArray[j] = v := by
    have : its2[j]? = some (its2[j]'(by simpa using h2)) := List.getElem?_eq_getElem _
    rw [v1] at this
    simpa using (Option.some.inj this).symm
  rw [e1, e2]
  exact he d f _ _ u v _ d2 f2 u2 v2 (prs_get z d1 f1)
theorem eqAt_m (I : Inv X pins σ H s) (wd : Wd X.g α S H) : ∀ (n : Nat) (A : Around) (d f : MV) (x y : V) (u v : Value) (k : Bool), A.units + n < cLine → Den X.K α H d x → Den X.K α H f y → RelV x u → RelV y v → eqv S n d f = some k → SeqAt.EqAt A s u v k
  | 0, _, _, _, _, _, _, _, _, _, _, _, _, _, h => by cases h
  | n + 1, A, d, f, x, y, u, v, k, hu, h1, h2, rx, ry, h => by
    have hu0 : A.units < cLine := by omega
    have hsame := h
    unfold eqv at h
    cases za : vwE S (.val d) with
    | none => rw [za] at h; cases h
    | some p =>
      cases zb : vwE S (.val f) with
      | none => rw [za, zb] at h; cases h
      | some q =>
        rw [za, zb] at h
        have h : eqW (eqv S n) p q = some k := h
        have he := fun d f x y u v k a b c d' e => eqAt_m I wd n A.in1 d f x y u v k (show A.units + 1 + n < cLine by omega) a b c d' e
        cases p with
        | fl x' =>
          obtain ⟨rfl, fx⟩ := vw_fl za (α := α) (H := H) (X := X) h1
          cases q with
          | fl y' => obtain ⟨rfl, fy⟩ := vw_fl zb (α := α) (H := H) (X := X) h2; cases h; exact eqAt_V rx ry fx fy
          | tp es =>
            obtain ⟨b, us, rfl, s2, l2⟩ := vw_tp zb (α := α) (H := H) (X := X) h2
            cases ry; cases h
            obtain ⟨its, _, pt, _⟩ := I.tuple s2
            exact eq_tr rx fx pt hu0
          | ls es =>
            obtain ⟨b, us, rfl, s2, l2⟩ := vw_ls wd zb h2
            cases ry; cases h
            obtain ⟨its, _, pl, _⟩ := I.list s2
            exact eq_lr rx fx pl.isList hu0
        | tp ds =>
          obtain ⟨a, vs, rfl, s1, l1⟩ := vw_tp za (α := α) (H := H) (X := X) h1
          cases rx
          obtain ⟨its, r1, pt, _⟩ := I.tuple s1
          cases q with
          | fl y' => obtain ⟨rfl, fy⟩ := vw_fl zb (α := α) (H := H) (X := X) h2; cases h; exact eq_tl ry fy pt hu0
          | tp es =>
            obtain ⟨b, us, rfl, s2, l2⟩ := vw_tp zb (α := α) (H := H) (X := X) h2
            cases ry
            by_cases hab : a = b
            · subst hab
              rw [eqv_same I wd (n + 1) d f _ k h1 h2 hsame]
              exact SeqAt.EqAt.same _
            · obtain ⟨its2, r2, pt2, _⟩ := I.tuple s2
              rw [eqW_tp] at h
              cases z : prs (eqv S n) ds es with
              | none => rw [z] at h; cases h
              | some bs =>
                rw [z] at h
                cases h
                have := SeqAt.RcAt.tuples pt pt2 hu0 (items_at he l1 l2 r1 r2 z)
                have hl := prs_len z
                rw [range_all (by rw [hl]; simp [← r1.length, ← r2.length, l1.length, l2.length])] at this
                have e3 : (its.toArray.size == its2.toArray.size) = (ds.length == es.length) := by simp [← r1.length, ← r2.length, l1.length, l2.length]
                rw [e3] at this
                exact SeqAt.EqAt.of_refs hab this
          | ls es =>
            obtain ⟨b, us, rfl, s2, l2⟩ := vw_ls wd zb h2
            cases ry; cases h
            obtain ⟨its2, _, pl, _⟩ := I.list s2
            exact SeqAt.EqAt.tuple_list pt pl.isList hu0
        | ls ds =>
          obtain ⟨a, vs, rfl, s1, l1⟩ := vw_ls wd za h1
          cases rx
          obtain ⟨its, r1, pl, _⟩ := I.list s1
          cases q with
          | fl y' => obtain ⟨rfl, fy⟩ := vw_fl zb (α := α) (H := H) (X := X) h2; cases h; exact eq_ll ry fy pl.isList hu0
          | tp es =>
            obtain ⟨b, us, rfl, s2, l2⟩ := vw_tp zb (α := α) (H := H) (X := X) h2
            cases ry; cases h
            obtain ⟨its2, _, pt, _⟩ := I.tuple s2
            exact SeqAt.EqAt.list_tuple pl.isList pt hu0
          | ls es =>
            obtain ⟨b, us, rfl, s2, l2⟩ := vw_ls wd zb h2
            cases ry
            by_cases hab : a = b
            · subst hab
              rw [eqv_same I wd (n + 1) d f _ k h1 h2 hsame]
              exact SeqAt.EqAt.same _
            · obtain ⟨its2, r2, pl2, _⟩ := I.list s2
              rw [eqW_ls] at h
              by_cases hl : ds.length = es.length
              · rw [if_pos hl] at h
                cases z : prs (eqv S n) ds es with
                | none => rw [z] at h; cases h
                | some bs =>
                  rw [z] at h
                  cases h
                  have hs : its.toArray.size = its2.toArray.size := by simp [← r1.length, ← r2.length, l1.length, l2.length, hl]
                  have := SeqAt.RcAt.lists pl.isList pl2.isList hs hu0 (items_at he l1 l2 r1 r2 z)
                  have hl' := prs_len z
                  rw [range_all (by rw [hl']; simp [← r1.length, l1.length, hl])] at this
                  exact SeqAt.EqAt.of_refs hab this
              · rw [if_neg hl] at h
                cases h
                exact SeqAt.EqAt.of_refs hab (SeqAt.RcAt.lists_lengths pl.isList pl2.isList (by simpa [← r1.length, ← r2.length, l1.length, l2.length] using hl) hu0)
theorem top_m {RC : Around → Shared → Value → Value → Bool → Prop} {tr : Bool → Bool} {A : Around}
    (hff : ∀ x y u v, RelV x u → RelV y v → flatV x = true → flatV y = true → RC A s u v (tr (eqV x y)))
    (hfl : ∀ x v l items, RelV x v → flatV x = true → s.heap.IsList l items → A.units < cLine → RC A s v (.ref l) (tr false) ∧ RC A s (.ref l) v (tr false))
    (hft : ∀ x v l items, RelV x v → flatV x = true → s.heap.IsTuple l items → A.units < cLine → RC A s v (.ref l) (tr false) ∧ RC A s (.ref l) v (tr false))
    (hlt : ∀ l b items items2, s.heap.IsList l items → s.heap.IsTuple b items2 → A.units < cLine → RC A s (.ref l) (.ref b) (tr false) ∧ RC A s (.ref b) (.ref l) (tr false))
    (htt : ∀ (l b : Addr) (items items2 : Array Value) (e : Nat → Bool), s.heap.IsTuple l items → s.heap.IsTuple b items2 → A.units < cLine → (∀ j (h1 : j < items.size) (h2 : j < items2.size), SeqAt.EqAt A.in1 s items[j] items2[j] (e j)) → RC A s (.ref l) (.ref b) (tr ((List.range (min items.size items2.size)).all e && items.size == items2.size)))
    (hll : ∀ (l b : Addr) (items items2 : Array Value) (e : Nat → Bool), s.heap.IsList l items → s.heap.IsList b items2 → items.size = items2.size → A.units < cLine → (∀ j (h1 : j < items.size) (h2 : j < items2.size), SeqAt.EqAt A.in1 s items[j] items2[j] (e j)) → RC A s (.ref l) (.ref b) (tr ((List.range items.size).all e)))
    (hln : ∀ (l b : Addr) (items items2 : Array Value), s.heap.IsList l items → s.heap.IsList b items2 → (items.size != items2.size) = true → A.units < cLine → RC A s (.ref l) (.ref b) (tr false))
    (I : Inv X pins σ H s) (wd : Wd X.g α S H) (n : Nat) {a b : Er} {x y : V} {u v : Value} {k : Bool} (hu : A.units + (n + 1) < cLine) (h1 : DenX X.K α H a x) (h2 : DenX X.K α H b y) (rx : RelV x u) (ry : RelV y v) (h : eqvE S n a b = some k) : RC A s u v (tr k) := by
  have hu0 : A.units < cLine := by omega
  unfold eqvE at h
  cases za : vwE S a with
  | none => rw [za] at h; cases h
  | some p =>
    cases zb : vwE S b with
    | none => rw [za, zb] at h; cases h
    | some q =>
      rw [za, zb] at h
      have h : eqW (eqv S n) p q = some k := h
      have he := fun d f x y u v k a b c d' e => eqAt_m I wd n A.in1 d f x y u v k (show A.units + 1 + n < cLine by omega) a b c d' e
      cases p with
      | fl x' =>
        obtain ⟨rfl, fx⟩ := vw_fl za h1
        cases q with
        | fl y' => obtain ⟨rfl, fy⟩ := vw_fl zb h2; cases h; exact hff _ _ _ _ rx ry fx fy
        | tp es =>
          obtain ⟨b, us, rfl, s2, l2⟩ := vw_tp zb h2
          cases ry; cases h
          obtain ⟨its, _, pt, _⟩ := I.tuple s2
          exact (hft _ _ _ _ rx fx pt hu0).1
        | ls es =>
          obtain ⟨b, us, rfl, s2, l2⟩ := vw_ls wd zb h2
          cases ry; cases h
          obtain ⟨its, _, pl, _⟩ := I.list s2
          exact (hfl _ _ _ _ rx fx pl.isList hu0).1
      | tp ds =>
        obtain ⟨a, vs, rfl, s1, l1⟩ := vw_tp za h1
        cases rx
        obtain ⟨its, r1, pt, _⟩ := I.tuple s1
        cases q with
        | fl y' => obtain ⟨rfl, fy⟩ := vw_fl zb h2; cases h; exact (hft _ _ _ _ ry fy pt hu0).2
        | tp es =>
          obtain ⟨b, us, rfl, s2, l2⟩ := vw_tp zb h2
          cases ry
          obtain ⟨its2, r2, pt2, _⟩ := I.tuple s2
          rw [eqW_tp] at h
          cases z : prs (eqv S n) ds es with
          | none => rw [z] at h; cases h
          | some bs =>
            rw [z] at h
            cases h
            have := htt _ _ _ _ _ pt pt2 hu0 (items_at he l1 l2 r1 r2 z)
            have hl := prs_len z
            rw [range_all (by rw [hl]; simp [← r1.length, ← r2.length, l1.length, l2.length])] at this
            have e3 : (its.toArray.size == its2.toArray.size) = (ds.length == es.length) := by simp [← r1.length, ← r2.length, l1.length, l2.length]
            rw [e3] at this
            exact this
        | ls es =>
          obtain ⟨b, us, rfl, s2, l2⟩ := vw_ls wd zb h2
          cases ry; cases h
          obtain ⟨its2, _, pl, _⟩ := I.list s2
          exact (hlt _ _ _ _ pl.isList pt hu0).2
      | ls ds =>
        obtain ⟨a, vs, rfl, s1, l1⟩ := vw_ls wd za h1
        cases rx
        obtain ⟨its, r1, pl, _⟩ := I.list s1
        cases q with
        | fl y' => obtain ⟨rfl, fy⟩ := vw_fl zb h2; cases h; exact (hfl _ _ _ _ ry fy pl.isList hu0).2
        | tp es =>
          obtain ⟨b, us, rfl, s2, l2⟩ := vw_tp zb h2
          cases ry; cases h
          obtain ⟨its2, _, pt, _⟩ := I.tuple s2
          exact (hlt _ _ _ _ pl.isList pt hu0).1
        | ls es =>
          obtain ⟨b, us, rfl, s2, l2⟩ := vw_ls wd zb h2
          cases ry
          obtain ⟨its2, r2, pl2, _⟩ := I.list s2
          rw [eqW_ls] at h
          by_cases hl : ds.length = es.length
          · rw [if_pos hl] at h
            cases z : prs (eqv S n) ds es with
            | none => rw [z] at h; cases h
            | some bs =>
              rw [z] at h
              cases h
              have hs : its.toArray.size = its2.toArray.size := by simp [← r1.length, ← r2.length, l1.length, l2.length, hl]
              have := hll _ _ _ _ _ pl.isList pl2.isList hs hu0 (items_at he l1 l2 r1 r2 z)
              have hl' := prs_len z
              rw [range_all (by rw [hl']; simp [← r1.length, l1.length, hl])] at this
              exact this
          · rw [if_neg hl] at h
            cases h
            exact hln _ _ _ _ pl.isList pl2.isList (by simpa [← r1.length, ← r2.length, l1.length, l2.length] using hl) hu0
theorem rcAt_m (I : Inv X pins σ H s) (wd : Wd X.g α S H) (n : Nat) {A : Around} {a b : Er} {x y : V} {u v : Value} {k : Bool} (hu : A.units + (n + 1) < cLine) (h1 : DenX X.K α H a x) (h2 : DenX X.K α H b y) (rx : RelV x u) (ry : RelV y v) (h : eqvE S n a b = some k) : SeqAt.RcAt A s u v k :=
  top_m (RC := SeqAt.RcAt) (tr := id) (fun _ _ _ _ a b c d => rcAt_V a b c d) (fun _ _ _ _ a b c d => ⟨rc_lr a b c d, rc_ll a b c d⟩) (fun _ _ _ _ a b c d => ⟨rc_tr a b c d, rc_tl a b c d⟩)
    (fun _ _ _ _ a b c => ⟨SeqAt.RcAt.list_tuple a b c, SeqAt.RcAt.tuple_list b a c⟩) (fun _ _ _ _ _ a b c d => SeqAt.RcAt.tuples a b c d) (fun _ _ _ _ _ a b c d e => SeqAt.RcAt.lists a b c d e) (fun _ _ _ _ a b c d => SeqAt.RcAt.lists_lengths a b c d)
    I wd n hu h1 h2 rx ry h
theorem rnAt_m (I : Inv X pins σ H s) (wd : Wd X.g α S H) (n : Nat) {A : Around} {a b : Er} {x y : V} {u v : Value} {k : Bool} (hu : A.units + (n + 1) < cLine) (h1 : DenX X.K α H a x) (h2 : DenX X.K α H b y) (rx : RelV x u) (ry : RelV y v) (h : eqvE S n a b = some k) : SeqAt.RcNeAt A s u v (!k) :=
  top_m (RC := SeqAt.RcNeAt) (tr := fun b => !b) (fun _ _ _ _ a b c d => rnAt_V a b c d) (fun _ _ _ _ a b c d => ⟨rn_lr a b c d, rn_ll a b c d⟩) (fun _ _ _ _ a b c d => ⟨rn_tr a b c d, rn_tl a b c d⟩)
    (fun _ _ _ _ a b c => ⟨SeqAt.RcNeAt.list_tuple a b c, SeqAt.RcNeAt.tuple_list b a c⟩) (fun _ _ _ _ _ a b c d => SeqAt.RcNeAt.tuples a b c d) (fun _ _ _ _ _ a b c d e => SeqAt.RcNeAt.lists a b c d e) (fun _ _ _ _ a b c d => SeqAt.RcNeAt.lists_lengths a b c d)
    I wd n hu h1 h2 rx ry h
mutual
theorem Den.inj (I : Inv X pins σ H s) (wd : Wd X.g α S H) : ∀ {d f : MV} {v : V}, Den X.K α H d v → Den X.K α H f v → d = f
  | .non, f, v, h, h' => by cases of_non h; cases f <;> first | rfl | (have := of_bl h'; cases this; done) | (have := of_int h'; cases this; done) | (have := of_str h'; cases this; done) | (have := of_typ h'; cases this; done) | (obtain ⟨_, _, e, _⟩ := of_tup h'; cases e; done) | (obtain ⟨_, _, e, _⟩ := of_scr h'; cases e; done) | (obtain ⟨_, e, _⟩ := of_loc h'; cases e; done)
  | .bl b, f, v, h, h' => by cases of_bl h; cases f <;> first | (have := of_bl h'; cases this; rfl; done) | (have := of_non h'; cases this; done) | (have := of_int h'; cases this; done) | (have := of_str h'; cases this; done) | (have := of_typ h'; cases this; done) | (obtain ⟨_, _, e, _⟩ := of_tup h'; cases e; done) | (obtain ⟨_, _, e, _⟩ := of_scr h'; cases e; done) | (obtain ⟨_, e, _⟩ := of_loc h'; cases e; done)
  | .int b, f, v, h, h' => by cases of_int h; cases f <;> first | (have := of_int h'; cases this; rfl; done) | (have := of_non h'; cases this; done) | (have := of_bl h'; cases this; done) | (have := of_str h'; cases this; done) | (have := of_typ h'; cases this; done) | (obtain ⟨_, _, e, _⟩ := of_tup h'; cases e; done) | (obtain ⟨_, _, e, _⟩ := of_scr h'; cases e; done) | (obtain ⟨_, e, _⟩ := of_loc h'; cases e; done)
  | .str b, f, v, h, h' => by cases of_str h; cases f <;> first | (have := of_str h'; rw [mkS_inj (V.str.inj this)]; done) | (have := of_non h'; cases this; done) | (have := of_bl h'; cases this; done) | (have := of_int h'; cases this; done) | (have := of_typ h'; cases this; done) | (obtain ⟨_, _, e, _⟩ := of_tup h'; cases e; done) | (obtain ⟨_, _, e, _⟩ := of_scr h'; cases e; done) | (obtain ⟨_, e, _⟩ := of_loc h'; cases e; done)
  | .typ b, f, v, h, h' => by cases of_typ h; cases f <;> first | (have := of_typ h'; cases this; rfl; done) | (have := of_non h'; cases this; done) | (have := of_bl h'; cases this; done) | (have := of_int h'; cases this; done) | (have := of_str h'; cases this; done) | (obtain ⟨_, _, e, _⟩ := of_tup h'; cases e; done) | (obtain ⟨_, _, e, _⟩ := of_scr h'; cases e; done) | (obtain ⟨_, e, _⟩ := of_loc h'; cases e; done)
  | .tup ds, f, v, h, h' => by
    obtain ⟨a, vs, rfl, s1, l1⟩ := of_tup h
    cases f with
    | tup es =>
      obtain ⟨a2, us, e2, s2, l2⟩ := of_tup h'
      cases e2
      cases I.tuple_inj s1 s2
      rw [DenL.inj I wd l1 l2]
    | scr es => obtain ⟨a2, us, e2, s2, l2⟩ := of_scr h'; cases e2; exact (not_both I s2.l s1).elim
    | loc l =>
      obtain ⟨a2, e2, h2⟩ := of_loc h'
      cases e2
      obtain ⟨ho, k1, k2, k3⟩ := wd.mem (List.mem_of_getElem? h2)
      rcases s1 with (s1 | ⟨o, s1⟩) | ⟨o, its, n, s1, _⟩
      · rw [k1] at s1; exact absurd (Option.some.inj s1) (k2 _)
      · rw [k1] at s1; exact absurd (Option.some.inj s1) (k3 _ _)
      · have := (I.bs a o (I.mod.kin a o s1)).2; rw [k1] at this; cases this
    | non => cases of_non h'
    | bl b => cases of_bl h'
    | int b => cases of_int h'
    | str b => cases of_str h'
    | typ b => cases of_typ h'
  | .scr ds, f, v, h, h' => by
    obtain ⟨a, vs, rfl, s1, l1⟩ := of_scr h
    cases f with
    | scr es =>
      obtain ⟨a2, us, e2, s2, l2⟩ := of_scr h'
      cases e2
      cases I.list_inj s1.l s2.l
      rw [DenL.inj I wd l1 l2]
    | tup es => obtain ⟨a2, us, e2, s2, l2⟩ := of_tup h'; cases e2; exact (not_both I s1.l s2).elim
    | loc l =>
      obtain ⟨a2, e2, h2⟩ := of_loc h'
      cases e2
      obtain ⟨ho, k1, k2, k3⟩ := wd.mem (List.mem_of_getElem? h2)
      rcases s1 with ⟨o, s1⟩ | ⟨o, its, n, s1, _⟩
      · rw [k1] at s1; exact absurd (Option.some.inj s1) (k3 _ _)
      · have := (I.bs a o (I.mod.kin a o s1)).2; rw [k1] at this; cases this
    | non => cases of_non h'
    | bl b => cases of_bl h'
    | int b => cases of_int h'
    | str b => cases of_str h'
    | typ b => cases of_typ h'
  | .loc l, f, v, h, h' => by
    obtain ⟨a, rfl, h1⟩ := of_loc h
    obtain ⟨ho, k1, k2, k3⟩ := wd.mem (List.mem_of_getElem? h1)
    cases f with
    | loc m =>
      obtain ⟨a2, e2, h2⟩ := of_loc h'
      cases e2
      by_cases hlm : l = m
      · rw [hlm]
      · exact absurd rfl (wd.ne h1 h2 hlm)
    | tup es =>
      obtain ⟨a2, us, e2, s1, l2⟩ := of_tup h'
      cases e2
      rcases s1 with (s1 | ⟨o, s1⟩) | ⟨o, its, n, s1, _⟩
      · rw [k1] at s1; exact absurd (Option.some.inj s1) (k2 _)
      · rw [k1] at s1; exact absurd (Option.some.inj s1) (k3 _ _)
      · have := (I.bs a o (I.mod.kin a o s1)).2; rw [k1] at this; cases this
    | scr es =>
      obtain ⟨a2, us, e2, s1, l2⟩ := of_scr h'
      cases e2
      rcases s1 with ⟨o, s1⟩ | ⟨o, its, n, s1, _⟩
      · rw [k1] at s1; exact absurd (Option.some.inj s1) (k3 _ _)
      · have := (I.bs a o (I.mod.kin a o s1)).2; rw [k1] at this; cases this
    | non => cases of_non h'
    | bl b => cases of_bl h'
    | int b => cases of_int h'
    | str b => cases of_str h'
    | typ b => cases of_typ h'
theorem DenL.inj (I : Inv X pins σ H s) (wd : Wd X.g α S H) : ∀ {ds fs : List MV} {vs : List V}, DenL X.K α H ds vs → DenL X.K α H fs vs → ds = fs
  | [], fs, vs, h, h' => by
    cases h.isnil
    cases fs with
    | nil => rfl
    | cons f fs => obtain ⟨_, _, e, _⟩ := h'.uncons; cases e
  | d :: ds, fs, vs, h, h' => by
    obtain ⟨v, r, rfl, a, l⟩ := h.uncons
    cases fs with
    | nil => cases h'.isnil
    | cons f fs =>
      obtain ⟨v', r', e, a', l'⟩ := h'.uncons
      cases e
      rw [Den.inj I wd a a', DenL.inj I wd l l']
end
end
end M
end L2
namespace L2
namespace M
open PySem PySem.Spec PyProof.Rows
inductive LexR (A : Around) (s : Shared) : List Value → List Value → Bool → Prop
  | nn : LexR A s [] [] false
  | nc (x xs) : LexR A s [] (x :: xs) true
  | cn (y ys) : LexR A s (y :: ys) [] false
  | eq {y x ys xs k} : SeqAt.EqAt A s y x true → LexR A s ys xs k → LexR A s (y :: ys) (x :: xs) k
  | ne {y x ys xs k} : SeqAt.EqAt A s y x false → (∀ (prog : Program) (w : World) (E Q : Value → Shared → Prop), Q (.bool k) s → wpAny (model prog w) A (richCompare .Lt y x) Q E s) → LexR A s (y :: ys) (x :: xs) k
section
open PySem.SeqAt
open PySem.AutoSeq1 (wpAny_loadPart')
open PySem.MeetsSeq PySem.MeetsSeq2 PySem.MeetsSeq3
theorem tuple_ltAt (l b : Addr) (its its2 : Array Value) (n n2 : Nat) (dd dd2 : Option Addr) (sl sl2 : Array (Option Value)) (k : Bool) :
    Meets (Builtin.«tuple.__lt__» ⟨[.ref l, .ref b], []⟩)
      (fun A R s => s.heap.get? l = some { cls := .type "tuple", dict := dd, data := .seq its n, slots := sl } ∧ s.heap.get? b = some { cls := .type "tuple", dict := dd2, data := .seq its2 n2, slots := sl2 } ∧
        LexR A.in1 s its.toList its2.toList k ∧ R (.ok (.ret (.bool k))) s) :=
  .of_wp fun prog w A R s h => by
    obtain ⟨hp, g, d, tk, os⟩ := s; obtain ⟨hl, hb, hx, h⟩ := h
    have f2 := AutoSeq1.sub_tuple_tuple
    wp_walk using wpAny_loadPart' hl, wpAny_loadPart' hb, wpAny_forIn_list _ (fun rest b s' => b.1 = none ∧ s' = ⟨hp, g, d, tk, os⟩ ∧ ∃ (vs ws : List Value), rest = vs.zip ws ∧
      LexR A.in1 ⟨hp, g, d, tk, os⟩ vs ws k ∧ vs.length + its2.size = ws.length + its.size) _
    case turn =>
      rintro ⟨y, x⟩ rest b s' ⟨hb', rfl, vs, ws, hz, hlx, hlen⟩
      cases hlx with
      | nn => rw [List.zip_nil_left] at hz; cases hz
      | nc x xs => rw [List.zip_nil_left] at hz; cases hz
      | cn y ys => rw [List.zip_nil_right] at hz; cases hz
      | @eq y' x' ys xs k' he hr =>
        rw [List.zip_cons_cons] at hz
        injection hz with hyx hrest
        injection hyx with hy hx
        subst hy hx
        simp only [List.length_cons] at hlen
        refine wpAny_bind (he prog w _ _ ?_)
        wp_walk
        exact ⟨rfl, rfl, _, _, hrest, hr, by omega⟩
      | @ne y' x' ys xs k' he hr =>
        rw [List.zip_cons_cons] at hz
        injection hz with hyx hrest
        injection hyx with hy hx
        subst hy hx
        refine wpAny_bind (he prog w _ _ ?_)
        have hri := hr prog w
        wp_walk using hri
        exact ⟨_, rfl, by simpa using h⟩
    case fin =>
      rintro ⟨b1, b2⟩ s' ⟨hb', rfl, vs, ws, hz, hlx, hlen⟩
      simp only at hb'
      subst hb'
      have hv : k = decide (its.size < its2.size) := by
        cases hlx with
        | nn => simp only [List.length_nil] at hlen; exact (decide_eq_false (by omega)).symm
        | nc x xs => simp only [List.length_nil, List.length_cons] at hlen; exact (decide_eq_true (by omega)).symm
        | cn y ys => simp only [List.length_nil, List.length_cons] at hlen; exact (decide_eq_false (by omega)).symm
        | eq he hr => rw [List.zip_cons_cons] at hz; cases hz
        | ne he hr => rw [List.zip_cons_cons] at hz; cases hz
      rw [hv] at h
      wp_walk
      exact ⟨_, rfl, by simpa [Builtin.Tuple.tupleCompareSizes] using h⟩
    case h =>
      exact ⟨rfl, rfl, its.toList, its2.toList, rfl, hx, by simp; omega⟩
end
theorem rcLt_tup {A : Around} {s : Shared} {l b : Addr} {its its2 : Array Value} {k : Bool} (hl : IsTup s.heap l its) (hb : IsTup s.heap b its2) (hx : LexR A.in1 s its.toList its2.toList k) (hu : A.units < cLine) (prog : Program) (w : World) (E Q : Value → Shared → Prop) (h : Q (.bool k) s) :
    wpAny (model prog w) A (richCompare .Lt (.ref l) (.ref b)) Q E s := by
  obtain ⟨⟨cls, dd, data, sl⟩, ho, hc, n, hd⟩ := id hl
  obtain ⟨⟨cls2, dd2, data2, sl2⟩, ho2, hc2, n2, hd2⟩ := id hb
  simp only at hc hd hc2 hd2
  subst hc hd hc2 hd2
  exact richCompare_meets_room (op := .Lt) ⟨_, ho, rfl⟩ ⟨_, ho2, rfl⟩ PySem.F.slot_tuple_lt PySem.F.entry_tuple_lt (PySem.F.args_tuple_lt_2 _ _) (tuple_ltAt l b its its2 n n2 dd dd2 sl sl2 k)
    ⟨ho, ho2, hx, show Value.bool k ≠ Value.notImplemented ∧ Q (.bool k) s from ⟨(fun x => nomatch x), h⟩⟩ hu
def lexv (e l : MV → MV → Option Bool) : List MV → List MV → Option Bool
  | [], [] => some false
  | [], _ :: _ => some true
  | _ :: _, [] => some false
  | d :: ds, f :: fs => (e d f).bind fun k => if k = true then lexv e l ds fs else l d f
def ltv (S : Sto) : Nat → MV → MV → Option Bool
  | 0, _, _ => none
  | n + 1, .int i, .int j => some (decide (i < j))
  | n + 1, .str x, .str y => some (decide (x < y))
  | n + 1, .tup ds, .tup es => lexv (eqv S n) (ltv S n) ds es
  | _, _, _ => none
section
variable {X : Cx} {α : List Addr} {S : Sto} {H : Hp} {pins : List (Addr × Obj)} {σ : St} {s : Shared}
theorem lex_m {A : Around} {e l : MV → MV → Option Bool} (he : ∀ d f x y u v k, Den X.K α H d x → Den X.K α H f y → RelV x u → RelV y v → e d f = some k → SeqAt.EqAt A s u v k)
    (hl : ∀ d f x y u v k, Den X.K α H d x → Den X.K α H f y → RelV x u → RelV y v → l d f = some k → ∀ (prog : Program) (w : World) (E Q : Value → Shared → Prop), Q (.bool k) s → wpAny (model prog w) A (richCompare .Lt u v) Q E s) :
    ∀ {ds fs : List MV} {vs us : List V} {its its2 : List Value} {k : Bool}, DenL X.K α H ds vs → DenL X.K α H fs us → Vals vs its → Vals us its2 → lexv e l ds fs = some k → LexR A s its its2 k
  | [], [], _, _, _, _, k, l1, l2, r1, r2, h => by
    cases l1.isnil; cases l2.isnil; cases r1; cases r2; cases h; exact .nn
  | [], f :: fs, _, _, _, _, k, l1, l2, r1, r2, h => by
    cases l1.isnil
    obtain ⟨v, r, rfl, a, l⟩ := l2.uncons
    cases r1
    cases r2 with
    | cons a b => cases h; exact .nc _ _
  | d :: ds, [], _, _, _, _, k, l1, l2, r1, r2, h => by
    cases l2.isnil
    obtain ⟨v, r, rfl, a, l⟩ := l1.uncons
    cases r2
    cases r1 with
    | cons a b => cases h; exact .cn _ _
  | d :: ds, f :: fs, _, _, _, _, k, l1, l2, r1, r2, h => by
    obtain ⟨v, r, rfl, a, l1'⟩ := l1.uncons
    obtain ⟨v2, r3, rfl, a2, l2'⟩ := l2.uncons
    cases r1 with
    | cons b1 c1 =>
      cases r2 with
      | cons b2 c2 =>
        unfold lexv at h
        cases z : e d f with
        | none => rw [z] at h; cases h
        | some kk =>
          rw [z] at h
          have h : (if kk = true then lexv e l ds fs else l d f) = some k := h
          cases kk with
          | true =>
            rw [if_pos rfl] at h
            exact .eq (he d f _ _ _ _ _ a a2 b1 b2 z) (lex_m he hl l1' l2' c1 c2 h)
          | false =>
            rw [if_neg Bool.false_ne_true] at h
            exact .ne (he d f _ _ _ _ _ a a2 b1 b2 z) (hl d f _ _ _ _ _ a a2 b1 b2 h)
theorem ltAt_m (I : Inv X pins σ H s) (wd : Wd X.g α S H) : ∀ (n : Nat) (A : Around) (d f : MV) (x y : V) (u v : Value) (k : Bool), A.units + n < cLine → Den X.K α H d x → Den X.K α H f y → RelV x u → RelV y v → ltv S n d f = some k →
    ∀ (prog : Program) (w : World) (E Q : Value → Shared → Prop), Q (.bool k) s → wpAny (model prog w) A (richCompare .Lt u v) Q E s
  | 0, _, _, _, _, _, _, _, _, _, _, _, _, _, h => by cases h
  | n + 1, A, d, f, x, y, u, v, k, hu, h1, h2, rx, ry, h => by
    intro prog w E Q hq
    unfold ltv at h
    split at h
    · cases h
    · cases h
      cases of_int h1; cases of_int h2
      obtain ⟨t, rfl⟩ := rx
      obtain ⟨t', rfl⟩ := ry
      exact (PyProof.Rows.lt_int hq : wpAny (model prog w) A (compareOp .Lt _ _) Q E s)
    · cases h
      cases of_str h1; cases of_str h2
      obtain ⟨t, rfl⟩ := rx
      obtain ⟨t', rfl⟩ := ry
      refine (PySem.P.lt_str ?_ : wpAny (model prog w) A (compareOp .Lt _ _) Q E s)
      rw [mkS_cps, mkS_cps]
      exact hq
    · rename_i n' ds es hn
      obtain ⟨a, vs, rfl, s1, l1⟩ := of_tup h1
      obtain ⟨b, us, rfl, s2, l2⟩ := of_tup h2
      cases rx; cases ry
      obtain ⟨its, r1, pt, _⟩ := I.tuple s1
      obtain ⟨its2, r2, pt2, _⟩ := I.tuple s2
      cases hn
      refine rcLt_tup pt pt2 ?_ (by omega) prog w E Q hq
      exact lex_m (fun d f x y u v k a b c d' e => eqAt_m I wd n A.in1 d f x y u v k (show A.units + 1 + n < cLine by omega) a b c d' e)
        (fun d f x y u v k a b c d' e => ltAt_m I wd n A.in1 d f x y u v k (show A.units + 1 + n < cLine by omega) a b c d' e) l1 l2 r1 r2 h
    · cases h
end
end M
end L2
namespace L2
namespace M
open PySem PySem.Spec PyProof.Rows
section
variable {X : Cx} {W : XW} {a b c e : Expr} {es : List Expr} {f g h : Rho → Sto → R Er} {af : Rho → Sto → R (List Er)} {pos : Pos}
def iiF (C : Int → Int → Prop) [∀ i j, Decidable (C i j)] (g : Int → Int → Int) : Er → Er → Sto → R Er
  | .val (.int i), .val (.int j), S => if C i j then .ok (.val (.int (g i j))) S else .no
  | _, _, _ => .no
def ibF (g : Int → Int → Bool) : Er → Er → Sto → R Er
  | .val (.int i), .val (.int j), S => .ok (.val (.bl (g i j))) S
  | _, _, _ => .no
theorem op2_ii {C C' : Int → Int → Prop} [∀ i j, Decidable (C i j)] {g : Int → Int → Int} (h : ∀ i j, C i j → C' i j) : Op2 X W (rI C' fun i j => .int (g i j)) (iiF C g) := by
  intro p q x y α S H Q wd dp dq post
  unfold iiF at post
  split at post
  · split at post
    · rename_i hc
      exact ⟨_, _, xe_int dp, xe_int dq, h _ _ hc, Post.val post wd (den_int _)⟩
    · exact post.elim
  · exact post.elim
theorem op2_ii0 {g : Int → Int → Int} : Op2 X W (rI0 fun i j => .int (g i j)) (iiF (fun _ _ => True) g) := by
  intro p q x y α S H Q wd dp dq post
  unfold iiF at post
  split at post
  · rw [if_pos trivial] at post
    exact ⟨_, _, xe_int dp, xe_int dq, Post.val post wd (den_int _)⟩
  · exact post.elim
theorem op2_ib {g : Int → Int → Bool} : Op2 X W (rI0 fun i j => .bl (g i j)) (ibF g) := by
  intro p q x y α S H Q wd dp dq post
  unfold ibF at post
  split at post
  · exact ⟨_, _, xe_int dp, xe_int dq, Post.val post wd (den_bl _)⟩
  · exact post.elim
abbrev subF := iiF (fun _ _ => True) fun i j => i - j
theorem pm_sub (ha : PEm X W a f) (hb : PEm X W b g) : PEm X W (.BinOp a .Sub b pos) (fun ρ S => (f ρ S).bind fun p S1 => (g ρ S1).bind fun q S2 => subF p q S2) := pm_op op_sub op2_ii0 ha hb
def divC (_ j : Int) : Prop := 0 < j ∧ j.natAbs.log2 < 9000
instance (i j : Int) : Decidable (divC i j) := inferInstanceAs (Decidable (_ ∧ _))
abbrev divF := iiF divC fun i j => i / j
theorem op_fdivB : OpR X (binaryOp .FloorDiv) (rI divC fun i j => .int (i / j)) := opI fun i j _ _ _ _ _ hc q => by
  have e : i.fdiv j = i / j := Int.fdiv_eq_ediv_of_nonneg i (Int.le_of_lt hc.1)
  refine floordiv_int (by have := hc.1; omega) ?_ (.inl (PyProof.noPylong_of_log2 hc.2))
  rw [e]
  exact q
theorem pm_div (ha : PEm X W a f) (hb : PEm X W b g) : PEm X W (.BinOp a .FloorDiv b pos) (fun ρ S => (f ρ S).bind fun p S1 => (g ρ S1).bind fun q S2 => divF p q S2) := pm_op op_fdivB (op2_ii fun i j h => h) ha hb
abbrev modF := iiF (fun _ j => 0 < j) fun i j => i % j
theorem pm_mod (ha : PEm X W a f) (hb : PEm X W b g) : PEm X W (.BinOp a .Mod b pos) (fun ρ S => (f ρ S).bind fun p S1 => (g ρ S1).bind fun q S2 => modF p q S2) := pm_op op_mod (op2_ii fun i j h => h) ha hb
def powC (i j : Int) : Prop := 0 ≤ j ∧ (Builtin.Int.intBits i : Int) * j ≤ 2 ^ 27
instance (i j : Int) : Decidable (powC i j) := inferInstanceAs (Decidable (_ ∧ _))
abbrev powF := iiF powC fun i j => i ^ j.toNat
theorem op_powB : OpR X (binaryOp .Pow) (rI powC fun i j => .int (i ^ j.toNat)) := opI fun _ _ _ _ _ _ _ hc q => pow_int hc.1 hc.2 q
theorem pm_pow (ha : PEm X W a f) (hb : PEm X W b g) : PEm X W (.BinOp a .Pow b pos) (fun ρ S => (f ρ S).bind fun p S1 => (g ρ S1).bind fun q S2 => powF p q S2) := pm_op op_powB (op2_ii fun i j h => h) ha hb
def shlC (i j : Int) : Prop := 0 ≤ j ∧ j ≤ 1000000 ∧ i.natAbs < 2 ^ 64
instance (i j : Int) : Decidable (shlC i j) := inferInstanceAs (Decidable (_ ∧ _ ∧ _))
def usubF : Er → Sto → R Er
  | .val (.int i), S => .ok (.val (.int (-i))) S
  | _, _ => .no
def lsW (S : Sto) : Er → Option (List MV)
  | .new ds => some ds
  | .val (.loc l) => match S[l]? with
    | some (.lst ds) => some ds
    | _ => none
  | _ => none
theorem lsW_of {α : List Addr} {S : Sto} {H : Hp} (wd : Wd X.g α S H) {r : Er} {ds : List MV} {x : V} (e : lsW S r = some ds) (d : DenX X.K α H r x) : ∃ a vs, x = .ref a ∧ H a = some (.lst vs) ∧ DenL X.K α H ds vs := by
  unfold lsW at e
  split at e
  · cases e
    obtain ⟨b, vs, rfl, h, _, l⟩ := d
    exact ⟨b, vs, rfl, h, l⟩
  · rename_i n
    obtain ⟨a, rfl, h⟩ := xe_loc d
    split at e
    · rename_i es hS
      cases e
      obtain ⟨vs, h1, l⟩ := wd.obj n a _ h hS
      exact ⟨a, vs, rfl, h1, l⟩
    · cases e
  · cases e
def catLF (p q : Er) (S : Sto) : R Er := match lsW S p, lsW S q with
  | some x, some y => if x.length + y.length ≤ sizeLine then .ok (.new (x ++ y)) S else .no
  | _, _ => .no
def addF : Er → Er → Sto → R Er
  | .val (.int i), .val (.int j), S => .ok (.val (.int (i + j))) S
  | .val (.str x), .val (.str y), S => if x.length + y.length ≤ sizeLine then .ok (.val (.str (x ++ y))) S else .no
  | .val (.tup x), .val (.tup y), S => if x.length + y.length ≤ sizeLine then .ok (.val (.tup (x ++ y))) S else .no
  | p, q, S => catLF p q S
theorem op_catT0 : OpR X (binaryOp .Add) (fun x y H Q => ∃ a b ys, x = .ref a ∧ y = .ref b ∧ SqT X.K H a [] ∧ SqT X.K H b ys ∧ Q (.ref b) H) := by
  intro pins s σ H x y v u Q I rx ry h
  obtain ⟨a, b, ys, rfl, rfl, ha, hb, q⟩ := h
  cases rx
  cases ry
  obtain ⟨its, r1, p1, _⟩ := I.tuple ha
  obtain ⟨its2, r2, p2, _⟩ := I.tuple hb
  have e0 : its = [] := r1.nil_iff.mpr rfl
  subst e0
  obtain ⟨⟨cls, dd, data, sl⟩, ho, hc, n, hd⟩ := id p1
  obtain ⟨⟨cls2, dd2, data2, sl2⟩, ho2, hc2, n2, hd2⟩ := id p2
  simp only at hc hd hc2 hd2
  subst hc hd hc2 hd2
  exact concat_meets ⟨_, ho, rfl⟩ ⟨_, ho2, rfl⟩ noFill_tuple_add seq_tuple_add PySem.F.slot_tuple_add PySem.F.entry_tuple_add (PySem.F.args_tuple_add_2 _ _)
    (tuple_addW0 a b _ _ n n2 dd dd2 sl sl2 rfl) ⟨ho, ho2, ⟨.ref b, H, I, rfl, q⟩⟩
theorem pm_add (ha : PEm X W a f) (hb : PEm X W b g) : PEm X W (.BinOp a .Add b pos) (fun ρ S => (f ρ S).bind fun p S1 => (g ρ S1).bind fun q S2 => addF p q S2) := by
  refine pm_op (op_add.or (op_add_str.or (op_cat.or (op_catT.or op_catT0)))) ?_ ha hb
  intro p q x y α S H Q wd dp dq post
  unfold addF at post
  split at post
  · exact .inl ⟨_, _, xe_int dp, xe_int dq, Post.val post wd (den_int _)⟩
  · split at post
    · rename_i hz
      refine .inr (.inl ⟨_, _, xe_str dp, xe_str dq, by rw [mkS_len, mkS_len]; exact hz, ?_⟩)
      rw [mkS_app]
      exact Post.val post wd (den_str _)
    · exact post.elim
  · split at post
    · rename_i xx yy hz
      obtain ⟨a1, vs, rfl, s1, l1⟩ := xe_tup dp
      obtain ⟨a2, us, rfl, s2, l2⟩ := xe_tup dq
      by_cases h0 : vs = []
      · subst h0
        have e0 := l1.length
        refine .inr (.inr (.inr (.inr ⟨a1, a2, us, rfl, rfl, s1, s2, ?_⟩)))
        have : xx = [] := by cases xx with | nil => rfl | cons _ _ => simp at e0
        subst this
        exact Post.val post wd (den_tup s2 l2)
      · refine .inr (.inr (.inr (.inl ⟨a1, a2, vs, us, rfl, rfl, s1, s2, h0, by rw [l1.length, l2.length]; exact hz, fun h1 => ?_, fun h1 p hp => Post.newt post wd hp (l1.append l2)⟩)))
        subst h1
        have e0 := l2.length
        have : yy = [] := by cases yy with | nil => rfl | cons _ _ => simp at e0
        subst this
        rw [List.append_nil] at post
        exact Post.val post wd (den_tup s1 l1)
    · exact post.elim
  · unfold catLF at post
    split at post
    · rename_i ds1 ds2 e1 e2
      split at post
      · rename_i hz
        obtain ⟨a1, vs, rfl, h1, l1⟩ := lsW_of wd e1 dp
        obtain ⟨a2, us, rfl, h2, l2⟩ := lsW_of wd e2 dq
        exact .inr (.inr (.inl ⟨a1, a2, vs, us, rfl, rfl, h1, h2, by rw [l1.length, l2.length]; exact hz, fun p hp => Post.newl post wd hp (l1.append l2)⟩))
      · exact post.elim
    · exact post.elim
def mulC (i j : Int) : Prop := (-(2 ^ 64) < i ∧ i < 2 ^ 64) ∨ (-(2 ^ 64) < j ∧ j < 2 ^ 64) ∨ (i.natAbs.log2 < 4000 ∧ j.natAbs.log2 < 4000)
theorem bits_of {i : Int} (h : i.natAbs.log2 < 4000) : Builtin.Int.intBits i ≤ 2 ^ 20 := by
  have e : (2 : Nat) ^ 20 = 1048576 := by decide
  unfold Builtin.Int.intBits
  split <;> omega
theorem mulC.ok {i j : Int} (h : mulC i j) : IntMulOk i j := by
  rcases h with h | h | ⟨h1, h2⟩
  · exact CMul.ok (.inl h)
  · exact CMul.ok (.inr h)
  · exact .of_bits (bits_of h1) (bits_of h2)
theorem op_mulM {X : Cx} : OpR X (binaryOp .Mult) (rI mulC fun i j => .int (i * j)) := opI fun _ _ _ _ _ _ _ hc q => mul_int q hc.ok
instance (i j : Int) : Decidable (mulC i j) := inferInstanceAs (Decidable (_ ∨ _ ∨ _))
def repLF (p : Er) (k : Int) (S : Sto) : R Er := match lsW S p with
  | some x => if 0 ≤ k ∧ k < 100000 ∧ x.length * k.toNat ≤ sizeLine then .ok (.new (List.replicate k.toNat x).flatten) S else .no
  | none => .no
def mulF : Er → Er → Sto → R Er
  | .val (.int i), .val (.int j), S => if mulC i j then .ok (.val (.int (i * j))) S else .no
  | .val (.str x), .val (.int k), S => if 0 ≤ k ∧ k < 1000 ∧ x.length ≤ 1000 then .ok (.val (.str (repL x k))) S else .no
  | p, .val (.int k), S => repLF p k S
  | _, _, _ => .no
theorem DenL.rep {K : PySem.W.Frag} {α : List Addr} {H : Hp} {ds : List MV} {vs : List V} (l : DenL K α H ds vs) : ∀ k : Nat, DenL K α H (List.replicate k ds).flatten (List.replicate k vs).flatten
  | 0 => denl_nil
  | k + 1 => by rw [List.replicate_succ, List.flatten_cons, List.replicate_succ, List.flatten_cons]; exact l.append (DenL.rep l k)
theorem pm_mul (ha : PEm X W a f) (hb : PEm X W b g) : PEm X W (.BinOp a .Mult b pos) (fun ρ S => (f ρ S).bind fun p S1 => (g ρ S1).bind fun q S2 => mulF p q S2) := by
  refine pm_op (op_mulM.or (op_mul_str.or op_rep)) ?_ ha hb
  intro p q x y α S H Q wd dp dq post
  unfold mulF at post
  split at post
  · split at post
    · rename_i hc
      exact .inl ⟨_, _, xe_int dp, xe_int dq, hc, Post.val post wd (den_int _)⟩
    · exact post.elim
  · split at post
    · rename_i hc
      exact .inr (.inl ⟨_, _, xe_str dp, xe_int dq, hc.1, hc.2.1, hc.2.2, Post.val post wd (den_str _)⟩)
    · exact post.elim
  · unfold repLF at post
    split at post
    · rename_i ds e1
      split at post
      · rename_i hc
        obtain ⟨a1, vs, rfl, h1, l1⟩ := lsW_of wd e1 dp
        exact .inr (.inr ⟨a1, _, vs, rfl, xe_int dq, h1, by omega, by omega, by rw [l1.length]; exact hc.2.2, fun p hp => Post.newl post wd hp (l1.rep _)⟩)
      · exact post.elim
    · exact post.elim
  · exact post.elim
def depthE : Nat := 40
def eqF (p q : Er) (S : Sto) : R Er := match eqvE S depthE p q with
  | some k => .ok (.val (.bl k)) S
  | none => .no
def neF (p q : Er) (S : Sto) : R Er := match eqvE S depthE p q with
  | some k => .ok (.val (.bl !k)) S
  | none => .no
theorem op_eqM (hu : X.A.units + 64 < cLine) : OpR X (compareOp .Eq) (fun x y H Q => ∃ α S p q k, Wd X.g α S H ∧ DenX X.K α H p x ∧ DenX X.K α H q y ∧ eqvE S depthE p q = some k ∧ Q (.bl k) H) := by
  intro pins s σ H x y v u Q I rx ry h
  obtain ⟨α, S, p, q, k, wd, dp, dq, e, hq⟩ := h
  exact rcAt_m I wd depthE (by unfold depthE; omega) dp dq rx ry e X.prog X.w _ _ ⟨.bl k, H, I, rfl, hq⟩
theorem op_neM (hu : X.A.units + 64 < cLine) : OpR X (compareOp .NotEq) (fun x y H Q => ∃ α S p q k, Wd X.g α S H ∧ DenX X.K α H p x ∧ DenX X.K α H q y ∧ eqvE S depthE p q = some k ∧ Q (.bl (!k)) H) := by
  intro pins s σ H x y v u Q I rx ry h
  obtain ⟨α, S, p, q, k, wd, dp, dq, e, hq⟩ := h
  exact rnAt_m I wd depthE (by unfold depthE; omega) dp dq rx ry e X.prog X.w _ _ ⟨.bl (!k), H, I, rfl, hq⟩
theorem op2_eqM : Op2 X W (fun x y H Q => ∃ α S p q k, Wd X.g α S H ∧ DenX X.K α H p x ∧ DenX X.K α H q y ∧ eqvE S depthE p q = some k ∧ Q (.bl k) H) eqF := by
  intro p q x y α S H Q wd dp dq post
  unfold eqF at post
  split at post
  · rename_i k e
    exact ⟨α, S, p, q, k, wd, dp, dq, e, Post.val post wd (den_bl _)⟩
  · exact post.elim
theorem op2_neM : Op2 X W (fun x y H Q => ∃ α S p q k, Wd X.g α S H ∧ DenX X.K α H p x ∧ DenX X.K α H q y ∧ eqvE S depthE p q = some k ∧ Q (.bl (!k)) H) neF := by
  intro p q x y α S H Q wd dp dq post
  unfold neF at post
  split at post
  · rename_i k e
    exact ⟨α, S, p, q, k, wd, dp, dq, e, Post.val post wd (den_bl _)⟩
  · exact post.elim
theorem pm_eq (hu : X.A.units + 64 < cLine) (ha : PEm X W a f) (hb : PEm X W b g) : PEm X W (.Compare a [.Eq] [b] pos) (fun ρ S => (f ρ S).bind fun p S1 => (g ρ S1).bind fun q S2 => eqF p q S2) := pm_cmp (op_eqM hu) op2_eqM ha hb
theorem tm_eq (hu : X.A.units + 64 < cLine) (ha : PEm X W a f) (hb : PEm X W b g) : PTm X W (.Compare a [.Eq] [b] pos) (fun ρ S => ((f ρ S).bind fun p S1 => (g ρ S1).bind fun q S2 => eqF p q S2).bind asB) := tm_cmp (op_eqM hu) op2_eqM ha hb
theorem tm_ne (hu : X.A.units + 64 < cLine) (ha : PEm X W a f) (hb : PEm X W b g) : PTm X W (.Compare a [.NotEq] [b] pos) (fun ρ S => ((f ρ S).bind fun p S1 => (g ρ S1).bind fun q S2 => neF p q S2).bind asB) := tm_cmp (op_neM hu) op2_neM ha hb
def ltF : Er → Er → Sto → R Er
  | .val d, .val f, S => match ltv S depthE d f with
    | some k => .ok (.val (.bl k)) S
    | none => .no
  | _, _, _ => .no
theorem op_ltM (hu : X.A.units + 64 < cLine) : OpR X (compareOp .Lt) (fun x y H Q => ∃ α S d f k, Wd X.g α S H ∧ Den X.K α H d x ∧ Den X.K α H f y ∧ ltv S depthE d f = some k ∧ Q (.bl k) H) := by
  intro pins s σ H x y v u Q I rx ry h
  obtain ⟨α, S, d, f, k, wd, dp, dq, e, hq⟩ := h
  exact ltAt_m I wd depthE X.A d f x y v u k (by unfold depthE; omega) dp dq rx ry e X.prog X.w _ _ ⟨.bl k, H, I, rfl, hq⟩
theorem op2_ltM : Op2 X W (fun x y H Q => ∃ α S d f k, Wd X.g α S H ∧ Den X.K α H d x ∧ Den X.K α H f y ∧ ltv S depthE d f = some k ∧ Q (.bl k) H) ltF := by
  intro p q x y α S H Q wd dp dq post
  unfold ltF at post
  split at post
  · split at post
    · rename_i k e
      exact ⟨α, S, _, _, k, wd, dp, dq, e, Post.val post wd (den_bl _)⟩
    · exact post.elim
  · exact post.elim
theorem pm_lt (hu : X.A.units + 64 < cLine) (ha : PEm X W a f) (hb : PEm X W b g) : PEm X W (.Compare a [.Lt] [b] pos) (fun ρ S => (f ρ S).bind fun p S1 => (g ρ S1).bind fun q S2 => ltF p q S2) := pm_cmp (op_ltM hu) op2_ltM ha hb
theorem tm_lt (hu : X.A.units + 64 < cLine) (ha : PEm X W a f) (hb : PEm X W b g) : PTm X W (.Compare a [.Lt] [b] pos) (fun ρ S => ((f ρ S).bind fun p S1 => (g ρ S1).bind fun q S2 => ltF p q S2).bind asB) := tm_cmp (op_ltM hu) op2_ltM ha hb
abbrev gtF := ibF fun i j => decide (j < i)
theorem tm_gt (ha : PEm X W a f) (hb : PEm X W b g) : PTm X W (.Compare a [.Gt] [b] pos) (fun ρ S => ((f ρ S).bind fun p S1 => (g ρ S1).bind fun q S2 => gtF p q S2).bind asB) := tm_cmp op_gt op2_ib ha hb
def leF : Er → Er → Sto → R Er
  | .val (.int i), .val (.int j), S => .ok (.val (.bl (decide (i ≤ j)))) S
  | .val (.str x), .val (.str y), S => .ok (.val (.bl (!decide (y < x)))) S
  | _, _, _ => .no
theorem op2_le : Op2 X W (fun x y H Q => rI0 (fun i j => .bl (decide (i ≤ j))) x y H Q ∨ (∃ i j, x = .str i ∧ y = .str j ∧ Q (.bl (!decide (j.cps.toList < i.cps.toList))) H)) leF := by
  intro p q x y α S H Q wd dp dq post
  unfold leF at post
  split at post
  · exact .inl ⟨_, _, xe_int dp, xe_int dq, Post.val post wd (den_bl _)⟩
  · refine .inr ⟨_, _, xe_str dp, xe_str dq, ?_⟩
    rw [mkS_cps, mkS_cps]
    exact Post.val post wd (den_bl _)
  · exact post.elim
theorem pm_lele (ha : PEm X W a f) (hb : PEm X W b g) (hc : PEm X W c h) (hm : lastMarks [.LtE, .LtE] [b, c] = false := by with_unfolding_all rfl) : PEm X W (.Compare a [.LtE, .LtE] [b, c] pos) (fun ρ S => (f ρ S).bind fun p S1 => (g ρ S1).bind fun q S2 => chF leF leF p q S2 fun S3 => h ρ S3) := pm_chain (op_le.or op_le_str) (op_le.or op_le_str) op2_le op2_le ha hb hc hm
theorem tm_lele (ha : PEm X W a f) (hb : PEm X W b g) (hc : PEm X W c h) (hm : lastMarks [.LtE, .LtE] [b, c] = false := by with_unfolding_all rfl) : PTm X W (.Compare a [.LtE, .LtE] [b, c] pos) (fun ρ S => ((f ρ S).bind fun p S1 => (g ρ S1).bind fun q S2 => chF leF leF p q S2 fun S3 => h ρ S3).bind asB) := tm_chain (op_le.or op_le_str) (op_le.or op_le_str) op2_le op2_le ha hb hc hm
theorem pm_lelt (hu : X.A.units + 64 < cLine) (ha : PEm X W a f) (hb : PEm X W b g) (hc : PEm X W c h) (hm : lastMarks [.LtE, .Lt] [b, c] = false := by with_unfolding_all rfl) : PEm X W (.Compare a [.LtE, .Lt] [b, c] pos) (fun ρ S => (f ρ S).bind fun p S1 => (g ρ S1).bind fun q S2 => chF leF ltF p q S2 fun S3 => h ρ S3) := pm_chain (op_le.or op_le_str) (op_ltM hu) op2_le op2_ltM ha hb hc hm
def getL (ds : List MV) : Er → Sto → R Er
  | .val (.int i), S => match atI ds i with | some d => .ok (.val d) S | none => .no
  | _, _ => .no
def ixF : Er → Er → Sto → R Er
  | .val (.str x), .val (.int i), S => if x.length ≤ sizeLine then match atI x i with | some c => .ok (.val (.str [c])) S | none => .no else .no
  | .val (.tup ds), q, S => getL ds q S
  | p, q, S => match lsOf S p with | some ds => getL ds q S | none => .no
theorem atI_den {K : PySem.W.Frag} {α : List Addr} {H : Hp} {ds : List MV} {vs : List V} {i : Int} {d : MV} (l : DenL K α H ds vs) (e : atI ds i = some d) : ∃ v, atI vs i = some v ∧ Den K α H d v := by
  unfold atI at e ⊢
  rw [l.length]
  cases z : ixN ds.length i with
  | none => rw [z] at e; cases e
  | some j =>
    rw [z] at e
    obtain ⟨v, h1, h2⟩ := l.at (show ds[j]? = some d from e)
    exact ⟨v, h1, h2⟩
theorem pm_at (ha : PEm X W a f) (hb : PEm X W b g) (hs : PlainIx b := by exact fun _ _ => rfl) : PEm X W (.Subscript a b pos) (fun ρ S => (f ρ S).bind fun p S1 => (g ρ S1).bind fun q S2 => ixF p q S2) := by
  refine pm_ix ix_seq ?_ ha hb hs
  intro p q x y α S H Q wd dp dq post
  have key : ∀ {ds : List MV} {vs : List V} {i : Int} {d : MV}, DenL X.K α H ds vs → atI ds i = some d → Post X.g W α H (.ok (Er.val d) S) Q → ∃ v, atI vs i = some v ∧ Q v H := fun l e post => by
    obtain ⟨v, h1, h2⟩ := atI_den l e
    exact ⟨v, h1, Post.val post wd h2⟩
  unfold ixF at post
  split at post
  · split at post
    · rename_i hz
      split at post
      · rename_i ch e
        refine .inr (.inr ⟨_, _, ch, xe_str dp, xe_int dq, by rw [mkS_len]; exact hz, by rw [mkS_cps]; exact e, ?_⟩)
        exact Post.val post wd (den_str [ch])
      · exact post.elim
    · exact post.elim
  · unfold getL at post
    split at post
    · split at post
      · rename_i d e
        obtain ⟨a1, vs, rfl, s1, l1⟩ := xe_tup dp
        obtain ⟨v, h1, h2⟩ := key l1 e post
        exact .inr (.inl ⟨a1, vs, _, v, rfl, xe_int dq, s1, h1, h2⟩)
      · exact post.elim
    · exact post.elim
  · split at post
    · rename_i ds el
      unfold getL at post
      split at post
      · split at post
        · rename_i d e
          obtain ⟨a1, vs, rfl, s1, l1⟩ := ls_of rfl wd el dp
          obtain ⟨v, h1, h2⟩ := key l1 e post
          exact .inl ⟨a1, vs, _, v, rfl, xe_int dq, s1, h1, h2⟩
        · exact post.elim
      · exact post.elim
    · exact post.elim
end
end M
end L2
namespace L2
namespace M
open PySem PySem.Spec PyProof.Rows
theorem getItem_whole {prog : Program} {w : World} {A : Around} {E : Value → Shared → Prop} {s : Shared} {t sl : Addr} {its : Array Value} {vl vu : Value} {lo hi : Option Int} {Q : Value → Shared → Prop} (ht : IsTup s.heap t its) (hs : s.heap.IsSliceOf sl vl vu .none) (pl : IsPart vl lo) (pu : IsPart vu hi)
    (h0 : HT.sIx its.size 0 lo = 0) (h1 : HT.sIx its.size its.size hi = its.size) (h : Q (.ref t) s) : wpAny (model prog w) A (getItem (.ref t) (.ref sl)) Q E s := by
  have hTs : s.TypeIs (.ref sl) "slice" := by obtain ⟨os, hos, hcs, _⟩ := id hs; exact ⟨os, hos, hcs⟩
  have hTt := ht.typeIs
  unfold getItem
  try with_reducible refine wpAny_holding ?_
  first | refine wpAny_bind (wpAny_pure ?_) | skip
  refine wpAny_bind (wpAny_sequenceKey hTt (by decide) ?_)
  refine wpAny_bind (wpAny_callSpecial?_slot (name := Str.ofString "__getitem__") hTt PyProof.Rows.slot_tuple_getitem (wpAny_call_entry PyProof.Rows.slot_tuple_getitem hTt entry_tuple_getitem ?_ (args_tuple_getitem _ _)))
  show wpAny _ _ (Builtin.Tuple.tupleItemsOf (.ref t) >>= _) _ _ s
  refine wpAny_bind (tupleItemsOf_ ht (wpAny_bind (wpAny_typeOf hTs ?_)))
  rw [if_pos (by decide)]
  refine wpAny_bind (HT.sliceApplied_gen hs pl pu ?_)
  show wpAny _ _ (if (((HT.sIx its.size 0 lo : Nat) : Int) == 0 && (1 : Int) == 1 && (HT.sIx its.size its.size hi - HT.sIx its.size 0 lo) == its.size) = true then _ else _) _ _ s
  rw [if_pos (by rw [h0, h1]; simp)]
  unfold Builtin.Tuple.tupleIsExact
  refine wpAny_bind (wpAny_bind (wpAny_typeOf hTt (wpAny_pure ?_)))
  rw [if_pos (by decide)]
  refine wpAny_bind (wpAny_rule ?_)
  first
    | exact wpAny_pure ⟨_, rfl, wpAny_pure h⟩
    | exact wpAny_bind (wpAny_pure (wpAny_pure ⟨_, rfl, wpAny_pure h⟩))
    | exact wpAny_bind (wpAny_pure ⟨_, rfl, wpAny_pure h⟩)
section
variable {X : Cx} {W : XW} {a b c e : Expr} {es : List Expr} {f g h : Rho → Sto → R Er} {af : Rho → Sto → R (List Er)} {pos : Pos}
theorem sl_tupW : SlR X (fun x lo hi H Q => ∃ a xs, x = .ref a ∧ SqT X.K H a xs ∧ HT.sIx xs.length 0 lo = 0 ∧ HT.sIx xs.length xs.length hi = xs.length ∧ Q (.ref a) H) := by
  intro pins s σ H x v vl vu lo hi sl Q I rx hs pl pu h
  obtain ⟨a, xs, rfl, hx, h0, h1, q⟩ := h
  cases rx
  obtain ⟨its, r, ht, hz⟩ := I.tuple hx
  have hlen : its.toArray.size = xs.length := by rw [List.size_toArray]; exact r.length.symm
  exact ⟨"tuple", _, PyProof.Rows.slot_tuple_getitem.lookup, ht.typeIs, getItem_whole ht hs pl pu (by rw [hlen]; exact h0) (by rw [hlen]; exact h1) ⟨.ref a, H, I, rfl, q⟩⟩
def cutF : Er → Option Int → Option Int → Sto → R Er
  | .val (.str x), lo, hi, S => if x.length ≤ sizeLine then .ok (.val (.str (cutL x lo hi))) S else .no
  | .val (.tup ds), lo, hi, S => .ok (.val (.tup (cutL ds lo hi))) S
  | p, lo, hi, S => match lsOf S p with | some ds => .ok (.new (cutL ds lo hi)) S | none => .no
theorem cut_whole {α : Type} {ds : List α} {lo hi : Option Int} (h0 : HT.sIx ds.length 0 lo = 0) (h1 : HT.sIx ds.length ds.length hi = ds.length) : cutL ds lo hi = ds := by
  unfold cutL
  rw [h0, h1]
  simp
theorem pm_cut {lo hi : Option Expr} {lf hf : Rho → Sto → R (Option Int)} {p2 : Pos} (ha : PEm X W a f) (hl : POm X W lo lf) (hh : POm X W hi hf) : PEm X W (.Subscript a (.Slice lo hi none p2) pos) (fun ρ S => (f ρ S).bind fun p S1 => (lf ρ S1).bind fun l S2 => (hf ρ S2).bind fun u S3 => cutF p l u S3) := by
  refine pm_slice (sl_str.or (sl_list.or (sl_tup.or sl_tupW))) ?_ ha hl hh
  intro p lo hi x α S H Q wd dp post
  unfold cutF at post
  split at post
  · split at post
    · rename_i hz
      exact .inl ⟨_, xe_str dp, hz, Post.val post wd (den_str _)⟩
    · exact post.elim
  · rename_i _ _ _ ds
    obtain ⟨a1, vs, rfl, s1, l1⟩ := xe_tup dp
    by_cases hw : HT.sIx vs.length 0 lo = 0 ∧ HT.sIx vs.length vs.length hi = vs.length
    · have e : cutL ds lo hi = ds := cut_whole (by rw [← l1.length]; exact hw.1) (by rw [← l1.length]; exact hw.2)
      rw [e] at post
      exact .inr (.inr (.inr ⟨a1, vs, rfl, s1, hw.1, hw.2, Post.val post wd (den_tup s1 l1)⟩))
    · exact .inr (.inr (.inl ⟨a1, vs, rfl, s1, hw, fun p hp => Post.newt post wd hp (l1.cut lo hi)⟩))
  · split at post
    · rename_i ds el
      obtain ⟨a1, vs, rfl, s1, l1⟩ := ls_of rfl wd el dp
      exact .inr (.inl ⟨a1, vs, rfl, s1, fun p hp => Post.newl post wd hp (l1.cut lo hi)⟩)
    · exact post.elim
end
end M
end L2
namespace L2
namespace M
open PySem PySem.Spec PyProof.Rows
section
variable {X : Cx} {W : XW} {a b c e : Expr} {es : List Expr} {f g h : Rho → Sto → R Er} {af : Rho → Sto → R (List Er)} {pos : Pos}
def ansL (S : Sto) (n : Nat) (d : MV) : List MV → Option (List Bool)
  | [] => some []
  | y :: ys => (eqv S n y d).bind fun k => (ansL S n d ys).map (k :: ·)
section
variable {α : List Addr} {S : Sto} {H : Hp} {pins : List (Addr × Obj)} {σ : St} {s : Shared}
noncomputable def ansV (X : Cx) (α : List Addr) (S : Sto) (H : Hp) (n : Nat) (d : MV) (u : Value) : Bool := open Classical in decide (∃ y x, Den X.K α H y x ∧ RelV x u ∧ eqv S n y d = some true)
open Classical in
theorem ansV_is (I : Inv X pins σ H s) (wd : Wd X.g α S H) {n : Nat} {d y : MV} {x : V} {u : Value} {k : Bool} (dy : Den X.K α H y x) (r : RelV x u) (e : eqv S n y d = some k) : ansV X α S H n d u = k := by
  unfold ansV
  cases k with
  | true => exact decide_eq_true ⟨y, x, dy, r, e⟩
  | false =>
    refine decide_eq_false fun ⟨y', x', dy', r', e'⟩ => ?_
    have ex := r.inj r'
    subst ex
    rw [dy.inj I wd dy'] at e
    rw [e] at e'
    cases e'
theorem ans_all (I : Inv X pins σ H s) (wd : Wd X.g α S H) {n : Nat} {A : Around} {d : MV} {x : V} {v : Value} (hu : A.units + n < cLine) (dd : Den X.K α H d x) (rx : RelV x v) : ∀ {ys : List MV} {vs : List V} {us : List Value} {bs : List Bool}, DenL X.K α H ys vs → Vals vs us → ansL S n d ys = some bs →
    us.map (ansV X α S H n d) = bs ∧ ∀ u ∈ us, SeqAt.EqAt A s u v (ansV X α S H n d u)
  | [], _, _, bs, l, r, e => by
    cases l.isnil; cases r; cases e
    exact ⟨rfl, fun u hu => by cases hu⟩
  | y :: ys, _, _, bs, l, r, e => by
    obtain ⟨v', r', rfl, dy, l'⟩ := l.uncons
    cases r with
    | cons r1 r2 =>
      unfold ansL at e
      cases z : eqv S n y d with
      | none => rw [z] at e; cases e
      | some k =>
        rw [z] at e
        cases z2 : ansL S n d ys with
        | none => simp [z2] at e
        | some cs =>
          simp [z2] at e
          subst e
          obtain ⟨h1, h2⟩ := ans_all I wd hu dd rx l' r2 z2
          have h3 := ansV_is I wd dy r1 z
          refine ⟨by rw [List.map_cons, h1, h3], fun u hu' => ?_⟩
          rcases List.mem_cons.mp hu' with rfl | hu'
          · rw [h3]; exact eqAt_m I wd n A y d _ _ _ _ k hu dy dd r1 rx z
          · exact h2 u hu'
end
theorem any_map {us : List Value} {f : Value → Bool} {bs : List Bool} (h : us.map f = bs) : us.toArray.any f = bs.any id := by
  subst h
  simp [List.any_map]
def itemsOf (S : Sto) : Er → Option (List MV)
  | .val (.tup ds) => some ds
  | r => lsOf S r
theorem items_of {α : List Addr} {S : Sto} {H : Hp} (wd : Wd X.g α S H) {r : Er} {ds : List MV} {x : V} (e : itemsOf S r = some ds) (d : DenX X.K α H r x) : ∃ a vs, x = .ref a ∧ (SqL X.K H a vs ∨ SqT X.K H a vs) ∧ DenL X.K α H ds vs := by
  unfold itemsOf at e
  split at e
  · cases e
    obtain ⟨a, vs, rfl, s, l⟩ := xe_tup d
    exact ⟨a, vs, rfl, .inr s, l⟩
  · obtain ⟨a, vs, rfl, s, l⟩ := ls_of rfl wd e d
    exact ⟨a, vs, rfl, .inl s, l⟩
def inSeqF (neg : Bool) (p q : Er) (S : Sto) : R Er := match p with
  | .val d => match itemsOf S q with
    | some ys => match ansL S depthE d ys with
      | some bs => .ok (.val (.bl (if neg = true then !bs.any id else bs.any id))) S
      | none => .no
    | none => .no
  | .new _ => .no
def inF (neg : Bool) : Er → Er → Sto → R Er
  | .val (.str [c]), .val (.str y), S => .ok (.val (.bl (if neg = true then !decide (c ∈ y) else decide (c ∈ y)))) S
  | p, q, S => inSeqF neg p q S
abbrev rInM (X : Cx) (neg : Bool) : R2 := fun x y H Q => ∃ α S d q ys bs, Wd X.g α S H ∧ Den X.K α H d x ∧ DenX X.K α H q y ∧ itemsOf S q = some ys ∧ ansL S depthE d ys = some bs ∧ Q (.bl (if neg = true then !bs.any id else bs.any id)) H
theorem op_inM (hu : X.A.units + 64 < cLine) : OpR X (compareOp .In) (rInM X false) := by
  intro pins s σ H x y v u Q I rx ry h
  obtain ⟨α, S, d, q, ys, bs, wd, dd, dq, ei, ea, hq⟩ := h
  obtain ⟨a, vs, rfl, sq, l⟩ := items_of wd ei dq
  cases ry
  rcases sq with sq | sq
  · obtain ⟨its, r, pl, _⟩ := I.list sq
    obtain ⟨h1, h2⟩ := ans_all I wd (A := X.A.in1) (by show X.A.units + 1 + depthE < cLine; unfold depthE; omega) dd rx l r ea
    refine SeqAt.in_listAt (ansV X α S H depthE d) pl.isList (fun w hw => h2 w (by simpa using hw)) ⟨.bl _, H, I, rfl, ?_⟩
    rw [any_map h1]
    exact hq
  · obtain ⟨its, r, pl, _⟩ := I.tuple sq
    obtain ⟨h1, h2⟩ := ans_all I wd (A := X.A.in1) (by show X.A.units + 1 + depthE < cLine; unfold depthE; omega) dd rx l r ea
    refine SeqAt.in_tupleAt (ansV X α S H depthE d) pl (fun w hw => h2 w (by simpa using hw)) ⟨.bl _, H, I, rfl, ?_⟩
    rw [any_map h1]
    exact hq
theorem op_notinM (hu : X.A.units + 64 < cLine) : OpR X (compareOp .NotIn) (rInM X true) := by
  intro pins s σ H x y v u Q I rx ry h
  obtain ⟨α, S, d, q, ys, bs, wd, dd, dq, ei, ea, hq⟩ := h
  obtain ⟨a, vs, rfl, sq, l⟩ := items_of wd ei dq
  cases ry
  rcases sq with sq | sq
  · obtain ⟨its, r, pl, _⟩ := I.list sq
    obtain ⟨h1, h2⟩ := ans_all I wd (A := X.A.in1) (by show X.A.units + 1 + depthE < cLine; unfold depthE; omega) dd rx l r ea
    refine SeqAt.notIn_listAt (ansV X α S H depthE d) pl.isList (fun w hw => h2 w (by simpa using hw)) ⟨.bl _, H, I, rfl, ?_⟩
    rw [any_map h1]
    exact hq
  · obtain ⟨its, r, pl, _⟩ := I.tuple sq
    obtain ⟨h1, h2⟩ := ans_all I wd (A := X.A.in1) (by show X.A.units + 1 + depthE < cLine; unfold depthE; omega) dd rx l r ea
    refine SeqAt.notIn_tupleAt (ansV X α S H depthE d) pl (fun w hw => h2 w (by simpa using hw)) ⟨.bl _, H, I, rfl, ?_⟩
    rw [any_map h1]
    exact hq
theorem op2_inM {neg : Bool} : Op2 X W (fun x y H Q => (∃ i j, x = .str i ∧ y = .str j ∧ Q (.bl (if neg = true then !(!(Builtin.Str.occurrences j i 0 j.length 1).isEmpty) else !(Builtin.Str.occurrences j i 0 j.length 1).isEmpty)) H) ∨ rInM X neg x y H Q) (inF neg) := by
  intro p q x y α S H Q wd dp dq post
  unfold inF at post
  split at post
  · refine .inl ⟨_, _, xe_str dp, xe_str dq, ?_⟩
    rw [← mkS_one, PySem.StrLaws.found_one, mkS_cps]
    exact Post.val post wd (den_bl _)
  · unfold inSeqF at post
    split at post
    · rename_i d _
      split at post
      · rename_i ys ei
        split at post
        · rename_i bs ea
          exact .inr ⟨α, S, _, q, ys, bs, wd, dp, dq, ei, ea, Post.val post wd (den_bl _)⟩
        · exact post.elim
      · exact post.elim
    · exact post.elim
theorem OpR.imp {f : Value → Value → Sem Value} {r r' : R2} (h : OpR X f r) (i : ∀ x y H Q, r' x y H Q → r x y H Q) : OpR X f r' := fun pins s σ H x y v u Q I rx ry q => h pins s σ H x y v u Q I rx ry (i x y H Q q)
theorem op_inA (hu : X.A.units + 64 < cLine) : OpR X (compareOp .In) (fun x y H Q => (∃ i j, x = .str i ∧ y = .str j ∧ Q (.bl (if (false : Bool) = true then !(!(Builtin.Str.occurrences j i 0 j.length 1).isEmpty) else !(Builtin.Str.occurrences j i 0 j.length 1).isEmpty)) H) ∨ rInM X false x y H Q) :=
  OpR.imp (op_in_str.or (op_inM hu)) fun x y H Q q => q.imp (fun q => q) fun q => q
theorem op_notinA (hu : X.A.units + 64 < cLine) : OpR X (compareOp .NotIn) (fun x y H Q => (∃ i j, x = .str i ∧ y = .str j ∧ Q (.bl (if (true : Bool) = true then !(!(Builtin.Str.occurrences j i 0 j.length 1).isEmpty) else !(Builtin.Str.occurrences j i 0 j.length 1).isEmpty)) H) ∨ rInM X true x y H Q) :=
  OpR.imp (op_notin_str.or (op_notinM hu)) fun x y H Q q => q.imp (fun q => q) fun q => q
theorem pm_in (hu : X.A.units + 64 < cLine) (ha : PEm X W a f) (hb : PEm X W b g) (hm : behindInMarks .In b = false := by with_unfolding_all rfl) : PEm X W (.Compare a [.In] [b] pos) (fun ρ S => (f ρ S).bind fun p S1 => (g ρ S1).bind fun q S2 => inF false p q S2) := pm_cmp (op_inA hu) op2_inM ha hb hm
theorem tm_in (hu : X.A.units + 64 < cLine) (ha : PEm X W a f) (hb : PEm X W b g) (hm : behindInMarks .In b = false := by with_unfolding_all rfl) : PTm X W (.Compare a [.In] [b] pos) (fun ρ S => ((f ρ S).bind fun p S1 => (g ρ S1).bind fun q S2 => inF false p q S2).bind asB) := tm_cmp (op_inA hu) op2_inM ha hb hm
theorem tm_notin (hu : X.A.units + 64 < cLine) (ha : PEm X W a f) (hb : PEm X W b g) (hm : behindInMarks .NotIn b = false := by with_unfolding_all rfl) : PTm X W (.Compare a [.NotIn] [b] pos) (fun ρ S => ((f ρ S).bind fun p S1 => (g ρ S1).bind fun q S2 => inF true p q S2).bind asB) := tm_cmp (op_notinA hu) op2_inM ha hb hm
theorem argx1 {K : PySem.W.Frag} {α : List Addr} {H : Hp} {r : Er} {vs : List V} (d : ArgsX K α H [r] vs) : ∃ v, vs = [v] ∧ DenX K α H r v := by
  cases d with
  | cons a l => cases l; exact ⟨_, rfl, a⟩
theorem argx2 {K : PySem.W.Frag} {α : List Addr} {H : Hp} {r r' : Er} {vs : List V} (d : ArgsX K α H [r, r'] vs) : ∃ v u, vs = [v, u] ∧ DenX K α H r v ∧ DenX K α H r' u := by
  cases d with
  | cons a l => obtain ⟨u, rfl, l'⟩ := argx1 l; exact ⟨_, u, rfl, a, l'⟩
def lenF : List Er → Sto → R Er
  | [.val (.str x)], S => if x.length ≤ sizeLine then .ok (.val (.int x.length)) S else .no
  | [r], S => match itemsOf S r with | some ds => .ok (.val (.int ds.length)) S | none => .no
  | _, _ => .no
theorem cm_len : CallM X W (fun xs H Q => (∃ z, xs = [.str z] ∧ z.length ≤ sizeLine ∧ Q (.int z.length) H) ∨ ∃ p ys, xs = [.ref p] ∧ (SqL X.K H p ys ∨ SqT X.K H p ys) ∧ Q (.int ys.length) H) lenF := by
  intro rs vs α S H Q wd d post
  unfold lenF at post
  split at post
  · split at post
    · rename_i hz
      obtain ⟨v, rfl, dv⟩ := argx1 d
      cases xe_str dv
      refine .inl ⟨_, rfl, by rw [mkS_len]; exact hz, ?_⟩
      rw [mkS_len]
      exact Post.val post wd (den_int _)
    · exact post.elim
  · split at post
    · rename_i ds e
      obtain ⟨v, rfl, dv⟩ := argx1 d
      obtain ⟨a, us, rfl, sq, l⟩ := items_of wd e dv
      refine .inr ⟨a, us, rfl, sq, ?_⟩
      rw [l.length]
      exact Post.val post wd (den_int _)
    · exact post.elim
  · exact post.elim
theorem call_lenM : CallR X (.builtin "len") (fun xs H Q => (∃ z, xs = [.str z] ∧ z.length ≤ sizeLine ∧ Q (.int z.length) H) ∨ ∃ p ys, xs = [.ref p] ∧ (SqL X.K H p ys ∨ SqT X.K H p ys) ∧ Q (.int ys.length) H) := call_len_str.or call_len_seq
def absF : List Er → Sto → R Er
  | [.val (.int i)], S => .ok (.val (.int (if i < 0 then -i else i))) S
  | _, _ => .no
theorem cm_abs : CallM X W (fun xs H Q => ∃ i, xs = [.int i] ∧ Q (.int (if i < 0 then -i else i)) H) absF := by
  intro rs vs α S H Q wd d post
  unfold absF at post
  split at post
  · obtain ⟨v, rfl, dv⟩ := argx1 d
    cases xe_int dv
    exact ⟨_, rfl, Post.val post wd (den_int _)⟩
  · exact post.elim
def blsOf : List MV → Option (List Bool)
  | [] => some []
  | .bl b :: r => (blsOf r).map (b :: ·)
  | _ :: _ => none
theorem blsOf_den {K : PySem.W.Frag} {α : List Addr} {H : Hp} : ∀ {ds : List MV} {bs : List Bool} {vs : List V}, blsOf ds = some bs → DenL K α H ds vs → vs = bs.map V.bl
  | [], _, _, e, l => by cases e; exact l.isnil
  | d :: r, bs, _, e, l => by
    cases d with
    | bl b =>
      unfold blsOf at e
      cases z : blsOf r with
      | none => rw [z] at e; cases e
      | some cs =>
        rw [z] at e
        cases e
        obtain ⟨v, us, rfl, dv, l'⟩ := l.uncons
        rw [of_bl dv, blsOf_den z l']
        rfl
    | _ => cases e
def allF : List Er → Sto → R Er
  | [r], S => match (lsOf S r).bind blsOf with | some bs => .ok (.val (.bl (bs.all id))) S | none => .no
  | _, _ => .no
theorem cm_all (hc : X.calm = true) : CallM X W (fun xs H Q => ∃ (a : Addr) (bs : List Bool), xs = [.ref a] ∧ SqL X.K H a (bs.map V.bl) ∧ X.calm = true ∧ Q (.bl (bs.all id)) H) allF := by
  intro rs vs α S H Q wd d post
  unfold allF at post
  split at post
  · split at post
    · rename_i bs e
      obtain ⟨v, rfl, dv⟩ := argx1 d
      cases z : lsOf S _ with
      | none => rw [z] at e; cases e
      | some ds =>
        rw [z] at e
        obtain ⟨a1, us, rfl, s, l⟩ := ls_of rfl wd z dv
        refine ⟨a1, bs, rfl, ?_, hc, Post.val post wd (den_bl _)⟩
        rw [← blsOf_den e l]
        exact s
    · exact post.elim
  · exact post.elim
def tyName (S : Sto) : Er → Option String
  | .val .non => some "NoneType"
  | .val (.bl _) => some "bool"
  | .val (.int _) => some "int"
  | .val (.str _) => some "str"
  | .val (.tup _) => some "tuple"
  | .val (.typ _) => none
  | r => (lsOf S r).map fun _ => "list"
def isiB (t T : String) : Bool := t == T || (t == "bool" && T == "int")
def known (T : String) : Bool := T == "int" || T == "bool" || T == "str" || T == "tuple" || T == "list"
def isiF : List Er → Sto → R Er
  | [r, .val (.typ T)], S => match tyName S r with
    | some t => if known T = true then .ok (.val (.bl (isiB t T))) S else .no
    | none => .no
  | _, _ => .no
theorem kit_table (K : PySem.W.Frag) {t T : String} (ht : t = "NoneType" ∨ t = "bool" ∨ t = "int" ∨ t = "str" ∨ t = "tuple" ∨ t = "list") (hT : known T = true) : PySem.W.kitOne K (.type t) (.type T) = some (isiB t T) := by
  have hT' : T = "int" ∨ T = "bool" ∨ T = "str" ∨ T = "tuple" ∨ T = "list" := by
    unfold known at hT
    simp only [Bool.or_eq_true, beq_iff_eq] at hT
    rcases hT with (((h | h) | h) | h) | h
    · exact .inl h
    · exact .inr (.inl h)
    · exact .inr (.inr (.inl h))
    · exact .inr (.inr (.inr (.inl h)))
    · exact .inr (.inr (.inr (.inr h)))
  rcases ht with rfl | rfl | rfl | rfl | rfl | rfl <;> rcases hT' with rfl | rfl | rfl | rfl | rfl <;> kernel_rfl
theorem call_isi : CallR X (.builtin "isinstance") (fun xs H Q => ∃ α S r x t T, xs = [x, .ty T] ∧ Wd X.g α S H ∧ DenX X.K α H r x ∧ tyName S r = some t ∧ known T = true ∧ Q (.bl (isiB t T)) H) := by
  intro pins s σ H xs us Q I rr h
  obtain ⟨α, S, r, x, t, T, rfl, wd, d, et, hk, q⟩ := h
  obtain ⟨u, w', rfl, rx, rT⟩ := vals2 rr
  cases rT
  have fin : ∀ tk, EP X pins σ Q (.bool (isiB t T)) { s with toks := tk } := fun tk => ⟨.bl _, H, I.tok _, rfl, q⟩
  unfold tyName at et
  split at et
  · cases et
    cases xe_non d
    cases rx
    exact PySem.W.kia_one PySem.W.kitx_none I.kIn True.intro (kit_table X.K (.inl rfl) hk) (fun z => nomatch z) fin
  · cases et
    cases xe_bl d
    cases rx
    exact PySem.W.kia_one PySem.W.kitx_bool I.kIn True.intro (kit_table X.K (.inr (.inl rfl)) hk) (fun z => nomatch z) fin
  · cases et
    cases xe_int d
    obtain ⟨t, rfl⟩ := rx
    exact PySem.W.kia_one PySem.W.kitx_int I.kIn True.intro (kit_table X.K (.inr (.inr (.inl rfl))) hk) (fun z => nomatch z) fin
  · cases et
    cases xe_str d
    obtain ⟨t, rfl⟩ := rx
    exact PySem.W.kia_one PySem.W.kitx_str I.kIn True.intro (kit_table X.K (.inr (.inr (.inr (.inl rfl)))) hk) (fun z => nomatch z) fin
  · cases et
    obtain ⟨a, vs, rfl, sq, l⟩ := xe_tup d
    cases rx
    obtain ⟨its, r1, p1, _⟩ := I.tuple sq
    obtain ⟨o, h1, h2, _⟩ := p1
    exact PySem.W.kia_one PySem.W.kitx_tuple I.kIn ⟨o, h1, h2⟩ (kit_table X.K (.inr (.inr (.inr (.inr (.inl rfl))))) hk) (fun z => nomatch z) fin
  · cases et
  · cases z : lsOf S r with
    | none => rw [z] at et; cases et
    | some ds =>
      rw [z] at et
      cases et
      obtain ⟨a, vs, rfl, sq, l⟩ := ls_of rfl wd z d
      cases rx
      obtain ⟨its, r1, p1, _⟩ := I.list sq
      obtain ⟨o, h1, h2, _⟩ := p1.isList
      exact PySem.W.kia_one PySem.W.kitx_list I.kIn ⟨o, h1, h2⟩ (kit_table X.K (.inr (.inr (.inr (.inr (.inr rfl))))) hk) (fun z => nomatch z) fin
theorem cm_isi : CallM X W (fun xs H Q => ∃ α S r x t T, xs = [x, .ty T] ∧ Wd X.g α S H ∧ DenX X.K α H r x ∧ tyName S r = some t ∧ known T = true ∧ Q (.bl (isiB t T)) H) isiF := by
  intro rs vs α S H Q wd d post
  unfold isiF at post
  split at post
  · split at post
    · rename_i t et
      split at post
      · rename_i hk
        obtain ⟨v, u, rfl, d1, d2⟩ := argx2 d
        cases xe_typ d2
        exact ⟨α, S, _, v, t, _, rfl, wd, d1, et, hk, Post.val post wd (den_bl _)⟩
      · exact post.elim
    · exact post.elim
  · exact post.elim
def tupleF : List Er → Sto → R Er
  | [.val (.tup ds)], S => .ok (.val (.tup ds)) S
  | [r], S => match lsOf S r with | some ds => .ok (.val (.tup ds)) S | none => .no
  | _, _ => .no
theorem cm_tuple : CallM X W (fun xs H Q => ∃ p ys, xs = [.ref p] ∧ ((SqL X.K H p ys ∧ ∀ l, H l = none → Q (.ref l) (upd H l (.tup ys))) ∨ (SqT X.K H p ys ∧ Q (.ref p) H))) tupleF := by
  intro rs vs α S H Q wd d post
  unfold tupleF at post
  split at post
  · obtain ⟨v, rfl, dv⟩ := argx1 d
    obtain ⟨a, us, rfl, sq, l⟩ := xe_tup dv
    exact ⟨a, us, rfl, .inr ⟨sq, Post.val post wd (den_tup sq l)⟩⟩
  · split at post
    · rename_i ds e
      obtain ⟨v, rfl, dv⟩ := argx1 d
      obtain ⟨a, us, rfl, sq, l⟩ := ls_of rfl wd e dv
      exact ⟨a, us, rfl, .inl ⟨sq, fun p hp => Post.newt post wd hp l⟩⟩
    · exact post.elim
  · exact post.elim
def listF : List Er → Sto → R Er
  | [r], S => match itemsOf S r with | some ds => .ok (.new ds) S | none => .no
  | _, _ => .no
theorem cm_list : CallM X W (fun xs H Q => ∃ p ys, xs = [.ref p] ∧ (SqL X.K H p ys ∨ SqT X.K H p ys) ∧ ∀ l, H l = none → Q (.ref l) (upd H l (.lst ys))) listF := by
  intro rs vs α S H Q wd d post
  unfold listF at post
  split at post
  · split at post
    · rename_i ds e
      obtain ⟨v, rfl, dv⟩ := argx1 d
      obtain ⟨a, us, rfl, sq, l⟩ := items_of wd e dv
      exact ⟨a, us, rfl, sq, fun p hp => Post.newl post wd hp l⟩
    · exact post.elim
  · exact post.elim
theorem bt_len : bootBuiltins "len" = some (.builtin "len") := by decide +kernel
theorem bt_abs : bootBuiltins "abs" = some (.builtin "abs") := by decide +kernel
theorem bt_all : bootBuiltins "all" = some (.builtin "all") := by decide +kernel
theorem bt_isinstance : bootBuiltins "isinstance" = some (.builtin "isinstance") := by decide +kernel
theorem bt_int : bootBuiltins "int" = some (.type "int") := by decide +kernel
theorem bt_bool : bootBuiltins "bool" = some (.type "bool") := by decide +kernel
theorem bt_str : bootBuiltins "str" = some (.type "str") := by decide +kernel
theorem bt_tuple : bootBuiltins "tuple" = some (.type "tuple") := by decide +kernel
theorem bt_list : bootBuiltins "list" = some (.type "list") := by decide +kernel
end
end M
end L2
namespace L2
namespace M
open PySem PySem.Spec PyProof.Rows
def digN (n : Nat) : List Nat := (Nat.toDigits 10 n).map Char.toNat
def decL (i : Int) : List Nat := if i < 0 then 45 :: digN i.natAbs else digN i.natAbs
section
variable {X : Cx} {W : XW} {a b c e o i : Expr} {es : List Expr} {f g h : Rho → Sto → R Er} {af : Rho → Sto → R (List Er)} {pos apos : Pos}
def strF : List Er → Sto → R Er
  | [.val (.int i)], S => if i.natAbs.log2 < 1920 then .ok (.val (.str (decL i))) S else .no
  | [.val (.str x)], S => .ok (.val (.str x)) S
  | _, _ => .no
def isLst (p : Er) (S : Sto) : Bool := (lsOf S p).isSome
theorem ty_lst : TyM X "list" isLst := by
  intro p x α S H wd d h
  unfold isLst at h
  cases z : lsOf S p with
  | none => rw [z] at h; cases h
  | some ds =>
    obtain ⟨a, vs, rfl, s, l⟩ := ls_of rfl wd z d
    exact .inl ⟨rfl, vs, s⟩
def strIdx (x y : List Nat) : Option Nat := (Builtin.Str.occurrences (mkS x) (mkS y) 0 (mkS x).length 1).head?
def sidxF : Er → List Er → Sto → R Er
  | .val (.str x), [.val (.str y)], S => match strIdx x y with | some i => .ok (.val (.int (i : Nat))) S | none => .no
  | _, _, _ => .no
def updL (p : Er) (S : Sto) (G : List MV → Option (List MV)) : R Er := match p with
  | .val (.loc l) => match S[l]? with
    | some (.lst ds) => match G ds with
      | some es => .ok (.val .non) (S.set l (.lst es))
      | none => .no
    | _ => .no
  | _ => .no
theorem updL_post {α0 α : List Addr} {H0 H : Hp} {S : Sto} {p : Er} {x : V} {G : List MV → Option (List MV)} {Q : VK} (wd : Wd X.g α S H) (x0 : Ext α0 H0 α H) (dp : DenX X.K α H p x) (post : Post X.g W α0 H0 (updL p S G) Q) :
    ∃ a vs ds es, x = .ref a ∧ H a = some (.lst vs) ∧ DenL X.K α H ds vs ∧ G ds = some es ∧ ∀ us, DenL X.K α H es us → Q .non (upd H a (.lst us)) := by
  unfold updL at post
  split at post
  · rename_i l
    obtain ⟨a, rfl, h⟩ := xe_loc dp
    obtain ⟨ob, h1, h2⟩ := wd.of h
    rw [h1] at post
    cases ob with
    | lst ds =>
      obtain ⟨vs, h3, l1⟩ := h2
      have post : Post X.g W α0 H0 (match G ds with | some es => R.ok (Er.val .non) (S.set l (.lst es)) | none => R.no) Q := post
      split at post
      · rename_i es eg
        refine ⟨a, vs, ds, es, rfl, h3, l1, eg, fun us lu => ?_⟩
        have xw := wd.writex h (o := .lst us)
        exact (post.shift (x0.trans xw)).val (wd.write h ⟨us, upd_same, lu.ext xw⟩) den_non
      · exact post.elim
    | dic _ => exact post.elim
    | ins _ _ => exact post.elim
  · exact post.elim
def appF : Er → List Er → Sto → R Er
  | p, [r], S => (enter1 r S).bind fun y S1 => updL p S1 fun ds => if ds.length < sizeLine then some (ds ++ [y]) else none
  | _, _, _ => .no
theorem mm_append : MtdM X W rAppend appF := by
  intro p rs x vs α S H0 H Q α0 wd x0 dp da post
  match rs, da, post with
  | [], _, post => exact post.elim
  | _ :: _ :: _, _, post => exact post.elim
  | [r], da, post =>
    cases da with
    | cons d n l =>
      cases l
      obtain ⟨d', S', α', e', x', y', w', dd⟩ := enter1_ok wd x0 d
      have post : Post X.g W α0 H0 ((enter1 r S).bind fun y S1 => updL p S1 fun ds => if ds.length < sizeLine then some (ds ++ [y]) else none) Q := post
      rw [e'] at post
      have dp' : DenX X.K α' H p x := by
        cases p with
        | val m => exact Den.ex0 y' dp
        | new ds => exact post.elim
      obtain ⟨a, us, ds, es, rfl, h1, l1, eg, k⟩ := updL_post w' x' dp' post
      split at eg
      · rename_i hz
        cases eg
        exact ⟨a, us, _, rfl, rfl, h1, by rw [l1.length]; exact hz, k _ (l1.append (denl_cons dd denl_nil))⟩
      · cases eg
theorem pm_append (ho : PEm X W a f) (ha : PAm X W (e :: es) af)
    (hbase : attributeBase a "append" X.env (eval a X.env) = eval a X.env := by rfl)
    (hfew : ((backTo pos (starEach (e :: es) X.env)).all (fun x => !x.1) && (backToKw pos (keywordEach [] X.env)).all (fun x => x.1.isSome)
      && decide ((e :: es).length + ([] : List Keyword).length + (if ([] : List Keyword).isEmpty then 0 else 1) < 30)) = true := by rfl)
    (hline : (apos.endLine == pos.line) = true := by rfl) (hs : starEach (e :: es) X.env = (false, eval e X.env) :: starEach es X.env := by rfl) (hplain : (backTo pos (starEach es X.env)).any (·.1) = false := by rfl) :
    PEm X W (.Call (.Attribute a "append" apos) (e :: es) [] pos) (fun ρ S => (f ρ S).bind fun p S1 => if isLst p S1 = true then (af ρ S1).bind fun rs S2 => appF p rs S2 else .no) :=
  pm_meth PySem.F.plainAttrs_list PySem.F.slot_list_append PySem.F.type_list_append mt_append mm_append ty_lst ho ha hbase hfew hline hs hplain
def clrF : Er → List Er → Sto → R Er
  | p, [], S => updL p S fun _ => some []
  | _, _, _ => .no
theorem mm_clear : MtdM X W rClear clrF := by
  intro p rs x vs α S H0 H Q α0 wd x0 dp da post
  match rs, da, post with
  | _ :: _, _, post => exact post.elim
  | [], .nil, post =>
    have post : Post X.g W α0 H0 (updL p S fun _ => some []) Q := post
    obtain ⟨a, us, ds, es, rfl, h1, l1, eg, k⟩ := updL_post wd x0 dp post
    cases eg
    exact ⟨a, us, rfl, rfl, h1, k [] denl_nil⟩
theorem pm_clear (ho : PEm X W a f) (hbase : attributeBase a "clear" X.env (eval a X.env) = eval a X.env := by rfl) (hline : (apos.endLine == pos.line) = true := by rfl) :
    PEm X W (.Call (.Attribute a "clear" apos) [] [] pos) (fun ρ S => (f ρ S).bind fun p S1 => if isLst p S1 = true then clrF p [] S1 else .no) :=
  pm_meth0 PySem.F.plainAttrs_list PySem.F.slot_list_clear PySem.F.type_list_clear mt_clear mm_clear ty_lst ho hbase hline
def setIF (p q : Er) (d : MV) (ρ : Rho) (S : Sto) : R Rho := match p, q with
  | .val (.loc l), .val (.int k) => match S[l]? with
    | some (.lst ds) => match ixN ds.length k with
      | some j => .ok ρ (S.set l (.lst (ds.set j d)))
      | none => .no
    | _ => .no
  | _, _ => .no
theorem gm_sub (ho : PEm X W o f) (hi : PEm X W i g)
    (ha : ∀ v, assign (.Subscript o i pos) X.env v = (do
      let ov ← holding [v] (eval o X.env)
      let iv ← holding [v, ov] (eval i X.env)
      standAt pos
      holding [v, ov, iv] (setItem ov iv v)
      release [v, ov, iv] []) := by intro _; rfl) : PGm X W (.Subscript o i pos) (fun d ρ S => (f ρ S).bind fun p S1 => (g ρ S1).bind fun q S2 => setIF p q d ρ S2) := by
  obtain ⟨to, ho, fo⟩ := ho
  obtain ⟨ti, hi, fi⟩ := hi
  refine ⟨_, pg_sub ho hi set_list ha, fun α ρ S σ H d v Q wd sl de q => fo α ρ S σ H _ wd sl (q.bind fun u p S1 α1 H1 e1 x1 w1 d1 q1 => fi α1 ρ S1 σ H1 _ w1 (sl.ext x1) ((q1.shift x1).bind fun u2 p2 S2 α2 H2 e2 x2 w2 d2 q2 => ?_))⟩
  replace q2 := q2.shift x2
  have d1' := DenX.ext x2 d1.1
  unfold setIF at q2
  split at q2
  · rename_i l k
    obtain ⟨a, rfl, h⟩ := xe_loc d1'
    cases xe_int d2.1
    obtain ⟨ob, h1, h2⟩ := w2.of h
    rw [h1] at q2
    cases ob with
    | lst ds =>
      obtain ⟨vs, h3, l1⟩ := h2
      have q2 : Post X.g W α2 H2 (match ixN ds.length k with | some j => R.ok ρ (S2.set l (.lst (ds.set j d))) | none => R.no) Q := q2
      split at q2
      · rename_i j ej
        have xw := w2.writex h (o := .lst (vs.set j v))
        have sl2 := ((sl.ext x1).ext x2).ext xw
        exact ⟨a, vs, k, j, rfl, rfl, h3, by rw [l1.length]; exact ej, q2 σ α2 _ xw (w2.write h ⟨_, upd_same, (l1.set ((de.ext x1).ext x2) j).ext xw⟩) sl2⟩
      · exact q2.elim
    | dic _ => exact q2.elim
    | ins _ _ => exact q2.elim
  · exact q2.elim
end
end M
end L2
namespace L2
namespace M
open PySem PySem.Spec PyProof.Rows
theorem _root_.L2.Inv.turnedL {X : Cx} {pins : List (Addr × Obj)} {σ : St} {H : Hp} {s : Shared} {h' : Heap} {t' : Nat} {fp : List Addr} (I : Inv X pins σ H s) (k : ∀ b o, b ∉ fp → s.heap.get? b = some o → h'.get? b = some o)
    (hf : ∀ b ∈ fp, FpOk X pins H b) : Inv X pins σ H { s with heap := h', toks := t' } := by
  have nit : ∀ b u, H b = some u → b ∉ fp := fun b u e z => by rw [(hf b z).1] at e; cases e
  refine I.step (g' := s.gens) (d' := s.drawn) (ch := fp) (fun b hb => ⟨(hf b hb).2.2.2.1, (hf b hb).2.1, (hf b hb).2.2.2.2.1, (hf b hb).2.2.2.2.2⟩) (fun b o _ _ hc e _ => k b o hc e) (fun b o _ _ hc e _ => ⟨o.slots, k b o hc e⟩) (fun _ _ _ _ n => n)
    (fun b o hc e => ⟨o, k b o hc e⟩) (fun _ _ e => e) (fun _ _ _ e => e) (fun b ps e => ⟨#[], by rw [e]; simp⟩) (fun m hm => ?_) (fun b u e => ?_) I.bare
  · obtain ⟨o, es, ep, ho, r⟩ := hm
    exact ⟨o, es, ep, k _ o (fun z => (hf _ z).2.1 rfl) ho, r⟩
  · refine (I.hok b u e).stay (fun c v hc q => k c v ?_ q) (fun _ q => q) fun _ _ q => q
    rcases hc with z | z
    · rw [z]; exact nit b u e
    · exact nit c _ z
def IsSub (k : Bool) (h : Heap) (it l : Addr) (i : Nat) : Prop := if k = true then h.IsListIter it l i else h.IsTupleIter it l i
def IsSeq (k : Bool) (h : Heap) (l : Addr) (its : Array Value) : Prop := if k = true then h.IsList l its else h.IsTuple l its
def subObj (k : Bool) (l : Addr) : Obj := { cls := .type (if k = true then "list_iterator" else "tuple_iterator"), data := .fields #[.ref l, .int 0 0] }
theorem IsSub.mk' {k : Bool} {h : Heap} {it l : Addr} (e : h.get? it = some (subObj k l)) : IsSub k h it l 0 := by
  cases k with
  | true => exact ⟨_, e, rfl, rfl⟩
  | false => exact ⟨_, e, rfl, rfl⟩
theorem IsSub.there {k : Bool} {h : Heap} {it l : Addr} {i : Nat} (x : IsSub k h it l i) : ∃ o, h.get? it = some o ∧ ∀ v, o.data ≠ .cell v := by
  cases k with
  | true => obtain ⟨o, e, _, d⟩ := (x : h.IsListIter it l i); exact ⟨o, e, fun v z => by rw [d] at z; cases z⟩
  | false => obtain ⟨o, e, _, d⟩ := (x : h.IsTupleIter it l i); exact ⟨o, e, fun v z => by rw [d] at z; cases z⟩
theorem IsSub.move {k : Bool} {h h' : Heap} {it l : Addr} {i : Nat} (x : IsSub k h it l i) (f : ∀ o, h.get? it = some o → h'.get? it = some o) : IsSub k h' it l i := by
  cases k with
  | true => obtain ⟨o, e, r⟩ := (x : h.IsListIter it l i); exact ⟨o, f o e, r⟩
  | false => obtain ⟨o, e, r⟩ := (x : h.IsTupleIter it l i); exact ⟨o, f o e, r⟩
section
variable {prog : Program} {w : World} {A : Around} {E : Value → Shared → Prop} {s : Shared}
theorem iter_sub {k : Bool} {l : Addr} {its : Array Value} {Q : Value → Shared → Prop} (hl : IsSeq k s.heap l its) (h : Q (.ref s.heap.objs.size) { s with heap := s.heap.push (subObj k l) }) : wpAny (model prog w) A (pyIter (.ref l)) Q E s := by
  cases k with
  | true => exact wpAny_pyIter_list hl h
  | false => exact wpAny_pyIter_tuple hl h
theorem next_sub {k : Bool} {it l : Addr} {i : Nat} {its : Array Value} {x : Value} {Q : Value → Shared → Prop} (hit : IsSub k s.heap it l i) (hl : IsSeq k s.heap l its) (hx : its[i]? = some x)
    (hQ : ∀ h', IsSub k h' it l (i + 1) → Heap.SameBut it s.heap h' → Q x { s with heap := h' }) : wpAny (model prog w) A (Builtin.SmallTypes.nextOf (.ref it)) Q E s := by
  cases k with
  | true => exact wpAny_nextOf_list_item hit hl hx hQ
  | false =>
    have hit' : s.heap.IsTupleIter it l i := hit
    obtain ⟨o, ho, hc, hd⟩ := id hit'
    obtain ⟨ol, hol, _, nl, hdl⟩ := (hl : s.heap.IsTuple l its)
    unfold Builtin.SmallTypes.nextOf
    refine wpAny_bind (wpAny_callSpecial?_slot (name := Str.ofString "__next__") hit'.typeIs F.slot_tuple_iterator_next (wpAny_call_entry F.slot_tuple_iterator_next hit'.typeIs F.entry_tuple_iterator_next ?_ (F.args_tuple_iterator_next_1 _)))
    show wpAny _ _ (field (.ref it) 0 >>= _) _ _ s
    refine wpAny_bind (wpAny_field ho hd (x := .ref l) rfl ?_)
    show wpAny _ _ (if (Value.ref l == Value.none) = true then _ else _) _ _ s
    rw [if_neg (show ¬ ((Value.ref l == Value.none) = true) from Bool.false_ne_true)]
    show wpAny _ _ (field (.ref it) 1 >>= _) _ _ s
    refine wpAny_bind (wpAny_field ho hd (x := .int i 0) rfl ?_)
    show wpAny _ _ (seqItems? (.ref l) >>= _) _ _ s
    refine wpAny_bind (wpAny_seqItems hol hdl ?_)
    simp only [Int.toNat_natCast, hx]
    refine wpAny_bind (wpAny_setField ho hd (by simp) (wpAny_pure ⟨x, rfl, wpAny_pure (hQ _ ?_ (Heap.SameBut.update ..))⟩))
    exact ⟨_, Heap.get?_update_self _ ho (Obj.isFreed_of_fields (Obj.data_mapFields hd _)), (Obj.cls_mapFields ..).trans hc, by rw [Obj.data_mapFields hd]; simp [rawInt]⟩
theorem end_sub {k : Bool} {it l : Addr} {i : Nat} {its : Array Value} {Q : Value → Shared → Prop} (hh : A.handled = none) (hit : IsSub k s.heap it l i) (hl : IsSeq k s.heap l its) (hx : its[i]? = none)
    (hE : ∀ h' e, Heap.ExtBut it s.heap h' → (∃ o, h'.get? e = some o ∧ o.cls = .type "StopIteration") → E (.ref e) { s with heap := h' }) : wpAny (model prog w) A (Builtin.SmallTypes.nextOf (.ref it)) Q E s := by
  cases k with
  | true => exact wpAny_nextOf_list_end hh hit hl hx hE
  | false =>
    have hit' : s.heap.IsTupleIter it l i := hit
    obtain ⟨o, ho, hc, hd⟩ := id hit'
    obtain ⟨ol, hol, _, nl, hdl⟩ := (hl : s.heap.IsTuple l its)
    unfold Builtin.SmallTypes.nextOf
    refine wpAny_bind (wpAny_callSpecial?_slot (name := Str.ofString "__next__") hit'.typeIs F.slot_tuple_iterator_next (wpAny_call_entry F.slot_tuple_iterator_next hit'.typeIs F.entry_tuple_iterator_next ?_ (F.args_tuple_iterator_next_1 _)))
    show wpAny _ _ (field (.ref it) 0 >>= _) _ _ s
    refine wpAny_bind (wpAny_field ho hd (x := .ref l) rfl ?_)
    show wpAny _ _ (if (Value.ref l == Value.none) = true then _ else _) _ _ s
    rw [if_neg (show ¬ ((Value.ref l == Value.none) = true) from Bool.false_ne_true)]
    show wpAny _ _ (field (.ref it) 1 >>= _) _ _ s
    refine wpAny_bind (wpAny_field ho hd (x := .int i 0) rfl ?_)
    show wpAny _ _ (seqItems? (.ref l) >>= _) _ _ s
    refine wpAny_bind (wpAny_seqItems hol hdl ?_)
    simp only [Int.toNat_natCast, hx]
    refine wpAny_bind (wpAny_rule (wpAny_bind (wpAny_setField ho hd (by simp) ?_)))
    show wpAny _ _ (newExc (.type "StopIteration") [] >>= _) _ _ _
    refine wpAny_bind ?_
    simp only [newExc, newTuple]
    refine wpAny_bind (wpAny_newObj_type ?_ (by size_fits))
    refine wpAny_bind (m := firstArgMember _ _) (wpAny_of_eq (a := Value.none) (by first | rfl | (simp only [firstArgMember]; rfl)) ?_)
    refine wpAny_newObj_type ?_ (by size_fits)
    simp only [raiseNew]
    refine wpAny_bind (wpAny_handled ?_)
    first | rw [show A.in1.handled = none from hh] | rw [hh]
    refine wpAny_bind (wpAny_pure (wpAny_throw ?_))
    exact hE _ _ (((Heap.SameBut.update ..).extBut.push _).push _) ⟨_, Heap.get?_push_size _ rfl, rfl⟩
end
def SqK (k : Bool) (K : PySem.W.Frag) (H : Hp) (a : Addr) (xs : List V) : Prop := if k = true then SqL K H a xs else SqT K H a xs
section
variable {X : Cx} {pins : List (Addr × Obj)} {σ : St} {H : Hp} {s : Shared}
theorem _root_.L2.Inv.seqK (I : Inv X pins σ H s) {k : Bool} {a : Addr} {xs : List V} (h : SqK k X.K H a xs) : ∃ its : List Value, Vals xs its ∧ IsSeq k s.heap a its.toArray ∧ xs.length ≤ sizeLine := by
  cases k with
  | true => obtain ⟨its, r, p, z⟩ := I.list h; exact ⟨its, r, p.isList, z⟩
  | false => obtain ⟨its, r, p, z⟩ := I.tuple h; exact ⟨its, r, p, z⟩
theorem _root_.L2.Inv.seqK_inj (I : Inv X pins σ H s) {k : Bool} {a : Addr} {xs ys : List V} (h : SqK k X.K H a xs) (h' : SqK k X.K H a ys) : xs = ys := by
  cases k with
  | true => exact I.list_inj h h'
  | false => exact I.tuple_inj h h'
end
end M
end L2
namespace L2
namespace M
open PySem PySem.Spec PyProof.Rows
structure Sr where
  k : Bool
  ds : List MV
  gs : List (Nat × List MV)
def srcOf (S : Sto) : Er → Option Sr
  | .val (.tup ds) => some ⟨false, ds, []⟩
  | .new ds => some ⟨true, ds, []⟩
  | .val (.scr ds) => some ⟨true, ds, []⟩
  | .val (.loc l) => match S[l]? with
    | some (.lst ds) => some ⟨true, ds, [(l, ds)]⟩
    | _ => none
  | _ => none
structure SrcD (X : Cx) (q : Sr) (l : Addr) (P : List Addr → Sto → Hp → Prop) : Prop where
  get : ∀ α S H, P α S H → ∃ vs, SqK q.k X.K H l vs ∧ DenL X.K α H q.ds vs
  stays : ∀ α1 S1 H1 α2 S2 H2, P α1 S1 H1 → Ext α1 H1 α2 H2 → Wd X.g α2 S2 H2 → stay q.gs S2 → P α2 S2 H2
  st : ∀ α S H, P α S H → stay q.gs S
theorem src_ok {X : Cx} {α : List Addr} {S : Sto} {H : Hp} (wd : Wd X.g α S H) {r : Er} {x : V} {q : Sr} (e : srcOf S r = some q) (d : DenX X.K α H r x) : ∃ l P, x = .ref l ∧ P α S H ∧ SrcD X q l P := by
  unfold srcOf at e
  split at e
  · rename_i ds
    cases e
    obtain ⟨a, vs, rfl, s, l⟩ := xe_tup d
    exact ⟨a, fun α S H => ∃ vs, SqT X.K H a vs ∧ DenL X.K α H ds vs, rfl, ⟨vs, s, l⟩, fun α S H h => h, fun α1 S1 H1 α2 S2 H2 ⟨vs, h1, h2⟩ x w _ => ⟨vs, x.sqT h1, h2.ext x⟩, fun _ _ _ _ => stay_nil⟩
  · rename_i ds
    cases e
    obtain ⟨b, vs, rfl, h, n, l⟩ := d
    exact ⟨b, fun α S H => ∃ vs, H b = some (.lst vs) ∧ b ∉ α ∧ DenL X.K α H ds vs, rfl, ⟨vs, h, n, l⟩, fun α S H ⟨vs, h1, _, h2⟩ => ⟨vs, (SqL.of h1 : SqL X.K H b vs), h2⟩,
      fun α1 S1 H1 α2 S2 H2 ⟨vs, h1, h2, h3⟩ x w _ => ⟨vs, x.keep b _ h1 h2, x.out h1 h2, h3.ext x⟩, fun _ _ _ _ => stay_nil⟩
  · rename_i ds
    cases e
    obtain ⟨a, vs, rfl, s, l⟩ := xe_scr d
    exact ⟨a, fun α S H => ∃ vs, SqF X.K H a vs ∧ DenL X.K α H ds vs, rfl, ⟨vs, s, l⟩, fun α S H ⟨vs, h1, h2⟩ => ⟨vs, h1.l, h2⟩, fun α1 S1 H1 α2 S2 H2 ⟨vs, h1, h2⟩ x w _ => ⟨vs, x.sqF h1, h2.ext x⟩, fun _ _ _ _ => stay_nil⟩
  · rename_i n
    split at e
    · rename_i ds hS
      cases e
      obtain ⟨a, rfl, h⟩ := xe_loc d
      obtain ⟨vs, h1, h2⟩ := wd.obj n a _ h hS
      refine ⟨a, fun α S H => ∃ vs, H a = some (.lst vs) ∧ DenL X.K α H ds vs ∧ α[n]? = some a ∧ S[n]? = some (.lst ds), rfl, ⟨vs, h1, h2, h, hS⟩, fun α S H ⟨vs, h1, h2, _⟩ => ⟨vs, (SqL.of h1 : SqL X.K H a vs), h2⟩, ?_, ?_⟩
      · intro α1 S1 H1 α2 S2 H2 ⟨vs, a1, a2, a3, a4⟩ x w hs
        have hs' := hs (n, ds) (by simp)
        obtain ⟨us, b1, b2⟩ := w.obj n a _ (x.at a3) hs'
        exact ⟨us, b1, b2, x.at a3, hs'⟩
      · intro α S H ⟨vs, _, _, _, a4⟩ p hp
        have : p = (n, ds) := by simpa using hp
        subst this
        exact a4
    · cases e
  · cases e
section
variable {X : Cx} {W : XW} {a b : Expr} {elts : List Expr} {kt : Nat} {pt p pos : Pos} {ta : TA} {af : Rho → Sto → R (List Er)}
theorem bt_enum : bootBuiltins "enumerate" = some (.type "enumerate") := by decide +kernel
end
structure EnSt (k : Bool) (e it l : Addr) (i : Nat) (h : Heap) : Prop where
  e : ∃ old, IsEnum h e it i old
  s : IsSub k h it l i
section
variable {prog : Program} {w : World} {A : Around} {E : Value → Shared → Prop} {s : Shared} {k : Bool} {e it l : Addr} {i : Nat} {its : Array Value}
theorem en_item {x old : Value} {Q : Value → Shared → Prop} (he : IsEnum s.heap e it i old) (hit : IsSub k s.heap it l i) (hl : IsSeq k s.heap l its) (hx : its[i]? = some x) (hne : e ≠ it)
    (hQ : ∀ h', IsEnumOut h' e it ((i : Int) + 1) x s.heap.objs.size → IsSub k h' it l (i + 1) → h'.get? s.heap.objs.size = some { cls := .type "tuple", data := .seq #[.int i s.toks, x] } →
      (∀ b o, b ≠ e → b ≠ it → s.heap.get? b = some o → h'.get? b = some o) → Q (.ref s.heap.objs.size) { s with heap := h', toks := s.toks + 1 }) :
    wpAny (model prog w) A (Builtin.«enumerate.__next__» ⟨[.ref e], []⟩) (fun fin s' => ∃ v, fin = .done (.ret v) ∧ Q v s') E s := by
  obtain ⟨hp, g, d, tk, os⟩ := s
  show wpAny _ _ (field (.ref e) 2 >>= _) _ _ _
  refine wpAny_bind (wpAny_field he rfl (x := .ref it) rfl (wpAny_bind (next_sub hit hl hx fun ha ita hsa => ?_)))
  replace hsa : Heap.SameBut it hp ha := hsa
  have ea : IsEnum ha e it i old := (hsa.2 e hne).trans he
  show wpAny _ _ (field (.ref e) 3 >>= _) _ _ ⟨ha, g, d, tk, os⟩
  refine wpAny_bind (wpAny_field ea rfl (x := rawInt i) rfl ?_)
  show wpAny _ _ (field (.ref e) 4 >>= _) _ _ ⟨ha, g, d, tk, os⟩
  refine wpAny_bind (wpAny_field ea rfl (x := .none) rfl ?_)
  show wpAny _ _ (mkInt i >>= _) _ _ ⟨ha, g, d, tk, os⟩
  refine wpAny_bind (wpAny_mkInt ?_)
  show wpAny _ _ (setField (.ref e) 3 (rawInt ((i : Int) + 1)) >>= _) _ _ ⟨ha, g, d, tk + 1, os⟩
  refine wpAny_bind (wpAny_setField_rec ea (by simp) fun hb eb hsb => ?_)
  replace hsb : Heap.SameBut e ha hb := hsb
  replace eb : IsEnum hb e it ((i : Int) + 1) old := eb
  show wpAny _ _ (setField (.ref e) 4 .none >>= _) _ _ ⟨hb, g, d, tk + 1, os⟩
  refine wpAny_bind (wpAny_setField_rec eb (by simp) fun hc ec hsc => ?_)
  replace hsc : Heap.SameBut e hb hc := hsc
  replace ec : IsEnum hc e it ((i : Int) + 1) old := ec
  show wpAny _ _ (newTuple [.int i tk, x] >>= _) _ _ ⟨hc, g, d, tk + 1, os⟩
  refine wpAny_bind (wpAny_newTuple ?_)
  have hsz : hc.objs.size = hp.objs.size := by rw [hsc.1, hsb.1, hsa.1]
  have hel : e < hp.objs.size := Heap.lt_size he
  have ed : IsEnum (hc.push { cls := .type "tuple", data := .seq #[.int i tk, x] }) e it ((i : Int) + 1) old := Heap.get?_push_of_some _ ec
  have td : (hc.push { cls := .type "tuple", data := .seq #[.int i tk, x] }).get? hp.objs.size = some { cls := .type "tuple", data := .seq #[.int i tk, x] } := by rw [← hsz]; exact Heap.get?_push_size _ rfl
  have kd : ∀ b o, b ≠ e → b ≠ it → hp.get? b = some o → (hc.push { cls := .type "tuple", data := .seq #[.int i tk, x] }).get? b = some o := fun b o n1 n2 q =>
    Heap.get?_push_of_some _ (hsc.extBut b o n1 (hsb.extBut b o n1 (hsa.extBut b o n2 q)))
  have sd : IsSub k (hc.push { cls := .type "tuple", data := .seq #[.int i tk, x] }) it l (i + 1) := ita.move fun o q => Heap.get?_push_of_some _ (hsc.extBut _ o (Ne.symm hne) (hsb.extBut _ o (Ne.symm hne) q))
  generalize hc.push { cls := .type "tuple", data := .seq #[.int i tk, x] } = hd at ed td kd sd ⊢
  show wpAny _ _ (Builtin.SmallTypes.ownedTupleIsFree (.ref e) >>= _) _ _ ⟨hd, g, d, tk + 1, os⟩
  rw [hsz]
  refine wpAny_bind ?_
  unfold Builtin.SmallTypes.ownedTupleIsFree
  refine wpAny_bind (wpAny_field ed rfl (x := .none) rfl (wpAny_pure ?_))
  simp only [if_true]
  refine wpAny_bind (wpAny_rule (wpAny_bind (wpAny_field ed rfl (x := old) rfl (wpAny_bind (wpAny_setField_rec ed (by simp) fun hf ef hsf => ?_)))))
  replace hsf : Heap.SameBut e hd hf := hsf
  replace ef : IsEnum hf e it ((i : Int) + 1) x := ef
  show wpAny _ _ (Builtin.SmallTypes.ownedTupleHandOut (.ref e) (.ref hp.objs.size) >>= _) _ _ ⟨hf, g, d, tk + 1, os⟩
  refine wpAny_bind ?_
  unfold Builtin.SmallTypes.ownedTupleHandOut
  refine wpAny_bind (wpAny_setField_rec ef (by simp) fun hg' eg hsg => ?_)
  replace hsg : Heap.SameBut e hf hg' := hsg
  replace eg : IsEnumOut hg' e it ((i : Int) + 1) x hp.objs.size := eg
  refine wpAny_setField_rec eg (by simp) fun hh' eh hsh => ?_
  replace hsh : Heap.SameBut e hg' hh' := hsh
  replace eh : IsEnumOut hh' e it ((i : Int) + 1) x hp.objs.size := eh
  have up : ∀ b o, b ≠ e → hd.get? b = some o → hh'.get? b = some o := fun b o n q => hsh.extBut b o n (hsg.extBut b o n (hsf.extBut b o n q))
  exact wpAny_bind (wpAny_letGo (wpAny_pure ⟨_, rfl, hQ hh' eh (sd.move fun o q => up _ o (Ne.symm hne) q) (up _ _ (Nat.ne_of_gt hel) td) fun b o n1 n2 q => up b o n1 (kd b o n1 n2 q)⟩))
theorem meets_enum (k : Bool) (l : Addr) (its : Array Value) :
    Meets (Builtin.«enumerate.__new__» ⟨[.type "enumerate", .ref l], []⟩) (fun _ R s => IsSeq k s.heap l its ∧
      R (.ok (.ret (.ref (s.heap.objs.size + 1)))) { s with heap := (s.heap.push (subObj k l)).push { cls := .type "enumerate", data := .fields #[.none, .bool false, .ref s.heap.objs.size, rawInt 0, .none, .none] } }) :=
  .of_wp fun prog w A R s h => by
    obtain ⟨hp, g, d, tk, os⟩ := s; obtain ⟨hl, h⟩ := h
    have hsub := sub_enumerate
    have hL : IsSeq k (Shared.heap ⟨hp, g, d, tk, os⟩) l its := hl
    have z1 : ∀ (h : Heap) (o : Obj), (h.push o).objs.size = h.objs.size + 1 := fun h o => Heap.size_push ..
    wp_walk
    refine wpAny_stack_any fun st => wpAny_pure ?_
    split
    · rename_i c _ _ _ _ _
      cases (c == Value.type "enumerate")
      · wp_walk using iter_sub hL
        exact ⟨_, rfl, by simp only [z1]; exact h⟩
      · wp_walk using iter_sub hL
        exact ⟨_, rfl, by simp only [z1]; exact h⟩
    · wp_walk using iter_sub hL
      exact ⟨_, rfl, by simp only [z1]; exact h⟩
end
end M
end L2
namespace L2
namespace M
open PySem PySem.Spec PyProof.Rows
def spLaw (K : PySem.W.Frag) (F : List MV → Sto → R Er) : Sp := fun vs H Q _ => ∃ ds, DenL K [] H ds vs ∧ ds.length = 1 ∧ ∀ g : Gm, g.K = K → Post g W0 [] H (F ds []) Q
theorem spLaw_of {g : Gm} {F : List MV → Sto → R Er} : ∀ vs H Q E, spLaw g.K F vs H Q E → spM g 1 F vs H Q E := fun vs H Q E ⟨ds, l, hl, q⟩ => ⟨[], [], ds, ⟨rfl, by simp, fun l a o h => by simp at h⟩, l, hl, q g rfl⟩
theorem sqF_of {K : PySem.W.Frag} {H : Hp} {a : Addr} {xs : List V} (hO : Only H) (h : SqL K H a xs) : SqF K H a xs := by
  rcases h with (h | ⟨o, h⟩) | h
  · rcases hO a with z | ⟨o, ys, z⟩
    · rw [z] at h; cases h
    · rw [z] at h; cases h
  · exact .inl ⟨o, h⟩
  · exact .inr h
theorem law_head {K : PySem.W.Frag} {F : List MV → Sto → R Er} {H : Hp} {a : Addr} {ns : List Int} (hO : Only H) (hS : SqL K H a (ns.map V.int)) (h : ∃ S, F [.scr (ns.map MV.int)] [] = .ok (.val (.bl true)) S) : spLaw K F [.ref a] H (fun v _ => v = .bl true) fun _ _ _ => False := by
  obtain ⟨S, h⟩ := h
  refine ⟨_, denl_cons (den_scr (sqF_of hO hS) (denl_ints ns)) denl_nil, rfl, fun g _ => ?_⟩
  rw [h]
  exact fun v α' H' x w d => xe_bl d.1
theorem bok {β γ : Type} (b : β) (S : Sto) (k : β → Sto → R γ) : (R.ok b S).bind k = k b S := by
  have h := R.bind_ok b S k
  exact Eq.trans h rfl
theorem rd_some (d : MV) (S : Sto) : rdSl (some (some d)) S = .ok (.val d) S := rfl
theorem cut_refl {S T : Sto} : cutOk S (S ++ T) := ⟨by rw [List.length_append]; omega, fun l hl => .inl (List.getElem?_append_left hl)⟩
theorem lo_int (n : Nat) (i : Int) : lo n (.int i) := by unfold lo; trivial
theorem lo_str (n : Nat) (i : List Nat) : lo n (.str i) := by unfold lo; trivial
theorem lo_bl (n : Nat) (i : Bool) : lo n (.bl i) := by unfold lo; trivial
theorem lo_non (n : Nat) : lo n .non := by unfold lo; trivial
theorem lo_tup {n : Nat} {ds : List MV} (h : loL n ds) : lo n (.tup ds) := by unfold lo; exact h
theorem lo_loc {n l : Nat} (h : l < n) : lo n (.loc l) := by unfold lo; exact h
theorem loL_of {n : Nat} : ∀ {ds : List MV}, (∀ d ∈ ds, lo n d) → loL n ds
  | [], _ => by unfold loL; trivial
  | d :: ds, h => by unfold loL; exact ⟨h d List.mem_cons_self, loL_of fun e he => h e (List.mem_cons_of_mem _ he)⟩
theorem trim_val {S T : Sto} {d : MV} (h : lo S.length d) (hn : ∀ l, d ≠ .loc l) : trimF S (.val d) (S ++ T) = .ok (.val d) S := by
  unfold trimF
  rw [if_pos cut_refl]
  have e : (S ++ T).take S.length = S := by simp
  cases d with
  | loc l => exact absurd rfl (hn l)
  | _ => dsimp only; rw [if_pos h, e]
theorem trim_new {S T : Sto} {ds : List MV} (h : loL S.length ds) : trimF S (.new ds) (S ++ T) = .ok (.new ds) S := by
  unfold trimF
  rw [if_pos cut_refl]
  have e : (S ++ T).take S.length = S := by simp
  dsimp only
  rw [if_pos h, e]
theorem trim_loc {S T : Sto} {l : Nat} {ds : List MV} (hl : S.length ≤ l) (hS : (S ++ T)[l]? = some (.lst ds)) (h : loL S.length ds) : trimF S (.val (.loc l)) (S ++ T) = .ok (.new ds) S := by
  unfold trimF
  rw [if_pos cut_refl]
  have e : (S ++ T).take S.length = S := by simp
  dsimp only
  rw [if_neg (by omega), hS]
  dsimp only
  rw [if_pos h, e]
theorem call_val {n : Nat} {F : List MV → Sto → R Er} {rs : List Er} {S T : Sto} {d : MV} (hn : rs.length = n) (hF : F (enterA rs S).1 (enterA rs S).2 = .ok (.val d) (S ++ T)) (h : lo S.length d) (hd : ∀ l, d ≠ .loc l) : callF n F rs S = .ok (.val d) S := by
  unfold callF
  rw [if_pos hn, hF]
  exact trim_val h hd
theorem call_new {n : Nat} {F : List MV → Sto → R Er} {rs : List Er} {S T : Sto} {ds : List MV} (hn : rs.length = n) (hF : F (enterA rs S).1 (enterA rs S).2 = .ok (.new ds) (S ++ T)) (h : loL S.length ds) : callF n F rs S = .ok (.new ds) S := by
  unfold callF
  rw [if_pos hn, hF]
  exact trim_new h
theorem call_loc {n : Nat} {F : List MV → Sto → R Er} {rs : List Er} {S T : Sto} {l : Nat} {ds : List MV} (hn : rs.length = n) (hF : F (enterA rs S).1 (enterA rs S).2 = .ok (.val (.loc l)) (S ++ T)) (hl : S.length ≤ l) (hS : (S ++ T)[l]? = some (.lst ds)) (h : loL S.length ds) : callF n F rs S = .ok (.new ds) S := by
  unfold callF
  rw [if_pos hn, hF]
  exact trim_loc hl hS h
theorem call_pure {n : Nat} {F : List MV → Sto → R Er} {rs : List Er} {S : Sto} {d : MV} (hn : rs.length = n) (hF : F (enterA rs S).1 (enterA rs S).2 = .ok (.val d) S) (h : lo S.length d) (hd : ∀ l, d ≠ .loc l) : callF n F rs S = .ok (.val d) S := call_val (T := []) hn (by rw [List.append_nil]; exact hF) h hd
theorem for_from {gf : MV → Rho → Sto → R Rho} {body : Rho → Sto → R Fl} {gs : List (Nat × List MV)} {L : List MV} (I : Nat → Rho → Sto → Prop)
    (st : ∀ i d, L[i]? = some d → ∀ ρ S, I i ρ S → ∃ ρ' S', ((gf d ρ S).bind fun ρ0 S0 => body ρ0 S0) = .ok (.next ρ') S' ∧ stay gs S' ∧ I (i + 1) ρ' S') :
    ∀ (n i : Nat) {ρ : Rho} {S : Sto}, n + i = L.length → I i ρ S → ∃ ρ' S', forF gf body gs (L.drop i) ρ S = .ok (.next ρ') S' ∧ I L.length ρ' S'
  | 0, i, ρ, S, hn, h => by
    have e : i = L.length := by omega
    subst e
    rw [List.drop_length]
    exact ⟨ρ, S, rfl, h⟩
  | n + 1, i, ρ, S, hn, h => by
    have hi : i < L.length := by omega
    obtain ⟨ρ1, S1, e, hs, h1⟩ := st i L[i] (List.getElem?_eq_getElem hi) ρ S h
    obtain ⟨ρ2, S2, e2, h2⟩ := for_from I st n (i + 1) (by omega) h1
    refine ⟨ρ2, S2, ?_, h2⟩
    rw [List.drop_eq_getElem_cons hi]
    unfold forF
    cases z : gf L[i] ρ S with
    | ok ρ0 S0 =>
      rw [z] at e
      have e : body ρ0 S0 = .ok (.next ρ1) S1 := e
      rw [bok]
      show (body ρ0 S0).bind _ = _
      rw [e, bok]
      dsimp only
      rw [if_pos hs]
      exact e2
    | exc c fs S0 => rw [z] at e; cases e
    | no => rw [z] at e; cases e
theorem for_ix {gf : MV → Rho → Sto → R Rho} {body : Rho → Sto → R Fl} {gs : List (Nat × List MV)} {L : List MV} (I : Nat → Rho → Sto → Prop)
    (st : ∀ i d, L[i]? = some d → ∀ ρ S, I i ρ S → ∃ ρ' S', ((gf d ρ S).bind fun ρ0 S0 => body ρ0 S0) = .ok (.next ρ') S' ∧ stay gs S' ∧ I (i + 1) ρ' S') {ρ : Rho} {S : Sto} (h : I 0 ρ S) :
    ∃ ρ' S', forF gf body gs L ρ S = .ok (.next ρ') S' ∧ I L.length ρ' S' := for_from I st L.length 0 (by omega) h
end M
end L2
namespace L2
namespace M
open PySem PySem.Spec PyProof.Rows
section
variable {S : Sto}
theorem as_bl (b : Bool) (S : Sto) : asB (.val (.bl b)) S = .ok b S := rfl
theorem as_int (i : Int) (S : Sto) : asI (.val (.int i)) S = .ok (some i) S := rfl
theorem tru_bl (b : Bool) (S : Sto) : truF (.val (.bl b)) S = .ok b S := rfl
theorem add_int (i j : Int) (S : Sto) : addF (.val (.int i)) (.val (.int j)) S = .ok (.val (.int (i + j))) S := rfl
theorem sub_int (i j : Int) (S : Sto) : subF (.val (.int i)) (.val (.int j)) S = .ok (.val (.int (i - j))) S := rfl
theorem add_str {x y : List Nat} (h : x.length + y.length ≤ sizeLine) : addF (.val (.str x)) (.val (.str y)) S = .ok (.val (.str (x ++ y))) S := if_pos h
theorem add_ls {p q : Er} {x y : List MV} (h1 : lsW S p = some x) (h2 : lsW S q = some y) (h : x.length + y.length ≤ sizeLine) : addF p q S = .ok (.new (x ++ y)) S := by
  have e : catLF p q S = .ok (.new (x ++ y)) S := by
    unfold catLF
    rw [h1, h2]
    exact if_pos h
  unfold addF
  split
  · cases h1
  · cases h1
  · cases h1
  · exact e
theorem ib_int {g : Int → Int → Bool} (i j : Int) (S : Sto) : ibF g (.val (.int i)) (.val (.int j)) S = .ok (.val (.bl (g i j))) S := rfl
theorem eqV_int (i j : Int) : eqV (.int i) (.int j) = decide (i = j) := by
  show (i == j) = _
  by_cases h : i = j
  · subst h; simp
  · rw [decide_eq_false h]; simpa using h
theorem eqV_str (x y : List Nat) : eqV (.str (mkS x)) (.str (mkS y)) = decide (x = y) := by
  show (mkS x == mkS y) = _
  by_cases h : x = y
  · subst h; simp
  · rw [decide_eq_false h]
    have : mkS x ≠ mkS y := fun z => h (mkS_inj z)
    simpa using this
theorem eqv_int (n : Nat) (i j : Int) : eqv S (n + 1) (.int i) (.int j) = some (decide (i = j)) := by rw [← eqV_int]; rfl
theorem eqv_str (n : Nat) (x y : List Nat) : eqv S (n + 1) (.str x) (.str y) = some (decide (x = y)) := by rw [← eqV_str]; rfl
theorem eqv_is (n : Nat) (x : Int) (y : List Nat) : eqv S (n + 1) (.int x) (.str y) = some false := rfl
theorem eqv_si (n : Nat) (x : List Nat) (y : Int) : eqv S (n + 1) (.str x) (.int y) = some false := rfl
theorem eqF_val (d f : MV) : eqF (.val d) (.val f) S = match eqv S (depthE + 1) d f with | some k => .ok (.val (.bl k)) S | none => .no := rfl
theorem neF_val (d f : MV) : neF (.val d) (.val f) S = match eqv S (depthE + 1) d f with | some k => .ok (.val (.bl !k)) S | none => .no := rfl
theorem eq_val {d f : MV} {k : Bool} (h : eqv S (depthE + 1) d f = some k) : eqF (.val d) (.val f) S = .ok (.val (.bl k)) S := by rw [eqF_val, h]
theorem ne_val {d f : MV} {k : Bool} (h : eqv S (depthE + 1) d f = some k) : neF (.val d) (.val f) S = .ok (.val (.bl !k)) S := by rw [neF_val, h]
theorem eq_int (i j : Int) (S : Sto) : eqF (.val (.int i)) (.val (.int j)) S = .ok (.val (.bl (decide (i = j)))) S := eq_val (eqv_int _ i j)
theorem eq_str (x y : List Nat) (S : Sto) : eqF (.val (.str x)) (.val (.str y)) S = .ok (.val (.bl (decide (x = y)))) S := eq_val (eqv_str _ x y)
theorem ne_int (i j : Int) (S : Sto) : neF (.val (.int i)) (.val (.int j)) S = .ok (.val (.bl (!decide (i = j)))) S := ne_val (eqv_int _ i j)
theorem lt_int (i j : Int) (S : Sto) : ltF (.val (.int i)) (.val (.int j)) S = .ok (.val (.bl (decide (i < j)))) S := rfl
theorem lt_str (i j : List Nat) (S : Sto) : ltF (.val (.str i)) (.val (.str j)) S = .ok (.val (.bl (decide (i < j)))) S := rfl
theorem div_lit {b : Int} (h : 0 < b) (h2 : b < 1073741824) (a : Int) (S : Sto) : divF (.val (.int a)) (.val (.int b)) S = .ok (.val (.int (a / b))) S := by
  refine if_pos ⟨h, ?_⟩
  have h3 : b.natAbs < 2 ^ 30 := by omega
  have := (Nat.log2_lt (by omega : b.natAbs ≠ 0)).mpr h3
  omega
theorem mod_lit {b : Int} (h : 0 < b) (a : Int) (S : Sto) : modF (.val (.int a)) (.val (.int b)) S = .ok (.val (.int (a % b))) S := if_pos h
theorem mul_lit {b : Int} (h : -(2 ^ 64) < b ∧ b < 2 ^ 64) (a : Int) (S : Sto) : mulF (.val (.int a)) (.val (.int b)) S = .ok (.val (.int (a * b))) S := if_pos (Or.inr (Or.inl h))
theorem mul_litL {a : Int} (h : -(2 ^ 64) < a ∧ a < 2 ^ 64) (b : Int) (S : Sto) : mulF (.val (.int a)) (.val (.int b)) S = .ok (.val (.int (a * b))) S := if_pos (Or.inl h)
theorem set_val (ρ : Rho) (i : Nat) (d : MV) (S : Sto) : setF ρ i (.val d) S = .ok (.next (ρ.set i (some d))) S := rfl
theorem set_new (ρ : Rho) (i : Nat) (ds : List MV) (S : Sto) : setF ρ i (.new ds) S = .ok (.next (ρ.set i (some (.loc S.length)))) (S ++ [.lst ds]) := rfl
theorem ent_nil (S : Sto) : enterA [] S = ([], S) := rfl
theorem ent_val (d : MV) (rs : List Er) (S : Sto) : enterA (.val d :: rs) S = (d :: (enterA rs S).1, (enterA rs S).2) := rfl
theorem seq_next {F G : Rho → Sto → R Fl} {ρ ρ' : Rho} {S S' : Sto} (h : F ρ S = .ok (.next ρ') S') : seqF F G ρ S = G ρ' S' := by unfold seqF; rw [h]; rfl
theorem seq_ret {F G : Rho → Sto → R Fl} {ρ : Rho} {S S' : Sto} {r : Er} (h : F ρ S = .ok (.ret r) S') : seqF F G ρ S = .ok (.ret r) S' := by unfold seqF; rw [h]; rfl
theorem stay0 (S : Sto) : stay [] S := stay_nil
theorem for_next {gf : MV → Rho → Sto → R Rho} {b : Rho → Sto → R Fl} {gs : List (Nat × List MV)} {d : MV} {ds : List MV} {ρ ρ0 ρ' : Rho} {S0 S' : Sto} (hg : gf d ρ S = .ok ρ0 S0) (h : b ρ0 S0 = .ok (.next ρ') S') (hs : stay gs S') : forF gf b gs (d :: ds) ρ S = forF gf b gs ds ρ' S' := by
  conv => lhs; unfold forF
  rw [hg, bok, h, bok]
  dsimp only
  rw [if_pos hs]
theorem atI_pos {α : Type} {xs : List α} {i : Int} (h0 : 0 ≤ i) (h1 : i < xs.length) : ∃ c, atI xs i = some c := by
  refine ⟨xs[i.toNat]'(by omega), ?_⟩
  unfold atI ixN
  rw [if_pos h0, if_pos h1]
  exact List.getElem?_eq_getElem _
theorem atI_all {α : Type} {P : α → Prop} {xs : List α} {i : Int} {e : α} (h : ∀ e ∈ xs, P e) (z : atI xs i = some e) : P e := by
  unfold atI at z
  cases q : ixN xs.length i with
  | none => rw [q] at z; cases z
  | some j => rw [q] at z; exact h e (List.mem_of_getElem? (show xs[j]? = some e from z))
theorem ix_str {x : List Nat} {i : Int} {c : Nat} (h : x.length ≤ sizeLine) (hk : atI x i = some c) : ixF (.val (.str x)) (.val (.int i)) S = .ok (.val (.str [c])) S := by
  show (if x.length ≤ sizeLine then match atI x i with | some c => R.ok (Er.val (.str [c])) S | none => .no else .no) = _
  rw [if_pos h, hk]
theorem ix_tup {ds : List MV} {i : Int} {d : MV} (hk : atI ds i = some d) : ixF (.val (.tup ds)) (.val (.int i)) S = .ok (.val d) S := by
  show (match atI ds i with | some d => R.ok (Er.val d) S | none => .no) = _
  rw [hk]
theorem ix_new {ds : List MV} {i : Int} {d : MV} (hk : atI ds i = some d) : ixF (.new ds) (.val (.int i)) S = .ok (.val d) S := by
  show (match atI ds i with | some d => R.ok (Er.val d) S | none => .no) = _
  rw [hk]
theorem ix_loc {l : Nat} {ds : List MV} {i : Int} {d : MV} (hS : S[l]? = some (.lst ds)) (hk : atI ds i = some d) : ixF (.val (.loc l)) (.val (.int i)) S = .ok (.val d) S := by
  have e : lsOf S (.val (.loc l)) = some ds := by unfold lsOf; dsimp only; rw [hS]
  show (match lsOf S (.val (.loc l)) with | some ds => getL ds (.val (.int i)) S | none => .no) = _
  rw [e]
  show (match atI ds i with | some d => R.ok (Er.val d) S | none => .no) = _
  rw [hk]
theorem len_loc {l : Nat} {ds : List MV} (hS : S[l]? = some (.lst ds)) : lenF [.val (.loc l)] S = .ok (.val (.int ds.length)) S := by
  have e : lsOf S (.val (.loc l)) = some ds := by unfold lsOf; dsimp only; rw [hS]
  have e2 : itemsOf S (.val (.loc l)) = some ds := by unfold itemsOf; exact e
  show (match itemsOf S (.val (.loc l)) with | some ds => R.ok (Er.val (.int ds.length)) S | none => .no) = _
  rw [e2]
theorem lsOf_loc {l : Nat} {ds : List MV} (hS : S[l]? = some (.lst ds)) : lsOf S (.val (.loc l)) = some ds := by unfold lsOf; dsimp only; rw [hS]
theorem lsW_loc {l : Nat} {ds : List MV} (hS : S[l]? = some (.lst ds)) : lsW S (.val (.loc l)) = some ds := by unfold lsW; dsimp only; rw [hS]
theorem itL_loc {l : Nat} {ds : List MV} (hS : S[l]? = some (.lst ds)) : itL (.val (.loc l)) S = .ok ⟨ds, [(l, ds)]⟩ S := by unfold itL; dsimp only; rw [hS]
theorem stay_loc {l : Nat} {ds : List MV} (hS : S[l]? = some (.lst ds)) : stay [(l, ds)] S := fun p hp => by
  have : p = (l, ds) := by simpa using hp
  subst this; exact hS
theorem rng_ok {j : Int} (h : -(2 ^ 62) ≤ j ∧ j < 2 ^ 62) : rng1F [.val (.int j)] S = .ok ⟨(List.range j.toNat).map fun k => .int (k : Nat), []⟩ S := if_pos h
theorem cut_str {x : List Nat} (h : x.length ≤ sizeLine) (lo hi : Option Int) : cutF (.val (.str x)) lo hi S = .ok (.val (.str (cutL x lo hi))) S := if_pos h
theorem cutL_to {α : Type} (x : List α) (k : Int) (h0 : 0 ≤ k) : cutL x none (some k) = x.take k.toNat := by
  unfold cutL
  have h1 : HT.sIx x.length 0 none = 0 := rfl
  rw [h1]
  have h2 : HT.sIx x.length x.length (some k) = min k.toNat x.length := by
    unfold HT.sIx
    simp only
    split <;> omega
  rw [h2, List.drop_zero, Nat.sub_zero]
  by_cases hk : k.toNat ≤ x.length
  · rw [Nat.min_eq_left hk]
  · rw [Nat.min_eq_right (by omega), List.take_length, List.take_of_length_le (by omega)]
theorem fits {n : Nat} (h : n ≤ 1000000) : n ≤ sizeLine := by rw [sizeLine_eq]; exact Nat.le_trans h (by decide)
theorem lst_ok {rs : List Er} (h : rs.length ≤ 1000000) : lstF rs S = .ok (.new (enterA rs S).1) (enterA rs S).2 := if_pos (fits h)
theorem tup_ok {rs : List Er} (h : rs.length ≤ 1000000) : tupF rs S = .ok (.val (.tup (enterA rs S).1)) (enterA rs S).2 := if_pos (fits h)
theorem lst0 (S : Sto) : lstF [] S = .ok (.new []) S := lst_ok (by simp)
theorem lst1 (a : MV) (S : Sto) : lstF [.val a] S = .ok (.new [a]) S := lst_ok (by simp)
theorem lst2 (a b : MV) (S : Sto) : lstF [.val a, .val b] S = .ok (.new [a, b]) S := lst_ok (by simp)
theorem lst3 (a b c : MV) (S : Sto) : lstF [.val a, .val b, .val c] S = .ok (.new [a, b, c]) S := lst_ok (by simp)
theorem lst6 (a b c d e f : MV) (S : Sto) : lstF [.val a, .val b, .val c, .val d, .val e, .val f] S = .ok (.new [a, b, c, d, e, f]) S := lst_ok (by simp)
theorem tup2 (a b : MV) (S : Sto) : tupF [.val a, .val b] S = .ok (.val (.tup [a, b])) S := tup_ok (by simp)
theorem tup3 (a b c : MV) (S : Sto) : tupF [.val a, .val b, .val c] S = .ok (.val (.tup [a, b, c])) S := tup_ok (by simp)
theorem isi_is (i : Int) (S : Sto) : isiF [.val (.int i), .val (.typ "str")] S = .ok (.val (.bl false)) S := rfl
theorem isi_ss (i : List Nat) (S : Sto) : isiF [.val (.str i), .val (.typ "str")] S = .ok (.val (.bl true)) S := rfl
theorem isi_it (i : Int) (S : Sto) : isiF [.val (.int i), .val (.typ "tuple")] S = .ok (.val (.bl false)) S := rfl
theorem isi_st (i : List Nat) (S : Sto) : isiF [.val (.str i), .val (.typ "tuple")] S = .ok (.val (.bl false)) S := rfl
theorem isi_tt (i : List MV) (S : Sto) : isiF [.val (.tup i), .val (.typ "tuple")] S = .ok (.val (.bl true)) S := rfl
theorem isi_bb (i : Bool) (S : Sto) : isiF [.val (.bl i), .val (.typ "bool")] S = .ok (.val (.bl true)) S := rfl
theorem comp_map {gf : MV → Rho → Sto → R Rho} {cf : Rho → Sto → R Bool} {ef : Rho → Sto → R Er} {ρb : Rho} {gs : List (Nat × List MV)} {F : MV → MV} (hs : stay gs S) :
    ∀ {ds : List MV}, (∀ d ∈ ds, ∃ ρ1, gf d ρb S = .ok ρ1 S ∧ cf ρ1 S = .ok true S ∧ ef ρ1 S = .ok (.val (F d)) S) → compF gf cf ef ρb gs ds S = .ok (ds.map F) S
  | [], _ => rfl
  | d :: ds, st => by
    obtain ⟨ρ1, h1, h2, h3⟩ := st d List.mem_cons_self
    have e := comp_map hs (ds := ds) fun d hd => st d (List.mem_cons_of_mem _ hd)
    unfold compF
    rw [h1, noX_ok, bok, h2, noX_ok, bok, if_pos rfl, h3, noX_ok, bok]
    unfold enter1
    rw [bok, if_pos hs, e]
    rfl
def Nm (x : List Nat) : Prop := 1 ≤ x.length ∧ x.length ≤ 8 ∧ ∀ c ∈ x, 97 ≤ c ∧ c ≤ 122
def Vl : MV → Prop
  | .int i => -(10 ^ 30) < i ∧ i < 10 ^ 30
  | .str x => Nm x
  | _ => False
theorem Vl.cases {d : MV} (h : Vl d) : (∃ i, d = .int i ∧ -(10 ^ 30) < i ∧ i < 10 ^ 30) ∨ ∃ x, d = .str x ∧ Nm x := by
  cases d with
  | int i => exact .inl ⟨i, rfl, h⟩
  | str x => exact .inr ⟨x, rfl, h⟩
  | _ => exact h.elim
theorem Vl.lo {d : MV} (h : Vl d) (n : Nat) : lo n d := by
  rcases h.cases with ⟨i, rfl, _⟩ | ⟨x, rfl, _⟩
  · exact lo_int n i
  · exact lo_str n x
end
end M
end L2
namespace L2
namespace M
open PySem PySem.Spec PyProof.Rows
def Ite (K : PySem.W.Frag) (k : Bool) (l : Addr) : It :=
  ⟨fun i H => ∃ xs x, SqK k K H l xs ∧ xs[i]? = some x,
   fun i H v H' => ∃ p x, H p = none ∧ v = .ref p ∧ H' = upd H p (.tup [.int (i : Nat), x]) ∧ (∀ xs, SqK k K H l xs → xs[i]? = some x),
   fun i H => ∃ xs, SqK k K H l xs ∧ xs.length ≤ i⟩
section
variable {prog : Program} {w : World} {A : Around} {E : Value → Shared → Prop} {s : Shared} {k : Bool} {e it l : Addr} {i : Nat} {its : Array Value}
theorem call_enum (hl : IsSeq k s.heap l its) {Q : Value → Shared → Prop}
    (h : ∀ h', EnSt k (s.heap.objs.size + 1) s.heap.objs.size l 0 h' → (∀ c o, s.heap.get? c = some o → h'.get? c = some o) → Q (.ref (s.heap.objs.size + 1)) { s with heap := h' }) :
    wpAny (model prog w) A (call (.type "enumerate") [.ref l]) Q E s := by
  refine callType_new F.called_enumerate (by decide) (F.typeCall_enumerate_1 _) (F.newCall_enumerate_1 _) (fun obj => F.args_object_init_2 obj _) F.entry_enumerate_new (meets_enum k l its) ⟨hl, ?_⟩
  have hz : (s.heap.push (subObj k l)).objs.size = s.heap.objs.size + 1 := Heap.size_push ..
  show _ ∧ _
  have he : IsEnum ((s.heap.push (subObj k l)).push { cls := .type "enumerate", data := .fields #[.none, .bool false, .ref s.heap.objs.size, rawInt 0, .none, .none] }) (s.heap.objs.size + 1) s.heap.objs.size 0 .none := by
    have := Heap.get?_push_size (s.heap.push (subObj k l)) (o := { cls := .type "enumerate", data := .fields #[.none, .bool false, .ref s.heap.objs.size, rawInt 0, .none, .none] }) rfl
    rw [hz] at this; exact this
  refine ⟨⟨_, he, rfl⟩, h _ ⟨⟨.none, he⟩, IsSub.mk' (Heap.get?_push_of_some _ (Heap.get?_push_size _ rfl))⟩ fun b o x => Heap.get?_push_of_some _ (Heap.get?_push_of_some _ x)⟩
end
theorem turn_enum {P : Program} {w : World} {K : PySem.W.Frag} {elts : List Expr} {kt : Nat} {pt : Pos} {k : Bool} {e it l : Addr} (hne : e ≠ it) :
    Turn P w K (.Tuple elts kt pt) (Ite K k l) [e, it] e (fun i h => EnSt k e it l i h) where
  mem := by simp
  obj := fun i h st b hb => by
    obtain ⟨⟨old, he⟩, hs⟩ := st
    have hb' : b = e ∨ b = it := by simpa using hb
    rcases hb' with rfl | rfl
    · exact ⟨_, he, fun v q => by cases q⟩
    · exact hs.there
  keep := fun i h h' st kk => by
    obtain ⟨⟨old, he⟩, hs⟩ := st
    exact ⟨⟨old, kk e (by simp) _ he⟩, hs.move fun o q => kk it (by simp) o q⟩
  item := by
    intro X hP hw hK hc i pins s σ H E I hf st hg
    subst hP hw hK
    obtain ⟨xs, x, q1, hx⟩ := hg
    obtain ⟨its, r1, p1, _⟩ := I.seqK q1
    obtain ⟨u, hu, ru⟩ := r1.get hx
    obtain ⟨⟨old, he⟩, hs⟩ := st
    have hT : s.TypeIs (.ref e) "enumerate" := ⟨_, he, rfl⟩
    unfold pyNext
    refine wpAny_bind (wpAny_attempt (wpAny_callSpecial?_slot (name := Str.ofString "__next__") hT F.slot_enumerate_next (wpAny_call_entry F.slot_enumerate_next hT F.entry_enumerate_next
      (en_item he hs p1 (x := u) (by simpa using hu) hne fun h' a1 a2 a3 a4 => wpAny_pure ⟨_, rfl, ?_⟩) (F.args_enumerate_next_1 _))))
    refine wpAny_letOwnedTupleGo_enum a1 fun h2 z2 sb2 => ?_
    have hpn : H s.heap.objs.size = none := I.hok.fresh (Nat.le_refl _)
    have I0 : Inv X pins σ (upd H s.heap.objs.size (.tup [.int (i : Nat), x])) { s with heap := s.heap.push { cls := .type "tuple", data := .seq #[.int i s.toks, u] }, toks := s.toks + 1 } :=
      I.laid (t' := s.toks + 1) (o := .tup [.int (i : Nat), x]) (fun b o e => Heap.get?_push_of_some _ e) (Nat.le_refl _) ⟨by show 2 ≤ sizeLine; decide, [.int i s.toks, u], .cons ⟨_, rfl⟩ (.cons ru .nil), ⟨_, Heap.get?_push_size _ rfl, rfl, _, rfl⟩⟩
    have lt : ∀ b ∈ [e, it], b < s.heap.objs.size := fun b hb => by
      have hb' : b = e ∨ b = it := by simpa using hb
      rcases hb' with rfl | rfl
      · exact Heap.lt_size he
      · obtain ⟨o, eo, _⟩ := hs.there; exact Heap.lt_size eo
    have fr : ∀ b ∈ [e, it], upd H s.heap.objs.size (.tup [.int (i : Nat), x]) b = none := fun b hb => by rw [upd_ne (Nat.ne_of_lt (lt b hb))]; exact (hf b hb).1
    have mv : ∀ b o, b ∉ [e, it] → (s.heap.push { cls := .type "tuple", data := .seq #[.int i s.toks, u] }).get? b = some o → h2.get? b = some o := fun b o hb eo => by
      simp only [List.mem_cons, List.not_mem_nil, or_false, not_or] at hb
      refine sb2.extBut _ _ hb.1 ?_
      by_cases hbs : b = s.heap.objs.size
      · subst hbs
        rw [Heap.get?_push_size _ rfl] at eo
        cases eo
        exact a3
      · rw [Heap.get?_push_ne _ _ _ hbs] at eo
        exact a4 b o hb.1 hb.2 eo
    have I2 := I0.turnedL (h' := h2) (t' := s.toks + 1) mv fun b hb => let ⟨_, c2, c3, c4, c5, c6⟩ := hf b hb; ⟨fr b hb, c2, c3, c4, c5, c6⟩
    refine ⟨.ref s.heap.objs.size, _, I2, rfl, ⟨s.heap.objs.size, x, hpn, rfl, rfl, fun zs hz => ?_⟩, ⟨⟨u, ?_⟩, ?_⟩, fr⟩
    · rw [I.seqK_inj hz q1]; exact hx
    · simpa using z2
    · exact a2.move fun o eo => sb2.extBut _ _ (Ne.symm hne) eo
  done := by
    intro X hP hw hK hc i pins s σ H E I hf st hg
    subst hP hw hK
    obtain ⟨xs, q1, hx⟩ := hg
    obtain ⟨its, r1, p1, _⟩ := I.seqK q1
    obtain ⟨⟨old, he⟩, hs⟩ := st
    have hT : s.TypeIs (.ref e) "enumerate" := ⟨_, he, rfl⟩
    have e1 := r1.length
    unfold pyNext
    refine wpAny_bind (wpAny_attempt (wpAny_callSpecial?_slot (name := Str.ofString "__next__") hT F.slot_enumerate_next (wpAny_call_entry F.slot_enumerate_next hT F.entry_enumerate_next ?_ (F.args_enumerate_next_1 _))))
    show wpAny _ _ (field (.ref e) 2 >>= _) _ _ _
    refine wpAny_bind (wpAny_field he rfl (x := .ref it) rfl ?_)
    refine wpAny_bind (end_sub (I.ok.hd hc) hs p1 (by simp; omega) fun h' x hk hx' => ?_)
    obtain ⟨o, ho, hcl⟩ := hx'
    refine wpAny_bind (wpAny_isInstance (T := "StopIteration") (b := true) ⟨o, ho, hcl⟩ isSubtype_stop (wpAny_pure ⟨rfl, ?_⟩))
    refine I.turnedL (h' := h') (t' := s.toks) (fun b o hb eo => ?_) hf
    simp only [List.mem_cons, List.not_mem_nil, or_false, not_or] at hb
    exact hk b o hb.2 eo
  self := fun _ _ _ _ _ st h => let ⟨⟨_, he⟩, _⟩ := st; wpAny_pyIter_enum he h
def iEnum (K : PySem.W.Frag) (ta : TA) : TI := fun σ H R => ta σ H fun vs H1 => ∃ k l, vs = [.ref l] ∧ (∃ xs, SqK k K H1 l xs) ∧ R (Ite K k l) H1
section
variable {X : Cx} {W : XW} {a : Expr} {elts : List Expr} {kt : Nat} {pt p pos : Pos} {ta : TA} {af : Rho → Sto → R (List Er)}
theorem pi_enum (hg : Gl X "enumerate") (hm : X.mg "enumerate" = none) (ha : PA X [a] ta) (hs : starEach [a] X.env = [(false, eval a X.env)] := by rfl) :
    PI X (.Tuple elts kt pt) (.Call (.Name "enumerate" p) [a] [] pos) (iEnum X.K ta) := by
  intro pins s σ H R I h
  refine Call_ (ld_blt I hg hm bt_enum (PyProof.Rows.callWith_type1 (thn (ha pos pins s σ H _ I h) fun us s1 ⟨vs, H1, I1, r1, q1⟩ => ?_) (by rw [hs]; rfl) (by rfl)))
  obtain ⟨k, l, rfl, ⟨xs, c1⟩, q⟩ := q1
  cases r1 with
  | cons r rr =>
    cases rr
    cases r
    obtain ⟨its, v1, p1, _⟩ := I1.seqK c1
    refine call_enum p1 fun h' st hk => let ⟨⟨_, he⟩, _⟩ := id st; wpAny_pyIter_enum he ?_
    have I2 : Inv X pins σ H1 { s1 with heap := h' } := I1.kept (t' := s1.toks) hk
    refine ⟨_, _, _, _, H1, rfl, I2, turn_enum (Nat.ne_of_gt (Nat.lt_succ_self _)), st, fun b hb => ?_, q⟩
    have hle : s1.heap.objs.size ≤ b := by
      have hb' : b = s1.heap.objs.size + 1 ∨ b = s1.heap.objs.size := by simpa using hb
      rcases hb' with h | h <;> rw [h] <;> (first | exact Nat.le_refl _ | exact Nat.le_add_right _ _)
    exact I1.fpOk hle (I1.hok.fresh hle)
def numd (xs : List MV) : List MV := xs.zipIdx.map fun p => .tup [.int (p.2 : Nat), p.1]
def itE (rs : List Er) (S : Sto) : R Wk := match rs with
  | [p] => match srcOf S p with
    | some a => .ok ⟨numd a.ds, a.gs⟩ S
    | none => .no
  | _ => .no
theorem im_enum (hg : Gl X "enumerate") (hm : X.mg "enumerate" = none) (ha : PAm X W [a] af) (hs : starEach [a] X.env = [(false, eval a X.env)] := by rfl) :
    PIm X W (.Tuple elts kt pt) (.Call (.Name "enumerate" p) [a] [] pos) (fun ρ S => (af ρ S).bind itE) := by
  obtain ⟨t, ha, k⟩ := ha
  refine ⟨_, pi_enum hg hm ha hs, fun α ρ S σ H Rc wd sl q => k α ρ S σ H _ wd sl (q.bind fun vs rs S1 α1 H1 e x1 w1 d1 q1 => ?_)⟩
  replace q1 := q1.shift x1
  unfold itE at q1
  split at q1
  · rename_i r1
    split at q1
    · rename_i s1 e1
      obtain ⟨u, rfl, du⟩ := args1 d1
      obtain ⟨l1, P1, rfl, p1, D1⟩ := src_ok w1 e1 du
      have g1 := D1.get _ _ _ p1
      have hlen : (numd s1.ds).length = s1.ds.length := by unfold numd; rw [List.length_map, List.length_zipIdx]
      refine ⟨s1.k, l1, rfl, ⟨_, g1.choose_spec.1⟩, q1.here (u := Ite X.K s1.k l1) w1 ⟨fun α S H => P1 α S H, ?_, p1, ?_, ?_⟩⟩
      · intro i α2 S2 H2 b1 w2
        obtain ⟨us, c1, c2⟩ := D1.get _ _ _ b1
        have hl := c2.length
        refine ⟨fun hi => ?_, fun hi => ?_⟩
        · have hi : i < (numd s1.ds).length := hi
          have h1 : i < us.length := by omega
          refine ⟨⟨us, us[i], c1, List.getElem?_eq_getElem h1⟩, ?_⟩
          rintro x H' ⟨pp, xx, hp, rfl, rfl, hx⟩
          obtain ⟨d, hd, dd⟩ := c2.get (hx us c1)
          have xn := w2.newx (o := .tup [.int (i : Nat), xx]) hp
          have wn := w2.new (o := .tup [.int (i : Nat), xx]) hp
          refine ⟨xn, wn, D1.stays _ _ _ _ _ _ b1 xn wn (D1.st _ _ _ b1), .tup [.int (i : Nat), d], ?_, ?_⟩
          · unfold numd; rw [List.getElem?_map, List.getElem?_zipIdx, hd]; simp
          · exact den_tup (.of upd_same) (denl_cons (den_int _) (denl_cons (dd.ext xn) denl_nil))
        · have hi : (numd s1.ds).length ≤ i := hi
          exact ⟨us, c1, by omega⟩
      · intro α1 S1 H1 α2 S2 H2 b1 x w hs
        exact D1.stays _ _ _ _ _ _ b1 x w hs
      · exact D1.st _ _ _ p1
    · exact q1.elim
  · exact q1.elim
end
end M
end L2
namespace L2
namespace M
open PySem PySem.Spec PyProof.Rows
noncomputable instance : DecidableEq MV := fun _ _ => Classical.propDecidable _
noncomputable def look (kvs : List (MV × MV)) (k : MV) : Option MV := (kvs.find? fun p => decide (p.1 = k)).map (·.2)
noncomputable def putK (kvs : List (MV × MV)) (k d : MV) : List (MV × MV) := if (look kvs k).isSome = true then kvs.map (fun p => if p.1 = k then (p.1, d) else p) else kvs ++ [(k, d)]
section
variable {X : Cx} {pins : List (Addr × Obj)} {σ : St} {H : Hp} {s : Shared} {α : List Addr}
theorem look_cons (p : MV × MV) (kvs : List (MV × MV)) (k : MV) : look (p :: kvs) k = if p.1 = k then some p.2 else look kvs k := by
  unfold look
  rw [List.find?_cons]
  by_cases h : p.1 = k
  · rw [decide_eq_true h, if_pos h]; rfl
  · rw [decide_eq_false h, if_neg h]
theorem DenN.append : ∀ {kvs kvs' : List (MV × MV)} {xs xs' : List (NK × Addr × Value)}, DenN X.K α H kvs xs → DenN X.K α H kvs' xs' → DenN X.K α H (kvs ++ kvs') (xs ++ xs')
  | _, _, _, _, .nil, h => h
  | _, _, _, _, .cons hk e a d r l, h => .cons hk e a d r (DenN.append l h)
end
section
variable {X : Cx} {W : XW} {a b o i : Expr} {f g : Rho → Sto → R Er} {pos : Pos}
theorem big_of {pins : List (Addr × Obj)} {σ : St} {H : Hp} {s : Shared} (I : Inv X pins σ H s) : sysModules < s.heap.objs.size := Nat.lt_trans (by decide) ((I.mod.glob.keeps I.bk).lt)
theorem Wd.put {gg : Gm} {α : List Addr} {S : Sto} {H : Hp} {p : Addr} {ho : HO} {m : MO} (w : Wd gg α S H) (hp : H p = none) (q : ObD gg (α ++ [p]) (upd H p ho) p m) : Ext α H (α ++ [p]) (upd H p ho) ∧ Wd gg (α ++ [p]) (S ++ [m]) (upd H p ho) := by
  have x := w.newx (o := ho) hp
  have nw := w.new (o := ho) hp
  have np := w.fresh hp
  refine ⟨⟨⟨⟨[p], rfl⟩, x.tup, x.frz⟩, fun b hb => ?_, x.keep, x.has⟩, ⟨?_, ?_, fun l c ob h1 h2 => ?_⟩⟩
  · rcases List.mem_append.mp hb with h | h
    · exact .inl h
    · rw [List.mem_singleton.mp h]; exact .inr hp
  · rw [List.length_append, List.length_append, w.len]; rfl
  · exact List.nodup_append.mpr ⟨w.nd, by simp, fun a ha c hc => by rw [List.mem_singleton.mp hc]; rintro rfl; exact np ha⟩
  · by_cases hl : l < α.length
    · rw [List.getElem?_append_left hl] at h1
      rw [List.getElem?_append_left (by rw [← w.len]; exact hl)] at h2
      exact (nw.obj l c ob h1 h2).move (Ex0.grow α [p] _) rfl
    · have hl' : l = α.length := by
        have := (List.getElem?_eq_some_iff.mp h1).1
        rw [List.length_append, List.length_singleton] at this
        omega
      subst hl'
      rw [List.getElem?_append_right (Nat.le_refl _), Nat.sub_self] at h1
      rw [List.getElem?_append_right (by rw [w.len]; exact Nat.le_refl _), w.len, Nat.sub_self] at h2
      cases h1; cases h2
      exact q
def newDF (S : Sto) : R Er := .ok (.val (.loc S.length)) (S ++ [.dic []])
theorem pm_dict0 : PEm X W (.Dict [] [] pos) (fun _ S => newDF S) := by
  refine ⟨fun σ H Q => ∀ p, H p = none → Q (.ref p) (upd H p (.dK [])), fun pins s σ H Q I h => ?_, fun α ρ S σ H Q wd sl q p hp => ?_⟩
  · exact wpAny_Dict_empty ⟨.ref s.heap.objs.size, _, I.laid (a := s.heap.objs.size) (o := .dK []) (t' := s.toks) (fun _ _ q => Heap.get?_push_of_some _ q) (Nat.le_refl _)
      ⟨Nat.zero_le _, beq_eq_false_iff_ne.mpr (Ne.symm (Nat.ne_of_lt (big_of I))), [], .nil, Heap.DictOf.new s.heap⟩, rfl, h _ (I.hok.fresh (Nat.le_refl _))⟩
  · obtain ⟨x, w'⟩ := wd.put (ho := .dK []) (m := .dic []) hp (.inl ⟨[], upd_same, .nil⟩)
    exact q (.ref p) (α ++ [p]) _ x w' (DenE.val (den_loc (by rw [← wd.len, List.getElem?_append_right (Nat.le_refl _), Nat.sub_self]; rfl)))
theorem DenN.length {α : List Addr} {H : Hp} : ∀ {kvs xs}, DenN X.K α H kvs xs → xs.length = kvs.length
  | _, _, .nil => rfl
  | _, _, .cons _ _ _ _ _ l => by rw [List.length_cons, List.length_cons, DenN.length l]
end
end M
end L2
namespace L2
namespace M
open PySem PySem.Spec PyProof.Rows
def XCl (K : PySem.W.Frag) (C : Addr) (bm : List Value) (init : Option Value) : Prop :=
  ∃ nm q N bs hd sn sub ab col dd k0 k1 k2 k3 k5, K.lookup C = some (excClassObj nm q C N bs bm hd sn sub ab col dd k0 k1 k2 k3 k5 "ValueError.__new__") ∧ PySem.W.nsOkIn K N = true ∧ PySem.W.nsIn K N "__init__" = some init ∧ ∀ n ∈ qn, PySem.W.nsIn K N n = some none
def XEach (K : PySem.W.Frag) (mg : Str → Option Value) (M : Addr) : List (Str × Addr) → Prop
  | [] => True
  | (c, C) :: r => (mg c = some (.ref C) ∧ ∃ i, XCl K C (.ref M :: bmV) i) ∧ XEach K mg M r
theorem XEach.at {K : PySem.W.Frag} {mg : Str → Option Value} {M : Addr} : ∀ {cs : List (Str × Addr)}, XEach K mg M cs → ∀ {c C}, (c, C) ∈ cs → mg c = some (.ref C) ∧ ∃ i, XCl K C (.ref M :: bmV) i
  | (c, C) :: r, h, c', C', z => by
    rcases List.mem_cons.mp z with z | z
    · cases z; exact h.1
    · exact XEach.at h.2 z
end M
end L2
namespace L2
open PySem PySem.Spec PyProof.Rows
structure Out (X : Cx) (pins : List (Addr × Obj)) (H : Hp) (s : Shared) (b : Addr) : Prop where
  s0 : X.s₀.heap.get? b = none
  h : H b = none
  pin : ∀ p ∈ X.pn ++ pins, p.1 ≠ b
  fld : ∃ o vs, s.heap.get? b = some o ∧ o.data = .fields vs
section
variable {X : Cx} {pins : List (Addr × Obj)} {σ : St} {H : Hp} {s : Shared} {e T b : Addr} {h' : Heap}
theorem Out.ne (o : Out X pins H s b) {c : Addr} {oc : Obj} (hc : s.heap.get? c = some oc) (nf : ∀ vs, oc.data ≠ .fields vs) : c ≠ b := fun z => by
  obtain ⟨ob, vs, h1, h2⟩ := o.fld
  rw [z, h1] at hc; cases hc
  exact nf vs h2
theorem Out.loc (o : Out X pins H s b) (I : Inv X pins σ H s) : X.env.locals ≠ b := by
  obtain ⟨m, ⟨oL, es, ep, h1, h2, _⟩, _⟩ := I.loc
  exact o.ne h1 fun vs z => by rw [h2] at z; cases z
end
end L2
set_option autoImplicit false
namespace Srt
variable {β : Type} {le : β → β → Prop}
structure Two (le : β → β → Prop) (T out xs ys : List β) : Prop where
  hx : (out ++ xs).Pairwise le
  hy : (out ++ ys).Pairwise le
  pm : (out ++ (xs ++ ys)).Perm T
structure TwoR (le : β → β → Prop) (T xs ys R : List β) : Prop where
  hx : (xs ++ R).Pairwise le
  hy : (ys ++ R).Pairwise le
  pm : (xs ++ ys ++ R).Perm T
end Srt
set_option autoImplicit false
namespace Srt
open PySem PyProof.Rows
abbrev SM := StateT SortSt Sem
abbrev G3 := Option (Option Nat) × Nat × Nat
end Srt
set_option autoImplicit false
namespace Srt
open PySem PyProof.Rows
section
variable {M : Model} {A : Around} {E : Value → Shared → Prop} {s : Shared}
variable {kd : SortKind} {D : Keyed → Prop} {lt : Keyed → Keyed → Bool}
abbrev Le (lt : Keyed → Keyed → Bool) (x y : Keyed) : Prop := lt y x = false
def SL (lt : Keyed → Keyed → Bool) (l : List Keyed) (b n : Nat) : Prop := ∀ i j x y, i ≤ j → j < n → l[b + i]? = some x → l[b + j]? = some y → lt y x = false
end
end Srt
set_option autoImplicit false
namespace Srt
open PySem PyProof.Rows
abbrev V := Array Keyed
abbrev L6 := Option V × V × Nat × Nat × Nat × Nat
abbrev dnL (a b o : V) (i j : Nat) : V := o ++ a.extract i a.size ++ b.extract j b.size
abbrev laL (a b o : V) (i j : Nat) : V := o ++ b.extract j b.size ++ a.extract i a.size
noncomputable def one1 (a b : V) (g : Nat) (c : L6) : SM (ForInStep L6) :=
  elem' b c.2.2.2.1 >>= fun y => elem' a c.2.2.1 >>= fun x => lt' y x >>= fun r => match r with
    | some q => if q = true then elem' b c.2.2.2.1 >>= fun y =>
          if (c.2.2.2.1 + 1 == b.size) = true then pure (.done (some (dnL a b (c.2.1.push y) c.2.2.1 (c.2.2.2.1 + 1)), c.2.1.push y, c.2.2.1, c.2.2.2.1 + 1, 0, c.2.2.2.2.2 + 1))
          else if c.2.2.2.2.2 + 1 ≥ g then pure (.done (none, c.2.1.push y, c.2.2.1, c.2.2.2.1 + 1, 0, c.2.2.2.2.2 + 1))
          else pure (.yield (none, c.2.1.push y, c.2.2.1, c.2.2.2.1 + 1, 0, c.2.2.2.2.2 + 1))
        else elem' a c.2.2.1 >>= fun x =>
          if (c.2.2.1 + 1 + 1 == a.size) = true then pure (.done (some (laL a b (c.2.1.push x) (c.2.2.1 + 1) c.2.2.2.1), c.2.1.push x, c.2.2.1 + 1, c.2.2.2.1, c.2.2.2.2.1 + 1, 0))
          else if c.2.2.2.2.1 + 1 ≥ g then pure (.done (none, c.2.1.push x, c.2.2.1 + 1, c.2.2.2.1, c.2.2.2.2.1 + 1, 0))
          else pure (.yield (none, c.2.1.push x, c.2.2.1 + 1, c.2.2.2.1, c.2.2.2.2.1 + 1, 0))
    | _ => pure (.done (some (dnL a b c.2.1 c.2.2.1 c.2.2.2.1), c.2.1, c.2.2.1, c.2.2.2.1, c.2.2.2.2.1, c.2.2.2.2.2))
noncomputable def in1 (a b : V) (t g : Nat) (c : L6) : SM L6 := forIn [0:t] c fun _ c => one1 a b g c
end Srt
set_option autoImplicit false
namespace Srt
open PySem PyProof.Rows
def Sg (st st' : SortSt) : Prop := ∃ g, st' = SortSt.mk' (kindOf st) (arrOf st) (pendingOf st) g (failedOf st)
theorem Sg.kind {st st' : SortSt} (h : Sg st st') : kindOf st' = kindOf st := by obtain ⟨g, rfl⟩ := h; rfl
section
variable {M : Model} {A : Around} {E : Value → Shared → Prop} {s : Shared} {kd : SortKind} {D : Keyed → Prop} {lt : Keyed → Keyed → Bool} {a b : V}
abbrev TwoA (lt : Keyed → Keyed → Bool) (a b o : V) (i j : Nat) : Prop := Two (Le lt) (a.toList ++ b.toList) o.toList (a.toList.drop i) (b.toList.drop j)
def FinA (lt : Keyed → Keyed → Bool) (a b r : V) : Prop := r.toList.Pairwise (Le lt) ∧ r.toList.Perm (a.toList ++ b.toList)
theorem TwoA.len {o : V} {i j : Nat} (h : TwoA lt a b o i j) : o.size + ((a.size - i) + (b.size - j)) = a.size + b.size := by
  have := h.pm.length_eq
  simpa [List.length_append, List.length_drop] using this
def I1 (lt : Keyed → Keyed → Bool) (a b o : V) (i j : Nat) : Prop := i + 1 < a.size ∧ j < b.size ∧ TwoA lt a b o i j
def N6 (lt : Keyed → Keyed → Bool) (a b : V) (n : Nat) (c : L6) : Prop := ∃ o i j p q, c = (none, o, i, j, p, q) ∧ I1 lt a b o i j ∧ n ≤ o.size
end
end Srt
set_option autoImplicit false
namespace Srt
open PySem PyProof.Rows
abbrev H5 := Option V × Nat × Nat × V × Nat
abbrev H6 := Option V × Nat × Nat × V × Nat × Nat
abbrev H7 := Option V × Nat × Nat × V × Nat × Nat × Nat
section
variable {M : Model} {A : Around} {E : Value → Shared → Prop} {s : Shared} {kd : SortKind} {D : Keyed → Prop} {lt : Keyed → Keyed → Bool} {a b : V}
abbrev TwoH (lt : Keyed → Keyed → Bool) (a b o : V) (i j : Nat) : Prop := TwoR (Le lt) (a.toList ++ b.toList) (a.toList.take i) (b.toList.take j) o.toList.reverse
theorem TwoH.len {o : V} {i j : Nat} (h : TwoH lt a b o i j) (h1 : i ≤ a.size) (h2 : j ≤ b.size) : o.size + (i + j) = a.size + b.size := by
  have := h.pm.length_eq
  simp only [List.length_append, List.length_take, List.length_reverse, Array.length_toList] at this
  omega
def J1 (lt : Keyed → Keyed → Bool) (a b o : V) (i j : Nat) : Prop := 1 ≤ i ∧ i ≤ a.size ∧ 2 ≤ j ∧ j ≤ b.size ∧ TwoH lt a b o i j
def R6 (lt : Keyed → Keyed → Bool) (a b : V) (n : Nat) (c : H6) : Prop := ∃ i j o p q, c = (none, i, j, o, p, q) ∧ J1 lt a b o i j ∧ n ≤ o.size
def S6 (lt : Keyed → Keyed → Bool) (a b : V) (n : Nat) (c : H6) : Prop := (∃ r e, c = (some r, e) ∧ FinA lt a b r) ∨ R6 lt a b n c
end
end Srt
set_option autoImplicit false
namespace Srt
open PySem PyProof.Rows
def Kx (d : Keyed) (v : V) (i : Nat) : Keyed := (v[i]?).getD d
structure SB (a₀ : V) (kd : SortKind) (pd : Array (Nat × Nat × Nat)) (f : V) (lo : Nat) (st : SortSt) : Prop where
  pm : (arrOf st).Perm a₀
  kind : kindOf st = kd
  fl : failedOf st = none
  pd : pendingOf st = pd
  fx : ∀ i, i < lo → (arrOf st)[i]? = f[i]?
section
variable {M : Model} {A : Around} {E : Value → Shared → Prop} {s : Shared} {kd : SortKind} {D : Keyed → Prop} {lt : Keyed → Keyed → Bool} {a₀ f : V} {pd : Array (Nat × Nat × Nat)} {lo : Nat} {st : SortSt} {d : Keyed}
theorem SB.size (h : SB a₀ kd pd f lo st) : (arrOf st).size = a₀.size := h.pm.size_eq
def Up (lt : Keyed → Keyed → Bool) (d : Keyed) (v : V) (lo n : Nat) : Prop := ∀ i j, i ≤ j → j < n → Le lt (Kx d v (lo + i)) (Kx d v (lo + j))
def Dn (lt : Keyed → Keyed → Bool) (d : Keyed) (v : V) (lo n : Nat) : Prop := ∀ i j, i ≤ j → j < n → Le lt (Kx d v (lo + j)) (Kx d v (lo + i))
end
end Srt
set_option autoImplicit false
namespace Srt
open PySem PyProof.Rows
section
variable {M : Model} {A : Around} {E : Value → Shared → Prop} {s : Shared} {kd : SortKind} {D : Keyed → Prop} {lt : Keyed → Keyed → Bool} {a₀ f : V} {pd : Array (Nat × Nat × Nat)} {lo : Nat} {st : SortSt} {d : Keyed}
theorem Up.sl {v : V} {n : Nat} (h : Up lt d v lo n) : SL lt v.toList lo n := by
  intro i j x y h1 h2 hx hy
  have e1 : Kx d v (lo + i) = x := by unfold Kx; rw [← Array.getElem?_toList, hx]; rfl
  have e2 : Kx d v (lo + j) = y := by unfold Kx; rw [← Array.getElem?_toList, hy]; rfl
  have := h i j h1 h2
  rw [e1, e2] at this
  exact this
structure Out (a₀ : V) (kd : SortKind) (lt : Keyed → Keyed → Bool) (n : Nat) (st : SortSt) : Prop where
  pm : (arrOf st).toList.Perm a₀.toList
  kind : kindOf st = kd
  fl : failedOf st = none
  pd : ∃ w, pendingOf st = #[(0, n, w)]
  so : (arrOf st).toList.Pairwise (Le lt)
end
end Srt
set_option autoImplicit false
set_option autoImplicit false
set_option autoImplicit false
set_option autoImplicit false
namespace L2
namespace M
open PySem PySem.Spec PyProof.Rows
section
variable {X : Cx} {W : XW} {tg iter a : Expr} {f : Rho → Sto → R Er} {af : Rho → Sto → R (List Er)} {e : Expr} {es : List Expr} {pos apos : Pos}
def Itq (K : PySem.W.Frag) (k : Bool) (a : Addr) : It := if k = true then Itl K a else Itt K a
def iSeq (K : PySem.W.Frag) (tl : TE) : TI := fun σ H R => tl σ H fun x H1 => ∃ k a, x = .ref a ∧ (∃ xs, SqK k K H1 a xs) ∧ R (Itq K k a) H1
theorem pi_seq {l : Expr} {tl : TE} (hl : PE X l tl) : PI X tg l (iSeq X.K tl) := by
  intro pins s σ H R I h
  refine thn (hl pins s σ H _ I h) fun v s1 ⟨x, H1, I1, r1, q1⟩ => ?_
  obtain ⟨k, a, e, ⟨xs, hq⟩, q⟩ := q1
  subst e
  cases r1
  cases k with
  | true =>
    obtain ⟨its, rv, p, hz⟩ := I1.list (show SqL X.K H1 a xs from hq)
    refine wpAny_pyIter_list p.isList ?_
    refine ⟨s1.heap.objs.size, [s1.heap.objs.size], _, _, H1, rfl, I1.kept (t' := s1.toks) fun b o e => Heap.get?_push_of_some _ e, turn_list a _, ⟨_, Heap.get?_push_size _ rfl, rfl, rfl⟩, fun b hb => ?_, q⟩
    have e : b = s1.heap.objs.size := by simpa using hb
    subst e
    exact I1.fpOk (Nat.le_refl _) (I1.hok.fresh (Nat.le_refl _))
  | false =>
    obtain ⟨its, rv, p, hz⟩ := I1.tuple (show SqT X.K H1 a xs from hq)
    refine wpAny_pyIter_tuple (show s1.heap.IsTuple a its.toArray from p) ?_
    refine ⟨s1.heap.objs.size, [s1.heap.objs.size], _, _, H1, rfl, I1.kept (t' := s1.toks) fun b o e => Heap.get?_push_of_some _ e, turn_tuple a _, ⟨_, Heap.get?_push_size _ rfl, rfl, rfl⟩, fun b hb => ?_, q⟩
    have e : b = s1.heap.objs.size := by simpa using hb
    subst e
    exact I1.fpOk (Nat.le_refl _) (I1.hok.fresh (Nat.le_refl _))
def itQ (r : Er) (S : Sto) : R Wk := match srcOf S r with
  | some q => .ok ⟨q.ds, q.gs⟩ S
  | none => .no
theorem im_seq (he : PEm X W iter f) : PIm X W tg iter (fun ρ S => (f ρ S).bind itQ) := by
  obtain ⟨t, he, k⟩ := he
  refine ⟨_, pi_seq he, fun α ρ S σ H Rc wd sl q => k α ρ S σ H _ wd sl (q.bind fun u p S1 α1 H1 e x1 w1 d1 q1 => ?_)⟩
  replace q1 := q1.shift x1
  unfold itQ at q1
  split at q1
  · rename_i q e1
    obtain ⟨l1, P1, rfl, p1, D1⟩ := src_ok w1 e1 d1.1
    have g1 := D1.get _ _ _ p1
    refine ⟨q.k, l1, rfl, ⟨_, g1.choose_spec.1⟩, q1.here (u := Itq X.K q.k l1) w1 ⟨fun α S H => P1 α S H, ?_, p1, fun α1 S1 H1 α2 S2 H2 b1 x w hs => D1.stays _ _ _ _ _ _ b1 x w hs, D1.st _ _ _ p1⟩⟩
    intro i α2 S2 H2 b1 w2
    obtain ⟨us, c1, c2⟩ := D1.get _ _ _ b1
    obtain ⟨qk, qd, qg⟩ := q
    cases qk with
    | true =>
      obtain ⟨i1, i2⟩ := itm_list (X := X) (a := l1) (ds := qd) i α2 S2 H2 ⟨us, c1, c2⟩ w2
      refine ⟨fun hi => ⟨(i1 hi).1, fun x H' y => ?_⟩, i2⟩
      obtain ⟨j1, j2, j3, j4⟩ := (i1 hi).2 x H' y
      obtain ⟨rfl, _⟩ := y
      exact ⟨j1, j2, b1, j4⟩
    | false =>
      obtain ⟨i1, i2⟩ := itm_tup (X := X) (a := l1) (ds := qd) i α2 S2 H2 ⟨us, c1, c2⟩ w2
      refine ⟨fun hi => ⟨(i1 hi).1, fun x H' y => ?_⟩, i2⟩
      obtain ⟨j1, j2, j3, j4⟩ := (i1 hi).2 x H' y
      obtain ⟨rfl, _⟩ := y
      exact ⟨j1, j2, b1, j4⟩
  · exact q1.elim
theorem DenL.eraseIdx {K : PySem.W.Frag} {α : List Addr} {H : Hp} : ∀ {ds : List MV} {vs : List V} (n : Nat), DenL K α H ds vs → DenL K α H (ds.eraseIdx n) (vs.eraseIdx n)
  | [], _, _, q => by rw [q.isnil]; exact denl_nil
  | d :: ds, _, 0, q => by
    obtain ⟨v, r, rfl, _, l⟩ := q.uncons
    exact l
  | d :: ds, _, n + 1, q => by
    obtain ⟨v, r, rfl, a, l⟩ := q.uncons
    exact denl_cons a (DenL.eraseIdx n l)
def popF (p : Er) (rs : List Er) (S : Sto) : R Er := match p, rs with
  | .val (.loc l), [.val (.int i)] => match S[l]? with
    | some (.lst ds) => if -(2 ^ 63) ≤ i ∧ i < 2 ^ 63 then match ixN ds.length i with
      | some j => match ds[j]? with
        | some d => .ok (.val d) (S.set l (.lst (ds.eraseIdx j)))
        | none => .no
      | none => .no
      else .no
    | _ => .no
  | _, _ => .no
theorem mm_pop : MtdM X W rPopAt popF := by
  intro p rs x vs α S H0 H Q α0 wd x0 dp da post
  unfold popF at post
  split at post
  · rename_i l i
    obtain ⟨a, rfl, h⟩ := xe_loc dp
    obtain ⟨v, rfl, dv⟩ := args1 da
    cases xe_int dv
    obtain ⟨ob, h1, h2⟩ := wd.of h
    rw [h1] at post
    cases ob with
    | lst ds =>
      obtain ⟨us, h3, l1⟩ := h2
      dsimp only at post
      split at post
      · rename_i hb
        split at post
        · rename_i j ej
          split at post
          · rename_i d ed
            obtain ⟨y, ey, dy⟩ := l1.at ed
            have xw := wd.writex h (o := .lst (us.eraseIdx j))
            refine ⟨a, us, i, j, y, rfl, rfl, h3, hb.1, hb.2, by rw [l1.length]; exact (ixN_seq ej).1, ey, ?_⟩
            exact (post.shift (x0.trans xw)).val (wd.write h ⟨_, upd_same, (l1.eraseIdx j).ext xw⟩) (dy.ext xw)
          · exact post.elim
        · exact post.elim
      · exact post.elim
    | dic _ => exact post.elim
    | ins _ _ => exact post.elim
  · exact post.elim
theorem pm_pop (ho : PEm X W a f) (ha : PAm X W (e :: es) af)
    (hbase : attributeBase a "pop" X.env (eval a X.env) = eval a X.env := by rfl)
    (hfew : ((backTo pos (starEach (e :: es) X.env)).all (fun x => !x.1) && (backToKw pos (keywordEach [] X.env)).all (fun x => x.1.isSome)
      && decide ((e :: es).length + ([] : List Keyword).length + (if ([] : List Keyword).isEmpty then 0 else 1) < 30)) = true := by rfl)
    (hline : (apos.endLine == pos.line) = true := by rfl) (hs : starEach (e :: es) X.env = (false, eval e X.env) :: starEach es X.env := by rfl) (hplain : (backTo pos (starEach es X.env)).any (·.1) = false := by rfl) :
    PEm X W (.Call (.Attribute a "pop" apos) (e :: es) [] pos) (fun ρ S => (f ρ S).bind fun p S1 => if isLst p S1 = true then (af ρ S1).bind fun rs S2 => popF p rs S2 else .no) :=
  pm_meth PySem.F.plainAttrs_list PySem.F.slot_list_pop PySem.F.type_list_pop mt_popAt mm_pop ty_lst ho ha hbase hfew hline hs hplain
def tysOf : List MV → Option (List String)
  | [] => some []
  | .typ n :: r => if known n = true then (tysOf r).map (n :: ·) else none
  | _ => none
def isiTF : List Er → Sto → R Er
  | [r, .val (.tup ts)], S => match tyName S r with
    | some t => match tysOf ts with
      | some ns => .ok (.val (.bl (ns.any (isiB t)))) S
      | none => .no
    | none => .no
  | _, _ => .no
end
end M
end L2
namespace L2
namespace M
open PySem PySem.Spec PyProof.Rows
section
variable {X : Cx} {W : XW} {a b o i : Expr} {f g : Rho → Sto → R Er} {pos : Pos} {pins : List (Addr × Obj)} {σ : St} {H : Hp} {s : Shared} {α : List Addr}
def Kinds (t : String) : Prop := t = "NoneType" ∨ t = "bool" ∨ t = "int" ∨ t = "str" ∨ t = "tuple" ∨ t = "list"
theorem kit_of {S : Sto} {r : Er} {x : V} {u : Value} {t : String} (I : Inv X pins σ H s) (wd : Wd X.g α S H) (d : DenX X.K α H r x) (rx : RelV x u) (et : tyName S r = some t) :
    ∃ Hh : Heap → Prop, PySem.W.KitX X.K u (.type t) Hh ∧ Hh s.heap ∧ u ≠ .builtin "__main__.__loader__#opaque" ∧ Kinds t := by
  unfold tyName at et
  split at et
  · cases et
    cases xe_non d
    cases rx
    exact ⟨_, PySem.W.kitx_none, True.intro, (fun z => nomatch z), .inl rfl⟩
  · cases et
    cases xe_bl d
    cases rx
    exact ⟨_, PySem.W.kitx_bool, True.intro, (fun z => nomatch z), .inr (.inl rfl)⟩
  · cases et
    cases xe_int d
    obtain ⟨t, rfl⟩ := rx
    exact ⟨_, PySem.W.kitx_int, True.intro, (fun z => nomatch z), .inr (.inr (.inl rfl))⟩
  · cases et
    cases xe_str d
    obtain ⟨t, rfl⟩ := rx
    exact ⟨_, PySem.W.kitx_str, True.intro, (fun z => nomatch z), .inr (.inr (.inr (.inl rfl)))⟩
  · cases et
    obtain ⟨a, vs, rfl, sq, l⟩ := xe_tup d
    cases rx
    obtain ⟨its, r1, p1, _⟩ := I.tuple sq
    obtain ⟨o, h1, h2, _⟩ := p1
    exact ⟨_, PySem.W.kitx_tuple, ⟨o, h1, h2⟩, (fun z => nomatch z), .inr (.inr (.inr (.inr (.inl rfl))))⟩
  · cases et
  · cases z : lsOf S r with
    | none => rw [z] at et; cases et
    | some ds =>
      rw [z] at et
      cases et
      obtain ⟨a, vs, rfl, sq, l⟩ := ls_of rfl wd z d
      cases rx
      obtain ⟨its, r1, p1, _⟩ := I.list sq
      obtain ⟨o, h1, h2, _⟩ := p1.isList
      exact ⟨_, PySem.W.kitx_list, ⟨o, h1, h2⟩, (fun z => nomatch z), .inr (.inr (.inr (.inr (.inr rfl))))⟩
theorem kit_any {t : String} (ht : Kinds t) : ∀ {ts : List MV} {ns : List String} {vs : List V} {us : List Value}, tysOf ts = some ns → DenL X.K α H ts vs → Vals vs us → PySem.W.kitAny X.K (.type t) us = some (ns.any (isiB t))
  | [], ns, vs, us, hn, d, r => by
    cases hn
    rw [d.isnil] at r
    cases r
    rfl
  | x :: ts, ns, vs, us, hn, d, r => by
    obtain ⟨v, vr, rfl, dv, l⟩ := d.uncons
    cases x with
    | typ n =>
      unfold tysOf at hn
      split at hn
      · rename_i hk
        cases z : tysOf ts with
        | none => rw [z] at hn; cases hn
        | some ns' =>
          rw [z] at hn
          cases hn
          cases of_typ dv
          cases r with
          | cons r1 r2 =>
            cases r1
            rw [PySem.W.kitAny, kit_table X.K ht hk, List.any_cons]
            cases hb : isiB t n with
            | true => rfl
            | false => exact kit_any ht z l r2
      · cases hn
    | _ => cases hn
theorem call_isiT : CallR X (.builtin "isinstance") (fun xs H Q => ∃ α S r x y t ts ns, xs = [x, y] ∧ Wd X.g α S H ∧ DenX X.K α H r x ∧ DenX X.K α H (.val (.tup ts)) y ∧ tyName S r = some t ∧ tysOf ts = some ns ∧ Q (.bl (ns.any (isiB t))) H) := by
  intro pins s σ H xs us Q I rr h
  obtain ⟨α, S, r, x, y, t, ts, ns, rfl, wd, d, dy, et, hn, q⟩ := h
  obtain ⟨u, w', rfl, rx, ry⟩ := vals2 rr
  obtain ⟨a, vs, rfl, sq, l⟩ := xe_tup dy
  cases ry
  obtain ⟨its, r1, p1, _⟩ := I.tuple sq
  obtain ⟨Hh, kx, hh, hx, ht⟩ := kit_of I wd d rx et
  obtain ⟨⟨oc, od, oda, os⟩, h1, h2, n, h3⟩ := p1
  cases h2
  cases h3
  exact PySem.W.kia_tup kx I.kIn hh h1 (kit_any ht hn l r1) hx fun tk => ⟨.bl _, H, I.tok _, rfl, q⟩
theorem cm_isiT : CallM X W (fun xs H Q => ∃ α S r x y t ts ns, xs = [x, y] ∧ Wd X.g α S H ∧ DenX X.K α H r x ∧ DenX X.K α H (.val (.tup ts)) y ∧ tyName S r = some t ∧ tysOf ts = some ns ∧ Q (.bl (ns.any (isiB t))) H) isiTF := by
  intro rs vs α S H Q wd d post
  unfold isiTF at post
  split at post
  · split at post
    · rename_i t et
      split at post
      · rename_i ns hn
        obtain ⟨v, u, rfl, d1, d2⟩ := argx2 d
        exact ⟨α, S, _, v, u, t, _, ns, rfl, wd, d1, d2, et, hn, Post.val post wd (den_bl _)⟩
      · exact post.elim
    · exact post.elim
  · exact post.elim
def putV (kvs : List (Key × V)) (k : Key) (v : V) : List (Key × V) := if (kvs.any fun kv => decide (kv.1 = k)) = true then kvs.map (fun kv => if kv.1 = k then (kv.1, v) else kv) else kvs ++ [(k, v)]
theorem putV_len (kvs : List (Key × V)) (k : Key) (v : V) : (putV kvs k v).length ≤ kvs.length + 1 := by
  unfold putV
  split
  · rw [List.length_map]; exact Nat.le_succ _
  · rw [List.length_append]; exact Nat.le_refl _
theorem kv_any {kvs : List (Key × V)} {vs : List (Key × Value)} (r : KV kvs vs) (k : Key) : (kvs.any fun kv => decide (kv.1 = k)) = vs.any fun kv => decide (kv.1 = k) := by
  unfold KV at r
  induction r with
  | nil => rfl
  | cons h t ih => rw [List.any_cons, List.any_cons, ih, h.1]
theorem kv_repl {kvs : List (Key × V)} {vs : List (Key × Value)} (r : KV kvs vs) (k : Key) {y : V} {u : Value} (ry : RelV y u) : KV (kvs.map fun kv => if kv.1 = k then (kv.1, y) else kv) (vs.map fun kv => if kv.1 = k then (kv.1, u) else kv) := by
  unfold KV at r ⊢
  induction r with
  | nil => exact .nil
  | @cons p q ps qs h t ih =>
    rw [List.map_cons, List.map_cons]
    refine .cons ?_ ih
    by_cases e : p.1 = k
    · rw [if_pos e, if_pos (h.1.symm.trans e)]; exact ⟨h.1, ry⟩
    · rw [if_neg e, if_neg fun z => e (h.1.trans z)]; exact h
theorem kv_snoc {kvs : List (Key × V)} {vs : List (Key × Value)} (r : KV kvs vs) {p : Key × V} {q : Key × Value} (h : p.1 = q.1 ∧ RelV p.2 q.2) : KV (kvs ++ [p]) (vs ++ [q]) := by
  unfold KV at r ⊢
  induction r with
  | nil => exact .cons h .nil
  | cons h' t ih => exact .cons h' ih
theorem kv_put {kvs : List (Key × V)} {vs : List (Key × Value)} (r : KV kvs vs) (k : Key) {y : V} {u : Value} (ry : RelV y u) : KV (putV kvs k y) (stored vs k u) := by
  unfold putV stored
  rw [kv_any r k]
  by_cases e : (vs.any fun kv => decide (kv.1 = k)) = true
  · rw [if_pos e, if_pos e]; exact kv_repl r k ry
  · rw [if_neg e, if_neg e]; exact kv_snoc r ⟨rfl, ry⟩
def isStrK : MV → Bool
  | .str _ => true
  | _ => false
theorem keyD_fn {k : MV} {a b : Key} (h : KeyD k a) (h' : KeyD k b) : a = b := by
  cases k with
  | int i => exact Eq.trans (show a = .inl i from h) (show b = .inl i from h').symm
  | str x => exact Eq.trans (show a = .inr (mkS x) from h) (show b = .inr (mkS x) from h').symm
  | _ => exact False.elim h
theorem keyD_inj {k k' : MV} {a : Key} (h : KeyD k a) (h' : KeyD k' a) : k = k' := by
  cases k with
  | int i =>
    have e : a = .inl i := h
    subst e
    cases k' with
    | int j => have e' : (Sum.inl i : Key) = .inl j := h'; cases e'; rfl
    | str y => have e' : (Sum.inl i : Key) = .inr (mkS y) := h'; cases e'
    | _ => exact False.elim h'
  | str x =>
    have e : a = .inr (mkS x) := h
    subst e
    cases k' with
    | int j => have e' : (Sum.inr (mkS x) : Key) = .inl j := h'; cases e'
    | str y =>
      have e' : (Sum.inr (mkS x) : Key) = .inr (mkS y) := h'
      injection e' with e'
      rw [mkS_inj e']
    | _ => exact False.elim h'
  | _ => exact False.elim h
theorem denk_any : ∀ {kvs : List (MV × MV)} {ks : List (Key × V)} {k : MV} {k' : Key}, DenK X.K α H kvs ks → KeyD k k' → (ks.any fun kv => decide (kv.1 = k')) = (look kvs k).isSome
  | _, _, k, k', .nil, hk => rfl
  | _, _, k, k', .cons (k := c) (k' := c') hc a l, hk => by
    rw [look_cons, List.any_cons]
    by_cases h : c = k
    · subst h
      rw [if_pos rfl, decide_eq_true (keyD_fn hc hk)]; rfl
    · have hn : ¬ c' = k' := fun z => h (keyD_inj hc (z.symm ▸ hk))
      rw [if_neg h, decide_eq_false hn, Bool.false_or]
      exact denk_any l hk
theorem denk_map : ∀ {kvs : List (MV × MV)} {ks : List (Key × V)} {k d : MV} {k' : Key} {v : V}, DenK X.K α H kvs ks → KeyD k k' → Den X.K α H d v → DenK X.K α H (kvs.map fun p => if p.1 = k then (p.1, d) else p) (ks.map fun kv => if kv.1 = k' then (kv.1, v) else kv)
  | _, _, k, d, k', v, .nil, hk, hd => .nil
  | _, _, k, d, k', v, .cons (k := c) (k' := c') hc a l, hk, hd => by
    rw [List.map_cons, List.map_cons]
    by_cases h : c = k
    · subst h
      rw [if_pos rfl, if_pos (keyD_fn hc hk)]
      exact .cons hc hd (denk_map l hk hd)
    · have hn : ¬ c' = k' := fun z => h (keyD_inj hc (z.symm ▸ hk))
      rw [if_neg h, if_neg hn]
      exact .cons hc a (denk_map l hk hd)
theorem DenK.append : ∀ {kvs kvs' : List (MV × MV)} {xs xs' : List (Key × V)}, DenK X.K α H kvs xs → DenK X.K α H kvs' xs' → DenK X.K α H (kvs ++ kvs') (xs ++ xs')
  | _, _, _, _, .nil, h => h
  | _, _, _, _, .cons hk a l, h => .cons hk a (DenK.append l h)
theorem DenK.length : ∀ {kvs : List (MV × MV)} {xs : List (Key × V)}, DenK X.K α H kvs xs → xs.length = kvs.length
  | _, _, .nil => rfl
  | _, _, .cons _ _ l => by rw [List.length_cons, List.length_cons, DenK.length l]
theorem denk_put {kvs : List (MV × MV)} {ks : List (Key × V)} {k d : MV} {k' : Key} {v : V} (l : DenK X.K α H kvs ks) (hk : KeyD k k') (hd : Den X.K α H d v) : DenK X.K α H (putK kvs k d) (putV ks k' v) := by
  unfold putK putV
  rw [denk_any l hk]
  by_cases h : (look kvs k).isSome = true
  · rw [if_pos h, if_pos h]; exact denk_map l hk hd
  · rw [if_neg h, if_neg h]; exact l.append (.cons hk hd .nil)
def DK (X : Cx) (H : Hp) (d : Addr) (ks : List (Key × V)) : Prop := H d = some (.dK ks) ∨ (ks = [] ∧ H d = some (DN X.prog X.w d []))
theorem dk_of {kvs : List (MV × MV)} {d : Addr} (ob : ObD X.g α H d (.dic kvs)) (hk : kvs.all (fun p => isStrK p.1) = true) : ∃ ks, DK X H d ks ∧ DenK X.K α H kvs ks := by
  rcases ob with ⟨ks, h, l⟩ | ⟨xs, h, l⟩
  · exact ⟨ks, .inl h, l⟩
  · cases l with
    | nil => exact ⟨[], .inr ⟨rfl, h⟩, .nil⟩
    | @cons k nk a d v u fs xs hn e ha hd r l =>
      rw [List.all_cons, Bool.and_eq_true] at hk
      cases k with
      | str x => exact absurd (of_str ha) (fun z => nomatch z)
      | _ => exact absurd hk.1 Bool.false_ne_true
theorem dk_heap (I : Inv X pins σ H s) {ks : List (Key × V)} {d : Addr} (h : DK X H d ks) : ks.length ≤ sizeLine ∧ (d == sysModules) = false ∧ ∃ vs, KV ks vs ∧ s.heap.DictOf (mixKind X.prog X.w) d vs := by
  rcases h with h | ⟨rfl, h⟩
  · exact (show ObjOk X.prog X.w H s.heap d (.dK ks) from I.hok d _ h)
  · obtain ⟨⟨hz, hs, o, es, ep, ho, hc, hd, he, hn⟩, _⟩ := (show ObjOk X.prog X.w H s.heap d (DN X.prog X.w d []) from I.hok d _ h)
    have he' : es.toList = [] := he
    refine ⟨Nat.zero_le _, hs, [], .nil, o, es, ep, ho, hc, hd, fun e hm => ?_, by rw [he']; exact .nil, List.nodup_nil⟩
    rw [← Array.mem_toList_iff, he'] at hm
    exact absurd hm (by simp)
def rSetK (X : Cx) : TSet := fun o i v H Q => ∃ (ks : List (Key × V)) (d : Addr) (x : List Nat), o = .ref d ∧ i = .str (mkS x) ∧ DK X H d ks ∧ ks.length < sizeLine ∧ Q (upd H d (.dK (putV ks (.inr (mkS x)) v)))
theorem set_dictK : PSet X (rSetK X) := by
  intro pins s σ H o i v ov iv u Q I ro ri rv h
  obtain ⟨ks, d, x, rfl, rfl, dd, hz, q⟩ := h
  cases ro
  obtain ⟨t, rfl⟩ := ri
  obtain ⟨z, hd, vs, rel, dm⟩ := dk_heap I dd
  have hl : ks.length = vs.length := Paired.length rel
  have hp := putV_len ks (.inr (mkS x)) v
  refine wpAny_setItem_pairs (knd := mixKind X.prog X.w) (hsz := by omega) (mixKind_str X.prog X.w (mkS x) t) dm fun h' dm' hs' => ⟨_, ?_, q⟩
  have mu : Mut (H d) := by
    rcases dd with z | ⟨_, z⟩ <;> rw [z] <;> exact trivial
  have he : ∃ q, h'.get? d = some q := let ⟨q, _, _, hq, _⟩ := dm'; ⟨q, hq⟩
  exact I.write (t' := _) (x := d) (e := d) mu (.inl rfl) (fun b uo hb eo => (hs'.2 b hb).trans eo) he ⟨by omega, hd, _, kv_put rel _ rv, dm'⟩
noncomputable def dikOf (S : Sto) : Er → Option (Nat × List (MV × MV))
  | .val (.loc l) => match S[l]? with
    | some (.dic kvs) => if kvs.all (fun p => isStrK p.1) = true then some (l, kvs) else none
    | _ => none
  | _ => none
theorem dik_of {S : Sto} (wd : Wd X.g α S H) {r : Er} {x : V} {l : Nat} {kvs : List (MV × MV)} (e : dikOf S r = some (l, kvs)) (d : DenX X.K α H r x) :
    ∃ c ks, x = .ref c ∧ α[l]? = some c ∧ S[l]? = some (.dic kvs) ∧ DK X H c ks ∧ DenK X.K α H kvs ks ∧ kvs.all (fun p => isStrK p.1) = true := by
  unfold dikOf at e
  split at e
  · rename_i n
    obtain ⟨c, rfl, h⟩ := xe_loc d
    split at e
    · rename_i ks hS
      split at e
      · rename_i hk
        obtain ⟨rfl, rfl⟩ := Prod.mk.inj (Option.some.inj e)
        obtain ⟨xs, dd, l⟩ := dk_of (wd.obj _ c _ h hS) hk
        exact ⟨c, xs, rfl, h, hS, dd, l, hk⟩
      · cases e
    · cases e
  · cases e
noncomputable def setKF (p q : Er) (d : MV) (ρ : Rho) (S : Sto) : R Rho := match q with
  | .val (.str x) => match dikOf S p with
    | some (l, kvs) => if kvs.length < 1000000 then .ok ρ (S.set l (.dic (putK kvs (.str x) d))) else .no
    | none => .no
  | _ => .no
theorem gm_subK (ho : PEm X W o f) (hi : PEm X W i g)
    (ha : ∀ v, assign (.Subscript o i pos) X.env v = (do
      let ov ← holding [v] (eval o X.env)
      let iv ← holding [v, ov] (eval i X.env)
      standAt pos
      holding [v, ov, iv] (setItem ov iv v)
      release [v, ov, iv] []) := by intro _; rfl) : PGm X W (.Subscript o i pos) (fun d ρ S => (f ρ S).bind fun p S1 => (g ρ S1).bind fun q S2 => setKF p q d ρ S2) := by
  obtain ⟨to, ho, fo⟩ := ho
  obtain ⟨ti, hi, fi⟩ := hi
  refine ⟨_, pg_sub ho hi set_dictK ha, fun α ρ S σ H d v Q wd sl de q => fo α ρ S σ H _ wd sl (q.bind fun u p S1 α1 H1 e1 x1 w1 d1 q1 => fi α1 ρ S1 σ H1 _ w1 (sl.ext x1) ((q1.shift x1).bind fun u2 p2 S2 α2 H2 e2 x2 w2 d2 q2 => ?_))⟩
  replace q2 := q2.shift x2
  have d1' := DenX.ext x2 d1.1
  have de2 := (de.ext x1).ext x2
  unfold setKF at q2
  split at q2
  · rename_i x
    split at q2
    · rename_i l kvs e
      split at q2
      · rename_i hk
        obtain ⟨c, ks, rfl, hc, hS, dd, dl, hall⟩ := dik_of w2 e d1'
        cases xe_str d2.1
        refine ⟨ks, c, x, rfl, rfl, dd, ?_, ?_⟩
        · rw [dl.length]
          exact Nat.lt_of_lt_of_le hk (fits (Nat.le_refl _))
        · have xw := w2.writex hc (o := .dK (putV ks (.inr (mkS x)) v))
          have sl2 := ((sl.ext x1).ext x2).ext xw
          exact q2 σ α2 _ xw (w2.write hc (.inl ⟨_, upd_same, (denk_put (k := .str x) dl (show KeyD (.str x) (.inr (mkS x)) from rfl) de2).ex0 xw.toEx0⟩)) sl2
      · exact q2.elim
    · exact q2.elim
  · exact q2.elim
theorem call_listK : CallR X (.type "list") (fun xs H Q => ∃ d ks, xs = [.ref d] ∧ DK X H d ks ∧ X.calm = true ∧ ∀ l, H l = none → Q (.ref l) (upd H l (.lst (ks.map fun p => kV p.1)))) := by
  intro pins s σ H xs us Q I r h
  obtain ⟨d, ks, rfl, dd, hc, q⟩ := h
  obtain ⟨u, rfl, rx⟩ := vals1 r
  cases rx
  obtain ⟨z, hd, vs, rel, dm⟩ := dk_heap I dd
  obtain ⟨ep, hat⟩ := dm.dictAt
  have hl : ks.length = vs.length := Paired.length rel
  refine PySem.W.kdl_call (PySem.W.kdl_dict (knd := mixKind X.prog X.w) (kvs := vs) (ep := ep) hd) (I.ok.hd hc) hat (by omega) fun h' tk acc c' hk hS hacc => ?_
  have rv : Vals (ks.map fun p => kV p.1) acc.toList := by
    have key : ∀ {ks : List (Key × V)} {vs : List (Key × Value)} {us : List Value}, KV ks vs → us.length = vs.length → (∀ (j : Nat) (v : Value), us[j]? = some v → ∃ (k : Key) (x : Value), vs[j]? = some (k, x) ∧ (mixKind X.prog X.w).is k v = true) → Vals (ks.map fun p => kV p.1) us := by
      intro ks vs us kv
      unfold KV at kv
      induction kv generalizing us with
      | nil => intro hl _; cases us with
        | nil => exact .nil
        | cons a b => simp at hl
      | @cons p q ps qs h t ih =>
        intro hl hv
        cases us with
        | nil => simp at hl
        | cons a b =>
          obtain ⟨k, x, e, hi⟩ := hv 0 a rfl
          simp only [List.getElem?_cons_zero, Option.some.injEq] at e
          subst e
          rw [List.map_cons]
          refine .cons ?_ (ih (by simpa using hl) fun j v hj => by simpa using hv (j + 1) v (by simpa using hj))
          rw [h.1]
          rcases keyIs_shape hi with ⟨i, t, e1, e2⟩ | ⟨i, t, e1, e2⟩
          · subst e2; rw [show k = .inl i from e1]; exact ⟨t, rfl⟩
          · subst e2; rw [show k = .inr i from e1]; exact ⟨t, rfl⟩
    exact key rel (by rw [Array.length_toList]; exact hacc.1) fun j v e => hacc.2 j v (by rw [← Array.getElem?_toList]; exact e)
  refine ⟨.ref s.heap.objs.size, _, I.laid (t' := tk) hk (Nat.le_refl _) (show ObjOk X.prog X.w _ h' _ (.lst (ks.map fun p => kV p.1)) from ⟨by rw [List.length_map]; exact z, acc.toList, c', rv, ?_⟩), rfl, q _ (I.hok.fresh (Nat.le_refl _))⟩
  rw [Array.toArray_toList]
  exact hS
noncomputable def listKF : List Er → Sto → R Er
  | [r], S => match dikOf S r with | some (_, kvs) => .ok (.new (kvs.map (·.1))) S | none => .no
  | _, _ => .no
theorem denk_keys : ∀ {kvs : List (MV × MV)} {ks : List (Key × V)}, DenK X.K α H kvs ks → DenL X.K α H (kvs.map (·.1)) (ks.map fun p => kV p.1)
  | _, _, .nil => denl_nil
  | _, _, .cons (k := c) (k' := c') hc a l => by
    refine denl_cons ?_ (denk_keys l)
    cases c with
    | int i => rw [show c' = .inl i from hc]; exact den_int i
    | str x => rw [show c' = .inr (mkS x) from hc]; exact den_str x
    | _ => exact False.elim hc
theorem cm_listK (hc : X.calm = true) : CallM X W (fun xs H Q => ∃ d ks, xs = [.ref d] ∧ DK X H d ks ∧ X.calm = true ∧ ∀ l, H l = none → Q (.ref l) (upd H l (.lst (ks.map fun p => kV p.1)))) listKF := by
  intro rs vs α S H Q wd d post
  unfold listKF at post
  split at post
  · split at post
    · rename_i n kvs e
      obtain ⟨v, rfl, dv⟩ := argx1 d
      obtain ⟨c, ks, rfl, h1, h2, dd, dl, _⟩ := dik_of wd e dv
      exact ⟨c, ks, rfl, dd, hc, fun l hl => Post.newl post wd hl (denk_keys dl)⟩
    · exact post.elim
  · exact post.elim
end
end M
end L2
namespace L2
namespace M
open PySem PySem.Spec PyProof.Rows
def inK (k : Key) (l : List Key) : Bool := l.any fun j => decide (j = k)
def metK (val : Nat → Key) : Nat → List Key
  | 0 => []
  | i + 1 => if inK (val i) (metK val i) = true then metK val i else metK val i ++ [val i]
theorem metK_succ (val : Nat → Key) (i : Nat) : metK val (i + 1) = if inK (val i) (metK val i) = true then metK val i else metK val i ++ [val i] := rfl
theorem metK_le (val : Nat → Key) : ∀ i, (metK val i).length ≤ i
  | 0 => Nat.le_refl _
  | i + 1 => by
    have ih := metK_le val i
    rw [metK_succ]
    split
    · exact Nat.le_trans ih (Nat.le_succ _)
    · rw [List.length_append]; exact Nat.succ_le_succ ih
theorem metK_mem (val : Nat → Key) (i : Nat) (k : Key) : inK k (metK val (i + 1)) = (inK k (metK val i) || decide (k = val i)) := by
  rw [metK_succ]
  by_cases h : inK (val i) (metK val i) = true
  · rw [if_pos h]
    by_cases e : k = val i
    · rw [e, h]; rfl
    · rw [decide_eq_false e, Bool.or_false]
  · rw [if_neg h]
    unfold inK
    rw [List.any_append, List.any_cons, List.any_nil, Bool.or_false]
    congr 1
    by_cases e : val i = k
    · rw [decide_eq_true e, decide_eq_true e.symm]
    · rw [decide_eq_false e, decide_eq_false fun z => e z.symm]
theorem metK_len (val : Nat → Key) (i : Nat) : (metK val (i + 1)).length = if inK (val i) (metK val i) = true then (metK val i).length else (metK val i).length + 1 := by
  rw [metK_succ]
  split
  · rfl
  · rw [List.length_append]; rfl
abbrev KSet (P : Program) (w : World) (h : Heap) (D : Addr) (val : Nat → Key) (i : Nat) : Prop := h.SetOf (mixKind P w) D (fun k => inK k (metK val i)) (metK val i).length
theorem KSet.move {P : Program} {w : World} {h h' : Heap} {D : Addr} {val : Nat → Key} {i : Nat} (x : KSet P w h D val i) (m : ∀ o, h.get? D = some o → h'.get? D = some o) : KSet P w h' D val i := by
  obtain ⟨o, es, ep, t, ho, r⟩ := x
  exact ⟨o, es, ep, t, m o ho, r⟩
def StrAt (val : Nat → Key) (i : Nat) (v : Value) : Prop := ∃ x t, val i = .inr x ∧ v = .str x t
theorem StrAt.is {P : Program} {w : World} {val : Nat → Key} {i : Nat} {v : Value} (h : StrAt val i v) : (mixKind P w).is (val i) v = true ∧ v.scannable = true := by
  obtain ⟨x, t, e, rfl⟩ := h
  rw [e]
  exact ⟨mixKind_str P w x t, rfl⟩
section
variable {P : Program} {w : World} {A : Around} {R : Result → Shared → Prop} {I D : Addr} {fp wr : List Addr} {G : Array GenState → Array GenState → Prop} {n : Nat} {Pv : Nat → Value → Prop} {St : Nat → Shared → Prop} {val : Nat → Key}
theorem set_turns (W : PySem.WalksS P w A.in1 I fp wr G n Pv St) (hD : D ∉ fp) (hv : ∀ i v, Pv i v → StrAt val i v) (hb : n + 1 < scanBound) :
    ∀ (k i : Nat) (s : Shared), i + k = n → St i s → KSet P w s.heap D val i →
      (∀ s', PySem.Moved (D :: wr) G s s' → KSet P w s'.heap D val n → R (.ok (.ret .none)) s') → codeAny (model P w) A (.builtin "set.update.loop" ⟨[.ref D, .ref I], []⟩) R s
  | 0, i, s, hk, st, hs, q => by
    have e : i = n := hk
    subst e
    refine codeAny_builtin F.entry_set_update_loop ?_
    rw [Around.under_plainId F.plain_set_update_loop _]
    show wpAny _ A.in1 (pyNext (.ref I) >>= _) _ _ s
    refine wpAny_bind (W.done s _ _ st fun s' m => ?_)
    exact wpAny_pure (q s' (m.mono fun b hb => .tail _ hb) (hs.move fun o => m.heap D o fun z => hD (W.sub _ z)))
  | k + 1, i, s, hk, st, hs, q => by
    refine codeAny_builtin F.entry_set_update_loop ?_
    rw [Around.under_plainId F.plain_set_update_loop _]
    show wpAny _ A.in1 (pyNext (.ref I) >>= _) _ _ s
    refine wpAny_bind (W.item i s _ _ (by omega) st fun v s' hP st' m => ?_)
    obtain ⟨hi, hsc⟩ := (hv i v hP).is (P := P) (w := w)
    have hs1 : KSet P w s'.heap D val i := hs.move fun o => m.heap D o fun z => hD (W.sub _ z)
    have le := metK_le val i
    show wpAny _ A.in1 (holding [v] (setAdd D v) >>= _) _ _ s'
    refine wpAny_bind (wpAny_holding ?_)
    unfold setAdd
    refine wpAny_holding (wpAny_bind ((mixKind P w).pyHash hi ?_))
    refine wpAny_setAddHashed_of (s := { s' with toks := s'.toks + 1 }) hi hsc hs1 (by omega) fun h2 sb hs2 => ?_
    have hs3 : KSet P w h2 D val (i + 1) := by
      unfold KSet
      rw [show (fun k => inK k (metK val (i + 1))) = (fun k => inK k (metK val i) || decide (k = val i)) from funext (metK_mem val i), metK_len]
      exact hs2
    refine wpAny_pure ⟨plainId_quiet F.plain_set_update_loop _, set_turns W hD hv hb k (i + 1) _ (by omega) (W.frame _ s' _ _ st' (Nat.le_succ _) fun b hb o e => ?_) hs3 fun s2 m2 hs4 => ?_⟩
    · rw [sb.2 b fun z => hD (z ▸ hb)]; exact e
    · refine q s2 (PySem.Moved.trans W.gtrans ((m.mono fun b hb => .tail _ hb).then_heap (Nat.le_succ _) fun b o hb e => ?_) m2) hs4
      rw [sb.2 b fun z => hb (by rw [z]; exact .head _)]; exact e
end
section
variable {P : Program} {w : World} {A : Around} {E : Value → Shared → Prop} {s : Shared}
abbrev freshSet (led : Bool) : Obj := { cls := .type "set", dict := none, data := .set #[] 0 (.fresh 0 0 led) }
theorem kset0 {h : Heap} {a : Addr} {led : Bool} {val : Nat → Key} (ho : h.get? a = some (freshSet led)) : KSet P w h a val 0 :=
  ⟨freshSet led, #[], 0, _, ho, ⟨rfl, rfl, rfl⟩, rfl, fun e he => absurd he (by simp), fun k => ⟨fun z => absurd (show false = true from z) Bool.false_ne_true, fun ⟨e, he, _⟩ => absurd he (by simp)⟩, by unfold scanBound; decide, rfl, rfl⟩
end
end M
end L2
namespace L2
namespace M
open PySem PySem.Spec PyProof.Rows
section
variable {P : Program} {w : World} {A : Around} {E : Value → Shared → Prop} {s : Shared}
theorem call_set_list {l : Addr} {items : Array Value} {val : Nat → Key} {Q : Value → Shared → Prop} (hh : A.handled = none) (hl : s.heap.IsList l items) (hv : ∀ (i : Nat) (v : Value), items[i]? = some v → StrAt val i v) (hb : items.size + 1 < scanBound)
    (h : ∀ (h' : Heap) (tk : Nat), KSet P w h' s.heap.objs.size val items.size → (∀ b o, s.heap.get? b = some o → h'.get? b = some o) → Q (.ref s.heap.objs.size) { s with heap := h', toks := tk }) :
    wpAny (model P w) A (call (.type "set") [.ref l]) Q E s := by
  obtain ⟨c, tl, hmro⟩ := F.called_set.mro
  have hmade := F.called_set.made
  have hsub := F.called_set.sub
  refine wpAny_call (codeAny_of_tree ?_)
  show wpAny _ _ (callAny (.type "set") _) _ _ _
  refine wpAny_pure ⟨Code.quiet_builtin _ (by decide +kernel), codeAny_builtin F.entry_type_call ?_⟩
  rw [Around.under_plain (weight_type_call_type "set" [.ref l] []) rfl]
  have h1 := F.called_set.notType
  have h2 := F.called_set.canCreate
  have hct := F.typeCall_set_1 (.ref l)
  repeat (any_goals (first | assumption | wp_step))
  refine codeAny_mono (code_set_new_1 (.ref l) (E := E) (Q₁ := fun ob s1 => ∃ led : Bool, ob = .ref s.heap.objs.size ∧ s1 = { s with heap := s.heap.push (freshSet led) }) fun led => ⟨led, rfl, rfl⟩) fun r s1 hr => ?_
  cases r with
  | error e => exact hr
  | ok fl =>
    cases fl with
    | ret ob =>
      obtain ⟨led, rfl, rfl⟩ := hr
      have g0 : (s.heap.push (freshSet led)).get? s.heap.objs.size = some (freshSet led) := Heap.get?_push_size _ rfl
      have hT : Shared.TypeIs { s with heap := s.heap.push (freshSet led) } (.ref s.heap.objs.size) "set" := ⟨_, g0, rfl⟩
      have hli := F.called_set.init.lookup
      have hbi := F.called_set.init.bind (.ref s.heap.objs.size)
      repeat (any_goals (first | assumption | wp_step))
      refine codeAny_mono (codeAny_call_builtin (R := wants (fun r s2 => r = .none ∧ ∃ h' tk, s2 = { s with heap := h', toks := tk } ∧ KSet P w h' s.heap.objs.size val items.size ∧ ∀ b o, s.heap.get? b = some o → h'.get? b = some o) E)
        F.called_set.init.plain F.entry_set_init (check_set_init_1 hT ?_)) fun r2 s2 hr2 => ?_
      · have hl1 : (s.heap.push (freshSet led)).IsList l items := hl.push _
        obtain ⟨⟨oc, od, oda, os⟩, hol, hcl, nl, hdl⟩ := hl
        cases hcl
        cases hdl
        have hol' : (s.heap.push (freshSet led)).get? l = some { cls := .type "list", dict := od, data := .seq items nl, slots := os } := Heap.get?_push_of_some _ hol
        have hsls := PySem.F.sub_list_set
        have hslf := PySem.F.sub_list_frozenset
        have hne : (Value.type "list" == Value.type "dict") = false := by decide
        have lt : l < s.heap.objs.size := Heap.lt_size hol
        unfold Builtin.«set.__init__» noKeywords Builtin.Frozenset.updateFrom
        generalize hPI : pyIter = PI
        wp_walk
        subst hPI
        refine wpAny_pyIter_list hl1 ?_
        refine wpAny_bind (wpAny_runValue ?_)
        have h3 : A.in1.in1.in1.handled = none := by simp [hh]
        have lt2 : l < (s.heap.push (freshSet led)).objs.size := by rw [Heap.size_push]; exact Nat.lt_succ_of_lt lt
        have out : s.heap.objs.size ∉ [(s.heap.push (freshSet led)).objs.size, l] := by
          rw [Heap.size_push]
          intro z
          rcases List.mem_cons.mp z with z | z
          · exact absurd z (Nat.ne_of_lt (Nat.lt_succ_self _))
          · exact absurd (List.mem_singleton.mp z) (Nat.ne_of_gt lt)
        refine set_turns ((Walks.list h3 _ l (Nat.ne_of_lt lt2) items).toS) (D := s.heap.objs.size) (val := val) out hv hb items.size 0 _ (Nat.zero_add _) ⟨⟨_, Heap.get?_push_size _ rfl, rfl, rfl⟩, hl1.push _⟩ ?hS0 ?hR
        case hS0 =>
          have gg : ((s.heap.push (freshSet led)).push { cls := .type "list_iterator", data := .fields #[.ref l, .int 0 0] }).get? s.heap.objs.size = some (freshSet led) := Heap.get?_push_of_some _ g0
          exact kset0 gg
        case hR =>
          intro s' m hs'
          obtain ⟨h', g', d', tk', os'⟩ := s'
          have e1 : g' = s.gens := m.gens
          have e2 : d' = s.drawn := m.drawn
          have e3 : os' = s.os := m.os
          subst e1; subst e2; subst e3
          show wpAny _ _ _ _ _ _
          refine wpAny_pure ?_
          show wpAny _ _ (ret Value.none) _ _ _
          refine wpAny_pure ⟨rfl, h', tk', rfl, hs', fun b o e => ?_⟩
          have hb0 := Heap.lt_size e
          refine m.heap b o (fun z => ?_) (Heap.get?_push_of_some _ (Heap.get?_push_of_some _ e))
          rcases List.mem_cons.mp z with z | z
          · exact absurd z (Nat.ne_of_lt hb0)
          · rw [Heap.size_push] at z
            exact absurd (List.mem_singleton.mp z) (Nat.ne_of_lt (Nat.lt_succ_of_lt hb0))
      · cases r2 with
        | error e => exact hr2
        | ok fl2 =>
          cases fl2 with
          | ret r =>
            obtain ⟨rfl, h', tk, rfl, hs', hk'⟩ := hr2
            repeat (any_goals (first | assumption | wp_step))
            exact h _ _ hs' hk'
          | _ => exact hr2.elim
    | _ => exact hr.elim
end
end M
end L2
namespace L2
namespace M
open PySem PySem.Spec PyProof.Rows
section
variable {P : Program} {w : World} {A : Around} {E : Value → Shared → Prop} {s : Shared}
theorem call_set_tuple {l : Addr} {items : Array Value} {val : Nat → Key} {Q : Value → Shared → Prop} (hh : A.handled = none) (hl : s.heap.IsTuple l items) (hv : ∀ (i : Nat) (v : Value), items[i]? = some v → StrAt val i v) (hb : items.size + 1 < scanBound)
    (h : ∀ (h' : Heap) (tk : Nat), KSet P w h' s.heap.objs.size val items.size → (∀ b o, s.heap.get? b = some o → h'.get? b = some o) → Q (.ref s.heap.objs.size) { s with heap := h', toks := tk }) :
    wpAny (model P w) A (call (.type "set") [.ref l]) Q E s := by
  obtain ⟨c, tl, hmro⟩ := F.called_set.mro
  have hmade := F.called_set.made
  have hsub := F.called_set.sub
  refine wpAny_call (codeAny_of_tree ?_)
  show wpAny _ _ (callAny (.type "set") _) _ _ _
  refine wpAny_pure ⟨Code.quiet_builtin _ (by decide +kernel), codeAny_builtin F.entry_type_call ?_⟩
  rw [Around.under_plain (weight_type_call_type "set" [.ref l] []) rfl]
  have h1 := F.called_set.notType
  have h2 := F.called_set.canCreate
  have hct := F.typeCall_set_1 (.ref l)
  repeat (any_goals (first | assumption | wp_step))
  refine codeAny_mono (code_set_new_1 (.ref l) (E := E) (Q₁ := fun ob s1 => ∃ led : Bool, ob = .ref s.heap.objs.size ∧ s1 = { s with heap := s.heap.push (freshSet led) }) fun led => ⟨led, rfl, rfl⟩) fun r s1 hr => ?_
  cases r with
  | error e => exact hr
  | ok fl =>
    cases fl with
    | ret ob =>
      obtain ⟨led, rfl, rfl⟩ := hr
      have g0 : (s.heap.push (freshSet led)).get? s.heap.objs.size = some (freshSet led) := Heap.get?_push_size _ rfl
      have hT : Shared.TypeIs { s with heap := s.heap.push (freshSet led) } (.ref s.heap.objs.size) "set" := ⟨_, g0, rfl⟩
      have hli := F.called_set.init.lookup
      have hbi := F.called_set.init.bind (.ref s.heap.objs.size)
      repeat (any_goals (first | assumption | wp_step))
      refine codeAny_mono (codeAny_call_builtin (R := wants (fun r s2 => r = .none ∧ ∃ h' tk, s2 = { s with heap := h', toks := tk } ∧ KSet P w h' s.heap.objs.size val items.size ∧ ∀ b o, s.heap.get? b = some o → h'.get? b = some o) E)
        F.called_set.init.plain F.entry_set_init (check_set_init_1 hT ?_)) fun r2 s2 hr2 => ?_
      · have hl1 : (s.heap.push (freshSet led)).IsTuple l items := hl.push _
        obtain ⟨⟨oc, od, oda, os⟩, hol, hcl, nl, hdl⟩ := hl
        cases hcl
        cases hdl
        have hol' : (s.heap.push (freshSet led)).get? l = some { cls := .type "tuple", dict := od, data := .seq items nl, slots := os } := Heap.get?_push_of_some _ hol
        have hsls := PySem.F.sub_tuple_set
        have hslf := PySem.F.sub_tuple_frozenset
        have hne : (Value.type "tuple" == Value.type "dict") = false := by decide
        have lt : l < s.heap.objs.size := Heap.lt_size hol
        unfold Builtin.«set.__init__» noKeywords Builtin.Frozenset.updateFrom
        generalize hPI : pyIter = PI
        wp_walk
        subst hPI
        refine wpAny_pyIter_tuple hl1 ?_
        refine wpAny_bind (wpAny_runValue ?_)
        have h3 : A.in1.in1.in1.handled = none := by simp [hh]
        have lt2 : l < (s.heap.push (freshSet led)).objs.size := by rw [Heap.size_push]; exact Nat.lt_succ_of_lt lt
        have out : s.heap.objs.size ∉ [(s.heap.push (freshSet led)).objs.size, l] := by
          rw [Heap.size_push]
          intro z
          rcases List.mem_cons.mp z with z | z
          · exact absurd z (Nat.ne_of_lt (Nat.lt_succ_self _))
          · exact absurd (List.mem_singleton.mp z) (Nat.ne_of_gt lt)
        refine set_turns ((Walks.tuple h3 _ l (Nat.ne_of_lt lt2) items).toS) (D := s.heap.objs.size) (val := val) out hv hb items.size 0 _ (Nat.zero_add _) ⟨⟨_, Heap.get?_push_size _ rfl, rfl, rfl⟩, hl1.push _⟩ ?hS0 ?hR
        case hS0 =>
          have gg : ((s.heap.push (freshSet led)).push { cls := .type "tuple_iterator", data := .fields #[.ref l, .int 0 0] }).get? s.heap.objs.size = some (freshSet led) := Heap.get?_push_of_some _ g0
          exact kset0 gg
        case hR =>
          intro s' m hs'
          obtain ⟨h', g', d', tk', os'⟩ := s'
          have e1 : g' = s.gens := m.gens
          have e2 : d' = s.drawn := m.drawn
          have e3 : os' = s.os := m.os
          subst e1; subst e2; subst e3
          show wpAny _ _ _ _ _ _
          refine wpAny_pure ?_
          show wpAny _ _ (ret Value.none) _ _ _
          refine wpAny_pure ⟨rfl, h', tk', rfl, hs', fun b o e => ?_⟩
          have hb0 := Heap.lt_size e
          refine m.heap b o (fun z => ?_) (Heap.get?_push_of_some _ (Heap.get?_push_of_some _ e))
          rcases List.mem_cons.mp z with z | z
          · exact absurd z (Nat.ne_of_lt hb0)
          · rw [Heap.size_push] at z
            exact absurd (List.mem_singleton.mp z) (Nat.ne_of_lt (Nat.lt_succ_of_lt hb0))
      · cases r2 with
        | error e => exact hr2
        | ok fl2 =>
          cases fl2 with
          | ret r =>
            obtain ⟨rfl, h', tk, rfl, hs', hk'⟩ := hr2
            repeat (any_goals (first | assumption | wp_step))
            exact h _ _ hs' hk'
          | _ => exact hr2.elim
    | _ => exact hr.elim
end
end M
end L2
namespace L2
namespace M
open PySem PySem.Spec PyProof.Rows
section
variable {X : Cx} {W : XW} {e : Expr} {af : Rho → Sto → R (List Er)} {p1 p2 pos1 pos2 : Pos}
def valY (ys : List (List Nat)) (i : Nat) : Key := .inr (mkS (ys.getD i []))
def diff (ys : List (List Nat)) : Nat := (metK (valY ys) ys.length).length
def setO (P : Program) (w : World) (l : Addr) (ys : List (List Nat)) : HO := .ext fun h => KSet P w h l (valY ys) ys.length
theorem strs_at : ∀ {ys : List (List Nat)} {us : List Value}, Vals (ys.map fun x => V.str (mkS x)) us → us.length = ys.length ∧ ∀ (i : Nat) (v : Value), us[i]? = some v → StrAt (valY ys) i v
  | [], us, r => by
    cases r
    exact ⟨rfl, fun i v h => by simp at h⟩
  | y :: ys, us, r => by
    rw [List.map_cons] at r
    cases r with
    | cons r1 r2 =>
      obtain ⟨t, rfl⟩ := r1
      obtain ⟨h1, h2⟩ := strs_at r2
      refine ⟨by rw [List.length_cons, List.length_cons, h1], fun i v h => ?_⟩
      cases i with
      | zero =>
        simp at h
        exact ⟨mkS y, t, rfl, h.symm⟩
      | succ i =>
        obtain ⟨x, t', e1, e2⟩ := h2 i v (by simpa using h)
        exact ⟨x, t', e1, e2⟩
theorem call_setS : CallR X (.type "set") (fun xs H Q => ∃ a k ys, xs = [.ref a] ∧ SqK k X.K H a (ys.map fun x => V.str (mkS x)) ∧ ys.length < 4000 ∧ X.calm = true ∧ ∀ l, H l = none → Q (.ref l) (upd H l (setO X.prog X.w l ys))) := by
  intro pins s σ H xs us Q I r h
  obtain ⟨a, k, ys, rfl, hq, hn, hc, q⟩ := h
  obtain ⟨u, rfl, rx⟩ := vals1 r
  cases rx
  have fin : ∀ (h' : Heap) (tk : Nat) (n : Nat), n = ys.length → KSet X.prog X.w h' s.heap.objs.size (valY ys) n → (∀ b o, s.heap.get? b = some o → h'.get? b = some o) → EP X pins σ Q (.ref s.heap.objs.size) { s with heap := h', toks := tk } := by
    intro h' tk n en hs kp
    subst en
    refine ⟨.ref s.heap.objs.size, _, I.laid (o := setO X.prog X.w s.heap.objs.size ys) (t' := tk) kp (Nat.le_refl _) ⟨hs, ?_, fun h1 h2 z mv => z.move mv⟩, rfl, q _ (I.hok.fresh (Nat.le_refl _))⟩
    obtain ⟨o, _, _, _, ho, _⟩ := hs
    exact ⟨o, ho⟩
  cases k with
  | true =>
    obtain ⟨its, rv, p, hz⟩ := I.list (show SqL X.K H a _ from hq)
    obtain ⟨e1, e2⟩ := strs_at rv
    have sz : its.toArray.size = ys.length := by rw [List.size_toArray]; exact e1
    exact call_set_list (val := valY ys) (I.ok.hd hc) p.isList (fun i v h => e2 i v (by simpa using h)) (by rw [sz]; unfold scanBound; omega) fun h' tk hs kp => fin h' tk _ sz hs kp
  | false =>
    obtain ⟨its, rv, p, hz⟩ := I.tuple (show SqT X.K H a _ from hq)
    obtain ⟨e1, e2⟩ := strs_at rv
    have sz : its.toArray.size = ys.length := by rw [List.size_toArray]; exact e1
    exact call_set_tuple (val := valY ys) (I.ok.hd hc) (show s.heap.IsTuple a its.toArray from p) (fun i v h => e2 i v (by simpa using h)) (by rw [sz]; unfold scanBound; omega) fun h' tk hs kp => fin h' tk _ sz hs kp
theorem call_lenS : CallR X (.builtin "len") (fun xs H Q => ∃ l ys, xs = [.ref l] ∧ ys.length < 4000 ∧ H l = some (setO X.prog X.w l ys) ∧ Q (.int (diff ys : Nat)) H) := by
  intro pins s σ H xs us Q I r h
  obtain ⟨l, ys, rfl, hn, hl, q⟩ := h
  obtain ⟨u, rfl, rx⟩ := vals1 r
  cases rx
  obtain ⟨hs, _⟩ := (show ObjOk X.prog X.w H s.heap l (setO X.prog X.w l ys) from I.hok l _ hl)
  obtain ⟨o, es, ep, t, ho, hex, hd, hel, hmem, hb, hf, hz⟩ := hs
  have hdz : diff ys = es.size := hz.symm
  rw [hdz] at q
  have hb' : es.size < 4096 := hb
  exact call_len_set ho hex hd hf (by omega) ⟨.int (es.size : Nat), H, I.tok _, ⟨s.toks + 1, rfl⟩, q⟩
def strsOf : List MV → Option (List (List Nat))
  | [] => some []
  | .str x :: r => (strsOf r).map (x :: ·)
  | _ => none
theorem strs_den {K : PySem.W.Frag} {α : List Addr} {H : Hp} : ∀ {ds : List MV} {ys : List (List Nat)} {vs : List V}, strsOf ds = some ys → DenL K α H ds vs → vs = ys.map fun x => V.str (mkS x)
  | [], ys, vs, h, d => by
    cases h
    rw [d.isnil]; rfl
  | x :: ds, ys, vs, h, d => by
    obtain ⟨v, r, rfl, dv, l⟩ := d.uncons
    cases x with
    | str x =>
      unfold strsOf at h
      cases z : strsOf ds with
      | none => rw [z] at h; cases h
      | some zs =>
        rw [z] at h
        cases h
        rw [List.map_cons, of_str dv, strs_den z l]
    | _ => cases h
def lsetF (rs : List Er) (S : Sto) : R Er := match rs with
  | [r] => match srcOf S r with
    | some q => match strsOf q.ds with
      | some ys => if ys.length < 4000 then .ok (.val (.int (diff ys : Nat))) S else .no
      | none => .no
    | none => .no
  | _ => .no
theorem bt_set : bootBuiltins "set" = some (.type "set") := by decide +kernel
theorem pm_lset (hc : X.calm = true) (hg : Gl X "len") (hm : X.mg "len" = none) (hg2 : Gl X "set") (hm2 : X.mg "set" = none) (ha : PAm X W [e] af)
    (he : starEach [e] X.env = (false, eval e X.env) :: starEach [] X.env := by rfl) (hpl : (backTo pos2 (starEach [] X.env)).any (·.1) = false := by rfl)
    (he1 : starEach [.Call (.Name "set" p2) [e] [] pos2] X.env = (false, eval (.Call (.Name "set" p2) [e] [] pos2) X.env) :: starEach [] X.env := by rfl) (hpl1 : (backTo pos1 (starEach [] X.env)).any (·.1) = false := by rfl) :
    PEm X W (.Call (.Name "len" p1) [.Call (.Name "set" p2) [e] [] pos2] [] pos1) (fun ρ S => (af ρ S).bind lsetF) := by
  obtain ⟨t, ha, k⟩ := ha
  refine ⟨_, pe_callB call_lenS hg hm bt_len (pa_cons (pe_callTy call_setS hg2 hm2 bt_set ha (by decide) (by decide) he hpl) pa_nil he1) (by decide) (by decide) he1 hpl1, fun α ρ S σ H Q wd sl q => k α ρ S σ H _ wd sl (q.bind fun vs rs S1 α1 H1 e1 x1 w1 d1 q1 => ?_)⟩
  replace q1 := q1.shift x1
  unfold lsetF at q1
  split at q1
  · rename_i r
    split at q1
    · rename_i q e1
      split at q1
      · rename_i ys ey
        split at q1
        · rename_i hn
          obtain ⟨u, rfl, du⟩ := args1 d1
          obtain ⟨l1, P1, rfl, pp, D1⟩ := src_ok w1 e1 du
          obtain ⟨us, c1, c2⟩ := D1.get _ _ _ pp
          rw [strs_den ey c2] at c1
          exact ⟨l1, q.k, ys, rfl, c1, hn, hc, fun l hl => ⟨l, ys, rfl, hn, upd_same, (q1.shift (w1.newx hl)).val (w1.new hl) (den_int _)⟩⟩
        · exact q1.elim
      · exact q1.elim
    · exact q1.elim
  · exact q1.elim
theorem metK_nd {ys : List (List Nat)} (h : ys.Nodup) : ∀ i, i ≤ ys.length → metK (valY ys) i = (ys.take i).map fun x => (.inr (mkS x) : Key)
  | 0, _ => rfl
  | i + 1, hi => by
    have hl : i < ys.length := hi
    rw [metK_succ, metK_nd h i (Nat.le_of_lt hl)]
    have hv : valY ys i = .inr (mkS ys[i]) := by
      unfold valY
      rw [List.getD_eq_getElem?_getD, List.getElem?_eq_getElem hl]; rfl
    rw [if_neg, List.take_add_one, List.getElem?_eq_getElem hl, List.map_append, hv]
    · rfl
    · intro z
      unfold inK at z
      obtain ⟨y, hy, e⟩ := List.any_eq_true.mp z
      obtain ⟨x, hx, rfl⟩ := List.mem_map.mp hy
      have e := of_decide_eq_true e
      rw [hv] at e
      injection e with e
      have e := mkS_inj e
      obtain ⟨j, hj, ej⟩ := List.mem_take_iff_getElem.mp hx
      have : j = i := (List.getElem_inj h).mp (ej.trans e)
      omega
theorem diff_nd {ys : List (List Nat)} (h : ys.Nodup) : diff ys = ys.length := by
  unfold diff
  rw [metK_nd h _ (Nat.le_refl _), List.take_length, List.length_map]
end
end M
end L2
namespace L2
namespace M
namespace My
open PySem PySem.Spec PyProof.Rows
local macro_rules
  | `(tactic| simp? [$xs,*] $[$l:location]?) => `(tactic| simp only [List.getElem?_cons_zero, List.getElem?_cons_succ, rd_some, bok, as_int, as_bl, tru_bl, add_int, sub_int, eq_int, ib_int, lst0, lst1, lst2, lst3, lst6, tup2, tup3, isi_is, isi_ss, isi_it, isi_st, isi_tt, isi_bb, set_val, set_new, List.set_cons_zero, List.set_cons_succ, if_true, ent_val, ent_nil, $xs,*] $[$l:location]?)
noncomputable def F_is_whole_1 : Rho → Sto → R Fl := (fun ρ S => ((((rdSl (ρ[0]?) S).bind fun p1 S2 => ((R.ok (.val (.typ "int")) S2).bind fun p5 S6 => (R.ok [] S6).bind fun l7 S8 => .ok (p5 :: l7) S8).bind fun l3 S4 => .ok (p1 :: l3) S4).bind isiF).bind fun p9 S10 => andF p9 S10 fun S11 => ((((rdSl (ρ[0]?) S11).bind fun p12 S13 => ((R.ok (.val (.typ "bool")) S13).bind fun p16 S17 => (R.ok [] S17).bind fun l18 S19 => .ok (p16 :: l18) S19).bind fun l14 S15 => .ok (p12 :: l14) S15).bind isiF).bind fun p20 S21 => (asB p20 S21).bind fun k22 S23 => .ok (.val (.bl !k22)) S23)).bind fun r S1 => .ok (.ret r) S1)
noncomputable def F_is_whole : Rho → Sto → R Fl := (F_is_whole_1)
noncomputable def f_is_whole (ds : List MV) (S : Sto) : R Er := finF (F_is_whole (startR ["thing"] ds) S)
noncomputable def C_is_name_1_c : Rho → Sto → R Bool := fun ρ S => (R.ok true S)
noncomputable def C_is_name_1_e : Rho → Sto → R Er := fun ρ S => ((R.ok (.val (.str [97])) S).bind fun p51 S52 => (rdSl (ρ[0]?) S52).bind fun q53 S54 => chF leF leF p51 q53 S54 fun S55 => (R.ok (.val (.str [122])) S55))
noncomputable def F_is_name_1 : Rho → Sto → R Fl := (fun ρ S => ((((((rdSl (ρ[0]?) S).bind fun p24 S25 => ((R.ok (.val (.typ "str")) S25).bind fun p28 S29 => (R.ok [] S29).bind fun l30 S31 => .ok (p28 :: l30) S31).bind fun l26 S27 => .ok (p24 :: l26) S27).bind isiF).bind truF).bind fun k32 S33 => .ok (!k32) S33).bind fun k34 S35 => if k34 = true then .ok true S35 else ((((R.ok (.val (.int 1)) S35).bind fun p36 S37 => (((rdSl (ρ[0]?) S37).bind fun p41 S42 => (R.ok [] S42).bind fun l43 S44 => .ok (p41 :: l43) S44).bind lenF).bind fun q38 S39 => chF leF leF p36 q38 S39 fun S40 => (R.ok (.val (.int 8)) S40)).bind asB).bind fun k45 S46 => .ok (!k45) S46)).bind fun k S1 => if k = true then ((fun ρ S => (R.ok (.val (.bl false)) S).bind fun r S1 => .ok (.ret r) S1)) ρ S1 else (fun ρ S => .ok (.next ρ) S) ρ S1)
noncomputable def F_is_name_2 : Rho → Sto → R Fl := (fun ρ S => (((((rdSl (ρ[0]?) S).bind itS).bind fun k47 S48 => if k47.ds.length < 1000000 then (compF (gNm 0) (C_is_name_1_c) (C_is_name_1_e) (blk 1 [] ρ) k47.gs k47.ds S48).bind fun o49 S50 => .ok (.new o49) S50 else .no).bind fun p56 S57 => (R.ok [] S57).bind fun l58 S59 => .ok (p56 :: l58) S59).bind allF).bind fun r S1 => .ok (.ret r) S1)
noncomputable def F_is_name : Rho → Sto → R Fl := seqF (F_is_name_1) ((F_is_name_2))
noncomputable def f_is_name (ds : List MV) (S : Sto) : R Er := finF (F_is_name (startR ["thing"] ds) S)
noncomputable def F_is_value_1 : Rho → Sto → R Fl := (fun ρ S => ((((rdSl (ρ[0]?) S).bind fun p62 S63 => (R.ok [] S63).bind fun l64 S65 => .ok (p62 :: l64) S65).bind fun r60 S61 => callF 1 f_is_whole r60 S61).bind truF).bind fun k S1 => if k = true then ((fun ρ S => ((((rdSl (ρ[0]?) S).bind fun p66 S67 => (R.ok [] S67).bind fun l68 S69 => .ok (p66 :: l68) S69).bind absF).bind fun p70 S71 => ((R.ok (.val (.int 10)) S71).bind fun p74 S75 => (R.ok (.val (.int 30)) S75).bind fun q76 S77 => powF p74 q76 S77).bind fun q72 S73 => ltF p70 q72 S73).bind fun r S1 => .ok (.ret r) S1)) ρ S1 else (fun ρ S => .ok (.next ρ) S) ρ S1)
noncomputable def F_is_value_2 : Rho → Sto → R Fl := (fun ρ S => (((rdSl (ρ[0]?) S).bind fun p80 S81 => (R.ok [] S81).bind fun l82 S83 => .ok (p80 :: l82) S83).bind fun r78 S79 => callF 1 f_is_name r78 S79).bind fun r S1 => .ok (.ret r) S1)
noncomputable def F_is_value : Rho → Sto → R Fl := seqF (F_is_value_1) ((F_is_value_2))
noncomputable def f_is_value (ds : List MV) (S : Sto) : R Er := finF (F_is_value (startR ["thing"] ds) S)
noncomputable def F_is_tuple_1 : Rho → Sto → R Fl := (fun ρ S => ((((rdSl (ρ[0]?) S).bind fun p84 S85 => ((R.ok (.val (.typ "tuple")) S85).bind fun p88 S89 => (R.ok [] S89).bind fun l90 S91 => .ok (p88 :: l90) S91).bind fun l86 S87 => .ok (p84 :: l86) S87).bind isiF).bind fun p92 S93 => andF p92 S93 fun S94 => ((rdSl (ρ[1]?) S94).bind fun p95 S96 => (((rdSl (ρ[0]?) S96).bind fun p100 S101 => (R.ok [] S101).bind fun l102 S103 => .ok (p100 :: l102) S103).bind lenF).bind fun q97 S98 => chF leF leF p95 q97 S98 fun S99 => (rdSl (ρ[2]?) S99))).bind fun r S1 => .ok (.ret r) S1)
noncomputable def F_is_tuple : Rho → Sto → R Fl := (F_is_tuple_1)
noncomputable def f_is_tuple (ds : List MV) (S : Sto) : R Er := finF (F_is_tuple (startR ["thing", "least", "most"] ds) S)
noncomputable def F_is_number_below_1 : Rho → Sto → R Fl := (fun ρ S => ((((rdSl (ρ[0]?) S).bind fun p106 S107 => (R.ok [] S107).bind fun l108 S109 => .ok (p106 :: l108) S109).bind fun r104 S105 => callF 1 f_is_whole r104 S105).bind fun p110 S111 => andF p110 S111 fun S112 => ((R.ok (.val (.int 0)) S112).bind fun p113 S114 => (rdSl (ρ[0]?) S114).bind fun q115 S116 => chF leF ltF p113 q115 S116 fun S117 => (rdSl (ρ[1]?) S117))).bind fun r S1 => .ok (.ret r) S1)
noncomputable def F_is_number_below : Rho → Sto → R Fl := (F_is_number_below_1)
noncomputable def f_is_number_below (ds : List MV) (S : Sto) : R Er := finF (F_is_number_below (startR ["thing", "bound"] ds) S)
noncomputable def F_is_term_1 : Rho → Sto → R Fl := (fun ρ S => (((((rdSl (ρ[0]?) S).bind fun p120 S121 => ((R.ok (.val (.int 2)) S121).bind fun p124 S125 => ((R.ok (.val (.int 2)) S125).bind fun p128 S129 => (R.ok [] S129).bind fun l130 S131 => .ok (p128 :: l130) S131).bind fun l126 S127 => .ok (p124 :: l126) S127).bind fun l122 S123 => .ok (p120 :: l122) S123).bind fun r118 S119 => callF 3 f_is_tuple r118 S119).bind truF).bind fun k132 S133 => .ok (!k132) S133).bind fun k S1 => if k = true then ((fun ρ S => (R.ok (.val (.bl false)) S).bind fun r S1 => .ok (.ret r) S1)) ρ S1 else (fun ρ S => .ok (.next ρ) S) ρ S1)
noncomputable def F_is_term_2 : Rho → Sto → R Fl := (fun ρ S => ((((rdSl (ρ[0]?) S).bind fun p134 S135 => (R.ok (.val (.int 0)) S135).bind fun q136 S137 => ixF p134 q136 S137).bind fun p138 S139 => (R.ok (.val (.str [118, 97, 114])) S139).bind fun q140 S141 => eqF p138 q140 S141).bind asB).bind fun k S1 => if k = true then ((fun ρ S => ((((rdSl (ρ[0]?) S).bind fun p144 S145 => (R.ok (.val (.int 1)) S145).bind fun q146 S147 => ixF p144 q146 S147).bind fun p148 S149 => (R.ok [] S149).bind fun l150 S151 => .ok (p148 :: l150) S151).bind fun r142 S143 => callF 1 f_is_name r142 S143).bind fun r S1 => .ok (.ret r) S1)) ρ S1 else (fun ρ S => .ok (.next ρ) S) ρ S1)
noncomputable def F_is_term_3 : Rho → Sto → R Fl := (fun ρ S => ((((rdSl (ρ[0]?) S).bind fun p152 S153 => (R.ok (.val (.int 0)) S153).bind fun q154 S155 => ixF p152 q154 S155).bind fun p156 S157 => (R.ok (.val (.str [105, 115])) S157).bind fun q158 S159 => eqF p156 q158 S159).bind fun p160 S161 => andF p160 S161 fun S162 => ((((rdSl (ρ[0]?) S162).bind fun p165 S166 => (R.ok (.val (.int 1)) S166).bind fun q167 S168 => ixF p165 q167 S168).bind fun p169 S170 => (R.ok [] S170).bind fun l171 S172 => .ok (p169 :: l171) S172).bind fun r163 S164 => callF 1 f_is_value r163 S164)).bind fun r S1 => .ok (.ret r) S1)
noncomputable def F_is_term : Rho → Sto → R Fl := seqF (F_is_term_1) (seqF (F_is_term_2) ((F_is_term_3)))
noncomputable def f_is_term (ds : List MV) (S : Sto) : R Er := finF (F_is_term (startR ["thing"] ds) S)
noncomputable def C_is_atom_1_c : Rho → Sto → R Bool := fun ρ S => (R.ok true S)
noncomputable def C_is_atom_1_e : Rho → Sto → R Er := fun ρ S => (((rdSl (ρ[0]?) S).bind fun p254 S255 => (R.ok [] S255).bind fun l256 S257 => .ok (p254 :: l256) S257).bind fun r252 S253 => callF 1 f_is_term r252 S253)
noncomputable def F_is_atom_1 : Rho → Sto → R Fl := (fun ρ S => ((((((rdSl (ρ[0]?) S).bind fun p175 S176 => ((R.ok (.val (.int 2)) S176).bind fun p179 S180 => ((R.ok (.val (.int 2)) S180).bind fun p183 S184 => (R.ok [] S184).bind fun l185 S186 => .ok (p183 :: l185) S186).bind fun l181 S182 => .ok (p179 :: l181) S182).bind fun l177 S178 => .ok (p175 :: l177) S178).bind fun r173 S174 => callF 3 f_is_tuple r173 S174).bind truF).bind fun k187 S188 => .ok (!k187) S188).bind fun k189 S190 => if k189 = true then .ok true S190 else ((((((rdSl (ρ[0]?) S190).bind fun p193 S194 => (R.ok (.val (.int 0)) S194).bind fun q195 S196 => ixF p193 q195 S196).bind fun p197 S198 => ((((rdSl (ρ[1]?) S198).bind fun p201 S202 => (R.ok [] S202).bind fun l203 S204 => .ok (p201 :: l203) S204).bind lenF).bind fun p205 S206 => (R.ok [] S206).bind fun l207 S208 => .ok (p205 :: l207) S208).bind fun l199 S200 => .ok (p197 :: l199) S200).bind fun r191 S192 => callF 2 f_is_number_below r191 S192).bind truF).bind fun k209 S210 => .ok (!k209) S210)).bind fun k S1 => if k = true then ((fun ρ S => (R.ok (.val (.bl false)) S).bind fun r S1 => .ok (.ret r) S1)) ρ S1 else (fun ρ S => .ok (.next ρ) S) ρ S1)
noncomputable def F_is_atom_2 : Rho → Sto → R Fl := (fun ρ S => (((rdSl (ρ[1]?) S).bind fun p211 S212 => ((rdSl (ρ[0]?) S212).bind fun p215 S216 => (R.ok (.val (.int 0)) S216).bind fun q217 S218 => ixF p215 q217 S218).bind fun q213 S214 => ixF p211 q213 S214).bind fun p219 S220 => (R.ok (.val (.int 0)) S220).bind fun q221 S222 => ixF p219 q221 S222).bind (setF ρ 2))
noncomputable def F_is_atom_3 : Rho → Sto → R Fl := (fun ρ S => (((((rdSl (ρ[0]?) S).bind fun p225 S226 => (R.ok (.val (.int 1)) S226).bind fun q227 S228 => ixF p225 q227 S228).bind fun p229 S230 => ((rdSl (ρ[2]?) S230).bind fun p233 S234 => ((rdSl (ρ[2]?) S234).bind fun p237 S238 => (R.ok [] S238).bind fun l239 S240 => .ok (p237 :: l239) S240).bind fun l235 S236 => .ok (p233 :: l235) S236).bind fun l231 S232 => .ok (p229 :: l231) S232).bind fun r223 S224 => callF 3 f_is_tuple r223 S224).bind fun p241 S242 => andF p241 S242 fun S243 => ((((((rdSl (ρ[0]?) S243).bind fun p244 S245 => (R.ok (.val (.int 1)) S245).bind fun q246 S247 => ixF p244 q246 S247).bind itT).bind fun k248 S249 => if k248.ds.length < 1000000 then (compF (gNm 0) (C_is_atom_1_c) (C_is_atom_1_e) (blk 1 [] ρ) k248.gs k248.ds S249).bind fun o250 S251 => .ok (.new o250) S251 else .no).bind fun p258 S259 => (R.ok [] S259).bind fun l260 S261 => .ok (p258 :: l260) S261).bind allF)).bind fun r S1 => .ok (.ret r) S1)
noncomputable def F_is_atom : Rho → Sto → R Fl := seqF (F_is_atom_1) (seqF (F_is_atom_2) ((F_is_atom_3)))
noncomputable def f_is_atom (ds : List MV) (S : Sto) : R Er := finF (F_is_atom (startR ["thing", "tables", "wide"] ds) S)
noncomputable def B_names_in_2_1 : Rho → Sto → R Fl := (fun ρ S => ((((rdSl (ρ[3]?) S).bind fun p266 S267 => (R.ok (.val (.int 0)) S267).bind fun q268 S269 => ixF p266 q268 S269).bind fun p270 S271 => (R.ok (.val (.str [118, 97, 114])) S271).bind fun q272 S273 => eqF p270 q272 S273).bind asB).bind fun k S1 => if k = true then ((fun ρ S => (R.ok (.val (.bl true)) S).bind (asgF (fun d275 ρ S274 => (rdSl (ρ[1]?) S274).bind fun p277 S278 => ((rdSl (ρ[3]?) S278).bind fun p281 S282 => (R.ok (.val (.int 1)) S282).bind fun q283 S284 => ixF p281 q283 S284).bind fun q279 S280 => setKF p277 q279 d275 ρ S280) ρ))) ρ S1 else (fun ρ S => .ok (.next ρ) S) ρ S1)
noncomputable def B_names_in_2 : Rho → Sto → R Fl := (B_names_in_2_1)
noncomputable def B_names_in_1_1 : Rho → Sto → R Fl := (fun ρ S => (((rdSl (ρ[2]?) S).bind fun p262 S263 => (R.ok (.val (.int 1)) S263).bind fun q264 S265 => ixF p262 q264 S265).bind itT).bind fun k S1 => forF (gNm 3) (B_names_in_2) k.gs k.ds ρ S1)
noncomputable def B_names_in_1 : Rho → Sto → R Fl := (B_names_in_1_1)
noncomputable def F_names_in_1 : Rho → Sto → R Fl := (fun ρ S => (newDF S).bind (setF ρ 1))
noncomputable def F_names_in_2 : Rho → Sto → R Fl := (fun ρ S => ((rdSl (ρ[0]?) S).bind itQ).bind fun k S1 => forF (gNm 2) (B_names_in_1) k.gs k.ds ρ S1)
noncomputable def F_names_in_3 : Rho → Sto → R Fl := (fun ρ S => (((rdSl (ρ[1]?) S).bind fun p285 S286 => (R.ok [] S286).bind fun l287 S288 => .ok (p285 :: l287) S288).bind listKF).bind fun r S1 => .ok (.ret r) S1)
noncomputable def F_names_in : Rho → Sto → R Fl := seqF (F_names_in_1) (seqF (F_names_in_2) ((F_names_in_3)))
noncomputable def f_names_in (ds : List MV) (S : Sto) : R Er := finF (F_names_in (startR ["atoms", "names", "atom", "term"] ds) S)
noncomputable def C_is_head_1_c : Rho → Sto → R Bool := fun ρ S => (R.ok true S)
noncomputable def C_is_head_1_e : Rho → Sto → R Er := fun ρ S => ((rdSl (ρ[0]?) S).bind fun p309 S310 => (rdSl (ρ[1]?) S310).bind fun q311 S312 => inF false p309 q311 S312)
noncomputable def F_is_head_1 : Rho → Sto → R Fl := (fun ρ S => (((rdSl (ρ[1]?) S).bind fun p291 S292 => (R.ok [] S292).bind fun l293 S294 => .ok (p291 :: l293) S294).bind fun r289 S290 => callF 1 f_names_in r289 S290).bind (setF ρ 2))
noncomputable def F_is_head_2 : Rho → Sto → R Fl := (fun ρ S => ((((((rdSl (ρ[0]?) S).bind fun p295 S296 => (R.ok [] S296).bind fun l297 S298 => .ok (p295 :: l297) S298).bind lenF).bind fun p299 S300 => (R.ok (.val (.int 4)) S300).bind fun q301 S302 => gtF p299 q301 S302).bind asB).bind fun k303 S304 => if k303 = true then .ok true S304 else (((((((rdSl (ρ[0]?) S304).bind itQ).bind fun k305 S306 => if k305.ds.length < 1000000 then (compF (gNm 0) (C_is_head_1_c) (C_is_head_1_e) (blk 1 [2] ρ) k305.gs k305.ds S306).bind fun o307 S308 => .ok (.new o307) S308 else .no).bind fun p313 S314 => (R.ok [] S314).bind fun l315 S316 => .ok (p313 :: l315) S316).bind allF).bind truF).bind fun k317 S318 => .ok (!k317) S318)).bind fun k S1 => if k = true then ((fun ρ S => (R.ok (.val (.bl false)) S).bind fun r S1 => .ok (.ret r) S1)) ρ S1 else (fun ρ S => .ok (.next ρ) S) ρ S1)
noncomputable def F_is_head_3 : Rho → Sto → R Fl := (fun ρ S => ((((rdSl (ρ[0]?) S).bind fun p319 S320 => (R.ok [] S320).bind fun l321 S322 => .ok (p319 :: l321) S322).bind lsetF).bind fun p323 S324 => (((rdSl (ρ[0]?) S324).bind fun p327 S328 => (R.ok [] S328).bind fun l329 S330 => .ok (p327 :: l329) S330).bind lenF).bind fun q325 S326 => eqF p323 q325 S326).bind fun r S1 => .ok (.ret r) S1)
noncomputable def F_is_head : Rho → Sto → R Fl := seqF (F_is_head_1) (seqF (F_is_head_2) ((F_is_head_3)))
noncomputable def f_is_head (ds : List MV) (S : Sto) : R Er := finF (F_is_head (startR ["things", "atoms", "standing"] ds) S)
noncomputable def F_listed_1 : Rho → Sto → R Fl := (fun ρ S => (((rdSl (ρ[0]?) S).bind fun p331 S332 => ((((R.ok (.val (.typ "list")) S332).bind fun p335 S336 => ((R.ok (.val (.typ "tuple")) S336).bind fun p339 S340 => (R.ok [] S340).bind fun l341 S342 => .ok (p339 :: l341) S342).bind fun l337 S338 => .ok (p335 :: l337) S338).bind tupF).bind fun p343 S344 => (R.ok [] S344).bind fun l345 S346 => .ok (p343 :: l345) S346).bind fun l333 S334 => .ok (p331 :: l333) S334).bind isiTF).bind fun r S1 => .ok (.ret r) S1)
noncomputable def F_listed : Rho → Sto → R Fl := (F_listed_1)
noncomputable def f_listed (ds : List MV) (S : Sto) : R Er := finF (F_listed (startR ["thing"] ds) S)
noncomputable def B_question_of_1_1 : Rho → Sto → R Fl := (fun ρ S => (((((rdSl (ρ[4]?) S).bind fun p361 S362 => ((rdSl (ρ[0]?) S362).bind fun p365 S366 => (R.ok [] S366).bind fun l367 S368 => .ok (p365 :: l367) S368).bind fun l363 S364 => .ok (p361 :: l363) S364).bind fun r359 S360 => callF 2 f_is_atom r359 S360).bind truF).bind fun k369 S370 => .ok (!k369) S370).bind fun k S1 => if k = true then ((fun _ _ => R.no)) ρ S1 else (fun ρ S => .ok (.next ρ) S) ρ S1)
noncomputable def B_question_of_1 : Rho → Sto → R Fl := (B_question_of_1_1)
noncomputable def F_question_of_1 : Rho → Sto → R Fl := (fun ρ S => (((((rdSl (ρ[2]?) S).bind fun p349 S350 => (R.ok [] S350).bind fun l351 S352 => .ok (p349 :: l351) S352).bind fun r347 S348 => callF 1 f_listed r347 S348).bind truF).bind fun k353 S354 => .ok (!k353) S354).bind fun k S1 => if k = true then ((fun _ _ => R.no)) ρ S1 else (fun ρ S => .ok (.next ρ) S) ρ S1)
noncomputable def F_question_of_2 : Rho → Sto → R Fl := (fun ρ S => (((rdSl (ρ[2]?) S).bind fun p355 S356 => (R.ok [] S356).bind fun l357 S358 => .ok (p355 :: l357) S358).bind itE).bind fun k S1 => forF (gTp 2 (gsCons (gNm 3) (gsCons (gNm 4) gsNil))) (B_question_of_1) k.gs k.ds ρ S1)
noncomputable def F_question_of_3 : Rho → Sto → R Fl := (fun ρ S => (((((R.ok (.val (.int 1)) S).bind fun p371 S372 => (((rdSl (ρ[2]?) S372).bind fun p376 S377 => (R.ok [] S377).bind fun l378 S379 => .ok (p376 :: l378) S379).bind lenF).bind fun q373 S374 => chF leF leF p371 q373 S374 fun S375 => (R.ok (.val (.int 4)) S375)).bind asB).bind fun k380 S381 => .ok (!k380) S381).bind fun k382 S383 => if k382 = true then .ok true S383 else ((((((rdSl (ρ[1]?) S383).bind fun p386 S387 => (R.ok [] S387).bind fun l388 S389 => .ok (p386 :: l388) S389).bind fun r384 S385 => callF 1 f_listed r384 S385).bind truF).bind fun k390 S391 => .ok (!k390) S391).bind fun k392 S393 => if k392 = true then .ok true S393 else (((((rdSl (ρ[1]?) S393).bind fun p396 S397 => ((rdSl (ρ[2]?) S397).bind fun p400 S401 => (R.ok [] S401).bind fun l402 S403 => .ok (p400 :: l402) S403).bind fun l398 S399 => .ok (p396 :: l398) S399).bind fun r394 S395 => callF 2 f_is_head r394 S395).bind truF).bind fun k404 S405 => .ok (!k404) S405))).bind fun k S1 => if k = true then ((fun _ _ => R.no)) ρ S1 else (fun ρ S => .ok (.next ρ) S) ρ S1)
noncomputable def F_question_of_4 : Rho → Sto → R Fl := (fun ρ S => (((((rdSl (ρ[1]?) S).bind fun p406 S407 => (R.ok [] S407).bind fun l408 S409 => .ok (p406 :: l408) S409).bind tupleF).bind fun p410 S411 => ((((rdSl (ρ[2]?) S411).bind fun p414 S415 => (R.ok [] S415).bind fun l416 S417 => .ok (p414 :: l416) S417).bind tupleF).bind fun p418 S419 => (R.ok [] S419).bind fun l420 S421 => .ok (p418 :: l420) S421).bind fun l412 S413 => .ok (p410 :: l412) S413).bind tupF).bind fun r S1 => .ok (.ret r) S1)
noncomputable def F_question_of : Rho → Sto → R Fl := seqF (F_question_of_1) (seqF (F_question_of_2) (seqF (F_question_of_3) ((F_question_of_4))))
noncomputable def f_question_of (ds : List MV) (S : Sto) : R Er := finF (F_question_of (startR ["tables", "head", "atoms", "place", "atom"] ds) S)
noncomputable def F__law_cell_at_1 : Rho → Sto → R Fl := (fun ρ S => (((rdSl (ρ[1]?) S).bind fun p422 S423 => (((rdSl (ρ[0]?) S423).bind fun p426 S427 => (R.ok [] S427).bind fun l428 S429 => .ok (p426 :: l428) S429).bind lenF).bind fun q424 S425 => ltF p422 q424 S425).bind asB).bind fun k S1 => if k = true then ((fun ρ S => ((rdSl (ρ[0]?) S).bind fun p430 S431 => (rdSl (ρ[1]?) S431).bind fun q432 S433 => ixF p430 q432 S433).bind fun r S1 => .ok (.ret r) S1)) ρ S1 else (fun ρ S => .ok (.next ρ) S) ρ S1)
noncomputable def F__law_cell_at_2 : Rho → Sto → R Fl := (fun ρ S => (R.ok (.val (.int 0)) S).bind fun r S1 => .ok (.ret r) S1)
noncomputable def F__law_cell_at : Rho → Sto → R Fl := seqF (F__law_cell_at_1) ((F__law_cell_at_2))
noncomputable def f__law_cell_at (ds : List MV) (S : Sto) : R Er := finF (F__law_cell_at (startR ["_law_script", "_law_k"] ds) S)
noncomputable def B__law_digits_1_1 : Rho → Sto → R Fl := (fun ρ S => (((((rdSl (ρ[2]?) S).bind fun p458 S459 => (R.ok (.val (.int 48271)) S459).bind fun q460 S461 => mulF p458 q460 S461).bind fun p462 S463 => ((R.ok (.val (.int 7919)) S463).bind fun p466 S467 => (rdSl (ρ[4]?) S467).bind fun q468 S469 => mulF p466 q468 S469).bind fun q464 S465 => addF p462 q464 S465).bind fun p470 S471 => (R.ok (.val (.int 11)) S471).bind fun q472 S473 => addF p470 q472 S473).bind fun p474 S475 => (R.ok (.val (.int 2147483647)) S475).bind fun q476 S477 => modF p474 q476 S477).bind (setF ρ 2))
noncomputable def B__law_digits_1_2 : Rho → Sto → R Fl := (fun ρ S => (((rdSl (ρ[2]?) S).bind fun p478 S479 => (rdSl (ρ[2]?) S479).bind fun q480 S481 => mulF p478 q480 S481).bind fun p482 S483 => (R.ok (.val (.int 2147483629)) S483).bind fun q484 S485 => modF p482 q484 S485).bind (setF ρ 5))
noncomputable def B__law_digits_1_3 : Rho → Sto → R Fl := (fun ρ S => (((rdSl (ρ[3]?) S).bind fun p486 S487 => (R.ok (.val (.int 2147483587)) S487).bind fun q488 S489 => mulF p486 q488 S489).bind fun p490 S491 => (((rdSl (ρ[5]?) S491).bind fun p494 S495 => (R.ok (.val (.int 69621)) S495).bind fun q496 S497 => mulF p494 q496 S497).bind fun p498 S499 => (R.ok (.val (.int 2147483587)) S499).bind fun q500 S501 => modF p498 q500 S501).bind fun q492 S493 => addF p490 q492 S493).bind (setF ρ 3))
noncomputable def B__law_digits_1 : Rho → Sto → R Fl := seqF (B__law_digits_1_1) (seqF (B__law_digits_1_2) ((B__law_digits_1_3)))
noncomputable def F__law_digits_1 : Rho → Sto → R Fl := (fun ρ S => ((rdSl (ρ[0]?) S).bind fun p434 S435 => (R.ok (.val (.int 2)) S435).bind fun q436 S437 => divF p434 q436 S437).bind (setF ρ 1))
noncomputable def F__law_digits_2 : Rho → Sto → R Fl := (fun ρ S => ((((rdSl (ρ[0]?) S).bind fun p438 S439 => (R.ok (.val (.int 2)) S439).bind fun q440 S441 => modF p438 q440 S441).bind fun p442 S443 => (R.ok (.val (.int 0)) S443).bind fun q444 S445 => eqF p442 q444 S445).bind asB).bind fun k S1 => if k = true then ((fun ρ S => (((rdSl (ρ[1]?) S).bind fun p446 S447 => (R.ok [] S447).bind fun l448 S449 => .ok (p446 :: l448) S449).bind lstF).bind fun r S1 => .ok (.ret r) S1)) ρ S1 else (fun ρ S => .ok (.next ρ) S) ρ S1)
noncomputable def F__law_digits_3 : Rho → Sto → R Fl := (fun ρ S => ((rdSl (ρ[1]?) S).bind fun p450 S451 => (R.ok (.val (.int 2147483647)) S451).bind fun q452 S453 => modF p450 q452 S453).bind (setF ρ 2))
noncomputable def F__law_digits_4 : Rho → Sto → R Fl := (fun ρ S => (R.ok (.val (.int 0)) S).bind (setF ρ 3))
noncomputable def F__law_digits_5 : Rho → Sto → R Fl := (fun ρ S => (((R.ok (.val (.int 16)) S).bind fun p454 S455 => (R.ok [] S455).bind fun l456 S457 => .ok (p454 :: l456) S457).bind rng1F).bind fun k S1 => forF (gNm 4) (B__law_digits_1) k.gs k.ds ρ S1)
noncomputable def F__law_digits_6 : Rho → Sto → R Fl := (fun ρ S => (((rdSl (ρ[3]?) S).bind fun p502 S503 => (R.ok [] S503).bind fun l504 S505 => .ok (p502 :: l504) S505).bind lstF).bind fun r S1 => .ok (.ret r) S1)
noncomputable def F__law_digits : Rho → Sto → R Fl := seqF (F__law_digits_1) (seqF (F__law_digits_2) (seqF (F__law_digits_3) (seqF (F__law_digits_4) (seqF (F__law_digits_5) ((F__law_digits_6))))))
noncomputable def f__law_digits (ds : List MV) (S : Sto) : R Er := finF (F__law_digits (startR ["_law_cell", "_law_rest", "_law_number", "_law_total", "_law_k", "_law_other"] ds) S)
noncomputable def F__law_take_1 : Rho → Sto → R Fl := (fun ρ S => (((rdSl (ρ[0]?) S).bind fun p506 S507 => (R.ok (.val (.int 0)) S507).bind fun q508 S509 => ixF p506 q508 S509).bind fun p510 S511 => (rdSl (ρ[1]?) S511).bind fun q512 S513 => modF p510 q512 S513).bind (setF ρ 2))
noncomputable def F__law_take_2 : Rho → Sto → R Fl := (fun ρ S => (((rdSl (ρ[0]?) S).bind fun p514 S515 => (R.ok (.val (.int 0)) S515).bind fun q516 S517 => ixF p514 q516 S517).bind fun p518 S519 => (rdSl (ρ[1]?) S519).bind fun q520 S521 => divF p518 q520 S521).bind (asgF (fun d523 ρ S522 => (rdSl (ρ[0]?) S522).bind fun p525 S526 => (R.ok (.val (.int 0)) S526).bind fun q527 S528 => setIF p525 q527 d523 ρ S528) ρ))
noncomputable def F__law_take_3 : Rho → Sto → R Fl := (fun ρ S => (rdSl (ρ[2]?) S).bind fun r S1 => .ok (.ret r) S1)
noncomputable def F__law_take : Rho → Sto → R Fl := seqF (F__law_take_1) (seqF (F__law_take_2) ((F__law_take_3)))
noncomputable def f__law_take (ds : List MV) (S : Sto) : R Er := finF (F__law_take (startR ["_law_well", "_law_many", "_law_digit"] ds) S)
noncomputable def B__law_word_1_1 : Rho → Sto → R Fl := (fun ρ S => ((rdSl (ρ[2]?) S).bind fun p547 S548 => ((rdSl (ρ[1]?) S548).bind fun p551 S552 => (((rdSl (ρ[0]?) S552).bind fun p557 S558 => ((R.ok (.val (.int 26)) S558).bind fun p561 S562 => (R.ok [] S562).bind fun l563 S564 => .ok (p561 :: l563) S564).bind fun l559 S560 => .ok (p557 :: l559) S560).bind fun r555 S556 => callF 2 f__law_take r555 S556).bind fun q553 S554 => ixF p551 q553 S554).bind fun q549 S550 => addF p547 q549 S550).bind (setF ρ 2))
noncomputable def B__law_word_1 : Rho → Sto → R Fl := (B__law_word_1_1)
noncomputable def F__law_word_1 : Rho → Sto → R Fl := (fun ρ S => (R.ok (.val (.str [97, 98, 99, 100, 101, 102, 103, 104, 105, 106, 107, 108, 109, 110, 111, 112, 113, 114, 115, 116, 117, 118, 119, 120, 121, 122])) S).bind (setF ρ 1))
noncomputable def F__law_word_2 : Rho → Sto → R Fl := (fun ρ S => (R.ok (.val (.str [])) S).bind (setF ρ 2))
noncomputable def F__law_word_3 : Rho → Sto → R Fl := (fun ρ S => ((((R.ok (.val (.int 1)) S).bind fun p529 S530 => (((rdSl (ρ[0]?) S530).bind fun p535 S536 => ((R.ok (.val (.int 8)) S536).bind fun p539 S540 => (R.ok [] S540).bind fun l541 S542 => .ok (p539 :: l541) S542).bind fun l537 S538 => .ok (p535 :: l537) S538).bind fun r533 S534 => callF 2 f__law_take r533 S534).bind fun q531 S532 => addF p529 q531 S532).bind fun p543 S544 => (R.ok [] S544).bind fun l545 S546 => .ok (p543 :: l545) S546).bind rng1F).bind fun k S1 => forF (gNm 3) (B__law_word_1) k.gs k.ds ρ S1)
noncomputable def F__law_word_4 : Rho → Sto → R Fl := (fun ρ S => (rdSl (ρ[2]?) S).bind fun r S1 => .ok (.ret r) S1)
noncomputable def F__law_word : Rho → Sto → R Fl := seqF (F__law_word_1) (seqF (F__law_word_2) (seqF (F__law_word_3) ((F__law_word_4))))
noncomputable def f__law_word (ds : List MV) (S : Sto) : R Er := finF (F__law_word (startR ["_law_well", "_law_letters", "_law_word_here", "_law_k"] ds) S)
noncomputable def B__law_pool_1_1 : Rho → Sto → R Fl := (fun ρ S => (((rdSl (ρ[0]?) S).bind fun p571 S572 => ((R.ok (.val (.int 4)) S572).bind fun p575 S576 => (R.ok [] S576).bind fun l577 S578 => .ok (p575 :: l577) S578).bind fun l573 S574 => .ok (p571 :: l573) S574).bind fun r569 S570 => callF 2 f__law_take r569 S570).bind (setF ρ 4))
noncomputable def B__law_pool_1_2 : Rho → Sto → R Fl := (fun ρ S => ((((rdSl (ρ[0]?) S).bind fun p581 S582 => ((R.ok (.val (.int 9)) S582).bind fun p585 S586 => (R.ok [] S586).bind fun l587 S588 => .ok (p585 :: l587) S588).bind fun l583 S584 => .ok (p581 :: l583) S584).bind fun r579 S580 => callF 2 f__law_take r579 S580).bind fun p589 S590 => (R.ok (.val (.int 4)) S590).bind fun q591 S592 => subF p589 q591 S592).bind (setF ρ 5))
noncomputable def B__law_pool_1_3 : Rho → Sto → R Fl := (fun ρ S => (((rdSl (ρ[4]?) S).bind fun p593 S594 => (R.ok (.val (.int 1)) S594).bind fun q595 S596 => eqF p593 q595 S596).bind asB).bind fun k S1 => if k = true then ((fun ρ S => (((((rdSl (ρ[0]?) S).bind fun p599 S600 => ((((R.ok (.val (.int 2)) S600).bind fun p603 S604 => ((R.ok (.val (.int 10)) S604).bind fun p607 S608 => (R.ok (.val (.int 30)) S608).bind fun q609 S610 => powF p607 q609 S610).bind fun q605 S606 => mulF p603 q605 S606).bind fun p611 S612 => (R.ok (.val (.int 1)) S612).bind fun q613 S614 => subF p611 q613 S614).bind fun p615 S616 => (R.ok [] S616).bind fun l617 S618 => .ok (p615 :: l617) S618).bind fun l601 S602 => .ok (p599 :: l601) S602).bind fun r597 S598 => callF 2 f__law_take r597 S598).bind fun p619 S620 => ((R.ok (.val (.int 10)) S620).bind fun p623 S624 => (R.ok (.val (.int 30)) S624).bind fun q625 S626 => powF p623 q625 S626).bind fun q621 S622 => subF p619 q621 S622).bind fun p627 S628 => (R.ok (.val (.int 1)) S628).bind fun q629 S630 => addF p627 q629 S630).bind (setF ρ 5))) ρ S1 else (fun ρ S => .ok (.next ρ) S) ρ S1)
noncomputable def B__law_pool_1_4 : Rho → Sto → R Fl := (fun ρ S => (((rdSl (ρ[4]?) S).bind fun p631 S632 => (R.ok (.val (.int 1)) S632).bind fun q633 S634 => gtF p631 q633 S634).bind asB).bind fun k S1 => if k = true then ((fun ρ S => (((rdSl (ρ[0]?) S).bind fun p637 S638 => (R.ok [] S638).bind fun l639 S640 => .ok (p637 :: l639) S640).bind fun r635 S636 => callF 1 f__law_word r635 S636).bind (setF ρ 5))) ρ S1 else (fun ρ S => .ok (.next ρ) S) ρ S1)
noncomputable def B__law_pool_1_5 : Rho → Sto → R Fl := (fun ρ S => (((rdSl (ρ[5]?) S).bind fun p641 S642 => (rdSl (ρ[2]?) S642).bind fun q643 S644 => inF true p641 q643 S644).bind asB).bind fun k S1 => if k = true then ((fun ρ S => ((rdSl (ρ[2]?) S).bind fun p645 S646 => if isLst p645 S646 = true then ((rdSl (ρ[5]?) S646).bind fun p649 S650 => (R.ok [] S650).bind fun l651 S652 => .ok (p649 :: l651) S652).bind fun r647 S648 => appF p645 r647 S648 else .no).bind fun _ S1 => .ok (.next ρ) S1)) ρ S1 else (fun ρ S => .ok (.next ρ) S) ρ S1)
noncomputable def B__law_pool_1 : Rho → Sto → R Fl := seqF (B__law_pool_1_1) (seqF (B__law_pool_1_2) (seqF (B__law_pool_1_3) (seqF (B__law_pool_1_4) ((B__law_pool_1_5)))))
noncomputable def F__law_pool_1 : Rho → Sto → R Fl := (fun ρ S => ((R.ok [] S).bind lstF).bind (setF ρ 2))
noncomputable def F__law_pool_2 : Rho → Sto → R Fl := (fun ρ S => (((rdSl (ρ[1]?) S).bind fun p565 S566 => (R.ok [] S566).bind fun l567 S568 => .ok (p565 :: l567) S568).bind rng1F).bind fun k S1 => forF (gNm 3) (B__law_pool_1) k.gs k.ds ρ S1)
noncomputable def F__law_pool_3 : Rho → Sto → R Fl := (fun ρ S => (rdSl (ρ[2]?) S).bind fun r S1 => .ok (.ret r) S1)
noncomputable def F__law_pool : Rho → Sto → R Fl := seqF (F__law_pool_1) (seqF (F__law_pool_2) ((F__law_pool_3)))
noncomputable def f__law_pool (ds : List MV) (S : Sto) : R Er := finF (F__law_pool (startR ["_law_well", "_law_many", "_law_pool_here", "_law_k", "_law_way", "_law_value"] ds) S)
noncomputable def B__law_tables_1_1 : Rho → Sto → R Fl := (fun ρ S => ((R.ok (.val (.int 1)) S).bind fun p671 S672 => (((rdSl (ρ[0]?) S672).bind fun p677 S678 => ((R.ok (.val (.int 3)) S678).bind fun p681 S682 => (R.ok [] S682).bind fun l683 S684 => .ok (p681 :: l683) S684).bind fun l679 S680 => .ok (p677 :: l679) S680).bind fun r675 S676 => callF 2 f__law_take r675 S676).bind fun q673 S674 => addF p671 q673 S674).bind (setF ρ 3))
noncomputable def B__law_tables_1_2 : Rho → Sto → R Fl := (fun ρ S => ((rdSl (ρ[1]?) S).bind fun p685 S686 => if isLst p685 S686 = true then ((((rdSl (ρ[3]?) S686).bind fun p689 S690 => ((((rdSl (ρ[0]?) S690).bind fun p695 S696 => (((rdSl (ρ[3]?) S696).bind fun p699 S700 => (R.ok (.val (.int 1)) S700).bind fun q701 S702 => addF p699 q701 S702).bind fun p703 S704 => (R.ok [] S704).bind fun l705 S706 => .ok (p703 :: l705) S706).bind fun l697 S698 => .ok (p695 :: l697) S698).bind fun r693 S694 => callF 2 f__law_take r693 S694).bind fun p707 S708 => (R.ok [] S708).bind fun l709 S710 => .ok (p707 :: l709) S710).bind fun l691 S692 => .ok (p689 :: l691) S692).bind tupF).bind fun p711 S712 => (R.ok [] S712).bind fun l713 S714 => .ok (p711 :: l713) S714).bind fun r687 S688 => appF p685 r687 S688 else .no).bind fun _ S1 => .ok (.next ρ) S1)
noncomputable def B__law_tables_1 : Rho → Sto → R Fl := seqF (B__law_tables_1_1) ((B__law_tables_1_2))
noncomputable def F__law_tables_1 : Rho → Sto → R Fl := (fun ρ S => ((R.ok [] S).bind lstF).bind (setF ρ 1))
noncomputable def F__law_tables_2 : Rho → Sto → R Fl := (fun ρ S => ((((R.ok (.val (.int 1)) S).bind fun p653 S654 => (((rdSl (ρ[0]?) S654).bind fun p659 S660 => ((R.ok (.val (.int 3)) S660).bind fun p663 S664 => (R.ok [] S664).bind fun l665 S666 => .ok (p663 :: l665) S666).bind fun l661 S662 => .ok (p659 :: l661) S662).bind fun r657 S658 => callF 2 f__law_take r657 S658).bind fun q655 S656 => addF p653 q655 S656).bind fun p667 S668 => (R.ok [] S668).bind fun l669 S670 => .ok (p667 :: l669) S670).bind rng1F).bind fun k S1 => forF (gNm 2) (B__law_tables_1) k.gs k.ds ρ S1)
noncomputable def F__law_tables_3 : Rho → Sto → R Fl := (fun ρ S => (rdSl (ρ[1]?) S).bind fun r S1 => .ok (.ret r) S1)
noncomputable def F__law_tables : Rho → Sto → R Fl := seqF (F__law_tables_1) (seqF (F__law_tables_2) ((F__law_tables_3)))
noncomputable def f__law_tables (ds : List MV) (S : Sto) : R Er := finF (F__law_tables (startR ["_law_well", "_law_tables_here", "_law_k", "_law_wide"] ds) S)
noncomputable def F__law_term_1 : Rho → Sto → R Fl := (fun ρ S => (((((rdSl (ρ[0]?) S).bind fun p717 S718 => ((R.ok (.val (.int 4)) S718).bind fun p721 S722 => (R.ok [] S722).bind fun l723 S724 => .ok (p721 :: l723) S724).bind fun l719 S720 => .ok (p717 :: l719) S720).bind fun r715 S716 => callF 2 f__law_take r715 S716).bind fun p725 S726 => (R.ok (.val (.int 0)) S726).bind fun q727 S728 => eqF p725 q727 S728).bind asB).bind fun k S1 => if k = true then ((fun ρ S => (((R.ok (.val (.str [105, 115])) S).bind fun p729 S730 => (((rdSl (ρ[2]?) S730).bind fun p733 S734 => (((rdSl (ρ[0]?) S734).bind fun p739 S740 => ((((rdSl (ρ[2]?) S740).bind fun p743 S744 => (R.ok [] S744).bind fun l745 S746 => .ok (p743 :: l745) S746).bind lenF).bind fun p747 S748 => (R.ok [] S748).bind fun l749 S750 => .ok (p747 :: l749) S750).bind fun l741 S742 => .ok (p739 :: l741) S742).bind fun r737 S738 => callF 2 f__law_take r737 S738).bind fun q735 S736 => ixF p733 q735 S736).bind fun p751 S752 => (R.ok [] S752).bind fun l753 S754 => .ok (p751 :: l753) S754).bind fun l731 S732 => .ok (p729 :: l731) S732).bind tupF).bind fun r S1 => .ok (.ret r) S1)) ρ S1 else (fun ρ S => .ok (.next ρ) S) ρ S1)
noncomputable def F__law_term_2 : Rho → Sto → R Fl := (fun ρ S => (((R.ok (.val (.str [118, 97, 114])) S).bind fun p755 S756 => (((rdSl (ρ[1]?) S756).bind fun p759 S760 => (((rdSl (ρ[0]?) S760).bind fun p765 S766 => ((((rdSl (ρ[1]?) S766).bind fun p769 S770 => (R.ok [] S770).bind fun l771 S772 => .ok (p769 :: l771) S772).bind lenF).bind fun p773 S774 => (R.ok [] S774).bind fun l775 S776 => .ok (p773 :: l775) S776).bind fun l767 S768 => .ok (p765 :: l767) S768).bind fun r763 S764 => callF 2 f__law_take r763 S764).bind fun q761 S762 => ixF p759 q761 S762).bind fun p777 S778 => (R.ok [] S778).bind fun l779 S780 => .ok (p777 :: l779) S780).bind fun l757 S758 => .ok (p755 :: l757) S758).bind tupF).bind fun r S1 => .ok (.ret r) S1)
noncomputable def F__law_term : Rho → Sto → R Fl := seqF (F__law_term_1) ((F__law_term_2))
noncomputable def f__law_term (ds : List MV) (S : Sto) : R Er := finF (F__law_term (startR ["_law_well", "_law_names_here", "_law_pool_here"] ds) S)
noncomputable def C__law_atoms_2_c : Rho → Sto → R Bool := fun ρ S => (R.ok true S)
noncomputable def C__law_atoms_2_e : Rho → Sto → R Er := fun ρ S => (((rdSl (ρ[1]?) S).bind fun p825 S826 => ((rdSl (ρ[2]?) S826).bind fun p829 S830 => ((rdSl (ρ[3]?) S830).bind fun p833 S834 => (R.ok [] S834).bind fun l835 S836 => .ok (p833 :: l835) S836).bind fun l831 S832 => .ok (p829 :: l831) S832).bind fun l827 S828 => .ok (p825 :: l827) S828).bind fun r823 S824 => callF 3 f__law_term r823 S824)
noncomputable def B__law_atoms_1_1 : Rho → Sto → R Fl := (fun ρ S => (((rdSl (ρ[0]?) S).bind fun p787 S788 => ((((rdSl (ρ[1]?) S788).bind fun p791 S792 => (R.ok [] S792).bind fun l793 S794 => .ok (p791 :: l793) S794).bind lenF).bind fun p795 S796 => (R.ok [] S796).bind fun l797 S798 => .ok (p795 :: l797) S798).bind fun l789 S790 => .ok (p787 :: l789) S790).bind fun r785 S786 => callF 2 f__law_take r785 S786).bind (setF ρ 7))
noncomputable def B__law_atoms_1_2 : Rho → Sto → R Fl := (fun ρ S => ((rdSl (ρ[5]?) S).bind fun p799 S800 => if isLst p799 S800 = true then ((((rdSl (ρ[7]?) S800).bind fun p803 S804 => (((((((((rdSl (ρ[1]?) S804).bind fun p807 S808 => (rdSl (ρ[7]?) S808).bind fun q809 S810 => ixF p807 q809 S810).bind fun p811 S812 => (R.ok (.val (.int 0)) S812).bind fun q813 S814 => ixF p811 q813 S814).bind fun p815 S816 => (R.ok [] S816).bind fun l817 S818 => .ok (p815 :: l817) S818).bind rng1F).bind fun k819 S820 => if k819.ds.length < 1000000 then (compF (gNm 0) (C__law_atoms_2_c) (C__law_atoms_2_e) (blk 1 [0, 2, 3] ρ) k819.gs k819.ds S820).bind fun o821 S822 => .ok (.new o821) S822 else .no).bind fun p837 S838 => (R.ok [] S838).bind fun l839 S840 => .ok (p837 :: l839) S840).bind tupleF).bind fun p841 S842 => (R.ok [] S842).bind fun l843 S844 => .ok (p841 :: l843) S844).bind fun l805 S806 => .ok (p803 :: l805) S806).bind tupF).bind fun p845 S846 => (R.ok [] S846).bind fun l847 S848 => .ok (p845 :: l847) S848).bind fun r801 S802 => appF p799 r801 S802 else .no).bind fun _ S1 => .ok (.next ρ) S1)
noncomputable def B__law_atoms_1 : Rho → Sto → R Fl := seqF (B__law_atoms_1_1) ((B__law_atoms_1_2))
noncomputable def F__law_atoms_1 : Rho → Sto → R Fl := (fun ρ S => ((R.ok [] S).bind lstF).bind (setF ρ 5))
noncomputable def F__law_atoms_2 : Rho → Sto → R Fl := (fun ρ S => (((rdSl (ρ[4]?) S).bind fun p781 S782 => (R.ok [] S782).bind fun l783 S784 => .ok (p781 :: l783) S784).bind rng1F).bind fun k S1 => forF (gNm 6) (B__law_atoms_1) k.gs k.ds ρ S1)
noncomputable def F__law_atoms_3 : Rho → Sto → R Fl := (fun ρ S => (rdSl (ρ[5]?) S).bind fun r S1 => .ok (.ret r) S1)
noncomputable def F__law_atoms : Rho → Sto → R Fl := seqF (F__law_atoms_1) (seqF (F__law_atoms_2) ((F__law_atoms_3)))
noncomputable def f__law_atoms (ds : List MV) (S : Sto) : R Er := finF (F__law_atoms (startR ["_law_well", "_law_tables_here", "_law_names_here", "_law_pool_here", "_law_many", "_law_atoms_here", "_law_k", "_law_t"] ds) S)
noncomputable def B__law_names_in_2_1 : Rho → Sto → R Fl := (fun ρ S => ((((rdSl (ρ[4]?) S).bind fun p849 S850 => (R.ok (.val (.str [118, 97, 114])) S850).bind fun q851 S852 => eqF p849 q851 S852).bind asB).bind fun k853 S854 => if k853 = true then (((rdSl (ρ[5]?) S854).bind fun p855 S856 => (rdSl (ρ[1]?) S856).bind fun q857 S858 => inF true p855 q857 S858).bind asB) else .ok false S854).bind fun k S1 => if k = true then ((fun ρ S => ((rdSl (ρ[1]?) S).bind fun p859 S860 => if isLst p859 S860 = true then ((rdSl (ρ[5]?) S860).bind fun p863 S864 => (R.ok [] S864).bind fun l865 S866 => .ok (p863 :: l865) S866).bind fun r861 S862 => appF p859 r861 S862 else .no).bind fun _ S1 => .ok (.next ρ) S1)) ρ S1 else (fun ρ S => .ok (.next ρ) S) ρ S1)
noncomputable def B__law_names_in_2 : Rho → Sto → R Fl := (B__law_names_in_2_1)
noncomputable def B__law_names_in_1_1 : Rho → Sto → R Fl := (fun ρ S => ((rdSl (ρ[3]?) S).bind itT).bind fun k S1 => forF (gTp 2 (gsCons (gNm 4) (gsCons (gNm 5) gsNil))) (B__law_names_in_2) k.gs k.ds ρ S1)
noncomputable def B__law_names_in_1 : Rho → Sto → R Fl := (B__law_names_in_1_1)
noncomputable def F__law_names_in_1 : Rho → Sto → R Fl := (fun ρ S => ((R.ok [] S).bind lstF).bind (setF ρ 1))
noncomputable def F__law_names_in_2 : Rho → Sto → R Fl := (fun ρ S => ((rdSl (ρ[0]?) S).bind itL).bind fun k S1 => forF (gTp 2 (gsCons (gNm 2) (gsCons (gNm 3) gsNil))) (B__law_names_in_1) k.gs k.ds ρ S1)
noncomputable def F__law_names_in_3 : Rho → Sto → R Fl := (fun ρ S => (rdSl (ρ[1]?) S).bind fun r S1 => .ok (.ret r) S1)
noncomputable def F__law_names_in : Rho → Sto → R Fl := seqF (F__law_names_in_1) (seqF (F__law_names_in_2) ((F__law_names_in_3)))
noncomputable def f__law_names_in (ds : List MV) (S : Sto) : R Er := finF (F__law_names_in (startR ["_law_atoms_here", "_law_found", "_law_t", "_law_terms", "_law_word_here", "_law_name"] ds) S)
noncomputable def B__law_head_1_1 : Rho → Sto → R Fl := (fun ρ S => (((rdSl (ρ[3]?) S).bind fun p891 S892 => ((R.ok [] S892).bind lstF).bind fun q893 S894 => neF p891 q893 S894).bind asB).bind fun k S1 => if k = true then ((fun ρ S => ((rdSl (ρ[4]?) S).bind fun p895 S896 => if isLst p895 S896 = true then (((rdSl (ρ[3]?) S896).bind fun p899 S900 => if isLst p899 S900 = true then ((((rdSl (ρ[0]?) S900).bind fun p905 S906 => ((((rdSl (ρ[3]?) S906).bind fun p909 S910 => (R.ok [] S910).bind fun l911 S912 => .ok (p909 :: l911) S912).bind lenF).bind fun p913 S914 => (R.ok [] S914).bind fun l915 S916 => .ok (p913 :: l915) S916).bind fun l907 S908 => .ok (p905 :: l907) S908).bind fun r903 S904 => callF 2 f__law_take r903 S904).bind fun p917 S918 => (R.ok [] S918).bind fun l919 S920 => .ok (p917 :: l919) S920).bind fun r901 S902 => popF p899 r901 S902 else .no).bind fun p921 S922 => (R.ok [] S922).bind fun l923 S924 => .ok (p921 :: l923) S924).bind fun r897 S898 => appF p895 r897 S898 else .no).bind fun _ S1 => .ok (.next ρ) S1)) ρ S1 else (fun ρ S => .ok (.next ρ) S) ρ S1)
noncomputable def B__law_head_1 : Rho → Sto → R Fl := (B__law_head_1_1)
noncomputable def F__law_head_1 : Rho → Sto → R Fl := (fun ρ S => (((rdSl (ρ[1]?) S).bind fun p869 S870 => (R.ok [] S870).bind fun l871 S872 => .ok (p869 :: l871) S872).bind fun r867 S868 => callF 1 f__law_names_in r867 S868).bind (setF ρ 3))
noncomputable def F__law_head_2 : Rho → Sto → R Fl := (fun ρ S => ((R.ok [] S).bind lstF).bind (setF ρ 4))
noncomputable def F__law_head_3 : Rho → Sto → R Fl := (fun ρ S => (((((rdSl (ρ[0]?) S).bind fun p875 S876 => (((rdSl (ρ[2]?) S876).bind fun p879 S880 => (R.ok (.val (.int 1)) S880).bind fun q881 S882 => addF p879 q881 S882).bind fun p883 S884 => (R.ok [] S884).bind fun l885 S886 => .ok (p883 :: l885) S886).bind fun l877 S878 => .ok (p875 :: l877) S878).bind fun r873 S874 => callF 2 f__law_take r873 S874).bind fun p887 S888 => (R.ok [] S888).bind fun l889 S890 => .ok (p887 :: l889) S890).bind rng1F).bind fun k S1 => forF (gNm 5) (B__law_head_1) k.gs k.ds ρ S1)
noncomputable def F__law_head_4 : Rho → Sto → R Fl := (fun ρ S => (rdSl (ρ[4]?) S).bind fun r S1 => .ok (.ret r) S1)
noncomputable def F__law_head : Rho → Sto → R Fl := seqF (F__law_head_1) (seqF (F__law_head_2) (seqF (F__law_head_3) ((F__law_head_4))))
noncomputable def f__law_head (ds : List MV) (S : Sto) : R Er := finF (F__law_head (startR ["_law_well", "_law_atoms_here", "_law_most", "_law_there", "_law_head_here", "_law_k"] ds) S)
noncomputable def B__law_names_1_1 : Rho → Sto → R Fl := (fun ρ S => (((rdSl (ρ[0]?) S).bind fun p981 S982 => (R.ok [] S982).bind fun l983 S984 => .ok (p981 :: l983) S984).bind fun r979 S980 => callF 1 f__law_word r979 S980).bind (setF ρ 4))
noncomputable def B__law_names_1_2 : Rho → Sto → R Fl := (fun ρ S => (((rdSl (ρ[4]?) S).bind fun p985 S986 => (rdSl (ρ[2]?) S986).bind fun q987 S988 => inF false p985 q987 S988).bind asB).bind fun k S1 => if k = true then ((fun ρ S => (((((R.ok (.val (.str [98])) S).bind fun p989 S990 => (rdSl (ρ[1]?) S990).bind fun q991 S992 => addF p989 q991 S992).bind fun p993 S994 => ((((R.ok (.val (.str [98])) S994).bind fun p997 S998 => (rdSl (ρ[1]?) S998).bind fun q999 S1000 => addF p997 q999 S1000).bind fun p1001 S1002 => (R.ok (.val (.str [97])) S1002).bind fun q1003 S1004 => addF p1001 q1003 S1004).bind fun p1005 S1006 => (R.ok [] S1006).bind fun l1007 S1008 => .ok (p1005 :: l1007) S1008).bind fun l995 S996 => .ok (p993 :: l995) S996).bind lstF).bind fun p1009 S1010 => (rdSl (ρ[3]?) S1010).bind fun q1011 S1012 => ixF p1009 q1011 S1012).bind (setF ρ 4))) ρ S1 else (fun ρ S => .ok (.next ρ) S) ρ S1)
noncomputable def B__law_names_1_3 : Rho → Sto → R Fl := (fun ρ S => ((rdSl (ρ[2]?) S).bind fun p1013 S1014 => if isLst p1013 S1014 = true then ((rdSl (ρ[4]?) S1014).bind fun p1017 S1018 => (R.ok [] S1018).bind fun l1019 S1020 => .ok (p1017 :: l1019) S1020).bind fun r1015 S1016 => appF p1013 r1015 S1016 else .no).bind fun _ S1 => .ok (.next ρ) S1)
noncomputable def B__law_names_1 : Rho → Sto → R Fl := seqF (B__law_names_1_1) (seqF (B__law_names_1_2) ((B__law_names_1_3)))
noncomputable def F__law_names_1 : Rho → Sto → R Fl := (fun ρ S => ((((rdSl (ρ[0]?) S).bind fun p927 S928 => (R.ok [] S928).bind fun l929 S930 => .ok (p927 :: l929) S930).bind fun r925 S926 => callF 1 f__law_word r925 S926).bind fun p931 S932 => (R.ok none S932).bind fun l933 S934 => ((R.ok (.val (.int 6)) S934).bind asI).bind fun u935 S936 => cutF p931 l933 u935 S936).bind (setF ρ 1))
noncomputable def F__law_names_2 : Rho → Sto → R Fl := (fun ρ S => (((((rdSl (ρ[0]?) S).bind fun p939 S940 => ((R.ok (.val (.int 2)) S940).bind fun p943 S944 => (R.ok [] S944).bind fun l945 S946 => .ok (p943 :: l945) S946).bind fun l941 S942 => .ok (p939 :: l941) S942).bind fun r937 S938 => callF 2 f__law_take r937 S938).bind fun p947 S948 => (R.ok (.val (.int 0)) S948).bind fun q949 S950 => eqF p947 q949 S950).bind asB).bind fun k S1 => if k = true then ((fun ρ S => (((rdSl (ρ[1]?) S).bind fun p951 S952 => (((rdSl (ρ[1]?) S952).bind fun p955 S956 => (R.ok (.val (.str [97])) S956).bind fun q957 S958 => addF p955 q957 S958).bind fun p959 S960 => (((R.ok (.val (.str [98])) S960).bind fun p963 S964 => (rdSl (ρ[1]?) S964).bind fun q965 S966 => addF p963 q965 S966).bind fun p967 S968 => (R.ok [] S968).bind fun l969 S970 => .ok (p967 :: l969) S970).bind fun l961 S962 => .ok (p959 :: l961) S962).bind fun l953 S954 => .ok (p951 :: l953) S954).bind lstF).bind fun r S1 => .ok (.ret r) S1)) ρ S1 else (fun ρ S => .ok (.next ρ) S) ρ S1)
noncomputable def F__law_names_3 : Rho → Sto → R Fl := (fun ρ S => (((rdSl (ρ[1]?) S).bind fun p971 S972 => (R.ok [] S972).bind fun l973 S974 => .ok (p971 :: l973) S974).bind lstF).bind (setF ρ 2))
noncomputable def F__law_names_4 : Rho → Sto → R Fl := (fun ρ S => (((R.ok (.val (.int 2)) S).bind fun p975 S976 => (R.ok [] S976).bind fun l977 S978 => .ok (p975 :: l977) S978).bind rng1F).bind fun k S1 => forF (gNm 3) (B__law_names_1) k.gs k.ds ρ S1)
noncomputable def F__law_names_5 : Rho → Sto → R Fl := (fun ρ S => (rdSl (ρ[2]?) S).bind fun r S1 => .ok (.ret r) S1)
noncomputable def F__law_names : Rho → Sto → R Fl := seqF (F__law_names_1) (seqF (F__law_names_2) (seqF (F__law_names_3) (seqF (F__law_names_4) ((F__law_names_5)))))
noncomputable def f__law_names (ds : List MV) (S : Sto) : R Er := finF (F__law_names (startR ["_law_well", "_law_base", "_law_names_here", "_law_k", "_law_name"] ds) S)
noncomputable def B__law_told_1_1 : Rho → Sto → R Fl := (fun ρ S => ((((((rdSl (ρ[3]?) S).bind fun p1075 S1076 => ((R.ok (.val (.typ "tuple")) S1076).bind fun p1079 S1080 => (R.ok [] S1080).bind fun l1081 S1082 => .ok (p1079 :: l1081) S1082).bind fun l1077 S1078 => .ok (p1075 :: l1077) S1078).bind isiF).bind truF).bind fun k1083 S1084 => .ok (!k1083) S1084).bind fun k1085 S1086 => if k1085 = true then .ok true S1086 else (((((((rdSl (ρ[3]?) S1086).bind fun p1087 S1088 => (R.ok (.val (.int 0)) S1088).bind fun q1089 S1090 => ixF p1087 q1089 S1090).bind fun p1091 S1092 => ((R.ok (.val (.typ "int")) S1092).bind fun p1095 S1096 => (R.ok [] S1096).bind fun l1097 S1098 => .ok (p1095 :: l1097) S1098).bind fun l1093 S1094 => .ok (p1091 :: l1093) S1094).bind isiF).bind truF).bind fun k1099 S1100 => .ok (!k1099) S1100).bind fun k1101 S1102 => if k1101 = true then .ok true S1102 else (((((rdSl (ρ[3]?) S1102).bind fun p1103 S1104 => (R.ok (.val (.int 0)) S1104).bind fun q1105 S1106 => ixF p1103 q1105 S1106).bind fun p1107 S1108 => ((R.ok (.val (.typ "bool")) S1108).bind fun p1111 S1112 => (R.ok [] S1112).bind fun l1113 S1114 => .ok (p1111 :: l1113) S1114).bind fun l1109 S1110 => .ok (p1107 :: l1109) S1110).bind isiF).bind truF))).bind fun k S1 => if k = true then ((fun ρ S => (R.ok (.val (.bl false)) S).bind fun r S1 => .ok (.ret r) S1)) ρ S1 else (fun ρ S => .ok (.next ρ) S) ρ S1)
noncomputable def B__law_told_1 : Rho → Sto → R Fl := (B__law_told_1_1)
noncomputable def F__law_told_1 : Rho → Sto → R Fl := (fun ρ S => ((((((rdSl (ρ[0]?) S).bind fun p1021 S1022 => ((R.ok (.val (.typ "tuple")) S1022).bind fun p1025 S1026 => (R.ok [] S1026).bind fun l1027 S1028 => .ok (p1025 :: l1027) S1028).bind fun l1023 S1024 => .ok (p1021 :: l1023) S1024).bind isiF).bind truF).bind fun k1029 S1030 => .ok (!k1029) S1030).bind fun k1031 S1032 => if k1031 = true then .ok true S1032 else (((((rdSl (ρ[0]?) S1032).bind fun p1033 S1034 => (R.ok [] S1034).bind fun l1035 S1036 => .ok (p1033 :: l1035) S1036).bind lenF).bind fun p1037 S1038 => (R.ok (.val (.int 2)) S1038).bind fun q1039 S1040 => neF p1037 q1039 S1040).bind asB)).bind fun k S1 => if k = true then ((fun ρ S => (R.ok (.val (.bl false)) S).bind fun r S1 => .ok (.ret r) S1)) ρ S1 else (fun ρ S => .ok (.next ρ) S) ρ S1)
noncomputable def F__law_told_2 : Rho → Sto → R Fl := (fun ρ S => (((((((rdSl (ρ[0]?) S).bind fun p1041 S1042 => (R.ok (.val (.int 0)) S1042).bind fun q1043 S1044 => ixF p1041 q1043 S1044).bind fun p1045 S1046 => ((R.ok (.val (.typ "tuple")) S1046).bind fun p1049 S1050 => (R.ok [] S1050).bind fun l1051 S1052 => .ok (p1049 :: l1051) S1052).bind fun l1047 S1048 => .ok (p1045 :: l1047) S1048).bind isiF).bind truF).bind fun k1053 S1054 => .ok (!k1053) S1054).bind fun k1055 S1056 => if k1055 = true then .ok true S1056 else ((((((rdSl (ρ[0]?) S1056).bind fun p1057 S1058 => (R.ok (.val (.int 1)) S1058).bind fun q1059 S1060 => ixF p1057 q1059 S1060).bind fun p1061 S1062 => ((R.ok (.val (.typ "tuple")) S1062).bind fun p1065 S1066 => (R.ok [] S1066).bind fun l1067 S1068 => .ok (p1065 :: l1067) S1068).bind fun l1063 S1064 => .ok (p1061 :: l1063) S1064).bind isiF).bind truF).bind fun k1069 S1070 => .ok (!k1069) S1070)).bind fun k S1 => if k = true then ((fun ρ S => (R.ok (.val (.bl false)) S).bind fun r S1 => .ok (.ret r) S1)) ρ S1 else (fun ρ S => .ok (.next ρ) S) ρ S1)
noncomputable def F__law_told_3 : Rho → Sto → R Fl := (fun ρ S => (((rdSl (ρ[0]?) S).bind fun p1071 S1072 => (R.ok (.val (.int 1)) S1072).bind fun q1073 S1074 => ixF p1071 q1073 S1074).bind itT).bind fun k S1 => forF (gNm 3) (B__law_told_1) k.gs k.ds ρ S1)
noncomputable def F__law_told_4 : Rho → Sto → R Fl := (fun ρ S => ((rdSl (ρ[0]?) S).bind fun p1115 S1116 => (((((rdSl (ρ[1]?) S1116).bind fun p1119 S1120 => (R.ok [] S1120).bind fun l1121 S1122 => .ok (p1119 :: l1121) S1122).bind tupleF).bind fun p1123 S1124 => ((((rdSl (ρ[2]?) S1124).bind fun p1127 S1128 => (R.ok [] S1128).bind fun l1129 S1130 => .ok (p1127 :: l1129) S1130).bind tupleF).bind fun p1131 S1132 => (R.ok [] S1132).bind fun l1133 S1134 => .ok (p1131 :: l1133) S1134).bind fun l1125 S1126 => .ok (p1123 :: l1125) S1126).bind tupF).bind fun q1117 S1118 => eqF p1115 q1117 S1118).bind fun r S1 => .ok (.ret r) S1)
noncomputable def F__law_told : Rho → Sto → R Fl := seqF (F__law_told_1) (seqF (F__law_told_2) (seqF (F__law_told_3) ((F__law_told_4))))
noncomputable def f__law_told (ds : List MV) (S : Sto) : R Er := finF (F__law_told (startR ["_law_told_here", "_law_head_here", "_law_atoms_here", "_law_atom"] ds) S)
noncomputable def B_law_1_1 : Rho → Sto → R Fl := (fun ρ S => ((rdSl (ρ[4]?) S).bind fun p1243 S1244 => (((((((rdSl (ρ[0]?) S1244).bind fun p1253 S1254 => (((R.ok (.val (.int 4)) S1254).bind fun p1257 S1258 => (rdSl (ρ[6]?) S1258).bind fun q1259 S1260 => addF p1257 q1259 S1260).bind fun p1261 S1262 => (R.ok [] S1262).bind fun l1263 S1264 => .ok (p1261 :: l1263) S1264).bind fun l1255 S1256 => .ok (p1253 :: l1255) S1256).bind fun r1251 S1252 => callF 2 f__law_cell_at r1251 S1252).bind fun p1265 S1266 => (R.ok [] S1266).bind fun l1267 S1268 => .ok (p1265 :: l1267) S1268).bind fun r1249 S1250 => callF 1 f__law_digits r1249 S1250).bind fun p1269 S1270 => ((rdSl (ρ[1]?) S1270).bind fun p1273 S1274 => ((rdSl (ρ[3]?) S1274).bind fun p1277 S1278 => ((rdSl (ρ[2]?) S1278).bind fun p1281 S1282 => ((R.ok (.val (.int 1)) S1282).bind fun p1285 S1286 => (R.ok [] S1286).bind fun l1287 S1288 => .ok (p1285 :: l1287) S1288).bind fun l1283 S1284 => .ok (p1281 :: l1283) S1284).bind fun l1279 S1280 => .ok (p1277 :: l1279) S1280).bind fun l1275 S1276 => .ok (p1273 :: l1275) S1276).bind fun l1271 S1272 => .ok (p1269 :: l1271) S1272).bind fun r1247 S1248 => callF 5 f__law_atoms r1247 S1248).bind fun q1245 S1246 => addF p1243 q1245 S1246).bind (setF ρ 4))
noncomputable def B_law_1 : Rho → Sto → R Fl := (B_law_1_1)
noncomputable def F_law_1 : Rho → Sto → R Fl := (fun ρ S => (((((((((rdSl (ρ[0]?) S).bind fun p1141 S1142 => ((R.ok (.val (.int 0)) S1142).bind fun p1145 S1146 => (R.ok [] S1146).bind fun l1147 S1148 => .ok (p1145 :: l1147) S1148).bind fun l1143 S1144 => .ok (p1141 :: l1143) S1144).bind fun r1139 S1140 => callF 2 f__law_cell_at r1139 S1140).bind fun p1149 S1150 => (R.ok [] S1150).bind fun l1151 S1152 => .ok (p1149 :: l1151) S1152).bind fun r1137 S1138 => callF 1 f__law_digits r1137 S1138).bind fun p1153 S1154 => (R.ok [] S1154).bind fun l1155 S1156 => .ok (p1153 :: l1155) S1156).bind fun r1135 S1136 => callF 1 f__law_tables r1135 S1136).bind fun p1157 S1158 => (R.ok [] S1158).bind fun l1159 S1160 => .ok (p1157 :: l1159) S1160).bind tupleF).bind (setF ρ 1))
noncomputable def F_law_2 : Rho → Sto → R Fl := (fun ρ S => (((((((rdSl (ρ[0]?) S).bind fun p1167 S1168 => ((R.ok (.val (.int 1)) S1168).bind fun p1171 S1172 => (R.ok [] S1172).bind fun l1173 S1174 => .ok (p1171 :: l1173) S1174).bind fun l1169 S1170 => .ok (p1167 :: l1169) S1170).bind fun r1165 S1166 => callF 2 f__law_cell_at r1165 S1166).bind fun p1175 S1176 => (R.ok [] S1176).bind fun l1177 S1178 => .ok (p1175 :: l1177) S1178).bind fun r1163 S1164 => callF 1 f__law_digits r1163 S1164).bind fun p1179 S1180 => ((R.ok (.val (.int 4)) S1180).bind fun p1183 S1184 => (R.ok [] S1184).bind fun l1185 S1186 => .ok (p1183 :: l1185) S1186).bind fun l1181 S1182 => .ok (p1179 :: l1181) S1182).bind fun r1161 S1162 => callF 2 f__law_pool r1161 S1162).bind (setF ρ 2))
noncomputable def F_law_3 : Rho → Sto → R Fl := (fun ρ S => (((((((rdSl (ρ[0]?) S).bind fun p1193 S1194 => ((R.ok (.val (.int 2)) S1194).bind fun p1197 S1198 => (R.ok [] S1198).bind fun l1199 S1200 => .ok (p1197 :: l1199) S1200).bind fun l1195 S1196 => .ok (p1193 :: l1195) S1196).bind fun r1191 S1192 => callF 2 f__law_cell_at r1191 S1192).bind fun p1201 S1202 => (R.ok [] S1202).bind fun l1203 S1204 => .ok (p1201 :: l1203) S1204).bind fun r1189 S1190 => callF 1 f__law_digits r1189 S1190).bind fun p1205 S1206 => (R.ok [] S1206).bind fun l1207 S1208 => .ok (p1205 :: l1207) S1208).bind fun r1187 S1188 => callF 1 f__law_names r1187 S1188).bind (setF ρ 3))
noncomputable def F_law_4 : Rho → Sto → R Fl := (fun ρ S => ((R.ok [] S).bind lstF).bind (setF ρ 4))
noncomputable def F_law_5 : Rho → Sto → R Fl := (fun ρ S => (((((rdSl (ρ[0]?) S).bind fun p1213 S1214 => ((R.ok (.val (.int 3)) S1214).bind fun p1217 S1218 => (R.ok [] S1218).bind fun l1219 S1220 => .ok (p1217 :: l1219) S1220).bind fun l1215 S1216 => .ok (p1213 :: l1215) S1216).bind fun r1211 S1212 => callF 2 f__law_cell_at r1211 S1212).bind fun p1221 S1222 => (R.ok [] S1222).bind fun l1223 S1224 => .ok (p1221 :: l1223) S1224).bind fun r1209 S1210 => callF 1 f__law_digits r1209 S1210).bind (setF ρ 5))
noncomputable def F_law_6 : Rho → Sto → R Fl := (fun ρ S => ((((R.ok (.val (.int 1)) S).bind fun p1225 S1226 => (((rdSl (ρ[5]?) S1226).bind fun p1231 S1232 => ((R.ok (.val (.int 4)) S1232).bind fun p1235 S1236 => (R.ok [] S1236).bind fun l1237 S1238 => .ok (p1235 :: l1237) S1238).bind fun l1233 S1234 => .ok (p1231 :: l1233) S1234).bind fun r1229 S1230 => callF 2 f__law_take r1229 S1230).bind fun q1227 S1228 => addF p1225 q1227 S1228).bind fun p1239 S1240 => (R.ok [] S1240).bind fun l1241 S1242 => .ok (p1239 :: l1241) S1242).bind rng1F).bind fun k S1 => forF (gNm 6) (B_law_1) k.gs k.ds ρ S1)
noncomputable def F_law_7 : Rho → Sto → R Fl := (fun ρ S => (((rdSl (ρ[5]?) S).bind fun p1291 S1292 => ((rdSl (ρ[4]?) S1292).bind fun p1295 S1296 => ((R.ok (.val (.int 3)) S1296).bind fun p1299 S1300 => (R.ok [] S1300).bind fun l1301 S1302 => .ok (p1299 :: l1301) S1302).bind fun l1297 S1298 => .ok (p1295 :: l1297) S1298).bind fun l1293 S1294 => .ok (p1291 :: l1293) S1294).bind fun r1289 S1290 => callF 3 f__law_head r1289 S1290).bind (setF ρ 7))
noncomputable def F_law_8 : Rho → Sto → R Fl := (fun ρ S => (((((((rdSl (ρ[1]?) S).bind fun p1307 S1308 => ((((rdSl (ρ[7]?) S1308).bind fun p1311 S1312 => (R.ok [] S1312).bind fun l1313 S1314 => .ok (p1311 :: l1313) S1314).bind tupleF).bind fun p1315 S1316 => ((((rdSl (ρ[4]?) S1316).bind fun p1319 S1320 => (R.ok [] S1320).bind fun l1321 S1322 => .ok (p1319 :: l1321) S1322).bind tupleF).bind fun p1323 S1324 => (R.ok [] S1324).bind fun l1325 S1326 => .ok (p1323 :: l1325) S1326).bind fun l1317 S1318 => .ok (p1315 :: l1317) S1318).bind fun l1309 S1310 => .ok (p1307 :: l1309) S1310).bind fun r1305 S1306 => callF 3 f_question_of r1305 S1306).bind fun p1327 S1328 => ((rdSl (ρ[7]?) S1328).bind fun p1331 S1332 => ((rdSl (ρ[4]?) S1332).bind fun p1335 S1336 => (R.ok [] S1336).bind fun l1337 S1338 => .ok (p1335 :: l1337) S1338).bind fun l1333 S1334 => .ok (p1331 :: l1333) S1334).bind fun l1329 S1330 => .ok (p1327 :: l1329) S1330).bind fun r1303 S1304 => callF 3 f__law_told r1303 S1304).bind truF).bind fun k1339 S1340 => .ok (!k1339) S1340).bind fun k S1 => if k = true then ((fun ρ S => (R.ok (.val (.bl false)) S).bind fun r S1 => .ok (.ret r) S1)) ρ S1 else (fun ρ S => .ok (.next ρ) S) ρ S1)
noncomputable def F_law_9 : Rho → Sto → R Fl := (fun ρ S => (((((rdSl (ρ[7]?) S).bind fun p1341 S1342 => (R.ok [] S1342).bind fun l1343 S1344 => .ok (p1341 :: l1343) S1344).bind listF).bind fun p1345 S1346 => ((((rdSl (ρ[4]?) S1346).bind fun p1349 S1350 => (R.ok [] S1350).bind fun l1351 S1352 => .ok (p1349 :: l1351) S1352).bind listF).bind fun p1353 S1354 => (R.ok [] S1354).bind fun l1355 S1356 => .ok (p1353 :: l1355) S1356).bind fun l1347 S1348 => .ok (p1345 :: l1347) S1348).bind lstF).bind (setF ρ 8))
noncomputable def F_law_10 : Rho → Sto → R Fl := (fun ρ S => (((rdSl (ρ[1]?) S).bind fun p1359 S1360 => (((rdSl (ρ[8]?) S1360).bind fun p1363 S1364 => (R.ok (.val (.int 0)) S1364).bind fun q1365 S1366 => ixF p1363 q1365 S1366).bind fun p1367 S1368 => (((rdSl (ρ[8]?) S1368).bind fun p1371 S1372 => (R.ok (.val (.int 1)) S1372).bind fun q1373 S1374 => ixF p1371 q1373 S1374).bind fun p1375 S1376 => (R.ok [] S1376).bind fun l1377 S1378 => .ok (p1375 :: l1377) S1378).bind fun l1369 S1370 => .ok (p1367 :: l1369) S1370).bind fun l1361 S1362 => .ok (p1359 :: l1361) S1362).bind fun r1357 S1358 => callF 3 f_question_of r1357 S1358).bind (setF ρ 9))
noncomputable def F_law_11 : Rho → Sto → R Fl := (fun ρ S => (((rdSl (ρ[1]?) S).bind fun p1381 S1382 => (((rdSl (ρ[8]?) S1382).bind fun p1385 S1386 => (R.ok (.val (.int 0)) S1386).bind fun q1387 S1388 => ixF p1385 q1387 S1388).bind fun p1389 S1390 => (((rdSl (ρ[8]?) S1390).bind fun p1393 S1394 => (R.ok (.val (.int 1)) S1394).bind fun q1395 S1396 => ixF p1393 q1395 S1396).bind fun p1397 S1398 => (R.ok [] S1398).bind fun l1399 S1400 => .ok (p1397 :: l1399) S1400).bind fun l1391 S1392 => .ok (p1389 :: l1391) S1392).bind fun l1383 S1384 => .ok (p1381 :: l1383) S1384).bind fun r1379 S1380 => callF 3 f_question_of r1379 S1380).bind (setF ρ 10))
noncomputable def F_law_12 : Rho → Sto → R Fl := (fun ρ S => ((((((rdSl (ρ[9]?) S).bind fun p1403 S1404 => ((rdSl (ρ[7]?) S1404).bind fun p1407 S1408 => ((rdSl (ρ[4]?) S1408).bind fun p1411 S1412 => (R.ok [] S1412).bind fun l1413 S1414 => .ok (p1411 :: l1413) S1414).bind fun l1409 S1410 => .ok (p1407 :: l1409) S1410).bind fun l1405 S1406 => .ok (p1403 :: l1405) S1406).bind fun r1401 S1402 => callF 3 f__law_told r1401 S1402).bind truF).bind fun k1415 S1416 => .ok (!k1415) S1416).bind fun k1417 S1418 => if k1417 = true then .ok true S1418 else (((rdSl (ρ[8]?) S1418).bind fun p1419 S1420 => (((rdSl (ρ[7]?) S1420).bind fun p1423 S1424 => ((rdSl (ρ[4]?) S1424).bind fun p1427 S1428 => (R.ok [] S1428).bind fun l1429 S1430 => .ok (p1427 :: l1429) S1430).bind fun l1425 S1426 => .ok (p1423 :: l1425) S1426).bind lstF).bind fun q1421 S1422 => neF p1419 q1421 S1422).bind asB)).bind fun k S1 => if k = true then ((fun ρ S => (R.ok (.val (.bl false)) S).bind fun r S1 => .ok (.ret r) S1)) ρ S1 else (fun ρ S => .ok (.next ρ) S) ρ S1)
noncomputable def F_law_13 : Rho → Sto → R Fl := (fun ρ S => (((rdSl (ρ[8]?) S).bind fun p1431 S1432 => (R.ok (.val (.int 0)) S1432).bind fun q1433 S1434 => ixF p1431 q1433 S1434).bind fun p1435 S1436 => if isLst p1435 S1436 = true then ((R.ok (.val (.str [97])) S1436).bind fun p1439 S1440 => (R.ok [] S1440).bind fun l1441 S1442 => .ok (p1439 :: l1441) S1442).bind fun r1437 S1438 => appF p1435 r1437 S1438 else .no).bind fun _ S1 => .ok (.next ρ) S1)
noncomputable def F_law_14 : Rho → Sto → R Fl := (fun ρ S => (((rdSl (ρ[8]?) S).bind fun p1443 S1444 => (R.ok (.val (.int 1)) S1444).bind fun q1445 S1446 => ixF p1443 q1445 S1446).bind fun p1447 S1448 => if isLst p1447 S1448 = true then clrF p1447 [] S1448 else .no).bind fun _ S1 => .ok (.next ρ) S1)
noncomputable def F_law_15 : Rho → Sto → R Fl := (fun ρ S => ((((rdSl (ρ[9]?) S).bind fun p1453 S1454 => ((rdSl (ρ[7]?) S1454).bind fun p1457 S1458 => ((rdSl (ρ[4]?) S1458).bind fun p1461 S1462 => (R.ok [] S1462).bind fun l1463 S1464 => .ok (p1461 :: l1463) S1464).bind fun l1459 S1460 => .ok (p1457 :: l1459) S1460).bind fun l1455 S1456 => .ok (p1453 :: l1455) S1456).bind fun r1451 S1452 => callF 3 f__law_told r1451 S1452).bind fun p1465 S1466 => andF p1465 S1466 fun S1467 => (((rdSl (ρ[10]?) S1467).bind fun p1470 S1471 => ((rdSl (ρ[7]?) S1471).bind fun p1474 S1475 => ((rdSl (ρ[4]?) S1475).bind fun p1478 S1479 => (R.ok [] S1479).bind fun l1480 S1481 => .ok (p1478 :: l1480) S1481).bind fun l1476 S1477 => .ok (p1474 :: l1476) S1477).bind fun l1472 S1473 => .ok (p1470 :: l1472) S1473).bind fun r1468 S1469 => callF 3 f__law_told r1468 S1469)).bind fun r S1 => .ok (.ret r) S1)
noncomputable def F_law : Rho → Sto → R Fl := seqF (F_law_1) (seqF (F_law_2) (seqF (F_law_3) (seqF (F_law_4) (seqF (F_law_5) (seqF (F_law_6) (seqF (F_law_7) (seqF (F_law_8) (seqF (F_law_9) (seqF (F_law_10) (seqF (F_law_11) (seqF (F_law_12) (seqF (F_law_13) (seqF (F_law_14) ((F_law_15)))))))))))))))
noncomputable def f_law (ds : List MV) (S : Sto) : R Er := finF (F_law (startR ["_law_script", "_law_tables_here", "_law_pool_here", "_law_names_here", "_law_atoms_here", "_law_well", "_law_k", "_law_head_here", "_law_handed", "_law_told_here", "_law_other"] ds) S)
def abc : List Nat := [97, 98, 99, 100, 101, 102, 103, 104, 105, 106, 107, 108, 109, 110, 111, 112, 113, 114, 115, 116, 117, 118, 119, 120, 121, 122]
theorem pp30 (S : Sto) : powF (.val (.int 10)) (.val (.int 30)) S = .ok (.val (.int (10 ^ 30))) S := rfl
theorem div_gen {b : Int} (h : divC 0 b) (a : Int) (S : Sto) : divF (.val (.int a)) (.val (.int b)) S = .ok (.val (.int (a / b))) S := if_pos (show divC a b from h)
theorem mul_31 {a : Int} (h : 0 ≤ a ∧ a < 4294967296) (S : Sto) : mulF (.val (.int a)) (.val (.int a)) S = .ok (.val (.int (a * a))) S :=
  mul_lit ⟨Int.lt_of_lt_of_le (by decide) h.1, Int.lt_trans h.2 (by decide)⟩ a S
theorem app_loc {S : Sto} {l : Nat} {ds : List MV} {d : MV} (hS : S[l]? = some (.lst ds)) (hz : ds.length < 1000000) : appF (.val (.loc l)) [.val d] S = .ok (.val .non) (S.set l (.lst (ds ++ [d]))) := by
  show updL (.val (.loc l)) S (fun ds => if ds.length < sizeLine then some (ds ++ [d]) else none) = _
  unfold updL
  dsimp only
  rw [hS]
  dsimp only
  rw [if_pos (Nat.lt_of_lt_of_le hz (fits (Nat.le_refl _)))]
theorem isl_loc {S : Sto} {l : Nat} {ds : List MV} (hS : S[l]? = some (.lst ds)) : isLst (.val (.loc l)) S = true := by
  unfold isLst
  rw [lsOf_loc hS]; rfl
theorem seti_loc {S : Sto} {l : Nat} {ds : List MV} {k : Int} {j : Nat} {d : MV} {ρ : Rho} (hS : S[l]? = some (.lst ds)) (hj : ixN ds.length k = some j) : setIF (.val (.loc l)) (.val (.int k)) d ρ S = .ok ρ (S.set l (.lst (ds.set j d))) := by
  unfold setIF
  dsimp only
  rw [hS]
  dsimp only
  rw [hj]
theorem tuple_loc {S : Sto} {l : Nat} {ds : List MV} (hS : S[l]? = some (.lst ds)) : tupleF [.val (.loc l)] S = .ok (.val (.tup ds)) S := by
  show (match lsOf S (.val (.loc l)) with | some ds => R.ok (Er.val (.tup ds)) S | none => .no) = _
  rw [lsOf_loc hS]
theorem len_tup (ds : List MV) (S : Sto) : lenF [.val (.tup ds)] S = .ok (.val (.int ds.length)) S := rfl
theorem asg_val (gf : MV → Rho → Sto → R Rho) (ρ : Rho) (d : MV) (S : Sto) : asgF gf ρ (.val d) S = (gf d ρ S).bind fun ρ' S2 => .ok (.next ρ') S2 := rfl
def tbl (p : Int × Int) : MV := .tup [.int p.1, .int p.2]
mutual
def pd : MV → Bool
  | .int _ => true
  | .str _ => true
  | .tup ds => pdL ds
  | _ => false
def pdL : List MV → Bool
  | [] => true
  | d :: ds => pd d && pdL ds
end
mutual
def dpt : MV → Nat
  | .tup ds => dptL ds + 1
  | _ => 0
def dptL : List MV → Nat
  | [] => 0
  | d :: ds => max (dpt d) (dptL ds)
end
theorem pd_tup (ds : List MV) : pd (.tup ds) = pdL ds := by rw [pd]
theorem pdL_nil : pdL [] = true := by rw [pdL]
theorem pdL_cons (d : MV) (ds : List MV) : pdL (d :: ds) = (pd d && pdL ds) := by rw [pdL]
theorem dpt_tup (ds : List MV) : dpt (.tup ds) = dptL ds + 1 := by rw [dpt]
theorem dptL_cons (d : MV) (ds : List MV) : dptL (d :: ds) = max (dpt d) (dptL ds) := by rw [dptL]
theorem dptL_nil : dptL [] = 0 := by rw [dptL]
theorem pd_int (i : Int) : pd (.int i) = true := by rw [pd]
theorem pd_str (i : List Nat) : pd (.str i) = true := by rw [pd]
theorem dpt_int (i : Int) : dpt (.int i) = 0 := by simp [dpt]
theorem dpt_str (i : List Nat) : dpt (.str i) = 0 := by simp [dpt]
theorem pdL_all : ∀ {ds : List MV}, (∀ d ∈ ds, pd d = true) → pdL ds = true
  | [], _ => pdL_nil
  | d :: ds, h => by rw [pdL_cons, h d List.mem_cons_self, pdL_all fun e he => h e (List.mem_cons_of_mem _ he)]; rfl
theorem pdL_mem : ∀ {ds : List MV}, pdL ds = true → ∀ d ∈ ds, pd d = true
  | [], _, d, h => by simp at h
  | e :: ds, hp, d, h => by
    rw [pdL_cons, Bool.and_eq_true] at hp
    rcases List.mem_cons.mp h with rfl | h
    · exact hp.1
    · exact pdL_mem hp.2 d h
theorem dptL_le : ∀ {ds : List MV} {n : Nat}, (∀ d ∈ ds, dpt d ≤ n) → dptL ds ≤ n
  | [], n, _ => by rw [dptL_nil]; exact Nat.zero_le _
  | d :: ds, n, h => by
    rw [dptL_cons]
    have h1 := h d List.mem_cons_self
    have h2 := dptL_le fun e he => h e (List.mem_cons_of_mem _ he)
    omega
theorem dptL_mem : ∀ {ds : List MV}, ∀ d ∈ ds, dpt d ≤ dptL ds
  | [], d, h => by simp at h
  | e :: ds, d, h => by
    rw [dptL_cons]
    rcases List.mem_cons.mp h with rfl | h
    · exact Nat.le_max_left _ _
    · exact Nat.le_trans (dptL_mem d h) (Nat.le_max_right _ _)
theorem pd_cases {d : MV} (h : pd d = true) : (∃ i, d = .int i) ∨ (∃ x, d = .str x) ∨ ∃ ds, d = .tup ds ∧ pdL ds = true := by
  cases d with
  | int i => exact .inl ⟨i, rfl⟩
  | str x => exact .inr (.inl ⟨x, rfl⟩)
  | tup ds => exact .inr (.inr ⟨ds, rfl, by rw [← pd_tup]; exact h⟩)
  | _ => rw [pd] at h <;> first | cases h | (intros; simp)
theorem dec_is {p : Prop} [Decidable p] {q : Prop} [Decidable q] (h : p ↔ q) : decide p = decide q := by
  by_cases hq : q
  · rw [decide_eq_true hq, decide_eq_true (h.mpr hq)]
  · rw [decide_eq_false hq, decide_eq_false fun z => hq (h.mp z)]
theorem prs_pure {e : MV → MV → Option Bool} : ∀ {ds es : List MV}, (∀ d ∈ ds, ∀ f ∈ es, e d f = some (decide (d = f))) → ∃ bs, prs e ds es = some bs ∧ (bs.all id && ds.length == es.length) = decide (ds = es)
  | [], [], _ => ⟨[], rfl, by simp⟩
  | [], _ :: _, _ => ⟨[], rfl, by simp⟩
  | _ :: _, [], _ => ⟨[], rfl, by simp⟩
  | d :: ds, f :: es, h => by
    obtain ⟨bs, h1, h2⟩ := prs_pure (e := e) (ds := ds) (es := es) fun a ha b hb => h a (List.mem_cons_of_mem _ ha) b (List.mem_cons_of_mem _ hb)
    refine ⟨decide (d = f) :: bs, ?_, ?_⟩
    · unfold prs
      rw [h d List.mem_cons_self f List.mem_cons_self, h1]
      rfl
    · by_cases hd : d = f
      · subst hd
        rw [List.all_cons, decide_eq_true rfl]
        simp only [id, Bool.true_and, List.length_cons]
        rw [show (ds.length + 1 == es.length + 1) = (ds.length == es.length) by simp, h2]
        exact dec_is (by simp)
      · rw [List.all_cons, decide_eq_false hd]
        rw [decide_eq_false (show ¬ (d :: ds = f :: es) from fun z => hd (List.cons.inj z).1)]
        rfl
theorem eqv_pure {S : Sto} : ∀ (n : Nat) {d e : MV}, pd d = true → pd e = true → dpt d < n → eqv S n d e = some (decide (d = e))
  | 0, d, e, _, _, h => by omega
  | n + 1, d, e, hd, he, h => by
    rcases pd_cases hd with ⟨i, rfl⟩ | ⟨x, rfl⟩ | ⟨ds, rfl, pds⟩ <;> rcases pd_cases he with ⟨j, rfl⟩ | ⟨y, rfl⟩ | ⟨es, rfl, pes⟩
    · rw [eqv_int]; exact congrArg some (dec_is (by simp))
    · rw [eqv_is, decide_eq_false (by simp)]
    · rw [decide_eq_false (by simp)]; rfl
    · rw [eqv_si, decide_eq_false (by simp)]
    · rw [eqv_str]; exact congrArg some (dec_is (by simp))
    · rw [decide_eq_false (by simp)]; rfl
    · rw [decide_eq_false (by simp)]; rfl
    · rw [decide_eq_false (by simp)]; rfl
    · rw [dpt_tup] at h
      obtain ⟨bs, h1, h2⟩ := prs_pure (e := eqv S n) (ds := ds) (es := es) fun a ha b hb => eqv_pure n (pdL_mem pds a ha) (pdL_mem pes b hb) (by have := dptL_mem a ha; omega)
      show ((prs (eqv S n) ds es).map fun bs => bs.all id && ds.length == es.length) = _
      rw [h1]
      show some (bs.all id && ds.length == es.length) = _
      rw [h2]
      exact congrArg some (dec_is (by simp))
theorem eq_pure {S : Sto} {d e : MV} (hd : pd d = true) (he : pd e = true) (h : dpt d < 40) : eqF (.val d) (.val e) S = .ok (.val (.bl (decide (d = e)))) S := eq_val (eqv_pure (depthE + 1) hd he (by unfold depthE; omega))
theorem ans_pure {S : Sto} {d : MV} (hd : pd d = true) : ∀ {ys : List MV}, (∀ y ∈ ys, pd y = true ∧ dpt y < 40) → ansL S depthE d ys = some (ys.map fun y => decide (y = d))
  | [], _ => rfl
  | y :: ys, h => by
    have h1 := h y List.mem_cons_self
    unfold ansL
    rw [eqv_pure depthE h1.1 hd (by unfold depthE; exact h1.2), ans_pure hd fun z hz => h z (List.mem_cons_of_mem _ hz)]
    rfl
theorem le_int (i j : Int) (S : Sto) : leF (.val (.int i)) (.val (.int j)) S = .ok (.val (.bl (decide (i ≤ j)))) S := rfl
theorem le_str (i j : List Nat) (S : Sto) : leF (.val (.str i)) (.val (.str j)) S = .ok (.val (.bl (!decide (j < i)))) S := rfl
theorem isi_ii (i : Int) (S : Sto) : isiF [.val (.int i), .val (.typ "int")] S = .ok (.val (.bl true)) S := rfl
theorem isi_ib (i : Int) (S : Sto) : isiF [.val (.int i), .val (.typ "bool")] S = .ok (.val (.bl false)) S := rfl
theorem isi_si (i : List Nat) (S : Sto) : isiF [.val (.str i), .val (.typ "int")] S = .ok (.val (.bl false)) S := rfl
theorem bl_call {n : Nat} {F : List MV → Sto → R Er} {rs : List Er} {S : Sto} {b : Bool} (hn : rs.length = n) (hF : F (enterA rs S).1 (enterA rs S).2 = .ok (.val (.bl b)) S) : callF n F rs S = .ok (.val (.bl b)) S := call_pure hn hF (lo_bl _ _) (fun l => by simp)
theorem c_whole_int (i : Int) (S : Sto) : callF 1 f_is_whole [.val (.int i)] S = .ok (.val (.bl true)) S := bl_call rfl (by
  show finF (F_is_whole [some (.int i)] S) = _
  unfold F_is_whole F_is_whole_1
  simp? [isi_ii, isi_ib, andF]
  rfl)
theorem c_whole_str (i : List Nat) (S : Sto) : callF 1 f_is_whole [.val (.str i)] S = .ok (.val (.bl false)) S := bl_call rfl (by
  show finF (F_is_whole [some (.str i)] S) = _
  unfold F_is_whole F_is_whole_1
  simp? [isi_si, andF]
  rfl)
theorem letter_le {c : Nat} (h : 97 ≤ c ∧ c ≤ 122) : (!decide ([c] < [97])) = true ∧ (!decide ([122] < [c])) = true := by
  have h1 : ¬ ([c] < [97]) := by
    intro z
    rw [List.cons_lt_cons_iff] at z
    rcases z with z | ⟨_, z⟩
    · omega
    · exact absurd z (by simp)
  have h2 : ¬ ([122] < [c]) := by
    intro z
    rw [List.cons_lt_cons_iff] at z
    rcases z with z | ⟨_, z⟩
    · omega
    · exact absurd z (by simp)
  exact ⟨by rw [decide_eq_false h1]; rfl, by rw [decide_eq_false h2]; rfl⟩
theorem all_true : ∀ {n : Nat} {S : Sto}, allF [.new (List.replicate n (.bl true))] S = .ok (.val (.bl true)) S := by
  intro n S
  have h : ∀ n : Nat, blsOf (List.replicate n (.bl true)) = some (List.replicate n true) := by
    intro n
    induction n with
    | zero => rfl
    | succ n ih => rw [List.replicate_succ, List.replicate_succ]; unfold blsOf; rw [ih]; rfl
  show (match (some (List.replicate n (MV.bl true))).bind blsOf with | some bs => R.ok (Er.val (.bl (bs.all id))) S | none => .no) = _
  rw [show (some (List.replicate n (MV.bl true))).bind blsOf = some (List.replicate n true) from h n]
  show R.ok (Er.val (.bl ((List.replicate n true).all id))) S = _
  rw [show (List.replicate n true).all id = true by simp]
theorem map_true {ds : List MV} : ds.map (fun _ => MV.bl true) = List.replicate ds.length (.bl true) := by
  induction ds with
  | nil => rfl
  | cons d ds ih => rw [List.map_cons, List.length_cons, List.replicate_succ, ih]
theorem c_name {x : List Nat} (h : Nm x) (S : Sto) : callF 1 f_is_name [.val (.str x)] S = .ok (.val (.bl true)) S := bl_call rfl (by
  have hl : ∀ S, lenF [.val (.str x)] S = .ok (.val (.int x.length)) S := fun S => if_pos (fits (by have := h.2.1; omega))
  have e1 : F_is_name_1 [some (.str x)] S = .ok (.next [some (.str x)]) S := by
    unfold F_is_name_1
    simp? [hl, chF, le_int, decide_eq_true (show (1 : Int) ≤ x.length by have := h.1; omega), decide_eq_true (show (x.length : Int) ≤ 8 by have := h.2.1; omega)]
    rfl
  have hc : compF (gNm 0) C_is_name_1_c C_is_name_1_e (blk 1 [] [some (.str x)]) [] (x.map fun c => .str [c]) S = .ok ((x.map fun c => MV.str [c]).map fun _ => .bl true) S := comp_map (stay0 S) fun d hd => by
    obtain ⟨c, hc, rfl⟩ := List.mem_map.mp hd
    obtain ⟨h1, h2⟩ := letter_le (h.2.2 c hc)
    refine ⟨[some (.str [c])], rfl, rfl, ?_⟩
    unfold C_is_name_1_e
    simp? [chF, le_str, h1, h2]
  have e2 : F_is_name_2 [some (.str x)] S = .ok (.ret (.val (.bl true))) S := by
    unfold F_is_name_2
    simp? [bok]
    show (((((if (x.map fun c => MV.str [c]).length < 1000000 then (compF (gNm 0) C_is_name_1_c C_is_name_1_e (blk 1 [] [some (.str x)]) [] (x.map fun c => .str [c]) S).bind fun o S => R.ok (Er.new o) S else .no).bind fun p S1 => R.ok [p] S1).bind allF).bind fun r S1 => R.ok (Fl.ret r) S1)) = _
    rw [if_pos (by rw [List.length_map]; have := h.2.1; omega), hc, bok, bok, bok, map_true, all_true]
    rfl
  show finF (F_is_name [some (.str x)] S) = _
  unfold F_is_name
  rw [seq_next e1, e2]
  rfl)
theorem c_value {d : MV} (h : Vl d) (S : Sto) : callF 1 f_is_value [.val d] S = .ok (.val (.bl true)) S := bl_call rfl (by
  show finF (F_is_value [some d] S) = _
  unfold F_is_value
  rcases h.cases with ⟨i, rfl, h0, h1⟩ | ⟨x, rfl, hx⟩
  · have habs : absF [.val (.int i)] S = .ok (.val (.int (if i < 0 then -i else i))) S := rfl
    have hlt : decide ((if i < 0 then -i else i) < (10 : Int) ^ 30) = true := decide_eq_true (by split <;> omega)
    rw [seq_ret (show F_is_value_1 [some (.int i)] S = .ok (.ret (.val (.bl true))) S by
      unfold F_is_value_1
      simp? [c_whole_int, habs, show powF (.val (.int 10)) (.val (.int 30)) S = .ok (.val (.int (10 ^ 30))) S from rfl, lt_int, hlt])]
    rfl
  · rw [seq_next (show F_is_value_1 [some (.str x)] S = .ok (.next [some (.str x)]) S by
      unfold F_is_value_1
      simp? [c_whole_str]
      rfl)]
    unfold F_is_value_2
    simp? [c_name hx]
    rfl)
theorem c_tuple (ds : List MV) (a b : Int) (S : Sto) : callF 3 f_is_tuple [.val (.tup ds), .val (.int a), .val (.int b)] S = .ok (.val (.bl (decide (a ≤ ds.length) && decide ((ds.length : Int) ≤ b)))) S := bl_call rfl (by
  show finF (F_is_tuple [some (.tup ds), some (.int a), some (.int b)] S) = _
  unfold F_is_tuple F_is_tuple_1
  simp? [andF, len_tup, chF, le_int]
  cases decide (a ≤ (ds.length : Int)) <;> rfl)
theorem c_below (i b : Int) (S : Sto) : callF 2 f_is_number_below [.val (.int i), .val (.int b)] S = .ok (.val (.bl (decide (0 ≤ i) && decide (i < b)))) S := bl_call rfl (by
  show finF (F_is_number_below [some (.int i), some (.int b)] S) = _
  unfold F_is_number_below F_is_number_below_1
  simp? [c_whole_int, andF, chF, le_int, lt_int]
  cases decide (0 ≤ i) <;> rfl)
theorem c_below_ok {i b : Int} (h0 : 0 ≤ i) (h1 : i < b) (S : Sto) : callF 2 f_is_number_below [.val (.int i), .val (.int b)] S = .ok (.val (.bl true)) S := by
  rw [c_below, decide_eq_true h0, decide_eq_true h1]; rfl
theorem c_tuple_ok {ds : List MV} {a b : Int} (h0 : a ≤ ds.length) (h1 : (ds.length : Int) ≤ b) (S : Sto) : callF 3 f_is_tuple [.val (.tup ds), .val (.int a), .val (.int b)] S = .ok (.val (.bl true)) S := by
  rw [c_tuple, decide_eq_true h0, decide_eq_true h1]; rfl
theorem c_tup2 (a b : MV) (S : Sto) : callF 3 f_is_tuple [.val (.tup [a, b]), .val (.int 2), .val (.int 2)] S = .ok (.val (.bl true)) S := c_tuple_ok (by simp) (by simp) S
def SqM (S : Sto) (m : MV) (ds : List MV) : Prop := m = .tup ds ∨ ∃ l, m = .loc l ∧ S[l]? = some (.lst ds)
theorem SqM.len {S : Sto} {m : MV} {ds : List MV} (h : SqM S m ds) : lenF [.val m] S = .ok (.val (.int ds.length)) S := by
  rcases h with rfl | ⟨l, rfl, hS⟩
  · rfl
  · exact len_loc hS
theorem SqM.app {S T : Sto} {m : MV} {ds : List MV} (h : SqM S m ds) : SqM (S ++ T) m ds := by
  rcases h with h | ⟨l, h, hS⟩
  · exact .inl h
  · exact .inr ⟨l, h, by rw [List.getElem?_append_left (List.getElem?_eq_some_iff.mp hS).1]; exact hS⟩
theorem SqM.lo {S : Sto} {m : MV} {ds : List MV} (h : SqM S m ds) (hd : ∀ d ∈ ds, lo S.length d) : lo S.length m := by
  rcases h with rfl | ⟨l, rfl, hS⟩
  · exact lo_tup (loL_of hd)
  · exact lo_loc (List.getElem?_eq_some_iff.mp hS).1
section
variable {S : Sto}
theorem SqM.tuple {m : MV} {ds : List MV} (h : SqM S m ds) : tupleF [.val m] S = .ok (.val (.tup ds)) S := by
  rcases h with rfl | ⟨l, rfl, hS⟩
  · rfl
  · exact tuple_loc hS
end
abbrev Wl (S : Sto) (l : Nat) (x : Int) : Sto := S.set l (.lst [.int x])
theorem wl_get {S : Sto} {l : Nat} (h : l < S.length) (x : Int) : (Wl S l x)[l]? = some (.lst [.int x]) := List.getElem?_set_self h
theorem wl_ne {S : Sto} {l m : Nat} (h : l ≠ m) (x : Int) : (Wl S l x)[m]? = S[m]? := List.getElem?_set_ne h
theorem wl_wl (S : Sto) (l : Nat) (x y : Int) : (Wl S l x).set l (.lst [.int y]) = Wl S l y := List.set_set ..
theorem wl_len (S : Sto) (l : Nat) (x : Int) : (Wl S l x).length = S.length := List.length_set ..
theorem wl_in (S : Sto) (x : Int) : S ++ [.lst [.int x]] = Wl (S ++ [.lst []]) S.length x := by simp [Wl]
theorem wl_app {S : Sto} {l : Nat} (h : l < S.length) (x : Int) (T : Sto) : Wl S l x ++ T = Wl (S ++ T) l x := by
  unfold Wl
  rw [List.set_append_left _ _ h]
theorem wl_put {S : Sto} {l : Nat} (h : l < S.length) (x : Int) (o o' : MO) : (Wl (S ++ [o]) l x).set S.length o' = Wl (S ++ [o']) l x := by
  unfold Wl
  rw [List.set_append_left _ _ h, List.set_append_left _ _ h]
  rw [List.set_append_right _ _ (by rw [List.length_set]; exact Nat.le_refl _), List.length_set, Nat.sub_self]
  rfl
theorem wl_last {S : Sto} {l : Nat} (h : l < S.length) (x : Int) (o : MO) : (Wl (S ++ [o]) l x)[S.length]? = some o := by
  rw [wl_ne (Nat.ne_of_lt h)]; simp
theorem cut_wl {S : Sto} {l : Nat} (x : Int) (T : Sto) : cutOk S (Wl S l x ++ T) := by
  refine ⟨by rw [List.length_append, wl_len]; exact Nat.le_add_right _ _, fun m hm => ?_⟩
  rw [List.getElem?_append_left (by rw [wl_len]; exact hm)]
  by_cases e : l = m
  · subst e
    exact .inr ⟨_, wl_get hm x, loL_of fun e he => by rw [List.mem_singleton.mp he]; exact lo_int _ _⟩
  · exact .inl (wl_ne e x)
theorem cut_wl' {S : Sto} {l : Nat} (y x : Int) (T : Sto) : cutOk (Wl S l y) (Wl S l x ++ T) := by
  have := cut_wl (S := Wl S l y) (l := l) x T
  rw [show Wl (Wl S l y) l x = Wl S l x from wl_wl S l y x] at this
  exact this
theorem take_wl (S : Sto) (l : Nat) (x : Int) (T : Sto) {n : Nat} (h : n = S.length) : (Wl S l x ++ T).take n = Wl S l x := by
  rw [h, List.take_append_of_le_length (by rw [wl_len]; exact Nat.le_refl _), List.take_of_length_le (by rw [wl_len]; exact Nat.le_refl _)]
theorem call_wl {n : Nat} {F : List MV → Sto → R Er} {rs : List Er} {S T : Sto} {l : Nat} {x y : Int} {d : MV} (hn : rs.length = n) (hF : F (enterA rs (Wl S l x)).1 (enterA rs (Wl S l x)).2 = .ok (.val d) (Wl S l y ++ T)) (h : lo S.length d) (hd : ∀ l, d ≠ .loc l) : callF n F rs (Wl S l x) = .ok (.val d) (Wl S l y) := by
  unfold callF
  rw [if_pos hn, hF, noX_ok, bok]
  unfold trimF
  rw [if_pos (cut_wl' x y T)]
  have e := take_wl S l y T (n := (Wl S l x).length) (wl_len S l x)
  have h' : lo (Wl S l x).length d := by rw [wl_len]; exact h
  cases d with
  | loc m => exact absurd rfl (hd m)
  | _ => dsimp only; rw [if_pos h', e]
theorem call_wl_new {n : Nat} {F : List MV → Sto → R Er} {rs : List Er} {S T : Sto} {l m : Nat} {x y : Int} {ds : List MV} (hn : rs.length = n) (hF : F (enterA rs (Wl S l x)).1 (enterA rs (Wl S l x)).2 = .ok (.val (.loc m)) (Wl S l y ++ T)) (hm : S.length ≤ m) (hS : (Wl S l y ++ T)[m]? = some (.lst ds)) (h : loL S.length ds) : callF n F rs (Wl S l x) = .ok (.new ds) (Wl S l y) := by
  unfold callF
  rw [if_pos hn, hF, noX_ok, bok]
  unfold trimF
  rw [if_pos (cut_wl' x y T)]
  dsimp only
  rw [wl_len, if_neg (by omega), hS]
  dsimp only
  rw [if_pos h, take_wl S l y T rfl]
theorem call_own {n : Nat} {F : List MV → Sto → R Er} {rs : List Er} {S T : Sto} {r : Er} {ds : List MV} {as : List MV} {S2 : Sto} (hn : rs.length = n) (hE : enterA rs S = (as, S2)) (hF : F as S2 = .ok r (S ++ T)) (hr : r = .new ds ∨ ∃ l, r = .val (.loc l) ∧ S.length ≤ l ∧ (S ++ T)[l]? = some (.lst ds)) (h : loL S.length ds) : callF n F rs S = .ok (.new ds) S := by
  have hF' : F (enterA rs S).1 (enterA rs S).2 = .ok r (S ++ T) := by rw [hE]; exact hF
  rcases hr with rfl | ⟨l, rfl, h1, h2⟩
  · exact call_new hn hF' h
  · exact call_loc hn hF' h1 h2 h
section
variable {S : Sto} {l : Nat} {x : Int}
theorem take_gen {n : Int} (hl : l < S.length) (h0 : 0 < n) (hd : ∀ (a : Int) (S : Sto), divF (.val (.int a)) (.val (.int n)) S = .ok (.val (.int (a / n))) S) : callF 2 f__law_take [.val (.loc l), .val (.int n)] (Wl S l x) = .ok (.val (.int (x % n))) (Wl S l (x / n)) := by
  have hs : startR ["_law_well", "_law_many", "_law_digit"] [.loc l, .int n] = [some (.loc l), some (.int n), none] := rfl
  have ha : atI [MV.int x] 0 = some (.int x) := rfl
  have hS := wl_get hl x
  have e1 : F__law_take_1 [some (.loc l), some (.int n), none] (Wl S l x) = .ok (.next [some (.loc l), some (.int n), some (.int (x % n))]) (Wl S l x) := by
    unfold F__law_take_1
    simp? [ix_loc hS ha, mod_lit h0]
  have e2 : F__law_take_2 [some (.loc l), some (.int n), some (.int (x % n))] (Wl S l x) = .ok (.next [some (.loc l), some (.int n), some (.int (x % n))]) (Wl S l (x / n)) := by
    unfold F__law_take_2
    simp? [ix_loc hS ha, hd, asg_val, seti_loc hS (show ixN [MV.int x].length 0 = some 0 from rfl)]
    exact congrArg _ (wl_wl S l x (x / n))
  refine call_wl (T := []) rfl ?_ (lo_int _ _) (fun l => by simp)
  show f__law_take [.loc l, .int n] (Wl S l x) = _
  unfold f__law_take F__law_take
  rw [hs, seq_next e1, seq_next e2, List.append_nil]
  rfl
theorem take_ok {n : Int} (hl : l < S.length) (h0 : 0 < n) (h1 : n < 1073741824) : callF 2 f__law_take [.val (.loc l), .val (.int n)] (Wl S l x) = .ok (.val (.int (x % n))) (Wl S l (x / n)) := take_gen hl h0 (div_lit h0 h1)
theorem word_ok (hl : l < S.length) : ∃ y z, Nm y ∧ callF 1 f__law_word [.val (.loc l)] (Wl S l x) = .ok (.val (.str y)) (Wl S l z) := by
  have hm0 : 0 ≤ x % 8 := Int.emod_nonneg _ (by decide)
  have hm1 : x % 8 < 8 := Int.emod_lt_of_pos _ (by decide)
  have hn : ((List.range (1 + x % 8).toNat).map fun k => MV.int (k : Nat)).length = (1 + x % 8).toNat := by rw [List.length_map, List.length_range]
  have e1 : F__law_word_1 [some (.loc l), none, none, none] (Wl S l x) = .ok (.next [some (.loc l), some (.str abc), none, none]) (Wl S l x) := rfl
  have e2 : F__law_word_2 [some (.loc l), some (.str abc), none, none] (Wl S l x) = .ok (.next [some (.loc l), some (.str abc), some (.str []), none]) (Wl S l x) := rfl
  obtain ⟨ρ', S', e, y, z, k', hρ, hS', hyl, hy⟩ := for_ix (L := (List.range (1 + x % 8).toNat).map fun k => MV.int (k : Nat)) (gf := gNm 3) (body := B__law_word_1) (gs := []) (S := Wl S l (x / 8)) (ρ := [some (.loc l), some (.str abc), some (.str []), none])
    (fun i ρ S' => ∃ (y : List Nat) (z : Int) (k' : Option MV), ρ = [some (.loc l), some (.str abc), some (.str y), k'] ∧ S' = Wl S l z ∧ y.length = i ∧ ∀ c ∈ y, 97 ≤ c ∧ c ≤ 122) (fun i d hi ρ S1 ⟨y, z, k', hρ, hS1, hyl, hy⟩ => by
      subst hρ hS1
      have hil : i < 8 := by have := (List.getElem?_eq_some_iff.mp hi).1; omega
      obtain ⟨k, hk⟩ := atI_pos (xs := abc) (i := z % 26) (Int.emod_nonneg _ (by decide)) (by have := Int.emod_lt_of_pos z (show (0 : Int) < 26 by decide); show z % 26 < 26; exact this)
      refine ⟨[some (.loc l), some (.str abc), some (.str (y ++ [k])), some d], Wl S l (z / 26), ?_, stay0 _, y ++ [k], z / 26, some d, rfl, rfl, by rw [List.length_append, hyl]; rfl, fun c hc => ?_⟩
      · rw [show gNm 3 d [some (.loc l), some (.str abc), some (.str y), k'] (Wl S l z) = .ok [some (.loc l), some (.str abc), some (.str y), some d] (Wl S l z) from rfl, bok]
        unfold B__law_word_1 B__law_word_1_1
        simp? [take_ok hl (show (0 : Int) < 26 by decide) (by decide), ix_str (show abc.length ≤ sizeLine by rw [sizeLine_eq]; decide) hk]
        rw [add_str (fits (by rw [List.length_singleton]; omega))]
        rfl
      · rcases List.mem_append.mp hc with h | h
        · exact hy c h
        · rw [List.mem_singleton.mp h]; exact atI_all (P := fun k => 97 ≤ k ∧ k ≤ 122) (by decide) hk) ⟨[], x / 8, none, rfl, rfl, rfl, by simp⟩
  subst hρ hS'
  rw [hn] at hyl
  have e3 : F__law_word_3 [some (.loc l), some (.str abc), some (.str []), none] (Wl S l x) = .ok (.next [some (.loc l), some (.str abc), some (.str y), k']) (Wl S l z) := by
    unfold F__law_word_3
    simp? [take_ok hl (show (0 : Int) < 8 by decide) (by decide)]
    rw [rng_ok (by omega), bok]
    exact e
  refine ⟨y, z, ⟨by omega, by omega, hy⟩, call_wl (T := []) rfl ?_ (lo_str _ _) (fun l => by simp)⟩
  have hs : startR ["_law_well", "_law_letters", "_law_word_here", "_law_k"] [.loc l] = [some (.loc l), none, none, none] := rfl
  show f__law_word [.loc l] (Wl S l x) = _
  unfold f__law_word F__law_word
  rw [hs, seq_next e1, seq_next e2, seq_next e3, List.append_nil]
  rfl
end
theorem digits_ok (c : Int) (S : Sto) : ∃ t, callF 1 f__law_digits [.val (.int c)] S = .ok (.new [.int t]) S := by
  have hs : startR ["_law_cell", "_law_rest", "_law_number", "_law_total", "_law_k", "_law_other"] [.int c] = [some (.int c), none, none, none, none, none] := rfl
  have e1 : F__law_digits_1 [some (.int c), none, none, none, none, none] S = .ok (.next [some (.int c), some (.int (c / 2)), none, none, none, none]) S := by
    unfold F__law_digits_1
    simp? [div_lit (show (0 : Int) < 2 by decide) (show (2 : Int) < 1073741824 by decide)]
  have e2 : F__law_digits_2 [some (.int c), some (.int (c / 2)), none, none, none, none] S = if decide (c % 2 = 0) = true then .ok (.ret (.new [.int (c / 2)])) S else .ok (.next [some (.int c), some (.int (c / 2)), none, none, none, none]) S := by
    unfold F__law_digits_2
    simp? [mod_lit (show (0 : Int) < 2 by decide)]
  have fin : ∀ t, f__law_digits [.int c] S = .ok (.new [.int t]) S → ∃ t, callF 1 f__law_digits [.val (.int c)] S = .ok (.new [.int t]) S := fun t h => ⟨t, call_own (T := []) rfl rfl (by rw [List.append_nil]; exact h) (.inl rfl) (loL_of fun e he => by rw [List.mem_singleton.mp he]; exact lo_int _ _)⟩
  cases hb : decide (c % 2 = 0) with
  | true =>
    rw [hb, if_pos rfl] at e2
    refine fin (c / 2) ?_
    unfold f__law_digits F__law_digits
    rw [hs, seq_next e1, seq_ret e2]
    rfl
  | false =>
    rw [hb, if_neg Bool.false_ne_true] at e2
    have e3 : F__law_digits_3 [some (.int c), some (.int (c / 2)), none, none, none, none] S = .ok (.next [some (.int c), some (.int (c / 2)), some (.int (c / 2 % 2147483647)), none, none, none]) S := by
      unfold F__law_digits_3
      simp? [mod_lit (show (0 : Int) < 2147483647 by decide)]
    have e4 : F__law_digits_4 [some (.int c), some (.int (c / 2)), some (.int (c / 2 % 2147483647)), none, none, none] S = .ok (.next [some (.int c), some (.int (c / 2)), some (.int (c / 2 % 2147483647)), some (.int 0), none, none]) S := by
      unfold F__law_digits_4
      simp? [bok]
    obtain ⟨ρ', S', e, n, t, k', o', hρ, hS'⟩ := for_ix (L := (List.range 16).map fun k => MV.int (k : Nat)) (gf := gNm 4) (body := B__law_digits_1) (gs := []) (S := S) (ρ := [some (.int c), some (.int (c / 2)), some (.int (c / 2 % 2147483647)), some (.int 0), none, none])
      (fun i ρ S' => ∃ (n t : Int) (k' o' : Option MV), ρ = [some (.int c), some (.int (c / 2)), some (.int n), some (.int t), k', o'] ∧ S' = S) (fun i d hi ρ S1 ⟨n, t, k', o', hρ, hS1⟩ => by
        subst hρ hS1
        obtain ⟨k, _, rfl⟩ := List.mem_map.mp (List.mem_of_getElem? hi)
        have h0 : 0 ≤ (n * 48271 + 7919 * ((k : Nat) : Int) + 11) % 2147483647 := Int.emod_nonneg _ (by decide)
        have h1 : (n * 48271 + 7919 * ((k : Nat) : Int) + 11) % 2147483647 < 2147483647 := Int.emod_lt_of_pos _ (by decide)
        have b1 : B__law_digits_1_1 [some (.int c), some (.int (c / 2)), some (.int n), some (.int t), some (.int (k : Nat)), o'] S1 = .ok (.next [some (.int c), some (.int (c / 2)), some (.int ((n * 48271 + 7919 * ((k : Nat) : Int) + 11) % 2147483647)), some (.int t), some (.int (k : Nat)), o']) S1 := by
          unfold B__law_digits_1_1
          simp? [mul_lit (show -(2 ^ 64) < (48271 : Int) ∧ (48271 : Int) < 2 ^ 64 by decide), mul_litL (show -(2 ^ 64) < (7919 : Int) ∧ (7919 : Int) < 2 ^ 64 by decide), mod_lit (show (0 : Int) < 2147483647 by decide)]
        generalize (n * 48271 + 7919 * ((k : Nat) : Int) + 11) % 2147483647 = m at h0 h1 b1
        have b2 : B__law_digits_1_2 [some (.int c), some (.int (c / 2)), some (.int m), some (.int t), some (.int (k : Nat)), o'] S1 = .ok (.next [some (.int c), some (.int (c / 2)), some (.int m), some (.int t), some (.int (k : Nat)), some (.int (m * m % 2147483629))]) S1 := by
          unfold B__law_digits_1_2
          simp? [mul_31 (a := m) ⟨h0, by omega⟩, mod_lit (show (0 : Int) < 2147483629 by decide)]
        have b3 : B__law_digits_1_3 [some (.int c), some (.int (c / 2)), some (.int m), some (.int t), some (.int (k : Nat)), some (.int (m * m % 2147483629))] S1 = .ok (.next [some (.int c), some (.int (c / 2)), some (.int m), some (.int (t * 2147483587 + m * m % 2147483629 * 69621 % 2147483587)), some (.int (k : Nat)), some (.int (m * m % 2147483629))]) S1 := by
          unfold B__law_digits_1_3
          simp? [mul_lit (show -(2 ^ 64) < (2147483587 : Int) ∧ (2147483587 : Int) < 2 ^ 64 by decide), mul_lit (show -(2 ^ 64) < (69621 : Int) ∧ (69621 : Int) < 2 ^ 64 by decide), mod_lit (show (0 : Int) < 2147483587 by decide)]
        refine ⟨[some (.int c), some (.int (c / 2)), some (.int m), some (.int (t * 2147483587 + m * m % 2147483629 * 69621 % 2147483587)), some (.int (k : Nat)), some (.int (m * m % 2147483629))], S1, ?_, stay0 _, m, _, _, _, rfl, rfl⟩
        rw [show gNm 4 (.int (k : Nat)) [some (.int c), some (.int (c / 2)), some (.int n), some (.int t), k', o'] S1 = .ok [some (.int c), some (.int (c / 2)), some (.int n), some (.int t), some (.int (k : Nat)), o'] S1 from rfl, bok]
        unfold B__law_digits_1
        rw [seq_next b1, seq_next b2, b3]) ⟨_, _, _, _, rfl, rfl⟩
    subst hρ hS'
    have e5 : F__law_digits_5 [some (.int c), some (.int (c / 2)), some (.int (c / 2 % 2147483647)), some (.int 0), none, none] S' = .ok (.next [some (.int c), some (.int (c / 2)), some (.int n), some (.int t), k', o']) S' := by
      unfold F__law_digits_5
      simp? [rng_ok (S := S') (j := 16) (by decide)]
      exact e
    have e6 : F__law_digits_6 [some (.int c), some (.int (c / 2)), some (.int n), some (.int t), k', o'] S' = .ok (.ret (.new [.int t])) S' := by
      unfold F__law_digits_6
      simp? [bok]
    refine fin t ?_
    unfold f__law_digits F__law_digits
    rw [hs, seq_next e1, seq_next e2, seq_next e3, seq_next e4, seq_next e5, e6]
    rfl
theorem snd_at (S : Sto) (a b : MO) : (S ++ [a, b])[S.length + 1]? = some b := by
  rw [List.getElem?_append_right (by omega), show S.length + 1 - S.length = 1 by omega]
  rfl
theorem vl_pd {d : MV} (h : Vl d) : pd d = true ∧ dpt d < 40 := by
  rcases h.cases with ⟨i, rfl, _⟩ | ⟨x, rfl, _⟩
  · exact ⟨pd_int i, by rw [dpt_int]; decide⟩
  · exact ⟨pd_str x, by rw [dpt_str]; decide⟩
theorem inF_loc (neg : Bool) (p : Er) (l : Nat) (S : Sto) : inF neg p (.val (.loc l)) S = inSeqF neg p (.val (.loc l)) S := by
  unfold inF
  split
  · rename_i h; cases h
  · rfl
theorem in_pure {S : Sto} {l : Nat} {d : MV} {ys : List MV} (neg : Bool) (hS : S[l]? = some (.lst ys)) (hd : pd d = true) (h : ∀ y ∈ ys, pd y = true ∧ dpt y < 40) : inF neg (.val d) (.val (.loc l)) S = .ok (.val (.bl (if neg = true then !decide (d ∈ ys) else decide (d ∈ ys)))) S := by
  have e1 : itemsOf S (.val (.loc l)) = some ys := by unfold itemsOf; exact lsOf_loc hS
  rw [inF_loc]
  unfold inSeqF
  dsimp only
  rw [e1]
  dsimp only
  rw [ans_pure hd h]
  dsimp only
  have ha : (ys.map fun y => decide (y = d)).any id = decide (d ∈ ys) := by
    rw [List.any_map]
    by_cases hm : d ∈ ys
    · rw [decide_eq_true hm, List.any_eq_true]
      exact ⟨d, hm, by simp⟩
    · rw [decide_eq_false hm]
      rw [List.any_eq_false]
      intro y hy
      simp only [Function.comp, id, decide_eq_true_eq]
      rintro rfl
      exact hm hy
  rw [ha]
theorem gt_int (i j : Int) (S : Sto) : gtF (.val (.int i)) (.val (.int j)) S = .ok (.val (.bl (decide (j < i)))) S := rfl
abbrev PP (l m : Nat) (k w v : Option MV) : Rho := [some (.loc l), some (.int 4), some (.loc m), k, w, v]
section
variable {S : Sto} {l m : Nat} {x : Int} {vs : List MV} {k w v : Option MV}
theorem po3 {n v : Int} (hl : l < S.length) (hv : Vl (.int v)) : ∃ v' z, Vl (.int v') ∧ B__law_pool_1_3 (PP l m k (some (.int n)) (some (.int v))) (Wl S l x) = .ok (.next (PP l m k (some (.int n)) (some (.int v')))) (Wl S l z) := by
  have h0 : 0 ≤ x % (2 * 10 ^ 30 - 1) := Int.emod_nonneg _ (by decide)
  have h1 : x % (2 * 10 ^ 30 - 1) < 2 * 10 ^ 30 - 1 := Int.emod_lt_of_pos _ (by decide)
  have e : B__law_pool_1_3 (PP l m k (some (.int n)) (some (.int v))) (Wl S l x) = if decide (n = 1) = true then .ok (.next (PP l m k (some (.int n)) (some (.int (x % (2 * 10 ^ 30 - 1) - 10 ^ 30 + 1))))) (Wl S l (x / (2 * 10 ^ 30 - 1))) else .ok (.next (PP l m k (some (.int n)) (some (.int v)))) (Wl S l x) := by
    unfold B__law_pool_1_3
    simp? [pp30, mul_litL (show -(2 ^ 64) < (2 : Int) ∧ (2 : Int) < 2 ^ 64 by decide), take_gen (x := x) hl (show (0 : Int) < 2 * 10 ^ 30 - 1 by decide) (div_gen (show divC 0 (2 * 10 ^ 30 - 1) by decide +kernel))]
  by_cases h : n = 1
  · rw [decide_eq_true h, if_pos rfl] at e
    exact ⟨_, _, ⟨by omega, by omega⟩, e⟩
  · rw [decide_eq_false h, if_neg Bool.false_ne_true] at e
    exact ⟨v, x, hv, e⟩
theorem po4 {n : Int} {v : MV} (hl : l < S.length) (hv : Vl v) : ∃ v' z, Vl v' ∧ B__law_pool_1_4 (PP l m k (some (.int n)) (some v)) (Wl S l x) = .ok (.next (PP l m k (some (.int n)) (some v'))) (Wl S l z) := by
  obtain ⟨y, z, hy, hc⟩ := word_ok (S := S) (l := l) (x := x) hl
  have e : B__law_pool_1_4 (PP l m k (some (.int n)) (some v)) (Wl S l x) = if decide (1 < n) = true then .ok (.next (PP l m k (some (.int n)) (some (.str y)))) (Wl S l z) else .ok (.next (PP l m k (some (.int n)) (some v))) (Wl S l x) := by
    unfold B__law_pool_1_4
    simp? [gt_int, hc]
  by_cases h : 1 < n
  · rw [decide_eq_true h, if_pos rfl] at e
    exact ⟨_, _, show Vl (.str y) from hy, e⟩
  · rw [decide_eq_false h, if_neg Bool.false_ne_true] at e
    exact ⟨v, x, hv, e⟩
theorem pool_turn (hl : l < S.length) (hV : ∀ d ∈ vs, Vl d) (hn : vs.length < 1000) : ∃ vs' w' v' z, (∀ d ∈ vs', Vl d) ∧ vs'.length ≤ vs.length + 1 ∧ 1 ≤ vs'.length ∧ B__law_pool_1 (PP l S.length k w v) (Wl (S ++ [.lst vs]) l x) = .ok (.next (PP l S.length k w' v')) (Wl (S ++ [.lst vs']) l z) := by
  have hl2 : l < (S ++ [MO.lst vs]).length := by rw [List.length_append]; omega
  have hv0 : Vl (.int (x / 4 % 9 - 4)) := by
    have h0 : 0 ≤ x / 4 % 9 := Int.emod_nonneg _ (by decide)
    have h1 : x / 4 % 9 < 9 := Int.emod_lt_of_pos _ (by decide)
    exact ⟨by omega, by omega⟩
  have e1 : B__law_pool_1_1 (PP l S.length k w v) (Wl (S ++ [.lst vs]) l x) = .ok (.next (PP l S.length k (some (.int (x % 4))) v)) (Wl (S ++ [.lst vs]) l (x / 4)) := by
    unfold B__law_pool_1_1
    simp? [take_ok hl2 (show (0 : Int) < 4 by decide) (by decide)]
  have e2 : B__law_pool_1_2 (PP l S.length k (some (.int (x % 4))) v) (Wl (S ++ [.lst vs]) l (x / 4)) = .ok (.next (PP l S.length k (some (.int (x % 4))) (some (.int (x / 4 % 9 - 4))))) (Wl (S ++ [.lst vs]) l (x / 4 / 9)) := by
    unfold B__law_pool_1_2
    simp? [take_ok hl2 (show (0 : Int) < 9 by decide) (by decide)]
  obtain ⟨v3, z3, hv3, e3⟩ := po3 (m := S.length) (k := k) (n := x % 4) (x := x / 4 / 9) hl2 hv0
  obtain ⟨v4, z4, hv4, e4⟩ := po4 (m := S.length) (k := k) (n := x % 4) (x := z3) hl2 hv3
  have hS : (Wl (S ++ [.lst vs]) l z4)[S.length]? = some (.lst vs) := wl_last hl z4 _
  have e5 : B__law_pool_1_5 (PP l S.length k (some (.int (x % 4))) (some v4)) (Wl (S ++ [.lst vs]) l z4) = if (!decide (v4 ∈ vs)) = true then .ok (.next (PP l S.length k (some (.int (x % 4))) (some v4))) (Wl (S ++ [.lst (vs ++ [v4])]) l z4) else .ok (.next (PP l S.length k (some (.int (x % 4))) (some v4))) (Wl (S ++ [.lst vs]) l z4) := by
    unfold B__law_pool_1_5
    simp? [in_pure true hS (vl_pd hv4).1 fun y hy => vl_pd (hV y hy), isl_loc hS, app_loc hS (show vs.length < 1000000 by omega), wl_put hl]
  by_cases h : v4 ∈ vs
  · rw [decide_eq_true h, Bool.not_true, if_neg Bool.false_ne_true] at e5
    refine ⟨vs, some (.int (x % 4)), some v4, z4, hV, Nat.le_succ _, List.length_pos_of_mem h, ?_⟩
    unfold B__law_pool_1
    rw [seq_next e1, seq_next e2, seq_next e3, seq_next e4, e5]
  · rw [decide_eq_false h, Bool.not_false, if_pos rfl] at e5
    refine ⟨vs ++ [v4], some (.int (x % 4)), some v4, z4, fun d hd => ?_, by rw [List.length_append]; exact Nat.le_refl _, by rw [List.length_append]; exact Nat.le_add_left _ _, ?_⟩
    · rcases List.mem_append.mp hd with hd | hd
      · exact hV d hd
      · rw [List.mem_singleton.mp hd]; exact hv4
    · unfold B__law_pool_1
      rw [seq_next e1, seq_next e2, seq_next e3, seq_next e4, e5]
end
theorem pool_ok (t : Int) (S : Sto) : ∃ vs, (∀ d ∈ vs, Vl d) ∧ 1 ≤ vs.length ∧ vs.length ≤ 4 ∧ callF 2 f__law_pool [.new [.int t], .val (.int 4)] S = .ok (.new vs) S := by
  have hlS : S.length < (S ++ [MO.lst []]).length := by rw [List.length_append]; exact Nat.lt_succ_self _
  have hs : startR ["_law_well", "_law_many", "_law_pool_here", "_law_k", "_law_way", "_law_value"] [.loc S.length, .int 4] = [some (.loc S.length), some (.int 4), none, none, none, none] := rfl
  have e1 : F__law_pool_1 [some (.loc S.length), some (.int 4), none, none, none, none] (Wl (S ++ [.lst []]) S.length t) = .ok (.next (PP S.length (S.length + 1) none none none)) (Wl (S ++ [.lst []] ++ [.lst []]) S.length t) := by
    unfold F__law_pool_1
    simp? [wl_len, wl_app hlS]
    rw [List.length_append]
    rfl
  obtain ⟨ρ', S', e, vs, z, k', w', v', hρ, hS', hV, h1, h2⟩ := for_ix (L := (List.range 4).map fun k => MV.int (k : Nat)) (gf := gNm 3) (body := B__law_pool_1) (gs := []) (S := Wl (S ++ [.lst []] ++ [.lst []]) S.length t) (ρ := PP S.length (S.length + 1) none none none)
    (fun i ρ S' => ∃ (vs : List MV) (z : Int) (k' w' v' : Option MV), ρ = PP S.length (S.length + 1) k' w' v' ∧ S' = Wl (S ++ [.lst []] ++ [.lst vs]) S.length z ∧ (∀ d ∈ vs, Vl d) ∧ vs.length ≤ i ∧ (i = 0 ∨ 1 ≤ vs.length)) (fun i d hi ρ S1 ⟨vs, z, k', w', v', hρ, hS1, hV, h1, h2⟩ => by
      subst hρ hS1
      have hil : i < 4 := (List.getElem?_eq_some_iff.mp hi).1
      obtain ⟨vs', w2, v2, z2, hV', h1', h2', hb⟩ := pool_turn (S := S ++ [.lst []]) (l := S.length) (x := z) (vs := vs) (k := some d) (w := w') (v := v') hlS hV (by omega)
      rw [List.length_append] at hb
      refine ⟨PP S.length (S.length + 1) (some d) w2 v2, _, ?_, stay0 _, vs', z2, some d, w2, v2, rfl, rfl, hV', by omega, .inr h2'⟩
      rw [show gNm 3 d (PP S.length (S.length + 1) k' w' v') (Wl (S ++ [.lst []] ++ [.lst vs]) S.length z) = .ok (PP S.length (S.length + 1) (some d) w' v') (Wl (S ++ [.lst []] ++ [.lst vs]) S.length z) from rfl, bok]
      exact hb) ⟨[], t, none, none, none, rfl, rfl, by simp, Nat.le_refl _, .inl rfl⟩
  subst hρ hS'
  have e2 : F__law_pool_2 (PP S.length (S.length + 1) none none none) (Wl (S ++ [.lst []] ++ [.lst []]) S.length t) = .ok (.next (PP S.length (S.length + 1) k' w' v')) (Wl (S ++ [.lst []] ++ [.lst vs]) S.length z) := by
    unfold F__law_pool_2
    simp? [rng_ok (S := Wl (S ++ [.lst []] ++ [.lst []]) S.length t) (j := 4) (by decide)]
    exact e
  have e3 : F__law_pool_3 (PP S.length (S.length + 1) k' w' v') (Wl (S ++ [.lst []] ++ [.lst vs]) S.length z) = .ok (.ret (.val (.loc (S.length + 1)))) (Wl (S ++ [.lst []] ++ [.lst vs]) S.length z) := by
    unfold F__law_pool_3
    simp? [bok]
  have hF : f__law_pool [.loc S.length, .int 4] (S ++ [.lst [.int t]]) = .ok (.val (.loc (S.length + 1))) (S ++ [.lst [.int z], .lst vs]) := by
    rw [wl_in]
    unfold f__law_pool F__law_pool
    rw [hs, seq_next e1, seq_next e2, e3]
    show R.ok _ _ = _
    congr 1
    rw [← wl_app hlS, ← wl_in, List.append_assoc]
    rfl
  refine ⟨vs, hV, h2.elim (fun z => absurd z (by decide)) id, h1, call_own rfl (show enterA [.new [.int t], .val (.int 4)] S = ([.loc S.length, .int 4], S ++ [.lst [.int t]]) from rfl) hF (.inr ⟨_, rfl, Nat.le_succ _, ?_⟩) (loL_of fun d hd => (hV d hd).lo _)⟩
  exact snd_at S _ _
def TOk (ts : List (Int × Int)) : Prop := 1 ≤ ts.length ∧ ts.length ≤ 3 ∧ ∀ p ∈ ts, 1 ≤ p.1 ∧ p.1 ≤ 3 ∧ 0 ≤ p.2 ∧ p.2 ≤ p.1
abbrev T4 (l m : Nat) (k w : Option MV) : Rho := [some (.loc l), some (.loc m), k, w]
theorem tab_turn {S : Sto} {l : Nat} {x : Int} {k w : Option MV} {ts : List (Int × Int)} (hl : l < S.length) (hn : ts.length < 1000) :
    ∃ p w' z, (1 ≤ p.1 ∧ p.1 ≤ 3 ∧ 0 ≤ p.2 ∧ p.2 ≤ p.1) ∧ B__law_tables_1 (T4 l S.length k w) (Wl (S ++ [.lst (ts.map tbl)]) l x) = .ok (.next (T4 l S.length k w')) (Wl (S ++ [.lst ((ts ++ [p]).map tbl)]) l z) := by
  have hl2 : l < (S ++ [MO.lst (ts.map tbl)]).length := by rw [List.length_append]; omega
  have h0 : 0 ≤ x % 3 := Int.emod_nonneg _ (by decide)
  have h1 : x % 3 < 3 := Int.emod_lt_of_pos _ (by decide)
  have hp : (0 : Int) < 1 + x % 3 + 1 := by omega
  have h2 : 0 ≤ x / 3 % (1 + x % 3 + 1) := Int.emod_nonneg _ (by omega)
  have h3 : x / 3 % (1 + x % 3 + 1) < 1 + x % 3 + 1 := Int.emod_lt_of_pos _ hp
  have e1 : B__law_tables_1_1 (T4 l S.length k w) (Wl (S ++ [.lst (ts.map tbl)]) l x) = .ok (.next (T4 l S.length k (some (.int (1 + x % 3))))) (Wl (S ++ [.lst (ts.map tbl)]) l (x / 3)) := by
    unfold B__law_tables_1_1
    simp? [take_ok hl2 (show (0 : Int) < 3 by decide) (by decide)]
  have hS : ∀ z, (Wl (S ++ [.lst (ts.map tbl)]) l z)[S.length]? = some (.lst (ts.map tbl)) := fun z => wl_last hl z _
  have e2 : B__law_tables_1_2 (T4 l S.length k (some (.int (1 + x % 3)))) (Wl (S ++ [.lst (ts.map tbl)]) l (x / 3)) = .ok (.next (T4 l S.length k (some (.int (1 + x % 3))))) (Wl (S ++ [.lst ((ts ++ [(1 + x % 3, x / 3 % (1 + x % 3 + 1))]).map tbl)]) l (x / 3 / (1 + x % 3 + 1))) := by
    unfold B__law_tables_1_2
    simp? [isl_loc (hS (x / 3)), take_ok (x := x / 3) hl2 hp (by omega), app_loc (hS (x / 3 / (1 + x % 3 + 1))) (show (ts.map tbl).length < 1000000 by rw [List.length_map]; omega), wl_put hl]
    rw [List.map_append]
    rfl
  refine ⟨(1 + x % 3, x / 3 % (1 + x % 3 + 1)), some (.int (1 + x % 3)), x / 3 / (1 + x % 3 + 1), ⟨by show 1 ≤ 1 + x % 3; omega, by show 1 + x % 3 ≤ 3; omega, h2, by show x / 3 % (1 + x % 3 + 1) ≤ 1 + x % 3; omega⟩, ?_⟩
  unfold B__law_tables_1
  rw [seq_next e1, e2]
theorem tables_ok (t : Int) (S : Sto) : ∃ ts, TOk ts ∧ callF 1 f__law_tables [.new [.int t]] S = .ok (.new (ts.map tbl)) S := by
  have hlS : S.length < (S ++ [MO.lst []]).length := by rw [List.length_append]; exact Nat.lt_succ_self _
  have hm0 : 0 ≤ t % 3 := Int.emod_nonneg _ (by decide)
  have hm1 : t % 3 < 3 := Int.emod_lt_of_pos _ (by decide)
  have hs : startR ["_law_well", "_law_tables_here", "_law_k", "_law_wide"] [.loc S.length] = [some (.loc S.length), none, none, none] := rfl
  have e1 : F__law_tables_1 [some (.loc S.length), none, none, none] (Wl (S ++ [.lst []]) S.length t) = .ok (.next (T4 S.length (S.length + 1) none none)) (Wl (S ++ [.lst []] ++ [.lst []]) S.length t) := by
    unfold F__law_tables_1
    simp? [wl_len, wl_app hlS]
    rw [List.length_append]
    rfl
  have hlen : ((List.range (1 + t % 3).toNat).map fun k => MV.int (k : Nat)).length = (1 + t % 3).toNat := by rw [List.length_map, List.length_range]
  obtain ⟨ρ', S', e, ts, z, k', w', hρ, hS', hT, h1⟩ := for_ix (L := (List.range (1 + t % 3).toNat).map fun k => MV.int (k : Nat)) (gf := gNm 2) (body := B__law_tables_1) (gs := []) (S := Wl (S ++ [.lst []] ++ [.lst []]) S.length (t / 3)) (ρ := T4 S.length (S.length + 1) none none)
    (fun i ρ S' => ∃ (ts : List (Int × Int)) (z : Int) (k' w' : Option MV), ρ = T4 S.length (S.length + 1) k' w' ∧ S' = Wl (S ++ [.lst []] ++ [.lst (ts.map tbl)]) S.length z ∧ (∀ p ∈ ts, 1 ≤ p.1 ∧ p.1 ≤ 3 ∧ 0 ≤ p.2 ∧ p.2 ≤ p.1) ∧ ts.length = i) (fun i d hi ρ S1 ⟨ts, z, k', w', hρ, hS1, hT, h1⟩ => by
      subst hρ hS1
      have hil : i < 4 := by have := (List.getElem?_eq_some_iff.mp hi).1; omega
      obtain ⟨p, w2, z2, hp, hb⟩ := tab_turn (S := S ++ [.lst []]) (l := S.length) (x := z) (ts := ts) (k := some d) (w := w') hlS (by omega)
      rw [List.length_append] at hb
      refine ⟨T4 S.length (S.length + 1) (some d) w2, _, ?_, stay0 _, ts ++ [p], z2, some d, w2, rfl, rfl, fun q hq => ?_, by rw [List.length_append, h1]; rfl⟩
      · rw [show gNm 2 d (T4 S.length (S.length + 1) k' w') (Wl (S ++ [.lst []] ++ [.lst (ts.map tbl)]) S.length z) = .ok (T4 S.length (S.length + 1) (some d) w') (Wl (S ++ [.lst []] ++ [.lst (ts.map tbl)]) S.length z) from rfl, bok]
        exact hb
      · rcases List.mem_append.mp hq with h | h
        · exact hT q h
        · rw [List.mem_singleton.mp h]; exact hp) ⟨[], t / 3, none, none, rfl, rfl, by simp, rfl⟩
  subst hρ hS'
  rw [hlen] at h1
  have hl3 : S.length < (S ++ [MO.lst []] ++ [MO.lst []]).length := by simp only [List.length_append, List.length_cons, List.length_nil]; omega
  have e2 : F__law_tables_2 (T4 S.length (S.length + 1) none none) (Wl (S ++ [.lst []] ++ [.lst []]) S.length t) = .ok (.next (T4 S.length (S.length + 1) k' w')) (Wl (S ++ [.lst []] ++ [.lst (ts.map tbl)]) S.length z) := by
    unfold F__law_tables_2
    simp? [take_ok hl3 (show (0 : Int) < 3 by decide) (by decide), rng_ok (S := Wl (S ++ [.lst []] ++ [.lst []]) S.length (t / 3)) (j := 1 + t % 3) (by omega)]
    exact e
  have e3 : F__law_tables_3 (T4 S.length (S.length + 1) k' w') (Wl (S ++ [.lst []] ++ [.lst (ts.map tbl)]) S.length z) = .ok (.ret (.val (.loc (S.length + 1)))) (Wl (S ++ [.lst []] ++ [.lst (ts.map tbl)]) S.length z) := by
    unfold F__law_tables_3
    simp? [bok]
  have hF : f__law_tables [.loc S.length] (S ++ [.lst [.int t]]) = .ok (.val (.loc (S.length + 1))) (S ++ [.lst [.int z], .lst (ts.map tbl)]) := by
    rw [wl_in]
    unfold f__law_tables F__law_tables
    rw [hs, seq_next e1, seq_next e2, e3]
    show R.ok _ _ = _
    congr 1
    rw [← wl_app hlS, ← wl_in, List.append_assoc]
    rfl
  refine ⟨ts, ⟨by omega, by omega, hT⟩, call_own rfl (show enterA [.new [.int t]] S = ([.loc S.length], S ++ [.lst [.int t]]) from rfl) hF (.inr ⟨_, rfl, Nat.le_succ _, snd_at S _ _⟩) (loL_of fun d hd => ?_)⟩
  obtain ⟨p, _, rfl⟩ := List.mem_map.mp hd
  exact lo_tup (loL_of fun e he => by simp at he; rcases he with rfl | rfl <;> exact lo_int _ _)
theorem nm_cons {b : List Nat} (h : Nm b) (h6 : b.length ≤ 6) : Nm ([98] ++ b) := ⟨by simp, by simp only [List.length_append, List.length_singleton]; omega, fun c hc => by
  rcases List.mem_append.mp hc with z | z
  · rw [List.mem_singleton.mp z]; decide
  · exact h.2.2 c z⟩
theorem nm_snoc {b : List Nat} (h : Nm b) (h7 : b.length ≤ 7) : Nm (b ++ [97]) := ⟨by simp, by simp only [List.length_append, List.length_singleton]; omega, fun c hc => by
  rcases List.mem_append.mp hc with z | z
  · exact h.2.2 c z
  · rw [List.mem_singleton.mp z]; decide⟩
abbrev N5 (l m : Nat) (b : List Nat) (k w : Option MV) : Rho := [some (.loc l), some (.str b), some (.loc m), k, w]
theorem adds {x y : List Nat} (h : x.length + y.length ≤ 1000) (S : Sto) : addF (.val (.str x)) (.val (.str y)) S = .ok (.val (.str (x ++ y))) S := add_str (fits (by omega))
theorem two_at {p q : MV} {j : Nat} (h : j < 2) : atI [p, q] (j : Int) = some p ∨ atI [p, q] (j : Int) = some q := by
  match j, h with
  | 0, _ => exact .inl rfl
  | 1, _ => exact .inr rfl
theorem nm_turn {S : Sto} {l : Nat} {x : Int} {b : List Nat} {w : Option MV} {us : List (List Nat)} {j : Nat} (hl : l < S.length) (hn : us.length < 1000) (hb : Nm b) (h6 : b.length ≤ 6) (hj : j < 2) :
    ∃ y w' z, Nm y ∧ B__law_names_1 (N5 l S.length b (some (.int (j : Nat))) w) (Wl (S ++ [.lst (us.map MV.str)]) l x) = .ok (.next (N5 l S.length b (some (.int (j : Nat))) w')) (Wl (S ++ [.lst ((us ++ [y]).map MV.str)]) l z) := by
  have hl2 : l < (S ++ [MO.lst (us.map MV.str)]).length := by rw [List.length_append]; omega
  obtain ⟨y, z, hy, hc⟩ := word_ok (S := S ++ [.lst (us.map MV.str)]) (l := l) (x := x) hl2
  have hS : (Wl (S ++ [.lst (us.map MV.str)]) l z)[S.length]? = some (.lst (us.map MV.str)) := wl_last hl z _
  have e1 : B__law_names_1_1 (N5 l S.length b (some (.int (j : Nat))) w) (Wl (S ++ [.lst (us.map MV.str)]) l x) = .ok (.next (N5 l S.length b (some (.int (j : Nat))) (some (.str y)))) (Wl (S ++ [.lst (us.map MV.str)]) l z) := by
    unfold B__law_names_1_1
    simp? [hc]
  have e2 : ∃ y', Nm y' ∧ B__law_names_1_2 (N5 l S.length b (some (.int (j : Nat))) (some (.str y))) (Wl (S ++ [.lst (us.map MV.str)]) l z) = .ok (.next (N5 l S.length b (some (.int (j : Nat))) (some (.str y')))) (Wl (S ++ [.lst (us.map MV.str)]) l z) := by
    obtain ⟨r, hr, hk⟩ : ∃ r, Nm r ∧ atI [MV.str ([98] ++ b), .str ([98] ++ b ++ [97])] (j : Int) = some (.str r) := by
      rcases two_at (p := MV.str ([98] ++ b)) (q := .str ([98] ++ b ++ [97])) hj with h | h
      · exact ⟨_, nm_cons hb h6, h⟩
      · exact ⟨_, nm_snoc (nm_cons hb h6) (by simp only [List.length_append, List.length_singleton]; omega), h⟩
    have e : B__law_names_1_2 (N5 l S.length b (some (.int (j : Nat))) (some (.str y))) (Wl (S ++ [.lst (us.map MV.str)]) l z) = if decide (MV.str y ∈ us.map MV.str) = true then .ok (.next (N5 l S.length b (some (.int (j : Nat))) (some (.str r)))) (Wl (S ++ [.lst (us.map MV.str)]) l z) else .ok (.next (N5 l S.length b (some (.int (j : Nat))) (some (.str y)))) (Wl (S ++ [.lst (us.map MV.str)]) l z) := by
      unfold B__law_names_1_2
      simp? [in_pure false hS (pd_str y) (fun d hd => by obtain ⟨u, _, rfl⟩ := List.mem_map.mp hd; exact ⟨pd_str u, by rw [dpt_str]; decide⟩), adds (x := [98]) (y := b) (by simp only [List.length_singleton]; omega), adds (x := [98] ++ b) (y := [97]) (by simp only [List.length_append, List.length_singleton]; omega), ix_new (S := Wl (S ++ [.lst (us.map MV.str)]) l z) hk, Bool.false_eq_true, if_false]
    by_cases h : MV.str y ∈ us.map MV.str
    · rw [decide_eq_true h, if_pos rfl] at e
      exact ⟨r, hr, e⟩
    · rw [decide_eq_false h, if_neg Bool.false_ne_true] at e
      exact ⟨y, hy, e⟩
  obtain ⟨y', hy', e2⟩ := e2
  have e3 : B__law_names_1_3 (N5 l S.length b (some (.int (j : Nat))) (some (.str y'))) (Wl (S ++ [.lst (us.map MV.str)]) l z) = .ok (.next (N5 l S.length b (some (.int (j : Nat))) (some (.str y')))) (Wl (S ++ [.lst ((us ++ [y']).map MV.str)]) l z) := by
    unfold B__law_names_1_3
    simp? [isl_loc hS, app_loc hS (show (us.map MV.str).length < 1000000 by rw [List.length_map]; omega), wl_put hl]
    rw [List.map_append]
    rfl
  refine ⟨y', some (.str y'), z, hy', ?_⟩
  unfold B__law_names_1
  rw [seq_next e1, seq_next e2, e3]
theorem names_ok (t : Int) (S : Sto) : ∃ ys : List (List Nat), ys.length = 3 ∧ (∀ y ∈ ys, Nm y) ∧ callF 1 f__law_names [.new [.int t]] S = .ok (.new (ys.map MV.str)) S := by
  have hlS : S.length < (S ++ [MO.lst []]).length := by rw [List.length_append]; exact Nat.lt_succ_self _
  have hs : startR ["_law_well", "_law_base", "_law_names_here", "_law_k", "_law_name"] [.loc S.length] = [some (.loc S.length), none, none, none, none] := rfl
  obtain ⟨w, z, hw, hc⟩ := word_ok (S := S ++ [.lst []]) (l := S.length) (x := t) hlS
  have hb : Nm (w.take 6) := ⟨by have := hw.1; rw [List.length_take]; omega, by rw [List.length_take]; omega, fun c h => hw.2.2 c (List.mem_of_mem_take h)⟩
  have h6 : (w.take 6).length ≤ 6 := by rw [List.length_take]; exact Nat.min_le_left _ _
  have c1 : cutL w none (some 6) = w.take 6 := cutL_to _ _ (by decide)
  have e1 : F__law_names_1 [some (.loc S.length), none, none, none, none] (Wl (S ++ [.lst []]) S.length t) = .ok (.next [some (.loc S.length), some (.str (w.take 6)), none, none, none]) (Wl (S ++ [.lst []]) S.length z) := by
    unfold F__law_names_1
    simp? [hc, cut_str (S := Wl (S ++ [.lst []]) S.length z) (fits (show w.length ≤ 1000000 by have := hw.2.1; omega)), c1]
  generalize w.take 6 = b at hb h6 e1
  have e2 : F__law_names_2 [some (.loc S.length), some (.str b), none, none, none] (Wl (S ++ [.lst []]) S.length z) = if decide (z % 2 = 0) = true then .ok (.ret (.new [.str b, .str (b ++ [97]), .str ([98] ++ b)])) (Wl (S ++ [.lst []]) S.length (z / 2)) else .ok (.next [some (.loc S.length), some (.str b), none, none, none]) (Wl (S ++ [.lst []]) S.length (z / 2)) := by
    unfold F__law_names_2
    simp? [take_ok hlS (show (0 : Int) < 2 by decide) (by decide), adds (x := b) (y := [97]) (by simp only [List.length_singleton]; omega), adds (x := [98]) (y := b) (by simp only [List.length_singleton]; omega)]
  have lo3 : ∀ ys : List (List Nat), loL S.length (ys.map MV.str) := fun ys => loL_of fun d hd => by obtain ⟨u, _, rfl⟩ := List.mem_map.mp hd; exact lo_str _ _
  by_cases h : z % 2 = 0
  · rw [decide_eq_true h, if_pos rfl] at e2
    have hF : f__law_names [.loc S.length] (S ++ [.lst [.int t]]) = .ok (.new ([b, b ++ [97], [98] ++ b].map MV.str)) (S ++ [.lst [.int (z / 2)]]) := by
      rw [wl_in, wl_in]
      unfold f__law_names F__law_names
      rw [hs, seq_next e1, seq_ret e2]
      rfl
    refine ⟨[b, b ++ [97], [98] ++ b], rfl, fun y hy => ?_, call_own rfl (show enterA [.new [.int t]] S = ([.loc S.length], S ++ [.lst [.int t]]) from rfl) hF (.inl rfl) (lo3 _)⟩
    simp only [List.mem_cons, List.not_mem_nil, or_false] at hy
    rcases hy with rfl | rfl | rfl
    · exact hb
    · exact nm_snoc hb (by omega)
    · exact nm_cons hb h6
  · rw [decide_eq_false h, if_neg Bool.false_ne_true] at e2
    have e3 : F__law_names_3 [some (.loc S.length), some (.str b), none, none, none] (Wl (S ++ [.lst []]) S.length (z / 2)) = .ok (.next (N5 S.length (S.length + 1) b none none)) (Wl (S ++ [.lst []] ++ [.lst ([b].map MV.str)]) S.length (z / 2)) := by
      unfold F__law_names_3
      simp? [wl_len, wl_app hlS]
      rw [List.length_append]
      rfl
    obtain ⟨ρ', S', e, ys, z', k', w', hρ, hS', hY, h1⟩ := for_ix (L := (List.range 2).map fun k => MV.int (k : Nat)) (gf := gNm 3) (body := B__law_names_1) (gs := []) (S := Wl (S ++ [.lst []] ++ [.lst ([b].map MV.str)]) S.length (z / 2)) (ρ := N5 S.length (S.length + 1) b none none)
      (fun i ρ S' => ∃ (ys : List (List Nat)) (z : Int) (k' w' : Option MV), ρ = N5 S.length (S.length + 1) b k' w' ∧ S' = Wl (S ++ [.lst []] ++ [.lst (ys.map MV.str)]) S.length z ∧ (∀ y ∈ ys, Nm y) ∧ ys.length = i + 1) (fun i d hi ρ S1 ⟨ys, z, k', w', hρ, hS1, hY, h1⟩ => by
        subst hρ hS1
        have hil : i < 2 := (List.getElem?_eq_some_iff.mp hi).1
        obtain ⟨j, hj, rfl⟩ := List.mem_map.mp (List.mem_of_getElem? hi)
        rw [List.mem_range] at hj
        obtain ⟨y, w2, z2, hy, hbt⟩ := nm_turn (S := S ++ [.lst []]) (l := S.length) (x := z) (b := b) (us := ys) (j := j) (w := w') hlS (by omega) hb h6 hj
        rw [List.length_append] at hbt
        refine ⟨N5 S.length (S.length + 1) b (some (.int (j : Nat))) w2, _, ?_, stay0 _, ys ++ [y], z2, some (.int (j : Nat)), w2, rfl, rfl, fun q hq => ?_, by rw [List.length_append, h1]; rfl⟩
        · rw [show gNm 3 (.int (j : Nat)) (N5 S.length (S.length + 1) b k' w') (Wl (S ++ [.lst []] ++ [.lst (ys.map MV.str)]) S.length z) = .ok (N5 S.length (S.length + 1) b (some (.int (j : Nat))) w') (Wl (S ++ [.lst []] ++ [.lst (ys.map MV.str)]) S.length z) from rfl, bok]
          exact hbt
        · rcases List.mem_append.mp hq with h | h
          · exact hY q h
          · rw [List.mem_singleton.mp h]; exact hy) ⟨[b], z / 2, none, none, rfl, rfl, fun y hy => by rw [List.mem_singleton.mp hy]; exact hb, rfl⟩
    subst hρ hS'
    have e4 : F__law_names_4 (N5 S.length (S.length + 1) b none none) (Wl (S ++ [.lst []] ++ [.lst ([b].map MV.str)]) S.length (z / 2)) = .ok (.next (N5 S.length (S.length + 1) b k' w')) (Wl (S ++ [.lst []] ++ [.lst (ys.map MV.str)]) S.length z') := by
      unfold F__law_names_4
      simp? [rng_ok (S := Wl (S ++ [.lst []] ++ [.lst ([b].map MV.str)]) S.length (z / 2)) (j := 2) (by decide)]
      exact e
    have e5 : F__law_names_5 (N5 S.length (S.length + 1) b k' w') (Wl (S ++ [.lst []] ++ [.lst (ys.map MV.str)]) S.length z') = .ok (.ret (.val (.loc (S.length + 1)))) (Wl (S ++ [.lst []] ++ [.lst (ys.map MV.str)]) S.length z') := by
      unfold F__law_names_5
      simp? [bok]
    have hF : f__law_names [.loc S.length] (S ++ [.lst [.int t]]) = .ok (.val (.loc (S.length + 1))) (S ++ [.lst [.int z'], .lst (ys.map MV.str)]) := by
      rw [wl_in]
      unfold f__law_names F__law_names
      rw [hs, seq_next e1, seq_next e2, seq_next e3, seq_next e4, e5]
      show R.ok _ _ = _
      congr 1
      rw [← wl_app hlS, ← wl_in, List.append_assoc]
      rfl
    exact ⟨ys, h1, hY, call_own rfl (show enterA [.new [.int t]] S = ([.loc S.length], S ++ [.lst [.int t]]) from rfl) hF (.inr ⟨_, rfl, Nat.le_succ _, snd_at S _ _⟩) (lo3 _)⟩
abbrev VAR : List Nat := [118, 97, 114]
abbrev IS : List Nat := [105, 115]
def TmOk (d : MV) : Prop := (∃ x, Nm x ∧ d = .tup [.str VAR, .str x]) ∨ ∃ v, Vl v ∧ d = .tup [.str IS, v]
def AtOk (ts : List (Int × Int)) (a : MV) : Prop := ∃ (t : Int) (tms : List MV) (p : Int × Int), a = .tup [.int t, .tup tms] ∧ 0 ≤ t ∧ t < ts.length ∧ atI (ts.map tbl) t = some (tbl p) ∧ (tms.length : Int) = p.1 ∧ 1 ≤ p.1 ∧ p.1 ≤ 3 ∧ ∀ d ∈ tms, TmOk d
mutual
theorem pd_lo {n : Nat} : ∀ {d : MV}, pd d = true → lo n d
  | .int i, _ => lo_int n i
  | .str x, _ => lo_str n x
  | .tup ds, h => lo_tup (pdL_lo (by rw [pd_tup] at h; exact h))
  | .non, _ => lo_non n
  | .bl b, _ => lo_bl n b
  | .scr ds, h => by unfold pd at h; cases h
  | .loc l, h => by unfold pd at h; cases h
  | .typ t, h => by unfold pd at h; cases h
theorem pdL_lo {n : Nat} : ∀ {ds : List MV}, pdL ds = true → loL n ds
  | [], _ => loL_of fun d hd => by simp at hd
  | d :: ds, h => by
    rw [pdL_cons, Bool.and_eq_true] at h
    unfold loL
    exact ⟨pd_lo h.1, pdL_lo h.2⟩
end
theorem tm_pd {d : MV} (h : TmOk d) : pd d = true ∧ dpt d ≤ 1 := by
  rcases h with ⟨x, _, rfl⟩ | ⟨v, hv, rfl⟩
  · exact ⟨by rw [pd_tup, pdL_cons, pdL_cons, pdL_nil, pd_str, pd_str]; rfl, by rw [dpt_tup, dptL_cons, dptL_cons, dptL_nil, dpt_str, dpt_str]; decide⟩
  · rcases hv.cases with ⟨i, rfl, _⟩ | ⟨x, rfl, _⟩
    · exact ⟨by rw [pd_tup, pdL_cons, pdL_cons, pdL_nil, pd_str, pd_int]; rfl, by rw [dpt_tup, dptL_cons, dptL_cons, dptL_nil, dpt_str, dpt_int]; decide⟩
    · exact ⟨by rw [pd_tup, pdL_cons, pdL_cons, pdL_nil, pd_str, pd_str]; rfl, by rw [dpt_tup, dptL_cons, dptL_cons, dptL_nil, dpt_str, dpt_str]; decide⟩
theorem at_pd {ts : List (Int × Int)} {a : MV} (h : AtOk ts a) : pd a = true ∧ dpt a ≤ 3 := by
  obtain ⟨t, tms, p, rfl, _, _, _, _, _, _, hT⟩ := h
  have h1 : pdL tms = true := pdL_all fun d hd => (tm_pd (hT d hd)).1
  have h2 : dptL tms ≤ 1 := dptL_le fun d hd => (tm_pd (hT d hd)).2
  refine ⟨by rw [pd_tup, pdL_cons, pdL_cons, pdL_nil, pd_int, pd_tup, h1]; rfl, ?_⟩
  rw [dpt_tup, dptL_cons, dptL_cons, dptL_nil, dpt_int, dpt_tup]
  omega
section
variable {S : Sto} {l p q : Nat} {x : Int} {vs : List MV} {ys : List (List Nat)} {ts : List (Int × Int)}
theorem term_ok (hl : l < S.length) (np : l ≠ p) (nq : l ≠ q) (hp : S[p]? = some (.lst vs)) (hq : S[q]? = some (.lst (ys.map MV.str))) (hV : ∀ d ∈ vs, Vl d) (h1 : 1 ≤ vs.length) (h2 : vs.length ≤ 4) (hy3 : ys.length = 3) (hN : ∀ y ∈ ys, Nm y) :
    ∃ tm z, TmOk tm ∧ callF 3 f__law_term [.val (.loc l), .val (.loc q), .val (.loc p)] (Wl S l x) = .ok (.val tm) (Wl S l z) := by
  have hs : startR ["_law_well", "_law_names_here", "_law_pool_here"] [.loc l, .loc q, .loc p] = [some (.loc l), some (.loc q), some (.loc p)] := rfl
  have gp : ∀ z, (Wl S l z)[p]? = some (.lst vs) := fun z => (wl_ne np z).trans hp
  have gq : ∀ z, (Wl S l z)[q]? = some (.lst (ys.map MV.str)) := fun z => (wl_ne nq z).trans hq
  have v0 : (0 : Int) < (vs.length : Int) := by omega
  obtain ⟨v, hv⟩ := atI_pos (xs := vs) (i := x / 4 % (vs.length : Int)) (Int.emod_nonneg _ (by omega)) (Int.emod_lt_of_pos _ v0)
  obtain ⟨d, hd⟩ := atI_pos (xs := ys.map MV.str) (i := x / 4 % (((ys.map MV.str).length : Nat) : Int)) (Int.emod_nonneg _ (by rw [List.length_map, hy3]; decide)) (Int.emod_lt_of_pos _ (by rw [List.length_map, hy3]; decide))
  obtain ⟨y, hy, rfl⟩ : ∃ y, Nm y ∧ d = .str y := atI_all (P := fun d => ∃ y, Nm y ∧ d = .str y) (fun e he => by obtain ⟨u, hu, rfl⟩ := List.mem_map.mp he; exact ⟨u, hN u hu, rfl⟩) hd
  have e1 : F__law_term_1 [some (.loc l), some (.loc q), some (.loc p)] (Wl S l x) = if decide (x % 4 = 0) = true then .ok (.ret (.val (.tup [.str IS, v]))) (Wl S l (x / 4 / (vs.length : Int))) else .ok (.next [some (.loc l), some (.loc q), some (.loc p)]) (Wl S l (x / 4)) := by
    unfold F__law_term_1
    simp? [take_ok (x := x) hl (show (0 : Int) < 4 by decide) (by decide), len_loc (gp (x / 4)), take_ok (x := x / 4) (n := (vs.length : Int)) hl v0 (by omega), ix_loc (gp (x / 4 / (vs.length : Int))) hv]
  have e2 : F__law_term_2 [some (.loc l), some (.loc q), some (.loc p)] (Wl S l (x / 4)) = .ok (.ret (.val (.tup [.str VAR, .str y]))) (Wl S l (x / 4 / (((ys.map MV.str).length : Nat) : Int))) := by
    unfold F__law_term_2
    simp? [len_loc (gq (x / 4)), take_ok (x := x / 4) (n := (((ys.map MV.str).length : Nat) : Int)) hl (by rw [List.length_map, hy3]; decide) (by rw [List.length_map, hy3]; decide), ix_loc (gq (x / 4 / (((ys.map MV.str).length : Nat) : Int))) hd]
  by_cases h : x % 4 = 0
  · rw [decide_eq_true h, if_pos rfl] at e1
    have ok : TmOk (.tup [.str IS, v]) := .inr ⟨v, atI_all hV hv, rfl⟩
    refine ⟨_, x / 4 / (vs.length : Int), ok, call_wl (T := []) rfl ?_ (pd_lo (tm_pd ok).1) (fun l => by simp)⟩
    show f__law_term [.loc l, .loc q, .loc p] (Wl S l x) = _
    unfold f__law_term F__law_term
    rw [hs, seq_ret e1, List.append_nil]
    rfl
  · rw [decide_eq_false h, if_neg Bool.false_ne_true] at e1
    have ok : TmOk (.tup [.str VAR, .str y]) := .inl ⟨y, hy, rfl⟩
    refine ⟨_, x / 4 / (((ys.map MV.str).length : Nat) : Int), ok, call_wl (T := []) rfl ?_ (pd_lo (tm_pd ok).1) (fun l => by simp)⟩
    show f__law_term [.loc l, .loc q, .loc p] (Wl S l x) = _
    unfold f__law_term F__law_term
    rw [hs, seq_next e1, e2, List.append_nil]
    rfl
theorem terms_ok (hl : l < S.length) (np : l ≠ p) (nq : l ≠ q) (hp : S[p]? = some (.lst vs)) (hq : S[q]? = some (.lst (ys.map MV.str))) (hV : ∀ d ∈ vs, Vl d) (h1 : 1 ≤ vs.length) (h2 : vs.length ≤ 4) (hy3 : ys.length = 3) (hN : ∀ y ∈ ys, Nm y) :
    ∀ (L : List MV) (x : Int), ∃ out z, out.length = L.length ∧ (∀ d ∈ out, TmOk d) ∧ compF (gNm 0) C__law_atoms_2_c C__law_atoms_2_e [none, some (.loc l), some (.loc q), some (.loc p)] [] L (Wl S l x) = .ok out (Wl S l z)
  | [], x => ⟨[], x, rfl, by simp, rfl⟩
  | d :: L, x => by
    obtain ⟨tm, z1, htm, hc⟩ := term_ok (x := x) hl np nq hp hq hV h1 h2 hy3 hN
    obtain ⟨out, z, hlen, hT, ih⟩ := terms_ok hl np nq hp hq hV h1 h2 hy3 hN L z1
    refine ⟨tm :: out, z, by rw [List.length_cons, List.length_cons, hlen], fun e he => (List.mem_cons.mp he).elim (fun z => z ▸ htm) (hT e), ?_⟩
    have g : gNm 0 d [none, some (.loc l), some (.loc q), some (.loc p)] (Wl S l x) = .ok [some d, some (.loc l), some (.loc q), some (.loc p)] (Wl S l x) := rfl
    have c : C__law_atoms_2_c [some d, some (.loc l), some (.loc q), some (.loc p)] (Wl S l x) = .ok true (Wl S l x) := rfl
    have e : C__law_atoms_2_e [some d, some (.loc l), some (.loc q), some (.loc p)] (Wl S l x) = .ok (.val tm) (Wl S l z1) := by
      unfold C__law_atoms_2_e
      simp? [hc]
    unfold compF
    rw [g, noX_ok, bok, c, noX_ok, bok, if_pos rfl, e, noX_ok, bok]
    unfold enter1
    rw [bok, if_pos (stay0 _), ih]
    rfl
abbrev A8 (l p q m : Nat) (tt : MV) (k t : Option MV) : Rho := [some (.loc l), some tt, some (.loc q), some (.loc p), some (.int 1), some (.loc m), k, t]
theorem atoms_ok (t : Int) (hp : S[p]? = some (.lst vs)) (hq : S[q]? = some (.lst (ys.map MV.str))) (hV : ∀ d ∈ vs, Vl d) (h1 : 1 ≤ vs.length) (h2 : vs.length ≤ 4) (hy3 : ys.length = 3) (hN : ∀ y ∈ ys, Nm y) (hT : TOk ts) :
    ∃ a, AtOk ts a ∧ callF 5 f__law_atoms [.new [.int t], .val (.tup (ts.map tbl)), .val (.loc q), .val (.loc p), .val (.int 1)] S = .ok (.new [a]) S := by
  have hlS : S.length < (S ++ [MO.lst []]).length := by rw [List.length_append]; exact Nat.lt_succ_self _
  have hl3 : S.length < (S ++ [MO.lst []] ++ [MO.lst []]).length := by simp only [List.length_append, List.length_cons, List.length_nil]; omega
  have np : S.length ≠ p := Nat.ne_of_gt (List.getElem?_eq_some_iff.mp hp).1
  have nq : S.length ≠ q := Nat.ne_of_gt (List.getElem?_eq_some_iff.mp hq).1
  have hp3 : (S ++ [MO.lst []] ++ [MO.lst []])[p]? = some (.lst vs) := by
    rw [List.append_assoc, List.getElem?_append_left (List.getElem?_eq_some_iff.mp hp).1]; exact hp
  have hq3 : (S ++ [MO.lst []] ++ [MO.lst []])[q]? = some (.lst (ys.map MV.str)) := by
    rw [List.append_assoc, List.getElem?_append_left (List.getElem?_eq_some_iff.mp hq).1]; exact hq
  have tl : (((ts.map tbl).length : Nat) : Int) = ts.length := by rw [List.length_map]
  have t0 : (0 : Int) < (((ts.map tbl).length : Nat) : Int) := by have := hT.1; omega
  have t1 : (((ts.map tbl).length : Nat) : Int) < 1073741824 := by have := hT.2.1; omega
  have i0 : 0 ≤ t % (((ts.map tbl).length : Nat) : Int) := Int.emod_nonneg _ (by omega)
  have i1 : t % (((ts.map tbl).length : Nat) : Int) < (((ts.map tbl).length : Nat) : Int) := Int.emod_lt_of_pos _ t0
  obtain ⟨d, hd⟩ := atI_pos (xs := ts.map tbl) (i := t % (((ts.map tbl).length : Nat) : Int)) i0 i1
  obtain ⟨pp, hpp, rfl⟩ : ∃ pp, (1 ≤ pp.1 ∧ pp.1 ≤ 3 ∧ 0 ≤ pp.2 ∧ pp.2 ≤ pp.1) ∧ d = tbl pp := atI_all (P := fun d => ∃ pp, (1 ≤ pp.1 ∧ pp.1 ≤ 3 ∧ 0 ≤ pp.2 ∧ pp.2 ≤ pp.1) ∧ d = tbl pp) (fun e he => by obtain ⟨u, hu, rfl⟩ := List.mem_map.mp he; exact ⟨u, hT.2.2 u hu, rfl⟩) hd
  generalize hi : t % (((ts.map tbl).length : Nat) : Int) = i at i0 i1 hd
  obtain ⟨out, z, hlen, hTm, hcomp⟩ := terms_ok hl3 np nq hp3 hq3 hV h1 h2 hy3 hN ((List.range pp.1.toNat).map fun k => MV.int (k : Nat)) (t / (((ts.map tbl).length : Nat) : Int))
  rw [List.length_map, List.length_range] at hlen
  have ok : AtOk ts (.tup [.int i, .tup out]) := ⟨i, out, pp, rfl, i0, by omega, hd, by omega, hpp.1, hpp.2.1, hTm⟩
  have hs : startR ["_law_well", "_law_tables_here", "_law_names_here", "_law_pool_here", "_law_many", "_law_atoms_here", "_law_k", "_law_t"] [.loc S.length, .tup (ts.map tbl), .loc q, .loc p, .int 1] = [some (.loc S.length), some (.tup (ts.map tbl)), some (.loc q), some (.loc p), some (.int 1), none, none, none] := rfl
  have e1 : F__law_atoms_1 [some (.loc S.length), some (.tup (ts.map tbl)), some (.loc q), some (.loc p), some (.int 1), none, none, none] (Wl (S ++ [.lst []]) S.length t) = .ok (.next (A8 S.length p q (S.length + 1) (.tup (ts.map tbl)) none none)) (Wl (S ++ [.lst []] ++ [.lst []]) S.length t) := by
    unfold F__law_atoms_1
    simp? [wl_len, wl_app hlS]
    rw [List.length_append]
    rfl
  have b1 : B__law_atoms_1_1 (A8 S.length p q (S.length + 1) (.tup (ts.map tbl)) (some (.int 0)) none) (Wl (S ++ [.lst []] ++ [.lst []]) S.length t) = .ok (.next (A8 S.length p q (S.length + 1) (.tup (ts.map tbl)) (some (.int 0)) (some (.int i)))) (Wl (S ++ [.lst []] ++ [.lst []]) S.length (t / (((ts.map tbl).length : Nat) : Int))) := by
    unfold B__law_atoms_1_1
    simp? [len_tup, take_ok (x := t) hl3 t0 t1, hi]
  have lastS : ∀ z, (Wl (S ++ [MO.lst []] ++ [MO.lst []]) S.length z)[S.length + 1]? = some (.lst []) := fun z => by
    have := wl_last (S := S ++ [MO.lst []]) (l := S.length) hlS z (.lst [])
    rw [List.length_append] at this
    exact this
  have put : ∀ z o, (Wl (S ++ [MO.lst []] ++ [MO.lst []]) S.length z).set (S.length + 1) o = Wl (S ++ [MO.lst []] ++ [o]) S.length z := fun z o => by
    have := wl_put (S := S ++ [MO.lst []]) (l := S.length) hlS z (.lst []) o
    rw [List.length_append] at this
    exact this
  have rn : ∀ S : Sto, rng1F [.val (.int pp.1)] S = .ok ⟨(List.range pp.1.toNat).map fun k => .int (k : Nat), []⟩ S := fun S => rng_ok (by have := hpp.1; have := hpp.2.1; omega)
  have hrl : ((List.range pp.1.toNat).map fun k => MV.int (k : Nat)).length < 1000000 := by rw [List.length_map, List.length_range]; omega
  have ti : ∀ S : Sto, ixF (.val (tbl pp)) (.val (.int 0)) S = .ok (.val (.int pp.1)) S := fun S => rfl
  have tn : ∀ (o : List MV) (S : Sto), tupleF [.new o] S = .ok (.val (.tup o)) S := fun o S => rfl
  have b2 : B__law_atoms_1_2 (A8 S.length p q (S.length + 1) (.tup (ts.map tbl)) (some (.int 0)) (some (.int i))) (Wl (S ++ [.lst []] ++ [.lst []]) S.length (t / (((ts.map tbl).length : Nat) : Int))) = .ok (.next (A8 S.length p q (S.length + 1) (.tup (ts.map tbl)) (some (.int 0)) (some (.int i)))) (Wl (S ++ [.lst []] ++ [.lst [.tup [.int i, .tup out]]]) S.length z) := by
    unfold B__law_atoms_1_2
    simp? [isl_loc (lastS (t / (((ts.map tbl).length : Nat) : Int))), ix_tup (S := Wl (S ++ [.lst []] ++ [.lst []]) S.length (t / (((ts.map tbl).length : Nat) : Int))) hd, ti, rn, hrl, show blk 1 [0, 2, 3] (A8 S.length p q (S.length + 1) (.tup (ts.map tbl)) (some (.int 0)) (some (.int i))) = [none, some (.loc S.length), some (.loc q), some (.loc p)] from rfl, hcomp, tn, app_loc (lastS z) (show ([] : List MV).length < 1000000 by decide), put, List.nil_append]
  have e2 : F__law_atoms_2 (A8 S.length p q (S.length + 1) (.tup (ts.map tbl)) none none) (Wl (S ++ [.lst []] ++ [.lst []]) S.length t) = .ok (.next (A8 S.length p q (S.length + 1) (.tup (ts.map tbl)) (some (.int 0)) (some (.int i)))) (Wl (S ++ [.lst []] ++ [.lst [.tup [.int i, .tup out]]]) S.length z) := by
    unfold F__law_atoms_2
    simp? [rng_ok (S := Wl (S ++ [.lst []] ++ [.lst []]) S.length t) (j := 1) (by decide)]
    show forF (gNm 6) B__law_atoms_1 [] [.int 0] (A8 S.length p q (S.length + 1) (.tup (ts.map tbl)) none none) _ = _
    rw [for_next (show gNm 6 (.int 0) (A8 S.length p q (S.length + 1) (.tup (ts.map tbl)) none none) (Wl (S ++ [.lst []] ++ [.lst []]) S.length t) = .ok (A8 S.length p q (S.length + 1) (.tup (ts.map tbl)) (some (.int 0)) none) (Wl (S ++ [.lst []] ++ [.lst []]) S.length t) from rfl) (by unfold B__law_atoms_1; rw [seq_next b1, b2]) (stay0 _)]
    rfl
  have e3 : F__law_atoms_3 (A8 S.length p q (S.length + 1) (.tup (ts.map tbl)) (some (.int 0)) (some (.int i))) (Wl (S ++ [.lst []] ++ [.lst [.tup [.int i, .tup out]]]) S.length z) = .ok (.ret (.val (.loc (S.length + 1)))) (Wl (S ++ [.lst []] ++ [.lst [.tup [.int i, .tup out]]]) S.length z) := by
    unfold F__law_atoms_3
    simp? [bok]
  have hF : f__law_atoms [.loc S.length, .tup (ts.map tbl), .loc q, .loc p, .int 1] (S ++ [.lst [.int t]]) = .ok (.val (.loc (S.length + 1))) (S ++ [.lst [.int z], .lst [.tup [.int i, .tup out]]]) := by
    rw [wl_in]
    unfold f__law_atoms F__law_atoms
    rw [hs, seq_next e1, seq_next e2, e3]
    show R.ok _ _ = _
    congr 1
    rw [← wl_app hlS, ← wl_in, List.append_assoc]
    rfl
  exact ⟨_, ok, call_own rfl (show enterA [.new [.int t], .val (.tup (ts.map tbl)), .val (.loc q), .val (.loc p), .val (.int 1)] S = ([.loc S.length, .tup (ts.map tbl), .loc q, .loc p, .int 1], S ++ [.lst [.int t]]) from rfl) hF (.inr ⟨_, rfl, Nat.le_succ _, snd_at S _ _⟩) (loL_of fun d hd => by rw [List.mem_singleton.mp hd]; exact pd_lo (at_pd ok).1)⟩
end
def vn : MV → Option (List Nat)
  | .tup [.str w, .str x] => if w = VAR then some x else none
  | _ => none
def tmsOf : MV → List MV
  | .tup [_, .tup tms] => tms
  | _ => []
def allN (as : List MV) : List (List Nat) := as.flatMap fun a => (tmsOf a).filterMap vn
theorem vn_var (x : List Nat) : vn (.tup [.str VAR, .str x]) = some x := by simp [vn]
abbrev N6 (a m : Nat) (t u w n : Option MV) : Rho := [some (.loc a), some (.loc m), t, u, w, n]
theorem eq_vv (S : Sto) : eqF (.val (.str VAR)) (.val (.str VAR)) S = .ok (.val (.bl true)) S := by rw [eq_str, decide_eq_true rfl]
theorem eq_iv (S : Sto) : eqF (.val (.str IS)) (.val (.str VAR)) S = .ok (.val (.bl false)) S := by rw [eq_str, decide_eq_false (by decide)]
theorem eq_ii (S : Sto) : eqF (.val (.str IS)) (.val (.str IS)) S = .ok (.val (.bl true)) S := by rw [eq_str, decide_eq_true rfl]
theorem last_at (S : Sto) (o : MO) : (S ++ [o])[S.length]? = some o := by simp
theorem last_set (S : Sto) (o o' : MO) : (S ++ [o]).set S.length o' = S ++ [o'] := by simp
theorem strs_pd {fs : List (List Nat)} : ∀ y ∈ fs.map MV.str, pd y = true ∧ dpt y < 40 := fun d hd => by obtain ⟨u, _, rfl⟩ := List.mem_map.mp hd; exact ⟨pd_str u, by rw [dpt_str]; decide⟩
theorem str_mem {x : List Nat} {fs : List (List Nat)} : MV.str x ∈ fs.map MV.str ↔ x ∈ fs := ⟨fun h => by obtain ⟨u, hu, e⟩ := List.mem_map.mp h; cases e; exact hu, fun h => List.mem_map.mpr ⟨x, h, rfl⟩⟩
theorem nin_turn {S : Sto} {a : Nat} {t u w n : Option MV} {d : MV} {fs : List (List Nat)} (hd : TmOk d) (hn : fs.Nodup) (hl : fs.length < 1000) :
    ∃ (fs' : List (List Nat)) (w' n' : Option MV), fs'.Nodup ∧ fs'.length ≤ fs.length + 1 ∧ (∀ x ∈ fs', x ∈ fs ∨ vn d = some x) ∧ ((gTp 2 (gsCons (gNm 4) (gsCons (gNm 5) gsNil)) d (N6 a S.length t u w n) (S ++ [.lst (fs.map MV.str)])).bind fun ρ0 S0 => B__law_names_in_2 ρ0 S0) = .ok (.next (N6 a S.length t u w' n')) (S ++ [.lst (fs'.map MV.str)]) := by
  have hS := last_at S (.lst (fs.map MV.str))
  rcases hd with ⟨x, hx, rfl⟩ | ⟨v, hv, rfl⟩
  · rw [show gTp 2 (gsCons (gNm 4) (gsCons (gNm 5) gsNil)) (.tup [.str VAR, .str x]) (N6 a S.length t u w n) (S ++ [.lst (fs.map MV.str)]) = .ok (N6 a S.length t u (some (.str VAR)) (some (.str x))) (S ++ [.lst (fs.map MV.str)]) from rfl, bok]
    have e : B__law_names_in_2 (N6 a S.length t u (some (.str VAR)) (some (.str x))) (S ++ [.lst (fs.map MV.str)]) = if (!decide (MV.str x ∈ fs.map MV.str)) = true then .ok (.next (N6 a S.length t u (some (.str VAR)) (some (.str x)))) (S ++ [.lst ((fs ++ [x]).map MV.str)]) else .ok (.next (N6 a S.length t u (some (.str VAR)) (some (.str x)))) (S ++ [.lst (fs.map MV.str)]) := by
      unfold B__law_names_in_2 B__law_names_in_2_1
      simp? [eq_vv, in_pure true hS (pd_str x) strs_pd, isl_loc hS, app_loc hS (show (fs.map MV.str).length < 1000000 by rw [List.length_map]; omega), last_set, List.map_append, List.map_cons, List.map_nil]
    by_cases h : MV.str x ∈ fs.map MV.str
    · rw [decide_eq_true h, Bool.not_true, if_neg Bool.false_ne_true] at e
      exact ⟨fs, _, _, hn, Nat.le_succ _, fun y hy => .inl hy, e⟩
    · rw [decide_eq_false h, Bool.not_false, if_pos rfl] at e
      refine ⟨fs ++ [x], _, _, ?_, by rw [List.length_append]; exact Nat.le_refl _, fun y hy => ?_, e⟩
      · exact List.nodup_append.mpr ⟨hn, by simp, fun y hy z hz => by rw [List.mem_singleton.mp hz]; rintro rfl; exact h (str_mem.mpr hy)⟩
      · rcases List.mem_append.mp hy with z | z
        · exact .inl z
        · rw [List.mem_singleton.mp z]; exact .inr (vn_var x)
  · rw [show gTp 2 (gsCons (gNm 4) (gsCons (gNm 5) gsNil)) (.tup [.str IS, v]) (N6 a S.length t u w n) (S ++ [.lst (fs.map MV.str)]) = .ok (N6 a S.length t u (some (.str IS)) (some v)) (S ++ [.lst (fs.map MV.str)]) from rfl, bok]
    refine ⟨fs, some (.str IS), some v, hn, Nat.le_succ _, fun y hy => .inl hy, ?_⟩
    unfold B__law_names_in_2 B__law_names_in_2_1
    simp? [eq_iv, Bool.false_eq_true, if_false]
theorem nin_terms {S : Sto} {a : Nat} {t u : Option MV} : ∀ (tms : List MV), (∀ d ∈ tms, TmOk d) → ∀ (fs : List (List Nat)) (w n : Option MV), fs.Nodup → fs.length + tms.length < 1000 →
    ∃ (fs' : List (List Nat)) (w' n' : Option MV), fs'.Nodup ∧ fs'.length ≤ fs.length + tms.length ∧ (∀ x ∈ fs', x ∈ fs ∨ x ∈ tms.filterMap vn) ∧ forF (gTp 2 (gsCons (gNm 4) (gsCons (gNm 5) gsNil))) B__law_names_in_2 [] tms (N6 a S.length t u w n) (S ++ [.lst (fs.map MV.str)]) = .ok (.next (N6 a S.length t u w' n')) (S ++ [.lst (fs'.map MV.str)])
  | [], _, fs, w, n, hn, _ => ⟨fs, w, n, hn, Nat.le_refl _, fun x hx => .inl hx, rfl⟩
  | d :: tms, hT, fs, w, n, hn, hl => by
    rw [List.length_cons] at hl
    obtain ⟨f1, w1, n1, a1, a2, a3, a4⟩ := nin_turn (S := S) (a := a) (t := t) (u := u) (w := w) (n := n) (hT d List.mem_cons_self) hn (by omega)
    obtain ⟨f2, w2, n2, b1, b2, b3, b4⟩ := nin_terms tms (fun e he => hT e (List.mem_cons_of_mem _ he)) f1 w1 n1 a1 (by omega)
    refine ⟨f2, w2, n2, b1, by rw [List.length_cons]; omega, fun x hx => ?_, ?_⟩
    · rw [List.mem_filterMap]
      rcases b3 x hx with h | h
      · rcases a3 x h with h | h
        · exact .inl h
        · exact .inr ⟨d, List.mem_cons_self, h⟩
      · obtain ⟨e, he, h⟩ := List.mem_filterMap.mp h
        exact .inr ⟨e, List.mem_cons_of_mem _ he, h⟩
    · cases z : gTp 2 (gsCons (gNm 4) (gsCons (gNm 5) gsNil)) d (N6 a S.length t u w n) (S ++ [.lst (fs.map MV.str)]) with
      | ok ρ0 S0 =>
        rw [z, bok] at a4
        rw [for_next z a4 (stay0 _)]
        exact b4
      | exc c fs S0 => rw [z] at a4; cases a4
      | no => rw [z] at a4; cases a4
theorem nin_atoms {ts : List (Int × Int)} {S : Sto} {a : Nat} {as0 : List MV} (hS : S[a]? = some (.lst as0)) : ∀ (as : List MV), (∀ d ∈ as, AtOk ts d) → ∀ (fs : List (List Nat)) (t u w n : Option MV), fs.Nodup → fs.length + 3 * as.length < 1000 →
    ∃ (fs' : List (List Nat)) (t' u' w' n' : Option MV), fs'.Nodup ∧ fs'.length ≤ fs.length + 3 * as.length ∧ (∀ x ∈ fs', x ∈ fs ∨ x ∈ allN as) ∧ forF (gTp 2 (gsCons (gNm 2) (gsCons (gNm 3) gsNil))) B__law_names_in_1 [(a, as0)] as (N6 a S.length t u w n) (S ++ [.lst (fs.map MV.str)]) = .ok (.next (N6 a S.length t' u' w' n')) (S ++ [.lst (fs'.map MV.str)])
  | [], _, fs, t, u, w, n, hn, _ => ⟨fs, t, u, w, n, hn, Nat.le_refl _, fun x hx => .inl hx, rfl⟩
  | d :: as, hA, fs, t, u, w, n, hn, hl => by
    rw [List.length_cons] at hl
    obtain ⟨ti, tms, p, rfl, _, _, _, h3, h4, h5, hT⟩ := hA d List.mem_cons_self
    obtain ⟨f1, w1, n1, a1, a2, a3, a4⟩ := nin_terms (S := S) (a := a) (t := some (.int ti)) (u := some (.tup tms)) tms hT fs w n hn (by omega)
    obtain ⟨f2, t2, u2, w2, n2, b1, b2, b3, b4⟩ := nin_atoms hS as (fun e he => hA e (List.mem_cons_of_mem _ he)) f1 (some (.int ti)) (some (.tup tms)) w1 n1 a1 (by omega)
    refine ⟨f2, t2, u2, w2, n2, b1, by rw [List.length_cons]; omega, fun x hx => ?_, ?_⟩
    · unfold allN
      rw [List.flatMap_cons, List.mem_append]
      rcases b3 x hx with h | h
      · rcases a3 x h with h | h
        · exact .inl h
        · exact .inr (.inl h)
      · exact .inr (.inr h)
    · rw [for_next (show gTp 2 (gsCons (gNm 2) (gsCons (gNm 3) gsNil)) (.tup [.int ti, .tup tms]) (N6 a S.length t u w n) (S ++ [.lst (fs.map MV.str)]) = .ok (N6 a S.length (some (.int ti)) (some (.tup tms)) w n) (S ++ [.lst (fs.map MV.str)]) from rfl) (ρ' := N6 a S.length (some (.int ti)) (some (.tup tms)) w1 n1) (S' := S ++ [.lst (f1.map MV.str)]) ?_ (stay_loc (by rw [List.getElem?_append_left (List.getElem?_eq_some_iff.mp hS).1]; exact hS))]
      · exact b4
      · unfold B__law_names_in_1 B__law_names_in_1_1
        simp? [show ∀ (ds : List MV) (S : Sto), itT (.val (.tup ds)) S = .ok ⟨ds, []⟩ S from fun ds S => rfl]
        exact a4
theorem nin_ok {ts : List (Int × Int)} {S : Sto} {a : Nat} {as : List MV} (hS : S[a]? = some (.lst as)) (hA : ∀ d ∈ as, AtOk ts d) (hl : as.length ≤ 4) :
    ∃ fs : List (List Nat), fs.Nodup ∧ fs.length ≤ 12 ∧ (∀ x ∈ fs, x ∈ allN as) ∧ callF 1 f__law_names_in [.val (.loc a)] S = .ok (.new (fs.map MV.str)) S := by
  have hs : startR ["_law_atoms_here", "_law_found", "_law_t", "_law_terms", "_law_word_here", "_law_name"] [.loc a] = [some (.loc a), none, none, none, none, none] := rfl
  have e1 : F__law_names_in_1 [some (.loc a), none, none, none, none, none] S = .ok (.next (N6 a S.length none none none none)) (S ++ [.lst []]) := by
    unfold F__law_names_in_1
    simp? [bok]
  obtain ⟨fs, t', u', w', n', h1, h2, h3, h4⟩ := nin_atoms hS as hA [] none none none none List.nodup_nil (by simp only [List.length_nil]; omega)
  have hS2 : (S ++ [MO.lst []])[a]? = some (.lst as) := by rw [List.getElem?_append_left (List.getElem?_eq_some_iff.mp hS).1]; exact hS
  have e2 : F__law_names_in_2 (N6 a S.length none none none none) (S ++ [.lst []]) = .ok (.next (N6 a S.length t' u' w' n')) (S ++ [.lst (fs.map MV.str)]) := by
    unfold F__law_names_in_2
    simp? [itL_loc hS2]
    exact h4
  have e3 : F__law_names_in_3 (N6 a S.length t' u' w' n') (S ++ [.lst (fs.map MV.str)]) = .ok (.ret (.val (.loc S.length))) (S ++ [.lst (fs.map MV.str)]) := by
    unfold F__law_names_in_3
    simp? [bok]
  have hF : f__law_names_in [.loc a] S = .ok (.val (.loc S.length)) (S ++ [.lst (fs.map MV.str)]) := by
    unfold f__law_names_in F__law_names_in
    rw [hs, seq_next e1, seq_next e2, e3]
    rfl
  exact ⟨fs, h1, by rw [List.length_nil] at h2; omega, fun x hx => (h3 x hx).elim (fun z => by simp at z) id, call_own rfl (show enterA [.val (.loc a)] S = ([.loc a], S) from rfl) hF (.inr ⟨_, rfl, Nat.le_refl _, last_at S _⟩) (loL_of fun d hd => by obtain ⟨u, _, rfl⟩ := List.mem_map.mp hd; exact lo_str _ _)⟩
theorem er_perm : ∀ (fs : List (List Nat)) (i : Nat) (h : i < fs.length), (fs[i] :: fs.eraseIdx i).Perm fs
  | _ :: _, 0, _ => List.Perm.refl _
  | c :: fs, i + 1, h => (List.Perm.swap ..).trans ((er_perm fs i (Nat.lt_of_succ_lt_succ h)).cons c)
theorem er_map : ∀ (fs : List (List Nat)) (i : Nat), (fs.map MV.str).eraseIdx i = (fs.eraseIdx i).map MV.str
  | [], _ => rfl
  | _ :: _, 0 => rfl
  | c :: fs, i + 1 => congrArg (MV.str c :: ·) (er_map fs i)
theorem ne_nil {S : Sto} {l : Nat} {ds : List MV} (hS : S[l]? = some (.lst ds)) : neF (.val (.loc l)) (.new []) S = .ok (.val (.bl (!ds.isEmpty))) S := by
  have e : vwE S (.val (.loc l)) = some (.ls ds) := by
    show (lsOf S (.val (.loc l))).map Vw.ls = _
    rw [lsOf_loc hS]; rfl
  unfold neF eqvE
  rw [e]
  cases ds with
  | nil => rfl
  | cons d ds => rfl
theorem pop_loc {S : Sto} {l : Nat} {ds : List MV} {i : Int} {d : MV} (hS : S[l]? = some (.lst ds)) (h0 : 0 ≤ i) (h1 : i < ds.length) (hl : ds.length < 1000) (hd : ds[i.toNat]? = some d) : popF (.val (.loc l)) [.val (.int i)] S = .ok (.val d) (S.set l (.lst (ds.eraseIdx i.toNat))) := by
  have hx : ixN ds.length i = some i.toNat := by
    unfold ixN
    rw [if_pos h0, if_pos h1]
  unfold popF
  dsimp only
  rw [hS]
  dsimp only
  rw [if_pos ⟨by omega, by omega⟩, hx]
  dsimp only
  rw [hd]
section
variable {S : Sto} {l : Nat} {a b : MO} {x : Int}
theorem w2_a (h : l < S.length) : (Wl (S ++ [a, b]) l x)[S.length]? = some a := by
  rw [wl_ne (Nat.ne_of_lt h)]; simp
theorem w2_b (h : l < S.length) : (Wl (S ++ [a, b]) l x)[S.length + 1]? = some b := by
  rw [wl_ne (Nat.ne_of_lt (Nat.lt_succ_of_lt h)), snd_at]
theorem w2_pa (h : l < S.length) (a' : MO) : (Wl (S ++ [a, b]) l x).set S.length a' = Wl (S ++ [a', b]) l x := by
  unfold Wl
  rw [List.set_append_left _ _ h, List.set_append_left _ _ h, List.set_append_right _ _ (by rw [List.length_set]; exact Nat.le_refl _), List.length_set, Nat.sub_self]
  rfl
theorem w2_pb (h : l < S.length) (b' : MO) : (Wl (S ++ [a, b]) l x).set (S.length + 1) b' = Wl (S ++ [a, b']) l x := by
  unfold Wl
  rw [List.set_append_left _ _ h, List.set_append_left _ _ h, List.set_append_right _ _ (by rw [List.length_set]; exact Nat.le_succ _), List.length_set, Nat.add_sub_cancel_left]
  rfl
end
abbrev H6 (l a m : Nat) (k : Option MV) : Rho := [some (.loc l), some (.loc a), some (.int 3), some (.loc m), some (.loc (m + 1)), k]
theorem head_turn {S : Sto} {l a : Nat} {x : Int} {k : Option MV} {fs hs : List (List Nat)} (hl : l < S.length) (hf : fs.length ≤ 12) (hh : hs.length < 1000) :
    ∃ (fs' hs' : List (List Nat)) (z : Int), (hs' ++ fs').Perm (hs ++ fs) ∧ hs'.length ≤ hs.length + 1 ∧ fs'.length ≤ 12 ∧ B__law_head_1 (H6 l a S.length k) (Wl (S ++ [.lst (fs.map MV.str), .lst (hs.map MV.str)]) l x) = .ok (.next (H6 l a S.length k)) (Wl (S ++ [.lst (fs'.map MV.str), .lst (hs'.map MV.str)]) l z) := by
  have hl2 : l < (S ++ [MO.lst (fs.map MV.str), MO.lst (hs.map MV.str)]).length := by rw [List.length_append]; omega
  have hA : ∀ z, (Wl (S ++ [.lst (fs.map MV.str), .lst (hs.map MV.str)]) l z)[S.length]? = some (.lst (fs.map MV.str)) := fun z => w2_a hl
  have hB : ∀ z, (Wl (S ++ [.lst (fs.map MV.str), .lst (hs.map MV.str)]) l z)[S.length + 1]? = some (.lst (hs.map MV.str)) := fun z => w2_b hl
  by_cases h : fs = []
  · subst h
    have hne : (!(([] : List (List Nat)).map MV.str).isEmpty) = false := rfl
    refine ⟨[], hs, x, List.Perm.refl _, Nat.le_succ _, by simp, ?_⟩
    unfold B__law_head_1 B__law_head_1_1
    simp? [ne_nil (hA x), hne, Bool.false_eq_true, if_false]
  · have f0 : 0 < fs.length := List.length_pos_iff.mpr h
    have m0 : (0 : Int) < (((fs.map MV.str).length : Nat) : Int) := by rw [List.length_map]; omega
    have i0 : 0 ≤ x % (((fs.map MV.str).length : Nat) : Int) := Int.emod_nonneg _ (by omega)
    have i1 : x % (((fs.map MV.str).length : Nat) : Int) < (((fs.map MV.str).length : Nat) : Int) := Int.emod_lt_of_pos _ m0
    have i2 : (x % (((fs.map MV.str).length : Nat) : Int)).toNat < fs.length := by rw [List.length_map] at i0 i1 ⊢; omega
    generalize hi : x % (((fs.map MV.str).length : Nat) : Int) = i at i0 i1 i2
    have hd : (fs.map MV.str)[i.toNat]? = some (.str fs[i.toNat]) := by rw [List.getElem?_map, List.getElem?_eq_getElem i2]; rfl
    have hne : (!(fs.map MV.str).isEmpty) = true := by
      cases fs with
      | nil => exact absurd rfl h
      | cons c r => rfl
    have he : (fs.map MV.str).eraseIdx i.toNat = (fs.eraseIdx i.toNat).map MV.str := er_map ..
    refine ⟨fs.eraseIdx i.toNat, hs ++ [fs[i.toNat]], x / (((fs.map MV.str).length : Nat) : Int), ?_, by rw [List.length_append]; exact Nat.le_refl _, Nat.le_trans (List.length_eraseIdx_le ..) hf, ?_⟩
    · rw [List.append_assoc]
      exact List.Perm.append_left hs (er_perm fs _ i2)
    · unfold B__law_head_1 B__law_head_1_1
      simp? [ne_nil (hA x), hne, isl_loc (hB x), isl_loc (hA x), len_loc (hA x), take_ok (x := x) hl2 m0 (by rw [List.length_map]; omega), hi, pop_loc (hA (x / (((fs.map MV.str).length : Nat) : Int))) i0 i1 (by rw [List.length_map]; omega) hd, he, w2_pa hl]
      rw [app_loc (w2_b hl) (by rw [List.length_map]; omega), bok, w2_pb hl, List.map_append]
      rfl
theorem head_ok {ts : List (Int × Int)} {S : Sto} {l a : Nat} {x : Int} {as : List MV} (hl : l < S.length) (hla : l ≠ a) (hS : S[a]? = some (.lst as)) (hA : ∀ d ∈ as, AtOk ts d) (h4 : as.length ≤ 4) :
    ∃ (hs : List (List Nat)) (z : Int), hs.Nodup ∧ hs.length ≤ 3 ∧ (∀ y ∈ hs, y ∈ allN as) ∧ callF 3 f__law_head [.val (.loc l), .val (.loc a), .val (.int 3)] (Wl S l x) = .ok (.new (hs.map MV.str)) (Wl S l z) := by
  have hst : startR ["_law_well", "_law_atoms_here", "_law_most", "_law_there", "_law_head_here", "_law_k"] [.loc l, .loc a, .int 3] = [some (.loc l), some (.loc a), some (.int 3), none, none, none] := rfl
  obtain ⟨fs, f1, f2, f3, hc⟩ := nin_ok (S := Wl S l x) ((wl_ne hla x).trans hS) hA h4
  have e1 : F__law_head_1 [some (.loc l), some (.loc a), some (.int 3), none, none, none] (Wl S l x) = .ok (.next [some (.loc l), some (.loc a), some (.int 3), some (.loc S.length), none, none]) (Wl (S ++ [.lst (fs.map MV.str)]) l x) := by
    unfold F__law_head_1
    simp? [hc, wl_len, wl_app hl]
  have hl1 : l < (S ++ [MO.lst (fs.map MV.str)]).length := by rw [List.length_append]; omega
  have e2 : F__law_head_2 [some (.loc l), some (.loc a), some (.int 3), some (.loc S.length), none, none] (Wl (S ++ [.lst (fs.map MV.str)]) l x) = .ok (.next (H6 l a S.length none)) (Wl (S ++ [.lst (fs.map MV.str), .lst []]) l x) := by
    unfold F__law_head_2
    simp? [wl_len, wl_app hl1]
    rw [List.length_append, List.append_assoc]
    rfl
  have hl2 : l < (S ++ [MO.lst (fs.map MV.str), MO.lst []]).length := by rw [List.length_append]; omega
  have q0 : 0 ≤ x % 4 := Int.emod_nonneg _ (by decide)
  have q1 : x % 4 < 4 := Int.emod_lt_of_pos _ (by decide)
  obtain ⟨ρ', S', e, fs', hs, z, k', hρ, hS', hp, hz, _⟩ := for_ix (L := (List.range (x % 4).toNat).map fun k => MV.int (k : Nat)) (gf := gNm 5) (body := B__law_head_1) (gs := []) (S := Wl (S ++ [.lst (fs.map MV.str), .lst []]) l (x / 4)) (ρ := H6 l a S.length none)
    (fun i ρ S' => ∃ (fs' hs : List (List Nat)) (z : Int) (k' : Option MV), ρ = H6 l a S.length k' ∧ S' = Wl (S ++ [.lst (fs'.map MV.str), .lst (hs.map MV.str)]) l z ∧ (hs ++ fs').Perm fs ∧ hs.length ≤ i ∧ fs'.length ≤ 12) (fun i d hi ρ S1 ⟨fs', hs, z, k', hρ, hS1, hp, hz, hf⟩ => by
      subst hρ hS1
      have hil : i < 4 := by have := (List.getElem?_eq_some_iff.mp hi).1; rw [List.length_map, List.length_range] at this; omega
      obtain ⟨f2, h2, z2, p2, l2, l3, hb⟩ := head_turn (S := S) (l := l) (a := a) (x := z) (k := some d) (fs := fs') (hs := hs) hl hf (by omega)
      refine ⟨H6 l a S.length (some d), _, ?_, stay0 _, f2, h2, z2, some d, rfl, rfl, p2.trans hp, by omega, l3⟩
      rw [show gNm 5 d (H6 l a S.length k') (Wl (S ++ [.lst (fs'.map MV.str), .lst (hs.map MV.str)]) l z) = .ok (H6 l a S.length (some d)) (Wl (S ++ [.lst (fs'.map MV.str), .lst (hs.map MV.str)]) l z) from rfl, bok]
      exact hb) ⟨fs, [], x / 4, none, rfl, rfl, List.Perm.refl _, Nat.le_refl _, f2⟩
  subst hρ hS'
  rw [List.length_map, List.length_range] at hz
  have e3 : F__law_head_3 (H6 l a S.length none) (Wl (S ++ [.lst (fs.map MV.str), .lst []]) l x) = .ok (.next (H6 l a S.length k')) (Wl (S ++ [.lst (fs'.map MV.str), .lst (hs.map MV.str)]) l z) := by
    unfold F__law_head_3
    simp? [show (3 : Int) + 1 = 4 from rfl, take_ok (x := x) hl2 (show (0 : Int) < 4 by decide) (by decide), rng_ok (S := Wl (S ++ [.lst (fs.map MV.str), .lst []]) l (x / 4)) (j := x % 4) (by omega)]
    exact e
  have e4 : F__law_head_4 (H6 l a S.length k') (Wl (S ++ [.lst (fs'.map MV.str), .lst (hs.map MV.str)]) l z) = .ok (.ret (.val (.loc (S.length + 1)))) (Wl (S ++ [.lst (fs'.map MV.str), .lst (hs.map MV.str)]) l z) := by
    unfold F__law_head_4
    simp? [bok]
  have nd := (hp.nodup_iff.mpr f1)
  refine ⟨hs, z, (List.nodup_append.mp nd).1, by omega, fun y hy => f3 y (hp.mem_iff.mp (List.mem_append_left _ hy)), call_wl_new (T := [.lst (fs'.map MV.str), .lst (hs.map MV.str)]) (m := S.length + 1) rfl ?_ (Nat.le_succ _) ?_ (loL_of fun d hd => by obtain ⟨u, _, rfl⟩ := List.mem_map.mp hd; exact lo_str _ _)⟩
  · show f__law_head [.loc l, .loc a, .int 3] (Wl S l x) = _
    unfold f__law_head F__law_head
    rw [hst, seq_next e1, seq_next e2, seq_next e3, e4, wl_app hl]
    rfl
  · rw [wl_app hl]
    exact w2_b hl
theorem i2_0 (a b : MV) (S : Sto) : ixF (.val (.tup [a, b])) (.val (.int 0)) S = .ok (.val a) S := rfl
theorem i2_1 (a b : MV) (S : Sto) : ixF (.val (.tup [a, b])) (.val (.int 1)) S = .ok (.val b) S := rfl
theorem c_term {d : MV} (h : TmOk d) (S : Sto) : callF 1 f_is_term [.val d] S = .ok (.val (.bl true)) S := bl_call rfl (by
  rcases h with ⟨x, hx, rfl⟩ | ⟨v, hv, rfl⟩
  · have e1 : F_is_term_1 [some (.tup [.str VAR, .str x])] S = .ok (.next [some (.tup [.str VAR, .str x])]) S := by
      unfold F_is_term_1
      simp? [c_tup2]
      rfl
    have e2 : F_is_term_2 [some (.tup [.str VAR, .str x])] S = .ok (.ret (.val (.bl true))) S := by
      unfold F_is_term_2
      simp? [i2_0, i2_1, eq_vv, c_name hx]
    show finF (F_is_term [some (.tup [.str VAR, .str x])] S) = _
    unfold F_is_term
    rw [seq_next e1, seq_ret e2]
    rfl
  · have e1 : F_is_term_1 [some (.tup [.str IS, v])] S = .ok (.next [some (.tup [.str IS, v])]) S := by
      unfold F_is_term_1
      simp? [c_tup2]
      rfl
    have e2 : F_is_term_2 [some (.tup [.str IS, v])] S = .ok (.next [some (.tup [.str IS, v])]) S := by
      unfold F_is_term_2
      simp? [i2_0, i2_1, eq_iv, Bool.false_eq_true, if_false]
    have e3 : F_is_term_3 [some (.tup [.str IS, v])] S = .ok (.ret (.val (.bl true))) S := by
      unfold F_is_term_3
      simp? [i2_0, i2_1, eq_ii, andF, c_value hv]
    show finF (F_is_term [some (.tup [.str IS, v])] S) = _
    unfold F_is_term
    rw [seq_next e1, seq_next e2, e3]
    rfl)
theorem c_atom {ts : List (Int × Int)} {a : MV} (h : AtOk ts a) (S : Sto) : callF 2 f_is_atom [.val a, .val (.tup (ts.map tbl))] S = .ok (.val (.bl true)) S := bl_call rfl (by
  obtain ⟨t, tms, p, rfl, t0, t1, hd, hl, p1, p3, hT⟩ := h
  have tl : (((ts.map tbl).length : Nat) : Int) = ts.length := by rw [List.length_map]
  have e1 : F_is_atom_1 [some (.tup [.int t, .tup tms]), some (.tup (ts.map tbl)), none] S = .ok (.next [some (.tup [.int t, .tup tms]), some (.tup (ts.map tbl)), none]) S := by
    unfold F_is_atom_1
    simp? [c_tup2, i2_0, len_tup, c_below_ok t0 (show t < (((ts.map tbl).length : Nat) : Int) by omega)]
    rfl
  have e2 : F_is_atom_2 [some (.tup [.int t, .tup tms]), some (.tup (ts.map tbl)), none] S = .ok (.next [some (.tup [.int t, .tup tms]), some (.tup (ts.map tbl)), some (.int p.1)]) S := by
    unfold F_is_atom_2
    simp? [i2_0, ix_tup (S := S) hd, show ∀ S : Sto, ixF (.val (tbl p)) (.val (.int 0)) S = .ok (.val (.int p.1)) S from fun S => rfl]
  have hc : compF (gNm 0) C_is_atom_1_c C_is_atom_1_e [none] [] tms S = .ok (tms.map fun _ => MV.bl true) S := comp_map (F := fun _ => .bl true) (stay0 _) fun d hd => ⟨[some d], rfl, rfl, by
    unfold C_is_atom_1_e
    simp? [c_term (hT d hd) S]⟩
  have hlt : tms.length < 1000000 := by omega
  have e3 : F_is_atom_3 [some (.tup [.int t, .tup tms]), some (.tup (ts.map tbl)), some (.int p.1)] S = .ok (.ret (.val (.bl true))) S := by
    unfold F_is_atom_3
    simp? [i2_1, c_tuple_ok (show p.1 ≤ tms.length by omega) (show (tms.length : Int) ≤ p.1 by omega), andF, show ∀ (ds : List MV) (S : Sto), itT (.val (.tup ds)) S = .ok ⟨ds, []⟩ S from fun ds S => rfl, hlt, show blk 1 [] [some (.tup [.int t, .tup tms]), some (.tup (ts.map tbl)), some (.int p.1)] = [none] from rfl, hc, map_true, all_true]
  show finF (F_is_atom [some (.tup [.int t, .tup tms]), some (.tup (ts.map tbl)), none] S) = _
  unfold F_is_atom
  rw [seq_next e1, seq_next e2, e3]
  rfl)
theorem isiT_sq {S : Sto} {m : MV} {ds : List MV} (h : SqM S m ds) : isiTF [.val m, .val (.tup [.typ "list", .typ "tuple"])] S = .ok (.val (.bl true)) S := by
  rcases h with rfl | ⟨l, rfl, hS⟩
  · rfl
  · have e : tyName S (.val (.loc l)) = some "list" := by
      show (lsOf S (.val (.loc l))).map (fun _ => "list") = _
      rw [lsOf_loc hS]; rfl
    unfold isiTF
    dsimp only
    rw [e]
    rfl
theorem c_listed {S : Sto} {m : MV} {ds : List MV} (h : SqM S m ds) : callF 1 f_listed [.val m] S = .ok (.val (.bl true)) S := bl_call rfl (by
  show finF (F_listed [some m] S) = _
  unfold F_listed F_listed_1
  simp? [isiT_sq h]
  rfl)
theorem SqM.itQ {S : Sto} {m : MV} {ds : List MV} (h : SqM S m ds) : ∃ gs, (∀ T, stay gs (S ++ T)) ∧ ∀ T, itQ (.val m) (S ++ T) = .ok ⟨ds, gs⟩ (S ++ T) := by
  rcases h with rfl | ⟨l, rfl, hS⟩
  · exact ⟨[], fun T => stay0 _, fun T => rfl⟩
  · have hT : ∀ T, (S ++ T)[l]? = some (.lst ds) := fun T => by rw [List.getElem?_append_left (List.getElem?_eq_some_iff.mp hS).1]; exact hS
    refine ⟨[(l, ds)], fun T => stay_loc (hT T), fun T => ?_⟩
    have e : srcOf (S ++ T) (.val (.loc l)) = some ⟨true, ds, [(l, ds)]⟩ := by
      unfold srcOf
      dsimp only
      rw [hT T]
    unfold L2.M.itQ
    rw [e]
theorem look_mem {kvs : List (MV × MV)} {k : MV} (h : (look kvs k).isSome = true) : k ∈ kvs.map (·.1) := by
  unfold look at h
  rw [Option.isSome_map] at h
  obtain ⟨p, hp⟩ := Option.isSome_iff_exists.mp h
  have h1 := List.find?_some hp
  exact List.mem_map.mpr ⟨p, List.mem_of_find?_eq_some hp, of_decide_eq_true h1⟩
theorem put_keys (kvs : List (MV × MV)) (k d : MV) : (∀ j ∈ kvs.map (·.1), j ∈ (putK kvs k d).map (·.1)) ∧ k ∈ (putK kvs k d).map (·.1) ∧ (putK kvs k d).length ≤ kvs.length + 1 ∧ (isStrK k = true → kvs.all (fun p => isStrK p.1) = true → (putK kvs k d).all (fun p => isStrK p.1) = true) := by
  unfold putK
  by_cases h : (look kvs k).isSome = true
  · rw [if_pos h]
    have e : (kvs.map fun p => if p.1 = k then (p.1, d) else p).map (·.1) = kvs.map (·.1) := by
      rw [List.map_map]
      refine List.map_congr_left fun p _ => ?_
      show (if p.1 = k then (p.1, d) else p).1 = p.1
      split <;> rfl
    refine ⟨fun j hj => by rw [e]; exact hj, by rw [e]; exact look_mem h, by rw [List.length_map]; exact Nat.le_succ _, fun _ ha => ?_⟩
    rw [List.all_eq_true] at ha ⊢
    intro p hp
    have : p.1 ∈ kvs.map (·.1) := by rw [← e]; exact List.mem_map_of_mem hp
    obtain ⟨q, hq, eq⟩ := List.mem_map.mp this
    rw [← eq]
    exact ha q hq
  · rw [if_neg h, List.map_append]
    refine ⟨fun j hj => List.mem_append_left _ hj, List.mem_append_right _ (List.mem_singleton.mpr rfl), by rw [List.length_append]; exact Nat.le_refl _, fun hk ha => ?_⟩
    rw [List.all_append, ha]
    simp [hk]
theorem setK_last {S : Sto} {kvs : List (MV × MV)} {x : List Nat} {d : MV} {ρ : Rho} (ha : kvs.all (fun p => isStrK p.1) = true) (hl : kvs.length < 1000000) : setKF (.val (.loc S.length)) (.val (.str x)) d ρ (S ++ [.dic kvs]) = .ok ρ (S ++ [.dic (putK kvs (.str x) d)]) := by
  have e : dikOf (S ++ [.dic kvs]) (.val (.loc S.length)) = some (S.length, kvs) := by
    unfold dikOf
    dsimp only
    rw [last_at]
    dsimp only
    rw [if_pos ha]
  unfold setKF
  dsimp only
  rw [e]
  dsimp only
  rw [if_pos hl, last_set]
abbrev D4 (m : MV) (n : Nat) (a t : Option MV) : Rho := [some m, some (.loc n), a, t]
theorem din_terms {S : Sto} {m : MV} {a : Option MV} : ∀ (tms : List MV), (∀ d ∈ tms, TmOk d) → ∀ (kvs : List (MV × MV)) (t : Option MV), kvs.all (fun p => isStrK p.1) = true → kvs.length + tms.length < 1000 →
    ∃ (kvs' : List (MV × MV)) (t' : Option MV), kvs'.all (fun p => isStrK p.1) = true ∧ kvs'.length ≤ kvs.length + tms.length ∧ (∀ j ∈ kvs.map (·.1), j ∈ kvs'.map (·.1)) ∧ (∀ x ∈ tms.filterMap vn, MV.str x ∈ kvs'.map (·.1)) ∧ forF (gNm 3) B_names_in_2 [] tms (D4 m S.length a t) (S ++ [.dic kvs]) = .ok (.next (D4 m S.length a t')) (S ++ [.dic kvs'])
  | [], _, kvs, t, ha, _ => ⟨kvs, t, ha, Nat.le_refl _, fun j hj => hj, fun x hx => by simp at hx, rfl⟩
  | d :: tms, hT, kvs, t, ha, hl => by
    rw [List.length_cons] at hl
    rcases hT d List.mem_cons_self with ⟨x, hx, rfl⟩ | ⟨v, hv, rfl⟩
    · obtain ⟨p1, p2, p3, p4⟩ := put_keys kvs (.str x) (.bl true)
      obtain ⟨k2, t2, b1, b2, b3, b4, b5⟩ := din_terms tms (fun e he => hT e (List.mem_cons_of_mem _ he)) (putK kvs (.str x) (.bl true)) (some (.tup [.str VAR, .str x])) (p4 rfl ha) (by omega)
      refine ⟨k2, t2, b1, by rw [List.length_cons]; omega, fun j hj => b3 j (p1 j hj), fun y hy => ?_, ?_⟩
      · rw [List.filterMap_cons, vn_var] at hy
        rcases List.mem_cons.mp hy with rfl | hy
        · exact b3 _ p2
        · exact b4 y hy
      · rw [for_next (show gNm 3 (.tup [.str VAR, .str x]) (D4 m S.length a t) (S ++ [.dic kvs]) = .ok (D4 m S.length a (some (.tup [.str VAR, .str x]))) (S ++ [.dic kvs]) from rfl) (ρ' := D4 m S.length a (some (.tup [.str VAR, .str x]))) (S' := S ++ [.dic (putK kvs (.str x) (.bl true))]) ?_ (stay0 _)]
        · exact b5
        · unfold B_names_in_2 B_names_in_2_1
          simp? [i2_0, i2_1, eq_vv, asg_val, setK_last ha (show kvs.length < 1000000 by omega)]
    · obtain ⟨k2, t2, b1, b2, b3, b4, b5⟩ := din_terms tms (fun e he => hT e (List.mem_cons_of_mem _ he)) kvs (some (.tup [.str IS, v])) ha (by omega)
      have hv0 : vn (.tup [.str IS, v]) = none := by
        cases v with
        | str y => simp [vn]
        | _ => rfl
      refine ⟨k2, t2, b1, by rw [List.length_cons]; omega, b3, fun y hy => ?_, ?_⟩
      · rw [List.filterMap_cons, hv0] at hy
        exact b4 y hy
      · rw [for_next (show gNm 3 (.tup [.str IS, v]) (D4 m S.length a t) (S ++ [.dic kvs]) = .ok (D4 m S.length a (some (.tup [.str IS, v]))) (S ++ [.dic kvs]) from rfl) (ρ' := D4 m S.length a (some (.tup [.str IS, v]))) (S' := S ++ [.dic kvs]) ?_ (stay0 _)]
        · exact b5
        · unfold B_names_in_2 B_names_in_2_1
          simp? [i2_0, i2_1, eq_iv, Bool.false_eq_true, if_false]
theorem din_atoms {ts : List (Int × Int)} {S : Sto} {m : MV} {gs : List (Nat × List MV)} (hg : ∀ T, stay gs (S ++ T)) : ∀ (as : List MV), (∀ d ∈ as, AtOk ts d) → ∀ (kvs : List (MV × MV)) (a t : Option MV), kvs.all (fun p => isStrK p.1) = true → kvs.length + 3 * as.length < 1000 →
    ∃ (kvs' : List (MV × MV)) (a' t' : Option MV), kvs'.all (fun p => isStrK p.1) = true ∧ (∀ j ∈ kvs.map (·.1), j ∈ kvs'.map (·.1)) ∧ (∀ x ∈ allN as, MV.str x ∈ kvs'.map (·.1)) ∧ forF (gNm 2) B_names_in_1 gs as (D4 m S.length a t) (S ++ [.dic kvs]) = .ok (.next (D4 m S.length a' t')) (S ++ [.dic kvs'])
  | [], _, kvs, a, t, ha, _ => ⟨kvs, a, t, ha, fun j hj => hj, fun x hx => by simp [allN] at hx, rfl⟩
  | d :: as, hA, kvs, a, t, ha, hl => by
    rw [List.length_cons] at hl
    obtain ⟨ti, tms, p, rfl, _, _, _, h3, h4, h5, hT⟩ := hA d List.mem_cons_self
    obtain ⟨k1, t1, a1, a2, a3, a4, a5⟩ := din_terms (S := S) (m := m) (a := some (.tup [.int ti, .tup tms])) tms hT kvs t ha (by omega)
    obtain ⟨k2, a2', t2, b1, b2, b3, b4⟩ := din_atoms hg as (fun e he => hA e (List.mem_cons_of_mem _ he)) k1 (some (.tup [.int ti, .tup tms])) t1 a1 (by omega)
    refine ⟨k2, a2', t2, b1, fun j hj => b2 j (a3 j hj), fun x hx => ?_, ?_⟩
    · unfold allN at hx
      rw [List.flatMap_cons, List.mem_append] at hx
      rcases hx with h | h
      · exact b2 _ (a4 x h)
      · exact b3 x h
    · rw [for_next (show gNm 2 (.tup [.int ti, .tup tms]) (D4 m S.length a t) (S ++ [.dic kvs]) = .ok (D4 m S.length (some (.tup [.int ti, .tup tms])) t) (S ++ [.dic kvs]) from rfl) (ρ' := D4 m S.length (some (.tup [.int ti, .tup tms])) t1) (S' := S ++ [.dic k1]) ?_ (hg _)]
      · exact b4
      · unfold B_names_in_1 B_names_in_1_1
        simp? [i2_1, show ∀ (ds : List MV) (S : Sto), itT (.val (.tup ds)) S = .ok ⟨ds, []⟩ S from fun ds S => rfl]
        exact a5
theorem c_nin {ts : List (Int × Int)} {S : Sto} {m : MV} {as : List MV} (h : SqM S m as) (hA : ∀ d ∈ as, AtOk ts d) (hl : as.length ≤ 4) :
    ∃ ks : List MV, (∀ k ∈ ks, isStrK k = true) ∧ (∀ x ∈ allN as, MV.str x ∈ ks) ∧ callF 1 f_names_in [.val m] S = .ok (.new ks) S := by
  obtain ⟨gs, hg, hit⟩ := h.itQ
  obtain ⟨kvs, a', t', h1, _, h3, h4⟩ := din_atoms (m := m) hg as hA [] none none rfl (by simp only [List.length_nil]; omega)
  have hs : startR ["atoms", "names", "atom", "term"] [m] = [some m, none, none, none] := rfl
  have e1 : F_names_in_1 [some m, none, none, none] S = .ok (.next (D4 m S.length none none)) (S ++ [.dic []]) := by
    unfold F_names_in_1
    simp? [newDF]
  have e2 : F_names_in_2 (D4 m S.length none none) (S ++ [.dic []]) = .ok (.next (D4 m S.length a' t')) (S ++ [.dic kvs]) := by
    unfold F_names_in_2
    simp? [hit]
    exact h4
  have hk : listKF [.val (.loc S.length)] (S ++ [.dic kvs]) = .ok (.new (kvs.map (·.1))) (S ++ [.dic kvs]) := by
    have e : dikOf (S ++ [.dic kvs]) (.val (.loc S.length)) = some (S.length, kvs) := by
      unfold dikOf
      dsimp only
      rw [last_at]
      dsimp only
      rw [if_pos h1]
    unfold listKF
    dsimp only
    rw [e]
  have e3 : F_names_in_3 (D4 m S.length a' t') (S ++ [.dic kvs]) = .ok (.ret (.new (kvs.map (·.1)))) (S ++ [.dic kvs]) := by
    unfold F_names_in_3
    simp? [hk]
  have hF : f_names_in [m] S = .ok (.new (kvs.map (·.1))) (S ++ [.dic kvs]) := by
    unfold f_names_in F_names_in
    rw [hs, seq_next e1, seq_next e2, e3]
    rfl
  have hall : ∀ k ∈ kvs.map (·.1), isStrK k = true := fun k hk => by
    obtain ⟨p, hp, rfl⟩ := List.mem_map.mp hk
    exact List.all_eq_true.mp h1 p hp
  refine ⟨kvs.map (·.1), hall, h3, call_own rfl (show enterA [.val m] S = ([m], S) from rfl) hF (.inl rfl) (loL_of fun d hd => ?_)⟩
  have := hall d hd
  cases d with
  | str x => exact lo_str _ _
  | _ => exact absurd this Bool.false_ne_true
theorem strK_pd {ks : List MV} (h : ∀ k ∈ ks, isStrK k = true) : ∀ y ∈ ks, pd y = true ∧ dpt y < 40 := fun d hd => by
  have := h d hd
  cases d with
  | str x => exact ⟨pd_str x, by rw [dpt_str]; decide⟩
  | _ => exact absurd this Bool.false_ne_true
theorem strs_map : ∀ (hs : List (List Nat)), strsOf (hs.map MV.str) = some hs
  | [] => rfl
  | h :: hs => by
    show (strsOf (hs.map MV.str)).map (h :: ·) = _
    rw [strs_map hs]; rfl
theorem lset_sq {S : Sto} {m : MV} {hs : List (List Nat)} (h : SqM S m (hs.map MV.str)) (hn : hs.Nodup) (hl : hs.length < 4000) : lsetF [.val m] S = .ok (.val (.int (hs.length : Nat))) S := by
  have e : ∃ q : Sr, srcOf S (.val m) = some q ∧ q.ds = hs.map MV.str := by
    rcases h with rfl | ⟨l, rfl, hS⟩
    · exact ⟨_, rfl, rfl⟩
    · refine ⟨⟨true, hs.map MV.str, [(l, hs.map MV.str)]⟩, ?_, rfl⟩
      unfold srcOf
      dsimp only
      rw [hS]
  obtain ⟨q, e1, e2⟩ := e
  unfold lsetF
  dsimp only
  rw [e1]
  dsimp only
  rw [e2, strs_map]
  dsimp only
  rw [if_pos hl, diff_nd hn]
section
variable {ts : List (Int × Int)} {S : Sto} {hm am : MV} {hs : List (List Nat)} {as : List MV}
theorem c_head (h : SqM S hm (hs.map MV.str)) (ha : SqM S am as) (hA : ∀ d ∈ as, AtOk ts d) (h4 : as.length ≤ 4) (hn : hs.Nodup) (h3 : hs.length ≤ 3) (hin : ∀ y ∈ hs, y ∈ allN as) : callF 2 f_is_head [.val hm, .val am] S = .ok (.val (.bl true)) S := by
  obtain ⟨ks, k1, k2, hc⟩ := c_nin ha hA h4
  have hst : startR ["things", "atoms", "standing"] [hm, am] = [some hm, some am, none] := rfl
  have e1 : F_is_head_1 [some hm, some am, none] S = .ok (.next [some hm, some am, some (.loc S.length)]) (S ++ [.lst ks]) := by
    unfold F_is_head_1
    simp? [hc]
  obtain ⟨gs, hg, hit⟩ := h.itQ
  have hlen : lenF [.val hm] (S ++ [.lst ks]) = .ok (.val (.int (((hs.map MV.str).length : Nat) : Int))) (S ++ [.lst ks]) := (h.app (T := [.lst ks])).len
  have hcm : compF (gNm 0) C_is_head_1_c C_is_head_1_e [none, some (.loc S.length)] gs (hs.map MV.str) (S ++ [.lst ks]) = .ok ((hs.map MV.str).map fun _ => MV.bl true) (S ++ [.lst ks]) := comp_map (F := fun _ => .bl true) (hg _) fun d hd => ⟨[some d, some (.loc S.length)], rfl, rfl, by
    obtain ⟨y, hy, rfl⟩ := List.mem_map.mp hd
    unfold C_is_head_1_e
    simp? [in_pure false (last_at S (.lst ks)) (pd_str y) (strK_pd k1), Bool.false_eq_true, if_false, decide_eq_true (k2 y (hin y hy))]⟩
  have hlt : (hs.map MV.str).length < 1000000 := by rw [List.length_map]; omega
  have hgt : decide ((4 : Int) < (((hs.map MV.str).length : Nat) : Int)) = false := decide_eq_false (by rw [List.length_map]; omega)
  have e2 : F_is_head_2 [some hm, some am, some (.loc S.length)] (S ++ [.lst ks]) = .ok (.next [some hm, some am, some (.loc S.length)]) (S ++ [.lst ks]) := by
    unfold F_is_head_2
    simp? [hlen, gt_int, hgt, hit, hlt, show blk 1 [2] [some hm, some am, some (.loc S.length)] = [none, some (.loc S.length)] from rfl, hcm, map_true, all_true, Bool.false_eq_true, if_false, Bool.not_true]
  have hls : lsetF [.val hm] (S ++ [.lst ks]) = .ok (.val (.int (hs.length : Nat))) (S ++ [.lst ks]) := lset_sq (h.app (T := [.lst ks])) hn (by omega)
  have e3 : F_is_head_3 [some hm, some am, some (.loc S.length)] (S ++ [.lst ks]) = .ok (.ret (.val (.bl true))) (S ++ [.lst ks]) := by
    unfold F_is_head_3
    simp? [hls, hlen, List.length_map, decide_true]
  refine call_val (T := [.lst ks]) rfl ?_ (lo_bl _ _) (fun l => by simp)
  show f_is_head [hm, am] S = _
  unfold f_is_head F_is_head
  rw [hst, seq_next e1, seq_next e2, e3]
  rfl
theorem SqM.itE {m : MV} {ds : List MV} (h : SqM S m ds) : ∃ gs, stay gs S ∧ itE [.val m] S = .ok ⟨numd ds, gs⟩ S := by
  rcases h with rfl | ⟨l, rfl, hS⟩
  · exact ⟨[], stay0 _, rfl⟩
  · refine ⟨[(l, ds)], stay_loc hS, ?_⟩
    have e : srcOf S (.val (.loc l)) = some ⟨true, ds, [(l, ds)]⟩ := by
      unfold srcOf
      dsimp only
      rw [hS]
    unfold L2.M.itE
    dsimp only
    rw [e]
abbrev Q5 (tt hm am : MV) (p a : Option MV) : Rho := [some tt, some hm, some am, p, a]
theorem q_loop {gs : List (Nat × List MV)} (hg : stay gs S) : ∀ (L : List MV), (∀ d ∈ L, ∃ i a, d = .tup [i, a] ∧ AtOk ts a) → ∀ (p a : Option MV), ∃ p' a', forF (gTp 2 (gsCons (gNm 3) (gsCons (gNm 4) gsNil))) B_question_of_1 gs L (Q5 (.tup (ts.map tbl)) hm am p a) S = .ok (.next (Q5 (.tup (ts.map tbl)) hm am p' a')) S
  | [], _, p, a => ⟨p, a, rfl⟩
  | d :: L, hL, p, a => by
    obtain ⟨i, x, rfl, hx⟩ := hL d List.mem_cons_self
    obtain ⟨p', a', ih⟩ := q_loop hg L (fun e he => hL e (List.mem_cons_of_mem _ he)) (some i) (some x)
    refine ⟨p', a', ?_⟩
    rw [for_next (show gTp 2 (gsCons (gNm 3) (gsCons (gNm 4) gsNil)) (.tup [i, x]) (Q5 (.tup (ts.map tbl)) hm am p a) S = .ok (Q5 (.tup (ts.map tbl)) hm am (some i) (some x)) S from rfl) (ρ' := Q5 (.tup (ts.map tbl)) hm am (some i) (some x)) (S' := S) ?_ hg]
    · exact ih
    · unfold B_question_of_1 B_question_of_1_1
      simp? [c_atom hx, Bool.not_true, Bool.false_eq_true, if_false]
theorem c_question (h : SqM S hm (hs.map MV.str)) (ha : SqM S am as) (hA : ∀ d ∈ as, AtOk ts d) (h1 : 1 ≤ as.length) (h4 : as.length ≤ 4) (hn : hs.Nodup) (h3 : hs.length ≤ 3) (hin : ∀ y ∈ hs, y ∈ allN as) :
    callF 3 f_question_of [.val (.tup (ts.map tbl)), .val hm, .val am] S = .ok (.val (.tup [.tup (hs.map MV.str), .tup as])) S := by
  have hst : startR ["tables", "head", "atoms", "place", "atom"] [.tup (ts.map tbl), hm, am] = [some (.tup (ts.map tbl)), some hm, some am, none, none] := rfl
  have e1 : F_question_of_1 (Q5 (.tup (ts.map tbl)) hm am none none) S = .ok (.next (Q5 (.tup (ts.map tbl)) hm am none none)) S := by
    unfold F_question_of_1
    simp? [c_listed ha, Bool.not_true, Bool.false_eq_true, if_false]
  obtain ⟨gs, hg, hit⟩ := ha.itE
  obtain ⟨p', a', hlp⟩ := q_loop (ts := ts) (hm := hm) (am := am) hg (numd as) (fun d hd => by
    unfold numd at hd
    obtain ⟨q, hq, rfl⟩ := List.mem_map.mp hd
    have hm := List.mem_zipIdx hq
    refine ⟨_, _, rfl, hA _ ?_⟩
    rw [hm.2.2]
    exact List.getElem_mem _) none none
  have e2 : F_question_of_2 (Q5 (.tup (ts.map tbl)) hm am none none) S = .ok (.next (Q5 (.tup (ts.map tbl)) hm am p' a')) S := by
    unfold F_question_of_2
    simp? [hit]
    exact hlp
  have e3 : F_question_of_3 (Q5 (.tup (ts.map tbl)) hm am p' a') S = .ok (.next (Q5 (.tup (ts.map tbl)) hm am p' a')) S := by
    unfold F_question_of_3
    simp? [ha.len, chF, le_int, decide_eq_true (show (1 : Int) ≤ (as.length : Nat) by omega), decide_eq_true (show ((as.length : Nat) : Int) ≤ 4 by omega), c_listed h, c_head h ha hA h4 hn h3 hin, Bool.not_true, Bool.false_eq_true, if_false]
  have e4 : F_question_of_4 (Q5 (.tup (ts.map tbl)) hm am p' a') S = .ok (.ret (.val (.tup [.tup (hs.map MV.str), .tup as]))) S := by
    unfold F_question_of_4
    simp? [h.tuple, ha.tuple]
  refine call_pure rfl ?_ (pd_lo ?_) (fun l => by simp)
  · show f_question_of [.tup (ts.map tbl), hm, am] S = _
    unfold f_question_of F_question_of
    rw [hst, seq_next e1, seq_next e2, seq_next e3, e4]
    rfl
  · rw [pd_tup, pdL_cons, pdL_cons, pdL_nil, pd_tup, pd_tup, pdL_all (fun d hd => (strs_pd d hd).1), pdL_all (fun d hd => (at_pd (hA d hd)).1)]
    rfl
theorem at_first {a : MV} (h : AtOk ts a) : ∃ (t : Int) (u : MV), a = .tup [.int t, u] := by
  obtain ⟨t, tms, p, rfl, _⟩ := h
  exact ⟨t, _, rfl⟩
abbrev O4 (q : MV) (h a : Nat) (x : Option MV) : Rho := [some q, some (.loc h), some (.loc a), x]
theorem t_loop {q : MV} {h a : Nat} : ∀ (L : List MV), (∀ d ∈ L, AtOk ts d) → ∀ x : Option MV, ∃ x', forF (gNm 3) B__law_told_1 [] L (O4 q h a x) S = .ok (.next (O4 q h a x')) S
  | [], _, x => ⟨x, rfl⟩
  | d :: L, hL, x => by
    obtain ⟨t, u, rfl⟩ := at_first (hL d List.mem_cons_self)
    obtain ⟨x', ih⟩ := t_loop (q := q) (h := h) (a := a) L (fun e he => hL e (List.mem_cons_of_mem _ he)) (some (.tup [.int t, u]))
    refine ⟨x', ?_⟩
    rw [for_next (show gNm 3 (.tup [.int t, u]) (O4 q h a x) S = .ok (O4 q h a (some (.tup [.int t, u]))) S from rfl) (ρ' := O4 q h a (some (.tup [.int t, u]))) (S' := S) ?_ (stay0 _)]
    · exact ih
    · unfold B__law_told_1 B__law_told_1_1
      simp? [i2_0, isi_ii, isi_ib, Bool.not_true, Bool.false_eq_true, if_false]
theorem told_ok {h a : Nat} (hh : S[h]? = some (.lst (hs.map MV.str))) (ha : S[a]? = some (.lst as)) (hA : ∀ d ∈ as, AtOk ts d) : callF 3 f__law_told [.val (.tup [.tup (hs.map MV.str), .tup as]), .val (.loc h), .val (.loc a)] S = .ok (.val (.bl true)) S := by
  have hst : startR ["_law_told_here", "_law_head_here", "_law_atoms_here", "_law_atom"] [.tup [.tup (hs.map MV.str), .tup as], .loc h, .loc a] = [some (.tup [.tup (hs.map MV.str), .tup as]), some (.loc h), some (.loc a), none] := rfl
  have pdh : pdL (hs.map MV.str) = true := pdL_all fun d hd => (strs_pd d hd).1
  have pda : pdL as = true := pdL_all fun d hd => (at_pd (hA d hd)).1
  have pq : pd (.tup [.tup (hs.map MV.str), .tup as]) = true := by rw [pd_tup, pdL_cons, pdL_cons, pdL_nil, pd_tup, pd_tup, pdh, pda]; rfl
  have dq : dpt (.tup [.tup (hs.map MV.str), .tup as]) < 40 := by
    have d1 : dptL (hs.map MV.str) ≤ 0 := dptL_le fun d hd => by obtain ⟨u, _, rfl⟩ := List.mem_map.mp hd; rw [dpt_str]; exact Nat.le_refl _
    have d2 : dptL as ≤ 3 := dptL_le fun d hd => (at_pd (hA d hd)).2
    rw [dpt_tup, dptL_cons, dptL_cons, dptL_nil, dpt_tup, dpt_tup]
    omega
  have l2 : lenF [.val (.tup [.tup (hs.map MV.str), .tup as])] S = .ok (.val (.int 2)) S := rfl
  have e1 : F__law_told_1 (O4 (.tup [.tup (hs.map MV.str), .tup as]) h a none) S = .ok (.next (O4 (.tup [.tup (hs.map MV.str), .tup as]) h a none)) S := by
    unfold F__law_told_1
    simp? [l2, ne_int, decide_true, Bool.not_true, Bool.false_eq_true, if_false]
  have e2 : F__law_told_2 (O4 (.tup [.tup (hs.map MV.str), .tup as]) h a none) S = .ok (.next (O4 (.tup [.tup (hs.map MV.str), .tup as]) h a none)) S := by
    unfold F__law_told_2
    simp? [i2_0, i2_1, Bool.not_true, Bool.false_eq_true, if_false]
  obtain ⟨x', hlp⟩ := t_loop (S := S) (q := .tup [.tup (hs.map MV.str), .tup as]) (h := h) (a := a) as hA none
  have e3 : F__law_told_3 (O4 (.tup [.tup (hs.map MV.str), .tup as]) h a none) S = .ok (.next (O4 (.tup [.tup (hs.map MV.str), .tup as]) h a x')) S := by
    unfold F__law_told_3
    simp? [i2_1, show ∀ (ds : List MV) (S : Sto), itT (.val (.tup ds)) S = .ok ⟨ds, []⟩ S from fun ds S => rfl]
    exact hlp
  have e4 : F__law_told_4 (O4 (.tup [.tup (hs.map MV.str), .tup as]) h a x') S = .ok (.ret (.val (.bl true))) S := by
    unfold F__law_told_4
    simp? [tuple_loc hh, tuple_loc ha, eq_pure pq pq dq, decide_true]
  refine bl_call rfl ?_
  show f__law_told [.tup [.tup (hs.map MV.str), .tup as], .loc h, .loc a] S = _
  unfold f__law_told F__law_told
  rw [hst, seq_next e1, seq_next e2, seq_next e3, e4]
  rfl
end
theorem cell_ok (ns : List Int) (k : Int) (hk : 0 ≤ k) (S : Sto) : ∃ c, callF 2 f__law_cell_at [.val (.scr (ns.map MV.int)), .val (.int k)] S = .ok (.val (.int c)) S := by
  have hlen : lenF [.val (.scr (ns.map MV.int))] S = .ok (.val (.int ns.length)) S := by
    show R.ok (Er.val (.int (((ns.map MV.int).length : Nat) : Int))) S = _
    rw [List.length_map]
  have e1 : F__law_cell_at_1 [some (.scr (ns.map MV.int)), some (.int k)] S = if decide (k < ns.length) = true then (ixF (.val (.scr (ns.map MV.int))) (.val (.int k)) S).bind fun r S1 => .ok (.ret r) S1 else .ok (.next [some (.scr (ns.map MV.int)), some (.int k)]) S := by
    unfold F__law_cell_at_1
    simp? [hlen, lt_int]
  have fin : ∀ c, f__law_cell_at [.scr (ns.map MV.int), .int k] S = .ok (.val (.int c)) S → ∃ c, callF 2 f__law_cell_at [.val (.scr (ns.map MV.int)), .val (.int k)] S = .ok (.val (.int c)) S := fun c h => ⟨c, call_pure rfl h (lo_int _ _) (fun l => by simp)⟩
  have hs : startR ["_law_script", "_law_k"] [.scr (ns.map MV.int), .int k] = [some (.scr (ns.map MV.int)), some (.int k)] := rfl
  by_cases hlt : k < ns.length
  · obtain ⟨d, hd⟩ := atI_pos (xs := ns.map MV.int) (i := k) hk (by rw [List.length_map]; exact hlt)
    obtain ⟨c, rfl⟩ : ∃ c, d = .int c := atI_all (P := fun d => ∃ c, d = .int c) (fun e he => by obtain ⟨c, _, rfl⟩ := List.mem_map.mp he; exact ⟨c, rfl⟩) hd
    have hix : ixF (.val (.scr (ns.map MV.int))) (.val (.int k)) S = .ok (.val (.int c)) S := by
      show (match atI (ns.map MV.int) k with | some d => R.ok (Er.val d) S | none => .no) = _
      rw [hd]
    refine fin c ?_
    rw [decide_eq_true hlt, if_pos rfl, hix, bok] at e1
    unfold f__law_cell_at F__law_cell_at
    rw [hs, seq_ret e1]
    rfl
  · refine fin 0 ?_
    rw [decide_eq_false hlt, if_neg Bool.false_ne_true] at e1
    unfold f__law_cell_at F__law_cell_at
    rw [hs, seq_next e1]
    rfl
theorem eqv_ls {S : Sto} {u n k : Nat} {ds : List MV} (hu : S[u]? = some (.lst ds)) (hn : S[n]? = some (.lst ds)) (hp : ∀ d ∈ ds, pd d = true ∧ dpt d < k) : eqv S (k + 1) (.loc u) (.loc n) = some true := by
  have e : ∀ l, S[l]? = some (.lst ds) → vwE S (.val (.loc l)) = some (.ls ds) := fun l h => by
    show (lsOf S (.val (.loc l))).map Vw.ls = _
    rw [lsOf_loc h]; rfl
  obtain ⟨bs, h1, h2⟩ := prs_pure (e := eqv S k) (ds := ds) (es := ds) fun d hd f hf => eqv_pure k (hp d hd).1 (hp f hf).1 (hp d hd).2
  rw [decide_eq_true rfl, Bool.and_eq_true] at h2
  unfold eqv
  rw [e u hu, e n hn]
  show (if ds.length = ds.length then (prs (eqv S k) ds ds).map fun bs => bs.all id else some false) = _
  rw [if_pos rfl, h1]
  show some (bs.all id) = _
  rw [h2.1]
theorem ne_two {S : Sto} {l u v n m : Nat} {ds es : List MV} (hl : S[l]? = some (.lst [.loc u, .loc v])) (hu : S[u]? = some (.lst ds)) (hn : S[n]? = some (.lst ds)) (hv : S[v]? = some (.lst es)) (hm : S[m]? = some (.lst es)) (hd : ∀ d ∈ ds, pd d = true ∧ dpt d < 39) (he : ∀ d ∈ es, pd d = true ∧ dpt d < 39) :
    neF (.val (.loc l)) (.new [.loc n, .loc m]) S = .ok (.val (.bl false)) S := by
  have e : vwE S (.val (.loc l)) = some (.ls [.loc u, .loc v]) := by
    show (lsOf S (.val (.loc l))).map Vw.ls = _
    rw [lsOf_loc hl]; rfl
  have q : eqvE S depthE (.val (.loc l)) (.new [.loc n, .loc m]) = some true := by
    unfold eqvE
    rw [e]
    show ((eqv S 40 (.loc u) (.loc n)).bind fun k => ((eqv S 40 (.loc v) (.loc m)).bind fun k => (some ([] : List Bool)).map (k :: ·)).map (k :: ·)).map (fun bs => bs.all id) = _
    rw [eqv_ls hu hn hd, eqv_ls hv hm he]
    rfl
  unfold neF
  rw [q]
  rfl
theorem at_app {B L : Sto} {n i : Nat} (h : B.length = n) : (B ++ L)[n + i]? = L[i]? := by
  rw [List.getElem?_append_right (by omega), h, Nat.add_sub_cancel_left]
theorem set_app {B L : Sto} {n i : Nat} {o : MO} (h : B.length = n) : (B ++ L).set (n + i) o = B ++ L.set i o := by
  rw [List.set_append_right _ _ (by omega), h, Nat.add_sub_cancel_left]
theorem at_old {B L : Sto} {m : Nat} {o : MO} (h : B[m]? = some o) : (B ++ L)[m]? = some o := by
  rw [List.getElem?_append_left (List.getElem?_eq_some_iff.mp h).1]; exact h
theorem list_loc {S : Sto} {l : Nat} {ds : List MV} (hS : S[l]? = some (.lst ds)) : listF [.val (.loc l)] S = .ok (.new ds) S := by
  show (match lsOf S (.val (.loc l)) with | some ds => R.ok (Er.new ds) S | none => .no) = _
  rw [lsOf_loc hS]
theorem clr_loc {S : Sto} {l : Nat} {ds : List MV} (hS : S[l]? = some (.lst ds)) : clrF (.val (.loc l)) [] S = .ok (.val .non) (S.set l (.lst [])) := by
  show updL (.val (.loc l)) S (fun _ => some []) = _
  unfold updL
  dsimp only
  rw [hS]
abbrev LL (q tt : MV) (m : Nat) (k h hd t o : Option MV) : Rho := [some q, some tt, some (.loc 0), some (.loc 1), some (.loc m), some (.loc 3), k, h, hd, t, o]
section
variable {ts : List (Int × Int)} {hs : List (List Nat)} {as : List MV} {B : Sto} {n m : Nat} {q : MV} {k : Option MV}
theorem law_end (hn : B.length = n) (hm : B[m]? = some (.lst as)) (hA : ∀ d ∈ as, AtOk ts d) (h1 : 1 ≤ as.length) (h4 : as.length ≤ 4) (hd : hs.Nodup) (h3 : hs.length ≤ 3) (hin : ∀ y ∈ hs, y ∈ allN as) :
    ∃ S, seqF F_law_8 (seqF F_law_9 (seqF F_law_10 (seqF F_law_11 (seqF F_law_12 (seqF F_law_13 (seqF F_law_14 F_law_15)))))) (LL q (.tup (ts.map tbl)) m k (some (.loc n)) none none none) (B ++ [.lst (hs.map MV.str)]) = .ok (.ret (.val (.bl true))) S := by
  have Hn : ∀ L : Sto, (B ++ (.lst (hs.map MV.str) :: L))[n]? = some (.lst (hs.map MV.str)) := fun L => at_app (i := 0) hn
  have Hm : ∀ L : Sto, (B ++ L)[m]? = some (.lst as) := fun L => at_old hm
  have tn : ∀ L : Sto, tupleF [.val (.loc n)] (B ++ (.lst (hs.map MV.str) :: L)) = .ok (.val (.tup (hs.map MV.str))) (B ++ (.lst (hs.map MV.str) :: L)) := fun L => tuple_loc (Hn L)
  have tm : ∀ L : Sto, tupleF [.val (.loc m)] (B ++ L) = .ok (.val (.tup as)) (B ++ L) := fun L => tuple_loc (Hm L)
  have cq1 : callF 3 f_question_of [.val (.tup (ts.map tbl)), .val (.tup (hs.map MV.str)), .val (.tup as)] (B ++ [.lst (hs.map MV.str)]) = .ok (.val (.tup [.tup (hs.map MV.str), .tup as])) (B ++ [.lst (hs.map MV.str)]) := c_question (.inl rfl) (.inl rfl) hA h1 h4 hd h3 hin
  have told : ∀ L : Sto, callF 3 f__law_told [.val (.tup [.tup (hs.map MV.str), .tup as]), .val (.loc n), .val (.loc m)] (B ++ (.lst (hs.map MV.str) :: L)) = .ok (.val (.bl true)) (B ++ (.lst (hs.map MV.str) :: L)) := fun L => told_ok (Hn L) (Hm _) hA
  have e8 : F_law_8 (LL q (.tup (ts.map tbl)) m k (some (.loc n)) none none none) (B ++ [.lst (hs.map MV.str)]) = .ok (.next (LL q (.tup (ts.map tbl)) m k (some (.loc n)) none none none)) (B ++ [.lst (hs.map MV.str)]) := by
    unfold F_law_8
    simp? [tn, tm, cq1, told, Bool.not_true, Bool.false_eq_true, if_false]
  have bl : (B ++ [MO.lst (hs.map MV.str)]).length = n + 1 := by rw [List.length_append, hn]; rfl
  have two : lstF [.new (hs.map MV.str), .new as] (B ++ [.lst (hs.map MV.str)]) = .ok (.new [.loc (n + 1), .loc (n + 2)]) (B ++ [.lst (hs.map MV.str), .lst (hs.map MV.str), .lst as]) := by
    rw [lst_ok (by simp)]
    show R.ok (Er.new [.loc (B ++ [MO.lst (hs.map MV.str)]).length, .loc (B ++ [MO.lst (hs.map MV.str)] ++ [MO.lst (hs.map MV.str)]).length]) (B ++ [.lst (hs.map MV.str)] ++ [.lst (hs.map MV.str)] ++ [.lst as]) = _
    rw [List.length_append (bs := [MO.lst (hs.map MV.str)]) (as := B ++ [MO.lst (hs.map MV.str)]), bl, List.append_assoc, List.append_assoc]
    rfl
  have bl3 : (B ++ [MO.lst (hs.map MV.str), MO.lst (hs.map MV.str), MO.lst as]).length = n + 3 := by rw [List.length_append, hn]; rfl
  have e9 : F_law_9 (LL q (.tup (ts.map tbl)) m k (some (.loc n)) none none none) (B ++ [.lst (hs.map MV.str)]) = .ok (.next (LL q (.tup (ts.map tbl)) m k (some (.loc n)) (some (.loc (n + 3))) none none)) (B ++ [.lst (hs.map MV.str), .lst (hs.map MV.str), .lst as, .lst [.loc (n + 1), .loc (n + 2)]]) := by
    unfold F_law_9
    simp? [list_loc (Hn []), list_loc (Hm [.lst (hs.map MV.str)]), two, bl3]
    rw [List.append_assoc]
    rfl
  have H1 : ∀ a L, (B ++ (a :: .lst (hs.map MV.str) :: L))[n + 1]? = some (.lst (hs.map MV.str)) := fun a L => at_app (i := 1) hn
  have H2 : ∀ a b L, (B ++ (a :: b :: .lst as :: L))[n + 2]? = some (.lst as) := fun a b L => at_app (i := 2) hn
  have H3 : ∀ a b c, (B ++ [a, b, c, MO.lst [.loc (n + 1), .loc (n + 2)]])[n + 3]? = some (.lst [.loc (n + 1), .loc (n + 2)]) := fun a b c => at_app (i := 3) hn
  have j0 : ∀ a b c, ixF (.val (.loc (n + 3))) (.val (.int 0)) (B ++ [a, b, c, MO.lst [.loc (n + 1), .loc (n + 2)]]) = .ok (.val (.loc (n + 1))) (B ++ [a, b, c, MO.lst [.loc (n + 1), .loc (n + 2)]]) := fun a b c => ix_loc (H3 a b c) rfl
  have j1 : ∀ a b c, ixF (.val (.loc (n + 3))) (.val (.int 1)) (B ++ [a, b, c, MO.lst [.loc (n + 1), .loc (n + 2)]]) = .ok (.val (.loc (n + 2))) (B ++ [a, b, c, MO.lst [.loc (n + 1), .loc (n + 2)]]) := fun a b c => ix_loc (H3 a b c) rfl
  have cq2 : callF 3 f_question_of [.val (.tup (ts.map tbl)), .val (.loc (n + 1)), .val (.loc (n + 2))] (B ++ [.lst (hs.map MV.str), .lst (hs.map MV.str), .lst as, .lst [.loc (n + 1), .loc (n + 2)]]) = .ok (.val (.tup [.tup (hs.map MV.str), .tup as])) (B ++ [.lst (hs.map MV.str), .lst (hs.map MV.str), .lst as, .lst [.loc (n + 1), .loc (n + 2)]]) := c_question (.inr ⟨_, rfl, H1 _ _⟩) (.inr ⟨_, rfl, H2 _ _ _⟩) hA h1 h4 hd h3 hin
  have e10 : F_law_10 (LL q (.tup (ts.map tbl)) m k (some (.loc n)) (some (.loc (n + 3))) none none) (B ++ [.lst (hs.map MV.str), .lst (hs.map MV.str), .lst as, .lst [.loc (n + 1), .loc (n + 2)]]) = .ok (.next (LL q (.tup (ts.map tbl)) m k (some (.loc n)) (some (.loc (n + 3))) (some (.tup [.tup (hs.map MV.str), .tup as])) none)) (B ++ [.lst (hs.map MV.str), .lst (hs.map MV.str), .lst as, .lst [.loc (n + 1), .loc (n + 2)]]) := by
    unfold F_law_10
    simp? [j0, j1, cq2]
  have e11 : F_law_11 (LL q (.tup (ts.map tbl)) m k (some (.loc n)) (some (.loc (n + 3))) (some (.tup [.tup (hs.map MV.str), .tup as])) none) (B ++ [.lst (hs.map MV.str), .lst (hs.map MV.str), .lst as, .lst [.loc (n + 1), .loc (n + 2)]]) = .ok (.next (LL q (.tup (ts.map tbl)) m k (some (.loc n)) (some (.loc (n + 3))) (some (.tup [.tup (hs.map MV.str), .tup as])) (some (.tup [.tup (hs.map MV.str), .tup as])))) (B ++ [.lst (hs.map MV.str), .lst (hs.map MV.str), .lst as, .lst [.loc (n + 1), .loc (n + 2)]]) := by
    unfold F_law_11
    simp? [j0, j1, cq2]
  have ne : neF (.val (.loc (n + 3))) (.new [.loc n, .loc m]) (B ++ [.lst (hs.map MV.str), .lst (hs.map MV.str), .lst as, .lst [.loc (n + 1), .loc (n + 2)]]) = .ok (.val (.bl false)) (B ++ [.lst (hs.map MV.str), .lst (hs.map MV.str), .lst as, .lst [.loc (n + 1), .loc (n + 2)]]) :=
    ne_two (H3 _ _ _) (H1 _ _) (Hn _) (H2 _ _ _) (Hm _) (fun d hd => by obtain ⟨u, _, rfl⟩ := List.mem_map.mp hd; exact ⟨pd_str u, by rw [dpt_str]; decide⟩) fun d hd => ⟨(at_pd (hA d hd)).1, by have := (at_pd (hA d hd)).2; omega⟩
  have e12 : F_law_12 (LL q (.tup (ts.map tbl)) m k (some (.loc n)) (some (.loc (n + 3))) (some (.tup [.tup (hs.map MV.str), .tup as])) (some (.tup [.tup (hs.map MV.str), .tup as]))) (B ++ [.lst (hs.map MV.str), .lst (hs.map MV.str), .lst as, .lst [.loc (n + 1), .loc (n + 2)]]) = .ok (.next (LL q (.tup (ts.map tbl)) m k (some (.loc n)) (some (.loc (n + 3))) (some (.tup [.tup (hs.map MV.str), .tup as])) (some (.tup [.tup (hs.map MV.str), .tup as])))) (B ++ [.lst (hs.map MV.str), .lst (hs.map MV.str), .lst as, .lst [.loc (n + 1), .loc (n + 2)]]) := by
    unfold F_law_12
    simp? [told, ne, Bool.not_true, Bool.false_eq_true, if_false]
  have e13 : F_law_13 (LL q (.tup (ts.map tbl)) m k (some (.loc n)) (some (.loc (n + 3))) (some (.tup [.tup (hs.map MV.str), .tup as])) (some (.tup [.tup (hs.map MV.str), .tup as]))) (B ++ [.lst (hs.map MV.str), .lst (hs.map MV.str), .lst as, .lst [.loc (n + 1), .loc (n + 2)]]) = .ok (.next (LL q (.tup (ts.map tbl)) m k (some (.loc n)) (some (.loc (n + 3))) (some (.tup [.tup (hs.map MV.str), .tup as])) (some (.tup [.tup (hs.map MV.str), .tup as])))) (B ++ [.lst (hs.map MV.str), .lst (hs.map MV.str ++ [.str [97]]), .lst as, .lst [.loc (n + 1), .loc (n + 2)]]) := by
    unfold F_law_13
    simp? [j0, isl_loc (H1 (.lst (hs.map MV.str)) [.lst as, .lst [.loc (n + 1), .loc (n + 2)]]), app_loc (H1 (.lst (hs.map MV.str)) [.lst as, .lst [.loc (n + 1), .loc (n + 2)]]) (show (hs.map MV.str).length < 1000000 by rw [List.length_map]; omega), set_app (i := 1) hn]
  have e14 : F_law_14 (LL q (.tup (ts.map tbl)) m k (some (.loc n)) (some (.loc (n + 3))) (some (.tup [.tup (hs.map MV.str), .tup as])) (some (.tup [.tup (hs.map MV.str), .tup as]))) (B ++ [.lst (hs.map MV.str), .lst (hs.map MV.str ++ [.str [97]]), .lst as, .lst [.loc (n + 1), .loc (n + 2)]]) = .ok (.next (LL q (.tup (ts.map tbl)) m k (some (.loc n)) (some (.loc (n + 3))) (some (.tup [.tup (hs.map MV.str), .tup as])) (some (.tup [.tup (hs.map MV.str), .tup as])))) (B ++ [.lst (hs.map MV.str), .lst (hs.map MV.str ++ [.str [97]]), .lst [], .lst [.loc (n + 1), .loc (n + 2)]]) := by
    unfold F_law_14
    simp? [j1, isl_loc (H2 (.lst (hs.map MV.str)) (.lst (hs.map MV.str ++ [.str [97]])) [.lst [.loc (n + 1), .loc (n + 2)]]), clr_loc (H2 (.lst (hs.map MV.str)) (.lst (hs.map MV.str ++ [.str [97]])) [.lst [.loc (n + 1), .loc (n + 2)]]), set_app (i := 2) hn]
  have e15 : F_law_15 (LL q (.tup (ts.map tbl)) m k (some (.loc n)) (some (.loc (n + 3))) (some (.tup [.tup (hs.map MV.str), .tup as])) (some (.tup [.tup (hs.map MV.str), .tup as]))) (B ++ [.lst (hs.map MV.str), .lst (hs.map MV.str ++ [.str [97]]), .lst [], .lst [.loc (n + 1), .loc (n + 2)]]) = .ok (.ret (.val (.bl true))) (B ++ [.lst (hs.map MV.str), .lst (hs.map MV.str ++ [.str [97]]), .lst [], .lst [.loc (n + 1), .loc (n + 2)]]) := by
    unfold F_law_15
    simp? [told, andF]
  exact ⟨_, by rw [seq_next e8, seq_next e9, seq_next e10, seq_next e11, seq_next e12, seq_next e13, seq_next e14, e15]⟩
end
theorem law_true (ns : List Int) (h : ns.length ≤ 63) : ∃ S, f_law [.scr (ns.map MV.int)] [] = .ok (.val (.bl true)) S := by
  have hst : startR ["_law_script", "_law_tables_here", "_law_pool_here", "_law_names_here", "_law_atoms_here", "_law_well", "_law_k", "_law_head_here", "_law_handed", "_law_told_here", "_law_other"] [.scr (ns.map MV.int)] = [some (.scr (ns.map MV.int)), none, none, none, none, none, none, none, none, none, none] := rfl
  obtain ⟨c0, hc0⟩ := cell_ok ns 0 (by decide) []
  obtain ⟨t0, ht0⟩ := digits_ok c0 []
  obtain ⟨ts, hT, hts⟩ := tables_ok t0 []
  have tn : ∀ (o : List MV) (S : Sto), tupleF [.new o] S = .ok (.val (.tup o)) S := fun o S => rfl
  have e1 : F_law_1 [some (.scr (ns.map MV.int)), none, none, none, none, none, none, none, none, none, none] [] = .ok (.next [some (.scr (ns.map MV.int)), some (.tup (ts.map tbl)), none, none, none, none, none, none, none, none, none]) [] := by
    unfold F_law_1
    simp? [hc0, ht0, hts, tn]
  obtain ⟨c1, hc1⟩ := cell_ok ns 1 (by decide) []
  obtain ⟨t1, ht1⟩ := digits_ok c1 []
  obtain ⟨vs, hV, hv1, hv4, hpool⟩ := pool_ok t1 []
  have e2 : F_law_2 [some (.scr (ns.map MV.int)), some (.tup (ts.map tbl)), none, none, none, none, none, none, none, none, none] [] = .ok (.next [some (.scr (ns.map MV.int)), some (.tup (ts.map tbl)), some (.loc 0), none, none, none, none, none, none, none, none]) [.lst vs] := by
    unfold F_law_2
    simp? [hc1, ht1, hpool]
    rfl
  obtain ⟨c2, hc2⟩ := cell_ok ns 2 (by decide) [.lst vs]
  obtain ⟨t2, ht2⟩ := digits_ok c2 [.lst vs]
  obtain ⟨ys, hy3, hN, hnames⟩ := names_ok t2 [.lst vs]
  have e3 : F_law_3 [some (.scr (ns.map MV.int)), some (.tup (ts.map tbl)), some (.loc 0), none, none, none, none, none, none, none, none] [.lst vs] = .ok (.next [some (.scr (ns.map MV.int)), some (.tup (ts.map tbl)), some (.loc 0), some (.loc 1), none, none, none, none, none, none, none]) [.lst vs, .lst (ys.map MV.str)] := by
    unfold F_law_3
    simp? [hc2, ht2, hnames]
    rfl
  have e4 : F_law_4 [some (.scr (ns.map MV.int)), some (.tup (ts.map tbl)), some (.loc 0), some (.loc 1), none, none, none, none, none, none, none] [.lst vs, .lst (ys.map MV.str)] = .ok (.next [some (.scr (ns.map MV.int)), some (.tup (ts.map tbl)), some (.loc 0), some (.loc 1), some (.loc 2), none, none, none, none, none, none]) [.lst vs, .lst (ys.map MV.str), .lst []] := by
    unfold F_law_4
    simp? [bok]
    rfl
  obtain ⟨c3, hc3⟩ := cell_ok ns 3 (by decide) [.lst vs, .lst (ys.map MV.str), .lst []]
  obtain ⟨x, hx⟩ := digits_ok c3 [.lst vs, .lst (ys.map MV.str), .lst []]
  have e5 : F_law_5 [some (.scr (ns.map MV.int)), some (.tup (ts.map tbl)), some (.loc 0), some (.loc 1), some (.loc 2), none, none, none, none, none, none] [.lst vs, .lst (ys.map MV.str), .lst []] = .ok (.next (LL (.scr (ns.map MV.int)) (.tup (ts.map tbl)) 2 none none none none none)) (Wl ([.lst vs, .lst (ys.map MV.str), .lst [], .lst []] ++ []) 3 x) := by
    unfold F_law_5
    simp? [hc3, hx]
    rfl
  have q0 : 0 ≤ x % 4 := Int.emod_nonneg _ (by decide)
  have q1 : x % 4 < 4 := Int.emod_lt_of_pos _ (by decide)
  have l3 : ∀ T : Sto, 3 < ([MO.lst vs, .lst (ys.map MV.str), .lst [], .lst []] ++ T).length := fun T => by rw [List.length_append]; exact Nat.lt_of_lt_of_le (by decide) (Nat.le_add_right 4 _)
  obtain ⟨ρ', S', e, T, m, as, k', hρ, hS', hm, hm3, hal, hA⟩ := for_ix (L := (List.range (1 + x % 4).toNat).map fun k => MV.int (k : Nat)) (gf := gNm 6) (body := B_law_1) (gs := []) (S := Wl ([.lst vs, .lst (ys.map MV.str), .lst [], .lst []] ++ []) 3 (x / 4)) (ρ := LL (.scr (ns.map MV.int)) (.tup (ts.map tbl)) 2 none none none none none)
    (fun i ρ S' => ∃ (T : Sto) (m : Nat) (as : List MV) (k' : Option MV), ρ = LL (.scr (ns.map MV.int)) (.tup (ts.map tbl)) m k' none none none none ∧ S' = Wl ([.lst vs, .lst (ys.map MV.str), .lst [], .lst []] ++ T) 3 (x / 4) ∧ S'[m]? = some (.lst as) ∧ 3 ≠ m ∧ as.length = i ∧ ∀ d ∈ as, AtOk ts d) (fun i d hi ρ S1 ⟨T, m, as, k', hρ, hS1, hm, hm3, hal, hA⟩ => by
      subst hρ
      have hil : i < 4 := by have := (List.getElem?_eq_some_iff.mp hi).1; rw [List.length_map, List.length_range] at this; omega
      obtain ⟨j, _, rfl⟩ := List.mem_map.mp (List.mem_of_getElem? hi)
      have g0 : S1[0]? = some (.lst vs) := by rw [hS1]; rfl
      have g1 : S1[1]? = some (.lst (ys.map MV.str)) := by rw [hS1]; rfl
      have len : S1.length ≠ 3 := by rw [hS1, wl_len]; exact Nat.ne_of_gt (l3 T)
      obtain ⟨c, hc⟩ := cell_ok ns (4 + (j : Nat)) (by omega) S1
      obtain ⟨t, ht⟩ := digits_ok c S1
      obtain ⟨a, ha, hat⟩ := atoms_ok (S := S1) (p := 0) (q := 1) t g0 g1 hV hv1 hv4 hy3 hN hT
      have ad : addF (.val (.loc m)) (.new [a]) S1 = .ok (.new (as ++ [a])) S1 := add_ls (lsW_loc hm) rfl (fits (by simp only [List.length_singleton]; omega))
      refine ⟨LL (.scr (ns.map MV.int)) (.tup (ts.map tbl)) S1.length (some (.int (j : Nat))) none none none none, S1 ++ [.lst (as ++ [a])], ?_, stay0 _, T ++ [.lst (as ++ [a])], S1.length, as ++ [a], some (.int (j : Nat)), rfl, ?_, last_at _ _, fun z => len z.symm, by rw [List.length_append, hal]; rfl, fun d hd => ?_⟩
      · rw [show gNm 6 (.int (j : Nat)) (LL (.scr (ns.map MV.int)) (.tup (ts.map tbl)) m k' none none none none) S1 = .ok (LL (.scr (ns.map MV.int)) (.tup (ts.map tbl)) m (some (.int (j : Nat))) none none none none) S1 from rfl, bok]
        unfold B_law_1 B_law_1_1
        simp? [hc, ht, hat, ad]
      · rw [hS1, wl_app (l3 T), List.append_assoc]
      · rcases List.mem_append.mp hd with z | z
        · exact hA d z
        · rw [List.mem_singleton.mp z]; exact ha) ⟨[], 2, [], none, rfl, rfl, rfl, by decide, rfl, by simp⟩
  rw [List.length_map, List.length_range] at hal
  have e6 : F_law_6 (LL (.scr (ns.map MV.int)) (.tup (ts.map tbl)) 2 none none none none none) (Wl ([.lst vs, .lst (ys.map MV.str), .lst [], .lst []] ++ []) 3 x) = .ok (.next (LL (.scr (ns.map MV.int)) (.tup (ts.map tbl)) m k' none none none none)) (Wl ([.lst vs, .lst (ys.map MV.str), .lst [], .lst []] ++ T) 3 (x / 4)) := by
    unfold F_law_6
    simp? [take_ok (x := x) (l3 []) (show (0 : Int) < 4 by decide) (by decide), rng_ok (S := Wl ([.lst vs, .lst (ys.map MV.str), .lst [], .lst []] ++ []) 3 (x / 4)) (j := 1 + x % 4) (by omega)]
    rw [← hρ, ← hS']
    exact e
  have hm' : ([MO.lst vs, .lst (ys.map MV.str), .lst [], .lst []] ++ T)[m]? = some (.lst as) := by rw [← wl_ne hm3 (x / 4), ← hS']; exact hm
  obtain ⟨hs, z, hd, h3, hin, hhead⟩ := head_ok (S := [.lst vs, .lst (ys.map MV.str), .lst [], .lst []] ++ T) (l := 3) (a := m) (x := x / 4) (l3 T) hm3 hm' hA (by omega)
  have e7 : F_law_7 (LL (.scr (ns.map MV.int)) (.tup (ts.map tbl)) m k' none none none none) (Wl ([.lst vs, .lst (ys.map MV.str), .lst [], .lst []] ++ T) 3 (x / 4)) = .ok (.next (LL (.scr (ns.map MV.int)) (.tup (ts.map tbl)) m k' (some (.loc (Wl ([.lst vs, .lst (ys.map MV.str), .lst [], .lst []] ++ T) 3 z).length)) none none none)) (Wl ([.lst vs, .lst (ys.map MV.str), .lst [], .lst []] ++ T) 3 z ++ [.lst (hs.map MV.str)]) := by
    unfold F_law_7
    simp? [hhead]
  obtain ⟨Sf, hf⟩ := law_end (ts := ts) (q := .scr (ns.map MV.int)) (k := k') (B := Wl ([.lst vs, .lst (ys.map MV.str), .lst [], .lst []] ++ T) 3 z) rfl ((wl_ne hm3 z).trans hm') hA (by omega) (by omega) hd h3 hin
  refine ⟨Sf, ?_⟩
  unfold f_law F_law
  rw [hst, seq_next e1, seq_next e2, seq_next e3, seq_next e4, seq_next e5, seq_next e6, seq_next e7, hf]
  rfl
section
variable {P : Program} {w : World} {K : PySem.W.Frag} {mg : Str → Option Value} {base : Heap}
def top (i : Nat) : Stmt := PySem.Challenge.pw_mendsure_k30_a_question_as_handed_in.main.body.getD i (.Pass ⟨0, 0, 0, 0⟩)
abbrev s_is_whole : Stmt := top 5
theorem sc_is_whole : FnScope ["thing"] ["thing"] (defScope s_is_whole) := ⟨rfl, rfl, rfl, by decide +kernel, rfl, by decide +kernel, by decide +kernel⟩
theorem ok_is_whole {f : Addr} {fd : FuncData} (F : Fun K "is_whole" "is_whole" s_is_whole f fd) (z_int : mg "int" = none) (z_isinstance : mg "isinstance" = none) (z_bool : mg "bool" = none) : FnOk P w K mg base CX0 1 f fd ["thing"] (spM ⟨K, mg, P, w⟩ 1 f_is_whole) :=
  okM (k := 0) F_is_whole F sc_is_whole fun cdv A outer s H E hr => (sm_one (sm_ret (pm_and (pm_callB call_isi cm_isi rfl z_isinstance bt_isinstance (am_cons (pm_var 0) (am_cons (pm_ty rfl z_int bt_int) am_nil))) (pm_one (pm_not (pm_callB call_isi cm_isi rfl z_isinstance bt_isinstance (am_cons (pm_var 0) (am_cons (pm_ty rfl z_bool bt_bool) am_nil))))))))
abbrev s_is_name : Stmt := top 6
theorem sc_is_name : FnScope ["thing"] ["thing"] (defScope s_is_name) := ⟨rfl, rfl, rfl, by decide +kernel, rfl, by decide +kernel, by decide +kernel⟩
theorem ok_is_name {f : Addr} {fd : FuncData} (F : Fun K "is_name" "is_name" s_is_name f fd) (z_str : mg "str" = none) (z_isinstance : mg "isinstance" = none) (z_len : mg "len" = none) {t_MOST_LETTERS : Tok} (m_MOST_LETTERS : mg "MOST_LETTERS" = some (.int 8 t_MOST_LETTERS)) (z_all : mg "all" = none) : FnOk P w K mg base CX0 1 f fd ["thing"] (spM ⟨K, mg, P, w⟩ 1 f_is_name) :=
  okM (k := 0) F_is_name F sc_is_name fun cdv A outer s H E hr => (sm_cons (sm_if (wm_pt (wm_or (tm_not (tm_plain (pm_callB call_isi cm_isi rfl z_isinstance bt_isinstance (am_cons (pm_var 0) (am_cons (pm_ty rfl z_str bt_str) am_nil))))) (wm_or1 (tm_not (tm_lele pm_int (pm_callB call_lenM cm_len rfl z_len bt_len (am_cons (pm_var 0) am_nil)) (pm_gint rfl m_MOST_LETTERS)))))) (sm_one (sm_ret pm_bl)) sm_nil) (sm_one (sm_ret (pm_callB call_all_bls (cm_all rfl) rfl z_all bt_all (am_cons (pm_comp (defScope s_is_name) ["thing"] ["sign"] [] (im_str (pm_var 0)) rfl (fun _ _ _ _ hN => (gn_name 0 hN)) (fun _ _ _ _ => ifm_nil) (fun _ _ _ _ => (pm_lele (pm_str [97]) (pm_var 0) (pm_str [122])))) am_nil)))))
abbrev s_is_value : Stmt := top 7
theorem sc_is_value : FnScope ["thing"] ["thing"] (defScope s_is_value) := ⟨rfl, rfl, rfl, by decide +kernel, rfl, by decide +kernel, by decide +kernel⟩
theorem ok_is_value {f : Addr} {fd : FuncData} (F : Fun K "is_value" "is_value" s_is_value f fd) {fa_is_whole : Addr} {fd_is_whole : FuncData} (G_is_whole : FnOk P w K mg base CX0 1 fa_is_whole fd_is_whole ["thing"] (spM ⟨K, mg, P, w⟩ 1 f_is_whole)) (m_is_whole : mg "is_whole" = some (.ref fa_is_whole)) (kp_is_whole : PySem.W.keepIn K (.ref fa_is_whole) = true) (b_is_whole : Binds K fd_is_whole ["thing"] []) (z_abs : mg "abs" = none) {fa_is_name : Addr} {fd_is_name : FuncData} (G_is_name : FnOk P w K mg base CX0 1 fa_is_name fd_is_name ["thing"] (spM ⟨K, mg, P, w⟩ 1 f_is_name)) (m_is_name : mg "is_name" = some (.ref fa_is_name)) (kp_is_name : PySem.W.keepIn K (.ref fa_is_name) = true) (b_is_name : Binds K fd_is_name ["thing"] []) : FnOk P w K mg base CX0 2 f fd ["thing"] (spM ⟨K, mg, P, w⟩ 1 f_is_value) :=
  okM (k := 1) F_is_value F sc_is_value fun cdv A outer s H E hr => (sm_cons (sm_if (tm_plain (pm_call G_is_whole (hr.mono (by decide)) rfl m_is_whole kp_is_whole b_is_whole (am_cons (pm_var 0) am_nil))) (sm_one (sm_ret (pm_lt hr.units (pm_callB call_abs cm_abs rfl z_abs bt_abs (am_cons (pm_var 0) am_nil)) (pm_pow pm_int pm_int)))) sm_nil) (sm_one (sm_ret (pm_call G_is_name (hr.mono (by decide)) rfl m_is_name kp_is_name b_is_name (am_cons (pm_var 0) am_nil)))))
abbrev s_is_tuple : Stmt := top 9
theorem sc_is_tuple : FnScope ["thing", "least", "most"] ["thing", "least", "most"] (defScope s_is_tuple) := ⟨rfl, rfl, rfl, by decide +kernel, rfl, by decide +kernel, by decide +kernel⟩
theorem ok_is_tuple {f : Addr} {fd : FuncData} (F : Fun K "is_tuple" "is_tuple" s_is_tuple f fd) (z_tuple : mg "tuple" = none) (z_isinstance : mg "isinstance" = none) (z_len : mg "len" = none) : FnOk P w K mg base CX0 1 f fd ["thing", "least", "most"] (spM ⟨K, mg, P, w⟩ 3 f_is_tuple) :=
  okM (k := 0) F_is_tuple F sc_is_tuple fun cdv A outer s H E hr => (sm_one (sm_ret (pm_and (pm_callB call_isi cm_isi rfl z_isinstance bt_isinstance (am_cons (pm_var 0) (am_cons (pm_ty rfl z_tuple bt_tuple) am_nil))) (pm_one (pm_lele (pm_var 1) (pm_callB call_lenM cm_len rfl z_len bt_len (am_cons (pm_var 0) am_nil)) (pm_var 2))))))
abbrev s_is_number_below : Stmt := top 10
theorem sc_is_number_below : FnScope ["thing", "bound"] ["thing", "bound"] (defScope s_is_number_below) := ⟨rfl, rfl, rfl, by decide +kernel, rfl, by decide +kernel, by decide +kernel⟩
theorem ok_is_number_below {f : Addr} {fd : FuncData} (F : Fun K "is_number_below" "is_number_below" s_is_number_below f fd) {fa_is_whole : Addr} {fd_is_whole : FuncData} (G_is_whole : FnOk P w K mg base CX0 1 fa_is_whole fd_is_whole ["thing"] (spM ⟨K, mg, P, w⟩ 1 f_is_whole)) (m_is_whole : mg "is_whole" = some (.ref fa_is_whole)) (kp_is_whole : PySem.W.keepIn K (.ref fa_is_whole) = true) (b_is_whole : Binds K fd_is_whole ["thing"] []) : FnOk P w K mg base CX0 2 f fd ["thing", "bound"] (spM ⟨K, mg, P, w⟩ 2 f_is_number_below) :=
  okM (k := 1) F_is_number_below F sc_is_number_below fun cdv A outer s H E hr => (sm_one (sm_ret (pm_and (pm_call G_is_whole (hr.mono (by decide)) rfl m_is_whole kp_is_whole b_is_whole (am_cons (pm_var 0) am_nil)) (pm_one (pm_lelt hr.units pm_int (pm_var 0) (pm_var 1))))))
abbrev s_is_term : Stmt := top 14
theorem sc_is_term : FnScope ["thing"] ["thing"] (defScope s_is_term) := ⟨rfl, rfl, rfl, by decide +kernel, rfl, by decide +kernel, by decide +kernel⟩
theorem ok_is_term {f : Addr} {fd : FuncData} (F : Fun K "is_term" "is_term" s_is_term f fd) {fa_is_tuple : Addr} {fd_is_tuple : FuncData} (G_is_tuple : FnOk P w K mg base CX0 1 fa_is_tuple fd_is_tuple ["thing", "least", "most"] (spM ⟨K, mg, P, w⟩ 3 f_is_tuple)) (m_is_tuple : mg "is_tuple" = some (.ref fa_is_tuple)) (kp_is_tuple : PySem.W.keepIn K (.ref fa_is_tuple) = true) (b_is_tuple : Binds K fd_is_tuple ["thing", "least", "most"] []) {fa_is_name : Addr} {fd_is_name : FuncData} (G_is_name : FnOk P w K mg base CX0 1 fa_is_name fd_is_name ["thing"] (spM ⟨K, mg, P, w⟩ 1 f_is_name)) (m_is_name : mg "is_name" = some (.ref fa_is_name)) (kp_is_name : PySem.W.keepIn K (.ref fa_is_name) = true) (b_is_name : Binds K fd_is_name ["thing"] []) {fa_is_value : Addr} {fd_is_value : FuncData} (G_is_value : FnOk P w K mg base CX0 2 fa_is_value fd_is_value ["thing"] (spM ⟨K, mg, P, w⟩ 1 f_is_value)) (m_is_value : mg "is_value" = some (.ref fa_is_value)) (kp_is_value : PySem.W.keepIn K (.ref fa_is_value) = true) (b_is_value : Binds K fd_is_value ["thing"] []) : FnOk P w K mg base CX0 3 f fd ["thing"] (spM ⟨K, mg, P, w⟩ 1 f_is_term) :=
  okM (k := 2) F_is_term F sc_is_term fun cdv A outer s H E hr => (sm_cons (sm_if (tm_not (tm_plain (pm_call G_is_tuple (hr.mono (by decide)) rfl m_is_tuple kp_is_tuple b_is_tuple (am_cons (pm_var 0) (am_cons pm_int (am_cons pm_int am_nil)))))) (sm_one (sm_ret pm_bl)) sm_nil) (sm_cons (sm_if (tm_eq hr.units (pm_at (pm_var 0) pm_int) (pm_str [118, 97, 114])) (sm_one (sm_ret (pm_call G_is_name (hr.mono (by decide)) rfl m_is_name kp_is_name b_is_name (am_cons (pm_at (pm_var 0) pm_int) am_nil)))) sm_nil) (sm_one (sm_ret (pm_and (pm_eq hr.units (pm_at (pm_var 0) pm_int) (pm_str [105, 115])) (pm_one (pm_call G_is_value (hr.mono (by decide)) rfl m_is_value kp_is_value b_is_value (am_cons (pm_at (pm_var 0) pm_int) am_nil))))))))
abbrev s_is_atom : Stmt := top 15
theorem sc_is_atom : FnScope ["thing", "tables", "wide"] ["thing", "tables"] (defScope s_is_atom) := ⟨rfl, rfl, rfl, by decide +kernel, rfl, by decide +kernel, by decide +kernel⟩
theorem ok_is_atom {f : Addr} {fd : FuncData} (F : Fun K "is_atom" "is_atom" s_is_atom f fd) {fa_is_tuple : Addr} {fd_is_tuple : FuncData} (G_is_tuple : FnOk P w K mg base CX0 1 fa_is_tuple fd_is_tuple ["thing", "least", "most"] (spM ⟨K, mg, P, w⟩ 3 f_is_tuple)) (m_is_tuple : mg "is_tuple" = some (.ref fa_is_tuple)) (kp_is_tuple : PySem.W.keepIn K (.ref fa_is_tuple) = true) (b_is_tuple : Binds K fd_is_tuple ["thing", "least", "most"] []) {fa_is_number_below : Addr} {fd_is_number_below : FuncData} (G_is_number_below : FnOk P w K mg base CX0 2 fa_is_number_below fd_is_number_below ["thing", "bound"] (spM ⟨K, mg, P, w⟩ 2 f_is_number_below)) (m_is_number_below : mg "is_number_below" = some (.ref fa_is_number_below)) (kp_is_number_below : PySem.W.keepIn K (.ref fa_is_number_below) = true) (b_is_number_below : Binds K fd_is_number_below ["thing", "bound"] []) (z_len : mg "len" = none) {fa_is_term : Addr} {fd_is_term : FuncData} (G_is_term : FnOk P w K mg base CX0 3 fa_is_term fd_is_term ["thing"] (spM ⟨K, mg, P, w⟩ 1 f_is_term)) (m_is_term : mg "is_term" = some (.ref fa_is_term)) (kp_is_term : PySem.W.keepIn K (.ref fa_is_term) = true) (b_is_term : Binds K fd_is_term ["thing"] []) (z_all : mg "all" = none) : FnOk P w K mg base CX0 4 f fd ["thing", "tables"] (spM ⟨K, mg, P, w⟩ 2 f_is_atom) :=
  okM (k := 3) F_is_atom F sc_is_atom fun cdv A outer s H E hr => (sm_cons (sm_if (wm_pt (wm_or (tm_not (tm_plain (pm_call G_is_tuple (hr.mono (by decide)) rfl m_is_tuple kp_is_tuple b_is_tuple (am_cons (pm_var 0) (am_cons pm_int (am_cons pm_int am_nil)))))) (wm_or1 (tm_not (tm_plain (pm_call G_is_number_below (hr.mono (by decide)) rfl m_is_number_below kp_is_number_below b_is_number_below (am_cons (pm_at (pm_var 0) pm_int) (am_cons (pm_callB call_lenM cm_len rfl z_len bt_len (am_cons (pm_var 1) am_nil)) am_nil)))))))) (sm_one (sm_ret pm_bl)) sm_nil) (sm_cons (sm_set 2 sc_is_atom.nd (pm_at (pm_at (pm_var 1) (pm_at (pm_var 0) pm_int)) pm_int)) (sm_one (sm_ret (pm_and (pm_call G_is_tuple (hr.mono (by decide)) rfl m_is_tuple kp_is_tuple b_is_tuple (am_cons (pm_at (pm_var 0) pm_int) (am_cons (pm_var 2) (am_cons (pm_var 2) am_nil)))) (pm_one (pm_callB call_all_bls (cm_all rfl) rfl z_all bt_all (am_cons (pm_comp (defScope s_is_atom) ["thing", "tables", "wide"] ["term"] [] (im_tup (pm_at (pm_var 0) pm_int)) rfl (fun _ _ _ _ hN => (gn_name 0 hN)) (fun _ _ _ _ => ifm_nil) (fun _ _ _ _ => (pm_call G_is_term (hr.mono (by decide)) rfl m_is_term kp_is_term b_is_term (am_cons (pm_var 0) am_nil)))) am_nil))))))))
abbrev s_names_in : Stmt := top 16
theorem sc_names_in : FnScope ["atoms", "names", "atom", "term"] ["atoms"] (defScope s_names_in) := ⟨rfl, rfl, rfl, by decide +kernel, rfl, by decide +kernel, by decide +kernel⟩
theorem ok_names_in {f : Addr} {fd : FuncData} (F : Fun K "names_in" "names_in" s_names_in f fd) (z_list : mg "list" = none) : FnOk P w K mg base CX0 1 f fd ["atoms"] (spM ⟨K, mg, P, w⟩ 1 f_names_in) :=
  okM (k := 0) F_names_in F sc_names_in fun cdv A outer s H E hr => (sm_cons (sm_set 1 sc_names_in.nd pm_dict0) (sm_cons (sm_for PassesOwn.never rfl (im_seq (pm_var 0)) (gm_name 2 sc_names_in.nd) (sm_one (sm_for PassesOwn.never rfl (im_tup (pm_at (pm_var 2) pm_int)) (gm_name 3 sc_names_in.nd) (sm_one (sm_if (tm_eq hr.units (pm_at (pm_var 3) pm_int) (pm_str [118, 97, 114])) (sm_one (sm_asg pm_bl (gm_subK (pm_var 1) (pm_at (pm_var 3) pm_int)))) sm_nil))))) (sm_one (sm_ret (pm_callTy call_listK (cm_listK rfl) rfl z_list bt_list (am_cons (pm_var 1) am_nil))))))
abbrev s_is_head : Stmt := top 17
theorem sc_is_head : FnScope ["things", "atoms", "standing"] ["things", "atoms"] (defScope s_is_head) := ⟨rfl, rfl, rfl, by decide +kernel, rfl, by decide +kernel, by decide +kernel⟩
theorem ok_is_head {f : Addr} {fd : FuncData} (F : Fun K "is_head" "is_head" s_is_head f fd) {fa_names_in : Addr} {fd_names_in : FuncData} (G_names_in : FnOk P w K mg base CX0 1 fa_names_in fd_names_in ["atoms"] (spM ⟨K, mg, P, w⟩ 1 f_names_in)) (m_names_in : mg "names_in" = some (.ref fa_names_in)) (kp_names_in : PySem.W.keepIn K (.ref fa_names_in) = true) (b_names_in : Binds K fd_names_in ["atoms"] []) (z_len : mg "len" = none) {t_MOST_NAMES : Tok} (m_MOST_NAMES : mg "MOST_NAMES" = some (.int 4 t_MOST_NAMES)) (z_all : mg "all" = none) (z_set : mg "set" = none) : FnOk P w K mg base CX0 2 f fd ["things", "atoms"] (spM ⟨K, mg, P, w⟩ 2 f_is_head) :=
  okM (k := 1) F_is_head F sc_is_head fun cdv A outer s H E hr => (sm_cons (sm_set 2 sc_is_head.nd (pm_call G_names_in (hr.mono (by decide)) rfl m_names_in kp_names_in b_names_in (am_cons (pm_var 1) am_nil))) (sm_cons (sm_if (wm_pt (wm_or (tm_gt (pm_callB call_lenM cm_len rfl z_len bt_len (am_cons (pm_var 0) am_nil)) (pm_gint rfl m_MOST_NAMES)) (wm_or1 (tm_not (tm_plain (pm_callB call_all_bls (cm_all rfl) rfl z_all bt_all (am_cons (pm_comp (defScope s_is_head) ["things", "atoms", "standing"] ["thing"] [2] (im_seq (pm_var 0)) rfl (fun _ _ _ _ hN => (gn_name 0 hN)) (fun _ _ _ _ => ifm_nil) (fun _ _ _ _ => (pm_in hr.units (pm_var 0) (pm_var 1)))) am_nil))))))) (sm_one (sm_ret pm_bl)) sm_nil) (sm_one (sm_ret (pm_eq hr.units (pm_lset rfl rfl z_len rfl z_set (am_cons (pm_var 0) am_nil)) (pm_callB call_lenM cm_len rfl z_len bt_len (am_cons (pm_var 0) am_nil)))))))
abbrev s_listed : Stmt := top 18
theorem sc_listed : FnScope ["thing"] ["thing"] (defScope s_listed) := ⟨rfl, rfl, rfl, by decide +kernel, rfl, by decide +kernel, by decide +kernel⟩
theorem ok_listed {f : Addr} {fd : FuncData} (F : Fun K "listed" "listed" s_listed f fd) (z_list : mg "list" = none) (z_tuple : mg "tuple" = none) (z_isinstance : mg "isinstance" = none) : FnOk P w K mg base CX0 1 f fd ["thing"] (spM ⟨K, mg, P, w⟩ 1 f_listed) :=
  okM (k := 0) F_listed F sc_listed fun cdv A outer s H E hr => (sm_one (sm_ret (pm_callB call_isiT cm_isiT rfl z_isinstance bt_isinstance (am_cons (pm_var 0) (am_cons (pm_tup (am_cons (pm_ty rfl z_list bt_list) (am_cons (pm_ty rfl z_tuple bt_tuple) am_nil))) am_nil)))))
abbrev s_question_of : Stmt := top 19
theorem sc_question_of : FnScope ["tables", "head", "atoms", "place", "atom"] ["tables", "head", "atoms"] (defScope s_question_of) := ⟨rfl, rfl, rfl, by decide +kernel, rfl, by decide +kernel, by decide +kernel⟩
theorem ok_question_of {f : Addr} {fd : FuncData} (F : Fun K "question_of" "question_of" s_question_of f fd) {fa_listed : Addr} {fd_listed : FuncData} (G_listed : FnOk P w K mg base CX0 1 fa_listed fd_listed ["thing"] (spM ⟨K, mg, P, w⟩ 1 f_listed)) (m_listed : mg "listed" = some (.ref fa_listed)) (kp_listed : PySem.W.keepIn K (.ref fa_listed) = true) (b_listed : Binds K fd_listed ["thing"] []) (z_enumerate : mg "enumerate" = none) {fa_is_atom : Addr} {fd_is_atom : FuncData} (G_is_atom : FnOk P w K mg base CX0 4 fa_is_atom fd_is_atom ["thing", "tables"] (spM ⟨K, mg, P, w⟩ 2 f_is_atom)) (m_is_atom : mg "is_atom" = some (.ref fa_is_atom)) (kp_is_atom : PySem.W.keepIn K (.ref fa_is_atom) = true) (b_is_atom : Binds K fd_is_atom ["thing", "tables"] []) (z_len : mg "len" = none) {t_MOST_ATOMS : Tok} (m_MOST_ATOMS : mg "MOST_ATOMS" = some (.int 4 t_MOST_ATOMS)) {fa_is_head : Addr} {fd_is_head : FuncData} (G_is_head : FnOk P w K mg base CX0 2 fa_is_head fd_is_head ["things", "atoms"] (spM ⟨K, mg, P, w⟩ 2 f_is_head)) (m_is_head : mg "is_head" = some (.ref fa_is_head)) (kp_is_head : PySem.W.keepIn K (.ref fa_is_head) = true) (b_is_head : Binds K fd_is_head ["things", "atoms"] []) (z_tuple : mg "tuple" = none) : FnOk P w K mg base CX0 5 f fd ["tables", "head", "atoms"] (spM ⟨K, mg, P, w⟩ 3 f_question_of) :=
  okM (k := 4) F_question_of F sc_question_of fun cdv A outer s H E hr => (sm_cons (sm_if (tm_not (tm_plain (pm_call G_listed (hr.mono (by decide)) rfl m_listed kp_listed b_listed (am_cons (pm_var 2) am_nil)))) (sm_one sm_never) sm_nil) (sm_cons (sm_for PassesOwn.never rfl (im_enum rfl z_enumerate (am_cons (pm_var 2) am_nil)) (gm_tup rfl (gm_cons (gm_name 3 sc_question_of.nd) (gm_cons (gm_name 4 sc_question_of.nd) gm_nil))) (sm_one (sm_if (tm_not (tm_plain (pm_call G_is_atom (hr.mono (by decide)) rfl m_is_atom kp_is_atom b_is_atom (am_cons (pm_var 4) (am_cons (pm_var 0) am_nil))))) (sm_one sm_never) sm_nil))) (sm_cons (sm_if (wm_pt (wm_or (tm_not (tm_lele pm_int (pm_callB call_lenM cm_len rfl z_len bt_len (am_cons (pm_var 2) am_nil)) (pm_gint rfl m_MOST_ATOMS))) (wm_or (tm_not (tm_plain (pm_call G_listed (hr.mono (by decide)) rfl m_listed kp_listed b_listed (am_cons (pm_var 1) am_nil)))) (wm_or1 (tm_not (tm_plain (pm_call G_is_head (hr.mono (by decide)) rfl m_is_head kp_is_head b_is_head (am_cons (pm_var 1) (am_cons (pm_var 2) am_nil))))))))) (sm_one sm_never) sm_nil) (sm_one (sm_ret (pm_tup (am_cons (pm_callTy call_tuple_of cm_tuple rfl z_tuple bt_tuple (am_cons (pm_var 1) am_nil)) (am_cons (pm_callTy call_tuple_of cm_tuple rfl z_tuple bt_tuple (am_cons (pm_var 2) am_nil)) am_nil))))))))
abbrev s__law_cell_at : Stmt := top 21
theorem sc__law_cell_at : FnScope ["_law_script", "_law_k"] ["_law_script", "_law_k"] (defScope s__law_cell_at) := ⟨rfl, rfl, rfl, by decide +kernel, rfl, by decide +kernel, by decide +kernel⟩
theorem ok__law_cell_at {f : Addr} {fd : FuncData} (F : Fun K "_law_cell_at" "_law_cell_at" s__law_cell_at f fd) (z_len : mg "len" = none) : FnOk P w K mg base CX0 1 f fd ["_law_script", "_law_k"] (spM ⟨K, mg, P, w⟩ 2 f__law_cell_at) :=
  okM (k := 0) F__law_cell_at F sc__law_cell_at fun cdv A outer s H E hr => (sm_cons (sm_if (tm_lt hr.units (pm_var 1) (pm_callB call_lenM cm_len rfl z_len bt_len (am_cons (pm_var 0) am_nil))) (sm_one (sm_ret (pm_at (pm_var 0) (pm_var 1)))) sm_nil) (sm_one (sm_ret pm_int)))
abbrev s__law_digits : Stmt := top 22
theorem sc__law_digits : FnScope ["_law_cell", "_law_rest", "_law_number", "_law_total", "_law_k", "_law_other"] ["_law_cell"] (defScope s__law_digits) := ⟨rfl, rfl, rfl, by decide +kernel, rfl, by decide +kernel, by decide +kernel⟩
theorem ok__law_digits {f : Addr} {fd : FuncData} (F : Fun K "_law_digits" "_law_digits" s__law_digits f fd) (z_range : mg "range" = none) : FnOk P w K mg base CX0 1 f fd ["_law_cell"] (spM ⟨K, mg, P, w⟩ 1 f__law_digits) :=
  okM (k := 0) F__law_digits F sc__law_digits fun cdv A outer s H E hr => (sm_cons (sm_set 1 sc__law_digits.nd (pm_div (pm_var 0) pm_int)) (sm_cons (sm_if (tm_eq hr.units (pm_mod (pm_var 0) pm_int) pm_int) (sm_one (sm_ret (pm_lst (am_cons (pm_var 1) am_nil)))) sm_nil) (sm_cons (sm_set 2 sc__law_digits.nd (pm_mod (pm_var 1) pm_int)) (sm_cons (sm_set 3 sc__law_digits.nd pm_int) (sm_cons (sm_for PassesOwn.never rfl (im_range1 rfl z_range (am_cons pm_int am_nil)) (gm_name 4 sc__law_digits.nd) (sm_cons (sm_set 2 sc__law_digits.nd (pm_mod (pm_add (pm_add (pm_mul (pm_var 2) pm_int) (pm_mul pm_int (pm_var 4))) pm_int) pm_int)) (sm_cons (sm_set 5 sc__law_digits.nd (pm_mod (pm_mul (pm_var 2) (pm_var 2)) pm_int)) (sm_one (sm_set 3 sc__law_digits.nd (pm_add (pm_mul (pm_var 3) pm_int) (pm_mod (pm_mul (pm_var 5) pm_int) pm_int))))))) (sm_one (sm_ret (pm_lst (am_cons (pm_var 3) am_nil)))))))))
abbrev s__law_take : Stmt := top 23
theorem sc__law_take : FnScope ["_law_well", "_law_many", "_law_digit"] ["_law_well", "_law_many"] (defScope s__law_take) := ⟨rfl, rfl, rfl, by decide +kernel, rfl, by decide +kernel, by decide +kernel⟩
theorem ok__law_take {f : Addr} {fd : FuncData} (F : Fun K "_law_take" "_law_take" s__law_take f fd)  : FnOk P w K mg base CX0 1 f fd ["_law_well", "_law_many"] (spM ⟨K, mg, P, w⟩ 2 f__law_take) :=
  okM (k := 0) F__law_take F sc__law_take fun cdv A outer s H E hr => (sm_cons (sm_set 2 sc__law_take.nd (pm_mod (pm_at (pm_var 0) pm_int) (pm_var 1))) (sm_cons (sm_asg (pm_div (pm_at (pm_var 0) pm_int) (pm_var 1)) (gm_sub (pm_var 0) pm_int)) (sm_one (sm_ret (pm_var 2)))))
abbrev s__law_word : Stmt := top 24
theorem sc__law_word : FnScope ["_law_well", "_law_letters", "_law_word_here", "_law_k"] ["_law_well"] (defScope s__law_word) := ⟨rfl, rfl, rfl, by decide +kernel, rfl, by decide +kernel, by decide +kernel⟩
theorem ok__law_word {f : Addr} {fd : FuncData} (F : Fun K "_law_word" "_law_word" s__law_word f fd) (z_range : mg "range" = none) {fa__law_take : Addr} {fd__law_take : FuncData} (G__law_take : FnOk P w K mg base CX0 1 fa__law_take fd__law_take ["_law_well", "_law_many"] (spM ⟨K, mg, P, w⟩ 2 f__law_take)) (m__law_take : mg "_law_take" = some (.ref fa__law_take)) (kp__law_take : PySem.W.keepIn K (.ref fa__law_take) = true) (b__law_take : Binds K fd__law_take ["_law_well", "_law_many"] []) : FnOk P w K mg base CX0 2 f fd ["_law_well"] (spM ⟨K, mg, P, w⟩ 1 f__law_word) :=
  okM (k := 1) F__law_word F sc__law_word fun cdv A outer s H E hr => (sm_cons (sm_set 1 sc__law_word.nd (pm_str [97, 98, 99, 100, 101, 102, 103, 104, 105, 106, 107, 108, 109, 110, 111, 112, 113, 114, 115, 116, 117, 118, 119, 120, 121, 122])) (sm_cons (sm_set 2 sc__law_word.nd (pm_str [])) (sm_cons (sm_for PassesOwn.never rfl (im_range1 rfl z_range (am_cons (pm_add pm_int (pm_call G__law_take (hr.mono (by decide)) rfl m__law_take kp__law_take b__law_take (am_cons (pm_var 0) (am_cons pm_int am_nil)))) am_nil)) (gm_name 3 sc__law_word.nd) (sm_one (sm_set 2 sc__law_word.nd (pm_add (pm_var 2) (pm_at (pm_var 1) (pm_call G__law_take (hr.mono (by decide)) rfl m__law_take kp__law_take b__law_take (am_cons (pm_var 0) (am_cons pm_int am_nil)))))))) (sm_one (sm_ret (pm_var 2))))))
abbrev s__law_pool : Stmt := top 25
theorem sc__law_pool : FnScope ["_law_well", "_law_many", "_law_pool_here", "_law_k", "_law_way", "_law_value"] ["_law_well", "_law_many"] (defScope s__law_pool) := ⟨rfl, rfl, rfl, by decide +kernel, rfl, by decide +kernel, by decide +kernel⟩
theorem ok__law_pool {f : Addr} {fd : FuncData} (F : Fun K "_law_pool" "_law_pool" s__law_pool f fd) (z_range : mg "range" = none) {fa__law_take : Addr} {fd__law_take : FuncData} (G__law_take : FnOk P w K mg base CX0 1 fa__law_take fd__law_take ["_law_well", "_law_many"] (spM ⟨K, mg, P, w⟩ 2 f__law_take)) (m__law_take : mg "_law_take" = some (.ref fa__law_take)) (kp__law_take : PySem.W.keepIn K (.ref fa__law_take) = true) (b__law_take : Binds K fd__law_take ["_law_well", "_law_many"] []) {fa__law_word : Addr} {fd__law_word : FuncData} (G__law_word : FnOk P w K mg base CX0 2 fa__law_word fd__law_word ["_law_well"] (spM ⟨K, mg, P, w⟩ 1 f__law_word)) (m__law_word : mg "_law_word" = some (.ref fa__law_word)) (kp__law_word : PySem.W.keepIn K (.ref fa__law_word) = true) (b__law_word : Binds K fd__law_word ["_law_well"] []) : FnOk P w K mg base CX0 3 f fd ["_law_well", "_law_many"] (spM ⟨K, mg, P, w⟩ 2 f__law_pool) :=
  okM (k := 2) F__law_pool F sc__law_pool fun cdv A outer s H E hr => (sm_cons (sm_set 2 sc__law_pool.nd (pm_lst am_nil)) (sm_cons (sm_for PassesOwn.never rfl (im_range1 rfl z_range (am_cons (pm_var 1) am_nil)) (gm_name 3 sc__law_pool.nd) (sm_cons (sm_set 4 sc__law_pool.nd (pm_call G__law_take (hr.mono (by decide)) rfl m__law_take kp__law_take b__law_take (am_cons (pm_var 0) (am_cons pm_int am_nil)))) (sm_cons (sm_set 5 sc__law_pool.nd (pm_sub (pm_call G__law_take (hr.mono (by decide)) rfl m__law_take kp__law_take b__law_take (am_cons (pm_var 0) (am_cons pm_int am_nil))) pm_int)) (sm_cons (sm_if (tm_eq hr.units (pm_var 4) pm_int) (sm_one (sm_set 5 sc__law_pool.nd (pm_add (pm_sub (pm_call G__law_take (hr.mono (by decide)) rfl m__law_take kp__law_take b__law_take (am_cons (pm_var 0) (am_cons (pm_sub (pm_mul pm_int (pm_pow pm_int pm_int)) pm_int) am_nil))) (pm_pow pm_int pm_int)) pm_int))) sm_nil) (sm_cons (sm_if (tm_gt (pm_var 4) pm_int) (sm_one (sm_set 5 sc__law_pool.nd (pm_call G__law_word (hr.mono (by decide)) rfl m__law_word kp__law_word b__law_word (am_cons (pm_var 0) am_nil)))) sm_nil) (sm_one (sm_if (tm_notin hr.units (pm_var 5) (pm_var 2)) (sm_one (sm_expr (pm_append (pm_var 2) (am_cons (pm_var 5) am_nil)))) sm_nil))))))) (sm_one (sm_ret (pm_var 2)))))
abbrev s__law_tables : Stmt := top 26
theorem sc__law_tables : FnScope ["_law_well", "_law_tables_here", "_law_k", "_law_wide"] ["_law_well"] (defScope s__law_tables) := ⟨rfl, rfl, rfl, by decide +kernel, rfl, by decide +kernel, by decide +kernel⟩
theorem ok__law_tables {f : Addr} {fd : FuncData} (F : Fun K "_law_tables" "_law_tables" s__law_tables f fd) (z_range : mg "range" = none) {fa__law_take : Addr} {fd__law_take : FuncData} (G__law_take : FnOk P w K mg base CX0 1 fa__law_take fd__law_take ["_law_well", "_law_many"] (spM ⟨K, mg, P, w⟩ 2 f__law_take)) (m__law_take : mg "_law_take" = some (.ref fa__law_take)) (kp__law_take : PySem.W.keepIn K (.ref fa__law_take) = true) (b__law_take : Binds K fd__law_take ["_law_well", "_law_many"] []) : FnOk P w K mg base CX0 2 f fd ["_law_well"] (spM ⟨K, mg, P, w⟩ 1 f__law_tables) :=
  okM (k := 1) F__law_tables F sc__law_tables fun cdv A outer s H E hr => (sm_cons (sm_set 1 sc__law_tables.nd (pm_lst am_nil)) (sm_cons (sm_for PassesOwn.never rfl (im_range1 rfl z_range (am_cons (pm_add pm_int (pm_call G__law_take (hr.mono (by decide)) rfl m__law_take kp__law_take b__law_take (am_cons (pm_var 0) (am_cons pm_int am_nil)))) am_nil)) (gm_name 2 sc__law_tables.nd) (sm_cons (sm_set 3 sc__law_tables.nd (pm_add pm_int (pm_call G__law_take (hr.mono (by decide)) rfl m__law_take kp__law_take b__law_take (am_cons (pm_var 0) (am_cons pm_int am_nil))))) (sm_one (sm_expr (pm_append (pm_var 1) (am_cons (pm_tup (am_cons (pm_var 3) (am_cons (pm_call G__law_take (hr.mono (by decide)) rfl m__law_take kp__law_take b__law_take (am_cons (pm_var 0) (am_cons (pm_add (pm_var 3) pm_int) am_nil))) am_nil))) am_nil)))))) (sm_one (sm_ret (pm_var 1)))))
abbrev s__law_term : Stmt := top 27
theorem sc__law_term : FnScope ["_law_well", "_law_names_here", "_law_pool_here"] ["_law_well", "_law_names_here", "_law_pool_here"] (defScope s__law_term) := ⟨rfl, rfl, rfl, by decide +kernel, rfl, by decide +kernel, by decide +kernel⟩
theorem ok__law_term {f : Addr} {fd : FuncData} (F : Fun K "_law_term" "_law_term" s__law_term f fd) {fa__law_take : Addr} {fd__law_take : FuncData} (G__law_take : FnOk P w K mg base CX0 1 fa__law_take fd__law_take ["_law_well", "_law_many"] (spM ⟨K, mg, P, w⟩ 2 f__law_take)) (m__law_take : mg "_law_take" = some (.ref fa__law_take)) (kp__law_take : PySem.W.keepIn K (.ref fa__law_take) = true) (b__law_take : Binds K fd__law_take ["_law_well", "_law_many"] []) (z_len : mg "len" = none) : FnOk P w K mg base CX0 2 f fd ["_law_well", "_law_names_here", "_law_pool_here"] (spM ⟨K, mg, P, w⟩ 3 f__law_term) :=
  okM (k := 1) F__law_term F sc__law_term fun cdv A outer s H E hr => (sm_cons (sm_if (tm_eq hr.units (pm_call G__law_take (hr.mono (by decide)) rfl m__law_take kp__law_take b__law_take (am_cons (pm_var 0) (am_cons pm_int am_nil))) pm_int) (sm_one (sm_ret (pm_tup (am_cons (pm_str [105, 115]) (am_cons (pm_at (pm_var 2) (pm_call G__law_take (hr.mono (by decide)) rfl m__law_take kp__law_take b__law_take (am_cons (pm_var 0) (am_cons (pm_callB call_lenM cm_len rfl z_len bt_len (am_cons (pm_var 2) am_nil)) am_nil)))) am_nil))))) sm_nil) (sm_one (sm_ret (pm_tup (am_cons (pm_str [118, 97, 114]) (am_cons (pm_at (pm_var 1) (pm_call G__law_take (hr.mono (by decide)) rfl m__law_take kp__law_take b__law_take (am_cons (pm_var 0) (am_cons (pm_callB call_lenM cm_len rfl z_len bt_len (am_cons (pm_var 1) am_nil)) am_nil)))) am_nil))))))
abbrev s__law_atoms : Stmt := top 28
theorem sc__law_atoms : FnScope ["_law_well", "_law_tables_here", "_law_names_here", "_law_pool_here", "_law_many", "_law_atoms_here", "_law_k", "_law_t"] ["_law_well", "_law_tables_here", "_law_names_here", "_law_pool_here", "_law_many"] (defScope s__law_atoms) := ⟨rfl, rfl, rfl, by decide +kernel, rfl, by decide +kernel, by decide +kernel⟩
theorem ok__law_atoms {f : Addr} {fd : FuncData} (F : Fun K "_law_atoms" "_law_atoms" s__law_atoms f fd) (z_range : mg "range" = none) {fa__law_take : Addr} {fd__law_take : FuncData} (G__law_take : FnOk P w K mg base CX0 1 fa__law_take fd__law_take ["_law_well", "_law_many"] (spM ⟨K, mg, P, w⟩ 2 f__law_take)) (m__law_take : mg "_law_take" = some (.ref fa__law_take)) (kp__law_take : PySem.W.keepIn K (.ref fa__law_take) = true) (b__law_take : Binds K fd__law_take ["_law_well", "_law_many"] []) (z_len : mg "len" = none) {fa__law_term : Addr} {fd__law_term : FuncData} (G__law_term : FnOk P w K mg base CX0 2 fa__law_term fd__law_term ["_law_well", "_law_names_here", "_law_pool_here"] (spM ⟨K, mg, P, w⟩ 3 f__law_term)) (m__law_term : mg "_law_term" = some (.ref fa__law_term)) (kp__law_term : PySem.W.keepIn K (.ref fa__law_term) = true) (b__law_term : Binds K fd__law_term ["_law_well", "_law_names_here", "_law_pool_here"] []) (z_tuple : mg "tuple" = none) : FnOk P w K mg base CX0 3 f fd ["_law_well", "_law_tables_here", "_law_names_here", "_law_pool_here", "_law_many"] (spM ⟨K, mg, P, w⟩ 5 f__law_atoms) :=
  okM (k := 2) F__law_atoms F sc__law_atoms fun cdv A outer s H E hr => (sm_cons (sm_set 5 sc__law_atoms.nd (pm_lst am_nil)) (sm_cons (sm_for PassesOwn.never rfl (im_range1 rfl z_range (am_cons (pm_var 4) am_nil)) (gm_name 6 sc__law_atoms.nd) (sm_cons (sm_set 7 sc__law_atoms.nd (pm_call G__law_take (hr.mono (by decide)) rfl m__law_take kp__law_take b__law_take (am_cons (pm_var 0) (am_cons (pm_callB call_lenM cm_len rfl z_len bt_len (am_cons (pm_var 1) am_nil)) am_nil)))) (sm_one (sm_expr (pm_append (pm_var 5) (am_cons (pm_tup (am_cons (pm_var 7) (am_cons (pm_callTy call_tuple_of cm_tuple rfl z_tuple bt_tuple (am_cons (pm_comp (defScope s__law_atoms) ["_law_well", "_law_tables_here", "_law_names_here", "_law_pool_here", "_law_many", "_law_atoms_here", "_law_k", "_law_t"] ["_law_j"] [0, 2, 3] (im_range1 rfl z_range (am_cons (pm_at (pm_at (pm_var 1) (pm_var 7)) pm_int) am_nil)) rfl (fun _ _ _ _ hN => (gn_name 0 hN)) (fun _ _ _ _ => ifm_nil) (fun _ _ _ _ => (pm_call G__law_term (hr.mono (by decide)) rfl m__law_term kp__law_term b__law_term (am_cons (pm_var 1) (am_cons (pm_var 2) (am_cons (pm_var 3) am_nil)))))) am_nil)) am_nil))) am_nil)))))) (sm_one (sm_ret (pm_var 5)))))
abbrev s__law_names_in : Stmt := top 29
theorem sc__law_names_in : FnScope ["_law_atoms_here", "_law_found", "_law_t", "_law_terms", "_law_word_here", "_law_name"] ["_law_atoms_here"] (defScope s__law_names_in) := ⟨rfl, rfl, rfl, by decide +kernel, rfl, by decide +kernel, by decide +kernel⟩
theorem ok__law_names_in {f : Addr} {fd : FuncData} (F : Fun K "_law_names_in" "_law_names_in" s__law_names_in f fd)  : FnOk P w K mg base CX0 1 f fd ["_law_atoms_here"] (spM ⟨K, mg, P, w⟩ 1 f__law_names_in) :=
  okM (k := 0) F__law_names_in F sc__law_names_in fun cdv A outer s H E hr => (sm_cons (sm_set 1 sc__law_names_in.nd (pm_lst am_nil)) (sm_cons (sm_for PassesOwn.never rfl (im_list (pm_var 0)) (gm_tup rfl (gm_cons (gm_name 2 sc__law_names_in.nd) (gm_cons (gm_name 3 sc__law_names_in.nd) gm_nil))) (sm_one (sm_for PassesOwn.never rfl (im_tup (pm_var 3)) (gm_tup rfl (gm_cons (gm_name 4 sc__law_names_in.nd) (gm_cons (gm_name 5 sc__law_names_in.nd) gm_nil))) (sm_one (sm_if (wm_pt (wm_and (tm_eq hr.units (pm_var 4) (pm_str [118, 97, 114])) (wm_and1 (tm_notin hr.units (pm_var 5) (pm_var 1))))) (sm_one (sm_expr (pm_append (pm_var 1) (am_cons (pm_var 5) am_nil)))) sm_nil))))) (sm_one (sm_ret (pm_var 1)))))
abbrev s__law_head : Stmt := top 30
theorem sc__law_head : FnScope ["_law_well", "_law_atoms_here", "_law_most", "_law_there", "_law_head_here", "_law_k"] ["_law_well", "_law_atoms_here", "_law_most"] (defScope s__law_head) := ⟨rfl, rfl, rfl, by decide +kernel, rfl, by decide +kernel, by decide +kernel⟩
theorem ok__law_head {f : Addr} {fd : FuncData} (F : Fun K "_law_head" "_law_head" s__law_head f fd) {fa__law_names_in : Addr} {fd__law_names_in : FuncData} (G__law_names_in : FnOk P w K mg base CX0 1 fa__law_names_in fd__law_names_in ["_law_atoms_here"] (spM ⟨K, mg, P, w⟩ 1 f__law_names_in)) (m__law_names_in : mg "_law_names_in" = some (.ref fa__law_names_in)) (kp__law_names_in : PySem.W.keepIn K (.ref fa__law_names_in) = true) (b__law_names_in : Binds K fd__law_names_in ["_law_atoms_here"] []) (z_range : mg "range" = none) {fa__law_take : Addr} {fd__law_take : FuncData} (G__law_take : FnOk P w K mg base CX0 1 fa__law_take fd__law_take ["_law_well", "_law_many"] (spM ⟨K, mg, P, w⟩ 2 f__law_take)) (m__law_take : mg "_law_take" = some (.ref fa__law_take)) (kp__law_take : PySem.W.keepIn K (.ref fa__law_take) = true) (b__law_take : Binds K fd__law_take ["_law_well", "_law_many"] []) (z_len : mg "len" = none) : FnOk P w K mg base CX0 2 f fd ["_law_well", "_law_atoms_here", "_law_most"] (spM ⟨K, mg, P, w⟩ 3 f__law_head) :=
  okM (k := 1) F__law_head F sc__law_head fun cdv A outer s H E hr => (sm_cons (sm_set 3 sc__law_head.nd (pm_call G__law_names_in (hr.mono (by decide)) rfl m__law_names_in kp__law_names_in b__law_names_in (am_cons (pm_var 1) am_nil))) (sm_cons (sm_set 4 sc__law_head.nd (pm_lst am_nil)) (sm_cons (sm_for PassesOwn.never rfl (im_range1 rfl z_range (am_cons (pm_call G__law_take (hr.mono (by decide)) rfl m__law_take kp__law_take b__law_take (am_cons (pm_var 0) (am_cons (pm_add (pm_var 2) pm_int) am_nil))) am_nil)) (gm_name 5 sc__law_head.nd) (sm_one (sm_if (tm_ne hr.units (pm_var 3) (pm_lst am_nil)) (sm_one (sm_expr (pm_append (pm_var 4) (am_cons (pm_pop (pm_var 3) (am_cons (pm_call G__law_take (hr.mono (by decide)) rfl m__law_take kp__law_take b__law_take (am_cons (pm_var 0) (am_cons (pm_callB call_lenM cm_len rfl z_len bt_len (am_cons (pm_var 3) am_nil)) am_nil))) am_nil)) am_nil)))) sm_nil))) (sm_one (sm_ret (pm_var 4))))))
abbrev s__law_names : Stmt := top 31
theorem sc__law_names : FnScope ["_law_well", "_law_base", "_law_names_here", "_law_k", "_law_name"] ["_law_well"] (defScope s__law_names) := ⟨rfl, rfl, rfl, by decide +kernel, rfl, by decide +kernel, by decide +kernel⟩
theorem ok__law_names {f : Addr} {fd : FuncData} (F : Fun K "_law_names" "_law_names" s__law_names f fd) {fa__law_word : Addr} {fd__law_word : FuncData} (G__law_word : FnOk P w K mg base CX0 2 fa__law_word fd__law_word ["_law_well"] (spM ⟨K, mg, P, w⟩ 1 f__law_word)) (m__law_word : mg "_law_word" = some (.ref fa__law_word)) (kp__law_word : PySem.W.keepIn K (.ref fa__law_word) = true) (b__law_word : Binds K fd__law_word ["_law_well"] []) {fa__law_take : Addr} {fd__law_take : FuncData} (G__law_take : FnOk P w K mg base CX0 1 fa__law_take fd__law_take ["_law_well", "_law_many"] (spM ⟨K, mg, P, w⟩ 2 f__law_take)) (m__law_take : mg "_law_take" = some (.ref fa__law_take)) (kp__law_take : PySem.W.keepIn K (.ref fa__law_take) = true) (b__law_take : Binds K fd__law_take ["_law_well", "_law_many"] []) (z_range : mg "range" = none) : FnOk P w K mg base CX0 3 f fd ["_law_well"] (spM ⟨K, mg, P, w⟩ 1 f__law_names) :=
  okM (k := 2) F__law_names F sc__law_names fun cdv A outer s H E hr => (sm_cons (sm_set 1 sc__law_names.nd (pm_cut (pm_call G__law_word (hr.mono (by decide)) rfl m__law_word kp__law_word b__law_word (am_cons (pm_var 0) am_nil)) om_none (om_some pm_int))) (sm_cons (sm_if (tm_eq hr.units (pm_call G__law_take (hr.mono (by decide)) rfl m__law_take kp__law_take b__law_take (am_cons (pm_var 0) (am_cons pm_int am_nil))) pm_int) (sm_one (sm_ret (pm_lst (am_cons (pm_var 1) (am_cons (pm_add (pm_var 1) (pm_str [97])) (am_cons (pm_add (pm_str [98]) (pm_var 1)) am_nil)))))) sm_nil) (sm_cons (sm_set 2 sc__law_names.nd (pm_lst (am_cons (pm_var 1) am_nil))) (sm_cons (sm_for PassesOwn.never rfl (im_range1 rfl z_range (am_cons pm_int am_nil)) (gm_name 3 sc__law_names.nd) (sm_cons (sm_set 4 sc__law_names.nd (pm_call G__law_word (hr.mono (by decide)) rfl m__law_word kp__law_word b__law_word (am_cons (pm_var 0) am_nil))) (sm_cons (sm_if (tm_in hr.units (pm_var 4) (pm_var 2)) (sm_one (sm_set 4 sc__law_names.nd (pm_at (pm_lst (am_cons (pm_add (pm_str [98]) (pm_var 1)) (am_cons (pm_add (pm_add (pm_str [98]) (pm_var 1)) (pm_str [97])) am_nil))) (pm_var 3)))) sm_nil) (sm_one (sm_expr (pm_append (pm_var 2) (am_cons (pm_var 4) am_nil))))))) (sm_one (sm_ret (pm_var 2)))))))
abbrev s__law_told : Stmt := top 32
theorem sc__law_told : FnScope ["_law_told_here", "_law_head_here", "_law_atoms_here", "_law_atom"] ["_law_told_here", "_law_head_here", "_law_atoms_here"] (defScope s__law_told) := ⟨rfl, rfl, rfl, by decide +kernel, rfl, by decide +kernel, by decide +kernel⟩
theorem ok__law_told {f : Addr} {fd : FuncData} (F : Fun K "_law_told" "_law_told" s__law_told f fd) (z_tuple : mg "tuple" = none) (z_isinstance : mg "isinstance" = none) (z_len : mg "len" = none) (z_int : mg "int" = none) (z_bool : mg "bool" = none) : FnOk P w K mg base CX0 1 f fd ["_law_told_here", "_law_head_here", "_law_atoms_here"] (spM ⟨K, mg, P, w⟩ 3 f__law_told) :=
  okM (k := 0) F__law_told F sc__law_told fun cdv A outer s H E hr => (sm_cons (sm_if (wm_pt (wm_or (tm_not (tm_plain (pm_callB call_isi cm_isi rfl z_isinstance bt_isinstance (am_cons (pm_var 0) (am_cons (pm_ty rfl z_tuple bt_tuple) am_nil))))) (wm_or1 (tm_ne hr.units (pm_callB call_lenM cm_len rfl z_len bt_len (am_cons (pm_var 0) am_nil)) pm_int)))) (sm_one (sm_ret pm_bl)) sm_nil) (sm_cons (sm_if (wm_pt (wm_or (tm_not (tm_plain (pm_callB call_isi cm_isi rfl z_isinstance bt_isinstance (am_cons (pm_at (pm_var 0) pm_int) (am_cons (pm_ty rfl z_tuple bt_tuple) am_nil))))) (wm_or1 (tm_not (tm_plain (pm_callB call_isi cm_isi rfl z_isinstance bt_isinstance (am_cons (pm_at (pm_var 0) pm_int) (am_cons (pm_ty rfl z_tuple bt_tuple) am_nil)))))))) (sm_one (sm_ret pm_bl)) sm_nil) (sm_cons (sm_for PassesOwn.never rfl (im_tup (pm_at (pm_var 0) pm_int)) (gm_name 3 sc__law_told.nd) (sm_one (sm_if (wm_pt (wm_or (tm_not (tm_plain (pm_callB call_isi cm_isi rfl z_isinstance bt_isinstance (am_cons (pm_var 3) (am_cons (pm_ty rfl z_tuple bt_tuple) am_nil))))) (wm_or (tm_not (tm_plain (pm_callB call_isi cm_isi rfl z_isinstance bt_isinstance (am_cons (pm_at (pm_var 3) pm_int) (am_cons (pm_ty rfl z_int bt_int) am_nil))))) (wm_or1 (tm_plain (pm_callB call_isi cm_isi rfl z_isinstance bt_isinstance (am_cons (pm_at (pm_var 3) pm_int) (am_cons (pm_ty rfl z_bool bt_bool) am_nil)))))))) (sm_one (sm_ret pm_bl)) sm_nil))) (sm_one (sm_ret (pm_eq hr.units (pm_var 0) (pm_tup (am_cons (pm_callTy call_tuple_of cm_tuple rfl z_tuple bt_tuple (am_cons (pm_var 1) am_nil)) (am_cons (pm_callTy call_tuple_of cm_tuple rfl z_tuple bt_tuple (am_cons (pm_var 2) am_nil)) am_nil)))))))))
abbrev s_law : Stmt := top 33
theorem sc_law : FnScope ["_law_script", "_law_tables_here", "_law_pool_here", "_law_names_here", "_law_atoms_here", "_law_well", "_law_k", "_law_head_here", "_law_handed", "_law_told_here", "_law_other"] ["_law_script"] (defScope s_law) := ⟨rfl, rfl, rfl, by decide +kernel, rfl, by decide +kernel, by decide +kernel⟩
theorem ok_law {f : Addr} {fd : FuncData} (F : Fun K "law" "law" s_law f fd) {fa__law_tables : Addr} {fd__law_tables : FuncData} (G__law_tables : FnOk P w K mg base CX0 2 fa__law_tables fd__law_tables ["_law_well"] (spM ⟨K, mg, P, w⟩ 1 f__law_tables)) (m__law_tables : mg "_law_tables" = some (.ref fa__law_tables)) (kp__law_tables : PySem.W.keepIn K (.ref fa__law_tables) = true) (b__law_tables : Binds K fd__law_tables ["_law_well"] []) {fa__law_digits : Addr} {fd__law_digits : FuncData} (G__law_digits : FnOk P w K mg base CX0 1 fa__law_digits fd__law_digits ["_law_cell"] (spM ⟨K, mg, P, w⟩ 1 f__law_digits)) (m__law_digits : mg "_law_digits" = some (.ref fa__law_digits)) (kp__law_digits : PySem.W.keepIn K (.ref fa__law_digits) = true) (b__law_digits : Binds K fd__law_digits ["_law_cell"] []) {fa__law_cell_at : Addr} {fd__law_cell_at : FuncData} (G__law_cell_at : FnOk P w K mg base CX0 1 fa__law_cell_at fd__law_cell_at ["_law_script", "_law_k"] (spM ⟨K, mg, P, w⟩ 2 f__law_cell_at)) (m__law_cell_at : mg "_law_cell_at" = some (.ref fa__law_cell_at)) (kp__law_cell_at : PySem.W.keepIn K (.ref fa__law_cell_at) = true) (b__law_cell_at : Binds K fd__law_cell_at ["_law_script", "_law_k"] []) (z_tuple : mg "tuple" = none) {fa__law_pool : Addr} {fd__law_pool : FuncData} (G__law_pool : FnOk P w K mg base CX0 3 fa__law_pool fd__law_pool ["_law_well", "_law_many"] (spM ⟨K, mg, P, w⟩ 2 f__law_pool)) (m__law_pool : mg "_law_pool" = some (.ref fa__law_pool)) (kp__law_pool : PySem.W.keepIn K (.ref fa__law_pool) = true) (b__law_pool : Binds K fd__law_pool ["_law_well", "_law_many"] []) {fa__law_names : Addr} {fd__law_names : FuncData} (G__law_names : FnOk P w K mg base CX0 3 fa__law_names fd__law_names ["_law_well"] (spM ⟨K, mg, P, w⟩ 1 f__law_names)) (m__law_names : mg "_law_names" = some (.ref fa__law_names)) (kp__law_names : PySem.W.keepIn K (.ref fa__law_names) = true) (b__law_names : Binds K fd__law_names ["_law_well"] []) (z_range : mg "range" = none) {fa__law_take : Addr} {fd__law_take : FuncData} (G__law_take : FnOk P w K mg base CX0 1 fa__law_take fd__law_take ["_law_well", "_law_many"] (spM ⟨K, mg, P, w⟩ 2 f__law_take)) (m__law_take : mg "_law_take" = some (.ref fa__law_take)) (kp__law_take : PySem.W.keepIn K (.ref fa__law_take) = true) (b__law_take : Binds K fd__law_take ["_law_well", "_law_many"] []) {fa__law_atoms : Addr} {fd__law_atoms : FuncData} (G__law_atoms : FnOk P w K mg base CX0 3 fa__law_atoms fd__law_atoms ["_law_well", "_law_tables_here", "_law_names_here", "_law_pool_here", "_law_many"] (spM ⟨K, mg, P, w⟩ 5 f__law_atoms)) (m__law_atoms : mg "_law_atoms" = some (.ref fa__law_atoms)) (kp__law_atoms : PySem.W.keepIn K (.ref fa__law_atoms) = true) (b__law_atoms : Binds K fd__law_atoms ["_law_well", "_law_tables_here", "_law_names_here", "_law_pool_here", "_law_many"] []) {fa__law_head : Addr} {fd__law_head : FuncData} (G__law_head : FnOk P w K mg base CX0 2 fa__law_head fd__law_head ["_law_well", "_law_atoms_here", "_law_most"] (spM ⟨K, mg, P, w⟩ 3 f__law_head)) (m__law_head : mg "_law_head" = some (.ref fa__law_head)) (kp__law_head : PySem.W.keepIn K (.ref fa__law_head) = true) (b__law_head : Binds K fd__law_head ["_law_well", "_law_atoms_here", "_law_most"] []) {fa__law_told : Addr} {fd__law_told : FuncData} (G__law_told : FnOk P w K mg base CX0 1 fa__law_told fd__law_told ["_law_told_here", "_law_head_here", "_law_atoms_here"] (spM ⟨K, mg, P, w⟩ 3 f__law_told)) (m__law_told : mg "_law_told" = some (.ref fa__law_told)) (kp__law_told : PySem.W.keepIn K (.ref fa__law_told) = true) (b__law_told : Binds K fd__law_told ["_law_told_here", "_law_head_here", "_law_atoms_here"] []) {fa_question_of : Addr} {fd_question_of : FuncData} (G_question_of : FnOk P w K mg base CX0 5 fa_question_of fd_question_of ["tables", "head", "atoms"] (spM ⟨K, mg, P, w⟩ 3 f_question_of)) (m_question_of : mg "question_of" = some (.ref fa_question_of)) (kp_question_of : PySem.W.keepIn K (.ref fa_question_of) = true) (b_question_of : Binds K fd_question_of ["tables", "head", "atoms"] []) (z_list : mg "list" = none) : FnOk P w K mg base CX0 6 f fd ["_law_script"] (spM ⟨K, mg, P, w⟩ 1 f_law) :=
  okM (k := 5) F_law F sc_law fun cdv A outer s H E hr => (sm_cons (sm_set 1 sc_law.nd (pm_callTy call_tuple_of cm_tuple rfl z_tuple bt_tuple (am_cons (pm_call G__law_tables (hr.mono (by decide)) rfl m__law_tables kp__law_tables b__law_tables (am_cons (pm_call G__law_digits (hr.mono (by decide)) rfl m__law_digits kp__law_digits b__law_digits (am_cons (pm_call G__law_cell_at (hr.mono (by decide)) rfl m__law_cell_at kp__law_cell_at b__law_cell_at (am_cons (pm_var 0) (am_cons pm_int am_nil))) am_nil)) am_nil)) am_nil))) (sm_cons (sm_set 2 sc_law.nd (pm_call G__law_pool (hr.mono (by decide)) rfl m__law_pool kp__law_pool b__law_pool (am_cons (pm_call G__law_digits (hr.mono (by decide)) rfl m__law_digits kp__law_digits b__law_digits (am_cons (pm_call G__law_cell_at (hr.mono (by decide)) rfl m__law_cell_at kp__law_cell_at b__law_cell_at (am_cons (pm_var 0) (am_cons pm_int am_nil))) am_nil)) (am_cons pm_int am_nil)))) (sm_cons (sm_set 3 sc_law.nd (pm_call G__law_names (hr.mono (by decide)) rfl m__law_names kp__law_names b__law_names (am_cons (pm_call G__law_digits (hr.mono (by decide)) rfl m__law_digits kp__law_digits b__law_digits (am_cons (pm_call G__law_cell_at (hr.mono (by decide)) rfl m__law_cell_at kp__law_cell_at b__law_cell_at (am_cons (pm_var 0) (am_cons pm_int am_nil))) am_nil)) am_nil))) (sm_cons (sm_set 4 sc_law.nd (pm_lst am_nil)) (sm_cons (sm_set 5 sc_law.nd (pm_call G__law_digits (hr.mono (by decide)) rfl m__law_digits kp__law_digits b__law_digits (am_cons (pm_call G__law_cell_at (hr.mono (by decide)) rfl m__law_cell_at kp__law_cell_at b__law_cell_at (am_cons (pm_var 0) (am_cons pm_int am_nil))) am_nil))) (sm_cons (sm_for PassesOwn.never rfl (im_range1 rfl z_range (am_cons (pm_add pm_int (pm_call G__law_take (hr.mono (by decide)) rfl m__law_take kp__law_take b__law_take (am_cons (pm_var 5) (am_cons pm_int am_nil)))) am_nil)) (gm_name 6 sc_law.nd) (sm_one (sm_set 4 sc_law.nd (pm_add (pm_var 4) (pm_call G__law_atoms (hr.mono (by decide)) rfl m__law_atoms kp__law_atoms b__law_atoms (am_cons (pm_call G__law_digits (hr.mono (by decide)) rfl m__law_digits kp__law_digits b__law_digits (am_cons (pm_call G__law_cell_at (hr.mono (by decide)) rfl m__law_cell_at kp__law_cell_at b__law_cell_at (am_cons (pm_var 0) (am_cons (pm_add pm_int (pm_var 6)) am_nil))) am_nil)) (am_cons (pm_var 1) (am_cons (pm_var 3) (am_cons (pm_var 2) (am_cons pm_int am_nil)))))))))) (sm_cons (sm_set 7 sc_law.nd (pm_call G__law_head (hr.mono (by decide)) rfl m__law_head kp__law_head b__law_head (am_cons (pm_var 5) (am_cons (pm_var 4) (am_cons pm_int am_nil))))) (sm_cons (sm_if (tm_not (tm_plain (pm_call G__law_told (hr.mono (by decide)) rfl m__law_told kp__law_told b__law_told (am_cons (pm_call G_question_of (hr.mono (by decide)) rfl m_question_of kp_question_of b_question_of (am_cons (pm_var 1) (am_cons (pm_callTy call_tuple_of cm_tuple rfl z_tuple bt_tuple (am_cons (pm_var 7) am_nil)) (am_cons (pm_callTy call_tuple_of cm_tuple rfl z_tuple bt_tuple (am_cons (pm_var 4) am_nil)) am_nil)))) (am_cons (pm_var 7) (am_cons (pm_var 4) am_nil)))))) (sm_one (sm_ret pm_bl)) sm_nil) (sm_cons (sm_set 8 sc_law.nd (pm_lst (am_cons (pm_callTy call_list_of cm_list rfl z_list bt_list (am_cons (pm_var 7) am_nil)) (am_cons (pm_callTy call_list_of cm_list rfl z_list bt_list (am_cons (pm_var 4) am_nil)) am_nil)))) (sm_cons (sm_set 9 sc_law.nd (pm_call G_question_of (hr.mono (by decide)) rfl m_question_of kp_question_of b_question_of (am_cons (pm_var 1) (am_cons (pm_at (pm_var 8) pm_int) (am_cons (pm_at (pm_var 8) pm_int) am_nil))))) (sm_cons (sm_set 10 sc_law.nd (pm_call G_question_of (hr.mono (by decide)) rfl m_question_of kp_question_of b_question_of (am_cons (pm_var 1) (am_cons (pm_at (pm_var 8) pm_int) (am_cons (pm_at (pm_var 8) pm_int) am_nil))))) (sm_cons (sm_if (wm_pt (wm_or (tm_not (tm_plain (pm_call G__law_told (hr.mono (by decide)) rfl m__law_told kp__law_told b__law_told (am_cons (pm_var 9) (am_cons (pm_var 7) (am_cons (pm_var 4) am_nil)))))) (wm_or1 (tm_ne hr.units (pm_var 8) (pm_lst (am_cons (pm_var 7) (am_cons (pm_var 4) am_nil))))))) (sm_one (sm_ret pm_bl)) sm_nil) (sm_cons (sm_expr (pm_append (pm_at (pm_var 8) pm_int) (am_cons (pm_str [97]) am_nil))) (sm_cons (sm_expr (pm_clear (pm_at (pm_var 8) pm_int))) (sm_one (sm_ret (pm_and (pm_call G__law_told (hr.mono (by decide)) rfl m__law_told kp__law_told b__law_told (am_cons (pm_var 9) (am_cons (pm_var 7) (am_cons (pm_var 4) am_nil)))) (pm_one (pm_call G__law_told (hr.mono (by decide)) rfl m__law_told kp__law_told b__law_told (am_cons (pm_var 10) (am_cons (pm_var 7) (am_cons (pm_var 4) am_nil))))))))))))))))))))))
end
theorem all_mk {l : PySem.W.OpenLaw} {w : World} {K : PySem.W.Frag} {h : Heap} {mg : Str → Option Value} {fa : Addr} (X : K.In h) (GG : h.Ns mainGlobals mg) (hfa : mg "law" = some (.ref fa))
    {g0 : Addr} {od0 an0 : Option Addr} {sl0 : Array (Option Value)} {oc0 kV0 dc0 pm0 cd0 ct0 : Value} (a0 : PySem.W.nsIn K mainGlobals "is_whole" = some (some (.ref g0))) (l0 : K.lookup g0 = some ⟨oc0, od0, .func (PySem.W.fnOf "is_whole" "is_whole" (defArgs s_is_whole) (defBody s_is_whole) (defScope s_is_whole) .none kV0 dc0 pm0 an0 cd0 ct0), sl0⟩) (c0 : PySem.W.codeIn K cd0 "is_whole" = true) (k0 : PySem.W.keepIn K (.ref g0) = true)
    {g1 : Addr} {od1 an1 : Option Addr} {sl1 : Array (Option Value)} {oc1 kV1 dc1 pm1 cd1 ct1 : Value} (a1 : PySem.W.nsIn K mainGlobals "is_name" = some (some (.ref g1))) (l1 : K.lookup g1 = some ⟨oc1, od1, .func (PySem.W.fnOf "is_name" "is_name" (defArgs s_is_name) (defBody s_is_name) (defScope s_is_name) .none kV1 dc1 pm1 an1 cd1 ct1), sl1⟩) (c1 : PySem.W.codeIn K cd1 "is_name" = true) (k1 : PySem.W.keepIn K (.ref g1) = true)
    {g2 : Addr} {od2 an2 : Option Addr} {sl2 : Array (Option Value)} {oc2 kV2 dc2 pm2 cd2 ct2 : Value} (a2 : PySem.W.nsIn K mainGlobals "is_value" = some (some (.ref g2))) (l2 : K.lookup g2 = some ⟨oc2, od2, .func (PySem.W.fnOf "is_value" "is_value" (defArgs s_is_value) (defBody s_is_value) (defScope s_is_value) .none kV2 dc2 pm2 an2 cd2 ct2), sl2⟩) (c2 : PySem.W.codeIn K cd2 "is_value" = true) (k2 : PySem.W.keepIn K (.ref g2) = true)
    {g3 : Addr} {od3 an3 : Option Addr} {sl3 : Array (Option Value)} {oc3 kV3 dc3 pm3 cd3 ct3 : Value} (a3 : PySem.W.nsIn K mainGlobals "is_tuple" = some (some (.ref g3))) (l3 : K.lookup g3 = some ⟨oc3, od3, .func (PySem.W.fnOf "is_tuple" "is_tuple" (defArgs s_is_tuple) (defBody s_is_tuple) (defScope s_is_tuple) .none kV3 dc3 pm3 an3 cd3 ct3), sl3⟩) (c3 : PySem.W.codeIn K cd3 "is_tuple" = true) (k3 : PySem.W.keepIn K (.ref g3) = true)
    {g4 : Addr} {od4 an4 : Option Addr} {sl4 : Array (Option Value)} {oc4 kV4 dc4 pm4 cd4 ct4 : Value} (a4 : PySem.W.nsIn K mainGlobals "is_number_below" = some (some (.ref g4))) (l4 : K.lookup g4 = some ⟨oc4, od4, .func (PySem.W.fnOf "is_number_below" "is_number_below" (defArgs s_is_number_below) (defBody s_is_number_below) (defScope s_is_number_below) .none kV4 dc4 pm4 an4 cd4 ct4), sl4⟩) (c4 : PySem.W.codeIn K cd4 "is_number_below" = true) (k4 : PySem.W.keepIn K (.ref g4) = true)
    {g5 : Addr} {od5 an5 : Option Addr} {sl5 : Array (Option Value)} {oc5 kV5 dc5 pm5 cd5 ct5 : Value} (a5 : PySem.W.nsIn K mainGlobals "is_term" = some (some (.ref g5))) (l5 : K.lookup g5 = some ⟨oc5, od5, .func (PySem.W.fnOf "is_term" "is_term" (defArgs s_is_term) (defBody s_is_term) (defScope s_is_term) .none kV5 dc5 pm5 an5 cd5 ct5), sl5⟩) (c5 : PySem.W.codeIn K cd5 "is_term" = true) (k5 : PySem.W.keepIn K (.ref g5) = true)
    {g6 : Addr} {od6 an6 : Option Addr} {sl6 : Array (Option Value)} {oc6 kV6 dc6 pm6 cd6 ct6 : Value} (a6 : PySem.W.nsIn K mainGlobals "is_atom" = some (some (.ref g6))) (l6 : K.lookup g6 = some ⟨oc6, od6, .func (PySem.W.fnOf "is_atom" "is_atom" (defArgs s_is_atom) (defBody s_is_atom) (defScope s_is_atom) .none kV6 dc6 pm6 an6 cd6 ct6), sl6⟩) (c6 : PySem.W.codeIn K cd6 "is_atom" = true) (k6 : PySem.W.keepIn K (.ref g6) = true)
    {g7 : Addr} {od7 an7 : Option Addr} {sl7 : Array (Option Value)} {oc7 kV7 dc7 pm7 cd7 ct7 : Value} (a7 : PySem.W.nsIn K mainGlobals "names_in" = some (some (.ref g7))) (l7 : K.lookup g7 = some ⟨oc7, od7, .func (PySem.W.fnOf "names_in" "names_in" (defArgs s_names_in) (defBody s_names_in) (defScope s_names_in) .none kV7 dc7 pm7 an7 cd7 ct7), sl7⟩) (c7 : PySem.W.codeIn K cd7 "names_in" = true) (k7 : PySem.W.keepIn K (.ref g7) = true)
    {g8 : Addr} {od8 an8 : Option Addr} {sl8 : Array (Option Value)} {oc8 kV8 dc8 pm8 cd8 ct8 : Value} (a8 : PySem.W.nsIn K mainGlobals "is_head" = some (some (.ref g8))) (l8 : K.lookup g8 = some ⟨oc8, od8, .func (PySem.W.fnOf "is_head" "is_head" (defArgs s_is_head) (defBody s_is_head) (defScope s_is_head) .none kV8 dc8 pm8 an8 cd8 ct8), sl8⟩) (c8 : PySem.W.codeIn K cd8 "is_head" = true) (k8 : PySem.W.keepIn K (.ref g8) = true)
    {g9 : Addr} {od9 an9 : Option Addr} {sl9 : Array (Option Value)} {oc9 kV9 dc9 pm9 cd9 ct9 : Value} (a9 : PySem.W.nsIn K mainGlobals "listed" = some (some (.ref g9))) (l9 : K.lookup g9 = some ⟨oc9, od9, .func (PySem.W.fnOf "listed" "listed" (defArgs s_listed) (defBody s_listed) (defScope s_listed) .none kV9 dc9 pm9 an9 cd9 ct9), sl9⟩) (c9 : PySem.W.codeIn K cd9 "listed" = true) (k9 : PySem.W.keepIn K (.ref g9) = true)
    {g10 : Addr} {od10 an10 : Option Addr} {sl10 : Array (Option Value)} {oc10 kV10 dc10 pm10 cd10 ct10 : Value} (a10 : PySem.W.nsIn K mainGlobals "question_of" = some (some (.ref g10))) (l10 : K.lookup g10 = some ⟨oc10, od10, .func (PySem.W.fnOf "question_of" "question_of" (defArgs s_question_of) (defBody s_question_of) (defScope s_question_of) .none kV10 dc10 pm10 an10 cd10 ct10), sl10⟩) (c10 : PySem.W.codeIn K cd10 "question_of" = true) (k10 : PySem.W.keepIn K (.ref g10) = true)
    {g11 : Addr} {od11 an11 : Option Addr} {sl11 : Array (Option Value)} {oc11 kV11 dc11 pm11 cd11 ct11 : Value} (a11 : PySem.W.nsIn K mainGlobals "_law_cell_at" = some (some (.ref g11))) (l11 : K.lookup g11 = some ⟨oc11, od11, .func (PySem.W.fnOf "_law_cell_at" "_law_cell_at" (defArgs s__law_cell_at) (defBody s__law_cell_at) (defScope s__law_cell_at) .none kV11 dc11 pm11 an11 cd11 ct11), sl11⟩) (c11 : PySem.W.codeIn K cd11 "_law_cell_at" = true) (k11 : PySem.W.keepIn K (.ref g11) = true)
    {g12 : Addr} {od12 an12 : Option Addr} {sl12 : Array (Option Value)} {oc12 kV12 dc12 pm12 cd12 ct12 : Value} (a12 : PySem.W.nsIn K mainGlobals "_law_digits" = some (some (.ref g12))) (l12 : K.lookup g12 = some ⟨oc12, od12, .func (PySem.W.fnOf "_law_digits" "_law_digits" (defArgs s__law_digits) (defBody s__law_digits) (defScope s__law_digits) .none kV12 dc12 pm12 an12 cd12 ct12), sl12⟩) (c12 : PySem.W.codeIn K cd12 "_law_digits" = true) (k12 : PySem.W.keepIn K (.ref g12) = true)
    {g13 : Addr} {od13 an13 : Option Addr} {sl13 : Array (Option Value)} {oc13 kV13 dc13 pm13 cd13 ct13 : Value} (a13 : PySem.W.nsIn K mainGlobals "_law_take" = some (some (.ref g13))) (l13 : K.lookup g13 = some ⟨oc13, od13, .func (PySem.W.fnOf "_law_take" "_law_take" (defArgs s__law_take) (defBody s__law_take) (defScope s__law_take) .none kV13 dc13 pm13 an13 cd13 ct13), sl13⟩) (c13 : PySem.W.codeIn K cd13 "_law_take" = true) (k13 : PySem.W.keepIn K (.ref g13) = true)
    {g14 : Addr} {od14 an14 : Option Addr} {sl14 : Array (Option Value)} {oc14 kV14 dc14 pm14 cd14 ct14 : Value} (a14 : PySem.W.nsIn K mainGlobals "_law_word" = some (some (.ref g14))) (l14 : K.lookup g14 = some ⟨oc14, od14, .func (PySem.W.fnOf "_law_word" "_law_word" (defArgs s__law_word) (defBody s__law_word) (defScope s__law_word) .none kV14 dc14 pm14 an14 cd14 ct14), sl14⟩) (c14 : PySem.W.codeIn K cd14 "_law_word" = true) (k14 : PySem.W.keepIn K (.ref g14) = true)
    {g15 : Addr} {od15 an15 : Option Addr} {sl15 : Array (Option Value)} {oc15 kV15 dc15 pm15 cd15 ct15 : Value} (a15 : PySem.W.nsIn K mainGlobals "_law_pool" = some (some (.ref g15))) (l15 : K.lookup g15 = some ⟨oc15, od15, .func (PySem.W.fnOf "_law_pool" "_law_pool" (defArgs s__law_pool) (defBody s__law_pool) (defScope s__law_pool) .none kV15 dc15 pm15 an15 cd15 ct15), sl15⟩) (c15 : PySem.W.codeIn K cd15 "_law_pool" = true) (k15 : PySem.W.keepIn K (.ref g15) = true)
    {g16 : Addr} {od16 an16 : Option Addr} {sl16 : Array (Option Value)} {oc16 kV16 dc16 pm16 cd16 ct16 : Value} (a16 : PySem.W.nsIn K mainGlobals "_law_tables" = some (some (.ref g16))) (l16 : K.lookup g16 = some ⟨oc16, od16, .func (PySem.W.fnOf "_law_tables" "_law_tables" (defArgs s__law_tables) (defBody s__law_tables) (defScope s__law_tables) .none kV16 dc16 pm16 an16 cd16 ct16), sl16⟩) (c16 : PySem.W.codeIn K cd16 "_law_tables" = true) (k16 : PySem.W.keepIn K (.ref g16) = true)
    {g17 : Addr} {od17 an17 : Option Addr} {sl17 : Array (Option Value)} {oc17 kV17 dc17 pm17 cd17 ct17 : Value} (a17 : PySem.W.nsIn K mainGlobals "_law_term" = some (some (.ref g17))) (l17 : K.lookup g17 = some ⟨oc17, od17, .func (PySem.W.fnOf "_law_term" "_law_term" (defArgs s__law_term) (defBody s__law_term) (defScope s__law_term) .none kV17 dc17 pm17 an17 cd17 ct17), sl17⟩) (c17 : PySem.W.codeIn K cd17 "_law_term" = true) (k17 : PySem.W.keepIn K (.ref g17) = true)
    {g18 : Addr} {od18 an18 : Option Addr} {sl18 : Array (Option Value)} {oc18 kV18 dc18 pm18 cd18 ct18 : Value} (a18 : PySem.W.nsIn K mainGlobals "_law_atoms" = some (some (.ref g18))) (l18 : K.lookup g18 = some ⟨oc18, od18, .func (PySem.W.fnOf "_law_atoms" "_law_atoms" (defArgs s__law_atoms) (defBody s__law_atoms) (defScope s__law_atoms) .none kV18 dc18 pm18 an18 cd18 ct18), sl18⟩) (c18 : PySem.W.codeIn K cd18 "_law_atoms" = true) (k18 : PySem.W.keepIn K (.ref g18) = true)
    {g19 : Addr} {od19 an19 : Option Addr} {sl19 : Array (Option Value)} {oc19 kV19 dc19 pm19 cd19 ct19 : Value} (a19 : PySem.W.nsIn K mainGlobals "_law_names_in" = some (some (.ref g19))) (l19 : K.lookup g19 = some ⟨oc19, od19, .func (PySem.W.fnOf "_law_names_in" "_law_names_in" (defArgs s__law_names_in) (defBody s__law_names_in) (defScope s__law_names_in) .none kV19 dc19 pm19 an19 cd19 ct19), sl19⟩) (c19 : PySem.W.codeIn K cd19 "_law_names_in" = true) (k19 : PySem.W.keepIn K (.ref g19) = true)
    {g20 : Addr} {od20 an20 : Option Addr} {sl20 : Array (Option Value)} {oc20 kV20 dc20 pm20 cd20 ct20 : Value} (a20 : PySem.W.nsIn K mainGlobals "_law_head" = some (some (.ref g20))) (l20 : K.lookup g20 = some ⟨oc20, od20, .func (PySem.W.fnOf "_law_head" "_law_head" (defArgs s__law_head) (defBody s__law_head) (defScope s__law_head) .none kV20 dc20 pm20 an20 cd20 ct20), sl20⟩) (c20 : PySem.W.codeIn K cd20 "_law_head" = true) (k20 : PySem.W.keepIn K (.ref g20) = true)
    {g21 : Addr} {od21 an21 : Option Addr} {sl21 : Array (Option Value)} {oc21 kV21 dc21 pm21 cd21 ct21 : Value} (a21 : PySem.W.nsIn K mainGlobals "_law_names" = some (some (.ref g21))) (l21 : K.lookup g21 = some ⟨oc21, od21, .func (PySem.W.fnOf "_law_names" "_law_names" (defArgs s__law_names) (defBody s__law_names) (defScope s__law_names) .none kV21 dc21 pm21 an21 cd21 ct21), sl21⟩) (c21 : PySem.W.codeIn K cd21 "_law_names" = true) (k21 : PySem.W.keepIn K (.ref g21) = true)
    {g22 : Addr} {od22 an22 : Option Addr} {sl22 : Array (Option Value)} {oc22 kV22 dc22 pm22 cd22 ct22 : Value} (a22 : PySem.W.nsIn K mainGlobals "_law_told" = some (some (.ref g22))) (l22 : K.lookup g22 = some ⟨oc22, od22, .func (PySem.W.fnOf "_law_told" "_law_told" (defArgs s__law_told) (defBody s__law_told) (defScope s__law_told) .none kV22 dc22 pm22 an22 cd22 ct22), sl22⟩) (c22 : PySem.W.codeIn K cd22 "_law_told" = true) (k22 : PySem.W.keepIn K (.ref g22) = true)
    {g23 : Addr} {od23 an23 : Option Addr} {sl23 : Array (Option Value)} {oc23 kV23 dc23 pm23 cd23 ct23 : Value} (a23 : PySem.W.nsIn K mainGlobals "law" = some (some (.ref g23))) (l23 : K.lookup g23 = some ⟨oc23, od23, .func (PySem.W.fnOf "law" "law" (defArgs s_law) (defBody s_law) (defScope s_law) .none kV23 dc23 pm23 an23 cd23 ct23), sl23⟩) (c23 : PySem.W.codeIn K cd23 "law" = true) (k23 : PySem.W.keepIn K (.ref g23) = true)
    {t_MOST_ATOMS : Tok} (m_MOST_ATOMS : PySem.W.nsIn K mainGlobals "MOST_ATOMS" = some (some (.int 4 t_MOST_ATOMS)))
    {t_MOST_LETTERS : Tok} (m_MOST_LETTERS : PySem.W.nsIn K mainGlobals "MOST_LETTERS" = some (some (.int 8 t_MOST_LETTERS)))
    {t_MOST_NAMES : Tok} (m_MOST_NAMES : PySem.W.nsIn K mainGlobals "MOST_NAMES" = some (some (.int 4 t_MOST_NAMES)))
    (z_abs : PySem.W.nsIn K mainGlobals "abs" = some none)
    (z_all : PySem.W.nsIn K mainGlobals "all" = some none)
    (z_bool : PySem.W.nsIn K mainGlobals "bool" = some none)
    (z_enumerate : PySem.W.nsIn K mainGlobals "enumerate" = some none)
    (z_int : PySem.W.nsIn K mainGlobals "int" = some none)
    (z_isinstance : PySem.W.nsIn K mainGlobals "isinstance" = some none)
    (z_len : PySem.W.nsIn K mainGlobals "len" = some none)
    (z_list : PySem.W.nsIn K mainGlobals "list" = some none)
    (z_range : PySem.W.nsIn K mainGlobals "range" = some none)
    (z_set : PySem.W.nsIn K mainGlobals "set" = some none)
    (z_str : PySem.W.nsIn K mainGlobals "str" = some none)
    (z_tuple : PySem.W.nsIn K mainGlobals "tuple" = some none)
    : ∃ fd : FuncData, (∀ (s : Shared) (v : Value), BindsTo s fd ⟨[v], []⟩ [("_law_script", v)]) ∧ ∀ base : Heap, K.In base → base.Ns mainGlobals mg → FnOk l.prog w K mg base CX0 6 fa fd ["_law_script"] (spLaw K f_law) := by
  have e := hfa.symm.trans (PySem.W.mg_of X GG a23)
  cases e
  have Z_abs := PySem.W.mg_none_of X GG z_abs
  have Z_all := PySem.W.mg_none_of X GG z_all
  have Z_bool := PySem.W.mg_none_of X GG z_bool
  have Z_enumerate := PySem.W.mg_none_of X GG z_enumerate
  have Z_int := PySem.W.mg_none_of X GG z_int
  have Z_isinstance := PySem.W.mg_none_of X GG z_isinstance
  have Z_len := PySem.W.mg_none_of X GG z_len
  have Z_list := PySem.W.mg_none_of X GG z_list
  have Z_range := PySem.W.mg_none_of X GG z_range
  have Z_set := PySem.W.mg_none_of X GG z_set
  have Z_str := PySem.W.mg_none_of X GG z_str
  have Z_tuple := PySem.W.mg_none_of X GG z_tuple
  have M_MOST_ATOMS := PySem.W.mg_of X GG m_MOST_ATOMS
  have M_MOST_LETTERS := PySem.W.mg_of X GG m_MOST_LETTERS
  have M_MOST_NAMES := PySem.W.mg_of X GG m_MOST_NAMES
  have F0 := fun_mk (st := s_is_whole) l0 c0 k0
  have b0 := F0.binds (ps := ["thing"]) fun _ _ _ _ _ _ us hl => match us, hl with | [_], _ => rfl
  have m0 := PySem.W.mg_of X GG a0
  have F1 := fun_mk (st := s_is_name) l1 c1 k1
  have b1 := F1.binds (ps := ["thing"]) fun _ _ _ _ _ _ us hl => match us, hl with | [_], _ => rfl
  have m1 := PySem.W.mg_of X GG a1
  have F2 := fun_mk (st := s_is_value) l2 c2 k2
  have b2 := F2.binds (ps := ["thing"]) fun _ _ _ _ _ _ us hl => match us, hl with | [_], _ => rfl
  have m2 := PySem.W.mg_of X GG a2
  have F3 := fun_mk (st := s_is_tuple) l3 c3 k3
  have b3 := F3.binds (ps := ["thing", "least", "most"]) fun _ _ _ _ _ _ us hl => match us, hl with | [_, _, _], _ => rfl
  have m3 := PySem.W.mg_of X GG a3
  have F4 := fun_mk (st := s_is_number_below) l4 c4 k4
  have b4 := F4.binds (ps := ["thing", "bound"]) fun _ _ _ _ _ _ us hl => match us, hl with | [_, _], _ => rfl
  have m4 := PySem.W.mg_of X GG a4
  have F5 := fun_mk (st := s_is_term) l5 c5 k5
  have b5 := F5.binds (ps := ["thing"]) fun _ _ _ _ _ _ us hl => match us, hl with | [_], _ => rfl
  have m5 := PySem.W.mg_of X GG a5
  have F6 := fun_mk (st := s_is_atom) l6 c6 k6
  have b6 := F6.binds (ps := ["thing", "tables"]) fun _ _ _ _ _ _ us hl => match us, hl with | [_, _], _ => rfl
  have m6 := PySem.W.mg_of X GG a6
  have F7 := fun_mk (st := s_names_in) l7 c7 k7
  have b7 := F7.binds (ps := ["atoms"]) fun _ _ _ _ _ _ us hl => match us, hl with | [_], _ => rfl
  have m7 := PySem.W.mg_of X GG a7
  have F8 := fun_mk (st := s_is_head) l8 c8 k8
  have b8 := F8.binds (ps := ["things", "atoms"]) fun _ _ _ _ _ _ us hl => match us, hl with | [_, _], _ => rfl
  have m8 := PySem.W.mg_of X GG a8
  have F9 := fun_mk (st := s_listed) l9 c9 k9
  have b9 := F9.binds (ps := ["thing"]) fun _ _ _ _ _ _ us hl => match us, hl with | [_], _ => rfl
  have m9 := PySem.W.mg_of X GG a9
  have F10 := fun_mk (st := s_question_of) l10 c10 k10
  have b10 := F10.binds (ps := ["tables", "head", "atoms"]) fun _ _ _ _ _ _ us hl => match us, hl with | [_, _, _], _ => rfl
  have m10 := PySem.W.mg_of X GG a10
  have F11 := fun_mk (st := s__law_cell_at) l11 c11 k11
  have b11 := F11.binds (ps := ["_law_script", "_law_k"]) fun _ _ _ _ _ _ us hl => match us, hl with | [_, _], _ => rfl
  have m11 := PySem.W.mg_of X GG a11
  have F12 := fun_mk (st := s__law_digits) l12 c12 k12
  have b12 := F12.binds (ps := ["_law_cell"]) fun _ _ _ _ _ _ us hl => match us, hl with | [_], _ => rfl
  have m12 := PySem.W.mg_of X GG a12
  have F13 := fun_mk (st := s__law_take) l13 c13 k13
  have b13 := F13.binds (ps := ["_law_well", "_law_many"]) fun _ _ _ _ _ _ us hl => match us, hl with | [_, _], _ => rfl
  have m13 := PySem.W.mg_of X GG a13
  have F14 := fun_mk (st := s__law_word) l14 c14 k14
  have b14 := F14.binds (ps := ["_law_well"]) fun _ _ _ _ _ _ us hl => match us, hl with | [_], _ => rfl
  have m14 := PySem.W.mg_of X GG a14
  have F15 := fun_mk (st := s__law_pool) l15 c15 k15
  have b15 := F15.binds (ps := ["_law_well", "_law_many"]) fun _ _ _ _ _ _ us hl => match us, hl with | [_, _], _ => rfl
  have m15 := PySem.W.mg_of X GG a15
  have F16 := fun_mk (st := s__law_tables) l16 c16 k16
  have b16 := F16.binds (ps := ["_law_well"]) fun _ _ _ _ _ _ us hl => match us, hl with | [_], _ => rfl
  have m16 := PySem.W.mg_of X GG a16
  have F17 := fun_mk (st := s__law_term) l17 c17 k17
  have b17 := F17.binds (ps := ["_law_well", "_law_names_here", "_law_pool_here"]) fun _ _ _ _ _ _ us hl => match us, hl with | [_, _, _], _ => rfl
  have m17 := PySem.W.mg_of X GG a17
  have F18 := fun_mk (st := s__law_atoms) l18 c18 k18
  have b18 := F18.binds (ps := ["_law_well", "_law_tables_here", "_law_names_here", "_law_pool_here", "_law_many"]) fun _ _ _ _ _ _ us hl => match us, hl with | [_, _, _, _, _], _ => rfl
  have m18 := PySem.W.mg_of X GG a18
  have F19 := fun_mk (st := s__law_names_in) l19 c19 k19
  have b19 := F19.binds (ps := ["_law_atoms_here"]) fun _ _ _ _ _ _ us hl => match us, hl with | [_], _ => rfl
  have m19 := PySem.W.mg_of X GG a19
  have F20 := fun_mk (st := s__law_head) l20 c20 k20
  have b20 := F20.binds (ps := ["_law_well", "_law_atoms_here", "_law_most"]) fun _ _ _ _ _ _ us hl => match us, hl with | [_, _, _], _ => rfl
  have m20 := PySem.W.mg_of X GG a20
  have F21 := fun_mk (st := s__law_names) l21 c21 k21
  have b21 := F21.binds (ps := ["_law_well"]) fun _ _ _ _ _ _ us hl => match us, hl with | [_], _ => rfl
  have m21 := PySem.W.mg_of X GG a21
  have F22 := fun_mk (st := s__law_told) l22 c22 k22
  have b22 := F22.binds (ps := ["_law_told_here", "_law_head_here", "_law_atoms_here"]) fun _ _ _ _ _ _ us hl => match us, hl with | [_, _, _], _ => rfl
  have m22 := PySem.W.mg_of X GG a22
  have F23 := fun_mk (st := s_law) l23 c23 k23
  have b23 := F23.binds (ps := ["_law_script"]) fun _ _ _ _ _ _ us hl => match us, hl with | [_], _ => rfl
  have m23 := PySem.W.mg_of X GG a23
  refine ⟨PySem.W.fnOf "law" "law" (defArgs s_law) (defBody s_law) (defScope s_law) .none kV23 dc23 pm23 an23 cd23 ct23, fun s v => .of_eq rfl, fun base _ _ => ?_⟩
  have G0 := ok_is_whole (P := l.prog) (w := w) (mg := mg) (base := base) F0 Z_int Z_isinstance Z_bool
  have G1 := ok_is_name (P := l.prog) (w := w) (mg := mg) (base := base) F1 Z_str Z_isinstance Z_len M_MOST_LETTERS Z_all
  have G2 := ok_is_value (P := l.prog) (w := w) (mg := mg) (base := base) F2 G0 m0 k0 b0 Z_abs G1 m1 k1 b1
  have G3 := ok_is_tuple (P := l.prog) (w := w) (mg := mg) (base := base) F3 Z_tuple Z_isinstance Z_len
  have G4 := ok_is_number_below (P := l.prog) (w := w) (mg := mg) (base := base) F4 G0 m0 k0 b0
  have G5 := ok_is_term (P := l.prog) (w := w) (mg := mg) (base := base) F5 G3 m3 k3 b3 G1 m1 k1 b1 G2 m2 k2 b2
  have G6 := ok_is_atom (P := l.prog) (w := w) (mg := mg) (base := base) F6 G3 m3 k3 b3 G4 m4 k4 b4 Z_len G5 m5 k5 b5 Z_all
  have G7 := ok_names_in (P := l.prog) (w := w) (mg := mg) (base := base) F7 Z_list
  have G8 := ok_is_head (P := l.prog) (w := w) (mg := mg) (base := base) F8 G7 m7 k7 b7 Z_len M_MOST_NAMES Z_all Z_set
  have G9 := ok_listed (P := l.prog) (w := w) (mg := mg) (base := base) F9 Z_list Z_tuple Z_isinstance
  have G10 := ok_question_of (P := l.prog) (w := w) (mg := mg) (base := base) F10 G9 m9 k9 b9 Z_enumerate G6 m6 k6 b6 Z_len M_MOST_ATOMS G8 m8 k8 b8 Z_tuple
  have G11 := ok__law_cell_at (P := l.prog) (w := w) (mg := mg) (base := base) F11 Z_len
  have G12 := ok__law_digits (P := l.prog) (w := w) (mg := mg) (base := base) F12 Z_range
  have G13 := ok__law_take (P := l.prog) (w := w) (mg := mg) (base := base) F13
  have G14 := ok__law_word (P := l.prog) (w := w) (mg := mg) (base := base) F14 Z_range G13 m13 k13 b13
  have G15 := ok__law_pool (P := l.prog) (w := w) (mg := mg) (base := base) F15 Z_range G13 m13 k13 b13 G14 m14 k14 b14
  have G16 := ok__law_tables (P := l.prog) (w := w) (mg := mg) (base := base) F16 Z_range G13 m13 k13 b13
  have G17 := ok__law_term (P := l.prog) (w := w) (mg := mg) (base := base) F17 G13 m13 k13 b13 Z_len
  have G18 := ok__law_atoms (P := l.prog) (w := w) (mg := mg) (base := base) F18 Z_range G13 m13 k13 b13 Z_len G17 m17 k17 b17 Z_tuple
  have G19 := ok__law_names_in (P := l.prog) (w := w) (mg := mg) (base := base) F19
  have G20 := ok__law_head (P := l.prog) (w := w) (mg := mg) (base := base) F20 G19 m19 k19 b19 Z_range G13 m13 k13 b13 Z_len
  have G21 := ok__law_names (P := l.prog) (w := w) (mg := mg) (base := base) F21 G14 m14 k14 b14 G13 m13 k13 b13 Z_range
  have G22 := ok__law_told (P := l.prog) (w := w) (mg := mg) (base := base) F22 Z_tuple Z_isinstance Z_len Z_int Z_bool
  have G23 := ok_law (P := l.prog) (w := w) (mg := mg) (base := base) F23 G16 m16 k16 b16 G12 m12 k12 b12 G11 m11 k11 b11 Z_tuple G15 m15 k15 b15 G21 m21 k21 b21 Z_range G13 m13 k13 b13 G18 m18 k18 b18 G20 m20 k20 b20 G22 m22 k22 b22 G10 m10 k10 b10 Z_list
  exact G23.imp fun vs H Q E => spLaw_of (g := ⟨K, mg, l.prog, w⟩) vs H Q E
theorem walk {l : PySem.W.OpenLaw} {q : Program} {loose : List Str} {XP : (Str → Option Value) → Heap → Prop} {YP : World → Heap → Prop} {d : DefRec} {K : Params → PySem.W.Frag} (hn : l.most = some 63) (hdf : d.params.defaults = [])
    (hY : ∀ (w : World) (h : Heap), YP w h → (K w.params).In h)
    (F : ∀ (w : World) (mg : Str → Option Value) (fa : Addr) (h : Heap), (K w.params).In h → h.Ns mainGlobals mg → mg d.name = some (.ref fa) →
      ∃ fd : FuncData, (∀ (s : Shared) (u : Value), BindsTo s fd ⟨[u], []⟩ [("_law_script", u)]) ∧ ∀ base : Heap, (K w.params).In base → base.Ns mainGlobals mg → FnOk l.prog w (K w.params) mg base CX0 6 fa fd ["_law_script"] (spLaw (K w.params) f_law)) :
    PySem.W.WalkO q loose XP YP l.row.toRowW d [] (fun f vs => PySem.call f vs) :=
  L2.walk_of (n := 63) (k := 6) (x := "_law_script") (CX := fun _ => CX0) (sp := fun w => spLaw (K w.params) f_law) hn (by decide) hdf ⟨rfl, by decide, by decide⟩ hY F
    (fun w H a ns hl hO hS => law_head hO hS (law_true ns hl)) fun _ _ _ _ _ z => z
end My
end M
end L2
open PySem PySem.W PyProof.Rows
set_option maxRecDepth 100000 in
set_option maxHeartbeats 0 in
theorem PySem.Challenge.cw_mendsure_k30_a_question_as_handed_in_holds : PySem.Challenge.rw_mendsure_k30_a_question_as_handed_in.Holds := by
  w_on; o_law; k_head; (case hw => w_witness2)
  k_fill
  refine L2.M.My.walk (l := PySem.Challenge.rw_mendsure_k30_a_question_as_handed_in) rfl rfl (fun w h Y => PySem.W.kIn_of Y) ?F
  case F =>
    intro w mg fa h KX G hmg
    refine' L2.M.My.all_mk KX G hmg ?a0 ?l0 ?c0 ?k0 ?a1 ?l1 ?c1 ?k1 ?a2 ?l2 ?c2 ?k2 ?a3 ?l3 ?c3 ?k3 ?a4 ?l4 ?c4 ?k4 ?a5 ?l5 ?c5 ?k5 ?a6 ?l6 ?c6 ?k6 ?a7 ?l7 ?c7 ?k7 ?a8 ?l8 ?c8 ?k8 ?a9 ?l9 ?c9 ?k9 ?a10 ?l10 ?c10 ?k10 ?a11 ?l11 ?c11 ?k11 ?a12 ?l12 ?c12 ?k12 ?a13 ?l13 ?c13 ?k13 ?a14 ?l14 ?c14 ?k14 ?a15 ?l15 ?c15 ?k15 ?a16 ?l16 ?c16 ?k16 ?a17 ?l17 ?c17 ?k17 ?a18 ?l18 ?c18 ?k18 ?a19 ?l19 ?c19 ?k19 ?a20 ?l20 ?c20 ?k20 ?a21 ?l21 ?c21 ?k21 ?a22 ?l22 ?c22 ?k22 ?a23 ?l23 ?c23 ?k23 ?m_MOST_ATOMS ?m_MOST_LETTERS ?m_MOST_NAMES ?z_abs ?z_all ?z_bool ?z_enumerate ?z_int ?z_isinstance ?z_len ?z_list ?z_range ?z_set ?z_str ?z_tuple
    (case a0 => k_is)
    (case l0 => k_is)
    (case c0 => k_is)
    (case k0 => k_is)
    (case a1 => k_is)
    (case l1 => k_is)
    (case c1 => k_is)
    (case k1 => k_is)
    (case a2 => k_is)
    (case l2 => k_is)
    (case c2 => k_is)
    (case k2 => k_is)
    (case a3 => k_is)
    (case l3 => k_is)
    (case c3 => k_is)
    (case k3 => k_is)
    (case a4 => k_is)
    (case l4 => k_is)
    (case c4 => k_is)
    (case k4 => k_is)
    (case a5 => k_is)
    (case l5 => k_is)
    (case c5 => k_is)
    (case k5 => k_is)
    (case a6 => k_is)
    (case l6 => k_is)
    (case c6 => k_is)
    (case k6 => k_is)
    (case a7 => k_is)
    (case l7 => k_is)
    (case c7 => k_is)
    (case k7 => k_is)
    (case a8 => k_is)
    (case l8 => k_is)
    (case c8 => k_is)
    (case k8 => k_is)
    (case a9 => k_is)
    (case l9 => k_is)
    (case c9 => k_is)
    (case k9 => k_is)
    (case a10 => k_is)
    (case l10 => k_is)
    (case c10 => k_is)
    (case k10 => k_is)
    (case a11 => k_is)
    (case l11 => k_is)
    (case c11 => k_is)
    (case k11 => k_is)
    (case a12 => k_is)
    (case l12 => k_is)
    (case c12 => k_is)
    (case k12 => k_is)
    (case a13 => k_is)
    (case l13 => k_is)
    (case c13 => k_is)
    (case k13 => k_is)
    (case a14 => k_is)
    (case l14 => k_is)
    (case c14 => k_is)
    (case k14 => k_is)
    (case a15 => k_is)
    (case l15 => k_is)
    (case c15 => k_is)
    (case k15 => k_is)
    (case a16 => k_is)
    (case l16 => k_is)
    (case c16 => k_is)
    (case k16 => k_is)
    (case a17 => k_is)
    (case l17 => k_is)
    (case c17 => k_is)
    (case k17 => k_is)
    (case a18 => k_is)
    (case l18 => k_is)
    (case c18 => k_is)
    (case k18 => k_is)
    (case a19 => k_is)
    (case l19 => k_is)
    (case c19 => k_is)
    (case k19 => k_is)
    (case a20 => k_is)
    (case l20 => k_is)
    (case c20 => k_is)
    (case k20 => k_is)
    (case a21 => k_is)
    (case l21 => k_is)
    (case c21 => k_is)
    (case k21 => k_is)
    (case a22 => k_is)
    (case l22 => k_is)
    (case c22 => k_is)
    (case k22 => k_is)
    (case a23 => k_is)
    (case l23 => k_is)
    (case c23 => k_is)
    (case k23 => k_is)
    (case m_MOST_ATOMS => k_is)
    (case m_MOST_LETTERS => k_is)
    (case m_MOST_NAMES => k_is)
    (case z_abs => k_is)
    (case z_all => k_is)
    (case z_bool => k_is)
    (case z_enumerate => k_is)
    (case z_int => k_is)
    (case z_isinstance => k_is)
    (case z_len => k_is)
    (case z_list => k_is)
    (case z_range => k_is)
    (case z_set => k_is)
    (case z_str => k_is)
    (case z_tuple => k_is)
