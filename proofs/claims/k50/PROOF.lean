import PyProof.Rows.All
import Wide.All
import OpenK.AllK
import Wide.FinOn
import Lean
import PyProof.EqAt
import PyProof.EqKinds
import PyProof.TupleCall
import PySem.Challenge.RW_mendsure_k50_blocks
set_option Elab.async false
set_option linter.all false
set_option maxRecDepth 100000
theorem zQ1 {α : Type} {l : List α} {i : Nat} {a : α} : l[i]? = some a ↔ ∃ h : i < l.length, l[i] = a := List.getElem?_eq_some_iff
theorem zQ2 {α : Type} {a b : List α} {i : Nat} (h : i < a.length) : (a ++ b)[i]? = a[i]? := List.getElem?_append_left h
theorem zQ3 : ¬ false = true := Bool.false_ne_true
theorem zQ4 {α : Type} {as bs : List α} : (as ++ bs).length = as.length + bs.length := List.length_append
namespace L2
open PySem PySem.Spec PyProof.Rows
abbrev Key := Sum Int Str
def zOH : Key → Value → Bool
 | .inl k, v => Value.isInt k v
 | .inr x, v => Value.isStrOf x v
def keyH (w : World) : Key → Int
 | .inl k => hashInt k
 | .inr x => hashStr w x
theorem wC : ∀ {k : Key} {v : Value}, zOH k v = true → (∃ i t, k = Sum.inl i ∧ v = Value.int i t) ∨ (∃ x t, k = Sum.inr x ∧ v = Value.str x t)
 | .inl i, v, h => by
  obtain ⟨t, e⟩ := Value.isInt_shape (k := i) (v := v) h
  exact .inl ⟨i, t, rfl, e⟩
 | .inr x, v, h => by
  obtain ⟨t, e⟩ := Value.isStrOf_shape (x := x) (v := v) h
  exact .inr ⟨x, t, rfl, e⟩
theorem yMN (a b : Int) : decide ((Sum.inl a : Key) = Sum.inl b) = (a == b) := by
 by_cases e : a = b
 ·subst e; simp
 ·have h : ¬ (Sum.inl a : Key) = Sum.inl b := fun q => e (Sum.inl.inj q)
  rw [decide_eq_false h]
  exact (beq_eq_false_iff_ne.mpr e).symm
theorem yMO (a b : Str) : decide ((Sum.inr a : Key) = Sum.inr b) = decide (a = b) := by
 by_cases e : a = b
 ·subst e; simp
 ·have h : ¬ (Sum.inr a : Key) = Sum.inr b := fun q => e (Sum.inr.inj q)
  rw [decide_eq_false h, decide_eq_false e]
theorem yMP (a : Int) (b : Str) : decide ((Sum.inl a : Key) = Sum.inr b) = false := decide_eq_false (fun q => nomatch q)
theorem yMQ (a : Str) (b : Int) : decide ((Sum.inr a : Key) = Sum.inl b) = false := decide_eq_false (fun q => nomatch q)
def zNW (prog : Program) (w : World) : PySem.KeyKind prog w Key where
 is := zOH
 hash := keyH w
 inj := fun v a b ha hb => by
  rcases wC ha with ⟨i, t, rfl, rfl⟩ | ⟨x, t, rfl, rfl⟩
  ·rcases wC hb with ⟨j, u, rfl, e⟩ | ⟨y, u, rfl, e⟩
   ·injection e with e1 _; rw [e1]
   ·exact nomatch e
  ·rcases wC hb with ⟨j, u, rfl, e⟩ | ⟨y, u, rfl, e⟩
   ·exact nomatch e
   ·injection e with e1 _; rw [e1]
 byValue := fun k v h => by
  rcases wC h with ⟨i, t, rfl, rfl⟩ | ⟨x, t, rfl, rfl⟩ <;> rfl
 pyHash := fun hv h => by
  rcases wC hv with ⟨i, t, rfl, rfl⟩ | ⟨x, t, rfl, rfl⟩
  ·exact wpAny_pyHash_int h
  ·exact wpAny_pyHash_str h
 eqBool := fun hu hv h => by
  rcases wC hu with ⟨i, t, rfl, rfl⟩ | ⟨x, t, rfl, rfl⟩
  ·rcases wC hv with ⟨j, u, rfl, rfl⟩ | ⟨y, u, rfl, rfl⟩
   ·rw [yMN] at h; exact wpAny_eqBool_int h
   ·rw [yMP] at h; exact SeqAt.EqAt.int_str i t y u _ _ _ _ h
  ·rcases wC hv with ⟨j, u, rfl, rfl⟩ | ⟨y, u, rfl, rfl⟩
   ·rw [yMQ] at h; exact SeqAt.EqAt.str_int x t j u _ _ _ _ h
   ·rw [yMO] at h; exact wpAny_eqBool_str h
 «strs» := fun k x t v h => by
  rcases wC h with ⟨i, u, rfl, e⟩ | ⟨y, u, rfl, e⟩
  ·exact nomatch e
  ·injection e with e1 _
   subst e1
   cases v <;> rfl
end L2
namespace L2
open PySem PySem.Spec PyProof.Rows
inductive V where
 | non | bl (b : Bool) | int (i : Int) | str (x : Str) | byt (b : Array UInt8) | flt (b : UInt64) | ref (a : Addr) | ty (n : String)
 deriving DecidableEq
def RelV : V → Value → Prop
 | .non, u => u = Value.none
 | .bl b, u => u = Value.bool b
 | .int i, u => ∃ t, u = Value.int i t
 | .str x, u => ∃ t, u = Value.str x t
 | .byt b, u => ∃ t, u = Value.bytes b t
 | .flt b, u => ∃ t, u = Value.float b t
 | .ref a, u => u = Value.ref a
 | .ty n, u => u = Value.type n
abbrev Vals : List V → List Value → Prop := Paired RelV
theorem Vals.length {xs : List V} {us : List Value} (r : Vals xs us) : xs.length = us.length := Paired.length r
theorem Vals.get : ∀ {xs : List V} {us : List Value} {i : Nat} {x : V}, Vals xs us → xs[i]? = some x → ∃ u, us[i]? = some u ∧ RelV x u
 | _, _, _, _, .nil, e => by simp at e
 | _, _, 0, _, .cons r _, e => by simp at e; subst e; exact ⟨_, rfl, r⟩
 | _, _, i + 1, x, .cons _ t, e => by
  obtain ⟨u, h1, h2⟩ := Vals.get (i := i) (x := x) t (by simpa using e)
  exact ⟨u, by simpa using h1, h2⟩
theorem Vals.append : ∀ {xs ys : List V} {us ws : List Value}, Vals xs us → Vals ys ws → Vals (xs ++ ys) (us ++ ws)
 | _, _, _, _, .nil, s => s
 | _, _, _, _, .cons r t, s => .cons r (Vals.append t s)
theorem Vals.take : ∀ {xs : List V} {us : List Value} (n : Nat), Vals xs us → Vals (xs.take n) (us.take n)
 | _, _, 0, _ => .nil
 | _, _, _ + 1, .nil => .nil
 | _, _, n + 1, .cons r t => .cons r (Vals.take n t)
theorem Vals.drop : ∀ {xs : List V} {us : List Value} (n : Nat), Vals xs us → Vals (xs.drop n) (us.drop n)
 | _, _, 0, r => r
 | _, _, _ + 1, .nil => .nil
 | _, _, n + 1, .cons _ t => Vals.drop n t
def RelO : Option V → Option Value → Prop
 | some v, some u => RelV v u
 | none, none => True
 | _, _ => False
def KV {κ : Type} : List (κ × V) → List (κ × Value) → Prop := Paired fun (p : κ × V) (q : κ × Value) => p.1 = q.1 ∧ RelV p.2 q.2
def kV : Key → V
 | .inl i => .int i
 | .inr x => .str x
inductive HO where
 | lst (xs : List V)
 | tup (xs : List V)
 | dK (kvs : List (Key × V)) | dT (kvs : List (List Key × V))
 | set (S : Int → Bool) (n : Nat)
 | ins (C dx : Addr) (fs : List (Str × V))
 | own (x : Addr)
 | xd (fs : List (Str × V))
 | met (f x : Addr)
 | rng (lo hi : Int)
 | frz (o : Obj) (u : HO)
 | tbl (ps : Array Value)
 | ext (φ : Heap → Prop)
abbrev Hp := Addr → Option HO
def upd (H : Hp) (a : Addr) (o : HO) : Hp := fun b => if b = a then some o else H b
theorem wR {H : Hp} {a : Addr} {o : HO} : upd H a o a = some o := by unfold upd; rw [if_pos rfl]
theorem yP {H : Hp} {a b : Addr} {o : HO} (h : b ≠ a) : upd H a o b = H b := by unfold upd; rw [if_neg h]
theorem yV {H : Hp} {a b : Addr} {o : HO} (h : H a = some o) (h' : H b = none) : a ≠ b := by
 intro e; subst e; rw [h] at h'; cases h'
section
variable (P : Program) (w : World)
def ObjOk (H : Hp) (h : Heap) (a : Addr) : HO → Prop
 | .lst xs => xs.length ≤ sizeLine ∧ ∃ (its : List Value) (n : Nat), Vals xs its ∧ h.get? a = some { cls := .type "list", data := .seq its.toArray n }
 | .tup xs => xs.length ≤ sizeLine ∧ ∃ its : List Value, Vals xs its ∧ IsTup h a its.toArray
 | .dK kvs => kvs.length ≤ sizeLine ∧ (a == sysModules) = false ∧ ∃ vs, KV kvs vs ∧ h.DictOf (zNW P w) a vs
 | .dT kvs => kvs.length ≤ sizeLine ∧ (a == sysModules) = false ∧ ∃ xs : List (List Key × Addr × Value),
   Paired (fun (p : List Key × V) (q : List Key × Addr × Value) => p.1 = q.1 ∧ H q.2.1 = some (.tup (p.1.map kV)) ∧ RelV p.2 q.2.2) kvs xs ∧
   ∃ o es ep, h.get? a = some o ∧ o.ExactDict ∧ o.data = .dict es ep ∧ es.toList = xs.map (entryOfKey (tupleKind (zNW P w))) ∧ (xs.map (·.1)).Nodup
 | .set S n => h.SetOf (intKind P w) a S n
 | .ins C dx fs => H dx = some (.own a) ∧ fs.length ≤ 1000 ∧ dx ≠ a ∧ h.get? a = some (PySem.W.instObj C dx) ∧
   ∃ mA, h.Ns1 dx mA ∧ (∀ f, RelO (fs.lookup f) (mA f)) ∧ PySem.Within mA (fs.map (·.1))
 | .own _ => ∃ o, h.get? a = some o
 | .xd fs => ∃ mA, h.Ns1 a mA ∧ ∀ f, RelO (fs.lookup f) (mA f)
 | .rng lo hi => ∃ t u v, h.get? a = some { cls := .type "range", data := .fields #[.int lo t, .int hi u, .int 1 v] }
 | .frz o u => h.get? a = some o ∧ ObjOk H h a u
 | .tbl ps => h.get? a = some { cls := .none, data := .fields ps }
 | .met f x => h.get? a = some (PySem.W.methodObj (.ref f) (.ref x))
 | .ext φ => φ h ∧ (∃ o, h.get? a = some o) ∧ ∀ h1 h2 : Heap, φ h1 → (∀ o, h1.get? a = some o → h2.get? a = some o) → φ h2
def HOk (H : Hp) (h : Heap) : Prop := ∀ a o, H a = some o → ObjOk P w H h a o
end
section
variable {P : Program} {w : World} {H H' : Hp} {h h' : Heap} {a : Addr} {o : HO}
theorem ObjOk.lt (x : ObjOk P w H h a o) : a < h.objs.size := by
 cases o with
 | lst xs => obtain ⟨_, _, _, _, e⟩ := x; exact Heap.lt_size e
 | tup xs => obtain ⟨_, _, _, p⟩ := x; exact p.lt
 | dK kvs => obtain ⟨_, _, _, _, o, _, _, e, _⟩ := x; exact Heap.lt_size e
 | dT kvs => obtain ⟨_, _, _, _, o, _, _, e, _⟩ := x; exact Heap.lt_size e
 | set S n => obtain ⟨o, _, _, _, e, _⟩ := x; exact Heap.lt_size e
 | ins C dx fs => obtain ⟨_, _, _, e, _⟩ := x; exact Heap.lt_size e
 | own y => obtain ⟨_, e⟩ := x; exact Heap.lt_size e
 | xd fs => obtain ⟨_, ⟨_, _, _, e, _⟩, _⟩ := x; exact Heap.lt_size e
 | rng lo hi => obtain ⟨_, _, _, e⟩ := x; exact Heap.lt_size e
 | frz ob u => obtain ⟨e, _⟩ := x; exact Heap.lt_size e
 | tbl ps => exact Heap.lt_size (show h.get? a = some _ from x)
 | met f y => exact Heap.lt_size (show h.get? a = some _ from x)
 | ext φ => obtain ⟨_, ⟨_, e⟩, _⟩ := x; exact Heap.lt_size e
theorem Paired.mapP {α β : Type} {F G : α → β → Prop} : ∀ {l₁ : List α} {l₂ : List β}, Paired F l₁ l₂ → (∀ a b, F a b → G a b) → Paired G l₁ l₂
 | _, _, .nil, _ => .nil
 | _, _, .cons r t, f => .cons (f _ _ r) (Paired.mapP t f)
theorem ObjOk.stay (x : ObjOk P w H h a o) (k : ∀ b u, (b = a ∨ H b = some (.own a)) → h.get? b = some u → h'.get? b = some u)
  (ho : ∀ b, H b = some (.own a) → H' b = some (.own a)) (ht : ∀ b xs, H b = some (.tup xs) → H' b = some (.tup xs)) : ObjOk P w H' h' a o := by
 induction o with
 | lst xs => obtain ⟨z, its, n, r, e⟩ := x; exact ⟨z, its, n, r, k _ _ (.inl rfl) e⟩
 | tup xs => obtain ⟨z, its, r, ob, e, c⟩ := x; exact ⟨z, its, r, ob, k _ _ (.inl rfl) e, c⟩
 | dK kvs => obtain ⟨z, y, vs, r, ob, es, ep, e, c⟩ := x; exact ⟨z, y, vs, r, ob, es, ep, k _ _ (.inl rfl) e, c⟩
 | dT kvs =>
  obtain ⟨z, y, xs, r, ob, es, ep, e, c⟩ := x
  exact ⟨z, y, xs, Paired.mapP r fun p q z => ⟨z.1, ht _ _ z.2.1, z.2.2⟩, ob, es, ep, k _ _ (.inl rfl) e, c⟩
 | set S n => obtain ⟨ob, es, ep, t, e, c⟩ := x; exact ⟨ob, es, ep, t, k _ _ (.inl rfl) e, c⟩
 | ins C dx fs =>
  obtain ⟨d, z, ne, e, mA, ⟨od, es, ep, e2, c⟩, r⟩ := x
  exact ⟨ho _ d, z, ne, k _ _ (.inl rfl) e, mA, ⟨od, es, ep, k _ _ (.inr d) e2, c⟩, r⟩
 | own y => obtain ⟨ob, e⟩ := x; exact ⟨ob, k _ _ (.inl rfl) e⟩
 | xd fs => obtain ⟨mA, ⟨od, es, ep, e, c⟩, r⟩ := x; exact ⟨mA, ⟨od, es, ep, k _ _ (.inl rfl) e, c⟩, r⟩
 | rng lo hi => obtain ⟨t, u, v, e⟩ := x; exact ⟨t, u, v, k _ _ (.inl rfl) e⟩
 | frz ob u ih => obtain ⟨e, q⟩ := x; exact ⟨k _ _ (.inl rfl) e, ih q⟩
 | tbl ps =>
  have e : h.get? a = some { cls := .none, data := .fields ps } := x
  show h'.get? a = some { cls := .none, data := .fields ps }
  exact k a _ (.inl rfl) e
 | met f y =>
  have e : h.get? a = some (PySem.W.methodObj (.ref f) (.ref y)) := x
  show h'.get? a = some (PySem.W.methodObj (.ref f) (.ref y))
  exact k a _ (.inl rfl) e
 | ext φ => obtain ⟨p, ⟨o, e⟩, st⟩ := x; exact ⟨st _ _ p fun o q => k _ _ (.inl rfl) q, ⟨o, k _ _ (.inl rfl) e⟩, st⟩
theorem HOk.lt (x : HOk P w H h) (e : H a = some o) : a < h.objs.size := (x a o e).lt
theorem HOk.fresh (x : HOk P w H h) (e : h.objs.size ≤ a) : H a = none := by
 cases q : H a with
 | none => rfl
 | some u => exact absurd (Nat.lt_of_lt_of_le (x.lt q) e) (Nat.lt_irrefl _)
theorem HOk.kept (x : HOk P w H h) (k : ∀ b u, h.get? b = some u → h'.get? b = some u) : HOk P w H h' := fun a o e =>
 (x a o e).stay (fun b u _ q => k b u q) (fun _ q => q) fun _ _ q => q
theorem HOk.laid (x : HOk P w H h) (k : ∀ b u, h.get? b = some u → h'.get? b = some u) (hp : h.objs.size ≤ a) (new : ObjOk P w (upd H a o) h' a o) : HOk P w (upd H a o) h' := fun b u e => by
 have hn := x.fresh hp
 by_cases hb : b = a
 ·subst hb; rw [wR] at e; cases e; exact new
 ·rw [yP hb] at e
  exact (x b u e).stay (fun c v _ q => k c v q) (fun c q => by rw [yP (yV q hn)]; exact q) fun c xs q => by rw [yP (yV q hn)]; exact q
end
def Rd (H : Hp) (a : Addr) (u : HO) : Prop := H a = some u ∨ ∃ o, H a = some (.frz o u)
theorem Rd.ok {P : Program} {w : World} {H : Hp} {h : Heap} {a : Addr} {u : HO} (r : Rd H a u) (x : HOk P w H h) : ObjOk P w H h a u := by
 rcases r with r | ⟨o, r⟩
 ·exact x a u r
 ·obtain ⟨_, q⟩ := x a _ r
  exact q
def Mut : Option HO → Prop
 | some (.lst _) => True
 | some (.dK _) => True
 | some (.dT _) => True
 | some (.set _ _) => True
 | some (.ins _ _ _) => True
 | some (.ext _) => True
 | _ => False
section
variable {P : Program} {w : World} {H : Hp} {h h' : Heap} {x e : Addr} {o' : HO}
theorem HOk.write (ok : HOk P w H h) (mu : Mut (H x)) (he : e = x ∨ H e = some (.own x)) (k : ∀ b u, b ≠ e → h.get? b = some u → h'.get? b = some u) (heo : ∃ u, h'.get? e = some u)
  (new : ObjOk P w (upd H x o') h' x o') : HOk P w (upd H x o') h' := fun b u q => by
 have nown : ∀ c y, H c = some (.own y) → c ≠ x := fun c y r z => by subst z; rw [r] at mu; exact mu
 have ntup : ∀ c xs, H c = some (.tup xs) → c ≠ x := fun c xs r z => by subst z; rw [r] at mu; exact mu
 by_cases hb : b = x
 ·subst hb; rw [wR] at q; cases q; exact new
 ·rw [yP hb] at q
  by_cases hbe : b = e
  ·have q' : H b = some (.own x) := by
    rcases he with z | z
    ·exact absurd (hbe.trans z) hb
    ·rw [hbe]; exact z
   rw [q] at q'; cases q'
   obtain ⟨v, hv⟩ := heo
   exact ⟨v, by rw [hbe]; exact hv⟩
  ·refine (ok b u q).stay (fun c v hc r => k c v ?_ r) (fun c r => by rw [yP (nown c b r)]; exact r) fun c xs r => by rw [yP (ntup c xs r)]; exact r
   rcases hc with rfl | hc
   ·exact hbe
   ·rintro rfl
    rcases he with z | z
    ·exact nown c b hc z
    ·rw [hc] at z; cases z; exact hb rfl
end
structure Un (fs ex : List Addr) (H H' : Hp) (h h' : Heap) : Prop where
 keep : ∀ b o, h.get? b = some o → H b = none → b ∉ fs → b ∉ ex → h'.get? b = some o
 slot : ∀ b o, h.get? b = some o → H b = none → b ∈ fs → b ∉ ex → ∃ sl, h'.get? b = some { o with slots := sl }
 free : ∀ b o, h.get? b = some o → H b = none → b ∉ ex → H' b = none
 there : ∀ b o, h.get? b = some o → b ∉ ex → ∃ o', h'.get? b = some o'
 tups : ∀ b xs, H b = some (.tup xs) → H' b = some (.tup xs)
 frzs : ∀ b o u, H b = some (.frz o u) → H' b = some (.frz o u)
 tbls : ∀ b ps, H b = some (.tbl ps) → ∃ more, H' b = some (.tbl (ps ++ more))
section
variable {fs fs' ex ex' : List Addr} {H H1 H2 : Hp} {h h1 h2 h' : Heap} {a x e : Addr} {o : HO}
theorem Un.any (u : Un fs ex H H1 h h1) {b : Addr} {ob : Obj} (q : h.get? b = some ob) (n : H b = none) (hx : b ∉ ex) : ∃ sl, h1.get? b = some { ob with slots := sl } := by
 by_cases hb : b ∈ fs
 ·exact u.slot b ob q n hb hx
 ·exact ⟨ob.slots, u.keep b ob q n hb hx⟩
theorem Un.kept (k : ∀ b u, h.get? b = some u → h'.get? b = some u) : Un fs ex H H h h' :=
 ⟨fun b ob q _ _ _ => k b ob q, fun b ob q _ _ _ => ⟨ob.slots, k b ob q⟩, fun _ _ _ n _ => n, fun b ob q _ => ⟨ob, k b ob q⟩, fun _ _ q => q, fun _ _ _ q => q, fun _ ps q => ⟨#[], by rw [q]; simp⟩⟩
theorem Un.refl : Un fs ex H H h h := Un.kept fun _ _ q => q
theorem Un.laid (k : ∀ b u, h.get? b = some u → h'.get? b = some u) (hp : h.objs.size ≤ a) (hn : H a = none) : Un fs ex H (upd H a o) h h' where
 keep := fun b u q _ _ _ => k b u q
 slot := fun b u q _ _ _ => ⟨u.slots, k b u q⟩
 free := fun b u q n _ => by rw [yP (Nat.ne_of_lt (Nat.lt_of_lt_of_le (Heap.lt_size q) hp))]; exact n
 there := fun b u q _ => ⟨u, k b u q⟩
 tups := fun b xs q => by rw [yP (yV q hn)]; exact q
 frzs := fun b u xs q => by rw [yP (yV q hn)]; exact q
 tbls := fun b ps q => ⟨#[], by rw [yP (yV q hn), q]; simp⟩
theorem Un.write (mu : Mut (H x)) (he : e = x ∨ H e = some (.own x)) (k : ∀ b u, b ≠ e → h.get? b = some u → h'.get? b = some u) (heo : ∃ u, h'.get? e = some u) : Un fs ex H (upd H x o) h h' := by
 have hx : ∀ b, H b = none → b ≠ x := fun b n z => by subst z; rw [n] at mu; exact mu
 have hb : ∀ b, H b = none → b ≠ e := fun b n z => by
  subst z
  rcases he with r | r
  ·exact hx b n r
  ·rw [n] at r; cases r
 have hm : ∀ b u, H b = some u → ¬ Mut (some u) → b ≠ x := fun b u q nm z => by subst z; rw [q] at mu; exact nm mu
 refine ⟨fun b u q n _ _ => k b u (hb b n) q, fun b u q n _ _ => ⟨u.slots, k b u (hb b n) q⟩, fun b u q n _ => by rw [yP (hx b n)]; exact n, fun b u q _ => ?_,
  fun b xs q => by rw [yP (hm b _ q fun z => z)]; exact q, fun b u xs q => by rw [yP (hm b _ q fun z => z)]; exact q, fun b ps q => ⟨#[], by rw [yP (hm b _ q fun z => z), q]; simp⟩⟩
 by_cases hbe : b = e
 ·subst hbe; exact heo
 ·exact ⟨u, k b u hbe q⟩
end
def trk (h : Heap) (H : Hp) : List Addr := (List.range h.objs.size).filter fun a => (H a).isSome
def zTN (h : Heap) (H : Hp) : Heap := PySem.W.hideAll h (trk h H)
theorem yDJ (h : Heap) (H : Hp) : (zTN h H).objs.size = h.objs.size := PySem.W.hideAll_size _ _
theorem yFK {h : Heap} {H : Hp} {b : Addr} {o : Obj} (e : h.get? b = some o) (n : H b = none) : (zTN h H).get? b = some o :=
 PySem.W.hideAll_get _ e fun hm => by
  have q : (H b).isSome = true := (List.mem_filter.mp hm).2
  rw [n] at q; simp at q
theorem yJB {h : Heap} {H : Hp} {b : Addr} {o : Obj} (e : (zTN h H).get? b = some o) : h.get? b = some o ∧ H b = none := by
 have e' : h.get? b = some o := PySem.W.of_hideAll (trk h H) e
 refine ⟨e', ?_⟩
 cases q : H b with
 | none => rfl
 | some x =>
  have hm : b ∈ trk h H := List.mem_filter.mpr ⟨List.mem_range.mpr (Heap.lt_size e'), by simp [q]⟩
  have z : (zTN h H).get? b = none := PySem.W.hideAll_none (trk h H) hm
  rw [z] at e; cases e
def yJC (g h : Heap) (L : Addr) : List (Addr × Obj) := (List.range h.objs.size).filterMap fun a => if a = L ∨ (g.get? a).isSome = true then none else (h.get? a).map fun o => (a, o)
def rest (g h : Heap) (L d : Addr) : List (Addr × Obj) := (yJC g h L).filter fun p => decide (p.1 ≠ d)
end L2
namespace L2
open PySem PySem.Spec PyProof.Rows
structure Mod (K : PySem.W.Frag) (mg : Str → Option Value) (base : Heap) : Prop where
 kin : K.In base
 glob : base.Ns mainGlobals mg
 blt : ∃ mb, base.Ns builtinsNs mb ∧ ∀ x : Str, x ≠ "__name__" → mb x = bootBuiltins x
 nolimit : base.NoLimit
structure Cx where
 prog : Program
 w : World
 K : PySem.W.Frag
 mg : Str → Option Value
 base : Heap
 A : Around
 N : List Str
 s₀ : Shared
 H₀ : Hp
 env : Env
 outer : List Env
 stack : List Env
 ex : List Addr
 fn : Str → Bool
 calm : Bool
 pn : List (Addr × Obj)
 xe : Value → Shared → Prop
def frs (l : List Env) : List Addr := l.filterMap (·.frame)
abbrev Cx.fs (X : Cx) : List Addr := frs X.outer
def Vis (sc : Scope) (x : Str) : Prop := sc.names.lookup x = some .local ∨ sc.names.lookup x = some .cell ∨ sc.names.lookup x = some .free
def Loc (sc : Scope) (x : Str) : Prop := sc.names.lookup x = some .local ∨ sc.names.lookup x = some .cell
def Look (env : Env) (h : Heap) (m : Str → Option Value) (x : Str) (u : Value) : Prop :=
 (env.kindOf x = some .local ∧ m x = some u) ∨ ((env.kindOf x = some .cell ∨ env.kindOf x = some .free) ∧ ∃ c, env.cells.lookup x = some c ∧ h.IsCell c (some u))
structure Cx.Ok (X : Cx) : Prop where
 mod : Mod X.K X.mg X.base
 kind : X.env.scope.kind = .function
 glob : X.env.globals = mainGlobals
 blt : X.env.builtins = builtinsNs
 above : X.s₀.heap.objs.size ≤ X.env.locals
 inj : ∀ x y c, X.env.cells.lookup x = some c → X.env.cells.lookup y = some c → x = y
 has : ∀ x, (X.env.kindOf x = some .cell ∨ X.env.kindOf x = some .free) → ∃ c, X.env.cells.lookup x = some c
 cab : ∀ x c, X.fn x = true → X.env.cells.lookup x = some c → X.s₀.heap.objs.size ≤ c
 hd : X.calm = true → X.A.handled = none
 frames : X.A.frames = some X.stack
 stk : X.stack = X.outer ∨ (X.stack = X.env :: X.outer ∧ X.env.frame = some X.env.locals)
 exf : ∀ b ∈ X.ex, b ≠ X.env.locals ∧ ∀ x c, X.env.cells.lookup x = some c → c ≠ b
 bs : ∀ b o, X.base.get? b = some o → X.s₀.heap.get? b = some o ∧ X.H₀ b = none
 bsz : X.base.objs.size ≤ X.s₀.heap.objs.size
 noex : ∀ b o, X.base.get? b = some o → b ∉ X.ex
 exfs : ∀ b ∈ X.ex, b ∉ X.fs
 funs : X.s₀.heap.FunFrames X.base X.outer
 frf : ∀ b ∈ X.fs, X.H₀ b = none
structure Inv (X : Cx) (pins : List (Addr × Obj)) (σ : List (Option V)) (H : Hp) (s : Shared) : Prop where
 ok : X.Ok
 os : s.os = X.s₀.os
 bare : AllBare s.gens
 base : Un X.fs X.ex X.H₀ H X.s₀.heap s.heap
 loc : ∃ m, s.heap.Ns X.env.locals m ∧ ∀ (i : Nat) (x : Str) (v : V), X.N[i]? = some x → σ[i]? = some (some v) → Vis X.env.scope x → ∃ u, RelV v u ∧ Look X.env s.heap m x u
 cell : ∀ x c, X.env.cells.lookup x = some c → ∃ v, s.heap.IsCell c v
 free : H X.env.locals = none
 freeC : ∀ x c, X.env.cells.lookup x = some c → H c = none
 pin : ∀ p ∈ X.pn ++ pins, s.heap.get? p.1 = some p.2 ∧ H p.1 = none ∧ p.1 ≠ X.env.locals ∧ p.1 ∉ X.fs ∧ ∀ v, p.2.data ≠ .cell v
 hok : HOk X.prog X.w H s.heap
 len : σ.length = X.N.length
section
variable {X : Cx} {pins : List (Addr × Obj)} {σ : List (Option V)} {H H' : Hp} {s : Shared} {h' : Heap}
theorem Cx.Ok.nofr (ok : X.Ok) {b : Addr} {o : Obj} (e : X.base.get? b = some o) : b ∉ X.fs := fun hb => by
 have := (ok.funs.mem hb).1
 rw [e] at this; cases this
theorem Inv.bs (I : Inv X pins σ H s) : ∀ b o, X.base.get? b = some o → s.heap.get? b = some o ∧ H b = none := fun b o e =>
 ⟨I.base.keep b o (I.ok.bs b o e).1 (I.ok.bs b o e).2 (I.ok.nofr e) (I.ok.noex b o e), I.base.free b o (I.ok.bs b o e).1 (I.ok.bs b o e).2 (I.ok.noex b o e)⟩
theorem Inv.bk (I : Inv X pins σ H s) : ∀ b o, X.base.get? b = some o → s.heap.get? b = some o := fun b o e => (I.bs b o e).1
theorem Inv.mod (I : Inv X pins σ H s) : Mod X.K X.mg X.base := I.ok.mod
theorem Inv.kIn (I : Inv X pins σ H s) : X.K.In s.heap := I.ok.mod.kin.keeps I.bk
theorem Inv.lt (I : Inv X pins σ H s) : X.env.locals < s.heap.objs.size := let ⟨_, hn, _⟩ := I.loc; hn.lt
theorem Inv.sz (I : Inv X pins σ H s) : X.s₀.heap.objs.size ≤ s.heap.objs.size := Nat.le_trans I.ok.above (Nat.le_of_lt I.lt)
theorem Inv.nofs (I : Inv X pins σ H s) {a : Addr} (h : s.heap.objs.size ≤ a) : a ∉ X.fs := fun hb => by
 obtain ⟨_, o, ho, _⟩ := I.ok.funs.mem hb
 exact absurd (Nat.lt_of_lt_of_le (Heap.lt_size ho) (Nat.le_trans I.sz h)) (Nat.lt_irrefl _)
theorem Inv.cne (I : Inv X pins σ H s) : ∀ x c, X.env.cells.lookup x = some c → c ≠ X.env.locals := fun x c e z => by
 obtain ⟨v, o, ho, hd⟩ := I.cell x c e
 obtain ⟨m, ⟨o', es, ep, ho', hd', _⟩, _⟩ := I.loc
 rw [z, ho'] at ho; cases ho; rw [hd'] at hd; cases hd
theorem Inv.funs (I : Inv X pins σ H s) : s.heap.FunFrames X.base X.outer := by
 have all : ∀ (l : List Env), (∀ b ∈ frs l, b ∈ X.fs) → X.s₀.heap.FunFrames X.base l → s.heap.FunFrames X.base l := by
  intro l
  induction l with
  | nil => intro _ _; trivial
  | cons env r ih =>
   intro hs hl
   obtain ⟨hk, ⟨L, o, hf, hn, ho, hd⟩, hr⟩ := hl
   have hL : L ∈ X.fs := hs L (by unfold frs; rw [List.filterMap_cons, hf]; exact List.mem_cons_self)
   obtain ⟨sl, e⟩ := I.base.slot L o ho (I.ok.frf L hL) hL fun z => I.ok.exfs L z hL
   exact ⟨hk, ⟨L, _, hf, hn, e, hd⟩, ih (fun b hb => hs b (by unfold frs; rw [List.filterMap_cons, hf]; exact List.mem_cons_of_mem _ hb)) hr⟩
 exact all X.outer (fun _ hb => hb) I.ok.funs
theorem Inv.stack (I : Inv X pins σ H s) : s.heap.FunFrames X.base X.stack := by
 rcases I.ok.stk with e | ⟨e, hf⟩
 ·rw [e]; exact I.funs
 ·rw [e]
  obtain ⟨m, hn, _⟩ := I.loc
  refine .cons (by rw [I.ok.kind]; decide) hf hn ?_ I.funs
  exact Heap.get?_none_of_le (Nat.le_trans I.ok.bsz I.ok.above)
theorem Inv.stkSub (I : Inv X pins σ H s) : ∀ b ∈ frs X.stack, b ∈ X.env.locals :: X.fs := fun b hb => by
 rcases I.ok.stk with e | ⟨e, hf⟩
 ·rw [e] at hb; exact List.mem_cons_of_mem _ hb
 ·rw [e] at hb
  unfold frs at hb
  rw [List.filterMap_cons, hf] at hb
  exact hb
theorem Inv.stkFree (I : Inv X pins σ H s) : ∀ b ∈ frs X.stack, H b = none := fun b hb => by
 rcases List.mem_cons.mp (I.stkSub b hb) with e | hb
 ·rw [e]; exact I.free
 ·obtain ⟨_, o, ho, _⟩ := I.ok.funs.mem hb
  exact I.base.free b o ho (I.ok.frf b hb) fun z => I.ok.exfs b z hb
theorem Inv.step {g' : Array GenState} {t' : Nat} {d' : Drawn} {ch : List Addr} (I : Inv X pins σ H s)
  (hch : ∀ b ∈ ch, (b ∈ X.ex ∨ X.s₀.heap.objs.size ≤ b) ∧ b ≠ X.env.locals ∧ (∀ x c, X.env.cells.lookup x = some c → c ≠ b) ∧ ∀ p ∈ X.pn ++ pins, p.1 ≠ b)
  (keep : ∀ b o, b ≠ X.env.locals → b ∉ X.fs → b ∉ ch → s.heap.get? b = some o → H b = none → h'.get? b = some o)
  (slot : ∀ b o, b ≠ X.env.locals → b ∈ X.fs → b ∉ ch → s.heap.get? b = some o → H b = none → ∃ sl, h'.get? b = some { o with slots := sl }) (free : ∀ b o, b ∉ ch → s.heap.get? b = some o → H b = none → H' b = none)
  (there : ∀ b o, b ∉ ch → s.heap.get? b = some o → ∃ o', h'.get? b = some o')
  (tups : ∀ b xs, H b = some (.tup xs) → H' b = some (.tup xs)) (frzs : ∀ b o u, H b = some (.frz o u) → H' b = some (.frz o u)) (tbls : ∀ b ps, H b = some (.tbl ps) → ∃ more, H' b = some (.tbl (ps ++ more)))
  (ns : ∀ m, s.heap.Ns X.env.locals m → h'.Ns X.env.locals m) (hok : HOk X.prog X.w H' h') (hg : AllBare g') :
  Inv X pins σ H' { s with heap := h', gens := g', drawn := d', toks := t' } := by
 have neL : ∀ b o, X.s₀.heap.get? b = some o → b ≠ X.env.locals := fun b o e => Nat.ne_of_lt (Nat.lt_of_lt_of_le (Heap.lt_size e) I.ok.above)
 have neC : ∀ b o, X.s₀.heap.get? b = some o → b ∉ X.ex → b ∉ ch := fun b o e hx hb => by
  rcases (hch b hb).1 with z | z
  ·exact hx z
  ·exact absurd (Nat.lt_of_lt_of_le (Heap.lt_size e) z) (Nat.lt_irrefl _)
 have cellK : ∀ x c, X.env.cells.lookup x = some c → ∀ v, s.heap.IsCell c v → h'.IsCell c v := fun x c e v ⟨o, ho, hd⟩ => by
  have nch : c ∉ ch := fun z => (hch c z).2.2.1 x c e rfl
  by_cases hc : c ∈ X.fs
  ·obtain ⟨sl, q⟩ := slot c o (I.cne x c e) hc nch ho (I.freeC x c e)
   exact ⟨_, q, hd⟩
  ·exact ⟨o, keep c o (I.cne x c e) hc nch ho (I.freeC x c e), hd⟩
 refine ⟨I.ok, I.os, hg, ⟨fun b o e n hb hx => ?_, fun b o e n hb hx => ?_, fun b o e n hx => ?_, fun b o e hx => ?_, fun b xs e => tups b xs (I.base.tups b xs e), fun b o xs e => frzs b o xs (I.base.frzs b o xs e), fun b ps e => ?_⟩, ?_, fun x c e => ?_, ?_, fun x c e => ?_, fun p hp => ?_, hok, I.len⟩
 ·exact keep b o (neL b o e) hb (neC b o e hx) (I.base.keep b o e n hb hx) (I.base.free b o e n hx)
 ·obtain ⟨sl, e1⟩ := I.base.slot b o e n hb hx
  obtain ⟨sl', e2⟩ := slot b _ (neL b o e) hb (neC b o e hx) e1 (I.base.free b o e n hx)
  exact ⟨sl', e2⟩
 ·obtain ⟨o', e1⟩ := I.base.there b o e hx
  exact free b o' (neC b o e hx) e1 (I.base.free b o e n hx)
 ·obtain ⟨o', e1⟩ := I.base.there b o e hx
  exact there b o' (neC b o e hx) e1
 ·obtain ⟨m1, e1⟩ := I.base.tbls b ps e
  obtain ⟨m2, e2⟩ := tbls b _ e1
  exact ⟨m1 ++ m2, by rw [e2, Array.append_assoc]⟩
 ·obtain ⟨m, hn, hl⟩ := I.loc
  refine ⟨m, ns m hn, fun i x v e1 e2 e3 => ?_⟩
  obtain ⟨u, r, l⟩ := hl i x v e1 e2 e3
  refine ⟨u, r, ?_⟩
  rcases l with l | ⟨k, c, e, z⟩
  ·exact .inl l
  ·exact .inr ⟨k, c, e, cellK x c e _ z⟩
 ·obtain ⟨v, z⟩ := I.cell x c e
  exact ⟨v, cellK x c e v z⟩
 ·obtain ⟨m, ⟨o, _, _, ho, _⟩, _⟩ := I.loc
  exact free _ o (fun z => (hch _ z).2.1 rfl) ho I.free
 ·obtain ⟨v, o, ho, hd⟩ := I.cell x c e
  exact free c o (fun z => (hch c z).2.2.1 x c e rfl) ho (I.freeC x c e)
 ·obtain ⟨e, n, ne, nf, d⟩ := I.pin p hp
  have nch : p.1 ∉ ch := fun z => (hch p.1 z).2.2.2 p hp rfl
  exact ⟨keep p.1 p.2 ne nf nch e n, free p.1 p.2 nch e n, ne, nf, d⟩
theorem Inv.un {t' : Nat} (I : Inv X pins σ H s) (u : Un X.fs [] H H' s.heap h') (hok : HOk X.prog X.w H' h') : Inv X pins σ H' { s with heap := h', toks := t' } := by
 obtain ⟨m, ⟨o, es, ep, ho, r⟩, _⟩ := id I.loc
 obtain ⟨sl, hL⟩ := u.any ho I.free (by simp)
 exact I.step (g' := s.gens) (d' := s.drawn) (ch := []) (fun _ z => nomatch z) (fun b o _ hb _ e n => u.keep b o e n hb (by simp)) (fun b o _ hb _ e n => u.slot b o e n hb (by simp)) (fun b o _ e n => u.free b o e n (by simp)) (fun b o _ e => u.there b o e (by simp)) u.tups u.frzs u.tbls (fun m' hm => by
  obtain ⟨o', es', ep', ho', r'⟩ := hm
  rw [ho] at ho'; cases ho'
  exact ⟨_, es', ep', hL, r'⟩) hok I.bare
theorem Inv.call {g' : Array GenState} {t' : Nat} {d' : Drawn} {ch : List Addr} (I : Inv X pins σ H s) (u : Un (frs X.stack) ch H H' s.heap h') (hok : HOk X.prog X.w H' h') (hg : AllBare g')
  (hch : ∀ b ∈ ch, (b ∈ X.ex ∨ X.s₀.heap.objs.size ≤ b) ∧ b ≠ X.env.locals ∧ (∀ x c, X.env.cells.lookup x = some c → c ≠ b) ∧ ∀ p ∈ X.pn ++ pins, p.1 ≠ b) :
  Inv X pins σ H' { s with heap := h', gens := g', drawn := d', toks := t' } := by
 obtain ⟨m, ⟨o, es, ep, ho, r⟩, _⟩ := id I.loc
 obtain ⟨sl, hL⟩ := u.any ho I.free fun z => (hch _ z).2.1 rfl
 exact I.step (ch := ch) hch (fun b o hL hb hc e n => u.keep b o e n (fun z => (List.mem_cons.mp (I.stkSub b z)).elim hL hb) hc) (fun b o _ _ hc e n => u.any e n hc) (fun b o hc e n => u.free b o e n hc) (fun b o hc e => u.there b o e hc) u.tups u.frzs u.tbls (fun m' hm => by
  obtain ⟨o', es', ep', ho', r'⟩ := hm
  rw [ho] at ho'; cases ho'
  exact ⟨_, es', ep', hL, r'⟩) hok hg
theorem Inv.turned {t' : Nat} {it : Addr} (I : Inv X pins σ H s) (k : ∀ b o, b ≠ it → s.heap.get? b = some o → h'.get? b = some o) (hn : H it = none) (hL : it ≠ X.env.locals)
  (h1 : it ∈ X.ex ∨ X.s₀.heap.objs.size ≤ it) (h2 : ∀ x c, X.env.cells.lookup x = some c → c ≠ it) (h3 : ∀ p ∈ X.pn ++ pins, p.1 ≠ it) : Inv X pins σ H { s with heap := h', toks := t' } := by
 have nit : ∀ b u, H b = some u → b ≠ it := fun b u e z => by rw [z, hn] at e; cases e
 refine I.step (g' := s.gens) (d' := s.drawn) (ch := [it]) (fun b hb => ?_) (fun b o _ _ hc e _ => k b o (fun z => hc (by simp [z])) e) (fun b o _ _ hc e _ => ⟨o.slots, k b o (fun z => hc (by simp [z])) e⟩) (fun _ _ _ _ n => n)
  (fun b o hc e => ⟨o, k b o (fun z => hc (by simp [z])) e⟩) (fun _ _ e => e) (fun _ _ _ e => e) (fun b ps e => ⟨#[], by rw [e]; simp⟩) (fun m hm => ?_) (fun b u e => ?_) I.bare
 ·have e : b = it := by simpa using hb
  subst e
  exact ⟨h1, hL, h2, h3⟩
 ·obtain ⟨o, es, ep, ho, r⟩ := hm
  exact ⟨o, es, ep, k _ o (Ne.symm hL) ho, r⟩
 ·refine (I.hok b u e).stay (fun c v hc q => k c v ?_ q) (fun _ q => q) fun _ _ q => q
  rcases hc with z | z
  ·rw [z]; exact nit b u e
  ·exact nit c _ z
theorem Inv.tok (I : Inv X pins σ H s) (t : Nat) : Inv X pins σ H { s with toks := t } := I.un (h' := s.heap) (t' := t) Un.refl I.hok
theorem Inv.kept {t' : Nat} (I : Inv X pins σ H s) (k : ∀ b u, s.heap.get? b = some u → h'.get? b = some u) : Inv X pins σ H { s with heap := h', toks := t' } := I.un (Un.kept k) (I.hok.kept k)
theorem Inv.laid {a : Addr} {o : HO} {t' : Nat} (I : Inv X pins σ H s) (k : ∀ b u, s.heap.get? b = some u → h'.get? b = some u) (hp : s.heap.objs.size ≤ a) (new : ObjOk X.prog X.w (upd H a o) h' a o) :
  Inv X pins σ (upd H a o) { s with heap := h', toks := t' } := I.un (Un.laid k hp (I.hok.fresh hp)) (I.hok.laid k hp new)
theorem Inv.write {x e : Addr} {o : HO} {t' : Nat} (I : Inv X pins σ H s) (mu : Mut (H x)) (he : e = x ∨ H e = some (.own x)) (k : ∀ b u, b ≠ e → s.heap.get? b = some u → h'.get? b = some u) (heo : ∃ u, h'.get? e = some u)
  (new : ObjOk X.prog X.w (upd H x o) h' x o) : Inv X pins σ (upd H x o) { s with heap := h', toks := t' } := I.un (Un.write mu he k heo) (I.hok.write mu he k heo new)
theorem Inv.pins_of {pins' : List (Addr × Obj)} (I : Inv X pins σ H s) (h : ∀ p ∈ pins', s.heap.get? p.1 = some p.2 ∧ H p.1 = none ∧ p.1 ≠ X.env.locals ∧ p.1 ∉ X.fs ∧ ∀ v, p.2.data ≠ .cell v) : Inv X pins' σ H s :=
 ⟨I.ok, I.os, I.bare, I.base, I.loc, I.cell, I.free, I.freeC, fun p hp => (List.mem_append.mp hp).elim (fun z => I.pin p (List.mem_append_left _ z)) (h p), I.hok, I.len⟩
theorem zVQ {N : List Str} (hN : N.Nodup) {i j : Nat} {x : Str} (a : N[i]? = some x) (b : N[j]? = some x) : i = j := by
 obtain ⟨h1, e1⟩ := zQ1.mp a
 obtain ⟨h2, e2⟩ := zQ1.mp b
 exact (List.getElem_inj hN).mp (e1.trans e2.symm)
theorem zSB {M : Model} {A : Around} {E : Value → Shared → Prop} {i : Nat} {x : Str} {v : V} {u : Value} {Q : Unit → Shared → Prop} (I : Inv X pins σ H s) (hN : X.N.Nodup) (hi : X.N[i]? = some x) (hx : Loc X.env.scope x) (r : RelV v u)
  (h : ∀ s', Inv X pins (σ.set i (some v)) H s' → (∃ a, Heap.SameBut a s.heap s'.heap ∧ (a = X.env.locals ∨ X.env.cells.lookup x = some a)) → Q () s') (hf : X.fn x = true ∨ X.env.scope.names.lookup x = some .local := by first | exact .inl rfl | exact .inr rfl | assumption) : wpAny M A (storeName X.env x u) Q E s := by
 obtain ⟨m, hn, hl⟩ := id I.loc
 have hcls : (X.env.scope.kind == .class || (X.env.scope.kind == .module && X.env.locals != X.env.globals)) = false := by rw [I.ok.kind]; rfl
 have hiσ : i < σ.length := by rw [I.len]; exact (zQ1.mp hi).1
 have cne := I.cne
 have tracked : ∀ {a : Addr} {h' : Heap}, (∃ o, s.heap.get? a = some o ∧ H a = none) → Heap.SameBut a s.heap h' → HOk X.prog X.w H h' := fun {a h'} ha hs b ob e => by
  obtain ⟨_, _, hfree⟩ := ha
  refine (I.hok b ob e).stay (fun c w' hc q => (hs.2 c ?_).trans q) (fun _ q => q) fun _ _ q => q
  rintro rfl
  rcases hc with rfl | hc
  ·rw [hfree] at e; cases e
  ·rw [hfree] at hc; cases hc
 rcases hx with hk | hk
 ·refine wpAny_storeName_local hk hn (fun h' hn' hs => ?_) hcls
  obtain ⟨oL, _, _, hoL, _⟩ := id hn
  refine h _ ⟨I.ok, I.os, I.bare, ⟨fun b o e n hb hx => ?_, fun b o e n hb hx => ?_, I.base.free, fun b o e hx => ?_, I.base.tups, I.base.frzs, I.base.tbls⟩, ⟨_, hn', fun j y v' e1 e2 e3 => ?_⟩, fun y c e => ?_, I.free, I.freeC, fun p hp => ?_, tracked ⟨oL, hoL, I.free⟩ hs, by simpa using I.len⟩ ⟨_, hs, .inl rfl⟩
  ·exact (hs.2 b (Nat.ne_of_lt (Nat.lt_of_lt_of_le (Heap.lt_size e) I.ok.above))).trans (I.base.keep b o e n hb hx)
  ·obtain ⟨sl, e1⟩ := I.base.slot b o e n hb hx
   exact ⟨sl, (hs.2 b (Nat.ne_of_lt (Nat.lt_of_lt_of_le (Heap.lt_size e) I.ok.above))).trans e1⟩
  ·obtain ⟨o', e1⟩ := I.base.there b o e hx
   exact ⟨o', (hs.2 b (Nat.ne_of_lt (Nat.lt_of_lt_of_le (Heap.lt_size e) I.ok.above))).trans e1⟩
  ·by_cases hj : j = i
   ·subst hj
    rw [hi] at e1; cases e1
    rw [List.getElem?_set_self hiσ] at e2
    cases e2
    exact ⟨u, r, .inl ⟨hk, by simp⟩⟩
   ·rw [List.getElem?_set_ne (Ne.symm hj)] at e2
    obtain ⟨u', r', q⟩ := hl j y v' e1 e2 e3
    refine ⟨u', r', ?_⟩
    rcases q with ⟨k, e⟩ | ⟨k, c, e, z⟩
    ·refine .inl ⟨k, ?_⟩
     have : y ≠ x := fun e => hj (zVQ hN e1 (e ▸ hi))
     simp [this, e]
    ·exact .inr ⟨k, c, e, z.sameBut hs (cne y c e)⟩
  ·obtain ⟨w', z⟩ := I.cell y c e
   exact ⟨w', z.sameBut hs (cne y c e)⟩
  ·obtain ⟨e, n, ne, nf, d⟩ := I.pin p hp
   exact ⟨(hs.2 p.1 ne).trans e, n, ne, nf, d⟩
 ·have hfn : X.fn x = true := by
   rcases hf with z | z
   ·exact z
   ·rw [z] at hk; cases hk
  obtain ⟨c, hc⟩ := I.ok.has x (.inl hk)
  obtain ⟨w', z⟩ := I.cell x c hc
  refine wpAny_storeName_cell I.ok.kind hk hc z (fun h' hc' hs => ?_)
  obtain ⟨oc, hoc, hocd⟩ := id z
  refine h { s with heap := h' } ⟨I.ok, I.os, I.bare, ⟨fun b o e n hb hx => ?_, fun b o e n hb hx => ?_, I.base.free, fun b o e hx => ?_, I.base.tups, I.base.frzs, I.base.tbls⟩, ⟨m, hn.sameBut hs (Ne.symm (cne x c hc)), fun j y v' e1 e2 e3 => ?_⟩, fun y c' e => ?_, I.free, I.freeC, fun p hp => ?_, tracked ⟨oc, hoc, I.freeC x c hc⟩ hs, by simpa using I.len⟩ ⟨c, hs, .inr hc⟩
  ·exact (hs.2 b (Nat.ne_of_lt (Nat.lt_of_lt_of_le (Heap.lt_size e) (I.ok.cab x c hfn hc)))).trans (I.base.keep b o e n hb hx)
  ·obtain ⟨sl, e1⟩ := I.base.slot b o e n hb hx
   exact ⟨sl, (hs.2 b (Nat.ne_of_lt (Nat.lt_of_lt_of_le (Heap.lt_size e) (I.ok.cab x c hfn hc)))).trans e1⟩
  ·obtain ⟨o', e1⟩ := I.base.there b o e hx
   exact ⟨o', (hs.2 b (Nat.ne_of_lt (Nat.lt_of_lt_of_le (Heap.lt_size e) (I.ok.cab x c hfn hc)))).trans e1⟩
  ·by_cases hj : j = i
   ·subst hj
    rw [hi] at e1; cases e1
    rw [List.getElem?_set_self hiσ] at e2
    cases e2
    exact ⟨u, r, .inr ⟨.inl hk, c, hc, hc'⟩⟩
   ·rw [List.getElem?_set_ne (Ne.symm hj)] at e2
    obtain ⟨u', r', q⟩ := hl j y v' e1 e2 e3
    refine ⟨u', r', ?_⟩
    rcases q with q | ⟨k, c', e, z'⟩
    ·exact .inl q
    ·refine .inr ⟨k, c', e, z'.sameBut hs ?_⟩
     rintro rfl
     exact hj (zVQ hN e1 (I.ok.inj _ _ _ e hc ▸ hi))
  ·by_cases hcc : c' = c
   ·subst hcc; exact ⟨_, hc'⟩
   ·obtain ⟨w2, z2⟩ := I.cell y c' e
    exact ⟨w2, z2.sameBut hs hcc⟩
  ·obtain ⟨e, n, ne, nf, d⟩ := I.pin p hp
   refine ⟨(hs.2 p.1 ?_).trans e, n, ne, nf, d⟩
   intro q
   rw [q, hoc] at e
   have q' : oc = p.2 := Option.some.inj e
   exact d w' (by rw [← q']; exact hocd)
theorem zVR {M : Model} {A : Around} {E : Value → Shared → Prop} {i : Nat} {x : Str} {v : V} {u : Value} {Q : Unit → Shared → Prop} (I : Inv X pins σ H s) (hN : X.N.Nodup) (hi : X.N[i]? = some x) (hx : Loc X.env.scope x) (r : RelV v u)
  (h : ∀ s', Inv X pins (σ.set i (some v)) H s' → Q () s') (hf : X.fn x = true ∨ X.env.scope.names.lookup x = some .local := by first | exact .inl rfl | exact .inr rfl | assumption) : wpAny M A (storeName X.env x u) Q E s :=
 zSB I hN hi hx r (fun s' I' _ => h s' I') hf
theorem Inv.call' {s' : Shared} {ch : List Addr} (I : Inv X pins σ H s) (ho : s'.os = s.os) (u : Un (frs X.stack) ch H H' s.heap s'.heap) (hok : HOk X.prog X.w H' s'.heap) (hg : AllBare s'.gens)
  (hch : ∀ b ∈ ch, (b ∈ X.ex ∨ X.s₀.heap.objs.size ≤ b) ∧ b ≠ X.env.locals ∧ (∀ x c, X.env.cells.lookup x = some c → c ≠ b) ∧ ∀ p ∈ X.pn ++ pins, p.1 ≠ b) : Inv X pins σ H' s' := by
 obtain ⟨h', g', d', t', o'⟩ := s'
 have e : o' = s.os := ho
 subst e
 exact I.call (g' := g') (t' := t') (d' := d') u hok hg hch
end
abbrev XK := Value → Option Addr → Hp → Prop
abbrev St := List (Option V)
abbrev VK := V → Hp → Prop
abbrev TE := St → Hp → VK → Prop
abbrev TT := St → Hp → (Bool → Hp → Prop) → Prop
abbrev TA := St → Hp → (List V → Hp → Prop) → Prop
structure Ends where
 nx : St → Hp → Prop
 rt : VK
 bk : St → Hp → Prop := fun _ _ => False
 ct : St → Hp → Prop := fun _ _ => False
abbrev TS := Ends → St → Hp → Prop
def EP (X : Cx) (pins : List (Addr × Obj)) (σ : St) (Q : VK) (u : Value) (s' : Shared) : Prop := ∃ v H', Inv X pins σ H' s' ∧ RelV v u ∧ Q v H'
def TP (X : Cx) (pins : List (Addr × Obj)) (σ : St) (Q : Bool → Hp → Prop) (b : Bool) (s' : Shared) : Prop := ∃ H', Inv X pins σ H' s' ∧ Q b H'
def AP (X : Cx) (pins : List (Addr × Obj)) (σ : St) (Q : List V → Hp → Prop) (us : List Value) (s' : Shared) : Prop := ∃ vs H', Inv X pins σ H' s' ∧ Vals vs us ∧ Q vs H'
def SP (X : Cx) (pins : List (Addr × Obj)) (D : Ends) (f : Flow) (s' : Shared) : Prop :=
 match f with
 | .next => ∃ σ' H', Inv X pins σ' H' s' ∧ D.nx σ' H'
 | .brk => ∃ σ' H', Inv X pins σ' H' s' ∧ D.bk σ' H'
 | .cont => ∃ σ' H', Inv X pins σ' H' s' ∧ D.ct σ' H'
 | .ret u => ∃ v σ' H', Inv X pins σ' H' s' ∧ RelV v u ∧ D.rt v H'
def PE (X : Cx) (e : Expr) (t : TE) : Prop :=
 ∀ (pins : List (Addr × Obj)) (s : Shared) (σ : St) (H : Hp) (Q : VK), Inv X pins σ H s → t σ H Q → wpAny (model X.prog X.w) X.A (eval e X.env) (EP X pins σ Q) X.xe s
def PT (X : Cx) (e : Expr) (t : TT) : Prop :=
 ∀ (pins : List (Addr × Obj)) (s : Shared) (σ : St) (H : Hp) (Q : Bool → Hp → Prop), Inv X pins σ H s → t σ H Q → wpAny (model X.prog X.w) X.A (isTrue e X.env (eval e X.env)) (TP X pins σ Q) X.xe s
def PW (X : Cx) (e : Expr) (t : TT) : Prop :=
 ∀ (whole : Sem Value) (pins : List (Addr × Obj)) (s : Shared) (σ : St) (H : Hp) (Q : Bool → Hp → Prop), Inv X pins σ H s → t σ H Q → wpAny (model X.prog X.w) X.A (isTrue e X.env whole) (TP X pins σ Q) X.xe s
theorem PW.pt {X : Cx} {e : Expr} {t : TT} (h : PW X e t) : PT X e t := h _
def PA (X : Cx) (es : List Expr) (t : TA) : Prop :=
 ∀ (pos : Pos) (pins : List (Addr × Obj)) (s : Shared) (σ : St) (H : Hp) (Q : List V → Hp → Prop), Inv X pins σ H s → t σ H Q → wpAny (model X.prog X.w) X.A (spliced (backTo pos (starEach es X.env))) (AP X pins σ Q) X.xe s
def PS (X : Cx) (st : Stmt) (t : TS) : Prop :=
 ∀ (pins : List (Addr × Obj)) (s : Shared) (σ : St) (H : Hp) (D : Ends), Inv X pins σ H s → t D σ H → wpAny (model X.prog X.w) X.A (exec st X.env) (SP X pins D) X.xe s
def PSs (X : Cx) (st : List Stmt) (t : TS) : Prop :=
 ∀ (pins : List (Addr × Obj)) (s : Shared) (σ : St) (H : Hp) (D : Ends), Inv X pins σ H s → t D σ H → wpAny (model X.prog X.w) X.A (execs st X.env) (SP X pins D) X.xe s
theorem thn {α : Type} {t : Sem α} {Q Q' : α → Shared → Prop} {M : Model} {A : Around} {E : Value → Shared → Prop} {s : Shared} (h : wpAny M A t Q E s) (hQ : ∀ a s, Q a s → Q' a s) : wpAny M A t Q' E s := wpAny_mono h hQ fun _ _ x => x
end L2
namespace L2
open PySem PySem.Spec PyProof.Rows
section
variable {X : Cx}
def tVar (i : Nat) : TE := fun σ H Q => ∃ v, σ[i]? = some (some v) ∧ Q v H
def tC (v : V) : TE := fun _ H Q => Q v H
theorem yMR {i : Nat} {x : Str} {pos : Pos} (hN : X.N[i]? = some x) (hv : Vis X.env.scope x) (hd : (x == ("__debug__" : Str)) = false := by decide) (hcd : (x == ("__classdict__" : Str)) = false := by decide) : PE X (.Name x pos) (tVar i) := by
 intro pins s σ H Q I h
 obtain ⟨v, e, h⟩ := h
 obtain ⟨m, hn, hl⟩ := I.loc
 obtain ⟨u, r, l⟩ := hl i x v hN e hv
 have fin : EP X pins σ Q u s := ⟨v, H, I, r, h⟩
 rcases l with ⟨hk, hm⟩ | ⟨hk, c, hc, hcell⟩
 ·exact wpAny_Name (wpAny_loadName_local I.ok.kind hk hn hm fin) hd
 ·rcases hk with hk | hk
  ·exact wpAny_Name (wpAny_loadName_cell I.ok.kind hk hc hcell fin) hd
  ·exact wpAny_Name (wpAny_loadName_free I.ok.kind hk hc hcell fin hcd) hd
theorem yMS {i j pos} : PE X (.Constant (.int i) j pos) (tC (.int i)) := fun _ _ _ H _ I h => wpAny_Constant_int ⟨.int i, H, I.tok _, ⟨_, rfl⟩, h⟩
theorem pe_bl {b j pos} : PE X (.Constant (.bool b) j pos) (tC (.bl b)) := fun _ _ _ H _ I h => Constant_bool ⟨.bl b, H, I, rfl, h⟩
theorem yMT {j pos} : PE X (.Constant .none j pos) (tC .non) := fun _ _ _ H _ I h => Constant_none ⟨.non, H, I, rfl, h⟩
theorem yMU {x j pos} : PE X (.Constant (.str x) j pos) (tC (.str x)) := fun _ _ _ H _ I h => Calls.Constant_str ⟨.str x, H, I.tok _, ⟨_, rfl⟩, h⟩
def Gl (X : Cx) (x : Str) : Prop := X.env.kindOf x = some .globalImplicit
theorem yBK {E : Value → Shared → Prop} {pins : List (Addr × Obj)} {s : Shared} {σ : St} {H : Hp} {x : Str} {u : Value} {pos : Pos} {Q : Value → Shared → Prop} (I : Inv X pins σ H s) (hg : Gl X x) (hm : X.mg x = some u) (h : Q u s)
  (hd : (x == ("__debug__" : Str)) = false := by decide) : wpAny (model X.prog X.w) X.A (eval (.Name x pos) X.env) Q E s :=
 Calls.Name_function_global I.ok.kind hg (Calls.loadGlobal_global (by rw [I.ok.glob]; exact I.mod.glob.keeps I.bk) hm h) hd
theorem zMG {E : Value → Shared → Prop} {pins : List (Addr × Obj)} {s : Shared} {σ : St} {H : Hp} {x : Str} {u : Value} {pos : Pos} {Q : Value → Shared → Prop} (I : Inv X pins σ H s) (hg : Gl X x) (hm : X.mg x = none) (hv : bootBuiltins x = some u) (h : Q u s)
  (hn : x ≠ "__name__" := by decide) (hd : (x == ("__debug__" : Str)) = false := by decide) : wpAny (model X.prog X.w) X.A (eval (.Name x pos) X.env) Q E s := by
 obtain ⟨mb, h1, h2⟩ := I.mod.blt
 exact Calls.Name_function_global I.ok.kind hg (Calls.loadGlobal_builtin (by rw [I.ok.glob]; exact I.mod.glob.keeps I.bk) hm (by rw [I.ok.blt]; exact h1.keeps I.bk) ((h2 x hn).trans hv) h) hd
theorem yBL {x : Str} {v : V} {u : Value} {pos : Pos} (hg : Gl X x) (hm : X.mg x = some u) (r : RelV v u) (hd : (x == ("__debug__" : Str)) = false := by decide) : PE X (.Name x pos) (tC v) :=
 fun _ _ _ H _ I h => yBK I hg hm ⟨v, H, I, r, h⟩ hd
theorem yJD {x : Str} {v : V} {u : Value} {pos : Pos} (hg : Gl X x) (hm : X.mg x = none) (hv : bootBuiltins x = some u) (r : RelV v u) (hn : x ≠ "__name__" := by decide) (hd : (x == ("__debug__" : Str)) = false := by decide) : PE X (.Name x pos) (tC v) :=
 fun _ _ _ H _ I h => zMG I hg hm hv ⟨v, H, I, r, h⟩ hn hd
variable {a b : Expr} {ta tb : TE} {pos : Pos}
variable {tA tB' : TT} {rest : List Expr}
def tAnd (t u : TT) : TT := fun σ H Q => t σ H fun c H1 => if c = true then u σ H1 Q else Q false H1
def tOr (t u : TT) : TT := fun σ H Q => t σ H fun c H1 => if c = true then Q true H1 else u σ H1 Q
def tNot (t : TT) : TT := fun σ H Q => t σ H fun c H1 => Q (!c) H1
theorem yJE (ha : PT X a tA) : PW X (.BoolOp .And [a] pos) tA := by
 intro wh pins s σ H Q I h
 refine isTrue_and (thn (ha pins s σ H Q I h) fun c s1 e => ?_)
 cases c with
 | true => exact isTrue_and_nil e
 | false => exact e
theorem yMV (ha : PT X a tA) : PW X (.BoolOp .Or [a] pos) tA := by
 intro wh pins s σ H Q I h
 refine isTrue_or (thn (ha pins s σ H Q I h) fun c s1 e => ?_)
 cases c with
 | false => exact isTrue_or_nil e
 | true => exact e
theorem yMW (ha : PT X a tA) (hb : PW X (.BoolOp .And (b :: rest) pos) tB') : PW X (.BoolOp .And (a :: b :: rest) pos) (tAnd tA tB') := by
 intro wh pins s σ H Q I h
 refine isTrue_and (thn (ha pins s σ H _ I h) fun c s1 ⟨H1, I1, q1⟩ => ?_)
 cases c with
 | true => exact hb wh pins s1 σ H1 Q I1 q1
 | false => exact ⟨H1, I1, q1⟩
theorem pw_or (ha : PT X a tA) (hb : PW X (.BoolOp .Or (b :: rest) pos) tB') : PW X (.BoolOp .Or (a :: b :: rest) pos) (tOr tA tB') := by
 intro wh pins s σ H Q I h
 refine isTrue_or (thn (ha pins s σ H _ I h) fun c s1 ⟨H1, I1, q1⟩ => ?_)
 cases c with
 | true => exact ⟨H1, I1, q1⟩
 | false => exact hb wh pins s1 σ H1 Q I1 q1
theorem yMX (ha : PT X a tA) : PT X (.UnaryOp .Not a pos) (tNot tA) := by
 intro pins s σ H Q I h
 exact isTrue_not (ha pins s σ H (fun c H1 => Q (!c) H1) I h)
def tAndV (ta tb : TE) : TE := fun σ H Q => ta σ H fun x H1 => ∃ c, x = .bl c ∧ if c = true then tb σ H1 Q else Q (.bl false) H1
def tNotV (ta : TE) : TE := fun σ H Q => ta σ H fun x H1 => ∃ c, x = .bl c ∧ Q (.bl (!c)) H1
theorem yMY {op} {t : TE} (h : PE X a t) : PE X (.BoolOp op [a] pos) t := fun pins s σ H Q I hw => BoolOp_one (h pins s σ H Q I hw)
theorem yMZ (ha : PE X a ta) (hb : PE X (.BoolOp .And (b :: rest) pos) tb) : PE X (.BoolOp .And (a :: b :: rest) pos) (tAndV ta tb) := by
 intro pins s σ H Q I h
 refine BoolOp_and (thn (ha pins s σ H _ I h) fun v s1 ⟨x, H1, I1, r1, q1⟩ => ?_)
 obtain ⟨c, rfl, q1⟩ := q1
 cases r1
 refine wpAny_truthy_bool ?_
 cases c with
 | true => exact hb pins s1 σ H1 Q I1 q1
 | false => exact ⟨.bl false, H1, I1, rfl, q1⟩
theorem yNA (ha : PE X a ta) : PE X (.UnaryOp .Not a pos) (tNotV ta) := by
 intro pins s σ H Q I h
 refine UnaryOp_ (thn (ha pins s σ H _ I h) fun v s1 ⟨x, H1, I1, r1, q1⟩ => ?_)
 obtain ⟨c, rfl, q1⟩ := q1
 cases r1
 exact not_of (wpAny_truthy_bool ⟨.bl (!c), H1, I1, rfl, q1⟩)
end
end L2
namespace L2
open PySem PySem.Spec PyProof.Rows
def SqL (K : PySem.W.Frag) (H : Hp) (a : Addr) (xs : List V) : Prop :=
 Rd H a (.lst xs) ∨
  ∃ (o : Obj) (its : Array Value) (n : Nat), K.lookup a = some o ∧ o.cls = .type "list" ∧ o.dict = none ∧ o.data = .seq its n ∧ its.size ≤ sizeLine ∧ Vals xs its.toList
def SqT (K : PySem.W.Frag) (H : Hp) (a : Addr) (xs : List V) : Prop :=
 Rd H a (.tup xs) ∨
  ∃ (o : Obj) (its : Array Value) (n : Nat), K.lookup a = some o ∧ o.cls = .type "tuple" ∧ o.data = .seq its n ∧ its.size ≤ sizeLine ∧ Vals xs its.toList
def absV : Value → Option V
 | .none => some .non
 | .bool b => some (.bl b)
 | .int i _ => some (.int i)
 | .str x _ => some (.str x)
 | .bytes b _ => some (.byt b)
 | .float b _ => some (.flt b)
 | .ref a => some (.ref a)
 | .type n => some (.ty n)
 | _ => none
theorem RelV.abs {x : V} {u : Value} (r : RelV x u) : absV u = some x := by
 cases x with
 | non => cases r; rfl
 | bl _ => cases r; rfl
 | int _ => obtain ⟨t, rfl⟩ := r; rfl
 | str _ => obtain ⟨t, rfl⟩ := r; rfl
 | byt _ => obtain ⟨t, rfl⟩ := r; rfl
 | flt _ => obtain ⟨t, rfl⟩ := r; rfl
 | ref _ => cases r; rfl
 | ty _ => cases r; rfl
theorem RelV.inj {x y : V} {u : Value} (r : RelV x u) (q : RelV y u) : x = y := Option.some.inj (r.abs.symm.trans q.abs)
theorem Vals.inj : ∀ {xs ys : List V} {us : List Value}, Vals xs us → Vals ys us → xs = ys
 | _, _, _, .nil, .nil => rfl
 | _, _, _, .cons r t, .cons r' t' => by rw [r.inj r', Vals.inj t t']
section
variable {X : Cx} {pins : List (Addr × Obj)} {σ : St} {H : Hp} {s : Shared} {a : Addr} {xs ys : List V}
theorem SqL.of {K : PySem.W.Frag} (h : H a = some (.lst xs)) : SqL K H a xs := .inl (.inl h)
theorem SqT.of {K : PySem.W.Frag} (h : H a = some (.tup xs)) : SqT K H a xs := .inl (.inl h)
theorem Inv.list (I : Inv X pins σ H s) (h : SqL X.K H a xs) : ∃ its : List Value, Vals xs its ∧ PlainL s.heap a its.toArray ∧ xs.length ≤ sizeLine := by
 rcases h with h | ⟨o, its, n, hk, hc, hd, hs, hz, r⟩
 ·obtain ⟨z, its, n, r, e⟩ := h.ok I.hok
  exact ⟨its, r, ⟨_, n, e, rfl, rfl, rfl⟩, z⟩
 ·refine ⟨its.toList, r, ⟨o, n, I.kIn a o hk, hc, hd, by simpa using hs⟩, ?_⟩
  have e := r.length
  simp only [Array.length_toList] at e
  omega
theorem Inv.tuple (I : Inv X pins σ H s) (h : SqT X.K H a xs) : ∃ its : List Value, Vals xs its ∧ IsTup s.heap a its.toArray ∧ xs.length ≤ sizeLine := by
 rcases h with h | ⟨o, its, n, hk, hc, hs, hz, r⟩
 ·obtain ⟨z, its, r, p⟩ := h.ok I.hok
  exact ⟨its, r, p, z⟩
 ·refine ⟨its.toList, r, ⟨o, I.kIn a o hk, hc, n, by simpa using hs⟩, ?_⟩
  have e := r.length
  simp only [Array.length_toList] at e
  omega
theorem Inv.list_inj (I : Inv X pins σ H s) (h : SqL X.K H a xs) (h' : SqL X.K H a ys) : xs = ys := by
 obtain ⟨its, r, ⟨o, n, e, _, _, d⟩, _⟩ := I.list h
 obtain ⟨its', r', ⟨o', n', e', _, _, d'⟩, _⟩ := I.list h'
 rw [e] at e'; cases e'
 rw [d] at d'
 injection d' with d1 _
 have : its = its' := by simpa using congrArg Array.toList d1
 subst this
 exact r.inj r'
theorem Inv.tuple_inj (I : Inv X pins σ H s) (h : SqT X.K H a xs) (h' : SqT X.K H a ys) : xs = ys := by
 obtain ⟨its, r, ⟨o, e, _, n, d⟩, _⟩ := I.tuple h
 obtain ⟨its', r', ⟨o', e', _, n', d'⟩, _⟩ := I.tuple h'
 rw [e] at e'; cases e'
 rw [d] at d'
 injection d' with d1 _
 have : its = its' := by simpa using congrArg Array.toList d1
 subst this
 exact r.inj r'
end
abbrev Cx.wish (X : Cx) (E : Value → Shared → Prop) : Cx := { X with xe := E }
abbrev Cx.nox (X : Cx) : Cx := X.wish fun _ _ => False
theorem Cx.Ok.wish {X : Cx} (ok : X.Ok) (E : Value → Shared → Prop) : (X.wish E).Ok :=
 ⟨ok.mod, ok.kind, ok.glob, ok.blt, ok.above, ok.inj, ok.has, ok.cab, ok.hd, ok.frames, ok.stk, ok.exf, ok.bs, ok.bsz, ok.noex, ok.exfs, ok.funs, ok.frf⟩
theorem Cx.Ok.unwish {X : Cx} {E : Value → Shared → Prop} (ok : (X.wish E).Ok) : X.Ok :=
 ⟨ok.mod, ok.kind, ok.glob, ok.blt, ok.above, ok.inj, ok.has, ok.cab, ok.hd, ok.frames, ok.stk, ok.exf, ok.bs, ok.bsz, ok.noex, ok.exfs, ok.funs, ok.frf⟩
section
variable {X : Cx} {pins : List (Addr × Obj)} {σ : St} {H : Hp} {s : Shared} {E : Value → Shared → Prop}
theorem Inv.wish (I : Inv X pins σ H s) (E : Value → Shared → Prop) : Inv (X.wish E) pins σ H s := ⟨I.ok.wish E, I.os, I.bare, I.base, I.loc, I.cell, I.free, I.freeC, I.pin, I.hok, I.len⟩
theorem Inv.unwish (I : Inv (X.wish E) pins σ H s) : Inv X pins σ H s := ⟨I.ok.unwish, I.os, I.bare, I.base, I.loc, I.cell, I.free, I.freeC, I.pin, I.hok, I.len⟩
theorem SP.unwish {D : Ends} {f : Flow} {s' : Shared} (h : SP (X.wish E) pins D f s') : SP X pins D f s' := by
 cases f with
 | next => obtain ⟨σ', H', I, q⟩ := h; exact ⟨σ', H', I.unwish, q⟩
 | brk => obtain ⟨σ', H', I, q⟩ := h; exact ⟨σ', H', I.unwish, q⟩
 | cont => obtain ⟨σ', H', I, q⟩ := h; exact ⟨σ', H', I.unwish, q⟩
 | ret u => obtain ⟨v, σ', H', I, r, q⟩ := h; exact ⟨v, σ', H', I.unwish, r, q⟩
theorem PSs.nox {st : List Stmt} {t : TS} (h : PSs X.nox st t) : PSs X st t := fun pins s σ H D I hw =>
 wpAny_mono (h pins s σ H D (I.wish _) hw) (fun _ _ q => q.unwish) fun _ _ z => False.elim z
end
section
variable {X : Cx} {st : Stmt} {rest : List Stmt} {t u : TS} {e : Expr} {te : TE} {pos : Pos}
def tNext : TS := fun D σ H => D.nx σ H
def tSeq (t u : TS) : TS := fun D σ H => t { D with nx := u D } σ H
theorem yJF : PSs X [] tNext := fun _ _ σ H _ I h => wpAny_execs_nil ⟨σ, H, I, h⟩
theorem yFL (h1 : PS X st t) (h2 : PSs X rest u) : PSs X (st :: rest) (tSeq t u) := by
 intro pins s σ H D I h
 refine wpAny_execs_cons (thn (h1 pins s σ H { D with nx := u D } I h) fun f s1 q => ?_)
 cases f with
 | next =>
  obtain ⟨σ', H', I', q⟩ := q
  exact h2 pins s1 σ' H' D I' q
 | ret v => exact q
 | brk => exact q
 | cont => exact q
theorem yJG (h1 : PS X st t) : PSs X [st] t := by
 intro pins s σ H D I h
 refine wpAny_execs_cons (thn (h1 pins s σ H D I h) fun f s1 q => ?_)
 cases f with
 | next => exact wpAny_execs_nil q
 | ret v => exact q
 | brk => exact q
 | cont => exact q
theorem Inv.quiet {pins : List (Addr × Obj)} {σ : St} {H : Hp} {s : Shared} (I : Inv X pins σ H s) : interactive X.env = false := by simp [interactive, I.ok.kind]
def tDrop (te : TE) : TS := fun D σ H => te σ H fun _ H1 => D.nx σ H1
theorem yJH (he : PE X e te) (hs : swapsWith e none pos.line X.env = pure false := by rfl) : PS X (.Expr e pos) (tDrop te) := by
 intro pins s σ H D I h
 exact wpAny_Expr_any (thn (he pins s σ H _ I h) fun v s1 ⟨x, H1, I1, r1, q1⟩ => ⟨σ, H1, I1, q1⟩) I.quiet hs
def tRet (te : TE) : TS := fun D σ H => te σ H D.rt
theorem yNB (he : PE X e te) : PS X (.Return (some e) pos) (tRet te) := by
 intro pins s σ H D I h
 exact wpAny_Return_some (thn (he pins s σ H _ I h) fun v s1 ⟨x, H1, I1, r1, q1⟩ => ⟨x, σ, H1, I1, r1, q1⟩)
def tIfS (c : TT) (t u : TS) : TS := fun D σ H => c σ H fun b H1 => if b = true then t D σ H1 else u D σ H1
theorem ps_if {c : Expr} {a b : List Stmt} {tc : TT} (hc : PT X c tc) (ha : PSs X a t) (hb : PSs X b u) : PS X (.If c a b pos) (tIfS tc t u) := by
 intro pins s σ H D I h
 refine wpAny_If (thn (hc pins s σ H _ I h) fun d s1 ⟨H1, I1, q1⟩ => ?_)
 cases d with
 | true => exact ha pins s1 σ H1 D I1 q1
 | false => exact hb pins s1 σ H1 D I1 q1
def yNC : TS := fun _ _ _ => False
theorem yFM : PS X st yNC := fun _ _ _ _ _ _ h => h.elim
end
abbrev TG := V → St → Hp → (St → Hp → Prop) → Prop
abbrev TGs := List V → St → Hp → (St → Hp → Prop) → Prop
def PG (X : Cx) (target : Expr) (t : TG) : Prop :=
 ∀ (pins : List (Addr × Obj)) (s : Shared) (σ : St) (H : Hp) (v : V) (u : Value) (Q : St → Hp → Prop), Inv X pins σ H s → RelV v u → t v σ H Q →
  wpAny (model X.prog X.w) X.A (assign target X.env u) (fun _ s' => ∃ σ' H', Inv X pins σ' H' s' ∧ Q σ' H') X.xe s
def PGs (X : Cx) (ts : List Expr) (t : TGs) : Prop :=
 ∀ (pins : List (Addr × Obj)) (s : Shared) (σ : St) (H : Hp) (vs : List V) (us : List Value) (Q : St → Hp → Prop), Inv X pins σ H s → Vals vs us → t vs σ H Q →
  wpAny (model X.prog X.w) X.A (assignInOrder ((assignEach ts X.env).map (·.2)) us) (fun _ s' => ∃ σ' H', Inv X pins σ' H' s' ∧ Q σ' H') X.xe s
abbrev TSet := V → V → V → Hp → (Hp → Prop) → Prop
def PSet (X : Cx) (t : TSet) : Prop :=
 ∀ (pins : List (Addr × Obj)) (s : Shared) (σ : St) (H : Hp) (o i v : V) (ov iv u : Value) (Q : Hp → Prop), Inv X pins σ H s → RelV o ov → RelV i iv → RelV v u → t o i v H Q →
  wpAny (model X.prog X.w) X.A (setItem ov iv u) (fun _ s' => ∃ H', Inv X pins σ H' s' ∧ Q H') X.xe s
section
variable {X : Cx} {pos : Pos}
def yFN (i : Nat) : TG := fun v σ H Q => Q (σ.set i (some v)) H
theorem yBM {i : Nat} {x : Str} (hN : X.N.Nodup) (hi : X.N[i]? = some x) (hx : Loc X.env.scope x) (hf : X.fn x = true ∨ X.env.scope.names.lookup x = some .local := by first | exact .inl rfl | exact .inr rfl | assumption) : PG X (.Name x pos) (yFN i) := by
 intro pins s σ H v u Q I r h
 exact wpAny_assign_Name (zVR I hN hi hx r (fun s' I' => ⟨_, H, I', h⟩) hf)
def gNil : TGs := fun vs σ H Q => vs = [] ∧ Q σ H
def gCons (t : TG) (u : TGs) : TGs := fun vs σ H Q => ∃ v r, vs = v :: r ∧ t v σ H fun σ' H' => u r σ' H' Q
theorem yBN : PGs X [] gNil := by
 intro pins s σ H vs us Q I r h
 obtain ⟨e, h⟩ := h
 subst e
 cases r
 exact assignInOrder_nil ⟨σ, H, I, h⟩
theorem zVS {e : Expr} {es : List Expr} {t : TG} {u : TGs} (h1 : PG X e t) (h2 : PGs X es u)
  (hs : (assignEach (e :: es) X.env).map (·.2) = assign e X.env :: (assignEach es X.env).map (·.2) := by rfl) : PGs X (e :: es) (gCons t u) := by
 intro pins s σ H vs us Q I r h
 obtain ⟨v, vr, e1, h⟩ := h
 subst e1
 cases r with
 | cons r rr =>
  rw [hs]
  refine assignInOrder_cons (thn (h1 pins s σ H _ _ _ I r h) fun _ s1 ⟨σ1, H1, I1, q1⟩ => ?_)
  exact h2 pins s1 σ1 H1 _ _ Q I1 rr q1
def gTup (K : PySem.W.Frag) (n : Nat) (t : TGs) : TG := fun v σ H Q => ∃ a xs, v = .ref a ∧ SqT K H a xs ∧ xs.length = n ∧ t xs σ H Q
theorem yFO {es : List Expr} {k : Nat} {t : TGs} {n : Nat} (hc : X.calm = true) (h : PGs X es t)
  (hn : (assignEach es X.env).length = n := by rfl) (hst : (assignEach es X.env).findIdx? (·.1) = none := by rfl) : PG X (.Tuple es k pos) (gTup X.K n t) := by
 intro pins s σ H v u Q I r hw
 obtain ⟨a, xs, e1, hq, hl, hw⟩ := hw
 subst e1
 cases r
 obtain ⟨its, rv, ht, hz⟩ := I.tuple hq
 refine assign_Tuple_tuple (I.ok.hd hc) ht (by simp [hn, ← hl, rv.length]) hst fun h' hx => ?_
 have I1 : Inv X pins σ H { s with heap := h' } := I.kept (t' := s.toks) fun b o e => hx b o (Nat.ne_of_lt (Heap.lt_size e)) e
 exact h pins _ σ H xs _ Q I1 (by simpa using rv) hw
def gSub (to ti : TE) (t : TSet) : TG := fun v σ H Q => to σ H fun o H1 => ti σ H1 fun i H2 => t o i v H2 fun H3 => Q σ H3
theorem yND {o i : Expr} {to ti : TE} {t : TSet} (ho : PE X o to) (hi : PE X i ti) (hs : PSet X t)
  (ha : ∀ v, assign (.Subscript o i pos) X.env v = (do
   let ov ← holding [v] (eval o X.env)
   let iv ← holding [v, ov] (eval i X.env)
   standAt pos
   holding [v, ov, iv] (setItem ov iv v)
   release [v, ov, iv] []) := by intro _; rfl) : PG X (.Subscript o i pos) (gSub to ti t) := by
 intro pins s σ H v u Q I r h
 rw [ha]
 refine wpAny_bind (wpAny_holding (thn (ho pins s σ H _ I h) fun ov s1 ⟨x, H1, I1, r1, q1⟩ => ?_))
 refine wpAny_bind (wpAny_holding (thn (hi pins s1 σ H1 _ I1 q1) fun iv s2 ⟨y, H2, I2, r2, q2⟩ => ?_))
 refine wpAny_bind (wpAny_standAt (wpAny_bind (wpAny_holding (thn (hs pins s2 σ H2 x y v ov iv u _ I2 r1 r2 r q2) fun _ s3 ⟨H3, I3, q3⟩ => ?_))))
 exact wpAny_release ⟨σ, H3, I3, q3⟩
def tAsg (te : TE) (g : TG) : TS := fun D σ H => te σ H fun x H1 => g x σ H1 D.nx
theorem yNE {tg e : Expr} {te : TE} {g : TG} (he : PE X e te) (hg : PG X tg g) (hs : swapsWithSole [tg] e pos.line X.env = pure false := by rfl) (hw : swappedStores [tg] e X.env = pure none := by rfl)
  (h1 : (assignEach [tg] X.env).map (·.2) = [assign tg X.env] := by rfl) : PS X (.Assign [tg] e pos) (tAsg te g) := by
 intro pins s σ H D I h
 refine wpAny_Assign_stores (thn (he pins s σ H _ I h) fun v s1 ⟨x, H1, I1, r1, q1⟩ => ?_) hs hw
 rw [h1]
 exact thn (hg pins s1 σ H1 x v _ I1 r1 q1) fun _ s2 q => q
theorem yNF {i : Nat} {x : Str} {e : Expr} {te : TE} {pos' : Pos} (hN : X.N.Nodup) (hi : X.N[i]? = some x) (hx : Loc X.env.scope x) (he : PE X e te) (hs : swapsWith e (some (.Name x pos')) pos.line X.env = pure false := by rfl) (hf : X.fn x = true ∨ X.env.scope.names.lookup x = some .local := by first | exact .inl rfl | exact .inr rfl | assumption) :
  PS X (.Assign [.Name x pos'] e pos) (tAsg te (yFN i)) := by
 intro pins s σ H D I h
 refine wpAny_Assign_Name (thn (he pins s σ H _ I h) fun v s1 ⟨y, H1, I1, r1, q1⟩ => ?_) hs
 exact zVR I1 hN hi hx r1 (fun s2 I2 => ⟨_, H1, I2, q1⟩) hf
end
structure It where
 go : Nat → Hp → Prop
 yld : Nat → Hp → V → Hp → Prop
 stop : Nat → Hp → Prop
def zJK (X : Cx) (pins : List (Addr × Obj)) (H : Hp) (b : Addr) : Prop :=
 H b = none ∧ b ≠ X.env.locals ∧ b ∉ X.fs ∧ (b ∈ X.ex ∨ X.s₀.heap.objs.size ≤ b) ∧ (∀ x c, X.env.cells.lookup x = some c → c ≠ b) ∧ ∀ p ∈ X.pn ++ pins, p.1 ≠ b
theorem Inv.fpOk {X : Cx} {pins : List (Addr × Obj)} {σ : St} {H H' : Hp} {s : Shared} {b : Addr} (I : Inv X pins σ H s) (hb : s.heap.objs.size ≤ b) (hn : H' b = none) : zJK X pins H' b := by
 refine ⟨hn, Nat.ne_of_gt (Nat.lt_of_lt_of_le I.lt hb), I.nofs hb, .inr (Nat.le_trans I.sz hb), fun x c e z => ?_, fun p hp z => ?_⟩
 ·obtain ⟨v, q⟩ := I.cell x c e
  exact absurd (Nat.lt_of_lt_of_le q.lt (by rw [z]; exact hb)) (Nat.lt_irrefl _)
 ·exact absurd (Nat.lt_of_lt_of_le (Heap.lt_size (I.pin p hp).1) (by rw [z]; exact hb)) (Nat.lt_irrefl _)
structure Turn (P : Program) (w : World) (K : PySem.W.Frag) (tg : Expr) (J : It) (fp : List Addr) (it : Addr) (tn : Nat → Heap → Prop) : Prop where
 mem : it ∈ fp
 obj : ∀ i h, tn i h → ∀ b ∈ fp, ∃ o, h.get? b = some o ∧ ∀ v, o.data ≠ .cell v
 keep : ∀ i h h', tn i h → (∀ b ∈ fp, ∀ o, h.get? b = some o → h'.get? b = some o) → tn i h'
 item : ∀ (X : Cx), X.prog = P → X.w = w → X.K = K → X.calm = true → ∀ (i : Nat) (pins : List (Addr × Obj)) (s : Shared) (σ : St) (H : Hp) (E : Value → Shared → Prop), Inv X pins σ H s → (∀ b ∈ fp, zJK X pins H b) → tn i s.heap → J.go i H →
  wpAny (model P w) X.A (pyNext (.ref it)) (fun r s1 => ∃ u, r = some u ∧
   wpAny (model P w) X.A (letOwnedTupleGo tg (.ref it) u) (fun _ s2 => ∃ x H', Inv X pins σ H' s2 ∧ RelV x u ∧ J.yld i H x H' ∧ tn (i + 1) s2.heap ∧ ∀ b ∈ fp, H' b = none) E s1) E s
 done : ∀ (X : Cx), X.prog = P → X.w = w → X.K = K → X.calm = true → ∀ (i : Nat) (pins : List (Addr × Obj)) (s : Shared) (σ : St) (H : Hp) (E : Value → Shared → Prop), Inv X pins σ H s → (∀ b ∈ fp, zJK X pins H b) → tn i s.heap → J.stop i H →
  wpAny (model P w) X.A (pyNext (.ref it)) (fun r s1 => r = none ∧ Inv X pins σ H s1) E s
 self : ∀ (A : Around) (i : Nat) (s : Shared) (Q : Value → Shared → Prop) (E : Value → Shared → Prop), tn i s.heap → Q (.ref it) s → wpAny (model P w) A (pyIter (.ref it)) Q E s
abbrev TI := St → Hp → (It → Hp → Prop) → Prop
def PIE (X : Cx) (pins : List (Addr × Obj)) (σ : St) (tg : Expr) (R : It → Hp → Prop) (itv : Value) (s2 : Shared) : Prop :=
 ∃ (it : Addr) (fp : List Addr) (tn : Nat → Heap → Prop) (J : It) (H' : Hp), itv = .ref it ∧ Inv X pins σ H' s2 ∧ Turn X.prog X.w X.K tg J fp it tn ∧ tn 0 s2.heap ∧ (∀ b ∈ fp, zJK X pins H' b) ∧ R J H'
def PI (X : Cx) (tg iter : Expr) (wi : TI) : Prop :=
 ∀ (pins : List (Addr × Obj)) (s : Shared) (σ : St) (H : Hp) (R : It → Hp → Prop), Inv X pins σ H s → wi σ H R →
  wpAny (model X.prog X.w) X.A (eval iter X.env) (fun v s1 => wpAny (model X.prog X.w) X.A (pyIter v) (PIE X pins σ tg R) X.xe s1) X.xe s
theorem yBO {M : Model} {A : Around} {E : Value → Shared → Prop} {s : Shared} {tg : Expr} {it : Addr} {u : Value} {o : Obj} {n : String} {vs : Array Value} {Q : Unit → Shared → Prop} (ho : s.heap.get? it = some o) (hc : o.cls = .type n) (hd : o.data = .fields vs)
  (hn : ["enumerate", "zip", "dict_itemiterator", "dict_reverseitemiterator", "odict_iterator", "itertools.zip_longest", "itertools.pairwise"].contains n = false) (hQ : Q () s) : wpAny M A (letOwnedTupleGo tg (.ref it) u) Q E s := by
 unfold letOwnedTupleGo
 cases tg <;> first
  | exact wpAny_pure hQ
  | (cases u <;> first
    | exact wpAny_pure hQ
    | (refine wpAny_bind (wpAny_load ho ?_)
       rw [hc, hd]
       show wpAny M A (if (["enumerate", "zip", "dict_itemiterator", "dict_reverseitemiterator", "odict_iterator", "itertools.zip_longest", "itertools.pairwise"].contains n && vs[0]? == some (rawInt _)) = true then _ else _) Q E s
       rw [if_neg (by intro h; rw [hn, Bool.false_and] at h; cases h)]
       exact wpAny_pure hQ))
def Itl (K : PySem.W.Frag) (a : Addr) : It :=
 ⟨fun i H => ∃ xs x, SqL K H a xs ∧ xs[i]? = some x, fun i H x H' => H' = H ∧ ∀ xs, SqL K H a xs → xs[i]? = some x, fun i H => ∃ xs, SqL K H a xs ∧ xs.length ≤ i⟩
def Itt (K : PySem.W.Frag) (a : Addr) : It :=
 ⟨fun i H => ∃ xs x, SqT K H a xs ∧ xs[i]? = some x, fun i H x H' => H' = H ∧ ∀ xs, SqT K H a xs → xs[i]? = some x, fun i H => ∃ xs, SqT K H a xs ∧ xs.length ≤ i⟩
def Itr (lo : Int) (n : Nat) : It := ⟨fun i _ => i < n, fun i H x H' => H' = H ∧ x = .int (lo + i), fun i _ => n ≤ i⟩
theorem yDK {P : Program} {w : World} {K : PySem.W.Frag} {tg : Expr} (a it : Addr) : Turn P w K tg (Itl K a) [it] it (fun i h => h.IsListIter it a i) where
 mem := by simp
 obj := fun i h st b hb => by
  have e : b = it := by simpa using hb
  subst e
  obtain ⟨o, e, c, d⟩ := st
  exact ⟨o, e, fun v z => by rw [d] at z; cases z⟩
 keep := fun i h h' st k => st.at fun o e => k it (by simp) o e
 item := by
  intro X hP hw hK hc i pins s σ H E I hf st hg
  subst hP hw hK
  obtain ⟨xs, x, hq, hx⟩ := hg
  obtain ⟨its, rv, p, hz⟩ := I.list hq
  obtain ⟨u, hu, ru⟩ := rv.get hx
  obtain ⟨f0, f1, f2, f3, f4, f5⟩ := hf it (by simp)
  refine wpAny_pyNext_list_item st p.isList (x := u) (by simpa using hu) fun h' st' sb => ?_
  have I1 : Inv X pins σ H { s with heap := h' } := I.turned (t' := s.toks) (fun b o hb e => (sb.2 b hb).trans e) f0 f1 f3 f4 f5
  obtain ⟨o, e, c, d⟩ := id st'
  exact ⟨u, rfl, yBO (s := { s with heap := h' }) e c d (by decide) ⟨x, H, I1, ru, ⟨rfl, fun ys hy => by rw [I.list_inj hy hq]; exact hx⟩, st', fun b hb => (hf b hb).1⟩⟩
 done := by
  intro X hP hw hK hc i pins s σ H E I hf st hg
  subst hP hw hK
  obtain ⟨xs, hq, hx⟩ := hg
  obtain ⟨its, rv, p, hz⟩ := I.list hq
  obtain ⟨f0, f1, f2, f3, f4, f5⟩ := hf it (by simp)
  have hl := rv.length
  exact wpAny_pyNext_list_end (I.ok.hd hc) st p.isList (by simp; omega) fun h' eb => ⟨rfl, I.turned (t' := s.toks) (fun b o hb e => eb b o hb e) f0 f1 f3 f4 f5⟩
 self := fun _ _ _ _ _ st h => wpAny_pyIter_listiter st h
theorem zYW {P : Program} {w : World} {K : PySem.W.Frag} {tg : Expr} (a it : Addr) : Turn P w K tg (Itt K a) [it] it (fun i h => h.IsTupleIter it a i) where
 mem := by simp
 obj := fun i h st b hb => by
  have e : b = it := by simpa using hb
  subst e
  obtain ⟨o, e, c, d⟩ := st
  exact ⟨o, e, fun v z => by rw [d] at z; cases z⟩
 keep := fun i h h' st k => st.at fun o e => k it (by simp) o e
 item := by
  intro X hP hw hK hc i pins s σ H E I hf st hg
  subst hP hw hK
  obtain ⟨xs, x, hq, hx⟩ := hg
  obtain ⟨its, rv, p, hz⟩ := I.tuple hq
  obtain ⟨u, hu, ru⟩ := rv.get hx
  obtain ⟨f0, f1, f2, f3, f4, f5⟩ := hf it (by simp)
  refine wpAny_pyNext_tuple_item st (show s.heap.IsTuple a its.toArray from p) (x := u) (by simpa using hu) fun h' st' sb => ?_
  have I1 : Inv X pins σ H { s with heap := h' } := I.turned (t' := s.toks) (fun b o hb e => (sb.2 b hb).trans e) f0 f1 f3 f4 f5
  obtain ⟨o, e, c, d⟩ := id st'
  exact ⟨u, rfl, yBO (s := { s with heap := h' }) e c d (by decide) ⟨x, H, I1, ru, ⟨rfl, fun ys hy => by rw [I.tuple_inj hy hq]; exact hx⟩, st', fun b hb => (hf b hb).1⟩⟩
 done := by
  intro X hP hw hK hc i pins s σ H E I hf st hg
  subst hP hw hK
  obtain ⟨xs, hq, hx⟩ := hg
  obtain ⟨its, rv, p, hz⟩ := I.tuple hq
  obtain ⟨f0, f1, f2, f3, f4, f5⟩ := hf it (by simp)
  have hl := rv.length
  exact wpAny_pyNext_tuple_end (I.ok.hd hc) st (show s.heap.IsTuple a its.toArray from p) (by simp; omega) fun h' eb => ⟨rfl, I.turned (t' := s.toks) (fun b o hb e => eb b o hb e) f0 f1 f3 f4 f5⟩
 self := fun _ _ _ _ _ st h => wpAny_pyIter_tupleiter st h
theorem zYX {P : Program} {w : World} {K : PySem.W.Frag} {tg : Expr} (it : Addr) (lo : Int) (n : Nat) : Turn P w K tg (Itr lo n) [it] it (fun i h => IsRangeIter h it (lo + (i : Nat) * 1) ((n : Int) - (i : Nat)) 1) where
 mem := by simp
 obj := fun i h st b hb => by
  have e : b = it := by simpa using hb
  subst e
  exact ⟨_, st, fun v z => by
   have z' : Data.fields _ = Data.cell v := z
   cases z'⟩
 keep := fun i h h' st k => k it (by simp) _ st
 item := by
  intro X hP hw hK hc i pins s σ H E I hf st hg
  subst hP hw hK
  obtain ⟨f0, f1, f2, f3, f4, f5⟩ := hf it (by simp)
  have W := Walks.range (prog := X.prog) (w := X.w) (I.ok.hd hc) it lo 1 n
  refine W.item i s _ _ hg st fun v h' tk hv st' kk => ?_
  obtain ⟨t, rfl⟩ := hv
  have I1 : Inv X pins σ H { s with heap := h', toks := tk } := I.turned (fun b o hb e => kk b o (by simpa using hb) e) f0 f1 f3 f4 f5
  refine ⟨_, rfl, yBO (s := { s with heap := h', toks := tk }) (n := "range_iterator") st' rfl rfl (by decide) ⟨.int (lo + i), H, I1, ⟨t, ?_⟩, ⟨rfl, rfl⟩, st', fun b hb => (hf b hb).1⟩⟩
  rw [Int.mul_one]
 done := by
  intro X hP hw hK hc i pins s σ H E I hf st hg
  subst hP hw hK
  obtain ⟨f0, f1, f2, f3, f4, f5⟩ := hf it (by simp)
  exact wpAny_pyNext_range_end (I.ok.hd hc) st (by have : n ≤ i := hg; omega) fun h' eb => ⟨rfl, I.turned (t' := s.toks) (fun b o hb e => eb b o hb e) f0 f1 f3 f4 f5⟩
 self := fun _ _ _ _ _ st h => wpAny_pyIter_rangeiter st h
end L2
namespace L2
open PySem PySem.Spec PyProof.Rows
section
variable {X : Cx} {tg : Expr}
def iList (K : PySem.W.Frag) (tl : TE) : TI := fun σ H R => tl σ H fun x H1 => ∃ a, x = .ref a ∧ (∃ xs, SqL K H1 a xs) ∧ R (Itl K a) H1
def iTup (K : PySem.W.Frag) (tl : TE) : TI := fun σ H R => tl σ H fun x H1 => ∃ a, x = .ref a ∧ (∃ xs, SqT K H1 a xs) ∧ R (Itt K a) H1
theorem yJI {l : Expr} {tl : TE} (hl : PE X l tl) : PI X tg l (iList X.K tl) := by
 intro pins s σ H R I h
 refine thn (hl pins s σ H _ I h) fun v s1 ⟨x, H1, I1, r1, q1⟩ => ?_
 obtain ⟨a, e, ⟨xs, hq⟩, q⟩ := q1
 subst e
 cases r1
 obtain ⟨its, rv, p, hz⟩ := I1.list hq
 refine wpAny_pyIter_list p.isList ?_
 refine ⟨s1.heap.objs.size, [s1.heap.objs.size], _, _, H1, rfl, I1.kept (t' := s1.toks) fun b o e => Heap.get?_push_of_some _ e, yDK a _, ⟨_, Heap.get?_push_size _ rfl, rfl, rfl⟩, fun b hb => ?_, q⟩
 have e : b = s1.heap.objs.size := by simpa using hb
 subst e
 exact I1.fpOk (Nat.le_refl _) (I1.hok.fresh (Nat.le_refl _))
theorem yNG {l : Expr} {tl : TE} (hl : PE X l tl) : PI X tg l (iTup X.K tl) := by
 intro pins s σ H R I h
 refine thn (hl pins s σ H _ I h) fun v s1 ⟨x, H1, I1, r1, q1⟩ => ?_
 obtain ⟨a, e, ⟨xs, hq⟩, q⟩ := q1
 subst e
 cases r1
 obtain ⟨its, rv, p, hz⟩ := I1.tuple hq
 refine wpAny_pyIter_tuple (show s1.heap.IsTuple a its.toArray from p) ?_
 refine ⟨s1.heap.objs.size, [s1.heap.objs.size], _, _, H1, rfl, I1.kept (t' := s1.toks) fun b o e => Heap.get?_push_of_some _ e, zYW a _, ⟨_, Heap.get?_push_size _ rfl, rfl, rfl⟩, fun b hb => ?_, q⟩
 have e : b = s1.heap.objs.size := by simpa using hb
 subst e
 exact I1.fpOk (Nat.le_refl _) (I1.hok.fresh (Nat.le_refl _))
theorem yFP {pins : List (Addr × Obj)} {σ : St} {H : Hp} {s : Shared} {R : It → Hp → Prop} {E : Value → Shared → Prop} {lo hi : Int} {t u v : Tok} {tk : Nat} (I : Inv X pins σ H s) (h1 : -(2 ^ 62) ≤ lo) (h2 : lo < 2 ^ 62) (h3 : -(2 ^ 62) ≤ hi) (h4 : hi < 2 ^ 62)
  (q : R (Itr lo (hi - lo).toNat) H) : wpAny (model X.prog X.w) X.A (pyIter (.ref s.heap.objs.size)) (PIE X pins σ tg R) E { s with heap := s.heap.push { cls := .type "range", data := .fields #[.int lo t, .int hi u, .int 1 v] }, toks := tk } := by
 refine wpAny_pyIter_range (IsRange.new ..) (small_one h1 h2 h3 h4) ?_
 have I1 : Inv X pins σ H { s with heap := s.heap.push { cls := .type "range", data := .fields #[.int lo t, .int hi u, .int 1 v] }, toks := tk } := I.kept fun b o e => Heap.get?_push_of_some _ e
 refine ⟨(s.heap.push { cls := .type "range", data := .fields #[.int lo t, .int hi u, .int 1 v] }).objs.size, [(s.heap.push { cls := .type "range", data := .fields #[.int lo t, .int hi u, .int 1 v] }).objs.size], _, _, H, rfl,
  I1.kept (t' := tk) fun b o e => Heap.get?_push_of_some _ e, zYX _ lo (hi - lo).toNat, ?_, fun b hb => ?_, q⟩
 ·have e1 : lo + ((0 : Nat) : Int) * 1 = lo := by simp
  have e2 : (((hi - lo).toNat : Nat) : Int) - ((0 : Nat) : Int) = Builtin.Range.rangeSize lo hi 1 := by rw [rangeSize_one]; split <;> omega
  show IsRangeIter _ _ (lo + ((0 : Nat) : Int) * 1) ((((hi - lo).toNat : Nat) : Int) - ((0 : Nat) : Int)) 1
  rw [e1, e2]
  exact Heap.get?_push_size _ rfl
 ·have e : b = (s.heap.push { cls := .type "range", data := .fields #[.int lo t, .int hi u, .int 1 v] }).objs.size := by simpa using hb
  subst e
  exact I1.fpOk (Nat.le_refl _) (I1.hok.fresh (Nat.le_refl _))
def iRng1 (ta : TA) : TI := fun σ H R => ta σ H fun vs H1 => ∃ j : Int, vs = [.int j] ∧ -(2 ^ 62) ≤ j ∧ j < 2 ^ 62 ∧ R (Itr 0 j.toNat) H1
theorem yDL {a : Expr} {ta : TA} {p pos : Pos} (hg : Gl X "range") (hm : X.mg "range" = none) (ha : PA X [a] ta) (hs : starEach [a] X.env = [(false, eval a X.env)] := by rfl) : PI X tg (.Call (.Name "range" p) [a] [] pos) (iRng1 ta) := by
 intro pins s σ H R I h
 refine Call_ (zMG I hg hm boot_range (PyProof.Rows.callWith_type1 (thn (ha pos pins s σ H _ I h) fun us s1 ⟨vs, H1, I1, r1, q1⟩ => ?_) hs rfl))
 obtain ⟨j, e, q1, q2, q⟩ := q1
 subst e
 cases r1 with
 | cons r rr =>
  cases rr
  obtain ⟨t, rfl⟩ := r
  exact call_range_1 (yFP I1 (by omega) (by omega) q1 q2 (by simpa using q))
def tFor (wi : TI) (g : TG) (tb : TS) : TS := fun D σ H => wi σ H fun J H1 => ∃ W : Nat → Nat → St → Hp → Prop, (∃ m, W 0 m σ H1) ∧ ∀ i m σ H, W i m σ H →
 (J.stop i H ∧ D.nx σ H) ∨ (J.go i H ∧ ∃ N : St → Hp → Prop, (∀ σ' H', N σ' H' → ∃ m', m' < m ∧ W (i + 1) m' σ' H') ∧ ∀ x H', J.yld i H x H' → g x σ H' fun σ2 H2 => tb { D with nx := N, ct := N, bk := D.nx } σ2 H2)
def zGK (fp : List Addr) (h : Heap) : List (Addr × Obj) := fp.filterMap fun b => (h.get? b).map fun o => (b, o)
theorem zEA {fp : List Addr} {h : Heap} {b : Addr} {o : Obj} (hb : b ∈ fp) (e : h.get? b = some o) : (b, o) ∈ zGK fp h := List.mem_filterMap.mpr ⟨b, hb, by rw [e]; rfl⟩
theorem yDM {fp : List Addr} {h : Heap} {p : Addr × Obj} (hp : p ∈ zGK fp h) : p.1 ∈ fp ∧ h.get? p.1 = some p.2 := by
 obtain ⟨b, hb, e⟩ := List.mem_filterMap.mp hp
 cases q : h.get? b with
 | none => rw [q] at e; cases e
 | some o =>
  rw [q] at e
  have e' : (b, o) = p := Option.some.inj e
  subst e'
  exact ⟨hb, q⟩
theorem Inv.pinned {pins : List (Addr × Obj)} {σ : St} {H : Hp} {s : Shared} {fp : List Addr} (I : Inv X pins σ H s) (hf : ∀ b ∈ fp, zJK X pins H b) (ho : ∀ b ∈ fp, ∃ o, s.heap.get? b = some o ∧ ∀ v, o.data ≠ .cell v) : Inv X (pins ++ zGK fp s.heap) σ H s :=
 I.pins_of fun p hp => (List.mem_append.mp hp).elim (fun z => I.pin p (List.mem_append_right _ z)) fun z => by
  obtain ⟨hb, e⟩ := yDM z
  obtain ⟨f0, f1, f2, _⟩ := hf p.1 hb
  obtain ⟨o, e', d⟩ := ho p.1 hb
  rw [e] at e'; cases e'
  exact ⟨e, f0, f1, f2, d⟩
theorem Inv.unpinned {pins pl : List (Addr × Obj)} {σ : St} {H : Hp} {s : Shared} (I : Inv X (pins ++ pl) σ H s) : Inv X pins σ H s := I.pins_of fun p hp => I.pin p (List.mem_append_right _ (List.mem_append_left _ hp))
theorem yNH {iter : Expr} {body : List Stmt} {wi : TI} {g : TG} {tb : TS} {pos : Pos} (hp : PassesOwn (model X.prog X.w) X.A X.env X.xe) (hc : X.calm = true) (hi : PI X tg iter wi) (hg : PG X tg g) (hb : PSs X body tb)
  (hs : ∀ x, foldedSetIterable iter X.env x = pure x := by intro _; rfl) : PS X (.For tg iter body [] pos) (tFor wi g tb) := by
 intro pins s σ H D I h
 refine wpAny_For (thn (hi pins s σ H _ I h) fun v s1 h1 => thn h1 fun itv s2 h2 => ?_) hs
 obtain ⟨it, fp, tn, J, H2, e, I2, T, st2, f2, W, ⟨m0, w0⟩, turn⟩ := h2
 subst e
 have stat : ∀ {H' : Hp}, (∀ b ∈ fp, H' b = none) → ∀ b ∈ fp, zJK X pins H' b := fun hn b hb => ⟨hn b hb, (f2 b hb).2⟩
 refine codeAny_forLoop_any (fun n s' => ∃ i σ' H', Inv X pins σ' H' s' ∧ tn i s'.heap ∧ (∀ b ∈ fp, H' b = none) ∧ W i n σ' H') ?_ m0 ⟨0, σ, H2, I2, st2, fun b hb => (f2 b hb).1, w0⟩
 rintro n s3 ⟨i, σ3, H3, I3, st3, fr3, w3⟩
 rcases turn i n σ3 H3 w3 with ⟨stop, qn⟩ | ⟨go, N, hN, step⟩
 ·refine wpAny_passesOwn hp (thn (T.done X rfl rfl rfl hc i pins s3 σ3 H3 X.xe I3 (stat fr3) st3 stop) fun r s4 ⟨hr, I4⟩ => ?_)
  subst hr
  exact wpAny_execs_nil ⟨σ3, H3, I4, qn⟩
 ·refine wpAny_passesOwn hp (thn (T.item X rfl rfl rfl hc i pins s3 σ3 H3 X.xe I3 (stat fr3) st3 go) fun r s4 ⟨u, hr, h4⟩ => ?_)
  subst hr
  refine wpAny_passesOwn hp (thn h4 fun _ s5 ⟨x, H5, I5, r5, y5, st5, fr5⟩ => ?_)
  have I5' := I5.pinned (stat fr5) (T.obj _ _ st5)
  refine wpAny_passesOwn hp (thn (hg _ s5 σ3 H5 x u _ I5' r5 (step x H5 y5)) fun _ s6 ⟨σ6, H6, I6, q6⟩ => ?_)
  refine wpAny_passesOwn hp (thn (hb _ s6 σ6 H6 _ I6 q6) fun f s7 q7 => ?_)
  have again : ∀ {σ7 : St} {H7 : Hp}, Inv X (pins ++ zGK fp s5.heap) σ7 H7 s7 → N σ7 H7 → ∃ m, m < n ∧ ∃ i σ' H', Inv X pins σ' H' s7 ∧ tn i s7.heap ∧ (∀ b ∈ fp, H' b = none) ∧ W i m σ' H' := fun {σ7 H7} I7 n7 => by
   obtain ⟨m', hm, w7⟩ := hN σ7 H7 n7
   refine ⟨m', hm, i + 1, σ7, H7, I7.unpinned, T.keep _ _ _ st5 fun b hb o e => (I7.pin (b, o) (List.mem_append_right _ (List.mem_append_right _ (zEA hb e)))).1, fun b hb => ?_, w7⟩
   obtain ⟨o, e, d⟩ := T.obj _ _ st5 b hb
   exact (I7.pin (b, o) (List.mem_append_right _ (List.mem_append_right _ (zEA hb e)))).2.1
  cases f with
  | next => obtain ⟨σ7, H7, I7, n7⟩ := q7; exact again I7 n7
  | cont => obtain ⟨σ7, H7, I7, n7⟩ := q7; exact again I7 n7
  | brk => obtain ⟨σ7, H7, I7, q7⟩ := q7; exact ⟨σ7, H7, I7.unpinned, q7⟩
  | ret v => obtain ⟨x7, σ7, H7, I7, r7, q7⟩ := q7; exact ⟨x7, σ7, H7, I7.unpinned, r7, q7⟩
end
end L2
namespace L2
open PySem PySem.Spec PyProof.Rows
abbrev R2 := V → V → Hp → VK → Prop
def OpR (X : Cx) (f : Value → Value → Sem Value) (r : R2) : Prop :=
 ∀ (pins : List (Addr × Obj)) (s : Shared) (σ : St) (H : Hp) (x y : V) (v u : Value) (Q : VK), Inv X pins σ H s → RelV x v → RelV y u → r x y H Q →
  wpAny (model X.prog X.w) X.A (f v u) (EP X pins σ Q) X.xe s
def CallR (X : Cx) (f : Value) (r : List V → Hp → VK → Prop) : Prop :=
 ∀ (pins : List (Addr × Obj)) (s : Shared) (σ : St) (H : Hp) (xs : List V) (us : List Value) (Q : VK), Inv X pins σ H s → Vals xs us → r xs H Q →
  wpAny (model X.prog X.w) X.A (call f us) (EP X pins σ Q) X.xe s
def TruR (X : Cx) (r : V → Hp → (Bool → Hp → Prop) → Prop) : Prop :=
 ∀ (pins : List (Addr × Obj)) (s : Shared) (σ : St) (H : Hp) (x : V) (v : Value) (Q : Bool → Hp → Prop), Inv X pins σ H s → RelV x v → r x H Q →
  wpAny (model X.prog X.w) X.A (truthy v) (TP X pins σ Q) X.xe s
def tOp (r : R2) (ta tb : TE) : TE := fun σ H Q => ta σ H fun x H1 => tb σ H1 fun y H2 => r x y H2 Q
def rI (C : Int → Int → Prop) (g : Int → Int → V) : R2 := fun x y H Q => ∃ i j, x = .int i ∧ y = .int j ∧ C i j ∧ Q (g i j) H
def rI0 (g : Int → Int → V) : R2 := fun x y H Q => ∃ i j, x = .int i ∧ y = .int j ∧ Q (g i j) H
section
variable {X : Cx} {a b c : Expr} {ta tb tc : TE} {pos : Pos}
theorem binT (ha : PE X a ta) (hb : PE X b tb) {pins : List (Addr × Obj)} {s : Shared} {σ : St} {H : Hp} {R : V → V → Hp → Prop} (I : Inv X pins σ H s)
  (h : ta σ H fun x H1 => tb σ H1 fun y H2 => R x y H2) {Q : Value → Shared → Prop} {f : Value → Value → Sem Value}
  (hf : ∀ v u s2 x y H2, Inv X pins σ H2 s2 → RelV x v → RelV y u → R x y H2 → wpAny (model X.prog X.w) X.A (f v u) Q X.xe s2) :
  wpAny (model X.prog X.w) X.A (eval a X.env) (fun v s₁ => wpAny (model X.prog X.w) X.A (eval b X.env) (fun u s₂ => wpAny (model X.prog X.w) X.A (f v u) Q X.xe s₂) X.xe s₁) X.xe s := by
 refine thn (ha pins s σ H _ I h) fun v s1 ⟨x, H1, I1, r1, q1⟩ => ?_
 refine thn (hb pins s1 σ H1 _ I1 q1) fun u s2 ⟨y, H2, I2, r2, q2⟩ => ?_
 exact hf v u s2 x y H2 I2 r1 r2 q2
theorem pe_op {op : Operator} {r : R2} (ho : OpR X (binaryOp op) r) (ha : PE X a ta) (hb : PE X b tb) : PE X (.BinOp a op b pos) (tOp r ta tb) := by
 intro pins s σ H Q I h
 exact wpAny_BinOp (binT ha hb I h fun v u s2 x y H2 I2 rx ry q => ho pins s2 σ H2 x y v u Q I2 rx ry q)
theorem opI {f : Value → Value → Sem Value} {C : Int → Int → Prop} {g : Int → Int → Int}
  (rule : ∀ (i j : Int) (t u : Tok) (s : Shared) (Q : Value → Shared → Prop) (E : Value → Shared → Prop), C i j → Q (.int (g i j) s.toks) { s with toks := s.toks + 1 } → wpAny (model X.prog X.w) X.A (f (.int i t) (.int j u)) Q E s) :
  OpR X f (rI C fun i j => .int (g i j)) := by
 intro pins s σ H x y v u Q I rx ry h
 obtain ⟨i, j, rfl, rfl, hc, q⟩ := h
 obtain ⟨t, rfl⟩ := rx
 obtain ⟨t', rfl⟩ := ry
 exact rule i j t t' s _ _ hc ⟨.int (g i j), H, I.tok _, ⟨_, rfl⟩, q⟩
theorem opI0 {f : Value → Value → Sem Value} {g : Int → Int → Int}
  (rule : ∀ (i j : Int) (t u : Tok) (s : Shared) (Q : Value → Shared → Prop) (E : Value → Shared → Prop), Q (.int (g i j) s.toks) { s with toks := s.toks + 1 } → wpAny (model X.prog X.w) X.A (f (.int i t) (.int j u)) Q E s) :
  OpR X f (rI0 fun i j => .int (g i j)) := by
 intro pins s σ H x y v u Q I rx ry h
 obtain ⟨i, j, rfl, rfl, q⟩ := h
 obtain ⟨t, rfl⟩ := rx
 obtain ⟨t', rfl⟩ := ry
 exact rule i j t t' s _ _ ⟨.int (g i j), H, I.tok _, ⟨_, rfl⟩, q⟩
theorem opB0 {f : Value → Value → Sem Value} {g : Int → Int → Bool}
  (rule : ∀ (i j : Int) (t u : Tok) (s : Shared) (Q : Value → Shared → Prop) (E : Value → Shared → Prop), Q (.bool (g i j)) s → wpAny (model X.prog X.w) X.A (f (.int i t) (.int j u)) Q E s) :
  OpR X f (rI0 fun i j => .bl (g i j)) := by
 intro pins s σ H x y v u Q I rx ry h
 obtain ⟨i, j, rfl, rfl, q⟩ := h
 obtain ⟨t, rfl⟩ := rx
 obtain ⟨t', rfl⟩ := ry
 exact rule i j t t' s _ _ ⟨.bl (g i j), H, I, rfl, q⟩
def CMul (i j : Int) : Prop := (-(2 ^ 64) < i ∧ i < 2 ^ 64) ∨ (-(2 ^ 64) < j ∧ j < 2 ^ 64)
theorem CMul.ok {i j : Int} (h : CMul i j) : IntMulOk i j := by
 rcases h with ⟨h1, h2⟩ | ⟨h1, h2⟩
 ·exact .of_left (intBits_le_64 h1 h2)
 ·exact .of_right (intBits_le_64 h1 h2)
theorem yNI : OpR X (binaryOp .Add) (rI0 fun i j => .int (i + j)) := opI0 fun _ _ _ _ _ _ _ q => add_int q
theorem yNJ : OpR X (binaryOp .Sub) (rI0 fun i j => .int (i - j)) := opI0 fun _ _ _ _ _ _ _ q => sub_int q
theorem yNK : OpR X (binaryOp .Mod) (rI (fun _ j => 0 < j) fun i j => .int (i % j)) := opI fun i j _ _ _ _ _ hc q => by
 have h1 : (0 : Int) < j := hc
 exact mod_int' (by omega) (by rw [Int.fmod_eq_emod_of_nonneg i (by omega)]; exact q)
end
section
variable {X : Cx} {a b c : Expr} {ta tb tc : TE} {pos : Pos}
theorem zYY {pins : List (Addr × Obj)} {σ : St} {H : Hp} {s : Shared} {Q : VK} {k k' : Bool} (I : Inv X pins σ H s) (q : Q (.bl k) H) (e : k = k') : EP X pins σ Q (.bool k') s := by
 subst e
 exact ⟨.bl k, H, I, rfl, q⟩
theorem zVT : OpR X (compareOp .LtE) (rI0 fun i j => .bl (decide (i ≤ j))) := opB0 fun _ _ _ _ _ _ _ q => le_int q
theorem op_gt : OpR X (compareOp .Gt) (rI0 fun i j => .bl (decide (j < i))) := opB0 fun _ _ _ _ _ _ _ q => gt_int q
theorem yDN : OpR X (compareOp .In) (fun x y H Q => ∃ i j, x = .str i ∧ y = .str j ∧ Q (.bl (!(Builtin.Str.occurrences j i 0 j.length 1).isEmpty)) H) := by
 intro pins s σ H x y v u Q I rx ry h
 obtain ⟨i, j, rfl, rfl, q⟩ := h
 obtain ⟨t, rfl⟩ := rx
 obtain ⟨t', rfl⟩ := ry
 exact in_str (zYY I q rfl)
theorem yFQ : OpR X (compareOp .Is) (fun x y H Q => y = .non ∧ Q (.bl (decide (x = .non))) H) := by
 intro pins s σ H x y v u Q I rx ry h
 obtain ⟨rfl, q⟩ := h
 cases ry
 refine is_none_gen (zYY I q ?_)
 cases x <;> first
  | (cases rx; rfl)
  | (obtain ⟨t, rfl⟩ := rx; rfl)
theorem zTO : OpR X (compareOp .NotIn) (fun x y H Q => ∃ i j, x = .str i ∧ y = .str j ∧ Q (.bl (!(!(Builtin.Str.occurrences j i 0 j.length 1).isEmpty))) H) := by
 intro pins s σ H x y v u Q I rx ry h
 obtain ⟨i, j, rfl, rfl, q⟩ := h
 obtain ⟨t, rfl⟩ := rx
 obtain ⟨t', rfl⟩ := ry
 exact notIn_str (zYY I q rfl)
theorem OpR.or {f : Value → Value → Sem Value} {r r' : R2} (h : OpR X f r) (h' : OpR X f r') : OpR X f (fun x y H Q => r x y H Q ∨ r' x y H Q) := by
 intro pins s σ H x y v u Q I rx ry q
 rcases q with q | q
 ·exact h pins s σ H x y v u Q I rx ry q
 ·exact h' pins s σ H x y v u Q I rx ry q
theorem yFR (b : Expr) {op : CmpOp} (h : op ≠ .In := by decide) (h2 : op ≠ .NotIn := by decide) : behindInMarks op b = false := by
 have e1 : (op == CmpOp.In) = false := by cases op <;> first | rfl | exact absurd rfl h
 have e2 : (op == CmpOp.NotIn) = false := by cases op <;> first | rfl | exact absurd rfl h2
 cases b <;> simp [behindInMarks, e1, e2]
theorem yJJ {op : CmpOp} {r : R2} (ho : OpR X (compareOp op) r) (ha : PE X a ta) (hb : PE X b tb) (hm : behindInMarks op b = false) : PE X (.Compare a [op] [b] pos) (tOp r ta tb) := by
 intro pins s σ H Q I h
 exact wpAny_Compare1 (binT ha hb I h fun v u s2 x y H2 I2 rx ry q => ho pins s2 σ H2 x y v u Q I2 rx ry q) hm
def yMF (t : TE) : TT := fun σ H Q => t σ H fun x H' => ∃ k, x = .bl k ∧ Q k H'
theorem yJK {op : CmpOp} {r : R2} (ho : OpR X (compareOp op) r) (ha : PE X a ta) (hb : PE X b tb) (hm : behindInMarks op b = false) : PT X (.Compare a [op] [b] pos) (yMF (tOp r ta tb)) := by
 intro pins s σ H Q I h
 refine wpAny_isTrue_Compare1 (thn (ha pins s σ H _ I h) fun v s1 ⟨x, H1, I1, r1, q1⟩ => thn (hb pins s1 σ H1 _ I1 q1) fun u s2 ⟨y, H2, I2, r2, q2⟩ =>
  thn (ho pins s2 σ H2 x y v u _ I2 r1 r2 q2) fun c s3 ⟨z, H3, I3, r3, k, e, q3⟩ => ?_) hm
 subst e
 cases r3
 exact wpAny_truthy_bool ⟨H3, I3, q3⟩
def zYZ (r r' : R2) (ta tb tc : TE) : TE := fun σ H Q => ta σ H fun x H1 => tb σ H1 fun y H2 => r x y H2 fun z H3 => ∃ k, z = .bl k ∧
 (if k = true then tc σ H3 fun w' H4 => r' y w' H4 Q else Q (.bl false) H3)
theorem yFS {op op' : CmpOp} {r r' : R2} (ho : OpR X (compareOp op) r) (ho' : OpR X (compareOp op') r') (ha : PE X a ta) (hb : PE X b tb) (hc : PE X c tc)
  (hm : lastMarks [op, op'] [b, c] = false := by with_unfolding_all rfl) : PE X (.Compare a [op, op'] [b, c] pos) (zYZ r r' ta tb tc) := by
 intro pins s σ H Q I h
 refine Compare_chain (thn (ha pins s σ H _ I h) fun v s1 ⟨x, H1, I1, r1, q1⟩ => chain_link (thn (hb pins s1 σ H1 _ I1 q1) fun u s2 ⟨y, H2, I2, r2, q2⟩ =>
  thn (ho pins s2 σ H2 x y v u _ I2 r1 r2 q2) fun d s3 ⟨z, H3, I3, r3, k, e, q3⟩ => ?_)) hm
 subst e
 cases r3
 refine wpAny_truthy_bool ?_
 cases k with
 | false => exact ite_ff ⟨.bl false, H3, I3, rfl, q3⟩
 | true => exact ite_tt (chain_last (thn (hc pins s3 σ H3 _ I3 q3) fun w' s4 ⟨z', H4, I4, r4, q4⟩ => ho' pins s4 σ H4 y z' u w' Q I4 r2 r4 q4))
theorem yFT {op op' : CmpOp} {r r' : R2} (ho : OpR X (compareOp op) r) (ho' : OpR X (compareOp op') r') (ha : PE X a ta) (hb : PE X b tb) (hc : PE X c tc)
  (hm : lastMarks [op, op'] [b, c] = false := by with_unfolding_all rfl) : PT X (.Compare a [op, op'] [b, c] pos) (yMF (zYZ r r' ta tb tc)) := by
 intro pins s σ H Q I h
 refine isTrue_chain (thn (ha pins s σ H _ I h) fun v s1 ⟨x, H1, I1, r1, q1⟩ => test_link (thn (hb pins s1 σ H1 _ I1 q1) fun u s2 ⟨y, H2, I2, r2, q2⟩ =>
  thn (ho pins s2 σ H2 x y v u _ I2 r1 r2 q2) fun d s3 ⟨z, H3, I3, r3, k, e, q3⟩ => ?_)) hm
 subst e
 cases r3
 refine wpAny_truthy_bool ?_
 cases k with
 | false =>
  obtain ⟨k', e', q'⟩ := q3
  cases e'
  exact ite_ff ⟨H3, I3, q'⟩
 | true =>
  refine ite_tt (test_last (thn (hc pins s3 σ H3 _ I3 q3) fun w' s4 ⟨z', H4, I4, r4, q4⟩ => thn (ho' pins s4 σ H4 y z' u w' _ I4 r2 r4 q4) fun d' s5 ⟨z2, H5, I5, r5, k2, e2, q5⟩ => ?_))
  subst e2
  cases r5
  exact wpAny_truthy_bool ⟨H5, I5, q5⟩
def TruV (K : PySem.W.Frag) (x : V) (H : Hp) (k : Bool) : Prop :=
 match x with
 | .non => k = false
 | .bl b => k = b
 | .int i => k = (i != 0)
 | .str y => y.length ≤ sizeLine ∧ k = ((y.length : Int) != 0)
 | .byt y => y.size ≤ sizeLine ∧ k = ((y.size : Int) != 0)
 | .ref p => (∃ xs, SqL K H p xs ∧ k = !xs.isEmpty) ∨ (∃ xs, SqT K H p xs ∧ k = !xs.isEmpty) ∨ ∃ kvs, H p = some (.dK kvs) ∧ k = !kvs.isEmpty
 | _ => False
theorem zZA {κ : Type} {kvs : List (κ × V)} {vs : List (κ × Value)} (r : KV kvs vs) : (!vs.isEmpty) = !kvs.isEmpty := by
 cases r <;> rfl
theorem zOI {xs : List V} {its : List Value} (r : Vals xs its) : (!its.toArray.isEmpty) = !xs.isEmpty := by
 cases r <;> simp
theorem zMH : (sizeLine : Nat) < 2 ^ 63 := by rw [sizeLine_eq]; decide
theorem yNL : TruR X (fun x H Q => ∃ k, TruV X.K x H k ∧ Q k H) := by
 intro pins s σ H x v Q I rx h
 obtain ⟨k, e, q⟩ := h
 have hl := zMH
 have hs : sizeLine = 16777216 := sizeLine_eq
 cases x with
 | non =>
  cases rx
  have e' : k = false := e
  subst e'
  exact truthy_none ⟨H, I, q⟩
 | bl b =>
  cases rx
  have e' : k = b := e
  subst e'
  exact wpAny_truthy_bool ⟨H, I, q⟩
 | int i =>
  obtain ⟨t, rfl⟩ := rx
  have e' : k = (i != 0) := e
  subst e'
  exact PySem.P.truthy_int ⟨H, I, q⟩
 | str y =>
  obtain ⟨t, rfl⟩ := rx
  obtain ⟨hy, e'⟩ : y.length ≤ sizeLine ∧ k = ((y.length : Int) != 0) := e
  subst e'
  exact PySem.P.truthy_str (by omega) ⟨H, I.tok _, q⟩
 | byt y =>
  obtain ⟨t, rfl⟩ := rx
  obtain ⟨hy, e'⟩ : y.size ≤ sizeLine ∧ k = ((y.size : Int) != 0) := e
  subst e'
  exact PySem.W.truthy_bytes (by omega) ⟨H, I.tok _, q⟩
 | ref p =>
  cases rx
  have e' : (∃ xs, SqL X.K H p xs ∧ k = !xs.isEmpty) ∨ (∃ xs, SqT X.K H p xs ∧ k = !xs.isEmpty) ∨ ∃ kvs, H p = some (.dK kvs) ∧ k = !kvs.isEmpty := e
  rcases e' with ⟨xs, hx, e'⟩ | ⟨xs, hx, e'⟩ | ⟨kvs, hx, e'⟩
  ·subst e'
   obtain ⟨its, r, pl, hz⟩ := I.list hx
   have hlen := r.length
   exact wpAny_truthy_list pl.isList (by simp only [List.size_toArray]; omega) ⟨H, I.tok _, by rw [zOI r]; exact q⟩
  ·subst e'
   obtain ⟨its, r, pl, hz⟩ := I.tuple hx
   have hlen := r.length
   exact truthy_tuple pl (by simp only [List.size_toArray]; omega) ⟨H, I.tok _, by rw [zOI r]; exact q⟩
  ·subst e'
   obtain ⟨hz, hS, vs, r, m⟩ : kvs.length ≤ sizeLine ∧ (p == sysModules) = false ∧ ∃ vs, KV kvs vs ∧ s.heap.DictOf (zNW X.prog X.w) p vs := I.hok p _ hx
   have hlen : kvs.length = vs.length := Paired.length r
   exact wpAny_truthy_dict hS m (by omega) ⟨H, I.tok _, by rw [zZA r]; exact q⟩
 | _ => exact (show False from e).elim
theorem yFU (ha : PE X a ta) (he : ∀ whole, isTrue a X.env whole = (do let v ← whole; standAt a.pos; holding [v] (truthy v))) :
  PT X a (fun σ H Q => ta σ H fun x H' => ∃ k, TruV X.K x H' k ∧ Q k H') := by
 intro pins s σ H Q I h
 exact isTrue_plain (thn (ha pins s σ H _ I h) fun v s1 ⟨x, H1, I1, r1, q1⟩ => yNL pins s1 σ H1 x v Q I1 r1 q1) (he _)
theorem zZB : OpR X (binaryOp .Add) (fun x y H Q => ∃ i j, x = .str i ∧ y = .str j ∧ i.length + j.length ≤ sizeLine ∧ Q (.str (i ++ j)) H) := by
 intro pins s σ H x y v u Q I rx ry h
 obtain ⟨i, j, rfl, rfl, hz, q⟩ := h
 obtain ⟨t, rfl⟩ := rx
 obtain ⟨t', rfl⟩ := ry
 exact add_str (fun t' tk => ⟨.str (i ++ j), H, I.tok _, ⟨_, rfl⟩, q⟩) hz
theorem vals1 {x : V} {us : List Value} (r : Vals [x] us) : ∃ u, us = [u] ∧ RelV x u := by
 cases r with
 | cons r1 r2 => cases r2; exact ⟨_, rfl, r1⟩
theorem vals2 {x y : V} {us : List Value} (r : Vals [x, y] us) : ∃ u w', us = [u, w'] ∧ RelV x u ∧ RelV y w' := by
 cases r with
 | cons r1 r2 =>
  cases r2 with
  | cons r3 r4 => cases r4; exact ⟨_, _, rfl, r1, r3⟩
theorem yFV : CallR X (.builtin "abs") (fun xs H Q => ∃ i, xs = [.int i] ∧ Q (.int (if i < 0 then -i else i)) H) := by
 intro pins s σ H xs us Q I r h
 obtain ⟨i, rfl, q⟩ := h
 obtain ⟨u, rfl, t, rfl⟩ := vals1 r
 exact call_abs_int fun u tk => ⟨.int (if i < 0 then -i else i), H, I.tok _, ⟨_, rfl⟩, q⟩
end
end L2
namespace L2
open PySem PySem.Spec PyProof.Rows
structure Cls (K : PySem.W.Frag) (C : Addr) : Prop where
 pg : PySem.W.plainGet K C Str.empty = true
 hd : PySem.W.hasDictIn K C = true
 po : PySem.W.plainOver K C = true
 sa : PySem.W.findIn K (.ref C) "__setattr__" = some (some (.builtin "object.__setattr__"))
section
variable {X : Cx} {pins : List (Addr × Obj)} {σ : St} {H : Hp} {s : Shared} {A : Around} {E : Value → Shared → Prop} {Q : Value → Shared → Prop} {c : Value} {b : Bool}
inductive zJT (K : PySem.W.Frag) (H : Hp) : V → Value → Prop where
 | non : zJT K H .non (.type "NoneType")
 | bl (x : Bool) : zJT K H (.bl x) (.type "bool")
 | int (i : Int) : zJT K H (.int i) (.type "int")
 | str (x : Str) : zJT K H (.str x) (.type "str")
 | flt (x : UInt64) : zJT K H (.flt x) (.type "float")
 | lst {a : Addr} {xs : List V} (e : H a = some (.lst xs)) : zJT K H (.ref a) (.type "list")
 | frz {a : Addr} {o : Obj} {xs : List V} (e : H a = some (.frz o (.lst xs))) : zJT K H (.ref a) (.type "list")
 | tup {a : Addr} {xs : List V} (e : H a = some (.tup xs)) : zJT K H (.ref a) (.type "tuple")
 | dK {a : Addr} {kvs : List (Key × V)} (e : H a = some (.dK kvs)) : zJT K H (.ref a) (.type "dict")
 | dT {a : Addr} {kvs : List (List Key × V)} (e : H a = some (.dT kvs)) : zJT K H (.ref a) (.type "dict")
 | ins {a C dx : Addr} {fs : List (Str × V)} (e : H a = some (.ins C dx fs)) (cl : Cls K C) (ha : PySem.W.findIn K (.ref C) "__class__" = some (some (.builtin "object.__class__")))
   (hn : PySem.W.specialIn K (.builtin "object.__class__") "__get__" = some (some (.builtin "getset_descriptor.__get__"))) (htk : PySem.W.takesIn K (.builtin "object.__class__") = some true)
   (hm : PySem.W.mroIn K C (.type "object") = some true) : zJT K H (.ref a) (.ref C)
end
end L2
namespace L2
open PySem PySem.Spec PyProof.Rows
structure Room (k : Nat) (A : Around) : Prop where
 hd : A.handled = none
 dp : A.depth + 3 * k + 5 < recursionLimit
 un : A.units + 16 * k + 200 < cLine
theorem Room.mono {j k : Nat} {A : Around} (r : Room k A) (h : j ≤ k) : Room j A := ⟨r.hd, by have := r.dp; omega, by have := r.un; omega⟩
theorem Room.deeper {k : Nat} {A : Around} (r : Room (k + 1) A) (env : Env) : Room k (A.deeper env) :=
 ⟨r.hd, by have := r.dp; show A.depth + 1 + 3 * k + 5 < _; omega, by have := r.un; show A.units + 3 + 16 * k + 200 < _; omega⟩
theorem Room.in1 {k : Nat} {A : Around} (r : Room (k + 1) A) : Room k A.in1 :=
 ⟨r.hd, by have := r.dp; show A.depth + 3 * k + 5 < _; omega, by have := r.un; show A.units + 1 + 16 * k + 200 < _; omega⟩
theorem Room.depth {k : Nat} {A : Around} (r : Room k A) : A.depth < recursionLimit := by have := r.dp; omega
theorem Room.units {k : Nat} {A : Around} (r : Room k A) : A.units + 64 < cLine := by have := r.un; omega
def tNil : TA := fun _ H Q => Q [] H
def tCons (ta : TE) (tr : TA) : TA := fun σ H Q => ta σ H fun x H1 => tr σ H1 fun xs H2 => Q (x :: xs) H2
section
variable {X : Cx} {e : Expr} {es : List Expr} {te : TE} {t : TA} {pos : Pos}
theorem yFW : PA X [] tNil := fun _ _ _ _ H Q I h => Calls.spliced_nil ⟨[], H, I, .nil, h⟩
theorem yBP (ha : PE X e te) (hr : PA X es t) (hs : starEach (e :: es) X.env = (false, eval e X.env) :: starEach es X.env := by rfl) : PA X (e :: es) (tCons te t) := by
 intro pos pins s σ H Q I h
 rw [hs]
 show wpAny _ _ (spliced ((false, eval e X.env) :: backTo pos (starEach es X.env))) _ _ s
 refine Calls.spliced_cons (thn (ha pins s σ H _ I h) fun u s1 ⟨x, H1, I1, r1, q1⟩ => ?_)
 exact thn (hr pos pins s1 σ H1 _ I1 q1) fun us s2 ⟨xs, H2, I2, r2, q2⟩ => ⟨x :: xs, H2, I2, .cons r1 r2, q2⟩
def tTup (t : TA) : TE := fun σ H Q => t σ H fun xs H1 => xs.length ≤ sizeLine ∧ ∀ p, H1 p = none → Q (.ref p) (upd H1 p (.tup xs))
def tLst (t : TA) : TE := fun σ H Q => t σ H fun xs H1 => xs.length ≤ sizeLine ∧ ∀ p, H1 p = none → Q (.ref p) (upd H1 p (.lst xs))
theorem yNM {x1} (h : PA X es t) : PE X (.Tuple es x1 pos) (tTup t) := by
 intro pins s σ H Q I hq
 refine wpAny_Tuple_spliced (thn (h pos pins s σ H _ I hq) fun us s1 ⟨xs, H1, I1, r, z, q⟩ => ⟨by rw [← r.length]; exact z, ?_⟩)
 have hf : H1 s1.heap.objs.size = none := I1.hok.fresh (Nat.le_refl _)
 refine ⟨.ref s1.heap.objs.size, upd H1 s1.heap.objs.size (.tup xs), I1.laid (t' := s1.toks) (fun b u e => Heap.get?_push_of_some _ e) (Nat.le_refl _) ?_, rfl, q _ hf⟩
 exact ⟨z, us, r, ⟨_, Heap.get?_push_size _ rfl, rfl, _, rfl⟩⟩
theorem yNN (h : PA X es t) : PE X (.List es pos) (tLst t) := by
 intro pins s σ H Q I hq
 refine wpAny_List_spliced (thn (h pos pins s σ H _ I hq) fun us s1 ⟨xs, H1, I1, r, z, q⟩ => ⟨by rw [← r.length]; exact z, ?_⟩)
 have hf : H1 s1.heap.objs.size = none := I1.hok.fresh (Nat.le_refl _)
 refine ⟨.ref s1.heap.objs.size, upd H1 s1.heap.objs.size (.lst xs), I1.laid (t' := s1.toks) (fun b u e => Heap.get?_push_of_some _ e) (Nat.le_refl _) ?_, rfl, q _ hf⟩
 exact ⟨z, us, 0, r, Heap.get?_push_size _ rfl⟩
end
abbrev Sp := List V → Hp → VK → XK → Prop
abbrev CXT := List Env → Hp → Shared → XK → Value → Shared → Prop
structure Env0 (P : Program) (w : World) (K : PySem.W.Frag) (mg : Str → Option Value) (base : Heap) (A : Around) (outer : List Env) (s : Shared) (H : Hp) : Prop where
 frames : A.frames = some outer
 mod : Mod K mg base
 bs : ∀ b o, base.get? b = some o → s.heap.get? b = some o ∧ H b = none
 bsz : base.objs.size ≤ s.heap.objs.size
 funs : s.heap.FunFrames base outer
 frf : ∀ b ∈ frs outer, H b = none
 hok : HOk P w H s.heap
 bare : AllBare s.gens
def CE (outer : List Env) (P : Program) (w : World) (H : Hp) (s : Shared) (Q : VK) (u : Value) (s' : Shared) : Prop :=
 ∃ v H', s'.os = s.os ∧ AllBare s'.gens ∧ Un (frs outer) [] H H' s.heap s'.heap ∧ HOk P w H' s'.heap ∧ RelV v u ∧ Q v H'
def CR (CX : CXT) (outer : List Env) (P : Program) (w : World) (H : Hp) (s : Shared) (Q : VK) (E : XK) (r : Result) (s' : Shared) : Prop :=
 match r with
 | .ok (.ret u) => CE outer P w H s Q u s'
 | .ok _ => False
 | .error e => CX outer H s E e s'
structure FnOk (P : Program) (w : World) (K : PySem.W.Frag) (mg : Str → Option Value) (base : Heap) (CX : CXT) (k : Nat) (f : Addr) (fd : FuncData) (ps : List Str) (sp : Sp) : Prop where
 len : ∀ vs H Q E, sp vs H Q E → vs.length = ps.length
 run : ∀ (A : Around) (outer : List Env) (s : Shared) (H : Hp) (args : Args) (us : List Value) (vs : List V) (Q : VK) (E : XK), Room k A → Env0 P w K mg base A outer s H → BindsTo s fd args (ps.zip us) → Vals vs us → sp vs H Q E →
  codeAny (model P w) A (.call (.ref f) args) (CR CX outer P w H s Q E) s
theorem FnOk.imp {P : Program} {w : World} {K : PySem.W.Frag} {mg : Str → Option Value} {base : Heap} {CX : CXT} {k : Nat} {f : Addr} {fd : FuncData} {ps : List Str} {sp sp' : Sp} (F : FnOk P w K mg base CX k f fd ps sp)
  (h : ∀ vs H Q E, sp' vs H Q E → sp vs H Q E) : FnOk P w K mg base CX k f fd ps sp' :=
 ⟨fun vs H Q E q => F.len vs H Q E (h _ _ _ _ q), fun A outer s H args us vs Q E hr he hb hv hs => F.run A outer s H args us vs Q E hr he hb hv (h _ _ _ _ hs)⟩
theorem Env0.in1 {P : Program} {w : World} {K : PySem.W.Frag} {mg : Str → Option Value} {base : Heap} {A : Around} {outer : List Env} {s : Shared} {H : Hp} (e : Env0 P w K mg base A outer s H) :
  Env0 P w K mg base A.in1 outer s H := ⟨e.frames, e.mod, e.bs, e.bsz, e.funs, e.frf, e.hok, e.bare⟩
section
variable {X : Cx} {pins : List (Addr × Obj)} {σ : St} {H : Hp} {s s' : Shared}
theorem Inv.env0 (I : Inv X pins σ H s) : Env0 X.prog X.w X.K X.mg X.base X.A X.stack s H :=
 ⟨I.ok.frames, I.ok.mod, I.bs, Nat.le_trans I.ok.bsz I.sz, I.stack, I.stkFree, I.hok, I.bare⟩
theorem Inv.after {Q : VK} {u : Value} (I : Inv X pins σ H s) (h : CE X.stack X.prog X.w H s Q u s') : EP X pins σ Q u s' := by
 obtain ⟨v, H', os, bare, un, hok, r, q⟩ := h
 obtain ⟨hh, g, d, t, os'⟩ := s'
 obtain rfl : os' = s.os := os
 exact ⟨v, H', I.call (h' := hh) (g' := g) (d' := d) (t' := t) (ch := []) un hok bare (fun b z => absurd z (by simp)), r, q⟩
end
def tCall (sp : Sp) (dvs : List V) (E : XK) (t : TA) : TE := fun σ H Q => t σ H fun vs H1 => sp (vs ++ dvs) H1 Q E
def Binds (K : PySem.W.Frag) (fd : FuncData) (ps : List Str) (ds : List Value) : Prop :=
 ∀ (s : Shared) (us : List Value), K.In s.heap → (us ++ ds).length = ps.length → BindsTo s fd ⟨us, []⟩ (ps.zip (us ++ ds))
theorem Binds.all {K : PySem.W.Frag} {fd : FuncData} {ps : List Str} (h : ∀ us : List Value, us.length = ps.length → bindArgs fd ⟨us, []⟩ = pure (ps.zip us)) : Binds K fd ps [] := fun s us _ hl => by
 rw [List.append_nil] at hl ⊢
 exact .of_eq (h us hl)
def zZC (CX : CXT) (X : Cx) (E : XK) : Prop := ∀ (pins : List (Addr × Obj)) (σ : St) (H : Hp) (s : Shared) (e : Value) (s' : Shared), Inv X pins σ H s → CX X.stack H s E e s' → X.xe e s'
section
variable {X : Cx} {CX : CXT} {k : Nat} {f C : Addr} {fd : FuncData} {ps : List Str} {sp : Sp} {dvs : List V} {ds : List Value} {E : XK} {x m : Str} {p pos apos : Pos} {e o : Expr} {es : List Expr} {ta : TE} {t : TA}
theorem yNO {pins : List (Addr × Obj)} {σ : St} {H : Hp} {s : Shared} {Q : VK} {us : List Value} {vs : List V} (F : FnOk X.prog X.w X.K X.mg X.base CX k f fd ps sp) (hr : Room k X.A) (hb : Binds X.K fd ps ds) (hd : Vals dvs ds) (hx : zZC CX X E)
  (I : Inv X pins σ H s) (r : Vals vs us) (h : sp (vs ++ dvs) H Q E) : wpAny (model X.prog X.w) X.A (call (.ref f) us) (EP X pins σ Q) X.xe s := by
 have r2 : Vals (vs ++ dvs) (us ++ ds) := r.append hd
 have hl : (us ++ ds).length = ps.length := by rw [← r2.length]; exact F.len _ _ _ _ h
 refine wpAny_call (codeAny_mono (F.run X.A X.stack s H ⟨us, []⟩ (us ++ ds) (vs ++ dvs) Q E hr I.env0 (hb s us I.kIn hl) r2 h) fun r s' hq => ?_)
 cases r with
 | error e => exact hx pins σ H s e s' I hq
 | ok fl =>
  cases fl with
  | ret u => exact I.after hq
  | next => exact False.elim hq
  | brk => exact False.elim hq
  | cont => exact False.elim hq
theorem yJL (F : FnOk X.prog X.w X.K X.mg X.base CX k f fd ps sp) (hr : Room k X.A) (hg : Gl X x) (hm : X.mg x = some (.ref f)) (hk : PySem.W.keepIn X.K (.ref f) = true) (hb : Binds X.K fd ps ds) (hd : Vals dvs ds) (hx : zZC CX X E)
  (ha : PA X (e :: es) t) (hdb : (x == ("__debug__" : Str)) = false := by decide) (he : starEach (e :: es) X.env = (false, eval e X.env) :: starEach es X.env := by rfl) (hpl : (backTo pos (starEach es X.env)).any (·.1) = false := by rfl) :
  PE X (.Call (.Name x p) (e :: es) [] pos) (tCall sp dvs E t) := by
 intro pins s σ H Q I h
 refine wpAny_Call_Name_kw (yBK I hg hm ?_ hdb)
 refine PySem.W.callWith_K (h₀ := X.base) I.ok.mod.kin hk (thn (ha pos pins s σ H _ I h) fun us s1 ⟨vs, H1, I1, r, q⟩ => ⟨I1.kIn, ?_⟩) he hpl
 exact yNO F hr hb hd hx I1 r q
end
structure FnScope (N P : List Str) (sc : Scope) : Prop where
 kind : sc.kind = .function
 co : sc.isCoroutine = false
 gen : sc.isGenerator = false
 nd : N.Nodup
 pre : N.take P.length = P
 par : ∀ x ∈ P, sc.names.lookup x = some .local ∨ sc.names.lookup x = some .cell
 nofree : ∀ y ∈ sc.names, y.2 ≠ .free
theorem zSC {kindOf : Str → Option NameKind} {x : Str} : ∀ {binds : List (Str × Value)} {m : Str → Option Value}, (∀ v, (x, v) ∉ binds) → bindL kindOf binds m x = m x
 | [], _, _ => rfl
 | (n, v) :: r, m, h => by
  unfold bindL
  rw [zSC fun w hw => h w (List.mem_cons_of_mem _ hw)]
  split
  ·have : x ≠ n := by rintro rfl; exact h v List.mem_cons_self
   simp [this]
  ·rfl
theorem zSD {kindOf : Str → Option NameKind} {x : Str} : ∀ {binds : List (Str × Value)} {m : Str → Option Value}, (∀ v, (x, v) ∉ binds) → bindC kindOf binds m x = m x
 | [], _, _ => rfl
 | (n, v) :: r, m, h => by
  unfold bindC
  rw [zSD fun w hw => h w (List.mem_cons_of_mem _ hw)]
  split
  ·rfl
  ·have : x ≠ n := by rintro rfl; exact h v List.mem_cons_self
   simp [this]
theorem zSE {kindOf : Str → Option NameKind} {x : Str} {v : Value} : ∀ {P : List Str} {vs : List Value} {i : Nat} {m : Str → Option Value}, P.Nodup → P[i]? = some x → vs[i]? = some v → kindOf x = some .local →
  bindL kindOf (P.zip vs) m x = some v
 | [], _, _, _, _, h, _, _ => by simp at h
 | _ :: _, [], _, _, _, _, h, _ => by simp at h
 | p :: P, w :: vs, 0, m, nd, h1, h2, hk => by
  simp at h1 h2; subst h1; subst h2
  show bindL kindOf ((p, w) :: P.zip vs) m p = _
  unfold bindL
  rw [zSC fun v hv => (List.nodup_cons.mp nd).1 (List.of_mem_zip hv).1, if_pos hk]
  simp
 | p :: P, w :: vs, i + 1, m, nd, h1, h2, hk => by
  show bindL kindOf ((p, w) :: P.zip vs) m x = _
  unfold bindL
  exact zSE (i := i) (List.nodup_cons.mp nd).2 (by simpa using h1) (by simpa using h2) hk
theorem zSF {kindOf : Str → Option NameKind} {x : Str} {v : Value} : ∀ {P : List Str} {vs : List Value} {i : Nat} {m : Str → Option Value}, P.Nodup → P[i]? = some x → vs[i]? = some v → kindOf x ≠ some .local →
  bindC kindOf (P.zip vs) m x = some v
 | [], _, _, _, _, h, _, _ => by simp at h
 | _ :: _, [], _, _, _, _, h, _ => by simp at h
 | p :: P, w :: vs, 0, m, nd, h1, h2, hk => by
  simp at h1 h2; subst h1; subst h2
  show bindC kindOf ((p, w) :: P.zip vs) m p = _
  unfold bindC
  rw [zSD fun v hv => (List.nodup_cons.mp nd).1 (List.of_mem_zip hv).1, if_neg hk]
  simp
 | p :: P, w :: vs, i + 1, m, nd, h1, h2, hk => by
  show bindC kindOf ((p, w) :: P.zip vs) m x = _
  unfold bindC
  exact zSF (i := i) (List.nodup_cons.mp nd).2 (by simpa using h1) (by simpa using h2) hk
def start (N : List Str) (vs : List V) : St := vs.map some ++ List.replicate (N.length - vs.length) none
def zZD (CX : CXT) (P : Program) (w : World) (K : PySem.W.Frag) (mg : Str → Option Value) (base : Heap) (N : List Str) (qual : Str) (scope : Scope) (f : Addr) (cd : Value) (A : Around) (outer : List Env) (s : Shared) (H : Hp) (E : XK) : Cx where
 prog := P
 w := w
 K := K
 mg := mg
 base := base
 A := A.deeper (envOfC qual scope s.heap.objs.size f cd)
 N := N
 s₀ := s
 H₀ := H
 env := envOfC qual scope s.heap.objs.size f cd
 outer := outer
 stack := envOfC qual scope s.heap.objs.size f cd :: outer
 ex := []
 calm := true
 fn := fun _ => true
 pn := []
 xe := fun e s' => wpAny (model P w) (A.deeper (envOfC qual scope s.heap.objs.size f cd)) (leaving (envOfC qual scope s.heap.objs.size f cd) e) (fun _ s'' => CX outer H s E e s'') (fun e' s'' => CX outer H s E e' s'') s'
theorem zVU {sc : Scope} {n : Nat} {x : Str} (h : sc.names.lookup x = some .cell) : ∃ c, (cellsFrom n sc.names []).lookup x = some c := by
 have q := PySem.W.cellsFrom_some sc.names n [] (.inl h)
 exact Option.isSome_iff_exists.mp q
theorem yDO {CX : CXT} {P : Program} {w : World} {K : PySem.W.Frag} {mg : Str → Option Value} {base : Heap} {N ps : List Str} {qual : Str} {scope : Scope} {f : Addr} {cd : Value} {A : Around} {outer : List Env} {s s1 : Shared} {H : Hp} {E : XK} {us : List Value} {vs : List V}
  (S : FnScope N ps scope) (hd : A.handled = none) (e0 : Env0 P w K mg base A outer s H) (hl : vs.length = ps.length) (r : Vals vs us)
  (x : InCallC s s.heap.objs.size (bindL (envOfC qual scope s.heap.objs.size f cd).kindOf (ps.zip us) fun _ => none) (cellsFrom (s.heap.objs.size + 1) scope.names []) (bindC (envOfC qual scope s.heap.objs.size f cd).kindOf (ps.zip us) fun _ => none) s1) :
  Inv (zZD CX P w K mg base N qual scope f cd A outer s H E) [] (start N vs) H s1 := by
 have hpl : ps.length ≤ N.length := by have := congrArg List.length S.pre; rw [List.length_take] at this; omega
 obtain ⟨h1, tk, rfl, hk⟩ := x.done
 have noA : ∀ b : Addr, b ∉ (zZD CX P w K mg base N qual scope f cd A outer s H E).ex := fun b z => absurd (show b ∈ ([] : List Addr) from z) (by simp)
 refine ⟨⟨e0.mod, S.kind, rfl, rfl, Nat.le_refl _, fun y z c h1 h2 => ?_, fun y hy => ?_, fun y c _ h => ?_, fun _ => hd, Around.frames_deeper e0.frames, .inr ⟨rfl, rfl⟩, fun b z => absurd z (noA b), e0.bs, e0.bsz, fun b _ _ => noA b, fun b z => absurd z (noA b), e0.funs, e0.frf⟩,
  rfl, e0.bare, Un.kept hk, ⟨_, x.toInCall.ns, fun i y v h1 h2 h3 => ?_⟩, fun y c h => ⟨_, x.cell y c h⟩, e0.hok.fresh (Nat.le_refl _), fun y c h => ?_, fun p hp => absurd (show p ∈ ([] : List (Addr × Obj)) from hp) (by simp), e0.hok.kept hk, ?_⟩
 ·exact name_of_addr x.apart (PySem.mem_of_lookup h1) (PySem.mem_of_lookup h2)
 ·have hy : scope.names.lookup y = some .cell ∨ scope.names.lookup y = some .free := hy
  rcases hy with hy | hy
  ·exact zVU hy
  ·exact absurd rfl (S.nofree _ (PySem.mem_of_lookup hy))
 ·exact Nat.le_of_lt (x.above y c (PySem.mem_of_lookup h))
 ·have hi : i < vs.length := by
   unfold start at h2
   by_cases hi : i < vs.length
   ·exact hi
   ·rw [List.getElem?_append_right (by simpa using hi)] at h2
    rw [List.getElem?_replicate] at h2
    split at h2 <;> cases h2
  have ha : vs[i]? = some v := by
   unfold start at h2
   rw [zQ2 (by simpa using hi), List.getElem?_map] at h2
   cases e : vs[i]? with
   | none => rw [e] at h2; cases h2
   | some a => rw [e] at h2; cases h2; rfl
  obtain ⟨u, hu, rv⟩ := r.get ha
  have hp : ps[i]? = some y := by
   rw [← S.pre, List.getElem?_take_of_lt (by omega)]; exact h1
  have ndP : ps.Nodup := by rw [← S.pre]; exact S.nd.sublist (List.take_sublist _ _)
  refine ⟨u, rv, ?_⟩
  rcases S.par y (List.mem_of_getElem? hp) with k | k
  ·exact .inl ⟨k, zSE ndP hp hu k⟩
  ·obtain ⟨c, e⟩ := zVU (n := s.heap.objs.size + 1) k
   refine .inr ⟨.inl k, c, e, ?_⟩
   have q := x.cell y c e
   rw [zSF ndP hp hu (by show scope.names.lookup y ≠ _; rw [k]; decide)] at q
   exact q
 ·exact e0.hok.fresh (Nat.le_of_lt (x.above y c (PySem.mem_of_lookup h)))
 ·unfold start
  show _ = N.length
  rw [zQ4, List.length_map, List.length_replicate]
  omega
theorem fn_of {CX : CXT} {P : Program} {w : World} {K : PySem.W.Frag} {mg : Str → Option Value} {base : Heap} {k : Nat} {f : Addr} {name qual : Str} {params : Arguments} {body : List Stmt} {scope : Scope} {dV kV doc pm cdv ct oc : Value} {an od : Option Addr}
  {osl : Array (Option Value)} {N ps : List Str} {sp : Sp} (lk : K.lookup f = some ⟨oc, od, .func (PySem.W.fnOf name qual params body scope dV kV doc pm an cdv ct), osl⟩) (hcd : PySem.W.codeIn K cdv qual = true) (S : FnScope N ps scope)
  (len : ∀ vs H Q E, sp vs H Q E → vs.length = ps.length)
  (hbody : ∀ (A : Around) (outer : List Env) (s : Shared) (H : Hp) (vs : List V) (Q : VK) (E : XK), Room k (A.deeper (envOfC qual scope s.heap.objs.size f cdv)) → sp vs H Q E →
   ∃ t, PSs (zZD CX P w K mg base N qual scope f cdv A outer s H E) body t ∧ t { nx := fun _ H' => Q .non H', rt := Q } (start N vs) H) :
  FnOk P w K mg base CX (k + 1) f (PySem.W.fnOf name qual params body scope dV kV doc pm an cdv ct) ps sp := by
 refine ⟨len, fun A outer s H args us vs Q E hr e0 hb r hsp => ?_⟩
 have hl := len _ _ _ _ hsp
 have KX : K.In s.heap := e0.mod.kin.keeps fun b o e => (e0.bs b o e).1
 have lim : s.heap.NoLimit := e0.mod.nolimit.keeps fun b o e => (e0.bs b o e).1
 have hkind : ∀ y ∈ ps.zip us, scope.names.lookup y.1 = some .local ∨ (scope.names.lookup y.1 = some .cell ∧ ((cellsFrom (s.heap.objs.size + 1) scope.names []).lookup y.1).isSome = true) := fun ⟨n, v⟩ hy => by
  rcases S.par n (List.of_mem_zip hy).1 with q | q
  ·exact .inl q
  ·exact .inr ⟨q, PySem.W.cellsFrom_some _ _ _ (.inl q)⟩
 refine codeAny_call_function hr.depth (KX _ _ lk) rfl S.co S.gen rfl (PySem.W.codeRec_of KX hcd) (hb _ _ _ _ ?_)
 refine wpAny_newFunctionEnv_cells S.kind hkind fun env he s1 x => ?_
 subst he
 refine ⟨lim.keeps x.toInCall.keep, codeAny_func ?_⟩
 obtain ⟨t, ht, hq⟩ := hbody A outer s H vs Q E (hr.deeper _) hsp
 have I : Inv (zZD CX P w K mg base N qual scope f cdv A outer s H E) [] (start N vs) H s1 := yDO S hr.hd e0 hl r x
 refine wpAny_mono (ht [] s1 (start N vs) H _ I hq) (fun fl s' hs => ?_) fun e s' hs => hs
 have fin : ∀ {σ' : St} {H' : Hp} {v : V} {u : Value}, Inv (zZD CX P w K mg base N qual scope f cdv A outer s H E) [] σ' H' s' → RelV v u → Q v H' → CE outer P w H s Q u s' :=
  fun {σ' H' v u} J rv q => ⟨v, H', J.os, J.bare, J.base, J.hok, rv, q⟩
 cases fl with
 | ret u =>
  obtain ⟨v, σ', H', J, rv, q⟩ := hs
  exact fin J rv q
 | next =>
  obtain ⟨σ', H', J, q⟩ := hs
  exact fin (v := V.non) (u := Value.none) J rfl q
 | brk =>
  obtain ⟨_, _, _, q⟩ := hs
  exact False.elim q
 | cont =>
  obtain ⟨_, _, _, q⟩ := hs
  exact False.elim q
end L2
namespace L2
open PySem PySem.Spec PyProof.Rows
section
variable {X : Cx} {x : Str} {p pos : Pos} {e : Expr} {es : List Expr} {t : TA} {id T : String} {r : List V → Hp → VK → Prop}
def tCB (r : List V → Hp → VK → Prop) (t : TA) : TE := fun σ H Q => t σ H fun vs H1 => r vs H1 Q
theorem yFX (hc : CallR X (.builtin id) r) (hg : Gl X x) (hm : X.mg x = none) (hv : bootBuiltins x = some (.builtin id)) (ha : PA X (e :: es) t) (hn : x ≠ "__name__" := by decide) (hdb : (x == ("__debug__" : Str)) = false := by decide)
  (he : starEach (e :: es) X.env = (false, eval e X.env) :: starEach es X.env := by rfl) (hpl : (backTo pos (starEach es X.env)).any (·.1) = false := by rfl) : PE X (.Call (.Name x p) (e :: es) [] pos) (tCB r t) := by
 intro pins s σ H Q I h
 refine wpAny_Call_Name_kw (zMG I hg hm hv ?_ hn hdb)
 exact PyProof.Rows.callWith_builtin1 (thn (ha pos pins s σ H _ I h) fun us s1 ⟨vs, H1, I1, r1, q1⟩ => hc pins s1 σ H1 vs us Q I1 r1 q1) he hpl
theorem zSG (hc : CallR X (.type T) r) (hg : Gl X x) (hm : X.mg x = none) (hv : bootBuiltins x = some (.type T)) (ha : PA X (e :: es) t) (hn : x ≠ "__name__" := by decide) (hdb : (x == ("__debug__" : Str)) = false := by decide)
  (he : starEach (e :: es) X.env = (false, eval e X.env) :: starEach es X.env := by rfl) (hpl : (backTo pos (starEach es X.env)).any (·.1) = false := by rfl) : PE X (.Call (.Name x p) (e :: es) [] pos) (tCB r t) := by
 intro pins s σ H Q I h
 refine wpAny_Call_Name_kw (zMG I hg hm hv ?_ hn hdb)
 exact PyProof.Rows.callWith_type1 (thn (ha pos pins s σ H _ I h) fun us s1 ⟨vs, H1, I1, r1, q1⟩ => hc pins s1 σ H1 vs us Q I1 r1 q1) he hpl
end
end L2
namespace HT
open PySem PyProof.Rows
section
variable {prog : Program} {w : World} {A : Around} {E : Value → Shared → Prop} {s : Shared}
theorem cat_tup {t b : Addr} {vs ws : List Value} {Q : Value → Shared → Prop} (ht : IsTup s.heap t vs.toArray) (hb : IsTup s.heap b ws.toArray) (hv : vs ≠ [])
  (h1 : ws = [] → Q (.ref t) s) (h2 : ws ≠ [] → Q (.ref s.heap.objs.size) { s with heap := s.heap.push { cls := .type "tuple", data := .seq (vs ++ ws).toArray } })
  (hsz : vs.length + ws.length ≤ sizeLine) : wpAny (model prog w) A (binaryOp .Add (.ref t) (.ref b)) Q E s := by
 obtain ⟨⟨cls, dd, data, sl⟩, ho, hc, n, hd⟩ := id ht
 obtain ⟨⟨cls2, dd2, data2, sl2⟩, ho2, hc2, n2, hd2⟩ := id hb
 simp only at hc hd hc2 hd2
 subst hc hd hc2 hd2
 have e : vs.toArray ++ ws.toArray = (vs ++ ws).toArray := by simp
 by_cases hw : ws = []
 ·exact concat_meets ⟨_, ho, rfl⟩ ⟨_, ho2, rfl⟩ noFill_tuple_add seq_tuple_add PySem.F.slot_tuple_add PySem.F.entry_tuple_add (PySem.F.args_tuple_add_2 _ _)
   (tuple_addW1 t b vs.toArray ws.toArray n n2 dd dd2 sl sl2 (by simpa using hv) (by simp [hw])) ⟨ho, ho2, h1 hw⟩
 ·refine concat_meets ⟨_, ho, rfl⟩ ⟨_, ho2, rfl⟩ noFill_tuple_add seq_tuple_add PySem.F.slot_tuple_add PySem.F.entry_tuple_add (PySem.F.args_tuple_add_2 _ _)
   (tuple_addW2 t b vs.toArray ws.toArray n n2 dd dd2 sl sl2 (by simpa using hv) (by simpa using hw) (by rw [List.size_toArray, List.size_toArray]; exact hsz)) ⟨ho, ho2, ?_⟩
  rw [e]
  exact h2 hw
def sIx (n d : Nat) : Option Int → Nat
 | none => d
 | some v => if v < 0 then (v + (n : Int)).toNat else min v.toNat n
theorem sIx_le (n d : Nat) (hd : d ≤ n) (o : Option Int) : sIx n d o ≤ n := by
 cases o with
 | none => exact hd
 | some v =>
  show (if v < 0 then (v + (n : Int)).toNat else min v.toNat n) ≤ n
  by_cases hv : v < 0
  ·rw [if_pos hv]; omega
  ·rw [if_neg hv]; exact Nat.min_le_right _ _
theorem yBQ (v : Int) (n d : Nat) : (if v < 0 then max (v + (n : Int)) 0 else min v (n : Int)) = ((sIx n d (some v) : Nat) : Int) := by
 show (if v < 0 then max (v + (n : Int)) 0 else min v (n : Int)) = (((if v < 0 then (v + (n : Int)).toNat else min v.toNat n) : Nat) : Int)
 by_cases hv : v < 0
 ·simp only [if_pos hv]; omega
 ·simp only [if_neg hv]; omega
theorem zZE (lo hi : Option Int) (n : Nat) : Builtin.Slice.sliceAdjust lo hi 1 (n : Int) = (((sIx n 0 lo : Nat) : Int), ((sIx n n hi : Nat) : Int)) := by
 have h1 : ¬ ((1 : Int) < 0) := by omega
 unfold Builtin.Slice.sliceAdjust
 simp only [h1, if_false]
 refine Prod.ext ?_ ?_
 ·cases lo with
  | none => rfl
  | some v => exact yBQ v n 0
 ·cases hi with
  | none => rfl
  | some v => exact yBQ v n n
theorem zZF (i j : Nat) : Builtin.Slice.slicePlaces (i : Int) (j : Int) 1 = j - i := by
 unfold Builtin.Slice.slicePlaces
 have h1 : (1 : Int) > 0 := by omega
 simp only [h1, if_true, Int.ediv_one]
 split <;> omega
theorem zOJ {v : Value} {o : Option Int} {Q : Option Int → Shared → Prop} (p : IsPart v o) (h : Q o s) : wpAny (model prog w) A (Builtin.Slice.slicePartIndex v) Q E s := by
 cases p with
 | none => exact slicePart_none h
 | int i t => exact slicePart_int h
theorem sliceApplied_gen {sl : Addr} {vl vu : Value} {lo hi : Option Int} {n : Nat} {Q : Int × Int × Nat → Shared → Prop} (hs : s.heap.IsSliceOf sl vl vu .none) (pl : IsPart vl lo) (pu : IsPart vu hi)
  (h : Q (((sIx n 0 lo : Nat) : Int), 1, sIx n n hi - sIx n 0 lo) s) : wpAny (model prog w) A (Builtin.Slice.sliceApplied (.ref sl) (pure (n : Int))) Q E s := by
 obtain ⟨os, hos, hcs, hds⟩ := id hs
 unfold Builtin.Slice.sliceApplied Builtin.Slice.sliceFields
 refine wpAny_bind (wpAny_bind (wpAny_field hos hds (x := vl) rfl (wpAny_bind (wpAny_field hos hds (x := vu) rfl (wpAny_bind (wpAny_field hos hds (x := .none) rfl (wpAny_pure ?_)))))))
 refine wpAny_bind (slicePart_none ?_)
 show wpAny _ _ (if ((1 : Int) == 0) = true then _ else _) _ _ s
 rw [if_neg (by decide)]
 refine wpAny_bind (zOJ pl (wpAny_bind (zOJ pu (wpAny_bind (wpAny_pure ?_)))))
 show wpAny _ _ (match Builtin.Slice.sliceAdjust lo hi 1 (n : Int) with | (lo, hi) => pure (lo, (1 : Int), Builtin.Slice.slicePlaces lo hi 1)) _ _ s
 rw [zZE lo hi n]
 show wpAny _ _ (pure (((sIx n 0 lo : Nat) : Int), (1 : Int), Builtin.Slice.slicePlaces ((sIx n 0 lo : Nat) : Int) ((sIx n n hi : Nat) : Int) 1)) _ _ s
 rw [zZF]
 exact wpAny_pure h
theorem yFY (xs : Array Value) (i k : Nat) : ((List.range k).filterMap fun (m : Nat) => xs[((i : Int) + (m : Int) * 1).toNat]?).toArray = ((xs.toList.drop i).take k).toArray := by
 have e : (fun (m : Nat) => xs[((i : Int) + (m : Int) * 1).toNat]?) = fun m => xs[i + m]? := by
  funext m
  have : ((i : Int) + (m : Int) * 1).toNat = i + m := by omega
  rw [this]
 rw [e]
 have := pick_run xs i k
 rw [List.filterMap_map] at this
 have e2 : ((fun x => xs[x]?) ∘ fun x => i + x) = fun m => xs[i + m]? := rfl
 rw [e2] at this
 rw [this]
theorem getItem_tuple_cut {t sl : Addr} {items : Array Value} {vl vu : Value} {lo hi : Option Int} {Q : Value → Shared → Prop} (ht : IsTup s.heap t items) (hs : s.heap.IsSliceOf sl vl vu .none) (pl : IsPart vl lo) (pu : IsPart vu hi)
  (hw : ¬ (sIx items.size 0 lo = 0 ∧ sIx items.size items.size hi = items.size))
  (h : Q (.ref s.heap.objs.size) { s with heap := s.heap.push { cls := .type "tuple", data := .seq ((items.toList.drop (sIx items.size 0 lo)).take (sIx items.size items.size hi - sIx items.size 0 lo)).toArray } })
  (hsz : items.size ≤ sizeLine) : wpAny (model prog w) A (getItem (.ref t) (.ref sl)) Q E s := by
 have htake : sizeOk (.seq ((items.toList.drop (sIx items.size 0 lo)).take (sIx items.size items.size hi - sIx items.size 0 lo)).toArray) := by
  show ((items.toList.drop (sIx items.size 0 lo)).take (sIx items.size items.size hi - sIx items.size 0 lo)).toArray.size ≤ sizeLine
  rw [List.size_toArray, List.length_take, List.length_drop, Array.length_toList]
  omega
 have hj : sIx items.size items.size hi ≤ items.size := sIx_le _ _ (Nat.le_refl _) hi
 obtain ⟨os, hos, hcs, hds⟩ := id hs
 have hTs : s.TypeIs (.ref sl) "slice" := ⟨os, hos, hcs⟩
 unfold getItem
 try with_reducible refine wpAny_holding ?_
 first | refine wpAny_bind (wpAny_pure ?_) | skip
 refine wpAny_bind (wpAny_sequenceKey ht.typeIs (by decide) ?_)
 refine wpAny_bind (wpAny_callSpecial?_slot (name := Str.ofString "__getitem__") ht.typeIs PyProof.Rows.slot_tuple_getitem
  (wpAny_call_entry PyProof.Rows.slot_tuple_getitem ht.typeIs entry_tuple_getitem ?_ (args_tuple_getitem _ _)))
 show wpAny _ _ (Builtin.Tuple.tupleItemsOf (.ref t) >>= _) _ _ s
 refine wpAny_bind (tupleItemsOf_ ht ?_)
 refine wpAny_bind (wpAny_typeOf hTs ?_)
 rw [if_pos (by decide)]
 refine wpAny_bind (sliceApplied_gen hs pl pu ?_)
 have hno : ¬ ((((sIx items.size 0 lo : Nat) : Int) == 0 && (1 : Int) == 1 && (sIx items.size items.size hi - sIx items.size 0 lo) == items.size) = true) := by
  intro q
  rw [Bool.and_eq_true, Bool.and_eq_true] at q
  have q1 : ((sIx items.size 0 lo : Nat) : Int) = 0 := eq_of_beq q.1.1
  have q2 : sIx items.size items.size hi - sIx items.size 0 lo = items.size := eq_of_beq q.2
  exact hw ⟨by omega, by omega⟩
 show wpAny _ _ (if (((sIx items.size 0 lo : Nat) : Int) == 0 && (1 : Int) == 1 && (sIx items.size items.size hi - sIx items.size 0 lo) == items.size) = true then _ else _) _ _ s
 rw [if_neg hno, yFY]
 first
  | exact wpAny_bind (m := Builtin.Tuple.tupleExact _) (wpAny_newObj_type (wpAny_pure ⟨_, rfl, wpAny_pure h⟩) htake)
  | exact wpAny_bind (m := Builtin.Tuple.tupleExact _) (wpAny_newObj_type (wpAny_bind (wpAny_pure (wpAny_pure ⟨_, rfl, wpAny_pure h⟩))) htake)
  | exact wpAny_bind (wpAny_bind (m := Builtin.Tuple.tupleExact _) (wpAny_newObj_type (wpAny_pure (wpAny_pure ⟨_, rfl, wpAny_pure h⟩)) htake))
  | exact wpAny_bind (wpAny_bind (m := Builtin.Tuple.tupleExact _) (wpAny_newObj_type (wpAny_pure ⟨_, rfl, wpAny_pure h⟩) htake))
end
end HT
namespace L2
open PySem PySem.Spec PyProof.Rows
abbrev TO := St → Hp → (Option Int → Hp → Prop) → Prop
def PO (X : Cx) (e : Option Expr) (t : TO) : Prop :=
 ∀ (pins : List (Addr × Obj)) (s : Shared) (σ : St) (H : Hp) (Q : Option Int → Hp → Prop), Inv X pins σ H s → t σ H Q →
  wpAny (model X.prog X.w) X.A (evalPart e X.env) (fun u s' => ∃ o H', Inv X pins σ H' s' ∧ IsPart u o ∧ Q o H') X.xe s
def yJM : TO := fun _ H Q => Q none H
def tPart (t : TE) : TO := fun σ H Q => t σ H fun x H1 => ∃ i, x = .int i ∧ Q (some i) H1
section
variable {X : Cx} {e : Expr} {te : TE} {lo hi : Option Expr} {tl th : TO} {pos p2 : Pos}
theorem yJN : PO X none yJM := by
 intro pins s σ H Q I h
 rw [evalPart_none]
 exact wpAny_pure ⟨none, H, I, .none, h⟩
theorem yJO (h : PE X e te) : PO X (some e) (tPart te) := by
 intro pins s σ H Q I hw
 rw [evalPart_some]
 refine thn (h pins s σ H _ I hw) fun u s1 ⟨x, H1, I1, r1, q1⟩ => ?_
 obtain ⟨i, rfl, q⟩ := q1
 obtain ⟨t, rfl⟩ := r1
 exact ⟨some i, H1, I1, .int i t, q⟩
def SlR (X : Cx) (r : V → Option Int → Option Int → Hp → VK → Prop) : Prop :=
 ∀ (pins : List (Addr × Obj)) (s : Shared) (σ : St) (H : Hp) (x : V) (v vl vu : Value) (lo hi : Option Int) (sl : Addr) (Q : VK), Inv X pins σ H s → RelV x v → s.heap.IsSliceOf sl vl vu .none → IsPart vl lo → IsPart vu hi → r x lo hi H Q →
  ∃ T id, typeLookup (.type T) "__getitem__" = pure (some (.builtin id)) ∧ s.TypeIs v T ∧ wpAny (model X.prog X.w) X.A (getItem v (.ref sl)) (EP X pins σ Q) X.xe s
theorem SlR.or {r r' : V → Option Int → Option Int → Hp → VK → Prop} (h : SlR X r) (h' : SlR X r') : SlR X (fun x lo hi H Q => r x lo hi H Q ∨ r' x lo hi H Q) := by
 intro pins s σ H x v vl vu lo hi sl Q I rx hs pl pu q
 rcases q with q | q
 ·exact h pins s σ H x v vl vu lo hi sl Q I rx hs pl pu q
 ·exact h' pins s σ H x v vl vu lo hi sl Q I rx hs pl pu q
def tSl (r : V → Option Int → Option Int → Hp → VK → Prop) (te : TE) (tl th : TO) : TE := fun σ H Q => te σ H fun x H1 => tl σ H1 fun l H2 => th σ H2 fun u H3 => r x l u H3 Q
theorem yFZ {r : V → Option Int → Option Int → Hp → VK → Prop} (hr : SlR X r) (he : PE X e te) (hl : PO X lo tl) (hu : PO X hi th) : PE X (.Subscript e (.Slice lo hi none p2) pos) (tSl r te tl th) := by
 intro pins s σ H Q I h
 refine Subscript_ (thn (he pins s σ H _ I h) fun v s1 ⟨x, H1, I1, r1, q1⟩ => ?_)
 refine wpAny_Slice (thn (hl pins s1 σ H1 _ I1 q1) fun vl s2 ⟨l, H2, I2, pl, q2⟩ => thn (hu pins s2 σ H2 _ I2 q2) fun vu s3 ⟨u, H3, I3, pu, q3⟩ => ?_)
 rw [evalPart_none]
 refine wpAny_pure ?_
 have I4 : Inv X pins σ H3 { s3 with heap := s3.heap.push { cls := .type "slice", data := .fields #[vl, vu, .none] } } := I3.kept (t' := s3.toks) fun b ob q => Heap.get?_push_of_some _ q
 obtain ⟨T, id, hT, ht, hg⟩ := hr pins { s3 with heap := s3.heap.push { cls := .type "slice", data := .fields #[vl, vu, .none] } } σ H3 x v vl vu l u s3.heap.objs.size Q I4 r1 (Heap.IsSliceOf.new ..) pl pu q3
 show wpAny (model X.prog X.w) X.A (subscriptTail e (.Slice lo hi none p2) v (.ref s3.heap.objs.size)) (EP X pins σ Q) X.xe { s3 with heap := s3.heap.push { cls := .type "slice", data := .fields #[vl, vu, .none] } }
 exact tail_any (ops := [.ref s3.heap.objs.size, v]) ht hT hg (by with_unfolding_all rfl)
def zVV (xs : List V) (lo hi : Option Int) : List V := (xs.drop (HT.sIx xs.length 0 lo)).take (HT.sIx xs.length xs.length hi - HT.sIx xs.length 0 lo)
theorem zNC (xs : List V) (lo hi : Option Int) : (zVV xs lo hi).length ≤ xs.length := by
 unfold zVV
 rw [List.length_take, List.length_drop]
 omega
def rSlT (K : PySem.W.Frag) : V → Option Int → Option Int → Hp → VK → Prop := fun x lo hi H Q => ∃ a xs, x = .ref a ∧ SqT K H a xs ∧
 ¬ (HT.sIx xs.length 0 lo = 0 ∧ HT.sIx xs.length xs.length hi = xs.length) ∧ ∀ p, H p = none → Q (.ref p) (upd H p (.tup (zVV xs lo hi)))
theorem yNP : SlR X (rSlT X.K) := by
 intro pins s σ H x v vl vu lo hi sl Q I rx hs pl pu h
 obtain ⟨a, xs, rfl, hx, hw, q⟩ := h
 cases rx
 obtain ⟨its, r, ht, hz⟩ := I.tuple hx
 have hlen : its.toArray.size = xs.length := by rw [List.size_toArray]; exact r.length.symm
 refine ⟨"tuple", _, PyProof.Rows.slot_tuple_getitem.lookup, ht.typeIs, ?_⟩
 refine HT.getItem_tuple_cut ht hs pl pu (by rw [hlen]; exact hw) ?_ (by rw [hlen]; exact hz)
 rw [hlen]
 refine ⟨.ref s.heap.objs.size, _, I.laid (t' := s.toks) (o := .tup (zVV xs lo hi)) (fun b ob q => Heap.get?_push_of_some _ q) (Nat.le_refl _) ?_, rfl, q _ (I.hok.fresh (Nat.le_refl _))⟩
 exact ⟨Nat.le_trans (zNC xs lo hi) hz, _, (r.drop (HT.sIx xs.length 0 lo)).take (HT.sIx xs.length xs.length hi - HT.sIx xs.length 0 lo), IsTup.new _ _⟩
def rCatT (K : PySem.W.Frag) : R2 := fun x y H Q => ∃ a b xs ys, x = .ref a ∧ y = .ref b ∧ SqT K H a xs ∧ SqT K H b ys ∧ xs ≠ [] ∧ xs.length + ys.length ≤ sizeLine ∧
 (ys = [] → Q (.ref a) H) ∧ (ys ≠ [] → ∀ p, H p = none → Q (.ref p) (upd H p (.tup (xs ++ ys))))
theorem Vals.nil_iff {xs : List V} {us : List Value} (r : Vals xs us) : us = [] ↔ xs = [] := by
 cases r with
 | nil => simp
 | cons _ _ => simp
theorem yJP : OpR X (binaryOp .Add) (rCatT X.K) := by
 intro pins s σ H x y v u Q I rx ry h
 obtain ⟨a, b, xs, ys, rfl, rfl, ha, hb, hx, hz, q1, q2⟩ := h
 cases rx
 cases ry
 obtain ⟨its, r1, p1, _⟩ := I.tuple ha
 obtain ⟨its2, r2, p2, _⟩ := I.tuple hb
 refine HT.cat_tup p1 p2 (fun z => hx (r1.nil_iff.mp z)) (fun z => ⟨.ref a, H, I, rfl, q1 (r2.nil_iff.mp z)⟩) (fun z => ?_) (by rw [← r1.length, ← r2.length]; exact hz)
 refine ⟨.ref s.heap.objs.size, _, I.laid (t' := s.toks) (o := .tup (xs ++ ys)) (fun b ob q => Heap.get?_push_of_some _ q) (Nat.le_refl _) ?_, rfl, q2 (fun w => z (r2.nil_iff.mpr w)) _ (I.hok.fresh (Nat.le_refl _))⟩
 exact ⟨by rw [zQ4]; exact hz, _, r1.append r2, IsTup.new _ _⟩
end
end L2
namespace L2
open PySem PySem.Spec PyProof.Rows
def ixN (n : Nat) (i : Int) : Option Nat := if 0 ≤ i then (if i < n then some i.toNat else none) else if -(n : Int) ≤ i then some (i + n).toNat else none
def atI {α : Type} (xs : List α) (i : Int) : Option α := (ixN xs.length i).bind fun j => xs[j]?
theorem yJQ {n : Nat} {i : Int} {j : Nat} (h : ixN n i = some j) : seqIndex? i n = some j ∧ j < n ∧ -(n : Int) ≤ i ∧ i < n := by
 unfold ixN at h
 by_cases h0 : 0 ≤ i
 ·rw [if_pos h0] at h
  by_cases h1 : i < n
  ·rw [if_pos h1] at h
   have e : i.toNat = j := Option.some.inj h
   exact ⟨by rw [seqIndex_of h0 h1, e], by omega, by omega, h1⟩
  ·rw [if_neg h1] at h; cases h
 ·rw [if_neg h0] at h
  by_cases h1 : -(n : Int) ≤ i
  ·rw [if_pos h1] at h
   have e : (i + n).toNat = j := Option.some.inj h
   exact ⟨by rw [seqIndex_neg (by omega) h1, e], by omega, h1, by omega⟩
  ·rw [if_neg h1] at h; cases h
theorem zTP {α : Type} {xs : List α} {i : Int} {v : α} (h : atI xs i = some v) : ∃ j, seqIndex? i xs.length = some j ∧ xs[j]? = some v ∧ j < xs.length ∧ -(xs.length : Int) ≤ i ∧ i < xs.length := by
 unfold atI at h
 cases e : ixN xs.length i with
 | none => rw [e] at h; cases h
 | some j =>
  rw [e] at h
  obtain ⟨h1, h2, h3, h4⟩ := yJQ e
  exact ⟨j, h1, h, h2, h3, h4⟩
def zTQ (b : Expr) : Prop := ∀ o i, subscripted b false o i = operate [o, i] (getItem o i)
def IxR (X : Cx) (r : R2) : Prop :=
 ∀ (value slice : Expr) (pins : List (Addr × Obj)) (s : Shared) (σ : St) (H : Hp) (x y : V) (v u : Value) (Q : VK), Inv X pins σ H s → RelV x v → RelV y u → r x y H Q →
  subscripted slice false v u = operate [v, u] (getItem v u) → wpAny (model X.prog X.w) X.A (subscriptTail value slice v u) (EP X pins σ Q) X.xe s
def MtR (X : Cx) (id : String) (r : V → List V → Hp → VK → Prop) : Prop :=
 ∀ (pins : List (Addr × Obj)) (s : Shared) (σ : St) (H : Hp) (x : V) (xs : List V) (v : Value) (us : List Value) (Q : VK), Inv X pins σ H s → RelV x v → Vals xs us → r x xs H Q →
  wpAny (model X.prog X.w) X.A (call (.builtin id) (v :: us)) (EP X pins σ Q) X.xe s
section
variable {X : Cx} {a b : Expr} {ta tb : TE} {pos : Pos}
theorem IxR.or {r r' : R2} (h : IxR X r) (h' : IxR X r') : IxR X (fun x y H Q => r x y H Q ∨ r' x y H Q) := by
 intro value slice pins s σ H x y v u Q I rx ry q hs
 rcases q with q | q
 ·exact h value slice pins s σ H x y v u Q I rx ry q hs
 ·exact h' value slice pins s σ H x y v u Q I rx ry q hs
theorem pe_ix {r : R2} (hr : IxR X r) (ha : PE X a ta) (hb : PE X b tb) (hs : zTQ b) : PE X (.Subscript a b pos) (tOp r ta tb) := by
 intro pins s σ H Q I h
 exact Subscript_ (binT ha hb I h fun v u s2 x y H2 I2 rx ry q => hr a b pins s2 σ H2 x y v u Q I2 rx ry q (hs _ _))
def rIxL (K : PySem.W.Frag) : R2 := fun x y H Q => ∃ p xs i v, x = .ref p ∧ y = .int i ∧ SqL K H p xs ∧ atI xs i = some v ∧ Q v H
def rIxT (K : PySem.W.Frag) : R2 := fun x y H Q => ∃ p xs i v, x = .ref p ∧ y = .int i ∧ SqT K H p xs ∧ atI xs i = some v ∧ Q v H
def rIxS : R2 := fun x y H Q => ∃ z i c, x = .str z ∧ y = .int i ∧ z.length ≤ sizeLine ∧ atI z.cps.toList i = some c ∧ Q (.str ⟨#[c]⟩) H
theorem yJR : IxR X (rIxL X.K) := by
 intro value slice pins s σ H x y v u Q I rx ry h hs
 obtain ⟨p, xs, i, z, rfl, rfl, hq, he, q⟩ := h
 cases rx
 obtain ⟨t, rfl⟩ := ry
 obtain ⟨its, r, pl, hz⟩ := I.list hq
 obtain ⟨j, h1, h2, h3, h4, h5⟩ := zTP he
 obtain ⟨w, ew, rw'⟩ := r.get h2
 have hl := r.length
 have hn := zMH
 have fin : EP X pins σ Q w s := ⟨z, H, I, rw', q⟩
 by_cases h0 : 0 ≤ i
 ·have hj : i.toNat = j := by
   rw [seqIndex_of h0 h5] at h1
   exact Option.some.inj h1
  exact item_listR pl.isList h0 (by omega) (by rw [hj]; simpa using ew) fin hs
 ·have hj : (i + (its.toArray.size : Int)).toNat = j := by
   rw [seqIndex_neg (by omega) h4] at h1
   rw [List.size_toArray, ← hl]
   exact Option.some.inj h1
  exact subscriptTail_builtinR (x := w) pl.isList.typeIs slot_list_getitem.lookup
   (wpAny_getItem_list_neg (Q := fun r s' => r = w ∧ EP X pins σ Q r s') pl.isList (by omega) (by rw [List.size_toArray] <;> omega) (by omega) (by rw [hj]; simpa using ew) ⟨rfl, fin⟩) hs
theorem ix_tup : IxR X (rIxT X.K) := by
 intro value slice pins s σ H x y v u Q I rx ry h hs
 obtain ⟨p, xs, i, z, rfl, rfl, hq, he, q⟩ := h
 cases rx
 obtain ⟨t, rfl⟩ := ry
 obtain ⟨its, r, pl, hz⟩ := I.tuple hq
 obtain ⟨j, h1, h2, h3, h4, h5⟩ := zTP he
 obtain ⟨w, ew, rw'⟩ := r.get h2
 have hl := r.length
 have hn := zMH
 have fin : EP X pins σ Q w s := ⟨z, H, I, rw', q⟩
 exact subscriptTail_builtinR (x := w) pl.typeIs slot_tuple_getitem.lookup
  (getItem_tuple (j := j) (Q := fun r s' => r = w ∧ EP X pins σ Q r s') pl (by omega) (by omega) (by rw [List.size_toArray, ← hl]; exact h1) (by simpa using ew) ⟨rfl, fin⟩) hs
theorem ix_str : IxR X rIxS := by
 intro value slice pins s σ H x y v u Q I rx ry h hs
 obtain ⟨z, i, c, rfl, rfl, hz, he, q⟩ := h
 obtain ⟨t, rfl⟩ := rx
 obtain ⟨t', rfl⟩ := ry
 obtain ⟨j, h1, h2, h3, h4, h5⟩ := zTP he
 have hl : z.cps.toList.length = z.length := by simp [Str.length]
 rw [hl] at h1 h4 h5
 have hn := zMH
 exact tail_any (typeIs_str s z t) slot_str_getitem.lookup (getItem_str (c := c) (by
  have e1 : decide (i < -(2 ^ 63 : Int)) = false := decide_eq_false (by omega)
  have e2 : decide (i ≥ 2 ^ 63) = false := decide_eq_false (by omega)
  rw [e1, e2, Bool.or_false]) (by rw [h1]; simpa using h2) ⟨.str ⟨#[c]⟩, H, I.tok _, ⟨_, rfl⟩, q⟩) hs
def rIx (K : PySem.W.Frag) : R2 := fun x y H Q => rIxL K x y H Q ∨ rIxT K x y H Q ∨ rIxS x y H Q
theorem yNQ : IxR X (rIx X.K) := yJR.or (ix_tup.or ix_str)
theorem Inv.lst {pins : List (Addr × Obj)} {σ : St} {H : Hp} {s : Shared} {p : Addr} {xs : List V} (I : Inv X pins σ H s) (h : H p = some (.lst xs)) :
  ∃ (its : List Value) (n : Nat), Vals xs its ∧ s.heap.get? p = some { cls := .type "list", data := .seq its.toArray n } ∧ xs.length ≤ sizeLine := by
 obtain ⟨z, its, n, r, e⟩ := I.hok p _ h
 exact ⟨its, n, r, e, z⟩
theorem zTR (lo hi : Option Int) (n : Nat) : (sliceBounds lo hi none n).1 = ((HT.sIx n 0 lo : Nat) : Int) ∧ (sliceBounds lo hi none n).2.1 = ((HT.sIx n n hi : Nat) : Int) ∧ (sliceBounds lo hi none n).2.2 = 1 := by
 refine ⟨?_, ?_, rfl⟩
 ·cases lo with
  | none => simp [sliceBounds, HT.sIx]
  | some i =>
   simp only [sliceBounds, HT.sIx, Option.getD_none, show (1 : Int) > 0 by decide, if_true]
   by_cases h : i < 0
   ·simp only [h, if_true] <;> omega
   ·simp only [h, if_false] <;> omega
 ·cases hi with
  | none => simp [sliceBounds, HT.sIx]
  | some i =>
   simp only [sliceBounds, HT.sIx, Option.getD_none, show (1 : Int) > 0 by decide, if_true]
   by_cases h : i < 0
   ·simp only [h, if_true] <;> omega
   ·simp only [h, if_false] <;> omega
theorem zRB (its : List Value) (lo hi : Option Int) : slicePick its.toArray lo hi none = ((its.drop (HT.sIx its.length 0 lo)).take (HT.sIx its.length its.length hi - HT.sIx its.length 0 lo)).toArray := by
 obtain ⟨h1, h2, h3⟩ := zTR lo hi its.toArray.size
 unfold slicePick
 rw [h1, h2, h3]
 simp only [sliceRange_one, pick_run, List.size_toArray] <;> rfl
def rSlL (K : PySem.W.Frag) : V → Option Int → Option Int → Hp → VK → Prop := fun x lo hi H Q => ∃ a xs, x = .ref a ∧ SqL K H a xs ∧ ∀ p, H p = none → Q (.ref p) (upd H p (.lst (zVV xs lo hi)))
theorem yJS : SlR X (rSlL X.K) := by
 intro pins s σ H x v vl vu lo hi sl Q I rx hs pl pu h
 obtain ⟨a, xs, rfl, hx, q⟩ := h
 cases rx
 obtain ⟨its, r, ht, hz⟩ := I.list hx
 have hlen := r.length
 refine ⟨"list", _, slot_list_getitem.lookup, ht.isList.typeIs, ?_⟩
 refine wpAny_getItem_list_slice ht.isList hs pl pu .none (by simp) ?_ (by rw [List.size_toArray] <;> omega)
 rw [zRB, ← hlen]
 refine ⟨.ref s.heap.objs.size, _, I.laid (t' := s.toks) (o := .lst (zVV xs lo hi)) (fun b ob q => Heap.get?_push_of_some _ q) (Nat.le_refl _) ?_, rfl, q _ (I.hok.fresh (Nat.le_refl _))⟩
 exact ⟨Nat.le_trans (zNC xs lo hi) hz, _, 0, (r.drop (HT.sIx xs.length 0 lo)).take (HT.sIx xs.length xs.length hi - HT.sIx xs.length 0 lo), Heap.get?_push_size _ rfl⟩
def kH : V → Bool
 | .non => true
 | .bl _ => true
 | .int _ => true
 | .str _ => true
 | _ => false
def eqV : V → V → Bool
 | .non, .non => true
 | .bl a, .bl b => a == b
 | .bl a, .int b => (if a then 1 else 0) == b
 | .int a, .bl b => a == (if b then 1 else 0)
 | .int a, .int b => a == b
 | .str a, .str b => a == b
 | _, _ => false
theorem yNR {A : Around} {s : Shared} {y x : V} {u v : Value} (ry : RelV y u) (rx : RelV x v) (fy : kH y = true) (fx : kH x = true) : SeqAt.EqAt A s u v (eqV y x) := by
 cases y with
 | non =>
  cases ry
  cases x with
  | non => cases rx; exact SeqAt.EqAt.same _
  | bl b => cases rx; exact SeqAt.EqAt.none_bool b
  | int b => obtain ⟨t, rfl⟩ := rx; exact SeqAt.EqAt.none_int b t
  | str b => obtain ⟨t, rfl⟩ := rx; exact SeqAt.EqAt.none_str b t
  | _ => exact absurd (show false = true from fx) zQ3
 | bl a =>
  cases ry
  cases x with
  | non => cases rx; exact SeqAt.EqAt.bool_none a
  | bl b => cases rx; exact SeqAt.EqAt.bool_bool a b
  | int b => obtain ⟨t, rfl⟩ := rx; exact SeqAt.EqAt.bool_int a b t
  | str b => obtain ⟨t, rfl⟩ := rx; exact SeqAt.EqAt.bool_str a b t
  | _ => exact absurd (show false = true from fx) zQ3
 | int a =>
  obtain ⟨t', rfl⟩ := ry
  cases x with
  | non => cases rx; exact SeqAt.EqAt.int_none a t'
  | bl b => cases rx; exact SeqAt.EqAt.int_bool a t' b
  | int b => obtain ⟨t, rfl⟩ := rx; exact SeqAt.EqAt.int_int a t' b t
  | str b => obtain ⟨t, rfl⟩ := rx; exact SeqAt.EqAt.int_str a t' b t
  | _ => exact absurd (show false = true from fx) zQ3
 | str a =>
  obtain ⟨t', rfl⟩ := ry
  cases x with
  | non => cases rx; exact SeqAt.EqAt.str_none a t'
  | bl b => cases rx; exact SeqAt.EqAt.str_bool a t' b
  | int b => obtain ⟨t, rfl⟩ := rx; exact SeqAt.EqAt.str_int a t' b t
  | str b => obtain ⟨t, rfl⟩ := rx; exact SeqAt.EqAt.str_str a t' b t
  | _ => exact absurd (show false = true from fx) zQ3
 | _ => exact absurd (show false = true from fy) zQ3
theorem zTS : CallR X (.builtin "len") (fun xs H Q => ∃ p ys, xs = [.ref p] ∧ (SqL X.K H p ys ∨ SqT X.K H p ys) ∧ Q (.int ys.length) H) := by
 intro pins s σ H xs us Q I r h
 obtain ⟨p, ys, rfl, hq, q⟩ := h
 obtain ⟨u, rfl, rx⟩ := vals1 r
 cases rx
 have hn := zMH
 rcases hq with hq | hq
 ·obtain ⟨its, r', pl, hz⟩ := I.list hq
  have hlen := r'.length
  exact Calls.call_len_list pl.isList (by simp only [List.size_toArray] <;> omega) ⟨.int ys.length, H, I.tok _, ⟨s.toks + 1, by rw [List.size_toArray, hlen]⟩, q⟩
 ·obtain ⟨its, r', pl, hz⟩ := I.tuple hq
  have hlen := r'.length
  exact len_tuple pl (by simp only [List.size_toArray] <;> omega) ⟨.int ys.length, H, I.tok _, ⟨s.toks + 1, by rw [List.size_toArray, hlen]⟩, q⟩
theorem zTT : CallR X (.builtin "len") (fun xs H Q => ∃ z, xs = [.str z] ∧ z.length ≤ sizeLine ∧ Q (.int z.length) H) := by
 intro pins s σ H xs us Q I r h
 obtain ⟨z, rfl, hz, q⟩ := h
 obtain ⟨u, rfl, t, rfl⟩ := vals1 r
 have hn := zMH
 exact len_str (by omega) ⟨.int z.length, H, I.tok _, ⟨_, rfl⟩, q⟩
theorem CallR.or {f : Value} {r r' : List V → Hp → VK → Prop} (h : CallR X f r) (h' : CallR X f r') : CallR X f (fun xs H Q => r xs H Q ∨ r' xs H Q) := by
 intro pins s σ H xs us Q I rs q
 rcases q with q | q
 ·exact h pins s σ H xs us Q I rs q
 ·exact h' pins s σ H xs us Q I rs q
theorem wK : CallR X (.type "tuple") (fun xs H Q => ∃ p ys, xs = [.ref p] ∧ ((SqL X.K H p ys ∧ ∀ l, H l = none → Q (.ref l) (upd H l (.tup ys))) ∨ (SqT X.K H p ys ∧ Q (.ref p) H))) := by
 intro pins s σ H xs us Q I r h
 obtain ⟨p, ys, rfl, h⟩ := h
 obtain ⟨u, rfl, rx⟩ := vals1 r
 cases rx
 rcases h with ⟨hq, q⟩ | ⟨hq, q⟩
 ·obtain ⟨its, r', pl, hz⟩ := I.list hq
  have hlen := r'.length
  refine call_tuple_list pl.isList (fun h' kp => ?_) (by simp only [List.size_toArray] <;> omega)
  have I1 : Inv X pins σ H { s with heap := h' } := I.kept (t' := s.toks) kp
  have I2 : Inv X pins σ (upd H h'.objs.size (.tup ys)) { s with heap := h'.push { cls := .type "tuple", data := .seq its.toArray } } :=
   I1.laid (t' := s.toks) (fun b o e => Heap.get?_push_of_some _ e) (Nat.le_refl _) (show ObjOk X.prog X.w _ _ _ (.tup ys) from ⟨hz, its, r', IsTup.new _ _⟩)
  exact ⟨.ref h'.objs.size, _, I2, rfl, q _ (I1.hok.fresh (Nat.le_refl _))⟩
 ·obtain ⟨its, r', pl, hz⟩ := I.tuple hq
  exact call_tuple_same pl ⟨.ref p, H, I, rfl, q⟩
def tyV (K : PySem.W.Frag) (T : String) (x : V) (H : Hp) : Prop := match x with
 | .str _ => T = "str"
 | .int _ => T = "int"
 | .ref p => (T = "list" ∧ ∃ xs, SqL K H p xs) ∨ (T = "tuple" ∧ ∃ o, K.lookup p = some o ∧ o.cls = .type "tuple" ∧ o.dict = none) ∨
   (T = "dict" ∧ ((∃ kvs, H p = some (.dK kvs)) ∨ ∃ kvs, H p = some (.dT kvs))) ∨ (T = "set" ∧ ∃ S n, H p = some (.set S n))
 | _ => False
theorem yGA {pins : List (Addr × Obj)} {σ : St} {H : Hp} {s : Shared} {T : String} {x : V} {v : Value} (I : Inv X pins σ H s) (r : RelV x v) (ty : tyV X.K T x H) :
  s.TypeIs v T ∧ ∀ a, v = .ref a → ∃ ob, s.heap.get? a = some ob ∧ ob.dict = none := by
 cases x with
 | str z =>
  obtain ⟨t, rfl⟩ := r
  cases (show T = "str" from ty)
  exact ⟨typeIs_str s z t, fun _ e => nomatch e⟩
 | int i =>
  obtain ⟨t, rfl⟩ := r
  cases (show T = "int" from ty)
  exact ⟨typeIs_int s i t, fun _ e => nomatch e⟩
 | ref p =>
  cases r
  rcases ty with ⟨rfl, xs, hq⟩ | ⟨rfl, o, hk, hc, hd⟩ | ⟨rfl, hk⟩ | ⟨rfl, S, n, hk⟩
  ·obtain ⟨its, _, pl, _⟩ := I.list hq
   refine ⟨pl.isList.typeIs, fun a e => ?_⟩
   cases e
   obtain ⟨o, n, e, c, hd, _⟩ := pl
   exact ⟨o, e, hd⟩
  ·refine ⟨⟨o, I.kIn p o hk, hc⟩, fun a e => ?_⟩
   cases e
   exact ⟨o, I.kIn _ o hk, hd⟩
  ·have z : ∃ o, s.heap.get? p = some o ∧ o.ExactDict := by
    rcases hk with ⟨kvs, hk⟩ | ⟨kvs, hk⟩
    ·obtain ⟨_, _, _, _, o, _, _, e, ex, _⟩ := I.hok p _ hk
     exact ⟨o, e, ex⟩
    ·obtain ⟨_, _, _, _, o, _, _, e, ex, _⟩ := I.hok p _ hk
     exact ⟨o, e, ex⟩
   obtain ⟨o, e, ex⟩ := z
   refine ⟨⟨o, e, ex.1⟩, fun a e2 => ?_⟩
   cases e2
   exact ⟨o, e, ex.2.1⟩
  ·obtain ⟨o, _, _, _, e, ex, _⟩ := I.hok p _ hk
   refine ⟨⟨o, e, ex.1⟩, fun a e2 => ?_⟩
   cases e2
   exact ⟨o, e, ex.2.1⟩
 | _ => exact False.elim ty
def tBM0 (K : PySem.W.Frag) (T : String) (r : V → List V → Hp → VK → Prop) (to : TE) : TE := fun σ H Q => to σ H fun x H1 => tyV K T x H1 ∧ r x [] H1 Q
def tBM (K : PySem.W.Frag) (T : String) (r : V → List V → Hp → VK → Prop) (to : TE) (t : TA) : TE := fun σ H Q => to σ H fun x H1 => tyV K T x H1 ∧ t σ H1 fun xs H2 => r x xs H2 Q
variable {o e : Expr} {es : List Expr} {to : TE} {t : TA} {name : Str} {apos cpos : Pos} {T id : String} {r : V → List V → Hp → VK → Prop}
theorem yNS (pa : PlainAttrs T) (slot : Slot T name id) (hty : typeOf (.builtin id) = pure (.type "method_descriptor")) (hm : MtR X id r) (ho : PE X o to)
  (hbase : attributeBase o name X.env (eval o X.env) = eval o X.env := by rfl) (hline : (apos.endLine == cpos.line) = true := by rfl) : PE X (.Call (.Attribute o name apos) [] [] cpos) (tBM0 X.K T r to) := by
 intro pins s σ H Q I h
 refine wpAny_Call_method0_late hbase hline (thn (ho pins s σ H _ I h) fun v s1 ⟨x, H1, I1, r1, ty, q1⟩ => ?_)
 obtain ⟨h1, h2⟩ := yGA I1 r1 ty
 exact ⟨T, id, pa, slot, hty, h1, h2, Calls.callWith_builtin rfl (PySem.evalArgs_none (hm pins s1 σ H1 x [] v [] Q I1 r1 .nil q1))⟩
theorem pe_bm (pa : PlainAttrs T) (slot : Slot T name id) (hty : typeOf (.builtin id) = pure (.type "method_descriptor")) (hm : MtR X id r) (ho : PE X o to) (ha : PA X (e :: es) t)
  (hbase : attributeBase o name X.env (eval o X.env) = eval o X.env := by rfl)
  (hfew : ((backTo cpos (starEach (e :: es) X.env)).all (fun x => !x.1) && (backToKw cpos (keywordEach [] X.env)).all (fun x => x.1.isSome)
   && decide ((e :: es).length + ([] : List Keyword).length + (if ([] : List Keyword).isEmpty then 0 else 1) < 30)) = true := by rfl)
  (hline : (apos.endLine == cpos.line) = true := by rfl) (hs : starEach (e :: es) X.env = (false, eval e X.env) :: starEach es X.env := by rfl) (hplain : (backTo cpos (starEach es X.env)).any (·.1) = false := by rfl) :
  PE X (.Call (.Attribute o name apos) (e :: es) [] cpos) (tBM X.K T r to t) := by
 intro pins s σ H Q I h
 refine wpAny_Call_method_late hbase hfew hline rfl (thn (ho pins s σ H _ I h) fun v s1 ⟨x, H1, I1, r1, ty, q1⟩ => ?_)
 obtain ⟨h1, h2⟩ := yGA I1 r1 ty
 refine ⟨T, id, pa, slot, hty, h1, h2, ?_⟩
 have hA := ha cpos pins s1 σ H1 _ I1 q1
 rw [hs] at hA ⊢
 refine Calls.callWith_builtin (by show (false || (backTo cpos (starEach es X.env)).any (·.1)) = false; rw [hplain] <;> rfl) (Calls.evalArgs_plain ?_)
 exact thn hA fun us s2 ⟨vs, H2, I2, r2, q2⟩ => hm pins s2 σ H2 x vs v us Q I2 r1 r2 q2
end
end L2
namespace L2
open PySem PySem.Spec PyProof.Rows
def MtM (X : Cx) (id : String) (r : V → List V → Hp → VK → Prop) : Prop :=
 ∀ (pins : List (Addr × Obj)) (s : Shared) (σ : St) (H : Hp) (x : V) (xs : List V) (v : Value) (us : List Value) (Q : VK), Inv X pins σ H s → RelV x v → Vals xs us → r x xs H Q →
  wpAny (model X.prog X.w) X.A (call (.builtin id) (v :: us)) (EP X pins σ Q) X.xe s
theorem Vals.one : ∀ {x : V} {us : List Value}, Vals [x] us → ∃ u, us = [u] ∧ RelV x u
 | _, _, .cons r .nil => ⟨_, rfl, r⟩
theorem Vals.zero : ∀ {us : List Value}, Vals [] us → us = []
 | _, .nil => rfl
theorem Vals.reverse {xs : List V} {us : List Value} (h : Vals xs us) : Vals xs.reverse us.reverse := by
 induction h with
 | nil => exact .nil
 | cons r t ih => rw [List.reverse_cons, List.reverse_cons]; exact Vals.append ih (.cons r .nil)
theorem Vals.rep {xs : List V} {us : List Value} (h : Vals xs us) : ∀ k : Nat, Vals (List.replicate k xs).flatten (List.replicate k us).flatten
 | 0 => .nil
 | k + 1 => by
  rw [List.replicate_succ, List.replicate_succ, List.flatten_cons, List.flatten_cons]
  exact Vals.append h (Vals.rep h k)
theorem foldl_rep (its : List Value) : ∀ (k : Nat) (acc : List Value),
  List.foldl (fun x1 x2 => x1 ++ x2) acc.toArray (List.replicate k its.toArray) = (acc ++ (List.replicate k its).flatten).toArray
 | 0, acc => by simp
 | k + 1, acc => by
  have e : acc.toArray ++ its.toArray = (acc ++ its).toArray := by simp
  have e2 : (acc ++ its) ++ (List.replicate k its).flatten = acc ++ (List.replicate (k + 1) its).flatten := by
   rw [List.replicate_succ, List.flatten_cons, List.append_assoc]
  rw [← e2, ← foldl_rep its k (acc ++ its), ← e, List.replicate_succ, List.foldl_cons]
section
variable {X : Cx} {pins : List (Addr × Obj)} {σ : St} {H : Hp} {s : Shared} {l b : Addr} {xs ys zs : List V}
theorem Inv.lset {its its' : List Value} {n : Nat} {f : Array Value → Array Value} {t' : Nat} (I : Inv X pins σ H s) (hH : H l = some (.lst xs))
  (e : s.heap.get? l = some { cls := .type "list", data := .seq its.toArray n }) (hf : f its.toArray = its'.toArray) (hv : Vals ys its') (hz : ys.length ≤ sizeLine) :
  Inv X pins σ (upd H l (.lst ys)) { s with heap := s.heap.update l (Obj.mapSeq f), toks := t' } := by
 have q := PySem.IsL.update e f
 rw [hf] at q
 refine I.write (x := l) (e := l) (by rw [hH]; exact trivial) (.inl rfl) (fun b' u hb hu => (Heap.get?_update_other s.heap (Obj.mapSeq f) (Ne.symm hb)).trans hu) ⟨_, q⟩ ?_
 exact ⟨hz, its', _, hv, q⟩
theorem Inv.lnew {its : List Value} {t' : Nat} (I : Inv X pins σ H s) (hv : Vals ys its) (hz : ys.length ≤ sizeLine) :
  Inv X pins σ (upd H s.heap.objs.size (.lst ys)) { s with heap := s.heap.push { cls := .type "list", data := .seq its.toArray }, toks := t' } :=
 I.laid (fun _ _ q => Heap.get?_push_of_some _ q) (Nat.le_refl _) ⟨hz, its, 0, hv, Heap.get?_push_size _ rfl⟩
theorem Inv.fresh (I : Inv X pins σ H s) : H s.heap.objs.size = none := I.hok.fresh (Nat.le_refl _)
theorem Inv.lstM (I : Inv X pins σ H s) (hH : H l = some (.lst xs)) : xs.length ≤ sizeLine ∧ ∃ (its : List Value) (n : Nat), Vals xs its ∧ xs.length = its.length ∧ s.heap.get? l = some { cls := .type "list", data := .seq its.toArray n } := by
 obtain ⟨z, its, n, r, e⟩ := I.hok l _ hH
 exact ⟨z, its, n, r, r.length, e⟩
theorem yGB {n : Nat} (h : n ≤ sizeLine) : Builtin.List.listTooLong n = false := by
 unfold Builtin.List.listTooLong
 exact decide_eq_false (by omega)
end
section
variable {X : Cx}
def yBR : V → List V → Hp → VK → Prop := fun x vs H Q => ∃ l xs y, x = .ref l ∧ vs = [y] ∧ H l = some (.lst xs) ∧ xs.length < sizeLine ∧ Q .non (upd H l (.lst (xs ++ [y])))
theorem yDP : MtM X "list.append" yBR := by
 intro pins s σ H x vs v us Q I rx rv h
 obtain ⟨l, xs, y, rfl, rfl, hH, hz, q⟩ := h
 cases rx
 obtain ⟨u, rfl, ru⟩ := rv.one
 obtain ⟨z, its, n, r, hl, e⟩ := I.lstM hH
 refine call_meets F.slot_list_append ⟨_, e, rfl⟩ F.entry_list_append (F.args_list_append_2 _ _) (PySem.list_append l its.toArray n u (by rw [List.size_toArray]; omega)) ⟨e, ?_⟩
 refine ⟨.non, _, I.lset (its' := its ++ [u]) hH e (by simp) (r.append (.cons ru .nil)) ?_, rfl, q⟩
 rw [zQ4, List.length_singleton]
 omega
def zVW : V → List V → Hp → VK → Prop := fun x vs H Q => ∃ l xs, x = .ref l ∧ vs = [] ∧ H l = some (.lst xs) ∧ Q .non (upd H l (.lst xs.reverse))
theorem zZG : MtM X "list.reverse" zVW := by
 intro pins s σ H x vs v us Q I rx rv h
 obtain ⟨l, xs, rfl, rfl, hH, q⟩ := h
 cases rx
 have hus := rv.zero
 subst hus
 obtain ⟨z, its, n, r, hl, e⟩ := I.lstM hH
 refine call_meets F.slot_list_reverse ⟨_, e, rfl⟩ F.entry_list_reverse (F.args_list_reverse_1 _) (AutoSeq1.list_reverse_list_0 l its.toArray n (by rw [List.size_toArray]; omega)) ⟨e, ?_⟩
 refine ⟨.non, _, I.lset (its' := its.reverse) hH e (by simp) r.reverse ?_, rfl, q⟩
 rw [List.length_reverse]
 omega
def rCat : R2 := fun x y H Q => ∃ l b xs zs, x = .ref l ∧ y = .ref b ∧ H l = some (.lst xs) ∧ H b = some (.lst zs) ∧ xs.length + zs.length ≤ sizeLine ∧ ∀ p, H p = none → Q (.ref p) (upd H p (.lst (xs ++ zs)))
theorem yNT : OpR X (binaryOp .Add) rCat := by
 intro pins s σ H x y v u Q I rx ry h
 obtain ⟨l, b, xs, zs, rfl, rfl, hH, hB, hz, q⟩ := h
 cases rx
 cases ry
 obtain ⟨z, its, n, r, hl, e⟩ := I.lstM hH
 obtain ⟨z2, its2, n2, r2, hl2, e2⟩ := I.lstM hB
 refine PySem.P.add_list e e2 ?_ (by rw [List.size_toArray, List.size_toArray]; omega)
 have ea : its.toArray ++ its2.toArray = (its ++ its2).toArray := by simp
 rw [ea]
 exact ⟨.ref _, _, I.lnew (t' := s.toks) (r.append r2) (by rw [zQ4]; omega), rfl, q _ I.fresh⟩
def rRep : R2 := fun x y H Q => ∃ l k xs, x = .ref l ∧ y = .int k ∧ H l = some (.lst xs) ∧ -(2 ^ 63) ≤ k ∧ k < 2 ^ 63 ∧ xs.length * k.toNat ≤ sizeLine ∧
 ∀ p, H p = none → Q (.ref p) (upd H p (.lst (List.replicate k.toNat xs).flatten))
theorem len_rep {α : Type} (xs : List α) (k : Nat) : (List.replicate k xs).flatten.length = k * xs.length := by
 induction k with
 | zero => simp
 | succ k ih => rw [List.replicate_succ, List.flatten_cons, zQ4, ih, Nat.succ_mul, Nat.add_comm]
theorem yNU : OpR X (binaryOp .Mult) rRep := by
 intro pins s σ H x y v u Q I rx ry h
 obtain ⟨l, k, xs, rfl, rfl, hH, h1, h2, hz, q⟩ := h
 cases rx
 obtain ⟨t, rfl⟩ := ry
 obtain ⟨z, its, n, r, hl, e⟩ := I.lstM hH
 have hlen : its.toArray.size * k.toNat ≤ sizeLine := by rw [List.size_toArray, ← hl]; exact hz
 have hcap : ¬ its.toArray.size * k.toNat > (2 ^ 63 - 1) / 8 := by
  have : (sizeLine : Nat) ≤ (2 ^ 63 - 1) / 8 := by decide
  omega
 have hfit : ¬ (!Builtin.List.listFitsIndex k) = true := by
  rw [fitsIndex_both h1 h2]
  exact zQ3
 have hlong : ¬ Builtin.List.listTooLong (its.toArray.size * k.toNat) = true := by
  rw [yGB hlen]
  exact zQ3
 have hnew : List.foldl (fun x1 x2 => x1 ++ x2) #[] (List.replicate (if its.toArray.isEmpty = true then 0 else k.toNat) its.toArray) = (List.replicate k.toNat its).flatten.toArray := by
  have f0 : ∀ m : Nat, List.foldl (fun x1 x2 => x1 ++ x2) #[] (List.replicate m its.toArray) = (List.replicate m its).flatten.toArray := fun m => by
   have := foldl_rep its m []
   rw [List.nil_append] at this
   exact this
  rw [f0]
  cases its with
  | nil => simp
  | cons a r' => rw [if_neg (by simp)]
 refine wpAny_binaryOp_repeat_ref (T := "list") (U := "int") (by decide) ⟨_, e, rfl⟩ (fun s' => typeIs_int s' k t) noFill_list_mul F.fills_int_mul F.slot_int_rmul repeat_list F.slot_int_index.lookup
  (call_meets F.slot_int_rmul (typeIs_int s k t) F.entry_int_rmul (F.args_int_rmul_2 _ _) (int___rmul___int_list k t l its.toArray n)
   ⟨e, rfl, ⟨_, e, rfl⟩, call_meets F.slot_list_mul ⟨_, e, rfl⟩ F.entry_list_mul (F.args_list_mul_2 _ _) (AutoListH.list___mul___list_int_3 l its.toArray n k t hfit hcap hlong) ⟨e, ?_⟩⟩)
 rw [hnew]
 exact ⟨.ref _, _, I.lnew (t' := s.toks) (r.rep k.toNat) (by rw [len_rep, Nat.mul_comm]; exact hz), rfl, q _ I.fresh⟩
end
end L2
namespace Att
open PySem PySem.W PySem.Calls PyProof.Rows
theorem zNO {P : Params} {h : Heap} : ∀ (ns : List Int) (vs : List Value), WellAll P h vs (ns.map WData.int) → IntsAre vs ns := by
 intro ns
 induction ns with
 | nil =>
  intro vs w
  rw [List.map_nil] at w
  cases w
  exact .nil
 | cons n ns ih =>
  intro vs w
  rw [List.map_cons] at w
  cases w with
  | cons a b =>
   cases a
   exact .cons _ _ (ih _ b)
theorem yDQ {l : OpenLaw} {n : Nat} (hn : l.most = some n) {P : Params} {h : Heap} {args : List WData} {vals : List Value}
  (hpre : l.row.toRowW.claim.pre args = true) (hwl : WellAll P h vals args) :
  ∃ a vs ns, vals = [Value.ref a] ∧ args = [WData.list (ns.map WData.int)] ∧ h.get? a = some { cls := .type "list", data := .seq vs.toArray } ∧ IntsAre vs ns ∧ ns.length ≤ n := by
 have hsh : WShape.hasAll [] args [.list .int] = true := (pre_splitW hpre).1
 have hc : l.pre.holds [] { args := args } = true := (pre_splitW hpre).2
 obtain ⟨d, r, rfl, h1, h2⟩ := hasAllW_cons hsh
 obtain rfl := hasAllW_nil h2
 obtain ⟨xs, rfl, h3⟩ := hasW_list h1
 obtain ⟨ns, rfl⟩ := items_int h3
 have hlen : ns.length ≤ n := by
  unfold OpenLaw.pre at hc
  have h4 : (WTm.not (.lt (.lit (.int (n : Int))) (.len (.arg 0)))).holds [] { args := [.list (ns.map .int)] } = true := by
   have h4 := (holds_andW hc).1
   rw [hn] at h4
   exact h4
  have h5 := condW_of h4 (w_not (w_lt w_lit (w_len_list (w_arg rfl))))
  rw [List.length_map] at h5
  refine Nat.le_of_not_lt fun q => ?_
  have q' : (n : Int) < ((ns.length : Nat) : Int) := by omega
  first
   | (rw [decide_eq_true q'] at h5; exact absurd h5 (by decide))
   | (simp at h5; omega)
 cases hwl with
 | cons w1 w2 =>
  cases w2
  cases w1 with
  | list ho hall => exact ⟨_, _, ns, rfl, rfl, ho, zNO ns _ hall, hlen⟩
theorem yDR (l : OpenLaw) (args : List WData) : l.row.toRowW.claim.post args (.bool true) args = true :=
 postW_of (r := l.row.toRowW) (X := (true == true))
  (show WShape.has [] (.bool true) .bool = true by first | rfl | decide | simp [WShape.has, WShape.arms, WShape.armsAll])
  (show (WTm.eq .res (.lit (.bool true))).value [] { args := args, res := some (.bool true), after := args } = some (.bool (true == true)) from w_eq_bool (w_res rfl) w_lit) rfl
theorem attach_call {l : OpenLaw} {n : Nat} {q : Program} {loose : List Str} {XP : (Str → Option Value) → Heap → Prop} {YP : World → Heap → Prop} {d : DefRec}
  (hn : l.most = some n) (hdf : d.params.defaults = [])
  (call : ∀ (w : World) (s₀ s₁ : Shared) (mg mb : Str → Option Value) (fa : Addr) (o : Obj) (pm cd doc : Value) (a : Addr) (vs : List Value) (ns : List Int),
   Ground q loose [] XP w s₀ mg mb s₁.heap → YP w s₁.heap →
   s₁.heap.get? fa = some o → o.data = .func (docDef d.name d.params d.body d.scope pm cd doc) → s₁.heap.CodeRec cd d.name → mg d.name = some (.ref fa) →
   s₁.heap.get? a = some { cls := .type "list", data := .seq vs.toArray } → IntsAre vs ns → ns.length ≤ n → s₁.gens = #[] →
   codeAny (model l.prog w) callerA (.call (.ref fa) ⟨[.ref a], []⟩) (fun r s' => r = .ok (.ret (.bool true)) ∧ OldK s₁.heap s'.heap ∧ s'.os = s₁.os ∧ AllBare s'.gens) s₁) :
  WalkO q loose XP YP l.row.toRowW d [] (fun f vs => PySem.call f vs) := by
 intro w s₀ s₁ mg mb G Y fa o pm cd doc dV kV ho hd hcd hD hmg hg args vals as hpre hlay hrd hwl hlo
 obtain rfl : dV = .none := Dflts.none hD hdf
 obtain rfl : kV = .none := Dflts.noKw hD
 obtain ⟨a, vs, ns, rfl, rfl, hobj, hints, hlen⟩ := yDQ hn hpre hwl
 refine enter_call (codeAny_mono (call w s₀ s₁ mg mb fa o pm cd doc a vs ns G Y ho (fd_plain hd) hcd hmg hobj hints hlen hg) fun r s' hq => ?_)
 obtain ⟨rfl, h2, h3, h4⟩ := hq
 exact ⟨.inl ⟨.bool true, .bool true, [], rfl, fun _ => rfl, .bool true, yDR l _, fun _ => ⟨List.Pairwise.nil, fun _ hm => (nomatch hm)⟩⟩, h2, h3, h4⟩
end Att
namespace L2
open PySem PySem.Spec PyProof.Rows
theorem zSH : ∀ {vs : List Value} {ns : List Int}, IntsAre vs ns → Vals (ns.map V.int) vs
 | _, _, .nil => .nil
 | _, _, .cons n t h => .cons ⟨t, rfl⟩ (zSH h)
def Only (H : Hp) : Prop := ∀ b, H b = none ∨ ∃ o xs, H b = some (.frz o (.lst xs))
theorem yGC {P : Program} {w : World} {K : PySem.W.Frag} {mg mb : Str → Option Value} {CX : CXT} {k : Nat} {fa a : Addr} {fd : FuncData} {x : Str} {sp : Sp} {s₁ : Shared} {vs : List Value} {ns : List Int}
  (KX : K.In s₁.heap) (hns : s₁.heap.Ns mainGlobals mg) (hb : s₁.heap.Ns builtinsNs mb) (hbb : ∀ x : Str, x ≠ "__name__" → mb x = bootBuiltins x) (hlim : s₁.heap.NoLimit) (hg : s₁.gens = #[])
  (ha : s₁.heap.get? a = some { cls := .type "list", data := .seq vs.toArray }) (hi : IntsAre vs ns) (hl : ns.length ≤ sizeLine) (hr : Room k callerA)
  (F : ∀ base : Heap, K.In base → base.Ns mainGlobals mg → FnOk P w K mg base CX k fa fd [x] sp) (hbind : ∀ (s : Shared) (u : Value), BindsTo s fd ⟨[u], []⟩ [(x, u)])
  (hsp : ∀ H : Hp, Only H → SqL K H a (ns.map V.int) → sp [.ref a] H (fun v _ => v = .bl true) fun _ _ _ => False)
  (hCX : ∀ H e s', CX [] H s₁ (fun _ _ _ => False) e s' → False) :
  codeAny (model P w) callerA (.call (.ref fa) ⟨[.ref a], []⟩) (fun r s' => r = .ok (.ret (.bool true)) ∧ OldK s₁.heap s'.heap ∧ s'.os = s₁.os ∧ AllBare s'.gens) s₁ := by
 have rv := zSH hi
 have lenV := hi.length
 have core : ∀ H : Hp, Only H → SqL K H a (ns.map V.int) → HOk P w H s₁.heap → (∀ b, H b ≠ none → b = a) → (H a ≠ none → K.lookup a = none) →
   codeAny (model P w) callerA (.call (.ref fa) ⟨[.ref a], []⟩) (fun r s' => r = .ok (.ret (.bool true)) ∧ OldK s₁.heap s'.heap ∧ s'.os = s₁.os ∧ AllBare s'.gens) s₁ := by
  intro H hO hS hok hA hK
  have base_of : ∀ {b : Addr} {o : Obj}, s₁.heap.get? b = some o → H b = none → (zTN s₁.heap H).get? b = some o := fun e n => yFK e n
  have noA : ∀ {b : Addr} {o : Obj} {es : Array DictEntry} {ep : Nat}, s₁.heap.get? b = some o → o.data = .dict es ep → H b = none := fun {b o es ep} e d => by
   cases q : H b with
   | none => rfl
   | some u =>
    have e' : b = a := hA b (by rw [q]; simp)
    subst e'
    rw [ha] at e; cases e
    have d' : Data.seq vs.toArray _ = Data.dict es ep := d
    cases d'
  have nsK : ∀ {b : Addr} {m : Str → Option Value}, s₁.heap.Ns b m → (zTN s₁.heap H).Ns b m := fun {b m} ⟨o, es, ep, e, d, r⟩ => ⟨o, es, ep, base_of e (noA e d), d, r⟩
  have hKb : K.In (zTN s₁.heap H) := fun b o e => base_of (KX b o e) (by
   cases q : H b with
   | none => rfl
   | some u =>
    have e' : b = a := hA b (by rw [q]; simp)
    subst e'
    rw [hK (by rw [q]; simp)] at e; cases e)
  have hM : Mod K mg (zTN s₁.heap H) := ⟨hKb, nsK hns, ⟨mb, nsK hb, hbb⟩, let ⟨mc, h1, h2⟩ := hlim; ⟨mc, nsK h1, h2⟩⟩
  have e0 : Env0 P w K mg (zTN s₁.heap H) callerA [] s₁ H := ⟨rfl, hM, fun b o e => yJB e, Nat.le_of_eq (yDJ _ _), trivial, fun b hb => absurd (show b ∈ ([] : List Addr) from hb) (by simp), hok, .of_eq hg⟩
  refine codeAny_mono ((F _ hKb (nsK hns)).run callerA [] s₁ H ⟨[.ref a], []⟩ [.ref a] [.ref a] _ _ hr e0 (hbind s₁ (.ref a)) (.cons rfl .nil) (hsp H hO hS)) fun r s' h => ?_
  cases r with
  | error e => exact (hCX H e s' h).elim
  | ok fl =>
   cases fl with
   | next => exact False.elim h
   | brk => exact False.elim h
   | cont => exact False.elim h
   | ret u =>
    obtain ⟨v, H', os, bare, un, hok', r', q⟩ := h
    have q' : v = .bl true := q
    subst q'
    obtain rfl : u = Value.bool true := r'
    refine ⟨rfl, OldK.of_keep fun b o e => ?_, os, bare⟩
    cases q : H b with
    | none => exact un.keep b o e q (by intro z; exact absurd (show b ∈ ([] : List Addr) from z) (by simp)) (by simp)
    | some u =>
     rcases hO b with z | ⟨ob, xs, z⟩
     ·rw [q] at z; cases z
     ·have z2 := un.frzs b ob _ z
      obtain ⟨e1, _⟩ := hok b _ z
      obtain ⟨e2, _⟩ := hok' b _ z2
      rw [e] at e1; cases e1
      exact e2
 cases hk : K.lookup a with
 | some o =>
  have e := KX a o hk
  rw [ha] at e
  cases e
  refine core (fun _ => none) (fun _ => .inl rfl) (.inr ⟨_, vs.toArray, _, hk, rfl, rfl, rfl, by rw [List.size_toArray, lenV]; exact hl, by simpa using rv⟩) (fun b u z => by have z' : (none : Option HO) = some u := z; cases z') (fun b z => absurd rfl z) fun z => absurd rfl z
 | none =>
  refine core (fun b => if b = a then some (.frz { cls := .type "list", data := .seq vs.toArray } (.lst (ns.map V.int))) else none) (fun b => ?_) (.inl (.inr ⟨{ cls := .type "list", data := .seq vs.toArray }, if_pos rfl⟩)) (fun b u z => ?_) (fun b z => ?_) fun _ => hk
  ·by_cases hb : b = a
   ·exact .inr ⟨_, _, if_pos hb⟩
   ·exact .inl (if_neg hb)
  ·by_cases hb : b = a
   ·have z' := (if_pos hb).symm.trans z
    cases z'
    subst hb
    exact ⟨ha, by rw [List.length_map]; exact hl, vs, _, rv, ha⟩
   ·have z' := (if_neg hb).symm.trans z
    cases z'
  ·by_cases hb : b = a
   ·exact hb
   ·exact absurd (if_neg hb) z
end L2
namespace L2
open PySem PySem.Spec PyProof.Rows
theorem walk_of {l : PySem.W.OpenLaw} {n k : Nat} {q : Program} {loose : List Str} {XP : (Str → Option Value) → Heap → Prop} {YP : World → Heap → Prop} {d : DefRec} {K : Params → PySem.W.Frag} {CX : World → CXT} {sp : World → Sp} {x : Str}
  (hn : l.most = some n) (hn2 : n ≤ sizeLine) (hdf : d.params.defaults = []) (hr : Room k callerA)
  (hY : ∀ (w : World) (h : Heap), YP w h → (K w.params).In h)
  (F : ∀ (w : World) (mg : Str → Option Value) (fa : Addr) (h : Heap), (K w.params).In h → h.Ns mainGlobals mg → mg d.name = some (.ref fa) →
   ∃ fd : FuncData, (∀ (s : Shared) (u : Value), BindsTo s fd ⟨[u], []⟩ [(x, u)]) ∧
    ∀ base : Heap, (K w.params).In base → base.Ns mainGlobals mg → FnOk l.prog w (K w.params) mg base (CX w) k fa fd [x] (sp w))
  (hsp : ∀ (w : World) (H : Hp) (a : Addr) (ns : List Int), ns.length ≤ n → Only H → SqL (K w.params) H a (ns.map V.int) → sp w [.ref a] H (fun v _ => v = .bl true) fun _ _ _ => False)
  (hCX : ∀ (w : World) (H : Hp) (s : Shared) (e : Value) (s' : Shared), CX w [] H s (fun _ _ _ => False) e s' → False) :
  PySem.W.WalkO q loose XP YP l.row.toRowW d [] (fun f vs => PySem.call f vs) := by
 refine Att.attach_call hn hdf fun w s₀ s₁ mg mb fa o pm cd doc a vs ns G Y ho hd hcd hmg hobj hints hlen hg => ?_
 have KX := hY w _ Y
 obtain ⟨fd, hb, hF⟩ := F w mg fa _ KX G.T.g hmg
 exact yGC KX G.T.g G.T.b G.T.builtins G.T.nolimit hg hobj hints (Nat.le_trans hlen hn2) hr hF hb (fun H hO hS => hsp w H a ns hlen hO hS) fun H e s' => hCX w H s₁ e s'
end L2
namespace L2
open PySem PySem.Spec PyProof.Rows
def yB (s : Stmt) : Arguments := match s with
 | .FunctionDef _ a _ _ _ _ _ _ _ _ => a
 | _ => { posonlyargs := [], args := [], vararg := none, kwonlyargs := [], kw_defaults := [], kwarg := none, defaults := [] }
def zZ (s : Stmt) : List Stmt := match s with
 | .FunctionDef _ _ b _ _ _ _ _ _ _ => b
 | _ => []
def zG (s : Stmt) : Scope := match s with
 | .FunctionDef _ _ _ _ _ _ sc _ _ _ => sc
 | _ => { kind := .function, names := [], isGenerator := false, isCoroutine := false }
abbrev CX0 : CXT := fun _ _ _ _ _ _ => False
abbrev E0 : XK := fun _ _ _ => False
theorem pass0 {X : Cx} : zZC CX0 X E0 := fun _ _ _ _ _ _ _ h => h.elim
structure Fun (K : PySem.W.Frag) (x qual : Str) (st : Stmt) (f : Addr) (fd : FuncData) : Prop where
 ex : ∃ (oc : Value) (od : Option Addr) (kV doc pm : Value) (an : Option Addr) (cdv ct : Value) (osl : Array (Option Value)),
  fd = PySem.W.fnOf x qual (yB st) (zZ st) (zG st) .none kV doc pm an cdv ct ∧ K.lookup f = some ⟨oc, od, .func fd, osl⟩ ∧ PySem.W.codeIn K cdv qual = true
 kp : PySem.W.keepIn K (.ref f) = true
section
variable {P : Program} {w : World} {K : PySem.W.Frag} {mg : Str → Option Value} {base : Heap}
theorem Fun.ok {x qual : Str} {st : Stmt} {f : Addr} {fd : FuncData} {N ps : List Str} {k : Nat} {sp : Sp} (F : Fun K x qual st f fd) (S : FnScope N ps (zG st)) (len : ∀ vs H Q E, sp vs H Q E → vs.length = ps.length)
  (hbody : ∀ (cdv : Value) (A : Around) (outer : List Env) (s : Shared) (H : Hp) (vs : List V) (Q : VK) (E : XK), Room k (A.deeper (envOfC qual (zG st) s.heap.objs.size f cdv)) → sp vs H Q E →
   ∃ t, PSs (zZD CX0 P w K mg base N qual (zG st) f cdv A outer s H E).nox (zZ st) t ∧ t { nx := fun _ H' => Q .non H', rt := Q } (start N vs) H) : FnOk P w K mg base CX0 (k + 1) f fd ps sp := by
 obtain ⟨oc, od, kV, doc, pm, an, cdv, ct, osl, rfl, lk, hcd⟩ := F.ex
 refine fn_of lk hcd S len fun A outer s H vs Q E hr hsp => ?_
 obtain ⟨t, h, q⟩ := hbody cdv A outer s H vs Q E hr hsp
 exact ⟨t, h.nox, q⟩
theorem Fun.binds {x qual : Str} {st : Stmt} {f : Addr} {fd : FuncData} {ps : List Str} (F : Fun K x qual st f fd)
  (h : ∀ (kV doc pm : Value) (an : Option Addr) (cdv ct : Value) (us : List Value), us.length = ps.length → bindArgs (PySem.W.fnOf x qual (yB st) (zZ st) (zG st) .none kV doc pm an cdv ct) ⟨us, []⟩ = pure (ps.zip us)) : Binds K fd ps [] := by
 obtain ⟨oc, od, kV, doc, pm, an, cdv, ct, osl, rfl, lk, hcd⟩ := F.ex
 exact .all (h kV doc pm an cdv ct)
theorem yS {x qual : Str} {st : Stmt} {f : Addr} {oc : Value} {od an : Option Addr} {osl : Array (Option Value)} {kV doc pm cdv ct : Value} (l : K.lookup f = some ⟨oc, od, .func (PySem.W.fnOf x qual (yB st) (zZ st) (zG st) .none kV doc pm an cdv ct), osl⟩)
  (c : PySem.W.codeIn K cdv qual = true) (k : PySem.W.keepIn K (.ref f) = true) : Fun K x qual st f (PySem.W.fnOf x qual (yB st) (zZ st) (zG st) .none kV doc pm an cdv ct) := ⟨⟨oc, od, kV, doc, pm, an, cdv, ct, osl, rfl, l, c⟩, k⟩
end
section
variable {X : Cx}
theorem pv (i : Nat) {x : Str} {pos : Pos} (hN : X.N[i]? = some x := by rfl) (hv : Vis X.env.scope x := by first | exact Or.inl rfl | exact Or.inr (Or.inl rfl) | exact Or.inr (Or.inr rfl)) (hd : (x == ("__debug__" : Str)) = false := by decide)
  (hcd : (x == ("__classdict__" : Str)) = false := by decide) : PE X (.Name x pos) (tVar i) := yMR hN hv hd hcd
end
def Same (H H' : Hp) : Prop := ∀ b o, H b = some o → H' b = some o
theorem Same.seq {K : PySem.W.Frag} {H H' : Hp} {a : Addr} {xs : List V} (e : Same H H') (h : SqL K H a xs) : SqL K H' a xs := by
 rcases h with (h | ⟨o, h⟩) | h
 ·exact .inl (.inl (e _ _ h))
 ·exact .inl (.inr ⟨o, e _ _ h⟩)
 ·exact .inr h
end L2
set_option maxHeartbeats 4000000
namespace L2
open PySem PySem.Spec PyProof.Rows
def zBU (env : Env) (l : List (Str × NameKind)) (cs : List (Str × Addr)) : List (Str × Addr) :=
 l.foldl (fun c y => if y.2 == .free then (y.1, (env.cells.lookup y.1).getD 0) :: c else c) cs
theorem zTU {α β : Type} {l : List α} {f : α → β → Sem (ForInStep β)} {g : β → α → β} : ∀ (c : β), (∀ x ∈ l, ∀ c, f x c = pure (.yield (g c x))) →
  forIn l c f = pure (l.foldl g c) := by
 induction l with
 | nil => intro c _; rfl
 | cons x l ih =>
  intro c h
  rw [List.forIn_cons, h x List.mem_cons_self, pure_bind]
  exact ih _ fun y hy => h y (List.mem_cons_of_mem _ hy)
theorem zIY {scope : Scope} {env : Env} (h : ∀ y ∈ scope.names, y.2 = .free → ∃ c, env.cells.lookup y.1 = some c) : closureFor scope env = pure (zBU env scope.names []) := by
 unfold closureFor zBU
 dsimp only
 rw [zTU (g := fun c y => if y.2 == .free then (y.1, (env.cells.lookup y.1).getD 0) :: c else c) [] ?_]
 ·rfl
 ·intro y hy c
  obtain ⟨n, k⟩ := y
  by_cases hk : k = .free
  ·subst hk
   obtain ⟨a, ha⟩ := h _ hy rfl
   have ha' : env.cells.lookup n = some a := ha
   simp [cellOf, ha']
  ·have e : (k == NameKind.free) = false := by simpa using hk
   simp [e]
theorem zND {env : Env} : ∀ (l : List (Str × NameKind)) (cs : List (Str × Addr)), (∀ y ∈ l, y.2 = .free → ∃ c, env.cells.lookup y.1 = some c) → (∀ p ∈ cs, env.cells.lookup p.1 = some p.2) →
  ∀ p ∈ zBU env l cs, env.cells.lookup p.1 = some p.2
 | [], _, _, h => h
 | (n, k) :: l, cs, hl, h => by
  refine zND l _ (fun y hy => hl y (List.mem_cons_of_mem _ hy)) fun p hp => ?_
  by_cases hk : k = .free
  ·subst hk
   obtain ⟨c, hc⟩ := hl _ List.mem_cons_self rfl
   have hc' : env.cells.lookup n = some c := hc
   have hp' : p ∈ (n, (env.cells.lookup n).getD 0) :: cs := hp
   rcases List.mem_cons.mp hp' with rfl | hp
   ·show env.cells.lookup n = some ((env.cells.lookup n).getD 0)
    rw [hc']; rfl
   ·exact h p hp
  ·have hp' : p ∈ (if (k == NameKind.free) = true then (n, (env.cells.lookup n).getD 0) :: cs else cs) := hp
   rw [if_neg (by simpa using hk)] at hp'
   exact h p hp'
theorem zOK {env : Env} : ∀ (l : List (Str × NameKind)) (cs : List (Str × Addr)) (p : Str × Addr), p ∈ cs → p ∈ zBU env l cs
 | [], _, _, h => h
 | (n, k) :: l, cs, p, h => by
  refine zOK l _ p ?_
  show p ∈ (if (k == .free) = true then (n, (env.cells.lookup n).getD 0) :: cs else cs)
  split
  ·exact List.mem_cons_of_mem _ h
  ·exact h
theorem zGL {env : Env} : ∀ (l : List (Str × NameKind)) (cs : List (Str × Addr)) (n : Str), (n, NameKind.free) ∈ l → ∃ c, (n, c) ∈ zBU env l cs
 | [], _, _, h => nomatch h
 | (m, k) :: l, cs, n, h => by
  rcases List.mem_cons.mp h with e | h
  ·have e1 : n = m := congrArg Prod.fst e
   have e2 : NameKind.free = k := congrArg Prod.snd e
   subst e1 e2
   exact ⟨(env.cells.lookup n).getD 0, zOK l _ _ List.mem_cons_self⟩
  ·exact zGL l _ n h
theorem zCK {β : Type} : ∀ {l : List (Str × β)} {n : Str}, (∃ c, (n, c) ∈ l) → ∃ c, l.lookup n = some c
 | [], _, h => let ⟨_, z⟩ := h; nomatch z
 | (m, b) :: l, n, h => by
  by_cases e : n = m
  ·subst e
   exact ⟨b, by simp [List.lookup_cons]⟩
  ·obtain ⟨c, hc⟩ := h
   rcases List.mem_cons.mp hc with z | z
   ·cases z; exact absurd rfl e
   ·obtain ⟨c', h'⟩ := zCK ⟨c, z⟩
    refine ⟨c', ?_⟩
    have e' : (n == m) = false := by simpa using e
    simp [List.lookup_cons, e', h']
def zRC (scope osc : Scope) : List (Str × NameKind) := scope.names.map fun (n, k) => if (k == .free && osc.kind == .function && osc.names.lookup n == some .cell) then (n, .cell) else (n, k)
def zOL (osc : Scope) (N : List Str) (sc : Scope) (idx : List Nat) : Bool :=
 decide (sc.kind = .function) && sc.names.all (fun y => decide (y.2 ≠ .cell)) && sc.names.all (fun y => decide (y.2 ≠ .local) || decide (sc.names.lookup y.1 = some .local)) &&
 sc.names.all (fun y => decide (y.2 ≠ .free) || decide (osc.names.lookup y.1 = some .cell) || decide (osc.names.lookup y.1 = some .free)) &&
 idx.all (fun i => match N[i]? with
  | some y => (decide (osc.names.lookup y = some .cell) || decide (osc.names.lookup y = some .free)) && (decide ((zRC sc osc).lookup y = some .cell) || decide ((zRC sc osc).lookup y = some .free))
  | none => false)
def zGM (σ : St) (idx : List Nat) : St := idx.map fun i => (σ[i]?).join
theorem zBV (σ : St) (idx : List Nat) : (zGM σ idx).length = idx.length := by unfold zGM; rw [List.length_map]
def yF (X : Cx) (sc : Scope) (T : List Str) (idx : List Nat) (C : Addr) (s₂ : Shared) (H1 : Hp) (fp : List Addr) : Cx where
 prog := X.prog
 w := X.w
 K := X.K
 mg := X.mg
 base := X.base
 A := X.A
 N := T ++ idx.map fun i => (X.N[i]?).getD Str.empty
 s₀ := s₂
 H₀ := H1
 env := compEnvC sc (zBU X.env sc.names []) C X.env
 outer := X.stack
 stack := X.stack
 ex := fp
 fn := fun _ => false
 calm := X.calm
 pn := []
 xe := fun _ _ => False
def yGD (wi : TI) (g : TG) (tc : Addr → Shared → Hp → List Addr → TT) (te : Addr → Shared → Hp → List Addr → TE) (nt : Nat) (idx : List Nat) : TE := fun σ H Q => wi σ H fun J H1 => ∃ W : Nat → Nat → List V → Hp → Prop, (∃ m, W 0 m [] H1) ∧ ∀ i m ys H2, W i m ys H2 → ys.length ≤ sizeLine ∧
 ((J.stop i H2 ∧ ∀ D, H2 D = none → Q (.ref D) (upd H2 D (.lst ys))) ∨
   (J.go i H2 ∧ ys.length < sizeLine ∧ ∀ x H3, J.yld i H2 x H3 → ∀ τ : St, τ.length = nt → g x (τ ++ zGM σ idx) H3 fun σ4 H4 => (∃ τ', σ4 = τ' ++ zGM σ idx ∧ τ'.length = nt) ∧
    ∀ C s₂ fp, tc C s₂ H1 fp σ4 H4 fun b H5 => if b = true then te C s₂ H1 fp σ4 H5 fun y H6 => ∃ m', m' < m ∧ W (i + 1) m' (ys ++ [y]) H6 else ∃ m', m' < m ∧ W (i + 1) m' ys H5))
section
variable {prog : Program} {w : World} {A : Around} {R : Result → Shared → Prop} {s : Shared}
theorem zKR {elt target iter : Expr} {ifs : List Expr} {scope : Scope} {pos : Pos} {it acc : Value} {env : Env} (I : Nat → Shared → Prop)
  (turn : ∀ n s, I n s → wpAny (model prog w) A (pyNext it) (fun r s₁ => match r with
   | none => R (.ok .next) s₁
   | some v => wpAny (model prog w) A (letOwnedTupleGo target it v) (fun _ s₁' => wpAny (model prog w) A (assign target env v) (fun _ s₂ =>
     wpAny (model prog w) A (forIn ifs true fun c r => if r = true then do let ok ← isTrue c env (eval c env); pure (ForInStep.yield ok) else pure (ForInStep.yield r)) (fun ok s₃ =>
      if ok = true then wpAny (model prog w) A (eval elt env) (fun x s₄ =>
       wpAny (model prog w) A (call (.builtin "list.append") [acc, x]) (fun _ s₅ => ∃ m, m < n ∧ I m s₅) (fun _ _ => False) s₄) (fun _ _ => False) s₃
      else ∃ m, m < n ∧ I m s₃) (fun _ _ => False) s₂) (fun _ _ => False) s₁') (fun _ _ => False) s₁) (fun _ _ => False) s)
  (n : Nat) (h : I n s) : codeAny (model prog w) A (.compLoop (.ListComp elt [⟨target, iter, ifs, 0⟩] scope pos) 0 it acc env) R s := by
 refine codeAny_loop rfl I (fun n s hI => ?_) n h
 show wpAny _ A ((compTurn (.ListComp elt [⟨target, iter, ifs, 0⟩] scope pos) 0 it acc env).onRaise (fun x => do noteFrame x env; theTreesLotGoes x)) _ _ s
 refine wpAny_noted ?_
 rw [compTurn_list]
 have no : ∀ {E' : Value → Shared → Prop} (v : Value) (s' : Shared), False → E' v s' := fun _ _ z => z.elim
 refine wpAny_bind (wpAny_standAt (wpAny_bind (wpAny_mono (turn n s hI) (fun r s₁ h₁ => ?_) (no))))
 cases r with
 | none => exact wpAny_pure h₁
 | some v =>
  refine wpAny_bind (wpAny_mono h₁ (fun _ s₁' h₁' => wpAny_bind (wpAny_mono h₁' (fun _ s₂ h₂ => wpAny_bind (wpAny_mono h₂ (fun ok s₃ h₃ => ?_) no)) no)) no)
  cases ok with
  | false => exact wpAny_pure ⟨rfl, h₃⟩
  | true =>
   exact wpAny_bind (wpAny_bind (wpAny_mono h₃ (fun x s₄ h₄ => wpAny_bind (wpAny_mono h₄ (fun _ s₅ h₅ => wpAny_pure (wpAny_pure ⟨rfl, h₅⟩)) no)) no))
end
def yGE (X : Cx) (ifs : List Expr) (t : TT) : Prop :=
 ∀ (pins : List (Addr × Obj)) (s : Shared) (σ : St) (H : Hp) (Q : Bool → Hp → Prop), Inv X pins σ H s → t σ H Q →
  wpAny (model X.prog X.w) X.A (forIn ifs true fun c r => if r = true then do let ok ← isTrue c X.env (eval c X.env); pure (ForInStep.yield ok) else pure (ForInStep.yield r)) (TP X pins σ Q) X.xe s
def tNoIf : TT := fun _ H Q => Q true H
theorem yGF {X : Cx} : yGE X [] tNoIf := fun _ _ _ H _ I h => wpAny_tests_nil ⟨H, I, h⟩
end L2
namespace L2
open PySem PySem.Spec PyProof.Rows
structure CompF (osc : Scope) (N : List Str) (sc : Scope) (idx : List Nat) : Prop where
 kind : sc.kind = .function
 nocell : ∀ y ∈ sc.names, y.2 ≠ .cell
 locs : ∀ y ∈ sc.names, y.2 = .local → sc.names.lookup y.1 = some .local
 frees : ∀ y ∈ sc.names, y.2 = .free → osc.names.lookup y.1 = some .cell ∨ osc.names.lookup y.1 = some .free
 cap : ∀ i ∈ idx, ∃ y, N[i]? = some y ∧ (osc.names.lookup y = some .cell ∨ osc.names.lookup y = some .free) ∧ ((zRC sc osc).lookup y = some .cell ∨ (zRC sc osc).lookup y = some .free)
theorem yBS {osc : Scope} {N : List Str} {sc : Scope} {idx : List Nat} (h : zOL osc N sc idx = true) : CompF osc N sc idx := by
 unfold zOL at h
 simp only [Bool.and_eq_true, List.all_eq_true, decide_eq_true_eq, Bool.or_eq_true] at h
 obtain ⟨⟨⟨⟨h1, h2⟩, h3⟩, h4⟩, h5⟩ := h
 refine ⟨h1, fun y hy => h2 y hy, fun y hy e => ?_, fun y hy e => ?_, fun i hi => ?_⟩
 ·rcases h3 y hy with z | z
  ·exact absurd e z
  ·exact z
 ·rcases h4 y hy with (z | z) | z
  ·exact absurd e z
  ·exact .inl z
  ·exact .inr z
 ·have q := h5 i hi
  cases e : N[i]? with
  | none => rw [e] at q; cases q
  | some y =>
   rw [e] at q
   simp only [Bool.and_eq_true, decide_eq_true_eq, Bool.or_eq_true] at q
   exact ⟨y, rfl, q.1, q.2⟩
theorem zSI {sc osc : Scope} {x : Str} (hno : ∀ y ∈ sc.names, y.2 ≠ .cell) (h : (zRC sc osc).lookup x = some .cell ∨ (zRC sc osc).lookup x = some .free) : (x, NameKind.free) ∈ sc.names := by
 have key : ∀ k', (k' = .cell ∨ k' = .free) → (x, k') ∈ zRC sc osc → (x, NameKind.free) ∈ sc.names := by
  intro k' hk' hm
  unfold zRC at hm
  obtain ⟨⟨n, k⟩, hy, e⟩ := List.mem_map.mp hm
  dsimp only at e
  split at e
  ·rename_i hc
   cases e
   rw [Bool.and_eq_true, Bool.and_eq_true] at hc
   have : k = .free := by simpa using hc.1.1
   subst this
   exact hy
  ·cases e
   rcases hk' with rfl | rfl
   ·exact absurd rfl (hno _ hy)
   ·exact hy
 rcases h with h | h
 ·exact key _ (.inl rfl) (PySem.mem_of_lookup h)
 ·exact key _ (.inr rfl) (PySem.mem_of_lookup h)
section
variable {X : Cx} {pins : List (Addr × Obj)} {σ : St} {H1 : Hp} {s₂ : Shared} {sc : Scope} {T : List Str} {idx : List Nat} {C : Addr} {fp : List Addr}
theorem zOM (I : Inv X pins σ H1 s₂) (F : CompF X.env.scope X.N sc idx) : ∀ y ∈ sc.names, y.2 = .free → ∃ c, X.env.cells.lookup y.1 = some c :=
 fun y hy e => I.ok.has y.1 (F.frees y hy e)
theorem kM (I : Inv X pins σ H1 s₂) (F : CompF X.env.scope X.N sc idx) {x : Str} {c : Addr} (e : (zBU X.env sc.names []).lookup x = some c) : X.env.cells.lookup x = some c :=
 zND sc.names [] (zOM I F) (fun _ z => nomatch z) (x, c) (PySem.mem_of_lookup e)
theorem yJT (I : Inv X pins σ H1 s₂) (F : CompF X.env.scope X.N sc idx) {x : Str} {c : Addr} (hx : (x, NameKind.free) ∈ sc.names) (e : X.env.cells.lookup x = some c) : (zBU X.env sc.names []).lookup x = some c := by
 obtain ⟨c', h'⟩ := zCK (zGL (env := X.env) sc.names [] x hx)
 rw [h']
 rw [kM I F h'] at e
 exact e
theorem yDS (I : Inv X pins σ H1 s₂) (F : CompF X.env.scope X.N sc idx) (hC : s₂.heap.objs.size ≤ C) (hfp : ∀ b ∈ fp, zJK X pins H1 b) (hlt : ∀ b ∈ fp, b < s₂.heap.objs.size) : (yF X sc T idx C s₂ H1 fp).Ok where
 mod := I.ok.mod
 kind := F.kind
 glob := I.ok.glob
 blt := I.ok.blt
 above := hC
 inj := fun x y c h1 h2 => I.ok.inj x y c (kM I F h1) (kM I F h2)
 has := fun x hx => by
  have hx' : (zRC sc X.env.scope).lookup x = some .cell ∨ (zRC sc X.env.scope).lookup x = some .free := hx
  exact zCK (zGL sc.names [] x (zSI F.nocell hx'))
 cab := fun x c h _ => nomatch h
 hd := I.ok.hd
 frames := I.ok.frames
 stk := .inl rfl
 exf := fun b hb => ⟨Nat.ne_of_lt (Nat.lt_of_lt_of_le (hlt b hb) hC), fun x c e => (hfp b hb).2.2.2.2.1 x c (kM I F e)⟩
 bs := I.bs
 bsz := Nat.le_trans I.ok.bsz I.sz
 noex := fun b o e hb => by
  rcases (hfp b hb).2.2.2.1 with z | z
  ·exact I.ok.noex b o e z
  ·exact absurd (Nat.lt_of_lt_of_le (Heap.lt_size e) (Nat.le_trans I.ok.bsz z)) (Nat.lt_irrefl _)
 exfs := fun b hb z => by
  rcases List.mem_cons.mp (I.stkSub b z) with e | e
  ·exact (hfp b hb).2.1 e
  ·exact (hfp b hb).2.2.1 e
 funs := I.stack
 frf := I.stkFree
theorem zON {s₄ : Shared} {m : Str → Option Value} (I : Inv X pins σ H1 s₂) (F : CompF X.env.scope X.N sc idx) (hC : s₂.heap.objs.size ≤ C) (hfp : ∀ b ∈ fp, zJK X pins H1 b) (hlt : ∀ b ∈ fp, b < s₂.heap.objs.size)
  (kp : ∀ b o, s₂.heap.get? b = some o → s₄.heap.get? b = some o) (ho : s₄.os = s₂.os) (hg : s₄.gens = s₂.gens) (hn : s₄.heap.Ns C m) :
  Inv (yF X sc T idx C s₂ H1 fp) [] (T.map (fun _ => none) ++ zGM σ idx) H1 s₄ := by
 have cellK : ∀ c v, s₂.heap.IsCell c v → s₄.heap.IsCell c v := fun c v ⟨o, h1, h2⟩ => ⟨o, kp c o h1, h2⟩
 refine ⟨yDS I F hC hfp hlt, ho, by rw [hg]; exact I.bare, Un.kept kp, ⟨m, hn, fun i x v e1 e2 e3 => ?_⟩, fun x c e => ?_, I.hok.fresh hC, fun x c e => I.freeC x c (kM I F e), fun p hp => absurd (show p ∈ ([] : List (Addr × Obj)) from hp) (by simp), I.hok.kept kp, ?_⟩
 ·have e1' : (T ++ idx.map fun i => (X.N[i]?).getD Str.empty)[i]? = some x := e1
  by_cases hi : i < T.length
  ·rw [zQ2 (by simpa using hi), List.getElem?_map] at e2
   cases z : T[i]? with
   | none => rw [z] at e2; cases e2
   | some y => rw [z] at e2; cases e2
  ·rw [List.getElem?_append_right (by simpa using hi)] at e2
   rw [List.getElem?_append_right (by omega)] at e1'
   rw [List.length_map] at e2
   unfold zGM at e2
   rw [List.getElem?_map] at e1' e2
   cases z : idx[i - T.length]? with
   | none => rw [z] at e2; cases e2
   | some j =>
    rw [z] at e1' e2
    have hj : j ∈ idx := List.mem_of_getElem? z
    obtain ⟨y, hy, k1, k2⟩ := F.cap j hj
    have ex : y = x := by
     have q : (X.N[j]?).getD Str.empty = x := Option.some.inj e1'
     rw [hy] at q; exact q
    subst ex
    have ev : σ[j]? = some (some v) := by
     have q : (σ[j]?).join = some v := Option.some.inj e2
     cases w' : σ[j]? with
     | none => rw [w'] at q; cases q
     | some a => rw [w'] at q; have q' : a = some v := q; rw [q']
    obtain ⟨m0, hn0, hl0⟩ := I.loc
    have vis : Vis X.env.scope y := k1.elim (fun z => .inr (.inl z)) fun z => .inr (.inr z)
    obtain ⟨u, r, l⟩ := hl0 j y v hy ev vis
    refine ⟨u, r, ?_⟩
    rcases l with ⟨kl, _⟩ | ⟨_, c, hc, q⟩
    ·have kl' : X.env.scope.names.lookup y = some .local := kl
     rcases k1 with z | z <;> rw [z] at kl' <;> cases kl'
    ·exact .inr ⟨k2, c, yJT I F (zSI F.nocell k2) hc, cellK c _ q⟩
 ·obtain ⟨v, q⟩ := I.cell x c (kM I F e)
  exact ⟨v, cellK c v q⟩
 ·show (T.map (fun _ => (none : Option V)) ++ zGM σ idx).length = (T ++ idx.map fun i => (X.N[i]?).getD Str.empty).length
  rw [zQ4, zQ4, List.length_map, List.length_map, zBV]
theorem zOO {σ1 : St} {H' : Hp} {s' : Shared} {h' : Heap} {D : Addr} {ys : List V} {its : List Value} {n : Nat} (I : Inv X pins σ H1 s₂) (hC : s₂.heap.objs.size ≤ C) (hfp : ∀ b ∈ fp, zJK X pins H1 b)
  (J : Inv (yF X sc T idx C s₂ H1 fp) [] σ1 H' s') (hs : Heap.SameBut C s'.heap h') (hD : s₂.heap.objs.size ≤ D) (hDC : D ≠ C) (eD : s'.heap.get? D = some { cls := .type "list", data := .seq its.toArray n }) (nD : H' D = none) (r : Vals ys its) (hz : ys.length ≤ sizeLine) :
  Inv X pins σ (upd H' D (.lst ys)) { s' with heap := h' } := by
 have old : ∀ b o, s₂.heap.get? b = some o → b ≠ C ∧ b ≠ D := fun b o e => ⟨Nat.ne_of_lt (Nat.lt_of_lt_of_le (Heap.lt_size e) hC), Nat.ne_of_lt (Nat.lt_of_lt_of_le (Heap.lt_size e) hD)⟩
 have oldH : ∀ b u, H1 b = some u → b ≠ D := fun b u e => Nat.ne_of_lt (Nat.lt_of_lt_of_le (I.hok.lt e) hD)
 have nC : H' C = none := J.free
 have B : Un (frs X.stack) fp H1 H' s₂.heap s'.heap := J.base
 have mv : ∀ b o, b ≠ C → s'.heap.get? b = some o → h'.get? b = some o := fun b o hb e => (hs.2 b hb).trans e
 refine I.call' (s' := { s' with heap := h' }) (ch := fp) J.os ⟨fun b o e q hb hx => ?_, fun b o e q hb hx => ?_, fun b o e q hx => ?_, fun b o e hx => ?_, fun b xs e => ?_, fun b o u e => ?_, fun b ps e => ?_⟩ ?_ J.bare fun b hb => ⟨(hfp b hb).2.2.2.1, (hfp b hb).2.1, (hfp b hb).2.2.2.2.1, (hfp b hb).2.2.2.2.2⟩
 ·exact mv b o (old b o e).1 (B.keep b o e q hb hx)
 ·obtain ⟨sl, z⟩ := B.slot b o e q hb hx
  exact ⟨sl, mv b _ (old b o e).1 z⟩
 ·rw [yP (old b o e).2]; exact B.free b o e q hx
 ·obtain ⟨o', z⟩ := B.there b o e hx
  exact ⟨o', mv b o' (old b o e).1 z⟩
 ·rw [yP (oldH b _ e)]; exact B.tups b xs e
 ·rw [yP (oldH b _ e)]; exact B.frzs b o u e
 ·obtain ⟨more, z⟩ := B.tbls b ps e
  exact ⟨more, by rw [yP (oldH b _ e)]; exact z⟩
 ·intro b u e
  by_cases hb : b = D
  ·subst hb
   rw [wR] at e; cases e
   exact ⟨hz, its, n, r, mv b _ hDC eD⟩
  ·rw [yP hb] at e
   refine (J.hok b u e).stay (fun c v hc q => mv c v ?_ q) (fun c q => by rw [yP (yV q nD)]; exact q) fun c xs q => by rw [yP (yV q nD)]; exact q
   rcases hc with z | z
   ·rw [z]; exact yV e nC
   ·exact yV z nC
end
end L2
namespace L2
open PySem PySem.Spec PyProof.Rows
section
variable {X : Cx}
theorem yJU {elt tg iter : Expr} {ifs : List Expr} {pos : Pos} {sc : Scope} {wi : TI} {g : TG} {tc : Addr → Shared → Hp → List Addr → TT} {te : Addr → Shared → Hp → List Addr → TE} (T : List Str) (idx : List Nat)
  (hi : PI X tg iter wi) (hcalm : X.calm = true) (hB : zOL X.env.scope X.N sc idx = true)
  (hg : ∀ C s₂ H1 fp, PG (yF X sc T idx C s₂ H1 fp) tg g)
  (hc : ∀ C s₂ H1 fp, yGE (yF X sc T idx C s₂ H1 fp) ifs (tc C s₂ H1 fp))
  (he : ∀ C s₂ H1 fp, PE (yF X sc T idx C s₂ H1 fp) elt (te C s₂ H1 fp))
  (hs : ∀ x, foldedSetIterable iter X.env x = pure x := by intro _; rfl) :
  PE X (.ListComp elt [⟨tg, iter, ifs, 0⟩] sc pos) (yGD wi g tc te T.length idx) := by
 intro pins s σ H Q I h
 rw [eval_ListComp]
 have cf := yBS hB
 refine wpAny_comprehension_free (use := none) (cl := zBU X.env sc.names []) rfl hs (zIY (zOM I cf)) cf.kind cf.locs ?_
 refine thn (hi pins s σ H _ I h) fun v s1 h1 => thn h1 fun itv s2 h2 => ?_
 obtain ⟨it, fp, tn, J, H2, e, I2, Tn, st2, f2, W, ⟨m0, w0⟩, turn⟩ := h2
 subst e
 have hlt : ∀ b ∈ fp, b < s2.heap.objs.size := fun b hb => let ⟨o, e, _⟩ := Tn.obj _ _ st2 b hb; Heap.lt_size e
 refine wpAny_newObj_type (wpAny_newFunctionEnv cf.nocell (by intro y hy; simp at hy) (fun h₁ hns₁ hsb₁ => ?_) cf.kind)
 dsimp only at hns₁ hsb₁ ⊢
 generalize hH2 : s2.heap.push { cls := .type "list", dict := none, data := .seq ([] : List Value).toArray } = HH at hns₁ hsb₁ ⊢
 have hC : HH.objs.size = s2.heap.objs.size + 1 := by rw [← hH2, Heap.size_push]
 have hDC : s2.heap.objs.size ≠ HH.objs.size := by rw [hC]; exact Nat.ne_of_lt (Nat.lt_succ_self _)
 have hCle : s2.heap.objs.size ≤ HH.objs.size := by rw [hC]; exact Nat.le_succ _
 have old : ∀ b o, s2.heap.get? b = some o → h₁.get? b = some o := fun b o e => hsb₁.extBut b o (by rw [hC]; exact Nat.ne_of_lt (Nat.lt_succ_of_lt (Heap.lt_size e))) (Heap.get?_push_of_some _ (hH2 ▸ Heap.get?_push_of_some _ e))
 have eD0 : h₁.get? s2.heap.objs.size = some { cls := .type "list", data := .seq ([] : List Value).toArray 0 } := hsb₁.extBut _ _ hDC (Heap.get?_push_of_some _ (hH2 ▸ Heap.get?_push_size _ rfl))
 have nD0 : H2 s2.heap.objs.size = none := I2.hok.fresh (Nat.le_refl _)
 have cD : ∀ x c, (zBU X.env sc.names []).lookup x = some c → c ≠ s2.heap.objs.size := fun x c e => by
  obtain ⟨v, q⟩ := I2.cell x c (kM I2 cf e)
  exact Nat.ne_of_lt q.lt
 have loop : ∀ s4 : Shared, s4 = { s2 with heap := h₁, toks := s2.toks + ([] : List (Str × Value)).length } →
   codeAny (model X.prog X.w) X.A (.compLoop (.ListComp elt [⟨tg, iter, ifs, 0⟩] sc pos) 0 (.ref it) (.ref s2.heap.objs.size) (compEnvC sc (zBU X.env sc.names []) HH.objs.size X.env))
    (compPost (model X.prog X.w) X.A X.xe none (EP X pins σ Q) (.ref s2.heap.objs.size) HH.objs.size) s4 := by
  rintro s4 rfl
  have J0 : Inv (yF X sc T idx HH.objs.size s2 H2 fp) [] (T.map (fun _ => none) ++ zGM σ idx) H2 { s2 with heap := h₁, toks := s2.toks + ([] : List (Str × Value)).length } :=
   zON I2 cf hCle f2 hlt old rfl rfl hns₁
  refine zKR (fun k s' => ∃ (i : Nat) (ys : List V) (its : List Value) (n : Nat) (H' : Hp) (τ : St), Inv (yF X sc T idx HH.objs.size s2 H2 fp) [] (τ ++ zGM σ idx) H' s' ∧ τ.length = T.length ∧ tn i s'.heap ∧ (∀ b ∈ fp, H' b = none) ∧
   s'.heap.get? s2.heap.objs.size = some { cls := .type "list", data := .seq its.toArray n } ∧ H' s2.heap.objs.size = none ∧ Vals ys its ∧ W i k ys H') ?_ m0
   ⟨0, [], [], 0, H2, T.map (fun _ => none), J0, by rw [List.length_map], Tn.keep _ _ _ st2 fun b _ o e => old b o e, fun b hb => (f2 b hb).1, eD0, nD0, .nil, w0⟩
  rintro k s3 ⟨i, ys, its, n, H3, τ, I3, hτ, st3, fr3, eD3, nD3, r3, w3⟩
  obtain ⟨hz, alt⟩ := turn i k ys H3 w3
  have hDfs : s2.heap.objs.size ∉ (yF X sc T idx HH.objs.size s2 H2 fp).fs := fun z => by
   obtain ⟨_, o, ho, _⟩ := I2.stack.mem (show s2.heap.objs.size ∈ frs X.stack from z)
   exact absurd (Heap.lt_size ho) (Nat.lt_irrefl _)
  have pinD : ∀ {H' : Hp} {s' : Shared}, s'.heap.get? s2.heap.objs.size = some { cls := .type "list", data := .seq its.toArray n } → H' s2.heap.objs.size = none →
    ∀ p ∈ [(s2.heap.objs.size, ({ cls := .type "list", data := .seq its.toArray n } : Obj))], s'.heap.get? p.1 = some p.2 ∧ H' p.1 = none ∧ p.1 ≠ (yF X sc T idx HH.objs.size s2 H2 fp).env.locals ∧ p.1 ∉ (yF X sc T idx HH.objs.size s2 H2 fp).fs ∧ ∀ v, p.2.data ≠ .cell v :=
   fun {H' s'} e1 e2 p hp => by
    have ep : p = (s2.heap.objs.size, { cls := .type "list", data := .seq its.toArray n }) := by simpa using hp
    subst ep
    exact ⟨e1, e2, hDC, hDfs, fun v z => by cases z⟩
  have P3 : Inv (yF X sc T idx HH.objs.size s2 H2 fp) [(s2.heap.objs.size, { cls := .type "list", data := .seq its.toArray n })] (τ ++ zGM σ idx) H3 s3 := I3.pins_of (pinD eD3 nD3)
  have stat : ∀ {H' : Hp}, (∀ b ∈ fp, H' b = none) → ∀ b ∈ fp, zJK (yF X sc T idx HH.objs.size s2 H2 fp) [(s2.heap.objs.size, { cls := .type "list", data := .seq its.toArray n })] H' b := fun {H'} hn b hb => by
   have hb2 := hlt b hb
   refine ⟨hn b hb, Nat.ne_of_lt (Nat.lt_of_lt_of_le hb2 hCle), I3.ok.exfs b hb, .inl hb, fun x c e => (f2 b hb).2.2.2.2.1 x c (kM I2 cf e), fun p hp => ?_⟩
   have ep : p = (s2.heap.objs.size, ({ cls := .type "list", data := .seq its.toArray n } : Obj)) := by simpa [yF] using hp
   subst ep
   exact Nat.ne_of_gt hb2
  rcases alt with ⟨stop, q⟩ | ⟨go, hl2, step⟩
  ·refine thn (Tn.done (yF X sc T idx HH.objs.size s2 H2 fp) rfl rfl rfl hcalm i _ s3 _ H3 (fun _ _ => False) P3 (stat fr3) st3 stop) fun r s4 ⟨hr, I4⟩ => ?_
   subst hr
   obtain ⟨m, hn, _⟩ := id I4.loc
   refine ⟨m, hn, fun h' hs' => ?_⟩
   have eD4 := (I4.pin (s2.heap.objs.size, { cls := .type "list", data := .seq its.toArray n }) (by simp)).1
   exact ⟨.ref s2.heap.objs.size, _, zOO I2 hCle f2 (I4.pins_of (fun p hp => nomatch hp)) hs' (Nat.le_refl _) hDC eD4 nD3 r3 hz, rfl, q _ nD3⟩
  ·refine thn (Tn.item (yF X sc T idx HH.objs.size s2 H2 fp) rfl rfl rfl hcalm i _ s3 _ H3 (fun _ _ => False) P3 (stat fr3) st3 go) fun r s4 ⟨u, hr, h4⟩ => ?_
   subst hr
   refine thn h4 fun _ s5 ⟨x, H5, I5, r5, y5, st5, fr5⟩ => ?_
   have I5' := I5.pinned (stat fr5) (Tn.obj _ _ st5)
   refine thn (hg HH.objs.size s2 H2 fp _ s5 _ H5 x u _ I5' r5 (step x H5 y5 τ hτ)) fun _ s6 ⟨σ6, H6, I6, ⟨τ', e6, l6⟩, q6⟩ => ?_
   subst e6
   refine thn (hc HH.objs.size s2 H2 fp _ s6 _ H6 _ I6 (q6 HH.objs.size s2 fp)) fun ok s7 ⟨H7, I7, q7⟩ => ?_
   have mD : (s2.heap.objs.size, ({ cls := .type "list", data := .seq its.toArray n } : Obj)) ∈ (yF X sc T idx HH.objs.size s2 H2 fp).pn ++ ([(s2.heap.objs.size, { cls := .type "list", data := .seq its.toArray n })] ++ zGK fp s5.heap) :=
    List.mem_append_right _ (List.mem_append_left _ (by simp))
   have mF : ∀ b ∈ fp, ∀ o, s5.heap.get? b = some o → (b, o) ∈ (yF X sc T idx HH.objs.size s2 H2 fp).pn ++ ([(s2.heap.objs.size, { cls := .type "list", data := .seq its.toArray n })] ++ zGK fp s5.heap) := fun b hb o e =>
    List.mem_append_right _ (List.mem_append_right _ (zEA hb e))
   cases ok with
   | false =>
    rw [if_neg zQ3] at q7 ⊢
    obtain ⟨m', hm', w7⟩ := q7
    refine ⟨m', hm', i + 1, ys, its, n, H7, τ', I7.pins_of (fun p hp => nomatch hp), l6, Tn.keep _ _ _ st5 fun b hb o e => (I7.pin _ (mF b hb o e)).1, fun b hb => ?_, (I7.pin _ mD).1, (I7.pin _ mD).2.1, r3, w7⟩
    obtain ⟨o, e, d⟩ := Tn.obj _ _ st5 b hb
    exact (I7.pin _ (mF b hb o e)).2.1
   | true =>
    rw [if_pos rfl] at q7 ⊢
    refine thn (he HH.objs.size s2 H2 fp _ s7 _ H7 _ I7 q7) fun y s8 ⟨yv, H8, I8, r8, m', hm', w8⟩ => ?_
    have eD8 := (I8.pin _ mD).1
    have nD8 := (I8.pin _ mD).2.1
    have hl := r3.length
    have q := PySem.IsL.update eD8 (fun z => z.push y)
    rw [show its.toArray.push y = (its ++ [y]).toArray by simp] at q
    refine call_meets PySem.F.slot_list_append ⟨_, eD8, rfl⟩ PySem.F.entry_list_append (PySem.F.args_list_append_2 _ _) (PySem.list_append s2.heap.objs.size its.toArray n y (by rw [List.size_toArray]; omega)) ⟨eD8, ?_⟩
    have I9 : Inv (yF X sc T idx HH.objs.size s2 H2 fp) [] (τ' ++ zGM σ idx) H8 s8 := I8.pins_of (fun p hp => nomatch hp)
    have up : ∀ b o, b ≠ s2.heap.objs.size → s8.heap.get? b = some o → (s8.heap.update s2.heap.objs.size (Obj.mapSeq fun z => z.push y)).get? b = some o := fun b o hb e => (Heap.get?_update_other s8.heap _ (Ne.symm hb)).trans e
    refine ⟨m', hm', i + 1, ys ++ [yv], its ++ [y], _, H8, τ', I9.turned (t' := s8.toks) up nD8 hDC (.inr (Nat.le_refl _)) cD (fun p hp => nomatch hp), l6, ?_, fun b hb => ?_, q, nD8, r3.append (.cons r8 .nil), w8⟩
    ·exact Tn.keep _ _ _ st5 fun b hb o e => up b o (Nat.ne_of_lt (hlt b hb)) (I8.pin _ (mF b hb o e)).1
    ·obtain ⟨o, e, d⟩ := Tn.obj _ _ st5 b hb
     exact (I8.pin _ (mF b hb o e)).2.1
 exact codeAny_compStart_list (loop _ rfl) (Tn.self X.A 0 _ _ _ (Tn.keep _ _ _ st2 fun b _ o e => old b o e) (loop _ rfl))
end
end L2
namespace L2
open PySem PySem.Spec PyProof.Rows
def mkS (x : List Nat) : Str := ⟨x.toArray⟩
theorem jZ (x : List Nat) : (mkS x).length = x.length := by simp [mkS, Str.length]
theorem zEB (x : List Nat) : (mkS x).cps.toList = x := by simp [mkS]
theorem zNX {x y : List Nat} (h : mkS x = mkS y) : x = y := by
 have := congrArg (fun s => s.cps.toList) h
 simpa [mkS] using this
theorem yJV (x y : List Nat) : mkS x ++ mkS y = mkS (x ++ y) := by
 show Str.append (mkS x) (mkS y) = _
 simp [Str.append, mkS]
theorem yJW (c : Nat) : (⟨#[c]⟩ : Str) = mkS [c] := rfl
def bK {α : Type} (xs : List α) (lo hi : Option Int) : List α := (xs.drop (HT.sIx xs.length 0 lo)).take (HT.sIx xs.length xs.length hi - HT.sIx xs.length 0 lo)
theorem strIdx (lo hi : Option Int) (n : Nat) : Builtin.Str.strSliceIndices lo hi 1 n = (List.range (HT.sIx n n hi - HT.sIx n 0 lo)).map (HT.sIx n 0 lo + ·) := by
 have e1 : (match lo with | none => (if (1 : Int) > 0 then (0 : Int) else (n : Int) - 1) | some i => if (1 : Int) > 0 then max 0 (min (if i < 0 then i + (n : Int) else i) (n : Int)) else max (-1) (min (if i < 0 then i + (n : Int) else i) ((n : Int) - 1))) = ((HT.sIx n 0 lo : Nat) : Int) := by
  cases lo with
  | none => simp [HT.sIx]
  | some i =>
   simp only [HT.sIx, show (1 : Int) > 0 by decide, if_true]
   by_cases h : i < 0
   ·simp only [h, if_true]; omega
   ·simp only [h, if_false]; omega
 have e2 : (match hi with | none => (if (1 : Int) > 0 then (n : Int) else -1) | some i => if (1 : Int) > 0 then max 0 (min (if i < 0 then i + (n : Int) else i) (n : Int)) else max (-1) (min (if i < 0 then i + (n : Int) else i) ((n : Int) - 1))) = ((HT.sIx n n hi : Nat) : Int) := by
  cases hi with
  | none => simp [HT.sIx]
  | some i =>
   simp only [HT.sIx, show (1 : Int) > 0 by decide, if_true]
   by_cases h : i < 0
   ·simp only [h, if_true]; omega
   ·simp only [h, if_false]; omega
 rw [← sliceRange_one]
 unfold Builtin.Str.strSliceIndices
 dsimp only
 rw [← e1, ← e2]
 cases lo <;> cases hi <;> rfl
theorem yDT (x : List Nat) (lo hi : Option Int) : Txt.slice (mkS x) lo hi = mkS (bK x lo hi) := by
 unfold Txt.slice
 rw [strIdx, jZ]
 have hp : ((List.range (HT.sIx x.length x.length hi - HT.sIx x.length 0 lo)).map (HT.sIx x.length 0 lo + ·)).filterMap ((mkS x).cps[·]?) = bK x lo hi := by
  have := pick_run (mkS x).cps (HT.sIx x.length 0 lo) (HT.sIx x.length x.length hi - HT.sIx x.length 0 lo)
  rw [zEB] at this
  exact this
 rw [hp]
 split
 ·rename_i hc
  rw [Bool.and_eq_true] at hc
  have hl : HT.sIx x.length x.length hi - HT.sIx x.length 0 lo = x.length := by simpa using hc.2
  have h2 : HT.sIx x.length x.length hi ≤ x.length := HT.sIx_le _ _ (Nat.le_refl _) _
  have h3 : HT.sIx x.length 0 lo ≤ x.length := HT.sIx_le _ _ (Nat.zero_le _) _
  have e : HT.sIx x.length 0 lo = 0 := by omega
  unfold bK
  rw [hl, e]
  simp
 ·rfl
section
variable {X : Cx}
def rSlS : V → Option Int → Option Int → Hp → VK → Prop := fun x lo hi H Q => ∃ cs, x = .str (mkS cs) ∧ cs.length ≤ sizeLine ∧ Q (.str (mkS (bK cs lo hi))) H
theorem yNV : SlR X rSlS := by
 intro pins s σ H x v vl vu lo hi sl Q I rx hs pl pu h
 obtain ⟨cs, rfl, hz, q⟩ := h
 obtain ⟨t, rfl⟩ := rx
 have hl : (Txt.slice (mkS cs) lo hi).length ≤ sizeLine := Nat.le_trans (Txt.slice_le _ _ _) (by rw [jZ]; exact hz)
 rw [← yDT] at q
 refine ⟨"str", _, slot_str_getitem.lookup, typeIs_str _ _ _, ?_⟩
 obtain ⟨o, ho, hc, hd⟩ := hs
 cases pl with
 | none =>
  cases pu with
  | none => exact wpAny_getItem_str_slice (l := none) (u := none) (st := none) ⟨o, ho, hc, hd⟩ rfl (post_val_or_str ⟨hl, fun t' k => ⟨.str _, H, I.tok _, ⟨_, rfl⟩, q⟩⟩)
  | int j uj => exact wpAny_getItem_str_slice (l := none) (u := some (j, uj)) (st := none) ⟨o, ho, hc, hd⟩ rfl (post_val_or_str ⟨hl, fun t' k => ⟨.str _, H, I.tok _, ⟨_, rfl⟩, q⟩⟩)
 | int i ui =>
  cases pu with
  | none => exact wpAny_getItem_str_slice (l := some (i, ui)) (u := none) (st := none) ⟨o, ho, hc, hd⟩ rfl (post_val_or_str ⟨hl, fun t' k => ⟨.str _, H, I.tok _, ⟨_, rfl⟩, q⟩⟩)
  | int j uj => exact wpAny_getItem_str_slice (l := some (i, ui)) (u := some (j, uj)) (st := none) ⟨o, ho, hc, hd⟩ rfl (post_val_or_str ⟨hl, fun t' k => ⟨.str _, H, I.tok _, ⟨_, rfl⟩, q⟩⟩)
theorem zDL : OpR X (compareOp .LtE) (fun x y H Q => ∃ i j, x = .str i ∧ y = .str j ∧ Q (.bl (!(j.cps.toList < i.cps.toList))) H) := by
 intro pins s σ H x y v u Q I rx ry h
 obtain ⟨i, j, rfl, rfl, q⟩ := h
 obtain ⟨t, rfl⟩ := rx
 obtain ⟨t', rfl⟩ := ry
 exact PySem.P.le_str ⟨.bl _, H, I, rfl, q⟩
def zOP (cs : List Nat) (k : Int) : List Nat := (List.replicate k.toNat cs).flatten
theorem zMI (cs : List Nat) : ∀ (k : Nat) (acc : List Nat), List.foldl (fun x1 x2 => x1 ++ x2) acc.toArray (List.replicate k cs.toArray) = (acc ++ (List.replicate k cs).flatten).toArray
 | 0, acc => by simp
 | k + 1, acc => by
  rw [List.replicate_succ, List.foldl_cons, List.replicate_succ, List.flatten_cons, ← List.append_assoc, ← zMI cs k (acc ++ cs)]
  simp
theorem zZH : OpR X (binaryOp .Mult) (fun x y H Q => ∃ cs k, x = .str (mkS cs) ∧ y = .int k ∧ 0 ≤ k ∧ k < 1000 ∧ cs.length ≤ 1000 ∧ Q (.str (mkS (zOP cs k))) H) := by
 intro pins s σ H x y v u Q I rx ry h
 obtain ⟨cs, k, rfl, rfl, h0, h1, hc, q⟩ := h
 obtain ⟨t, rfl⟩ := rx
 obtain ⟨t', rfl⟩ := ry
 have hs : sizeLine = 16777216 := sizeLine_eq
 have hprod : cs.length * k.toNat ≤ 1000 * 1000 := Nat.mul_le_mul hc (by omega)
 have e : ∀ b, Q (.str b) H → b = mkS (zOP cs k) → True := fun _ _ _ => trivial
 refine PySem.P.mul_str (by rw [decide_eq_false (by omega), decide_eq_false (by omega)]; rfl) (fun h2 _ => ?_) (fun _ _ => ?_) ?_
 ·rw [jZ]
  have hk : 1 ≤ k := by omega
  have : (1000 : Int) ≤ (2 ^ 63 - 1) / k := by
   rw [Int.le_ediv_iff_mul_le (by omega)]
   omega
  omega
 ·rw [jZ]
  unfold PySem.Builtin.Str.tooLong
  exact decide_eq_false (by omega)
 ·have made : ∀ (z : Str), z = mkS (zOP cs k) → z.length ≤ sizeLine → (Made.str z).post (EP X pins σ Q) s := fun z ez hz => ⟨hz, by rw [ez]; exact ⟨.str _, H, I.tok _, ⟨_, rfl⟩, q⟩⟩
  have hlen : (zOP cs k).length = k.toNat * cs.length := by
   unfold zOP; rw [len_rep]
  by_cases hn : k < 1
  ·rw [if_pos hn]
   have hk : k.toNat = 0 := by omega
   refine made _ ?_ (by decide)
   unfold zOP; rw [hk]; rfl
  ·rw [if_neg hn]
   by_cases h3 : (k == 1 || (mkS cs).length == 0) = true
   ·rw [if_pos h3]
    refine ⟨.str (mkS cs), H, I, ⟨_, rfl⟩, ?_⟩
    have : zOP cs k = cs := by
     unfold zOP
     rw [Bool.or_eq_true] at h3
     rcases h3 with h3 | h3
     ·have : k = 1 := by simpa using h3
      subst this
      simp
     ·rw [jZ] at h3
      have : cs = [] := by cases cs with | nil => rfl | cons _ _ => simp at h3
      subst this
      simp
    rw [this] at q
    exact q
   ·rw [if_neg h3]
    refine made _ ?_ ?_
    ·unfold zOP mkS
     have := zMI cs k.toNat []
     rw [List.nil_append] at this
     exact congrArg Str.mk this
    ·have e3 : (List.foldl (fun x1 x2 => x1 ++ x2) #[] (List.replicate k.toNat (mkS cs).cps)) = (zOP cs k).toArray := by
      have := zMI cs k.toNat []
      rw [List.nil_append] at this
      exact this
     show (List.foldl (fun x1 x2 => x1 ++ x2) #[] (List.replicate k.toNat (mkS cs).cps)).size ≤ sizeLine
     rw [e3, List.size_toArray, hlen, Nat.mul_comm]
     omega
theorem jN : CallR X (.builtin "all") (fun xs H Q => ∃ (a : Addr) (bs : List Bool), xs = [.ref a] ∧ SqL X.K H a (bs.map V.bl) ∧ X.calm = true ∧ Q (.bl (bs.all id)) H) := by
 intro pins s σ H xs us Q I r h
 obtain ⟨a, bs, rfl, hq, hc, q⟩ := h
 obtain ⟨u, rfl, ru⟩ := vals1 r
 cases ru
 obtain ⟨its, rv, pl, hz⟩ := I.list hq
 have hlen : its.length = bs.length := by rw [← rv.length, List.length_map]
 refine PySem.call_all_walk (wpAny_pyIter_list pl.isList ?_)
 have hI : a ≠ s.heap.objs.size := by
  obtain ⟨o, ho, _⟩ := pl.isList
  exact Nat.ne_of_lt (Heap.lt_size ho)
 have I1 : ∀ (h' : Heap) (tk : Nat), (∀ b o, b ∉ [s.heap.objs.size] → (s.heap.push { cls := .type "list_iterator", data := .fields #[.ref a, .int 0 0] }).get? b = some o → h'.get? b = some o) → Inv X pins σ H { s with heap := h', toks := tk } := fun h' tk k =>
  I.kept fun b o e => k b o (by simpa using Nat.ne_of_lt (Heap.lt_size e)) (Heap.get?_push_of_some _ e)
 refine ⟨s.heap.objs.size, [s.heap.objs.size, a], [s.heap.objs.size], its.toArray.size, _, _, fun i => bs.getD i false, rfl, PySem.Walks.list (by first | exact I.ok.hd hc | exact (show X.A.in1.handled = none from I.ok.hd hc)) _ a hI its.toArray, ⟨⟨_, Heap.get?_push_size _ rfl, rfl, rfl⟩, pl.isList.at fun o e => Heap.get?_push_of_some _ e⟩, ?_, fun h' tk k => ?_⟩
 ·intro i v s' Q' E' hv hQ'
  have hv' : its[i]? = some v := by simpa using hv
  have hi : i < bs.length := by rw [← hlen]; exact (zQ1.mp hv').1
  have hb : (bs.map V.bl)[i]? = some (V.bl (bs.getD i false)) := by
   rw [List.getElem?_map, List.getElem?_eq_getElem hi]
   simp [List.getD_eq_getElem?_getD, hi]
  obtain ⟨u', hu', rv'⟩ := rv.get hb
  rw [hv'] at hu'
  cases hu'
  cases rv'
  exact wpAny_truthy_bool hQ'
 ·refine ⟨.bl (bs.all id), H, I1 h' tk k, ?_, q⟩
  show Value.bool _ = Value.bool _
  congr 1
  rw [List.size_toArray, hlen]
  have : ∀ (l : List Bool), (List.range l.length).all (fun i => l.getD i false) = l.all id := by
   intro l
   rw [Bool.eq_iff_iff, List.all_eq_true, List.all_eq_true]
   constructor
   ·intro h x hx
    obtain ⟨i, hi, rfl⟩ := List.getElem_of_mem hx
    have := h i (List.mem_range.mpr hi)
    simpa [List.getD_eq_getElem?_getD, hi] using this
   ·intro h i hi
    have hi' := List.mem_range.mp hi
    have := h l[i] (List.getElem_mem hi')
    simpa [List.getD_eq_getElem?_getD, hi'] using this
  exact this bs
def Its (x : List Nat) : It := ⟨fun i _ => i < x.length, fun i H v H' => H' = H ∧ ∃ c, x[i]? = some c ∧ v = .str (mkS [c]), fun i _ => x.length ≤ i⟩
def iStr (tl : TE) : TI := fun σ H R => tl σ H fun v H1 => ∃ x, v = .str (mkS x) ∧ R (Its x) H1
theorem zVX {P : Program} {w : World} {K : PySem.W.Frag} {tg : Expr} (it : Addr) (ty : String) (x : List Nat) (t : Tok) (hty : ty = "str_ascii_iterator" ∨ ty = "str_iterator") :
  Turn P w K tg (Its x) [it] it (fun i h => h.IsStrIter it ty (mkS x) t i) where
 mem := by simp
 obj := fun i h st b hb => by
  have e : b = it := by simpa using hb
  subst e
  obtain ⟨o, e, c, d⟩ := st
  exact ⟨o, e, fun v z => by rw [d] at z; cases z⟩
 keep := fun i h h' st k => let ⟨o, ho, r⟩ := st; ⟨o, k it (by simp) o ho, r⟩
 item := by
  intro X hP hw hK hc i pins s σ H E I hf st hg
  subst hP hw hK
  obtain ⟨f0, f1, f2, f3, f4, f5⟩ := hf it (by simp)
  have hi : i < x.length := hg
  have hxi : (mkS x).cps[i]? = some x[i] := by simp [mkS, hi]
  have fin : ∀ (h' : Heap), h'.IsStrIter it ty (mkS x) t (i + 1) → Heap.SameBut it s.heap h' → ∃ u, some (Value.str ⟨#[x[i]]⟩ s.toks) = some u ∧
    wpAny (model X.prog X.w) X.A (letOwnedTupleGo tg (.ref it) u) (fun _ s2 => ∃ y H', Inv X pins σ H' s2 ∧ RelV y u ∧ (Its x).yld i H y H' ∧ s2.heap.IsStrIter it ty (mkS x) t (i + 1) ∧ ∀ b ∈ [it], H' b = none) E { s with heap := h', toks := s.toks + 1 } := fun h' st' sb => by
   have I1 : Inv X pins σ H { s with heap := h', toks := s.toks + 1 } := I.turned (fun b o hb e => (sb.2 b hb).trans e) f0 f1 f3 f4 f5
   obtain ⟨o, e, c, d⟩ := id st'
   refine ⟨_, rfl, yBO (s := { s with heap := h', toks := s.toks + 1 }) e c d (by rcases hty with rfl | rfl <;> decide) ⟨.str (mkS [x[i]]), H, I1, ⟨_, rfl⟩, ⟨rfl, x[i], by simp [hi], rfl⟩, st', fun b hb => (hf b hb).1⟩⟩
  rcases hty with rfl | rfl
  ·exact wpAny_pyNext_ascii_item st hxi fun h' st' sb => fin h' st' sb
  ·exact wpAny_pyNext_wide_item st hxi fun h' st' sb => fin h' st' sb
 done := by
  intro X hP hw hK hc i pins s σ H E I hf st hg
  subst hP hw hK
  obtain ⟨f0, f1, f2, f3, f4, f5⟩ := hf it (by simp)
  have hi : x.length ≤ i := hg
  have hxi : (mkS x).cps[i]? = none := by simp [mkS, hi]
  rcases hty with rfl | rfl
  ·exact wpAny_pyNext_ascii_end (I.ok.hd hc) st hxi fun h' eb => ⟨rfl, I.turned (t' := s.toks) (fun b o hb e => eb b o hb e) f0 f1 f3 f4 f5⟩
  ·exact wpAny_pyNext_wide_end (I.ok.hd hc) st hxi fun h' eb => ⟨rfl, I.turned (t' := s.toks) (fun b o hb e => eb b o hb e) f0 f1 f3 f4 f5⟩
 self := fun _ _ _ _ _ st h => by
  rcases hty with rfl | rfl
  ·exact wpAny_pyIter_striter_ascii st h
  ·exact wpAny_pyIter_striter_wide st h
theorem yNW {tg l : Expr} {tl : TE} (hl : PE X l tl) : PI X tg l (iStr tl) := by
 intro pins s σ H R I h
 refine thn (hl pins s σ H _ I h) fun v s1 ⟨x, H1, I1, r1, q1⟩ => ?_
 obtain ⟨cs, e, q⟩ := q1
 subst e
 obtain ⟨t, rfl⟩ := r1
 have fp : ∀ (o : Obj), ∀ b ∈ [s1.heap.objs.size], zJK X pins H1 b := fun o b hb => by
  have e : b = s1.heap.objs.size := by simpa using hb
  subst e
  exact I1.fpOk (Nat.le_refl _) (I1.hok.fresh (Nat.le_refl _))
 cases ha : (mkS cs).cps.all (· < 128)
 ·refine wpAny_pyIter_wide ha ?_
  exact ⟨s1.heap.objs.size, [s1.heap.objs.size], _, _, H1, rfl, I1.kept (t' := s1.toks) fun b o e => Heap.get?_push_of_some _ e, zVX _ "str_iterator" cs t (.inr rfl), ⟨_, Heap.get?_push_size _ rfl, rfl, rfl⟩, fp default, q⟩
 ·refine wpAny_pyIter_ascii ha ?_
  exact ⟨s1.heap.objs.size, [s1.heap.objs.size], _, _, H1, rfl, I1.kept (t' := s1.toks) fun b o e => Heap.get?_push_of_some _ e, zVX _ "str_ascii_iterator" cs t (.inl rfl), ⟨_, Heap.get?_push_size _ rfl, rfl, rfl⟩, fp default, q⟩
end
end L2
namespace L2
open PySem PySem.Spec PyProof.Rows
section
variable {X : Cx}
theorem yGG {elt tg iter : Expr} {ifs : List Expr} {pos : Pos} {sc : Scope} {wi : TI} {g : TG} {tc : Addr → Shared → Hp → List Addr → TT} {te : Addr → Shared → Hp → List Addr → TE} (T : List Str) (idx : List Nat)
  (hi : PI X tg iter wi) (hcalm : X.calm = true) (hB : zOL X.env.scope X.N sc idx = true)
  (hg : ∀ C s₂ H1 fp, PG (yF X sc T idx C s₂ H1 fp) tg g)
  (hc : ∀ C s₂ H1 fp, yGE (yF X sc T idx C s₂ H1 fp) ifs (tc C s₂ H1 fp))
  (he : ∀ C s₂ H1 fp, PE (yF X sc T idx C s₂ H1 fp) elt (te C s₂ H1 fp))
  (hs : ∀ x, foldedSetIterable iter X.env x = pure x := by intro _; rfl)
  {pins : List (Addr × Obj)} {s : Shared} {σ : St} {H : Hp} {Q : VK} {use : Value → Sem Unit} {Q' : Value → Shared → Prop} (I : Inv X pins σ H s) (h : yGD wi g tc te T.length idx σ H Q)
  (fin : ∀ (D C : Addr) (s4 : Shared) (H' : Hp), Inv X pins σ H' s4 → zJK X pins H' C → (∃ m, s4.heap.Ns C m) → Q (.ref D) H' →
   wpAny (model X.prog X.w) X.A (use (.ref D)) (fun _ s'' => ∃ m, s''.heap.Ns C m ∧ ∀ h', Heap.SameBut C s''.heap h' → Q' .none { s'' with heap := h' }) X.xe s4) :
  wpAny (model X.prog X.w) X.A (comprehension (.ListComp elt [⟨tg, iter, ifs, 0⟩] sc pos) sc X.env (firstIterPos [⟨tg, iter, ifs, 0⟩] pos) (newList []) false (eval iter X.env) (some use)) Q' X.xe s := by
 have cf := yBS hB
 refine wpAny_comprehension_free (use := some use) (cl := zBU X.env sc.names []) rfl hs (zIY (zOM I cf)) cf.kind cf.locs ?_
 refine thn (hi pins s σ H _ I h) fun v s1 h1 => thn h1 fun itv s2 h2 => ?_
 obtain ⟨it, fp, tn, J, H2, e, I2, Tn, st2, f2, W, ⟨m0, w0⟩, turn⟩ := h2
 subst e
 have hlt : ∀ b ∈ fp, b < s2.heap.objs.size := fun b hb => let ⟨o, e, _⟩ := Tn.obj _ _ st2 b hb; Heap.lt_size e
 refine wpAny_newObj_type (wpAny_newFunctionEnv cf.nocell (by intro y hy; simp at hy) (fun h₁ hns₁ hsb₁ => ?_) cf.kind)
 dsimp only at hns₁ hsb₁ ⊢
 generalize hH2 : s2.heap.push { cls := .type "list", dict := none, data := .seq ([] : List Value).toArray } = HH at hns₁ hsb₁ ⊢
 have hC : HH.objs.size = s2.heap.objs.size + 1 := by rw [← hH2, Heap.size_push]
 have hDC : s2.heap.objs.size ≠ HH.objs.size := by rw [hC]; exact Nat.ne_of_lt (Nat.lt_succ_self _)
 have hCle : s2.heap.objs.size ≤ HH.objs.size := by rw [hC]; exact Nat.le_succ _
 have old : ∀ b o, s2.heap.get? b = some o → h₁.get? b = some o := fun b o e => hsb₁.extBut b o (by rw [hC]; exact Nat.ne_of_lt (Nat.lt_succ_of_lt (Heap.lt_size e))) (Heap.get?_push_of_some _ (hH2 ▸ Heap.get?_push_of_some _ e))
 have eD0 : h₁.get? s2.heap.objs.size = some { cls := .type "list", data := .seq ([] : List Value).toArray 0 } := hsb₁.extBut _ _ hDC (Heap.get?_push_of_some _ (hH2 ▸ Heap.get?_push_size _ rfl))
 have nD0 : H2 s2.heap.objs.size = none := I2.hok.fresh (Nat.le_refl _)
 have cD : ∀ x c, (zBU X.env sc.names []).lookup x = some c → c ≠ s2.heap.objs.size := fun x c e => by
  obtain ⟨v, q⟩ := I2.cell x c (kM I2 cf e)
  exact Nat.ne_of_lt q.lt
 have loop : ∀ s4 : Shared, s4 = { s2 with heap := h₁, toks := s2.toks + ([] : List (Str × Value)).length } →
   codeAny (model X.prog X.w) X.A (.compLoop (.ListComp elt [⟨tg, iter, ifs, 0⟩] sc pos) 0 (.ref it) (.ref s2.heap.objs.size) (compEnvC sc (zBU X.env sc.names []) HH.objs.size X.env))
    (compPost (model X.prog X.w) X.A X.xe (some use) Q' (.ref s2.heap.objs.size) HH.objs.size) s4 := by
  rintro s4 rfl
  have J0 : Inv (yF X sc T idx HH.objs.size s2 H2 fp) [] (T.map (fun _ => none) ++ zGM σ idx) H2 { s2 with heap := h₁, toks := s2.toks + ([] : List (Str × Value)).length } :=
   zON I2 cf hCle f2 hlt old rfl rfl hns₁
  refine zKR (fun k s' => ∃ (i : Nat) (ys : List V) (its : List Value) (n : Nat) (H' : Hp) (τ : St), Inv (yF X sc T idx HH.objs.size s2 H2 fp) [] (τ ++ zGM σ idx) H' s' ∧ τ.length = T.length ∧ tn i s'.heap ∧ (∀ b ∈ fp, H' b = none) ∧
   s'.heap.get? s2.heap.objs.size = some { cls := .type "list", data := .seq its.toArray n } ∧ H' s2.heap.objs.size = none ∧ Vals ys its ∧ W i k ys H') ?_ m0
   ⟨0, [], [], 0, H2, T.map (fun _ => none), J0, by rw [List.length_map], Tn.keep _ _ _ st2 fun b _ o e => old b o e, fun b hb => (f2 b hb).1, eD0, nD0, .nil, w0⟩
  rintro k s3 ⟨i, ys, its, n, H3, τ, I3, hτ, st3, fr3, eD3, nD3, r3, w3⟩
  obtain ⟨hz, alt⟩ := turn i k ys H3 w3
  have hDfs : s2.heap.objs.size ∉ (yF X sc T idx HH.objs.size s2 H2 fp).fs := fun z => by
   obtain ⟨_, o, ho, _⟩ := I2.stack.mem (show s2.heap.objs.size ∈ frs X.stack from z)
   exact absurd (Heap.lt_size ho) (Nat.lt_irrefl _)
  have pinD : ∀ {H' : Hp} {s' : Shared}, s'.heap.get? s2.heap.objs.size = some { cls := .type "list", data := .seq its.toArray n } → H' s2.heap.objs.size = none →
    ∀ p ∈ [(s2.heap.objs.size, ({ cls := .type "list", data := .seq its.toArray n } : Obj))], s'.heap.get? p.1 = some p.2 ∧ H' p.1 = none ∧ p.1 ≠ (yF X sc T idx HH.objs.size s2 H2 fp).env.locals ∧ p.1 ∉ (yF X sc T idx HH.objs.size s2 H2 fp).fs ∧ ∀ v, p.2.data ≠ .cell v :=
   fun {H' s'} e1 e2 p hp => by
    have ep : p = (s2.heap.objs.size, { cls := .type "list", data := .seq its.toArray n }) := by simpa using hp
    subst ep
    exact ⟨e1, e2, hDC, hDfs, fun v z => by cases z⟩
  have P3 : Inv (yF X sc T idx HH.objs.size s2 H2 fp) [(s2.heap.objs.size, { cls := .type "list", data := .seq its.toArray n })] (τ ++ zGM σ idx) H3 s3 := I3.pins_of (pinD eD3 nD3)
  have stat : ∀ {H' : Hp}, (∀ b ∈ fp, H' b = none) → ∀ b ∈ fp, zJK (yF X sc T idx HH.objs.size s2 H2 fp) [(s2.heap.objs.size, { cls := .type "list", data := .seq its.toArray n })] H' b := fun {H'} hn b hb => by
   have hb2 := hlt b hb
   refine ⟨hn b hb, Nat.ne_of_lt (Nat.lt_of_lt_of_le hb2 hCle), I3.ok.exfs b hb, .inl hb, fun x c e => (f2 b hb).2.2.2.2.1 x c (kM I2 cf e), fun p hp => ?_⟩
   have ep : p = (s2.heap.objs.size, ({ cls := .type "list", data := .seq its.toArray n } : Obj)) := by simpa [yF] using hp
   subst ep
   exact Nat.ne_of_gt hb2
  rcases alt with ⟨stop, q⟩ | ⟨go, hl2, step⟩
  ·refine thn (Tn.done (yF X sc T idx HH.objs.size s2 H2 fp) rfl rfl rfl hcalm i _ s3 _ H3 (fun _ _ => False) P3 (stat fr3) st3 stop) fun r s4 ⟨hr, I4⟩ => ?_
   subst hr
   obtain ⟨m, hn, _⟩ := id I4.loc
   have eD4 := (I4.pin (s2.heap.objs.size, { cls := .type "list", data := .seq its.toArray n }) (by simp)).1
   have J4 := zOO I2 hCle f2 (I4.pins_of (fun p hp => nomatch hp)) (Heap.SameBut.refl _ _) (Nat.le_refl _) hDC eD4 nD3 r3 hz
   exact fin _ _ s4 _ J4 (I2.fpOk hCle (by rw [yP (Ne.symm hDC)]; exact I4.free)) ⟨m, hn⟩ (q _ nD3)
  ·refine thn (Tn.item (yF X sc T idx HH.objs.size s2 H2 fp) rfl rfl rfl hcalm i _ s3 _ H3 (fun _ _ => False) P3 (stat fr3) st3 go) fun r s4 ⟨u, hr, h4⟩ => ?_
   subst hr
   refine thn h4 fun _ s5 ⟨x, H5, I5, r5, y5, st5, fr5⟩ => ?_
   have I5' := I5.pinned (stat fr5) (Tn.obj _ _ st5)
   refine thn (hg HH.objs.size s2 H2 fp _ s5 _ H5 x u _ I5' r5 (step x H5 y5 τ hτ)) fun _ s6 ⟨σ6, H6, I6, ⟨τ', e6, l6⟩, q6⟩ => ?_
   subst e6
   refine thn (hc HH.objs.size s2 H2 fp _ s6 _ H6 _ I6 (q6 HH.objs.size s2 fp)) fun ok s7 ⟨H7, I7, q7⟩ => ?_
   have mD : (s2.heap.objs.size, ({ cls := .type "list", data := .seq its.toArray n } : Obj)) ∈ (yF X sc T idx HH.objs.size s2 H2 fp).pn ++ ([(s2.heap.objs.size, { cls := .type "list", data := .seq its.toArray n })] ++ zGK fp s5.heap) :=
    List.mem_append_right _ (List.mem_append_left _ (by simp))
   have mF : ∀ b ∈ fp, ∀ o, s5.heap.get? b = some o → (b, o) ∈ (yF X sc T idx HH.objs.size s2 H2 fp).pn ++ ([(s2.heap.objs.size, { cls := .type "list", data := .seq its.toArray n })] ++ zGK fp s5.heap) := fun b hb o e =>
    List.mem_append_right _ (List.mem_append_right _ (zEA hb e))
   cases ok with
   | false =>
    rw [if_neg zQ3] at q7 ⊢
    obtain ⟨m', hm', w7⟩ := q7
    refine ⟨m', hm', i + 1, ys, its, n, H7, τ', I7.pins_of (fun p hp => nomatch hp), l6, Tn.keep _ _ _ st5 fun b hb o e => (I7.pin _ (mF b hb o e)).1, fun b hb => ?_, (I7.pin _ mD).1, (I7.pin _ mD).2.1, r3, w7⟩
    obtain ⟨o, e, d⟩ := Tn.obj _ _ st5 b hb
    exact (I7.pin _ (mF b hb o e)).2.1
   | true =>
    rw [if_pos rfl] at q7 ⊢
    refine thn (he HH.objs.size s2 H2 fp _ s7 _ H7 _ I7 q7) fun y s8 ⟨yv, H8, I8, r8, m', hm', w8⟩ => ?_
    have eD8 := (I8.pin _ mD).1
    have nD8 := (I8.pin _ mD).2.1
    have hl := r3.length
    have q := PySem.IsL.update eD8 (fun z => z.push y)
    rw [show its.toArray.push y = (its ++ [y]).toArray by simp] at q
    refine call_meets PySem.F.slot_list_append ⟨_, eD8, rfl⟩ PySem.F.entry_list_append (PySem.F.args_list_append_2 _ _) (PySem.list_append s2.heap.objs.size its.toArray n y (by rw [List.size_toArray]; omega)) ⟨eD8, ?_⟩
    have I9 : Inv (yF X sc T idx HH.objs.size s2 H2 fp) [] (τ' ++ zGM σ idx) H8 s8 := I8.pins_of (fun p hp => nomatch hp)
    have up : ∀ b o, b ≠ s2.heap.objs.size → s8.heap.get? b = some o → (s8.heap.update s2.heap.objs.size (Obj.mapSeq fun z => z.push y)).get? b = some o := fun b o hb e => (Heap.get?_update_other s8.heap _ (Ne.symm hb)).trans e
    refine ⟨m', hm', i + 1, ys ++ [yv], its ++ [y], _, H8, τ', I9.turned (t' := s8.toks) up nD8 hDC (.inr (Nat.le_refl _)) cD (fun p hp => nomatch hp), l6, ?_, fun b hb => ?_, q, nD8, r3.append (.cons r8 .nil), w8⟩
    ·exact Tn.keep _ _ _ st5 fun b hb o e => up b o (Nat.ne_of_lt (hlt b hb)) (I8.pin _ (mF b hb o e)).1
    ·obtain ⟨o, e, d⟩ := Tn.obj _ _ st5 b hb
     exact (I8.pin _ (mF b hb o e)).2.1
 exact codeAny_compStart_list (loop _ rfl) (Tn.self X.A 0 _ _ _ (Tn.keep _ _ _ st2 fun b _ o e => old b o e) (loop _ rfl))
def PU (X : Cx) (e : Expr) (t : TE) : Prop := ∀ (i : Nat) (x : Str) (pos' pos : Pos), X.N.Nodup → X.N[i]? = some x → Loc X.env.scope x → (X.fn x = true ∨ X.env.scope.names.lookup x = some .local) →
 swapsWith e (some (.Name x pos')) pos.line X.env = pure true → PS X (.Assign [.Name x pos'] e pos) (tAsg t (yFN i))
theorem yJX {elt tg iter : Expr} {ifs : List Expr} {pos : Pos} {sc : Scope} {wi : TI} {g : TG} {tc : Addr → Shared → Hp → List Addr → TT} {te : Addr → Shared → Hp → List Addr → TE} (T : List Str) (idx : List Nat)
  (hi : PI X tg iter wi) (hcalm : X.calm = true) (hB : zOL X.env.scope X.N sc idx = true)
  (hg : ∀ C s₂ H1 fp, PG (yF X sc T idx C s₂ H1 fp) tg g)
  (hc : ∀ C s₂ H1 fp, yGE (yF X sc T idx C s₂ H1 fp) ifs (tc C s₂ H1 fp))
  (he : ∀ C s₂ H1 fp, PE (yF X sc T idx C s₂ H1 fp) elt (te C s₂ H1 fp))
  (hs : ∀ x, foldedSetIterable iter X.env x = pure x := by intro _; rfl) :
  PU X (.ListComp elt [⟨tg, iter, ifs, 0⟩] sc pos) (yGD wi g tc te T.length idx) := by
 intro i x pos' spos hN hix hx hf hsw pins s σ H D I h
 rw [exec_Assign_Name_used _ _ _ _ hsw]
 refine wpAny_bind (wpAny_standAt (wpAny_bind ?_))
 rw [arm_evalThenUse_ListComp]
 refine wpAny_bind (thn (yGG T idx hi hcalm hB hg hc he hs (use := assign (.Name x pos') X.env) (Q' := fun _ s' => ∃ σ' H', Inv X pins σ' H' s' ∧ D.nx σ' H') I h fun Dd C s4 H' I4 fo hm q => ?_) fun _ s' hq => wpAny_pure (wpAny_pure hq))
 refine wpAny_assign_Name (zSB I4 hN hix hx (show RelV (.ref Dd) (.ref Dd) from rfl) (fun s' I' ⟨a, hs', ha⟩ => ?_) hf)
 obtain ⟨m, hm⟩ := hm
 have hCa : C ≠ a := by
  rintro rfl
  rcases ha with ha | ha
  ·exact fo.2.1 ha
  ·exact fo.2.2.2.2.1 x _ ha rfl
 refine ⟨m, hm.sameBut hs' hCa, fun h' hs'' => ⟨_, H', ?_, q⟩⟩
 exact I'.turned (t' := s'.toks) (fun b o hb e => (hs''.2 b hb).trans e) fo.1 fo.2.1 fo.2.2.2.1 fo.2.2.2.2.1 fo.2.2.2.2.2
end
end L2
namespace L2
namespace M
open PySem PySem.Spec PyProof.Rows
theorem yNX {A : Around} {s : Shared} {y x : V} {u v : Value} (ry : RelV y u) (rx : RelV x v) (fy : kH y = true) (fx : kH x = true) : SeqAt.RcAt A s u v (eqV y x) := by
 cases y with
 | non =>
  cases ry
  cases x with
  | non => cases rx; exact SeqAt.RcAt.none_none
  | bl b => cases rx; exact SeqAt.RcAt.none_bool b
  | int b => obtain ⟨t, rfl⟩ := rx; exact SeqAt.RcAt.none_int b t
  | str b => obtain ⟨t, rfl⟩ := rx; exact SeqAt.RcAt.none_str b t
  | _ => exact absurd (show false = true from fx) zQ3
 | bl a =>
  cases ry
  cases x with
  | non => cases rx; exact SeqAt.RcAt.bool_none a
  | bl b => cases rx; exact SeqAt.RcAt.bool_bool a b
  | int b => obtain ⟨t, rfl⟩ := rx; exact SeqAt.RcAt.bool_int a b t
  | str b => obtain ⟨t, rfl⟩ := rx; exact SeqAt.RcAt.bool_str a b t
  | _ => exact absurd (show false = true from fx) zQ3
 | int a =>
  obtain ⟨t', rfl⟩ := ry
  cases x with
  | non => cases rx; exact SeqAt.RcAt.int_none a t'
  | bl b => cases rx; exact SeqAt.RcAt.int_bool a t' b
  | int b => obtain ⟨t, rfl⟩ := rx; exact SeqAt.RcAt.int_int a t' b t
  | str b => obtain ⟨t, rfl⟩ := rx; exact SeqAt.RcAt.int_str a t' b t
  | _ => exact absurd (show false = true from fx) zQ3
 | str a =>
  obtain ⟨t', rfl⟩ := ry
  cases x with
  | non => cases rx; exact SeqAt.RcAt.str_none a t'
  | bl b => cases rx; exact SeqAt.RcAt.str_bool a t' b
  | int b => obtain ⟨t, rfl⟩ := rx; exact SeqAt.RcAt.str_int a t' b t
  | str b => obtain ⟨t, rfl⟩ := rx; exact SeqAt.RcAt.str_str a t' b t
  | _ => exact absurd (show false = true from fx) zQ3
 | _ => exact absurd (show false = true from fy) zQ3
theorem yNY {A : Around} {s : Shared} {y x : V} {u v : Value} (ry : RelV y u) (rx : RelV x v) (fy : kH y = true) (fx : kH x = true) : SeqAt.RcNeAt A s u v (!eqV y x) := by
 cases y with
 | non =>
  cases ry
  cases x with
  | non => cases rx; exact SeqAt.RcNeAt.none_none
  | bl b => cases rx; exact SeqAt.RcNeAt.none_bool b
  | int b => obtain ⟨t, rfl⟩ := rx; exact SeqAt.RcNeAt.none_int b t
  | str b => obtain ⟨t, rfl⟩ := rx; exact SeqAt.RcNeAt.none_str b t
  | _ => exact absurd (show false = true from fx) zQ3
 | bl a =>
  cases ry
  cases x with
  | non => cases rx; exact SeqAt.RcNeAt.bool_none a
  | bl b => cases rx; exact SeqAt.RcNeAt.bool_bool a b
  | int b => obtain ⟨t, rfl⟩ := rx; exact SeqAt.RcNeAt.bool_int a b t
  | str b => obtain ⟨t, rfl⟩ := rx; exact SeqAt.RcNeAt.bool_str a b t
  | _ => exact absurd (show false = true from fx) zQ3
 | int a =>
  obtain ⟨t', rfl⟩ := ry
  cases x with
  | non => cases rx; exact SeqAt.RcNeAt.int_none a t'
  | bl b => cases rx; exact SeqAt.RcNeAt.int_bool a t' b
  | int b => obtain ⟨t, rfl⟩ := rx; exact SeqAt.RcNeAt.int_int a t' b t
  | str b => obtain ⟨t, rfl⟩ := rx; exact SeqAt.RcNeAt.int_str a t' b t
  | _ => exact absurd (show false = true from fx) zQ3
 | str a =>
  obtain ⟨t', rfl⟩ := ry
  cases x with
  | non => cases rx; exact SeqAt.RcNeAt.str_none a t'
  | bl b => cases rx; exact SeqAt.RcNeAt.str_bool a t' b
  | int b => obtain ⟨t, rfl⟩ := rx; exact SeqAt.RcNeAt.str_int a t' b t
  | str b => obtain ⟨t, rfl⟩ := rx; exact SeqAt.RcNeAt.str_str a t' b t
  | _ => exact absurd (show false = true from fx) zQ3
 | _ => exact absurd (show false = true from fy) zQ3
theorem eq_ll {A : Around} {s : Shared} {x : V} {v : Value} {l : Addr} {items : Array Value} (rx : RelV x v) (fx : kH x = true) (hl : s.heap.IsList l items) (hu : A.units < cLine) : SeqAt.EqAt A s (.ref l) v false := by
 cases x with
 | non => cases rx; exact SeqAt.EqAt.list_none hl hu
 | bl b => cases rx; exact SeqAt.EqAt.list_bool b hl hu
 | int b => obtain ⟨t, rfl⟩ := rx; exact SeqAt.EqAt.list_int b t hl hu
 | str b => obtain ⟨t, rfl⟩ := rx; exact SeqAt.EqAt.list_str b t hl hu
 | _ => exact absurd (show false = true from fx) zQ3
theorem eq_lr {A : Around} {s : Shared} {x : V} {v : Value} {l : Addr} {items : Array Value} (rx : RelV x v) (fx : kH x = true) (hl : s.heap.IsList l items) (hu : A.units < cLine) : SeqAt.EqAt A s v (.ref l) false := by
 cases x with
 | non => cases rx; exact SeqAt.EqAt.none_list hl hu
 | bl b => cases rx; exact SeqAt.EqAt.bool_list b hl hu
 | int b => obtain ⟨t, rfl⟩ := rx; exact SeqAt.EqAt.int_list b t hl hu
 | str b => obtain ⟨t, rfl⟩ := rx; exact SeqAt.EqAt.str_list b t hl hu
 | _ => exact absurd (show false = true from fx) zQ3
theorem yMG {A : Around} {s : Shared} {x : V} {v : Value} {l : Addr} {items : Array Value} (rx : RelV x v) (fx : kH x = true) (hl : s.heap.IsTuple l items) (hu : A.units < cLine) : SeqAt.EqAt A s (.ref l) v false := by
 cases x with
 | non => cases rx; exact SeqAt.EqAt.tuple_none hl hu
 | bl b => cases rx; exact SeqAt.EqAt.tuple_bool b hl hu
 | int b => obtain ⟨t, rfl⟩ := rx; exact SeqAt.EqAt.tuple_int b t hl hu
 | str b => obtain ⟨t, rfl⟩ := rx; exact SeqAt.EqAt.tuple_str b t hl hu
 | _ => exact absurd (show false = true from fx) zQ3
theorem yMH {A : Around} {s : Shared} {x : V} {v : Value} {l : Addr} {items : Array Value} (rx : RelV x v) (fx : kH x = true) (hl : s.heap.IsTuple l items) (hu : A.units < cLine) : SeqAt.EqAt A s v (.ref l) false := by
 cases x with
 | non => cases rx; exact SeqAt.EqAt.none_tuple hl hu
 | bl b => cases rx; exact SeqAt.EqAt.bool_tuple b hl hu
 | int b => obtain ⟨t, rfl⟩ := rx; exact SeqAt.EqAt.int_tuple b t hl hu
 | str b => obtain ⟨t, rfl⟩ := rx; exact SeqAt.EqAt.str_tuple b t hl hu
 | _ => exact absurd (show false = true from fx) zQ3
theorem rc_ll {A : Around} {s : Shared} {x : V} {v : Value} {l : Addr} {items : Array Value} (rx : RelV x v) (fx : kH x = true) (hl : s.heap.IsList l items) (hu : A.units < cLine) : SeqAt.RcAt A s (.ref l) v false := by
 cases x with
 | non => cases rx; exact SeqAt.RcAt.list_none hl hu
 | bl b => cases rx; exact SeqAt.RcAt.list_bool b hl hu
 | int b => obtain ⟨t, rfl⟩ := rx; exact SeqAt.RcAt.list_int b t hl hu
 | str b => obtain ⟨t, rfl⟩ := rx; exact SeqAt.RcAt.list_str b t hl hu
 | _ => exact absurd (show false = true from fx) zQ3
theorem rc_lr {A : Around} {s : Shared} {x : V} {v : Value} {l : Addr} {items : Array Value} (rx : RelV x v) (fx : kH x = true) (hl : s.heap.IsList l items) (hu : A.units < cLine) : SeqAt.RcAt A s v (.ref l) false := by
 cases x with
 | non => cases rx; exact SeqAt.RcAt.none_list hl hu
 | bl b => cases rx; exact SeqAt.RcAt.bool_list b hl hu
 | int b => obtain ⟨t, rfl⟩ := rx; exact SeqAt.RcAt.int_list b t hl hu
 | str b => obtain ⟨t, rfl⟩ := rx; exact SeqAt.RcAt.str_list b t hl hu
 | _ => exact absurd (show false = true from fx) zQ3
theorem rc_tl {A : Around} {s : Shared} {x : V} {v : Value} {l : Addr} {items : Array Value} (rx : RelV x v) (fx : kH x = true) (hl : s.heap.IsTuple l items) (hu : A.units < cLine) : SeqAt.RcAt A s (.ref l) v false := by
 cases x with
 | non => cases rx; exact SeqAt.RcAt.tuple_none hl hu
 | bl b => cases rx; exact SeqAt.RcAt.tuple_bool b hl hu
 | int b => obtain ⟨t, rfl⟩ := rx; exact SeqAt.RcAt.tuple_int b t hl hu
 | str b => obtain ⟨t, rfl⟩ := rx; exact SeqAt.RcAt.tuple_str b t hl hu
 | _ => exact absurd (show false = true from fx) zQ3
theorem rc_tr {A : Around} {s : Shared} {x : V} {v : Value} {l : Addr} {items : Array Value} (rx : RelV x v) (fx : kH x = true) (hl : s.heap.IsTuple l items) (hu : A.units < cLine) : SeqAt.RcAt A s v (.ref l) false := by
 cases x with
 | non => cases rx; exact SeqAt.RcAt.none_tuple hl hu
 | bl b => cases rx; exact SeqAt.RcAt.bool_tuple b hl hu
 | int b => obtain ⟨t, rfl⟩ := rx; exact SeqAt.RcAt.int_tuple b t hl hu
 | str b => obtain ⟨t, rfl⟩ := rx; exact SeqAt.RcAt.str_tuple b t hl hu
 | _ => exact absurd (show false = true from fx) zQ3
theorem rn_ll {A : Around} {s : Shared} {x : V} {v : Value} {l : Addr} {items : Array Value} (rx : RelV x v) (fx : kH x = true) (hl : s.heap.IsList l items) (hu : A.units < cLine) : SeqAt.RcNeAt A s (.ref l) v true := by
 cases x with
 | non => cases rx; exact SeqAt.RcNeAt.list_none hl hu
 | bl b => cases rx; exact SeqAt.RcNeAt.list_bool b hl hu
 | int b => obtain ⟨t, rfl⟩ := rx; exact SeqAt.RcNeAt.list_int b t hl hu
 | str b => obtain ⟨t, rfl⟩ := rx; exact SeqAt.RcNeAt.list_str b t hl hu
 | _ => exact absurd (show false = true from fx) zQ3
theorem rn_lr {A : Around} {s : Shared} {x : V} {v : Value} {l : Addr} {items : Array Value} (rx : RelV x v) (fx : kH x = true) (hl : s.heap.IsList l items) (hu : A.units < cLine) : SeqAt.RcNeAt A s v (.ref l) true := by
 cases x with
 | non => cases rx; exact SeqAt.RcNeAt.none_list hl hu
 | bl b => cases rx; exact SeqAt.RcNeAt.bool_list b hl hu
 | int b => obtain ⟨t, rfl⟩ := rx; exact SeqAt.RcNeAt.int_list b t hl hu
 | str b => obtain ⟨t, rfl⟩ := rx; exact SeqAt.RcNeAt.str_list b t hl hu
 | _ => exact absurd (show false = true from fx) zQ3
theorem rn_tl {A : Around} {s : Shared} {x : V} {v : Value} {l : Addr} {items : Array Value} (rx : RelV x v) (fx : kH x = true) (hl : s.heap.IsTuple l items) (hu : A.units < cLine) : SeqAt.RcNeAt A s (.ref l) v true := by
 cases x with
 | non => cases rx; exact SeqAt.RcNeAt.tuple_none hl hu
 | bl b => cases rx; exact SeqAt.RcNeAt.tuple_bool b hl hu
 | int b => obtain ⟨t, rfl⟩ := rx; exact SeqAt.RcNeAt.tuple_int b t hl hu
 | str b => obtain ⟨t, rfl⟩ := rx; exact SeqAt.RcNeAt.tuple_str b t hl hu
 | _ => exact absurd (show false = true from fx) zQ3
theorem rn_tr {A : Around} {s : Shared} {x : V} {v : Value} {l : Addr} {items : Array Value} (rx : RelV x v) (fx : kH x = true) (hl : s.heap.IsTuple l items) (hu : A.units < cLine) : SeqAt.RcNeAt A s v (.ref l) true := by
 cases x with
 | non => cases rx; exact SeqAt.RcNeAt.none_tuple hl hu
 | bl b => cases rx; exact SeqAt.RcNeAt.bool_tuple b hl hu
 | int b => obtain ⟨t, rfl⟩ := rx; exact SeqAt.RcNeAt.int_tuple b t hl hu
 | str b => obtain ⟨t, rfl⟩ := rx; exact SeqAt.RcNeAt.str_tuple b t hl hu
 | _ => exact absurd (show false = true from fx) zQ3
theorem yGH {y : V} (h : kH y = true) : eqV y y = true := by
 cases y <;> first | rfl | (simp [eqV]; done) | exact absurd (show false = true from h) zQ3
inductive NK where
 | key (k : Key) | tup (ks : List NK)
noncomputable instance : DecidableEq NK := fun _ _ => Classical.propDecidable _
section
variable {prog : Program} {w : World} (knd : KeyKind prog w Key)
mutual
def isN (h : Heap) : NK → Value → Prop
 | .key k, v => knd.is k v = true
 | .tup ks, v => ∃ a o items n, v = .ref a ∧ h.get? a = some o ∧ o.cls = .type "tuple" ∧ o.data = .seq items n ∧ zGN h ks items.toList
def zGN (h : Heap) : List NK → List Value → Prop
 | [], vs => vs = []
 | k :: ks, vs => ∃ v r, vs = v :: r ∧ isN h k v ∧ zGN h ks r
end
mutual
def zGO : NK → Int
 | .key k => knd.hash k
 | .tup ks => reduceHash (Builtin.Tuple.tupleHashOf (zOQ ks))
def zOQ : List NK → List Int
 | [] => []
 | k :: ks => zGO k :: zOQ ks
end
mutual
def zOR : NK → Nat
 | .key _ => 1
 | .tup ks => bL ks + 1
def bL : List NK → Nat
 | [] => 0
 | k :: ks => zOR k + bL ks
end
mutual
def nQ : NK → Nat
 | .key _ => 0
 | .tup ks => zIZ ks + 1
def zIZ : List NK → Nat
 | [] => 0
 | k :: ks => max (nQ k) (zIZ ks)
end
variable {knd}
theorem kY {h : Heap} {k : Key} {v : Value} : isN knd h (.key k) v ↔ knd.is k v = true := by unfold isN; exact Iff.rfl
theorem wO {h : Heap} {ks : List NK} {v : Value} : isN knd h (.tup ks) v ↔ ∃ a o items n, v = .ref a ∧ h.get? a = some o ∧ o.cls = .type "tuple" ∧ o.data = .seq items n ∧ zGN knd h ks items.toList := by
 conv => lhs; unfold isN
theorem kI {h : Heap} {vs : List Value} : zGN knd h [] vs ↔ vs = [] := by unfold zGN; exact Iff.rfl
theorem xF {h : Heap} {k : NK} {ks : List NK} {vs : List Value} : zGN knd h (k :: ks) vs ↔ ∃ v r, vs = v :: r ∧ isN knd h k v ∧ zGN knd h ks r := by
 conv => lhs; unfold zGN
mutual
theorem zTV {h : Heap} : ∀ {x y : NK} {v : Value}, isN knd h x v → isN knd h y v → x = y
 | .key k, .key k', v, hx, hy => by rw [knd.inj v k k' (kY.mp hx) (kY.mp hy)]
 | .key k, .tup ks, v, hx, hy => by
  obtain ⟨a, o, items, n, rfl, _⟩ := wO.mp hy
  have := knd.byValue _ _ (kY.mp hx)
  simp [carriedByValue] at this
 | .tup ks, .key k, v, hx, hy => by
  obtain ⟨a, o, items, n, rfl, _⟩ := wO.mp hx
  have := knd.byValue _ _ (kY.mp hy)
  simp [carriedByValue] at this
 | .tup ks, .tup ks', v, hx, hy => by
  obtain ⟨a, o, items, n, e, ho, _, hd, hi⟩ := wO.mp hx
  obtain ⟨a', o', items', n', e', ho', _, hd', hi'⟩ := wO.mp hy
  rw [e] at e'
  cases e'
  obtain rfl : o = o' := Option.some.inj (ho.symm.trans ho')
  rw [hd] at hd'
  injection hd' with h1 _
  subst h1
  rw [zVY hi hi']
theorem zVY {h : Heap} : ∀ {xs ys : List NK} {vs : List Value}, zGN knd h xs vs → zGN knd h ys vs → xs = ys
 | [], [], _, _, _ => rfl
 | [], y :: ys, vs, hx, hy => by
  obtain ⟨v, r, e, _⟩ := xF.mp hy
  rw [kI.mp hx] at e; cases e
 | x :: xs, [], vs, hx, hy => by
  obtain ⟨v, r, e, _⟩ := xF.mp hx
  rw [kI.mp hy] at e; cases e
 | x :: xs, y :: ys, vs, hx, hy => by
  obtain ⟨v, r, e, h1, h2⟩ := xF.mp hx
  obtain ⟨v', r', e', h1', h2'⟩ := xF.mp hy
  rw [e] at e'
  cases e'
  rw [zTV h1 h1', zVY h2 h2']
end
mutual
theorem zVZ {h h' : Heap} (m : ∀ a o items n, h.get? a = some o → o.data = .seq items n → h'.get? a = some o) : ∀ {x : NK} {v : Value}, isN knd h x v → isN knd h' x v
 | .key k, v, hx => kY.mpr (kY.mp hx)
 | .tup ks, v, hx => by
  obtain ⟨a, o, items, n, e, ho, hc, hd, hi⟩ := wO.mp hx
  exact wO.mpr ⟨a, o, items, n, e, m a o items n ho hd, hc, hd, zSJ m hi⟩
theorem zSJ {h h' : Heap} (m : ∀ a o items n, h.get? a = some o → o.data = .seq items n → h'.get? a = some o) : ∀ {xs : List NK} {vs : List Value}, zGN knd h xs vs → zGN knd h' xs vs
 | [], vs, hx => kI.mpr (kI.mp hx)
 | x :: xs, vs, hx => by
  obtain ⟨v, r, e, h1, h2⟩ := xF.mp hx
  exact xF.mpr ⟨v, r, e, zVZ m h1, zSJ m h2⟩
end
theorem zOS : ∀ ks : List NK, zOQ knd ks = ks.map (zGO knd)
 | [] => by unfold zOQ; rfl
 | k :: ks => by unfold zOQ; rw [zOS ks]; rfl
theorem zJL : bL [] = 0 := by rw [bL]
theorem zGP (k : NK) (ks : List NK) : bL (k :: ks) = zOR k + bL ks := by rw [bL]
theorem zJM (k : NK) (ks : List NK) : zIZ (k :: ks) = max (nQ k) (zIZ ks) := by rw [zIZ]
theorem zAE (ks : List NK) : nQ (.tup ks) = zIZ ks + 1 := by rw [nQ]
theorem zJA : ∀ (xs ys : List NK), bL (xs ++ ys) = bL xs + bL ys
 | [], ys => by rw [zJL, List.nil_append, Nat.zero_add]
 | x :: xs, ys => by rw [List.cons_append, zGP, zGP, zJA xs ys]; omega
theorem zKS {s : Shared} {ks : List NK} {a : Addr} (h : isN knd s.heap (.tup ks) (.ref a)) : s.TypeIs (.ref a) "tuple" := by
 obtain ⟨a', o, items, n, e, ho, hc, _⟩ := wO.mp h
 cases e
 exact ⟨o, ho, hc⟩
theorem zWA : ∀ (n : Nat) {A : Around} {E : Value → Shared → Prop} {s : Shared} {k : NK} {v : Value} {Q : Int → Shared → Prop}, nQ k ≤ n → A.units + n < cLine → isN knd s.heap k v → Q (zGO knd k) { s with toks := s.toks + zOR k } → wpAny (model prog w) A (pyHash v) Q E s
 | n, A, E, s, .key k, v, Q, _, _, hk, h => knd.pyHash (kY.mp hk) (by rw [zGO, zOR] at h; exact h)
 | 0, A, E, s, .tup ks, v, Q, hd, _, _, _ => by rw [zAE] at hd; omega
 | n + 1, A, E, s, .tup ks, v, Q, hdep, hu, hk, h => by
  obtain ⟨a, o, items, m, rfl, ho, hc, hd, hi⟩ := wO.mp hk
  have hT : s.TypeIs (.ref a) "tuple" := ⟨o, ho, hc⟩
  rw [zAE] at hdep
  have hdl : ∀ k ∈ ks, nQ k ≤ n := by
   have : ∀ ks : List NK, zIZ ks ≤ n → ∀ k ∈ ks, nQ k ≤ n := by
    intro ks
    induction ks with
    | nil => intro _ k hk; simp at hk
    | cons x xs ih =>
     intro hx k hk
     rw [zJM] at hx
     rcases List.mem_cons.mp hk with rfl | hk
     ·omega
     ·exact ih (by omega) k hk
   exact this ks (by omega)
  rw [zGO, zOR, zOS] at h
  unfold pyHash
  first | unfold pyHashByItsType | skip
  first | refine wpAny_bind (wpAny_cRoomFor_or (.inr (show A.units < cLine by omega)) ?_) | skip
  refine wpAny_bind (wpAny_specialOf hT F.slot_tuple_hash.lookup ?_)
  show wpAny _ _ (if (some (Value.builtin "tuple.__hash__") == some Value.none) = true then _ else _) Q E s
  rw [if_neg (by rw [beq_builtin_none]; exact zQ3)]
  refine wpAny_bind (wpAny_specialOf hT F.slot_tuple_hash.lookup ?_)
  show wpAny _ _ (callSpecialIfBoundUnlessNone? (.ref a) "__hash__" _ >>= _) Q E s
  refine wpAny_bind (wpAny_callSpecialIfBoundUnlessNone?_slot hT F.slot_tuple_hash (wpAny_call_entry F.slot_tuple_hash hT F.entry_tuple_hash ?_ (F.args_tuple_hash_1 _)))
  show wpAny _ _ (Builtin.Tuple.tupleItemsOf (.ref a) >>= _) _ _ s
  refine wpAny_bind (wpAny_tupleItemsOf ho hd ?_)
  refine wpAny_bind ?_
  rw [← Array.forIn_toList]
  refine wpAny_forIn_list _
   (fun rest (b : Array Int) s' => ∃ done left, ks = done ++ left ∧ zGN knd s.heap left rest ∧ b.toList = done.map (zGO knd) ∧ s' = { s with toks := s.toks + bL done })
   _ ?_ ?_ _ _ ⟨[], ks, rfl, hi, rfl, by rw [zJL]; rfl⟩
  ·rintro x rest b s' ⟨done, left, rfl, hl, hb, rfl⟩
   cases left with
   | nil => rw [kI] at hl; cases hl
   | cons k ks' =>
    obtain ⟨v, r, e, h1, hl'⟩ := xF.mp hl
    cases e
    refine wpAny_bind (zWA n (hdl k (by simp)) (show A.units + 1 + n < cLine by omega) h1 ?_)
    have e1 : bL (done ++ [k]) = bL done + zOR k := by rw [zJA, zGP, zJL]; rfl
    first
     | exact wpAny_pure ⟨done ++ [k], ks', by simp, hl', by simp [hb], by simp [Nat.add_assoc, e1]⟩
     | exact wpAny_bind (wpAny_pure (wpAny_pure ⟨done ++ [k], ks', by simp, hl', by simp [hb], by simp [Nat.add_assoc, e1]⟩))
  ·rintro b s' ⟨done, left, rfl, hl, hb, rfl⟩
   cases left with
   | cons k ks' => obtain ⟨v, r, e, _⟩ := xF.mp hl; cases e
   | nil =>
    rw [List.append_nil] at h
    show wpAny _ _ (retInt (Builtin.Tuple.tupleHashOf b.toList)) _ _ _
    rw [hb]
    refine wpAny_ret_mkInt ?_
    show wpAny _ _ (if (decide (-(2 : Int) ^ 63 ≤ Builtin.Tuple.tupleHashOf (done.map (zGO knd))) && decide (Builtin.Tuple.tupleHashOf (done.map (zGO knd)) < 2 ^ 63)) = true then _ else _) Q E _
    unfold reduceHash at h
    by_cases hr : (decide (-(2 : Int) ^ 63 ≤ Builtin.Tuple.tupleHashOf (done.map (zGO knd))) && decide (Builtin.Tuple.tupleHashOf (done.map (zGO knd)) < 2 ^ 63)) = true
    ·rw [if_pos hr]
     rw [if_pos hr] at h
     exact wpAny_pure (by simpa [Nat.add_assoc] using h)
    ·rw [if_neg hr]
     rw [if_neg hr] at h
     exact wpAny_bind (wpAny_rule (wpAny_pure (by simpa [Nat.add_assoc] using h)))
end
section
variable {prog : Program} {w : World}
abbrev mk (prog : Program) (w : World) : KeyKind prog w Key := zNW prog w
theorem yJY (a b : Key) : decide (NK.key a = NK.key b) = decide (a = b) := by
 by_cases h : a = b
 ·subst h; simp
 ·rw [decide_eq_false h, decide_eq_false fun z => h (NK.key.inj z)]
theorem yNZ (a : Key) (b : List NK) : decide (NK.key a = NK.tup b) = false := decide_eq_false fun z => nomatch z
theorem yOA (a : Key) (b : List NK) : decide (NK.tup b = NK.key a) = false := decide_eq_false fun z => nomatch z
theorem yOB (a b : List NK) : decide (NK.tup a = NK.tup b) = decide (a = b) := by
 by_cases h : a = b
 ·subst h; simp
 ·rw [decide_eq_false h, decide_eq_false fun z => h (NK.tup.inj z)]
theorem zWB {k : Key} {v : Value} (h : (mk prog w).is k v = true) : ∃ x : V, RelV x v ∧ kH x = true := by
 rcases wC (show zOH k v = true from h) with ⟨i, t, rfl, rfl⟩ | ⟨x, t, rfl, rfl⟩
 ·exact ⟨.int i, ⟨t, rfl⟩, rfl⟩
 ·exact ⟨.str x, ⟨t, rfl⟩, rfl⟩
theorem yDU {A : Around} {E : Value → Shared → Prop} {s : Shared} {x y : List NK} {a b : Addr} {P : Fin → Shared → Prop}
  (he : ∀ k1 ∈ x, ∀ k2 u v (Q : Bool → Shared → Prop), isN (mk prog w) s.heap k1 u → isN (mk prog w) s.heap k2 v → Q (decide (k1 = k2)) s → wpAny (model prog w) A (eqBool u v) Q E s)
  (hx : isN (mk prog w) s.heap (.tup x) (.ref a)) (hy : isN (mk prog w) s.heap (.tup y) (.ref b)) (h : P (.done (.ret (.bool (decide (x = y))))) s) :
  wpAny (model prog w) A (Builtin.«tuple.__eq__» ⟨[.ref a, .ref b], []⟩) P E s := by
 have hTb := zKS hy
 obtain ⟨_, oa, xs, na, e, hoa, _, hda, hia⟩ := wO.mp hx
 cases e
 obtain ⟨_, ob, ys, nb, e, hob, _, hdb, hib⟩ := wO.mp hy
 cases e
 show wpAny _ _ (isInstance (.ref b) (.type "tuple") >>= _) _ _ s
 refine wpAny_bind (wpAny_isInstance hTb isSubtype_tuple_tuple ?_)
 simp only [Bool.not_true, Bool.false_eq_true, if_false]
 refine wpAny_bind (wpAny_tupleItemsOf hoa hda ?_)
 refine wpAny_bind (wpAny_tupleItemsOf hob hdb ?_)
 refine wpAny_bind ?_
 refine wpAny_forIn_list _
  (fun rest r s' => r.1 = none ∧ s' = s ∧ ∃ x' y' xs' ys', rest = List.zip xs' ys' ∧ (∀ k ∈ x', k ∈ x) ∧ zGN (mk prog w) s.heap x' xs' ∧ zGN (mk prog w) s.heap y' ys' ∧ decide (x' = y') = decide (x = y) ∧ (xs'.length == ys'.length) = (xs.size == ys.size))
  _ ?_ ?_ _ _ ⟨rfl, rfl, x, y, xs.toList, ys.toList, rfl, fun k hk => hk, hia, hib, rfl, by simp⟩
 ·rintro ⟨u, v⟩ rest r s' ⟨hr, rfl, x', y', xs', ys', hz, hm, hx', hy', hdec, hlen⟩
  cases x' with
  | nil => rw [kI.mp hx'] at hz; simp at hz
  | cons k1 x'' =>
   cases y' with
   | nil => rw [kI.mp hy'] at hz; simp at hz
   | cons k2 y'' =>
    obtain ⟨u', xs'', rfl, h1, hx''⟩ := xF.mp hx'
    obtain ⟨v', ys'', rfl, h2, hy''⟩ := xF.mp hy'
    simp only [List.zip_cons_cons, List.cons.injEq, Prod.mk.injEq] at hz
    obtain ⟨⟨rfl, rfl⟩, rfl⟩ := hz
    refine wpAny_bind (he k1 (hm k1 List.mem_cons_self) k2 _ _ _ h1 h2 ?_)
    by_cases hk : k1 = k2
    ·subst hk
     rw [decide_eq_true rfl]
     simp only [Bool.not_true, Bool.false_eq_true, if_false]
     refine wpAny_pure ⟨rfl, rfl, x'', y'', xs'', ys'', rfl, fun k hk => hm k (List.mem_cons_of_mem _ hk), hx'', hy'', ?_, by simpa using hlen⟩
     rw [← hdec]
     by_cases hxy : x'' = y''
     ·simp [hxy]
     ·simp [hxy]
    ·rw [decide_eq_false hk]
     simp only [Bool.not_false, if_true]
     have hf : decide (x = y) = false := by rw [← hdec]; simp [hk]
     rw [hf] at h
     exact wpAny_bind (wpAny_pure (wpAny_pure (wpAny_pure h)))
 ·rintro ⟨r1, r2⟩ s' ⟨hr, rfl, x', y', xs', ys', hz, hm, hx', hy', hdec, hlen⟩
  simp only at hr
  subst hr
  refine wpAny_pure ?_
  have hfin : (xs.size == ys.size) = decide (x = y) := by
   rw [← hdec, ← hlen]
   cases x' with
   | nil =>
    rw [kI.mp hx']
    cases y' with
    | nil => rw [kI.mp hy']; simp
    | cons k2 y'' => obtain ⟨v', ys'', rfl, h2, hy''⟩ := xF.mp hy'; simp
   | cons k1 x'' =>
    obtain ⟨u', xs'', rfl, h1, hx''⟩ := xF.mp hx'
    cases y' with
    | nil => rw [kI.mp hy']; simp
    | cons k2 y'' => obtain ⟨v', ys'', rfl, h2, hy''⟩ := xF.mp hy'; simp at hz
  show P (.done (.ret (.bool (xs.size == ys.size)))) s'
  rw [hfin]; exact h
theorem zOT {n : Nat} : ∀ {ks : List NK}, zIZ ks ≤ n → ∀ k ∈ ks, nQ k ≤ n
 | [], _, k, hk => by simp at hk
 | x :: xs, hx, k, hk => by
  rw [zJM] at hx
  rcases List.mem_cons.mp hk with rfl | hk
  ·omega
  ·exact zOT (by omega) k hk
theorem zWC : ∀ (n : Nat) {A : Around} {E : Value → Shared → Prop} {s : Shared} {x y : NK} {u v : Value} {Q : Bool → Shared → Prop}, nQ x ≤ n → A.units + n < cLine → isN (mk prog w) s.heap x u → isN (mk prog w) s.heap y v → Q (decide (x = y)) s → wpAny (model prog w) A (eqBool u v) Q E s
 | n, A, E, s, .key a, .key b, u, v, Q, _, _, hx, hy, h => (mk prog w).eqBool (kY.mp hx) (kY.mp hy) (by rw [yJY] at h; exact h)
 | n, A, E, s, .key a, .tup b, u, v, Q, _, hu, hx, hy, h => by
  obtain ⟨z, rz, fz⟩ := zWB (kY.mp hx)
  obtain ⟨l, o, items, m, rfl, ho, hc, hd, _⟩ := wO.mp hy
  rw [yNZ] at h
  exact yMH rz fz (items := items) ⟨o, ho, hc, m, hd⟩ (by omega) prog w E Q h
 | n, A, E, s, .tup a, .key b, u, v, Q, _, hu, hx, hy, h => by
  obtain ⟨z, rz, fz⟩ := zWB (kY.mp hy)
  obtain ⟨l, o, items, m, rfl, ho, hc, hd, _⟩ := wO.mp hx
  rw [yOA] at h
  exact yMG rz fz (items := items) ⟨o, ho, hc, m, hd⟩ (by omega) prog w E Q h
 | 0, A, E, s, .tup a, .tup b, u, v, Q, hd, _, hx, hy, h => by rw [zAE] at hd; omega
 | n + 1, A, E, s, .tup x, .tup y, u, v, Q, hd, hu, hx, hy, h => by
  obtain ⟨a, _, _, _, ea, _⟩ := wO.mp hx
  obtain ⟨b, _, _, _, eb, _⟩ := wO.mp hy
  subst ea eb
  rw [zAE] at hd
  rw [yOB] at h
  unfold eqBool
  try with_reducible refine wpAny_holding ?_
  show wpAny _ _ (if (Value.ref a == Value.ref b) = true then _ else _) Q E s
  by_cases hab : (Value.ref a == Value.ref b) = true
  ·rw [if_pos hab]
   have e : a = b := by have := eq_of_beq hab; injection this
   subst e
   have : x = y := NK.tup.inj (zTV hx hy)
   subst this
   exact wpAny_bind (wpAny_rule (wpAny_pure (by simpa using h)))
  ·rw [if_neg hab]
   refine wpAny_bind (wpAny_richCompare_same_room (op := .Eq) (zKS hx) (zKS hy) F.slot_tuple_eq
    (wpAny_call_entry F.slot_tuple_eq (zKS hx) F.entry_tuple_eq (yDU (fun k1 hk1 k2 u v Q h1 h2 h3 => zWC n (zOT (by omega) k1 hk1) (show A.units + 1 + n < cLine by omega) h1 h2 h3) hx hy ⟨_, rfl, (fun e => nomatch e), wpAny_truthy_bool h⟩) (F.args_tuple_eq_2 _ _)) (by omega))
theorem yBT : ∀ (n m : Nat) {A : Around} {E : Value → Shared → Prop} {s : Shared} {x : NK} {u : Value} {Q : Bool → Shared → Prop}, nQ x ≤ n → n < m → isN (mk prog w) s.heap x u → Q true s → wpAny (model prog w) A (eqIsQuiet m u) Q E s
 | n, m, A, E, s, .key k, u, Q, _, _, hx, h => by
  rw [eqIsQuiet_byValue m ((mk prog w).byValue _ _ (kY.mp hx))]
  exact wpAny_pure h
 | 0, m, A, E, s, .tup ks, u, Q, hd, _, hx, h => by rw [zAE] at hd; omega
 | n + 1,0, A, E, s, .tup ks, u, Q, hd, hm, hx, h => by omega
 | n + 1, m + 1, A, E, s, .tup ks, u, Q, hdp, hm, hx, h => by
  obtain ⟨a, o, items, j, rfl, ho, hc, hd, hi⟩ := wO.mp hx
  have hT : s.TypeIs (.ref a) "tuple" := ⟨o, ho, hc⟩
  rw [zAE] at hdp
  unfold eqIsQuiet
  refine wpAny_bind (wpAny_specialOf hT F.slot_tuple_eq.lookup ?_)
  show wpAny _ _ (isInstance (.ref a) (.type "tuple") >>= _) _ _ s
  refine wpAny_bind (wpAny_isInstance hT isSubtype_tuple_tuple ?_)
  simp only [Bool.not_true, Bool.false_eq_true, if_false]
  refine wpAny_bind (wpAny_seqItems ho hd ?_)
  refine wpAny_bind ?_
  show wpAny _ _ (forIn items _ _) _ _ s
  rw [← Array.forIn_toList]
  refine wpAny_forIn_list _ (fun rest r s' => r.1 = none ∧ s' = s ∧ ∃ left, (∀ k ∈ left, k ∈ ks) ∧ zGN (mk prog w) s.heap left rest) _ ?_ ?_ _ _ ⟨rfl, rfl, ks, fun k hk => hk, hi⟩
  ·rintro v rest r s' ⟨hr, rfl, left, hm', hl⟩
   cases left with
   | nil => rw [kI] at hl; cases hl
   | cons k left =>
    obtain ⟨v', r', e, h1, h2⟩ := xF.mp hl
    cases e
    refine wpAny_bind (yBT n m (zOT (by omega) k (hm' k List.mem_cons_self)) (by omega) h1 ?_)
    simp only [Bool.not_true, Bool.false_eq_true, if_false]
    exact wpAny_pure ⟨rfl, rfl, left, fun k hk => hm' k (List.mem_cons_of_mem _ hk), h2⟩
  ·rintro ⟨r1, r2⟩ s' ⟨hr, rfl, _⟩
   simp only at hr
   subst hr
   exact wpAny_pure h
end
noncomputable def zDM (prog : Program) (w : World) : HeapKind prog w NK where
 is := fun h k a => isN (mk prog w) h k (.ref a) ∧ nQ k ≤ 4
 hash := zGO (mk prog w)
 draws := zOR
 room := fun A => A.units + 4 < cLine
 inj := fun hx hy => zTV hx.1 hy.1
 keeps := fun x ho hd hs => ⟨zVZ (fun a o' items n e q => (hs.2 a fun z => by
  subst z
  rw [ho] at e; cases e
  rw [hd] at q; cases q).trans e) x.1, x.2⟩
 pyHash := fun hu hk h => zWA 4 hk.2 hu hk.1 h
 eqBool := fun hu hx hy h => zWC 4 hx.2 hu hx.1 hy.1 h
 quiet := fun hk h => yBT 4 8 hk.2 (by decide) hk.1 h
def DN (P : Program) (w : World) (a : Addr) (xs : List (NK × Addr × Value)) : HO :=
 .ext fun h => xs.length ≤ sizeLine ∧ (a == sysModules) = false ∧ ∃ o es ep, h.get? a = some o ∧ o.ExactDict ∧ o.data = .dict es ep ∧ es.toList = xs.map (entryOfKey (zDM P w)) ∧ (xs.map (·.1)).Nodup
end M
end L2
namespace L2
open PySem PySem.Spec PyProof.Rows
structure Mvd (fs : List Addr) (e T : Addr) (h h' : Heap) : Prop where
 keep : ∀ b o, b ≠ e → b ≠ T → b ∉ fs → h.get? b = some o → h'.get? b = some o
 slot : ∀ b o, b ≠ e → b ≠ T → h.get? b = some o → ∃ sl, h'.get? b = some { o with slots := sl }
 there : ∀ b o, h.get? b = some o → ∃ o', h'.get? b = some o'
theorem Mvd.new {fs : List Addr} {e T T' : Addr} {h h1 h2 : Heap} (a : Mvd fs e T h h1) (n : h.get? T' = none) (b : Mvd fs e T' h1 h2) : Mvd fs e T h h2 := by
 have ne : ∀ c o, h.get? c = some o → c ≠ T' := fun c o q z => by rw [z, n] at q; cases q
 exact ⟨fun c o h1 h2 h3 q => b.keep c o h1 (ne c o q) h3 (a.keep c o h1 h2 h3 q), fun c o h1 h2 q => by
  obtain ⟨sl, e1⟩ := a.slot c o h1 h2 q
  obtain ⟨sl', e2⟩ := b.slot c _ h1 (ne c o q) e1
  exact ⟨sl', e2⟩, fun c o q => let ⟨o', e1⟩ := a.there c o q; b.there c o' e1⟩
end L2
namespace L2
open PySem PySem.Spec PyProof.Rows
abbrev bmV : List Value := [.type "ValueError", .type "Exception", .type "BaseException", .type "object"]
def qn : List Str := ["__class__", "__getattribute__", "__getattr__"]
end L2
namespace L2
namespace M
open PySem PySem.Spec PyProof.Rows
inductive MV where
 | non | bl (b : Bool) | int (i : Int) | str (x : List Nat) | tup (ds : List MV) | scr (ds : List MV) | loc (l : Nat) | typ (n : String)
instance : Inhabited MV := ⟨.non⟩
inductive MO where
 | lst (ds : List MV) | dic (kvs : List (MV × MV)) | ins (c : Str) (fs : List (Str × MV))
abbrev Sto := List MO
def SqF (K : PySem.W.Frag) (H : Hp) (a : Addr) (xs : List V) : Prop :=
 (∃ o, H a = some (.frz o (.lst xs))) ∨
  ∃ (o : Obj) (its : Array Value) (n : Nat), K.lookup a = some o ∧ o.cls = .type "list" ∧ o.dict = none ∧ o.data = .seq its n ∧ its.size ≤ sizeLine ∧ Vals xs its.toList
theorem SqF.l {K : PySem.W.Frag} {H : Hp} {a : Addr} {xs : List V} (h : SqF K H a xs) : SqL K H a xs := by
 rcases h with ⟨o, h⟩ | h
 ·exact .inl (.inr ⟨o, h⟩)
 ·exact .inr h
mutual
def Den (K : PySem.W.Frag) (α : List Addr) (H : Hp) : MV → V → Prop
 | .non, v => v = .non
 | .bl b, v => v = .bl b
 | .int i, v => v = .int i
 | .str x, v => v = .str (mkS x)
 | .tup ds, v => ∃ a vs, v = .ref a ∧ SqT K H a vs ∧ DenL K α H ds vs
 | .scr ds, v => ∃ a vs, v = .ref a ∧ SqF K H a vs ∧ DenL K α H ds vs
 | .loc l, v => ∃ a, v = .ref a ∧ α[l]? = some a
 | .typ n, v => v = .ty n
def DenL (K : PySem.W.Frag) (α : List Addr) (H : Hp) : List MV → List V → Prop
 | [], vs => vs = []
 | d :: ds, vs => ∃ v r, vs = v :: r ∧ Den K α H d v ∧ DenL K α H ds r
end
structure Ex0 (α : List Addr) (H : Hp) (α' : List Addr) (H' : Hp) : Prop where
 pre : ∃ t, α' = α ++ t
 tup : ∀ b xs, H b = some (.tup xs) → H' b = some (.tup xs)
 frz : ∀ b o u, H b = some (.frz o u) → H' b = some (.frz o u)
structure Ext (α : List Addr) (H : Hp) (α' : List Addr) (H' : Hp) : Prop extends Ex0 α H α' H' where
 new : ∀ b ∈ α', b ∈ α ∨ H b = none
 keep : ∀ b o, H b = some o → b ∉ α → H' b = some o
 has : ∀ b o, H b = some o → ∃ o', H' b = some o'
section
variable {K : PySem.W.Frag} {α α' α'' : List Addr} {H H' H'' : Hp}
theorem Ext.refl (α : List Addr) (H : Hp) : Ext α H α H := ⟨⟨⟨[], by simp⟩, fun _ _ h => h, fun _ _ _ h => h⟩, fun b h => .inl h, fun _ _ h _ => h, fun _ o h => ⟨o, h⟩⟩
theorem Ex0.grow (α t : List Addr) (H : Hp) : Ex0 α H (α ++ t) H := ⟨⟨t, rfl⟩, fun _ _ h => h, fun _ _ _ h => h⟩
theorem Ext.free (x : Ext α H α' H') {b : Addr} (h : H' b = none) : H b = none := by
 cases e : H b with
 | none => rfl
 | some o => obtain ⟨o', h'⟩ := x.has b o e; rw [h] at h'; cases h'
theorem Ext.out (x : Ext α H α' H') {b : Addr} {o : HO} (h : H b = some o) (n : b ∉ α) : b ∉ α' := fun z => by
 rcases x.new b z with z | z
 ·exact n z
 ·rw [h] at z; cases z
theorem Ext.trans (x : Ext α H α' H') (y : Ext α' H' α'' H'') : Ext α H α'' H'' where
 pre := by
  obtain ⟨t, rfl⟩ := x.pre
  obtain ⟨u, rfl⟩ := y.pre
  exact ⟨t ++ u, by rw [List.append_assoc]⟩
 new := fun b h => (y.new b h).elim (x.new b) fun z => .inr (x.free z)
 keep := fun b o h n => y.keep b o (x.keep b o h n) (x.out h n)
 has := fun b o h => let ⟨o', h'⟩ := x.has b o h; y.has b o' h'
 tup := fun b xs h => y.tup b xs (x.tup b xs h)
 frz := fun b o u h => y.frz b o u (x.frz b o u h)
theorem Ex0.at (x : Ex0 α H α' H') {l : Nat} {a : Addr} (h : α[l]? = some a) : α'[l]? = some a := by
 obtain ⟨t, rfl⟩ := x.pre
 rw [zQ2 (zQ1.mp h).1]
 exact h
theorem Ex0.sqT (x : Ex0 α H α' H') {a : Addr} {vs : List V} (q : SqT K H a vs) : SqT K H' a vs := by
 rcases q with (q | ⟨o, q⟩) | q
 ·exact .inl (.inl (x.tup a vs q))
 ·exact .inl (.inr ⟨o, x.frz a o _ q⟩)
 ·exact .inr q
theorem Ex0.sqF (x : Ex0 α H α' H') {a : Addr} {vs : List V} (q : SqF K H a vs) : SqF K H' a vs := by
 rcases q with ⟨o, q⟩ | q
 ·exact .inl ⟨o, x.frz a o _ q⟩
 ·exact .inr q
mutual
theorem Den.ex0 (x : Ex0 α H α' H') : ∀ {d : MV} {v : V}, Den K α H d v → Den K α' H' d v
 | .non, _, q => by unfold Den at q ⊢; exact q
 | .bl _, _, q => by unfold Den at q ⊢; exact q
 | .int _, _, q => by unfold Den at q ⊢; exact q
 | .str _, _, q => by unfold Den at q ⊢; exact q
 | .typ _, _, q => by unfold Den at q ⊢; exact q
 | .loc _, _, q => by
  unfold Den at q ⊢
  obtain ⟨a, e, h⟩ := q
  exact ⟨a, e, x.at h⟩
 | .tup ds, _, q => by
  unfold Den at q ⊢
  obtain ⟨a, vs, e, s, l⟩ := q
  exact ⟨a, vs, e, x.sqT s, DenL.ex0 x l⟩
 | .scr ds, _, q => by
  unfold Den at q ⊢
  obtain ⟨a, vs, e, s, l⟩ := q
  exact ⟨a, vs, e, x.sqF s, DenL.ex0 x l⟩
theorem DenL.ex0 (x : Ex0 α H α' H') : ∀ {ds : List MV} {vs : List V}, DenL K α H ds vs → DenL K α' H' ds vs
 | [], _, q => by unfold DenL at q ⊢; exact q
 | d :: ds, _, q => by
  unfold DenL at q ⊢
  obtain ⟨v, r, e, a, l⟩ := q
  exact ⟨v, r, e, Den.ex0 x a, DenL.ex0 x l⟩
end
theorem Den.ext (x : Ext α H α' H') {d : MV} {v : V} (q : Den K α H d v) : Den K α' H' d v := q.ex0 x.toEx0
theorem DenL.ext (x : Ext α H α' H') {d : List MV} {v : List V} (q : DenL K α H d v) : DenL K α' H' d v := q.ex0 x.toEx0
theorem zKT : Den K α H .non .non := by unfold Den; rfl
theorem wS (b : Bool) : Den K α H (.bl b) (.bl b) := by unfold Den; rfl
theorem wP (i : Int) : Den K α H (.int i) (.int i) := by unfold Den; rfl
theorem zBW (x : List Nat) : Den K α H (.str x) (.str (mkS x)) := by unfold Den; rfl
theorem yBU (n : String) : Den K α H (.typ n) (.ty n) := by unfold Den; rfl
theorem nR {ds : List MV} {a : Addr} {vs : List V} (s : SqT K H a vs) (l : DenL K α H ds vs) : Den K α H (.tup ds) (.ref a) := by unfold Den; exact ⟨a, vs, rfl, s, l⟩
theorem yBV {ds : List MV} {a : Addr} {vs : List V} (s : SqF K H a vs) (l : DenL K α H ds vs) : Den K α H (.scr ds) (.ref a) := by unfold Den; exact ⟨a, vs, rfl, s, l⟩
theorem zNY {l : Nat} {a : Addr} (h : α[l]? = some a) : Den K α H (.loc l) (.ref a) := by unfold Den; exact ⟨a, rfl, h⟩
theorem zCL {v : V} (d : Den K α H .non v) : v = .non := by unfold Den at d; exact d
theorem zFX {b : Bool} {v : V} (d : Den K α H (.bl b) v) : v = .bl b := by unfold Den at d; exact d
theorem kS {i : Int} {v : V} (d : Den K α H (.int i) v) : v = .int i := by unfold Den at d; exact d
theorem kT {x : List Nat} {v : V} (d : Den K α H (.str x) v) : v = .str (mkS x) := by unfold Den at d; exact d
theorem zAF {n : String} {v : V} (d : Den K α H (.typ n) v) : v = .ty n := by unfold Den at d; exact d
theorem wG {ds : List MV} {v : V} (d : Den K α H (.tup ds) v) : ∃ a vs, v = .ref a ∧ SqT K H a vs ∧ DenL K α H ds vs := by unfold Den at d; exact d
theorem dP {ds : List MV} {v : V} (d : Den K α H (.scr ds) v) : ∃ a vs, v = .ref a ∧ SqF K H a vs ∧ DenL K α H ds vs := by unfold Den at d; exact d
theorem bM {l : Nat} {v : V} (d : Den K α H (.loc l) v) : ∃ a, v = .ref a ∧ α[l]? = some a := by unfold Den at d; exact d
theorem xK : DenL K α H [] [] := by unfold DenL; rfl
theorem xC {d : MV} {v : V} {ds : List MV} {vs : List V} (a : Den K α H d v) (l : DenL K α H ds vs) : DenL K α H (d :: ds) (v :: vs) := by unfold DenL; exact ⟨v, vs, rfl, a, l⟩
theorem DenL.uncons {d : MV} {ds : List MV} {vs : List V} (l : DenL K α H (d :: ds) vs) : ∃ v r, vs = v :: r ∧ Den K α H d v ∧ DenL K α H ds r := by unfold DenL at l; exact l
theorem DenL.isnil {vs : List V} (l : DenL K α H [] vs) : vs = [] := by unfold DenL at l; exact l
theorem DenL.length : ∀ {ds : List MV} {vs : List V}, DenL K α H ds vs → vs.length = ds.length
 | [], _, q => by rw [q.isnil]; rfl
 | d :: ds, _, q => by
  obtain ⟨v, r, rfl, _, l⟩ := q.uncons
  rw [List.length_cons, List.length_cons, DenL.length l]
theorem DenL.append : ∀ {ds es : List MV} {vs us : List V}, DenL K α H ds vs → DenL K α H es us → DenL K α H (ds ++ es) (vs ++ us)
 | [], _, _, _, q, l => by rw [q.isnil]; exact l
 | d :: ds, _, _, _, q, l => by
  obtain ⟨v, r, rfl, a, l'⟩ := q.uncons
  exact xC a (DenL.append l' l)
theorem DenL.drop : ∀ {ds : List MV} {vs : List V} (n : Nat), DenL K α H ds vs → DenL K α H (ds.drop n) (vs.drop n)
 | _, _, 0, q => q
 | [], _, n + 1, q => by rw [q.isnil]; exact xK
 | d :: ds, _, n + 1, q => by
  obtain ⟨v, r, rfl, _, l⟩ := q.uncons
  exact DenL.drop n l
theorem DenL.take : ∀ {ds : List MV} {vs : List V} (n : Nat), DenL K α H ds vs → DenL K α H (ds.take n) (vs.take n)
 | _, _, 0, q => xK
 | [], _, n + 1, q => by rw [q.isnil]; exact xK
 | d :: ds, _, n + 1, q => by
  obtain ⟨v, r, rfl, a, l⟩ := q.uncons
  exact xC a (DenL.take n l)
theorem DenL.reverse : ∀ {ds : List MV} {vs : List V}, DenL K α H ds vs → DenL K α H ds.reverse vs.reverse
 | [], _, q => by rw [q.isnil]; exact xK
 | d :: ds, _, q => by
  obtain ⟨v, r, rfl, a, l⟩ := q.uncons
  rw [List.reverse_cons, List.reverse_cons]
  exact (DenL.reverse l).append (xC a xK)
theorem DenL.get : ∀ {ds : List MV} {vs : List V} {i : Nat} {v : V}, DenL K α H ds vs → vs[i]? = some v → ∃ d, ds[i]? = some d ∧ Den K α H d v
 | [], _, _, _, q, e => by rw [q.isnil] at e; simp at e
 | d :: ds, _, 0, _, q, e => by
  obtain ⟨v, r, rfl, a, l⟩ := q.uncons
  simp at e; subst e
  exact ⟨d, rfl, a⟩
 | d :: ds, _, i + 1, _, q, e => by
  obtain ⟨v, r, rfl, a, l⟩ := q.uncons
  obtain ⟨d', h1, h2⟩ := DenL.get (i := i) l (by simpa using e)
  exact ⟨d', by simpa using h1, h2⟩
theorem DenL.at {ds : List MV} {vs : List V} {i : Nat} {d : MV} (q : DenL K α H ds vs) (e : ds[i]? = some d) : ∃ v, vs[i]? = some v ∧ Den K α H d v := by
 have hi : i < ds.length := (zQ1.mp e).1
 have hv : i < vs.length := by rw [q.length]; exact hi
 obtain ⟨d', h1, h2⟩ := q.get (List.getElem?_eq_getElem hv)
 rw [e] at h1; cases h1
 exact ⟨_, List.getElem?_eq_getElem hv, h2⟩
theorem DenL.cut {ds : List MV} {vs : List V} (q : DenL K α H ds vs) (lo hi : Option Int) : DenL K α H (bK ds lo hi) (zVV vs lo hi) := by
 unfold bK zVV
 rw [q.length]
 exact (q.drop _).take _
theorem zSK : ∀ (ns : List Int), DenL K α H (ns.map MV.int) (ns.map V.int)
 | [] => xK
 | b :: bs => xC (wP b) (zSK bs)
end
structure Gm where
 K : PySem.W.Frag
 mg : Str → Option Value
 P : Program
 w : World
abbrev _root_.L2.Cx.g (X : Cx) : Gm := ⟨X.K, X.mg, X.prog, X.w⟩
inductive DenF (K : PySem.W.Frag) (α : List Addr) (H : Hp) : List (Str × MV) → List (Str × V) → Prop
 | nil : DenF K α H [] []
 | cons {x : Str} {d : MV} {v : V} {fs gs} : Den K α H d v → DenF K α H fs gs → DenF K α H ((x, d) :: fs) ((x, v) :: gs)
theorem DenF.ex0 {K : PySem.W.Frag} {α α' : List Addr} {H H' : Hp} (x : Ex0 α H α' H') : ∀ {fs gs}, DenF K α H fs gs → DenF K α' H' fs gs
 | _, _, .nil => .nil
 | _, _, .cons a l => .cons (a.ex0 x) (DenF.ex0 x l)
def KeyD : MV → Key → Prop
 | .int i, k => k = .inl i
 | .str x, k => k = .inr (mkS x)
 | _, _ => False
inductive DenK (K : PySem.W.Frag) (α : List Addr) (H : Hp) : List (MV × MV) → List (Key × V) → Prop
 | nil : DenK K α H [] []
 | cons {k : MV} {k' : Key} {d : MV} {v : V} {fs gs} : KeyD k k' → Den K α H d v → DenK K α H fs gs → DenK K α H ((k, d) :: fs) ((k', v) :: gs)
theorem DenK.ex0 {K : PySem.W.Frag} {α α' : List Addr} {H H' : Hp} (x : Ex0 α H α' H') : ∀ {fs gs}, DenK K α H fs gs → DenK K α' H' fs gs
 | _, _, .nil => .nil
 | _, _, .cons k a l => .cons k (a.ex0 x) (DenK.ex0 x l)
mutual
def wY : MV → Option NK
 | .int i => some (.key (.inl i))
 | .str x => some (.key (.inr (mkS x)))
 | .tup ds => (jW ds).map .tup
 | _ => none
def jW : List MV → Option (List NK)
 | [] => some []
 | d :: ds => (wY d).bind fun k => (jW ds).map (k :: ·)
end
inductive DenN (K : PySem.W.Frag) (α : List Addr) (H : Hp) : List (MV × MV) → List (NK × Addr × Value) → Prop
 | nil : DenN K α H [] []
 | cons {k : MV} {nk : NK} {a : Addr} {d : MV} {v : V} {u : Value} {fs xs} : wY k = some nk → nQ nk ≤ 4 → Den K α H k (.ref a) → Den K α H d v → RelV v u → DenN K α H fs xs → DenN K α H ((k, d) :: fs) ((nk, a, u) :: xs)
theorem DenN.ex0 {K : PySem.W.Frag} {α α' : List Addr} {H H' : Hp} (x : Ex0 α H α' H') : ∀ {fs xs}, DenN K α H fs xs → DenN K α' H' fs xs
 | _, _, .nil => .nil
 | _, _, .cons k e a d r l => .cons k e (a.ex0 x) (d.ex0 x) r (DenN.ex0 x l)
def ObD (g : Gm) (α : List Addr) (H : Hp) (a : Addr) : MO → Prop
 | .lst ds => ∃ vs, H a = some (.lst vs) ∧ DenL g.K α H ds vs
 | .dic kvs => (∃ ks, H a = some (.dK ks) ∧ DenK g.K α H kvs ks) ∨ ∃ xs, H a = some (DN g.P g.w a xs) ∧ DenN g.K α H kvs xs
 | .ins c fs => ∃ C gs, g.mg c = some (.ref C) ∧ DenF g.K α H fs gs ∧
   ∃ oe, H a = some (.ext fun h => h.get? a = some oe) ∧ oe.cls = .ref C ∧ (fs = [] ∨ ∃ dx od, oe.dict = some dx ∧ H dx = some (.frz od (.xd gs)))
theorem ObD.there {g : Gm} {α : List Addr} {H : Hp} {a : Addr} {o : MO} (h : ObD g α H a o) : ∃ ho, H a = some ho ∧ (∀ xs, ho ≠ .tup xs) ∧ ∀ ob u, ho ≠ .frz ob u := by
 cases o with
 | lst ds => obtain ⟨vs, h, _⟩ := h; exact ⟨_, h, (fun xs z => by cases z), fun _ _ z => by cases z⟩
 | dic ds =>
  rcases h with ⟨vs, h, _⟩ | ⟨vs, h, _⟩
  ·exact ⟨_, h, (fun xs z => by cases z), fun _ _ z => by cases z⟩
  ·exact ⟨_, h, (fun xs z => by cases z), fun _ _ z => by cases z⟩
 | ins c ds =>
  obtain ⟨_, _, _, _, _, h, _⟩ := h
  exact ⟨_, h, (fun xs z => by cases z), fun _ _ z => by cases z⟩
theorem ObD.move {g : Gm} {α α' : List Addr} {H H' : Hp} {a : Addr} {o : MO} (h : ObD g α H a o) (x : Ex0 α H α' H') (e : H' a = H a) : ObD g α' H' a o := by
 cases o with
 | lst ds => obtain ⟨vs, h, l⟩ := h; exact ⟨vs, e.trans h, l.ex0 x⟩
 | dic ds =>
  rcases h with ⟨vs, h, l⟩ | ⟨vs, h, l⟩
  ·exact .inl ⟨vs, e.trans h, l.ex0 x⟩
  ·exact .inr ⟨vs, e.trans h, l.ex0 x⟩
 | ins c ds =>
  obtain ⟨C, gs, m, l, oe, h, hc, hf⟩ := h
  exact ⟨C, gs, m, l.ex0 x, oe, e.trans h, hc, hf.imp id fun ⟨dx, od, h1, h2⟩ => ⟨dx, od, h1, x.frz _ _ _ h2⟩⟩
structure Wd (g : Gm) (α : List Addr) (S : Sto) (H : Hp) : Prop where
 len : α.length = S.length
 nd : α.Nodup
 obj : ∀ (l : Nat) (a : Addr) (o : MO), α[l]? = some a → S[l]? = some o → ObD g α H a o
section
variable {g : Gm} {α α' : List Addr} {S S' : Sto} {H H' : Hp}
theorem Wd.at (w : Wd g α S H) {l : Nat} {o : MO} (h : S[l]? = some o) : ∃ a, α[l]? = some a ∧ ObD g α H a o := by
 have hl : l < α.length := by rw [w.len]; exact (zQ1.mp h).1
 exact ⟨α[l], List.getElem?_eq_getElem hl, w.obj l _ o (List.getElem?_eq_getElem hl) h⟩
theorem Wd.of (w : Wd g α S H) {l : Nat} {a : Addr} (h : α[l]? = some a) : ∃ o, S[l]? = some o ∧ ObD g α H a o := by
 have hl : l < S.length := by rw [← w.len]; exact (zQ1.mp h).1
 exact ⟨S[l], List.getElem?_eq_getElem hl, w.obj l a _ h (List.getElem?_eq_getElem hl)⟩
theorem Wd.mem (w : Wd g α S H) {a : Addr} (h : a ∈ α) : ∃ ho, H a = some ho ∧ (∀ xs, ho ≠ .tup xs) ∧ ∀ ob u, ho ≠ .frz ob u := by
 obtain ⟨l, hl⟩ := List.getElem?_of_mem h
 obtain ⟨o, _, q⟩ := w.of hl
 exact q.there
theorem Wd.newx (w : Wd g α S H) {p : Addr} {o : HO} (hp : H p = none) : Ext α H α (upd H p o) where
 pre := ⟨[], by simp⟩
 new := fun b h => .inl h
 keep := fun b o h _ => by rw [yP (yV h hp)]; exact h
 has := fun b o h => ⟨o, by rw [yP (yV h hp)]; exact h⟩
 tup := fun b o h => by rw [yP (yV h hp)]; exact h
 frz := fun b o u h => by rw [yP (yV h hp)]; exact h
theorem Wd.fresh (w : Wd g α S H) {p : Addr} (hp : H p = none) : p ∉ α := fun z => by
 obtain ⟨_, h, _⟩ := w.mem z; rw [hp] at h; cases h
theorem Wd.new (w : Wd g α S H) {p : Addr} {o : HO} (hp : H p = none) : Wd g α S (upd H p o) :=
 ⟨w.len, w.nd, fun l a ob h1 h2 => (w.obj l a ob h1 h2).move (w.newx hp).toEx0 (yP fun z => w.fresh hp (by rw [← z]; exact List.mem_of_getElem? h1))⟩
theorem Wd.writex (w : Wd g α S H) {l : Nat} {a : Addr} {o : HO} (h : α[l]? = some a) : Ext α H α (upd H a o) where
 pre := ⟨[], by simp⟩
 new := fun b h => .inl h
 keep := fun b o e n => by rw [yP fun z => n (by rw [z]; exact List.mem_of_getElem? h)]; exact e
 has := fun b o e => by
  by_cases z : b = a
  ·subst z; exact ⟨_, wR⟩
  ·exact ⟨o, by rw [yP z]; exact e⟩
 tup := fun b xs e => by
  obtain ⟨ho, h1, h2, _⟩ := w.mem (List.mem_of_getElem? h)
  rw [yP fun z => h2 xs (by subst z; rw [e] at h1; exact (Option.some.inj h1).symm)]; exact e
 frz := fun b ob u e => by
  obtain ⟨ho, h1, _, h2⟩ := w.mem (List.mem_of_getElem? h)
  rw [yP fun z => h2 ob u (by subst z; rw [e] at h1; exact (Option.some.inj h1).symm)]; exact e
theorem Wd.ne (w : Wd g α S H) {l m : Nat} {a b : Addr} (h : α[l]? = some a) (h' : α[m]? = some b) (n : l ≠ m) : a ≠ b := by
 rintro rfl
 obtain ⟨h1, e1⟩ := zQ1.mp h
 obtain ⟨h2, e2⟩ := zQ1.mp h'
 exact n ((List.getElem_inj w.nd).mp (e1.trans e2.symm))
theorem Wd.write (w : Wd g α S H) {l : Nat} {a : Addr} {o : HO} {ob : MO} (h : α[l]? = some a) (q : ObD g α (upd H a o) a ob) : Wd g α (S.set l ob) (upd H a o) where
 len := by rw [List.length_set]; exact w.len
 nd := w.nd
 obj := fun m b ob' h1 h2 => by
  by_cases e : l = m
  ·subst e
   rw [h] at h1
   have hl : l < S.length := by rw [← w.len]; exact (zQ1.mp h).1
   rw [List.getElem?_set_self hl] at h2
   rw [← Option.some.inj h1, ← Option.some.inj h2]
   exact q
  ·rw [List.getElem?_set_ne e] at h2
   exact (w.obj m b ob' h1 h2).move (w.writex h).toEx0 (yP (w.ne h1 h fun z => e z.symm))
theorem Wd.enterx (w : Wd g α S H) {H0 : Hp} {α0 : List Addr} (x : Ext α0 H0 α H) {b : Addr} (h0 : H0 b = none) (n : b ∉ α) : Ext α0 H0 (α ++ [b]) H where
 pre := let ⟨t, e⟩ := x.pre; ⟨t ++ [b], by rw [e, List.append_assoc]⟩
 new := fun c hc => (List.mem_append.mp hc).elim (x.new c) fun z => .inr (by rw [List.mem_singleton.mp z]; exact h0)
 keep := x.keep
 has := x.has
 tup := x.tup
 frz := x.frz
theorem Wd.enter (w : Wd g α S H) {b : Addr} {ds : List MV} {vs : List V} (h : H b = some (.lst vs)) (n : b ∉ α) (l : DenL g.K α H ds vs) : Wd g (α ++ [b]) (S ++ [.lst ds]) H where
 len := by rw [zQ4, zQ4, w.len]; rfl
 nd := List.nodup_append.mpr ⟨w.nd, by simp, fun a ha c hc => by rw [List.mem_singleton.mp hc]; rintro rfl; exact n ha⟩
 obj := fun m a o h1 h2 => by
  by_cases hm : m < α.length
  ·rw [zQ2 hm] at h1
   rw [zQ2 (by rw [← w.len]; exact hm)] at h2
   exact (w.obj m a o h1 h2).move (Ex0.grow α [b] H) rfl
  ·have hm' : m = α.length := by
    have := (zQ1.mp h1).1
    rw [zQ4, List.length_singleton] at this
    omega
   subst hm'
   rw [List.getElem?_append_right (Nat.le_refl _), Nat.sub_self] at h1
   rw [List.getElem?_append_right (by rw [w.len]; exact Nat.le_refl _), w.len, Nat.sub_self] at h2
   cases h1; cases h2
   exact ⟨vs, h, l.ex0 (Ex0.grow α [b] H)⟩
end
end M
end L2
namespace L2
namespace M
open PySem PySem.Spec PyProof.Rows
inductive R (β : Type) where
 | ok (b : β) (S : Sto) | exc (c : Str) (fs : List (Str × MV)) (S : Sto) | no
def R.bind {β γ : Type} : R β → (β → Sto → R γ) → R γ
 | .ok b S, k => k b S
 | .exc c fs S, _ => .exc c fs S
 | .no, _ => .no
theorem R.bind_ok {β γ : Type} (b : β) (S : Sto) (k : β → Sto → R γ) : (R.ok b S).bind k = k b S := rfl
inductive Er where
 | val (d : MV) | new (ds : List MV)
instance : Inhabited Er := ⟨.val .non⟩
def DenX (K : PySem.W.Frag) (α : List Addr) (H : Hp) : Er → V → Prop
 | .val d, v => Den K α H d v
 | .new ds, v => ∃ b vs, v = .ref b ∧ H b = some (.lst vs) ∧ b ∉ α ∧ DenL K α H ds vs
def DenE (K : PySem.W.Frag) (H : Hp) (α' : List Addr) (H' : Hp) (r : Er) (v : V) : Prop := DenX K α' H' r v ∧ match r with | .new _ => ∀ a, v = .ref a → H a = none | _ => True
section
variable {K : PySem.W.Frag} {α α' : List Addr} {H H0 H' : Hp}
theorem DenX.ext (x : Ext α H α' H') : ∀ {r : Er} {v : V}, DenX K α H r v → DenX K α' H' r v
 | .val d, _, q => Den.ext x q
 | .new ds, _, ⟨b, vs, e, h, n, l⟩ => ⟨b, vs, e, x.keep b _ h n, x.out h n, l.ext x⟩
theorem DenE.val {d : MV} {v : V} (q : Den K α' H' d v) : DenE K H α' H' (.val d) v := ⟨q, trivial⟩
theorem DenE.back (hf : ∀ b, H b = none → H0 b = none) {r : Er} {v : V} (q : DenE K H α' H' r v) : DenE K H0 α' H' r v := by
 refine ⟨q.1, ?_⟩
 cases r with
 | new ds => exact fun a e => hf a (q.2 a e)
 | _ => trivial
theorem DenE.ext {α'' : List Addr} {H'' : Hp} (x : Ext α' H' α'' H'') {r : Er} {v : V} (q : DenE K H α' H' r v) : DenE K H α'' H'' r v := ⟨q.1.ext x, q.2⟩
end
section
variable {K : PySem.W.Frag} {α : List Addr} {H : Hp} {v : V}
theorem zMJ (d : DenX K α H (.val .non) v) : v = .non := zCL (K := K) (α := α) (H := H) d
theorem zFY {b : Bool} (d : DenX K α H (.val (.bl b)) v) : v = .bl b := zFX (K := K) (α := α) (H := H) d
theorem wA {b : Int} (d : DenX K α H (.val (.int b)) v) : v = .int b := kS (K := K) (α := α) (H := H) d
theorem kU {b : List Nat} (d : DenX K α H (.val (.str b)) v) : v = .str (mkS b) := kT (K := K) (α := α) (H := H) d
theorem yGI {b : String} (d : DenX K α H (.val (.typ b)) v) : v = .ty b := zAF (K := K) (α := α) (H := H) d
theorem dQ {ds : List MV} (d : DenX K α H (.val (.tup ds)) v) : ∃ a vs, v = .ref a ∧ SqT K H a vs ∧ DenL K α H ds vs := wG (K := K) (α := α) (H := H) d
theorem zOU {ds : List MV} (d : DenX K α H (.val (.scr ds)) v) : ∃ a vs, v = .ref a ∧ SqF K H a vs ∧ DenL K α H ds vs := dP (K := K) (α := α) (H := H) d
theorem zGQ {l : Nat} (d : DenX K α H (.val (.loc l)) v) : ∃ a, v = .ref a ∧ α[l]? = some a := bM (K := K) (α := α) (H := H) d
end
def zJB : List Er → List V → List Addr
 | .new _ :: rs, .ref b :: vs => b :: zJB rs vs
 | _ :: rs, _ :: vs => zJB rs vs
 | _, _ => []
inductive ArgsE (K : PySem.W.Frag) (H : Hp) (α' : List Addr) (H' : Hp) : List Er → List V → Prop
 | nil : ArgsE K H α' H' [] []
 | cons {r v rs vs} : DenE K H α' H' r v → (∀ ds b, r = .new ds → v = .ref b → b ∉ zJB rs vs) → ArgsE K H α' H' rs vs → ArgsE K H α' H' (r :: rs) (v :: vs)
theorem ArgsE.nones {K : PySem.W.Frag} {H : Hp} {α' : List Addr} {H' : Hp} : ∀ {rs vs}, ArgsE K H α' H' rs vs → ∀ b ∈ zJB rs vs, H b = none
 | _, _, .nil => fun b h => by simp [zJB] at h
 | .val d :: _, v :: _, .cons a n l => fun b h => ArgsE.nones l b (by simpa [zJB] using h)
 | .new ds :: _, v :: _, .cons a n l => fun b h => by
  obtain ⟨c, vs, rfl, _⟩ := a.1
  rcases List.mem_cons.mp (show b ∈ c :: zJB _ _ from h) with rfl | h
  ·exact a.2 _ rfl
  ·exact ArgsE.nones l b h
theorem ArgsE.back {K : PySem.W.Frag} {H H0 : Hp} {α' : List Addr} {H' : Hp} (hf : ∀ b, H b = none → H0 b = none) : ∀ {rs vs}, ArgsE K H α' H' rs vs → ArgsE K H0 α' H' rs vs
 | _, _, .nil => .nil
 | _, _, .cons a n l => .cons (a.back hf) n (ArgsE.back hf l)
theorem ArgsE.length {K : PySem.W.Frag} {H : Hp} {α' : List Addr} {H' : Hp} : ∀ {rs vs}, ArgsE K H α' H' rs vs → vs.length = rs.length
 | _, _, .nil => rfl
 | _, _, .cons _ _ l => by rw [List.length_cons, List.length_cons, ArgsE.length l]
class Dn (β : Type) (τ : outParam Type) where
 d : Gm → Hp → List Addr → Sto → Hp → β → τ → Prop
 back : ∀ {g : Gm} {H H0 : Hp} {α' : List Addr} {S' : Sto} {H' : Hp} {b : β} {u : τ}, (∀ b, H b = none → H0 b = none) → d g H α' S' H' b u → d g H0 α' S' H' b u
instance : Dn Er V := ⟨fun g H α' _ H' r v => DenE g.K H α' H' r v, fun hf q => q.back hf⟩
instance : Dn Bool Bool := ⟨fun _ _ _ _ _ b u => u = b, fun _ q => q⟩
instance : Dn (List Er) (List V) := ⟨fun g H α' _ H' r v => ArgsE g.K H α' H' r v, fun hf q => q.back hf⟩
instance : Dn (Option Int) (Option Int) := ⟨fun _ _ _ _ _ b u => u = b, fun _ q => q⟩
abbrev XW := Str → List (Str × MV) → Sto → List Addr → Hp → Prop
abbrev W0 : XW := fun _ _ _ _ _ => False
def Post {β τ : Type} [Dn β τ] (g : Gm) (W : XW) (α : List Addr) (H : Hp) : R β → (τ → Hp → Prop) → Prop
 | .ok b S, Q => ∀ u α' H', Ext α H α' H' → Wd g α' S H' → Dn.d g H α' S H' b u → Q u H'
 | .exc c fs S, _ => ∀ α' H', Ext α H α' H' → Wd g α' S H' → W c fs S α' H'
 | .no, _ => False
section
variable {β τ γ υ : Type} [Dn β τ] [Dn γ υ] {g : Gm} {W : XW} {α α' : List Addr} {H H' : Hp}
theorem Post.shift (x : Ext α H α' H') : ∀ {m : R β} {Q : τ → Hp → Prop}, Post g W α H m Q → Post g W α' H' m Q
 | .ok b S, Q, q => fun u α2 H2 x2 w2 d2 => q u α2 H2 (x.trans x2) w2 (Dn.back (fun b h => x.free h) d2)
 | .exc c fs S, _, q => fun α2 H2 x2 w2 => q α2 H2 (x.trans x2) w2
 | .no, _, q => q
theorem Post.bind {m : R β} {k : β → Sto → R γ} {Q : υ → Hp → Prop} {Q' : τ → Hp → Prop} (q : Post g W α H (m.bind k) Q)
  (f : ∀ u b S1 α1 H1, m = .ok b S1 → Ext α H α1 H1 → Wd g α1 S1 H1 → Dn.d g H α1 S1 H1 b u → Post g W α H (k b S1) Q → Q' u H1) : Post g W α H m Q' := by
 cases m with
 | ok b S => exact fun u α1 H1 x w d => f u b S α1 H1 rfl x w d q
 | exc c fs S => exact q
 | no => exact q
theorem Post.here {b : β} {S : Sto} {Q : τ → Hp → Prop} {u : τ} (q : Post g W α H (.ok b S) Q) (w : Wd g α S H) (d : Dn.d g H α S H b u) : Q u H := q u α H (Ext.refl α H) w d
end
theorem Post.val {g : Gm} {W : XW} {α : List Addr} {H : Hp} {d : MV} {S : Sto} {Q : VK} {v : V} (q : Post g W α H (.ok (Er.val d) S) Q) (w : Wd g α S H) (k : Den g.K α H d v) : Q v H := q.here w (DenE.val k)
theorem Post.newl {g : Gm} {W : XW} {α : List Addr} {H : Hp} {ds : List MV} {S : Sto} {Q : VK} {vs : List V} {p : Addr} (q : Post g W α H (.ok (Er.new ds) S) Q) (w : Wd g α S H) (hp : H p = none) (l : DenL g.K α H ds vs) : Q (.ref p) (upd H p (.lst vs)) :=
 q (.ref p) α _ (w.newx hp) (w.new hp) ⟨⟨p, vs, rfl, wR, w.fresh hp, l.ext (w.newx hp)⟩, fun a e => by cases e; exact hp⟩
theorem Post.newt {g : Gm} {W : XW} {α : List Addr} {H : Hp} {ds : List MV} {S : Sto} {Q : VK} {vs : List V} {p : Addr} (q : Post g W α H (.ok (Er.val (.tup ds)) S) Q) (w : Wd g α S H) (hp : H p = none) (l : DenL g.K α H ds vs) : Q (.ref p) (upd H p (.tup vs)) :=
 q (.ref p) α _ (w.newx hp) (w.new hp) (.val (nR (.of wR) (l.ext (w.newx hp))))
abbrev Rho := List (Option MV)
structure Slots (K : PySem.W.Frag) (α : List Addr) (H : Hp) (ρ : Rho) (σ : St) : Prop where
 len : σ.length = ρ.length
 slot : ∀ (i : Nat) (d : MV), ρ[i]? = some (some d) → ∃ v, σ[i]? = some (some v) ∧ Den K α H d v
section
variable {K : PySem.W.Frag} {α α' : List Addr} {H H' : Hp} {ρ : Rho} {σ : St}
theorem Slots.ex0 (q : Slots K α H ρ σ) (x : Ex0 α H α' H') : Slots K α' H' ρ σ := ⟨q.len, fun i d e => let ⟨v, h1, h2⟩ := q.slot i d e; ⟨v, h1, h2.ex0 x⟩⟩
theorem Slots.ext (q : Slots K α H ρ σ) (x : Ext α H α' H') : Slots K α' H' ρ σ := q.ex0 x.toEx0
theorem yJZ {α : Type} {l : List α} {i j : Nat} {x y : α} (h : (l.set i x)[j]? = some y) : (j = i ∧ y = x ∧ i < l.length) ∨ (j ≠ i ∧ l[j]? = some y) := by
 by_cases hj : i = j
 ·subst hj
  by_cases hl : i < l.length
  ·rw [List.getElem?_set_self hl] at h
   exact .inl ⟨rfl, (Option.some.inj h).symm, hl⟩
  ·rw [List.getElem?_eq_none (by rw [List.length_set]; omega)] at h; cases h
 ·rw [List.getElem?_set_ne hj] at h
  exact .inr ⟨fun z => hj z.symm, h⟩
theorem Slots.set (q : Slots K α H ρ σ) {i : Nat} {d : MV} {v : V} (h : Den K α H d v) : Slots K α H (ρ.set i (some d)) (σ.set i (some v)) := by
 refine ⟨by rw [List.length_set, List.length_set]; exact q.len, fun j e z => ?_⟩
 rcases yJZ z with ⟨rfl, e', hl⟩ | ⟨hj, e'⟩
 ·cases e'
  exact ⟨v, by rw [List.getElem?_set_self (by rw [q.len]; exact hl)], h⟩
 ·obtain ⟨u, h1, h2⟩ := q.slot j e e'
  exact ⟨u, by rw [List.getElem?_set_ne (Ne.symm hj)]; exact h1, h2⟩
end
def Jd (X : Cx) (W : XW) {β τ : Type} [Dn β τ] (P : (St → Hp → (τ → Hp → Prop) → Prop) → Prop) (f : Rho → Sto → R β) : Prop :=
 ∃ t, P t ∧ ∀ α ρ S σ H Q, Wd X.g α S H → Slots X.K α H ρ σ → Post X.g W α H (f ρ S) Q → t σ H Q
abbrev PEm (X : Cx) (W : XW) (e : Expr) (f : Rho → Sto → R Er) : Prop := Jd X W (PE X e) f
abbrev PTm (X : Cx) (W : XW) (e : Expr) (f : Rho → Sto → R Bool) : Prop := Jd X W (PT X e) f
abbrev PWm (X : Cx) (W : XW) (e : Expr) (f : Rho → Sto → R Bool) : Prop := Jd X W (PW X e) f
abbrev PAm (X : Cx) (W : XW) (es : List Expr) (f : Rho → Sto → R (List Er)) : Prop := Jd X W (PA X es) f
abbrev POm (X : Cx) (W : XW) (e : Option Expr) (f : Rho → Sto → R (Option Int)) : Prop := Jd X W (PO X e) f
section
variable {X : Cx} {W : XW} {a b c e : Expr} {es : List Expr} {f g h : Rho → Sto → R Er} {tf tg : Rho → Sto → R Bool} {af : Rho → Sto → R (List Er)} {pos : Pos}
def zF : Option (Option MV) → Sto → R Er
 | some (some d), S => .ok (.val d) S
 | _, _ => .no
theorem zB (i : Nat) {x : Str} (hN : X.N[i]? = some x := by rfl) (hv : Vis X.env.scope x := by first | exact Or.inl rfl | exact Or.inr (Or.inl rfl) | exact Or.inr (Or.inr rfl)) (hd : (x == ("__debug__" : Str)) = false := by decide)
  (hcd : (x == ("__classdict__" : Str)) = false := by decide) : PEm X W (.Name x pos) (fun ρ S => zF (ρ[i]?) S) := by
 refine ⟨_, pv i hN hv hd hcd, fun α ρ S σ H Q wd sl q => ?_⟩
 dsimp only at q
 cases z : ρ[i]? with
 | none => rw [z] at q; exact q.elim
 | some o =>
  cases o with
  | none => rw [z] at q; exact q.elim
  | some d =>
   rw [z] at q
   obtain ⟨v, h1, h2⟩ := sl.slot i d z
   exact ⟨v, h1, Post.val q wd h2⟩
theorem zE {i : Int} {j : Nat} : PEm X W (.Constant (.int i) j pos) (fun _ S => .ok (.val (.int i)) S) := ⟨_, yMS, fun α ρ S σ H Q wd sl q => Post.val q wd (wP i)⟩
theorem bI {i : Bool} {j : Nat} : PEm X W (.Constant (.bool i) j pos) (fun _ S => .ok (.val (.bl i)) S) := ⟨_, pe_bl, fun α ρ S σ H Q wd sl q => Post.val q wd (wS i)⟩
theorem yGJ {j : Nat} : PEm X W (.Constant .none j pos) (fun _ S => .ok (.val .non) S) := ⟨_, yMT, fun α ρ S σ H Q wd sl q => Post.val q wd zKT⟩
theorem gL {x : Str} {j : Nat} (cs : List Nat) (hx : x = mkS cs := by rfl) : PEm X W (.Constant (.str x) j pos) (fun _ S => .ok (.val (.str cs)) S) :=
 ⟨_, yMU, fun α ρ S σ H Q wd sl q => Post.val q wd (by rw [hx]; exact zBW cs)⟩
theorem zEC {x : Str} {i : Int} {t : Tok} (hg : Gl X x) (hm : X.mg x = some (.int i t)) (hd : (x == ("__debug__" : Str)) = false := by decide) : PEm X W (.Name x pos) (fun _ S => .ok (.val (.int i)) S) :=
 ⟨_, yBL (v := .int i) hg hm ⟨t, rfl⟩ hd, fun α ρ S σ H Q wd sl q => Post.val q wd (wP i)⟩
theorem zBX {x : Str} {T : String} (hg : Gl X x) (hm : X.mg x = none) (hv : bootBuiltins x = some (.type T)) (hn : x ≠ "__name__" := by decide) (hd : (x == ("__debug__" : Str)) = false := by decide) : PEm X W (.Name x pos) (fun _ S => .ok (.val (.typ T)) S) :=
 ⟨_, yJD (v := .ty T) hg hm hv rfl hn hd, fun α ρ S σ H Q wd sl q => Post.val q wd (yBU T)⟩
def Op2 (X : Cx) (W : XW) (r : R2) (F : Er → Er → Sto → R Er) : Prop := ∀ p q x y α S H Q, Wd X.g α S H → DenX X.K α H p x → DenX X.K α H q y → Post X.g W α H (F p q S) Q → r x y H Q
theorem two {r : R2} {F : Er → Er → Sto → R Er} (hF : Op2 X W r F) {ta tb : TE} (fa : ∀ α ρ S σ H Q, Wd X.g α S H → Slots X.K α H ρ σ → Post X.g W α H (f ρ S) Q → ta σ H Q)
  (fb : ∀ α ρ S σ H Q, Wd X.g α S H → Slots X.K α H ρ σ → Post X.g W α H (g ρ S) Q → tb σ H Q) {α : List Addr} {ρ : Rho} {S : Sto} {σ : St} {H : Hp} {Q : VK} (wd : Wd X.g α S H) (sl : Slots X.K α H ρ σ)
  (q : Post X.g W α H ((f ρ S).bind fun p S1 => (g ρ S1).bind fun q S2 => F p q S2) Q) : ta σ H fun x H1 => tb σ H1 fun y H2 => r x y H2 Q :=
 fa α ρ S σ H _ wd sl (q.bind fun u p S1 α1 H1 e1 x1 w1 d1 q1 => fb α1 ρ S1 σ H1 _ w1 (sl.ext x1) ((q1.shift x1).bind fun u2 p2 S2 α2 H2 e2 x2 w2 d2 q2 =>
  hF p p2 u u2 α2 S2 H2 Q w2 (d1.1.ext x2) d2.1 (q2.shift x2)))
theorem zSL {op : Operator} {r : R2} {F : Er → Er → Sto → R Er} (ho : OpR X (binaryOp op) r) (hF : Op2 X W r F) (ha : PEm X W a f) (hb : PEm X W b g) : PEm X W (.BinOp a op b pos) (fun ρ S => (f ρ S).bind fun p S1 => (g ρ S1).bind fun q S2 => F p q S2) := by
 obtain ⟨ta, ha, fa⟩ := ha
 obtain ⟨tb, hb, fb⟩ := hb
 exact ⟨_, pe_op ho ha hb, fun α ρ S σ H Q wd sl q => two hF fa fb wd sl q⟩
theorem zOV {op : CmpOp} {r : R2} {F : Er → Er → Sto → R Er} (ho : OpR X (compareOp op) r) (hF : Op2 X W r F) (ha : PEm X W a f) (hb : PEm X W b g) (hm : behindInMarks op b = false := by first | exact yFR _ | with_unfolding_all rfl) :
  PEm X W (.Compare a [op] [b] pos) (fun ρ S => (f ρ S).bind fun p S1 => (g ρ S1).bind fun q S2 => F p q S2) := by
 obtain ⟨ta, ha, fa⟩ := ha
 obtain ⟨tb, hb, fb⟩ := hb
 exact ⟨_, yJJ ho ha hb hm, fun α ρ S σ H Q wd sl q => two hF fa fb wd sl q⟩
theorem pm_ix {r : R2} {F : Er → Er → Sto → R Er} (ho : IxR X r) (hF : Op2 X W r F) (ha : PEm X W a f) (hb : PEm X W b g) (hs : zTQ b := by exact fun _ _ => rfl) :
  PEm X W (.Subscript a b pos) (fun ρ S => (f ρ S).bind fun p S1 => (g ρ S1).bind fun q S2 => F p q S2) := by
 obtain ⟨ta, ha, fa⟩ := ha
 obtain ⟨tb, hb, fb⟩ := hb
 exact ⟨_, pe_ix ho ha hb hs, fun α ρ S σ H Q wd sl q => two hF fa fb wd sl q⟩
def asB : Er → Sto → R Bool
 | .val (.bl b), S => .ok b S
 | _, _ => .no
theorem zWD {p : Er} {S : Sto} {α : List Addr} {H : Hp} {Q : Bool → Hp → Prop} (q : Post X.g W α H (asB p S) Q) : ∃ k, p = .val (.bl k) ∧ Post X.g W α H (.ok k S) Q := by
 unfold asB at q
 split at q
 ·exact ⟨_, rfl, q⟩
 ·exact q.elim
theorem zOW {β τ : Type} [Dn β τ] {p : Er} {S : Sto} {α : List Addr} {H : Hp} {k : Bool → Sto → R β} {Q : τ → Hp → Prop} (q : Post X.g W α H ((asB p S).bind k) Q) : ∃ c, p = .val (.bl c) ∧ Post X.g W α H (k c S) Q := by
 unfold asB at q
 split at q
 ·exact ⟨_, rfl, q⟩
 ·exact q.elim
theorem zGR {op : CmpOp} {r : R2} {F : Er → Er → Sto → R Er} (ho : OpR X (compareOp op) r) (hF : Op2 X W r F) (ha : PEm X W a f) (hb : PEm X W b g) (hm : behindInMarks op b = false := by first | exact yFR _ | with_unfolding_all rfl) :
  PTm X W (.Compare a [op] [b] pos) (fun ρ S => ((f ρ S).bind fun p S1 => (g ρ S1).bind fun q S2 => F p q S2).bind asB) := by
 obtain ⟨ta, ha, fa⟩ := ha
 obtain ⟨tb, hb, fb⟩ := hb
 refine ⟨_, yJK ho ha hb hm, fun α ρ S σ H Q wd sl q => ?_⟩
 refine two hF fa fb wd sl (Q := fun x H' => ∃ k, x = .bl k ∧ Q k H') (q.bind fun u p S1 α1 H1 e1 x1 w1 d1 q1 => ?_)
 obtain ⟨k, rfl, q2⟩ := zWD (q1.shift x1)
 exact ⟨k, zFY d1.1, q2.here w1 rfl⟩
def chF (F G : Er → Er → Sto → R Er) (p q : Er) (S : Sto) (k : Sto → R Er) : R Er := (F p q S).bind fun z S1 => (asB z S1).bind fun c S2 => if c = true then (k S2).bind fun r S3 => G q r S3 else .ok (.val (.bl false)) S2
theorem chain {r r' : R2} {F G : Er → Er → Sto → R Er} (hF : Op2 X W r F) (hG : Op2 X W r' G) {ta tb tc : TE} (fa : ∀ α ρ S σ H Q, Wd X.g α S H → Slots X.K α H ρ σ → Post X.g W α H (f ρ S) Q → ta σ H Q)
  (fb : ∀ α ρ S σ H Q, Wd X.g α S H → Slots X.K α H ρ σ → Post X.g W α H (g ρ S) Q → tb σ H Q) (fc : ∀ α ρ S σ H Q, Wd X.g α S H → Slots X.K α H ρ σ → Post X.g W α H (h ρ S) Q → tc σ H Q) {α : List Addr} {ρ : Rho} {S : Sto} {σ : St} {H : Hp} {Q : VK} (wd : Wd X.g α S H) (sl : Slots X.K α H ρ σ)
  (q : Post X.g W α H ((f ρ S).bind fun p S1 => (g ρ S1).bind fun q S2 => chF F G p q S2 fun S3 => h ρ S3) Q) : zYZ r r' ta tb tc σ H Q :=
 fa α ρ S σ H _ wd sl (q.bind fun u p S1 α1 H1 e1 x1 w1 d1 q1 => fb α1 ρ S1 σ H1 _ w1 (sl.ext x1) ((q1.shift x1).bind fun u2 p2 S2 α2 H2 e2 x2 w2 d2 q2 => by
  refine hF p p2 u u2 α2 S2 H2 _ w2 (d1.1.ext x2) d2.1 (Post.bind (q2.shift x2) fun u3 p3 S3 α3 H3 e3 x3 w3 d3 q3 => ?_)
  obtain ⟨k, rfl, q4⟩ := zOW (q3.shift x3)
  refine ⟨k, zFY d3.1, ?_⟩
  cases k with
  | true =>
   rw [if_pos rfl] at q4 ⊢
   exact fc α3 ρ S3 σ H3 _ w3 (((sl.ext x1).ext x2).ext x3) (q4.bind fun u5 p5 S5 α5 H5 e5 x5 w5 d5 q5 => hG p2 p5 u2 u5 α5 S5 H5 Q w5 ((d2.1.ext x3).ext x5) d5.1 (q5.shift x5))
  | false =>
   rw [if_neg zQ3] at q4 ⊢
   exact Post.val q4 w3 (wS false)))
theorem zWE {op op' : CmpOp} {r r' : R2} {F G : Er → Er → Sto → R Er} (ho : OpR X (compareOp op) r) (ho' : OpR X (compareOp op') r') (hF : Op2 X W r F) (hG : Op2 X W r' G) (ha : PEm X W a f) (hb : PEm X W b g) (hc : PEm X W c h)
  (hm : lastMarks [op, op'] [b, c] = false := by with_unfolding_all rfl) :
  PEm X W (.Compare a [op, op'] [b, c] pos) (fun ρ S => (f ρ S).bind fun p S1 => (g ρ S1).bind fun q S2 => chF F G p q S2 fun S3 => h ρ S3) := by
 obtain ⟨ta, ha, fa⟩ := ha
 obtain ⟨tb, hb, fb⟩ := hb
 obtain ⟨tc, hc, fc⟩ := hc
 exact ⟨_, yFS ho ho' ha hb hc hm, fun α ρ S σ H Q wd sl q => chain hF hG fa fb fc wd sl q⟩
theorem yGK {op op' : CmpOp} {r r' : R2} {F G : Er → Er → Sto → R Er} (ho : OpR X (compareOp op) r) (ho' : OpR X (compareOp op') r') (hF : Op2 X W r F) (hG : Op2 X W r' G) (ha : PEm X W a f) (hb : PEm X W b g) (hc : PEm X W c h)
  (hm : lastMarks [op, op'] [b, c] = false := by with_unfolding_all rfl) :
  PTm X W (.Compare a [op, op'] [b, c] pos) (fun ρ S => ((f ρ S).bind fun p S1 => (g ρ S1).bind fun q S2 => chF F G p q S2 fun S3 => h ρ S3).bind asB) := by
 obtain ⟨ta, ha, fa⟩ := ha
 obtain ⟨tb, hb, fb⟩ := hb
 obtain ⟨tc, hc, fc⟩ := hc
 refine ⟨_, yFT ho ho' ha hb hc hm, fun α ρ S σ H Q wd sl q => ?_⟩
 refine chain hF hG fa fb fc wd sl (Q := fun x H' => ∃ k, x = .bl k ∧ Q k H') (q.bind fun u p S1 α1 H1 e1 x1 w1 d1 q1 => ?_)
 obtain ⟨k, rfl, q2⟩ := zWD (q1.shift x1)
 exact ⟨k, zFY d1.1, q2.here w1 rfl⟩
def gM : Er → Sto → R Bool
 | .val .non, S => .ok false S
 | .val (.bl b), S => .ok b S
 | .val (.int i), S => .ok (i != 0) S
 | .val (.str x), S => if x.length ≤ sizeLine then .ok (!x.isEmpty) S else .no
 | .val (.tup ds), S => .ok (!ds.isEmpty) S
 | .val (.scr ds), S => .ok (!ds.isEmpty) S
 | .val (.loc l), S => match S[l]? with
  | some (.lst ds) => .ok (!ds.isEmpty) S
  | _ => .no
 | .val (.typ _), _ => .no
 | .new ds, S => .ok (!ds.isEmpty) S
theorem zIK {ds : List MV} {vs : List V} {K : PySem.W.Frag} {α : List Addr} {H : Hp} (l : DenL K α H ds vs) : (!vs.isEmpty) = !ds.isEmpty := by
 have := l.length
 cases ds <;> cases vs <;> simp_all
theorem yGL {p : Er} {x : V} {S : Sto} {α : List Addr} {H : Hp} {Q : Bool → Hp → Prop} (wd : Wd X.g α S H) (d : DenX X.K α H p x) (q : Post X.g W α H (gM p S) Q) : ∃ k, TruV X.K x H k ∧ Q k H := by
 match p, d, q with
 | .val .non, d, q => cases zMJ d; exact ⟨_, rfl, q.here wd rfl⟩
 | .val (.bl b), d, q => cases zFY d; exact ⟨_, rfl, q.here wd rfl⟩
 | .val (.int i), d, q => cases wA d; exact ⟨_, rfl, q.here wd rfl⟩
 | .val (.typ n), d, q => exact q.elim
 | .val (.str z), d, q =>
  cases kU d
  have q' : Post X.g W α H (if z.length ≤ sizeLine then R.ok (!z.isEmpty) S else R.no) Q := q
  split at q'
  ·rename_i hz
   refine ⟨_, ⟨by rw [jZ]; exact hz, ?_⟩, q'.here wd rfl⟩
   rw [jZ]
   cases z with
   | nil => rfl
   | cons c r =>
    have h0 : ((r.length : Int) + 1) ≠ 0 := by omega
    simp [h0]
  ·exact q'.elim
 | .val (.tup ds), d, q =>
  obtain ⟨a, vs, rfl, s, l⟩ := dQ d
  exact ⟨_, .inr (.inl ⟨vs, s, (zIK l).symm⟩), q.here wd rfl⟩
 | .val (.scr ds), d, q =>
  obtain ⟨a, vs, rfl, s, l⟩ := zOU d
  exact ⟨_, .inl ⟨vs, s.l, (zIK l).symm⟩, q.here wd rfl⟩
 | .val (.loc n), d, q =>
  obtain ⟨a, rfl, h⟩ := zGQ d
  obtain ⟨o, h1, h2⟩ := wd.of h
  have q' : Post X.g W α H (match S[n]? with | some (.lst ds) => R.ok (!ds.isEmpty) S | _ => R.no) Q := q
  rw [h1] at q'
  cases o with
  | lst ds =>
   obtain ⟨vs, h3, l⟩ := h2
   exact ⟨_, .inl ⟨vs, .of h3, (zIK l).symm⟩, q'.here wd rfl⟩
  | dic ds => exact q'.elim
  | ins c fs => exact q'.elim
 | .new ds, ⟨a, vs, ex, s, n, l⟩, q => subst ex; exact ⟨_, .inl ⟨vs, .of s, (zIK l).symm⟩, q.here wd rfl⟩
theorem yM (ha : PEm X W a f) (he : ∀ whole, isTrue a X.env whole = (do let v ← whole; standAt a.pos; holding [v] (truthy v)) := by intro _; rfl) : PTm X W a (fun ρ S => (f ρ S).bind gM) := by
 obtain ⟨ta, ha, fa⟩ := ha
 exact ⟨_, yFU ha he, fun α ρ S σ H Q wd sl q => fa α ρ S σ H _ wd sl (q.bind fun u p S1 α1 H1 e1 x1 w1 d1 q1 => yGL w1 d1.1 (q1.shift x1))⟩
end
end M
end L2
namespace L2
namespace M
open PySem PySem.Spec PyProof.Rows
section
variable {X : Cx} {W : XW} {a b c e : Expr} {es : List Expr} {f g h : Rho → Sto → R Er} {tf tg : Rho → Sto → R Bool} {af : Rho → Sto → R (List Er)} {pos : Pos}
def jS (p : Er) (S : Sto) (k : Sto → R Er) : R Er := (asB p S).bind fun c S1 => if c = true then k S1 else .ok (.val (.bl false)) S1
theorem gN {op} (ha : PEm X W a f) : PEm X W (.BoolOp op [a] pos) f := let ⟨t, h, k⟩ := ha; ⟨t, yMY h, k⟩
theorem jT (ha : PEm X W a f) (hb : PEm X W (.BoolOp .And (b :: es) pos) g) : PEm X W (.BoolOp .And (a :: b :: es) pos) (fun ρ S => (f ρ S).bind fun p S1 => jS p S1 fun S2 => g ρ S2) := by
 obtain ⟨ta, ha, fa⟩ := ha
 obtain ⟨tb, hb, fb⟩ := hb
 refine ⟨_, yMZ ha hb, fun α ρ S σ H Q wd sl q => fa α ρ S σ H _ wd sl (q.bind fun u p S1 α1 H1 e1 x1 w1 d1 q1 => ?_)⟩
 obtain ⟨k, rfl, q2⟩ := zOW (q1.shift x1)
 refine ⟨k, zFY d1.1, ?_⟩
 cases k with
 | true => rw [if_pos rfl] at q2 ⊢; exact fb α1 ρ S1 σ H1 _ w1 (sl.ext x1) q2
 | false => rw [if_neg zQ3] at q2 ⊢; exact Post.val q2 w1 (wS false)
theorem yGM (ha : PEm X W a f) : PEm X W (.UnaryOp .Not a pos) (fun ρ S => (f ρ S).bind fun p S1 => (asB p S1).bind fun k S2 => .ok (.val (.bl !k)) S2) := by
 obtain ⟨ta, ha, fa⟩ := ha
 refine ⟨_, yNA ha, fun α ρ S σ H Q wd sl q => fa α ρ S σ H _ wd sl (q.bind fun u p S1 α1 H1 e1 x1 w1 d1 q1 => ?_)⟩
 obtain ⟨k, rfl, q2⟩ := zOW (q1.shift x1)
 exact ⟨k, zFY d1.1, Post.val q2 w1 (wS _)⟩
theorem yBW (ha : PTm X W a tf) : PWm X W (.BoolOp .And [a] pos) tf := let ⟨t, h, k⟩ := ha; ⟨t, yJE h, k⟩
theorem zAG (ha : PTm X W a tf) : PWm X W (.BoolOp .Or [a] pos) tf := let ⟨t, h, k⟩ := ha; ⟨t, yMV h, k⟩
theorem yGN (ha : PTm X W a tf) (hb : PWm X W (.BoolOp .And (b :: es) pos) tg) : PWm X W (.BoolOp .And (a :: b :: es) pos) (fun ρ S => (tf ρ S).bind fun k S1 => if k = true then tg ρ S1 else .ok false S1) := by
 obtain ⟨ta, ha, fa⟩ := ha
 obtain ⟨tb, hb, fb⟩ := hb
 refine ⟨_, yMW ha hb, fun α ρ S σ H Q wd sl q => fa α ρ S σ H _ wd sl (q.bind fun u p S1 α1 H1 e1 x1 w1 d1 q1 => ?_)⟩
 cases d1
 cases u with
 | true => rw [if_pos rfl] at q1 ⊢; exact fb α1 ρ S1 σ H1 _ w1 (sl.ext x1) (q1.shift x1)
 | false => rw [if_neg zQ3] at q1 ⊢; exact (q1.shift x1).here w1 rfl
theorem zFZ (ha : PTm X W a tf) (hb : PWm X W (.BoolOp .Or (b :: es) pos) tg) : PWm X W (.BoolOp .Or (a :: b :: es) pos) (fun ρ S => (tf ρ S).bind fun k S1 => if k = true then .ok true S1 else tg ρ S1) := by
 obtain ⟨ta, ha, fa⟩ := ha
 obtain ⟨tb, hb, fb⟩ := hb
 refine ⟨_, pw_or ha hb, fun α ρ S σ H Q wd sl q => fa α ρ S σ H _ wd sl (q.bind fun u p S1 α1 H1 e1 x1 w1 d1 q1 => ?_)⟩
 cases d1
 cases u with
 | true => rw [if_pos rfl] at q1 ⊢; exact (q1.shift x1).here w1 rfl
 | false => rw [if_neg zQ3] at q1 ⊢; exact fb α1 ρ S1 σ H1 _ w1 (sl.ext x1) (q1.shift x1)
theorem zDN (h : PWm X W a tf) : PTm X W a tf := let ⟨t, h, k⟩ := h; ⟨t, h.pt, k⟩
theorem wL (ha : PTm X W a tf) : PTm X W (.UnaryOp .Not a pos) (fun ρ S => (tf ρ S).bind fun k S1 => .ok (!k) S1) := by
 obtain ⟨ta, ha, fa⟩ := ha
 refine ⟨_, yMX ha, fun α ρ S σ H Q wd sl q => fa α ρ S σ H _ wd sl (q.bind fun u p S1 α1 H1 e1 x1 w1 d1 q1 => ?_)⟩
 cases d1
 exact (q1.shift x1).here w1 rfl
end
section
variable {K : PySem.W.Frag} {H0 : Hp}
def yI : List Er → Sto → List MV × Sto
 | [], S => ([], S)
 | .val d :: rs, S => ((d :: (yI rs S).1), (yI rs S).2)
 | .new xs :: rs, S => ((.loc S.length :: (yI rs (S ++ [.lst xs])).1), (yI rs (S ++ [.lst xs])).2)
theorem ArgsE.grow {H0 : Hp} {α : List Addr} {H : Hp} {b : Addr} {rs : List Er} {vs : List V} (q : ArgsE K H0 α H rs vs) (n : b ∉ zJB rs vs) : ArgsE K H0 (α ++ [b]) H rs vs := by
 induction q with
 | nil => exact .nil
 | @cons r v rs vs a m l ih =>
  cases r with
  | val d => exact .cons ⟨Den.ex0 (Ex0.grow α [b] H) a.1, trivial⟩ m (ih (by simpa [zJB] using n))
  | new ds =>
   obtain ⟨⟨c, us, rfl, h1, h2, h3⟩, h4⟩ := a
   have n' : b ∉ c :: zJB rs vs := n
   refine .cons ⟨⟨c, us, rfl, h1, fun z => ?_, h3.ex0 (Ex0.grow α [b] H)⟩, h4⟩ m (ih fun z => n' (List.mem_cons_of_mem _ z))
   rcases List.mem_append.mp z with z | z
   ·exact h2 z
   ·exact n' (by rw [List.mem_singleton.mp z]; exact List.mem_cons_self)
theorem zGS {g : Gm} {H0 : Hp} {α0 : List Addr} {H : Hp} : ∀ {rs : List Er} {vs : List V} {α : List Addr} {S : Sto}, Wd g α S H → Ext α0 H0 α H → ArgsE g.K H0 α H rs vs →
  ∃ α', Ext α0 H0 α' H ∧ Ex0 α H α' H ∧ Wd g α' (yI rs S).2 H ∧ DenL g.K α' H (yI rs S).1 vs
 | _, _, α, S, w, x, .nil => ⟨α, x, ⟨⟨[], by simp⟩, fun _ _ h => h, fun _ _ _ h => h⟩, w, xK⟩
 | .val d :: rs, v :: vs, α, S, w, x, .cons a n l => by
  obtain ⟨α', x', y', w', l'⟩ := zGS w x l
  exact ⟨α', x', y', w', xC (Den.ex0 y' a.1) l'⟩
 | .new ds :: rs, v :: vs, α, S, w, x, .cons a n l => by
  obtain ⟨⟨c, us, rfl, h1, h2, h3⟩, h4⟩ := a
  obtain ⟨α', x', y', w', l'⟩ := zGS (w.enter h1 h2 h3) (w.enterx x (h4 c rfl) h2) (l.grow (n ds c rfl rfl))
  refine ⟨α', x', ⟨?_, y'.tup, y'.frz⟩, w', xC (zNY (y'.at ?_)) l'⟩
  ·obtain ⟨t, e⟩ := y'.pre
   exact ⟨[c] ++ t, by rw [e, List.append_assoc]⟩
  ·rw [← w.len, List.getElem?_append_right (Nat.le_refl _), Nat.sub_self]; rfl
theorem zMK : ∀ (rs : List Er) (S : Sto), (yI rs S).1.length = rs.length
 | [], S => rfl
 | .val d :: rs, S => by show (d :: (yI rs S).1).length = _; rw [List.length_cons, zMK rs S]; rfl
 | .new ds :: rs, S => by show (_ :: (yI rs _).1).length = _; rw [List.length_cons, zMK rs _]; rfl
end
section
variable {X : Cx} {W : XW} {a b c e : Expr} {es : List Expr} {f g h : Rho → Sto → R Er} {tf tg : Rho → Sto → R Bool} {af : Rho → Sto → R (List Er)} {pos : Pos}
theorem zC : PAm X W [] (fun _ S => .ok [] S) := ⟨_, yFW, fun α ρ S σ H Q wd sl q => q.here wd .nil⟩
theorem zA (ha : PEm X W a f) (hr : PAm X W es af) (hs : starEach (a :: es) X.env = (false, eval a X.env) :: starEach es X.env := by rfl) : PAm X W (a :: es) (fun ρ S => (f ρ S).bind fun p S1 => (af ρ S1).bind fun ps S2 => .ok (p :: ps) S2) := by
 obtain ⟨ta, ha, fa⟩ := ha
 obtain ⟨tr, hr, fr⟩ := hr
 refine ⟨_, yBP ha hr hs, fun α ρ S σ H Q wd sl q => fa α ρ S σ H _ wd sl (q.bind fun u p S1 α1 H1 e1 x1 w1 d1 q1 => fr α1 ρ S1 σ H1 _ w1 (sl.ext x1) ?_)⟩
 have q1' : Post X.g W α H ((af ρ S1).bind fun ps S2 => .ok (p :: ps) S2) Q := q1
 cases z : af ρ S1 with
 | ok ps S2 =>
  rw [z] at q1'
  intro vs α2 H2 x2 w2 d2
  refine q1' (u :: vs) α2 H2 (x1.trans x2) w2 (ArgsE.cons (DenE.ext x2 d1) (fun ds b er eu hb => ?_) (ArgsE.back (fun b h => x1.free h) d2))
  subst er eu
  obtain ⟨⟨c, us, ec, h1, _⟩, _⟩ := d1
  cases ec
  have := ArgsE.nones d2 _ hb
  rw [h1] at this; cases this
 | exc c fs S2 => rw [z] at q1'; exact fun α2 H2 x2 w2 => q1' α2 H2 (x1.trans x2) w2
 | no => rw [z] at q1'; exact q1'
def nS (rs : List Er) (S : Sto) : R Er := if rs.length ≤ sizeLine then .ok (.val (.tup (yI rs S).1)) (yI rs S).2 else .no
def zGT (rs : List Er) (S : Sto) : R Er := if rs.length ≤ sizeLine then .ok (.new (yI rs S).1) (yI rs S).2 else .no
theorem kW {x1} (h : PAm X W es af) : PEm X W (.Tuple es x1 pos) (fun ρ S => (af ρ S).bind nS) := by
 obtain ⟨t, h, k⟩ := h
 refine ⟨_, yNM h, fun α ρ S σ H Q wd sl q => k α ρ S σ H _ wd sl (q.bind fun vs rs S1 α1 H1 e1 x1 w1 d1 q1 => ?_)⟩
 have q1' : Post X.g W α H (if rs.length ≤ sizeLine then R.ok (Er.val (.tup (yI rs S1).1)) (yI rs S1).2 else R.no) Q := q1
 split at q1'
 ·rename_i hz
  obtain ⟨α2, x2, y2, w2, l2⟩ := zGS w1 x1 d1
  exact ⟨by rw [ArgsE.length d1]; exact hz, fun p hp => (q1'.shift x2).newt w2 hp l2⟩
 ·exact q1'.elim
theorem zED (h : PAm X W es af) : PEm X W (.List es pos) (fun ρ S => (af ρ S).bind zGT) := by
 obtain ⟨t, h, k⟩ := h
 refine ⟨_, yNN h, fun α ρ S σ H Q wd sl q => k α ρ S σ H _ wd sl (q.bind fun vs rs S1 α1 H1 e1 x1 w1 d1 q1 => ?_)⟩
 have q1' : Post X.g W α H (if rs.length ≤ sizeLine then R.ok (Er.new (yI rs S1).1) (yI rs S1).2 else R.no) Q := q1
 split at q1'
 ·rename_i hz
  obtain ⟨α2, x2, y2, w2, l2⟩ := zGS w1 x1 d1
  exact ⟨by rw [ArgsE.length d1]; exact hz, fun p hp => (q1'.shift x2).newl w2 hp l2⟩
 ·exact q1'.elim
inductive ArgsX (K : PySem.W.Frag) (α : List Addr) (H : Hp) : List Er → List V → Prop
 | nil : ArgsX K α H [] []
 | cons {r v rs vs} : DenX K α H r v → ArgsX K α H rs vs → ArgsX K α H (r :: rs) (v :: vs)
theorem ArgsE.x {K : PySem.W.Frag} {H0 : Hp} {α : List Addr} {H : Hp} : ∀ {rs vs}, ArgsE K H0 α H rs vs → ArgsX K α H rs vs
 | _, _, .nil => .nil
 | _, _, .cons a _ l => .cons a.1 (ArgsE.x l)
def zOX (X : Cx) (W : XW) (r : List V → Hp → VK → Prop) (F : List Er → Sto → R Er) : Prop := ∀ rs vs α S H Q, Wd X.g α S H → ArgsX X.K α H rs vs → Post X.g W α H (F rs S) Q → r vs H Q
theorem zP {id : String} {r : List V → Hp → VK → Prop} {F : List Er → Sto → R Er} {x : Str} {p : Pos} (hc : CallR X (.builtin id) r) (hF : zOX X W r F) (hg : Gl X x) (hm : X.mg x = none) (hv : bootBuiltins x = some (.builtin id)) (ha : PAm X W (e :: es) af)
  (hn : x ≠ "__name__" := by decide) (hdb : (x == ("__debug__" : Str)) = false := by decide)
  (he : starEach (e :: es) X.env = (false, eval e X.env) :: starEach es X.env := by rfl) (hpl : (backTo pos (starEach es X.env)).any (·.1) = false := by rfl) : PEm X W (.Call (.Name x p) (e :: es) [] pos) (fun ρ S => (af ρ S).bind F) := by
 obtain ⟨t, ha, k⟩ := ha
 exact ⟨_, yFX hc hg hm hv ha hn hdb he hpl, fun α ρ S σ H Q wd sl q => k α ρ S σ H _ wd sl (q.bind fun vs rs S1 α1 H1 e1 x1 w1 d1 q1 => hF rs vs α1 S1 H1 Q w1 (ArgsE.x d1) (q1.shift x1))⟩
theorem bN {T : String} {r : List V → Hp → VK → Prop} {F : List Er → Sto → R Er} {x : Str} {p : Pos} (hc : CallR X (.type T) r) (hF : zOX X W r F) (hg : Gl X x) (hm : X.mg x = none) (hv : bootBuiltins x = some (.type T)) (ha : PAm X W (e :: es) af)
  (hn : x ≠ "__name__" := by decide) (hdb : (x == ("__debug__" : Str)) = false := by decide)
  (he : starEach (e :: es) X.env = (false, eval e X.env) :: starEach es X.env := by rfl) (hpl : (backTo pos (starEach es X.env)).any (·.1) = false := by rfl) : PEm X W (.Call (.Name x p) (e :: es) [] pos) (fun ρ S => (af ρ S).bind F) := by
 obtain ⟨t, ha, k⟩ := ha
 exact ⟨_, zSG hc hg hm hv ha hn hdb he hpl, fun α ρ S σ H Q wd sl q => k α ρ S σ H _ wd sl (q.bind fun vs rs S1 α1 H1 e1 x1 w1 d1 q1 => hF rs vs α1 S1 H1 Q w1 (ArgsE.x d1) (q1.shift x1))⟩
def zZI (X : Cx) (W : XW) (r : V → List V → Hp → VK → Prop) (F : Er → List Er → Sto → R Er) : Prop := ∀ p rs x vs α S H0 H Q α0, Wd X.g α S H → Ext α0 H0 α H → DenX X.K α H p x → ArgsE X.K H0 α H rs vs → Post X.g W α0 H0 (F p rs S) Q → r x vs H Q
def TyM (X : Cx) (T : String) (ty : Er → Sto → Bool) : Prop := ∀ p x α S H, Wd X.g α S H → DenX X.K α H p x → ty p S = true → tyV X.K T x H
theorem zTW {T : String} {name : Str} {id : String} {r : V → List V → Hp → VK → Prop} {F : Er → List Er → Sto → R Er} {ty : Er → Sto → Bool} {apos : Pos} (pa : PlainAttrs T) (slot : Slot T name id) (hty : typeOf (.builtin id) = pure (.type "method_descriptor")) (hm : MtR X id r) (hF : zZI X W r F) (hT : TyM X T ty)
  (ho : PEm X W a f) (ha : PAm X W (e :: es) af)
  (hbase : attributeBase a name X.env (eval a X.env) = eval a X.env := by rfl)
  (hfew : ((backTo pos (starEach (e :: es) X.env)).all (fun x => !x.1) && (backToKw pos (keywordEach [] X.env)).all (fun x => x.1.isSome)
   && decide ((e :: es).length + ([] : List Keyword).length + (if ([] : List Keyword).isEmpty then 0 else 1) < 30)) = true := by rfl)
  (hline : (apos.endLine == pos.line) = true := by rfl) (hs : starEach (e :: es) X.env = (false, eval e X.env) :: starEach es X.env := by rfl) (hplain : (backTo pos (starEach es X.env)).any (·.1) = false := by rfl) :
  PEm X W (.Call (.Attribute a name apos) (e :: es) [] pos) (fun ρ S => (f ρ S).bind fun p S1 => if ty p S1 = true then (af ρ S1).bind fun rs S2 => F p rs S2 else .no) := by
 obtain ⟨to, ho, fo⟩ := ho
 obtain ⟨t, ha, k⟩ := ha
 refine ⟨_, pe_bm pa slot hty hm ho ha hbase hfew hline hs hplain, fun α ρ S σ H Q wd sl q => fo α ρ S σ H _ wd sl (q.bind fun u p S1 α1 H1 e1 x1 w1 d1 q1 => ?_)⟩
 split at q1
 ·rename_i hz
  exact ⟨hT p u α1 S1 H1 w1 d1.1 hz, k α1 ρ S1 σ H1 _ w1 (sl.ext x1) ((q1.shift x1).bind fun vs rs S2 α2 H2 e2 x2 w2 d2 q2 => hF p rs u vs α2 S2 H1 H2 Q α1 w2 x2 (d1.1.ext x2) d2 q2)⟩
 ·exact q1.elim
theorem yGO {T : String} {name : Str} {id : String} {r : V → List V → Hp → VK → Prop} {F : Er → List Er → Sto → R Er} {ty : Er → Sto → Bool} {apos : Pos} (pa : PlainAttrs T) (slot : Slot T name id) (hty : typeOf (.builtin id) = pure (.type "method_descriptor")) (hm : MtR X id r) (hF : zZI X W r F) (hT : TyM X T ty)
  (ho : PEm X W a f) (hbase : attributeBase a name X.env (eval a X.env) = eval a X.env := by rfl) (hline : (apos.endLine == pos.line) = true := by rfl) :
  PEm X W (.Call (.Attribute a name apos) [] [] pos) (fun ρ S => (f ρ S).bind fun p S1 => if ty p S1 = true then F p [] S1 else .no) := by
 obtain ⟨to, ho, fo⟩ := ho
 refine ⟨_, yNS pa slot hty hm ho hbase hline, fun α ρ S σ H Q wd sl q => fo α ρ S σ H _ wd sl (q.bind fun u p S1 α1 H1 e1 x1 w1 d1 q1 => ?_)⟩
 split at q1
 ·rename_i hz
  exact ⟨hT p u α1 S1 H1 w1 d1.1 hz, hF p [] u [] α1 S1 H1 H1 Q α1 w1 (Ext.refl _ _) d1.1 .nil (q1.shift x1)⟩
 ·exact q1.elim
theorem zNZ : POm X W none (fun _ S => .ok none S) := ⟨_, yJN, fun α ρ S σ H Q wd sl q => q.here wd rfl⟩
def asI : Er → Sto → R (Option Int)
 | .val (.int i), S => .ok (some i) S
 | _, _ => .no
theorem cS (ha : PEm X W a f) : POm X W (some a) (fun ρ S => (f ρ S).bind asI) := by
 obtain ⟨ta, ha, fa⟩ := ha
 refine ⟨_, yJO ha, fun α ρ S σ H Q wd sl q => fa α ρ S σ H _ wd sl (q.bind fun u p S1 α1 H1 e1 x1 w1 d1 q1 => ?_)⟩
 unfold asI at q1
 split at q1
 ·exact ⟨_, wA d1.1, (q1.shift x1).here w1 rfl⟩
 ·exact q1.elim
def Sl3 (X : Cx) (W : XW) (r : V → Option Int → Option Int → Hp → VK → Prop) (F : Er → Option Int → Option Int → Sto → R Er) : Prop := ∀ p lo hi x α S H Q, Wd X.g α S H → DenX X.K α H p x → Post X.g W α H (F p lo hi S) Q → r x lo hi H Q
theorem yGP {lo hi : Option Expr} {r : V → Option Int → Option Int → Hp → VK → Prop} {F : Er → Option Int → Option Int → Sto → R Er} {lf hf : Rho → Sto → R (Option Int)} {p2 : Pos} (hr : SlR X r) (hF : Sl3 X W r F) (ha : PEm X W a f) (hl : POm X W lo lf) (hh : POm X W hi hf) :
  PEm X W (.Subscript a (.Slice lo hi none p2) pos) (fun ρ S => (f ρ S).bind fun p S1 => (lf ρ S1).bind fun l S2 => (hf ρ S2).bind fun u S3 => F p l u S3) := by
 obtain ⟨ta, ha, fa⟩ := ha
 obtain ⟨tl, hl, fl⟩ := hl
 obtain ⟨th, hh, fh⟩ := hh
 refine ⟨_, yFZ hr ha hl hh, fun α ρ S σ H Q wd sl q => fa α ρ S σ H _ wd sl (q.bind fun u p S1 α1 H1 e1 x1 w1 d1 q1 => fl α1 ρ S1 σ H1 _ w1 (sl.ext x1) ((q1.shift x1).bind fun u2 l S2 α2 H2 e2 x2 w2 d2 q2 =>
  fh α2 ρ S2 σ H2 _ w2 ((sl.ext x1).ext x2) ((q2.shift x2).bind fun u3 m S3 α3 H3 e3 x3 w3 d3 q3 => ?_)))⟩
 cases d2
 cases d3
 exact hF p u2 u3 u α3 S3 H3 Q w3 ((d1.1.ext x2).ext x3) (q3.shift x3)
end
end M
end L2
namespace L2
namespace M
open PySem PySem.Spec PyProof.Rows
inductive Fl where
 | next (ρ : Rho) | ret (r : Er) | brk (ρ : Rho) | cont (ρ : Rho)
def PostS (g : Gm) (W : XW) (α : List Addr) (H : Hp) (D : Ends) : R Fl → Prop
 | .ok (.next ρ) S => ∀ σ α' H', Ext α H α' H' → Wd g α' S H' → Slots g.K α' H' ρ σ → D.nx σ H'
 | .ok (.ret r) S => ∀ v α' H', Ext α H α' H' → Wd g α' S H' → DenE g.K H α' H' r v → D.rt v H'
 | .ok (.brk ρ) S => ∀ σ α' H', Ext α H α' H' → Wd g α' S H' → Slots g.K α' H' ρ σ → D.bk σ H'
 | .ok (.cont ρ) S => ∀ σ α' H', Ext α H α' H' → Wd g α' S H' → Slots g.K α' H' ρ σ → D.ct σ H'
 | .exc c fs S => ∀ α' H', Ext α H α' H' → Wd g α' S H' → W c fs S α' H'
 | .no => False
section
variable {g : Gm} {W : XW} {α α' : List Addr} {H H' : Hp} {D D' : Ends}
theorem PostS.shift (x : Ext α H α' H') : ∀ {m : R Fl}, PostS g W α H D m → PostS g W α' H' D m
 | .ok (.next ρ) S, q => fun σ α2 H2 x2 w2 s2 => q σ α2 H2 (x.trans x2) w2 s2
 | .ok (.ret r) S, q => fun v α2 H2 x2 w2 d2 => q v α2 H2 (x.trans x2) w2 (d2.back fun b h => x.free h)
 | .ok (.brk ρ) S, q => fun σ α2 H2 x2 w2 s2 => q σ α2 H2 (x.trans x2) w2 s2
 | .ok (.cont ρ) S, q => fun σ α2 H2 x2 w2 s2 => q σ α2 H2 (x.trans x2) w2 s2
 | .exc c fs S, q => fun α2 H2 x2 w2 => q α2 H2 (x.trans x2) w2
 | .no, q => q
theorem PostS.expr {β τ : Type} [Dn β τ] {m : R β} {k : β → Sto → R Fl} {Q' : τ → Hp → Prop} (q : PostS g W α H D (m.bind k))
  (f : ∀ u b S1 α1 H1, m = .ok b S1 → Ext α H α1 H1 → Wd g α1 S1 H1 → Dn.d g H α1 S1 H1 b u → PostS g W α H D (k b S1) → Q' u H1) : Post g W α H m Q' := by
 cases m with
 | ok b S => exact fun u α1 H1 x w d => f u b S α1 H1 rfl x w d q
 | exc c fs S => exact q
 | no => exact q
theorem PostS.stmt {m : R Fl} {k : Fl → Sto → R Fl} (q : PostS g W α H D (m.bind k))
  (hn : ∀ ρ S σ α1 H1, m = .ok (.next ρ) S → Ext α H α1 H1 → Wd g α1 S H1 → Slots g.K α1 H1 ρ σ → PostS g W α H D (k (.next ρ) S) → D'.nx σ H1)
  (hr : ∀ r S v α1 H1, m = .ok (.ret r) S → Ext α H α1 H1 → Wd g α1 S H1 → DenE g.K H α1 H1 r v → PostS g W α H D (k (.ret r) S) → D'.rt v H1)
  (hb : ∀ ρ S σ α1 H1, m = .ok (.brk ρ) S → Ext α H α1 H1 → Wd g α1 S H1 → Slots g.K α1 H1 ρ σ → PostS g W α H D (k (.brk ρ) S) → D'.bk σ H1)
  (hc : ∀ ρ S σ α1 H1, m = .ok (.cont ρ) S → Ext α H α1 H1 → Wd g α1 S H1 → Slots g.K α1 H1 ρ σ → PostS g W α H D (k (.cont ρ) S) → D'.ct σ H1) : PostS g W α H D' m := by
 cases m with
 | ok fl S =>
  cases fl with
  | next ρ => exact fun σ α1 H1 x w s => hn ρ S σ α1 H1 rfl x w s q
  | ret r => exact fun v α1 H1 x w d => hr r S v α1 H1 rfl x w d q
  | brk ρ => exact fun σ α1 H1 x w s => hb ρ S σ α1 H1 rfl x w s q
  | cont ρ => exact fun σ α1 H1 x w s => hc ρ S σ α1 H1 rfl x w s q
 | exc c fs S => exact q
 | no => exact q
end
def PSm (X : Cx) (W : XW) (st : Stmt) (F : Rho → Sto → R Fl) : Prop :=
 ∃ t, PS X st t ∧ ∀ α ρ S σ H D, Wd X.g α S H → Slots X.K α H ρ σ → PostS X.g W α H D (F ρ S) → t D σ H
def zWF (X : Cx) (W : XW) (st : List Stmt) (F : Rho → Sto → R Fl) : Prop :=
 ∃ t, PSs X st t ∧ ∀ α ρ S σ H D, Wd X.g α S H → Slots X.K α H ρ σ → PostS X.g W α H D (F ρ S) → t D σ H
def yE (F G : Rho → Sto → R Fl) : Rho → Sto → R Fl := fun ρ S => (F ρ S).bind fun fl S1 => match fl with
 | .next ρ' => G ρ' S1
 | .ret r => .ok (.ret r) S1
 | .brk ρ' => .ok (.brk ρ') S1
 | .cont ρ' => .ok (.cont ρ') S1
section
variable {X : Cx} {W : XW} {st : Stmt} {sts as bs : List Stmt} {F G : Rho → Sto → R Fl} {f g : Rho → Sto → R Er} {tf : Rho → Sto → R Bool} {e c : Expr} {pos : Pos}
theorem yT : zWF X W [] (fun ρ S => .ok (.next ρ) S) := ⟨_, yJF, fun α ρ S σ H D wd sl q => q σ α H (Ext.refl α H) wd sl⟩
theorem zM (h : PSm X W st F) : zWF X W [st] F := let ⟨t, h, k⟩ := h; ⟨t, yJG h, k⟩
theorem zI (h1 : PSm X W st F) (h2 : zWF X W sts G) : zWF X W (st :: sts) (yE F G) := by
 obtain ⟨t, h1, k1⟩ := h1
 obtain ⟨u, h2, k2⟩ := h2
 refine ⟨_, yFL h1 h2, fun α ρ S σ H D wd sl q => k1 α ρ S σ H _ wd sl (q.stmt ?_ ?_ ?_ ?_)⟩
 ·intro ρ1 S1 σ1 α1 H1 e x1 w1 s1 q1
  exact k2 α1 ρ1 S1 σ1 H1 D w1 s1 (PostS.shift x1 q1)
 ·intro r S1 v α1 H1 e x1 w1 d1 q1
  exact q1 v α1 H1 x1 w1 d1
 ·intro ρ1 S1 σ1 α1 H1 e x1 w1 s1 q1
  exact q1 σ1 α1 H1 x1 w1 s1
 ·intro ρ1 S1 σ1 α1 H1 e x1 w1 s1 q1
  exact q1 σ1 α1 H1 x1 w1 s1
theorem zX (he : PEm X W e f) : PSm X W (.Return (some e) pos) (fun ρ S => (f ρ S).bind fun r S1 => .ok (.ret r) S1) := by
 obtain ⟨t, he, k⟩ := he
 exact ⟨_, yNB he, fun α ρ S σ H D wd sl q => k α ρ S σ H _ wd sl (q.expr fun u r S1 α1 H1 e x1 w1 d1 q1 => q1 u α1 H1 x1 w1 d1)⟩
theorem zAH : PSm X W st (fun _ _ => .no) := ⟨_, yFM, fun α ρ S σ H D wd sl q => q.elim⟩
theorem jO (he : PEm X W e f) (hs : swapsWith e none pos.line X.env = pure false := by rfl) : PSm X W (.Expr e pos) (fun ρ S => (f ρ S).bind fun _ S1 => .ok (.next ρ) S1) := by
 obtain ⟨t, he, k⟩ := he
 exact ⟨_, yJH he hs, fun α ρ S σ H D wd sl q => k α ρ S σ H _ wd sl (q.expr fun u r S1 α1 H1 e x1 w1 d1 q1 => q1 σ α1 H1 x1 w1 (sl.ext x1))⟩
theorem xT (hc : PTm X W c tf) (ha : zWF X W as F) (hb : zWF X W bs G) : PSm X W (.If c as bs pos) (fun ρ S => (tf ρ S).bind fun k S1 => if k = true then F ρ S1 else G ρ S1) := by
 obtain ⟨tc, hc, kc⟩ := hc
 obtain ⟨ta, ha, ka⟩ := ha
 obtain ⟨tb, hb, kb⟩ := hb
 refine ⟨_, ps_if hc ha hb, fun α ρ S σ H D wd sl q => kc α ρ S σ H _ wd sl (q.expr fun u p S1 α1 H1 e x1 w1 d1 q1 => ?_)⟩
 cases d1
 cases u with
 | true => rw [if_pos rfl] at q1 ⊢; exact ka α1 ρ S1 σ H1 D w1 (sl.ext x1) (PostS.shift x1 q1)
 | false => rw [if_neg zQ3] at q1 ⊢; exact kb α1 ρ S1 σ H1 D w1 (sl.ext x1) (PostS.shift x1 q1)
instance : Dn Rho St := ⟨fun g _ α' _ H' ρ σ => Slots g.K α' H' ρ σ, fun _ q => q⟩
def PGm (X : Cx) (W : XW) (tg : Expr) (gf : MV → Rho → Sto → R Rho) : Prop :=
 ∃ t, PG X tg t ∧ ∀ α ρ S σ H d v Q, Wd X.g α S H → Slots X.K α H ρ σ → Den X.K α H d v → Post X.g W α H (gf d ρ S) Q → t v σ H Q
def PGsm (X : Cx) (W : XW) (tgs : List Expr) (gf : List MV → Rho → Sto → R Rho) : Prop :=
 ∃ t, PGs X tgs t ∧ ∀ α ρ S σ H ds vs Q, Wd X.g α S H → Slots X.K α H ρ σ → DenL X.K α H ds vs → Post X.g W α H (gf ds ρ S) Q → t vs σ H Q
def gNm (i : Nat) : MV → Rho → Sto → R Rho := fun d ρ S => .ok (ρ.set i (some d)) S
theorem xU (i : Nat) {x : Str} (hN : X.N.Nodup) (hi : X.N[i]? = some x := by rfl) (hx : Loc X.env.scope x := by first | exact Or.inl rfl | exact Or.inr rfl) (hf : X.fn x = true ∨ X.env.scope.names.lookup x = some .local := by first | exact .inl rfl | exact .inr rfl | assumption) :
  PGm X W (.Name x pos) (gNm i) := ⟨_, yBM hN hi hx hf, fun α ρ S σ H d v Q wd sl de q => Post.here (b := ρ.set i (some d)) q wd (sl.set de)⟩
def kJ : List MV → Rho → Sto → R Rho
 | [], ρ, S => .ok ρ S
 | _, _, _ => .no
def yC (g1 : MV → Rho → Sto → R Rho) (g2 : List MV → Rho → Sto → R Rho) : List MV → Rho → Sto → R Rho
 | d :: ds, ρ, S => (g1 d ρ S).bind fun ρ1 S1 => g2 ds ρ1 S1
 | _, _, _ => .no
theorem zJN : PGsm X W [] kJ := ⟨_, yBN, fun α ρ S σ H ds vs Q wd sl de q => by
 cases ds with
 | nil => exact ⟨de.isnil, Post.here (b := ρ) q wd sl⟩
 | cons d ds => exact q.elim⟩
theorem kZ {es : List Expr} {g1 : MV → Rho → Sto → R Rho} {g2 : List MV → Rho → Sto → R Rho} (h1 : PGm X W e g1) (h2 : PGsm X W es g2) (hs : (assignEach (e :: es) X.env).map (·.2) = assign e X.env :: (assignEach es X.env).map (·.2) := by rfl) : PGsm X W (e :: es) (yC g1 g2) := by
 obtain ⟨t1, h1, k1⟩ := h1
 obtain ⟨t2, h2, k2⟩ := h2
 refine ⟨_, zVS h1 h2 hs, fun α ρ S σ H ds vs Q wd sl de q => ?_⟩
 cases ds with
 | nil => exact q.elim
 | cons d ds =>
  obtain ⟨v, r, rfl, a, l⟩ := de.uncons
  refine ⟨v, r, rfl, k1 α ρ S σ H d v _ wd sl a (Post.bind q fun u p S1 α1 H1 e x1 w1 d1 q1 => k2 α1 p S1 u H1 ds r Q w1 d1 (l.ext x1) (q1.shift x1))⟩
def gTp (n : Nat) (g2 : List MV → Rho → Sto → R Rho) : MV → Rho → Sto → R Rho
 | .tup ds, ρ, S => if ds.length = n then g2 ds ρ S else .no
 | _, _, _ => .no
theorem zJO {es : List Expr} {k n : Nat} {g2 : List MV → Rho → Sto → R Rho} (hc : X.calm = true) (h : PGsm X W es g2)
  (hn : (assignEach es X.env).length = n := by rfl) (hst : (assignEach es X.env).findIdx? (·.1) = none := by rfl) : PGm X W (.Tuple es k pos) (gTp n g2) := by
 obtain ⟨t, h, k⟩ := h
 refine ⟨_, yFO hc h hn hst, fun α ρ S σ H d v Q wd sl de q => ?_⟩
 unfold gTp at q
 split at q
 ·split at q
  ·rename_i hl
   obtain ⟨a, vs, rfl, s, l⟩ := wG de
   exact ⟨a, vs, rfl, s, by rw [l.length]; exact hl, k α ρ S σ H _ vs Q wd sl l q⟩
  ·exact q.elim
 ·exact q.elim
def hU (r : Er) (S : Sto) : R MV := match r with
 | .val d => .ok d S
 | .new ds => .ok (.loc S.length) (S ++ [.lst ds])
theorem zDO {g : Gm} {H0 : Hp} {α0 α : List Addr} {H : Hp} {S : Sto} {r : Er} {v : V} (w : Wd g α S H) (x : Ext α0 H0 α H) (d : DenE g.K H0 α H r v) :
  ∃ d' S' α', hU r S = .ok d' S' ∧ Ext α0 H0 α' H ∧ Ex0 α H α' H ∧ Wd g α' S' H ∧ Den g.K α' H d' v := by
 cases r with
 | val d' => exact ⟨d', S, α, rfl, x, ⟨⟨[], by simp⟩, fun _ _ h => h, fun _ _ _ h => h⟩, w, d.1⟩
 | new ds =>
  obtain ⟨⟨c, us, rfl, h1, h2, h3⟩, h4⟩ := d
  exact ⟨.loc S.length, S ++ [.lst ds], α ++ [c], rfl, w.enterx x (h4 c rfl) h2, Ex0.grow α [c] H, w.enter h1 h2 h3, zNY (by rw [← w.len, List.getElem?_append_right (Nat.le_refl _), Nat.sub_self]; rfl)⟩
def xZ (ρ : Rho) (i : Nat) (r : Er) (S : Sto) : R Fl := (hU r S).bind fun d S1 => .ok (.next (ρ.set i (some d))) S1
theorem yG (i : Nat) {x : Str} {pos' : Pos} (hN : X.N.Nodup) (he : PEm X W e f) (hi : X.N[i]? = some x := by rfl) (hx : Loc X.env.scope x := by first | exact Or.inl rfl | exact Or.inr rfl)
  (hs : swapsWith e (some (.Name x pos')) pos.line X.env = pure false := by rfl) (hf : X.fn x = true ∨ X.env.scope.names.lookup x = some .local := by first | exact .inl rfl | exact .inr rfl | assumption) :
  PSm X W (.Assign [.Name x pos'] e pos) (fun ρ S => (f ρ S).bind (xZ ρ i)) := by
 obtain ⟨t, he, k⟩ := he
 refine ⟨_, yNF hN hi hx he hs hf, fun α ρ S σ H D wd sl q => k α ρ S σ H _ wd sl (q.expr fun u r S1 α1 H1 e x1 w1 d1 q1 => ?_)⟩
 obtain ⟨d', S', α', e1, x', y', w', de⟩ := zDO w1 x1 d1
 unfold xZ at q1
 rw [e1] at q1
 exact q1 _ α' H1 x' w' (((sl.ext x1).ex0 y').set de)
def yGQ (gf : MV → Rho → Sto → R Rho) (ρ : Rho) (r : Er) (S : Sto) : R Fl := (hU r S).bind fun d S1 => (gf d ρ S1).bind fun ρ' S2 => .ok (.next ρ') S2
theorem yGR {tg : Expr} {gf : MV → Rho → Sto → R Rho} (he : PEm X W e f) (hg : PGm X W tg gf) (hs : swapsWithSole [tg] e pos.line X.env = pure false := by rfl) (hw : swappedStores [tg] e X.env = pure none := by rfl)
  (h1 : (assignEach [tg] X.env).map (·.2) = [assign tg X.env] := by rfl) : PSm X W (.Assign [tg] e pos) (fun ρ S => (f ρ S).bind (yGQ gf ρ)) := by
 obtain ⟨t, he, k⟩ := he
 obtain ⟨tg', hg, kg⟩ := hg
 refine ⟨_, yNE he hg hs hw h1, fun α ρ S σ H D wd sl q => k α ρ S σ H _ wd sl (q.expr fun u r S1 α1 H1 e x1 w1 d1 q1 => ?_)⟩
 obtain ⟨d', S', α', e1, x', y', w', de⟩ := zDO w1 x1 d1
 unfold yGQ at q1
 rw [e1] at q1
 have q1 : PostS X.g W α H D ((gf d' ρ S').bind fun ρ' S2 => .ok (.next ρ') S2) := q1
 exact kg α' ρ S' σ H1 d' u _ w' ((sl.ext x1).ex0 y') de ((PostS.shift x' q1).expr fun σ2 ρ2 S2 α2 H2 e2 x2 w2 s2 q2 => q2 σ2 α2 H2 x2 w2 s2)
structure Wk where
 ds : List MV
 gs : List (Nat × List MV)
def stay (gs : List (Nat × List MV)) (S : Sto) : Prop := ∀ p ∈ gs, S[p.1]? = some (.lst p.2)
def ItM (g : Gm) (J : It) (P : List Addr → Sto → Hp → Prop) (ds : List MV) : Prop := ∀ i α S H, P α S H → Wd g α S H → (i < ds.length → J.go i H ∧ ∀ x H', J.yld i H x H' → Ext α H α H' ∧ Wd g α S H' ∧ P α S H' ∧ ∃ d, ds[i]? = some d ∧ Den g.K α H' d x) ∧ (ds.length ≤ i → J.stop i H)
structure WkD (g : Gm) (α : List Addr) (S : Sto) (H : Hp) (k : Wk) (J : It) (P : List Addr → Sto → Hp → Prop) : Prop where
 it : ItM g J P k.ds
 here : P α S H
 stays : ∀ α1 S1 H1 α2 S2 H2, P α1 S1 H1 → Ext α1 H1 α2 H2 → Wd g α2 S2 H2 → stay k.gs S2 → P α2 S2 H2
 st : stay k.gs S
instance : Dn Wk It := ⟨fun g _ α S H k J => ∃ P, WkD g α S H k J P, fun _ q => q⟩
abbrev PIm (X : Cx) (W : XW) (tg iter : Expr) (f : Rho → Sto → R Wk) : Prop := Jd X W (PI X tg iter) f
variable {tg iter : Expr}
theorem zOY {a : Addr} {ds : List MV} : ItM X.g (Itl X.K a) (fun α S H => ∃ vs, SqL X.K H a vs ∧ DenL X.K α H ds vs) ds := by
 intro i α S H ⟨vs, s, l⟩ w
 have hl := l.length
 refine ⟨fun hi => ?_, fun hi => ⟨vs, s, by omega⟩⟩
 have hv : i < vs.length := by omega
 refine ⟨⟨vs, vs[i], s, List.getElem?_eq_getElem hv⟩, fun x H' y => ?_⟩
 obtain ⟨rfl, y⟩ := y
 obtain ⟨d, h1, h2⟩ := l.get (y vs s)
 exact ⟨Ext.refl _ _, w, ⟨vs, s, l⟩, d, h1, h2⟩
theorem yKA {a : Addr} {ds : List MV} : ItM X.g (Itt X.K a) (fun α S H => ∃ vs, SqT X.K H a vs ∧ DenL X.K α H ds vs) ds := by
 intro i α S H ⟨vs, s, l⟩ w
 have hl := l.length
 refine ⟨fun hi => ?_, fun hi => ⟨vs, s, by omega⟩⟩
 have hv : i < vs.length := by omega
 refine ⟨⟨vs, vs[i], s, List.getElem?_eq_getElem hv⟩, fun x H' y => ?_⟩
 obtain ⟨rfl, y⟩ := y
 obtain ⟨d, h1, h2⟩ := l.get (y vs s)
 exact ⟨Ext.refl _ _, w, ⟨vs, s, l⟩, d, h1, h2⟩
theorem yKB {x : List Nat} : ItM X.g (Its x) (fun _ _ _ => True) (x.map fun c => .str [c]) := by
 intro i α S H _ w
 refine ⟨fun hi => ⟨show i < x.length by simpa using hi, fun v H' y => ?_⟩, fun hi => by show x.length ≤ i; simpa using hi⟩
 obtain ⟨rfl, c, h1, h2⟩ := y
 refine ⟨Ext.refl _ _, w, trivial, .str [c], by rw [List.getElem?_map, h1]; rfl, ?_⟩
 rw [h2]
 exact zBW [c]
theorem yDV {lo : Int} {n : Nat} : ItM X.g (Itr lo n) (fun _ _ _ => True) ((List.range n).map fun k => .int (lo + (k : Nat))) := by
 intro i α S H _ w
 refine ⟨fun hi => ⟨show i < n by simpa using hi, fun v H' y => ?_⟩, fun hi => by show n ≤ i; simpa using hi⟩
 obtain ⟨rfl, y⟩ := y
 have hi' : i < n := by simpa using hi
 refine ⟨Ext.refl _ _, w, trivial, .int (lo + i), by rw [List.getElem?_map, List.getElem?_range hi']; rfl, ?_⟩
 rw [y]
 exact wP _
def itL : Er → Sto → R Wk
 | .new ds, S => .ok ⟨ds, []⟩ S
 | .val (.scr ds), S => .ok ⟨ds, []⟩ S
 | .val (.loc l), S => match S[l]? with
  | some (.lst ds) => .ok ⟨ds, [(l, ds)]⟩ S
  | _ => .no
 | _, _ => .no
theorem gO {S : Sto} : stay [] S := fun p h => by simp at h
theorem yBX (he : PEm X W iter f) : PIm X W tg iter (fun ρ S => (f ρ S).bind itL) := by
 obtain ⟨t, he, k⟩ := he
 refine ⟨_, yJI he, fun α ρ S σ H Rc wd sl q => k α ρ S σ H _ wd sl (q.bind fun u p S1 α1 H1 e x1 w1 d1 q1 => ?_)⟩
 replace q1 := q1.shift x1
 unfold itL at q1
 split at q1
 ·rename_i S0 ds
  obtain ⟨⟨b, vs, rfl, h1, h2, h3⟩, h4⟩ := d1
  refine ⟨b, rfl, ⟨vs, .of h1⟩, q1.here (u := Itl X.K b) w1 ⟨fun α2 S2 H2 => ∃ vs, SqL X.K H2 b vs ∧ DenL X.K α2 H2 ds vs ∧ H2 b = some (.lst vs) ∧ b ∉ α2, ?_, ⟨vs, .of h1, h3, h1, h2⟩, ?_, gO⟩⟩
  ·intro i α2 S2 H2 ⟨vs2, a1, a2, a3, a4⟩ w2
   obtain ⟨i1, i2⟩ := zOY (X := X) (a := b) (ds := ds) i α2 S2 H2 ⟨vs2, a1, a2⟩ w2
   refine ⟨fun hi => ⟨(i1 hi).1, fun x H' y => ?_⟩, i2⟩
   obtain ⟨j1, j2, j3, j4⟩ := (i1 hi).2 x H' y
   obtain ⟨rfl, _⟩ := y
   exact ⟨j1, j2, ⟨vs2, a1, a2, a3, a4⟩, j4⟩
  ·intro α2 S2 H2 α3 S3 H3 ⟨vs2, a1, a2, a3, a4⟩ x w3 _
   exact ⟨vs2, .of (x.keep b _ a3 a4), a2.ext x, x.keep b _ a3 a4, x.out a3 a4⟩
 ·rename_i S0 ds
  obtain ⟨a, vs, rfl, s, l⟩ := zOU d1.1
  refine ⟨a, rfl, ⟨vs, s.l⟩, q1.here (u := Itl X.K a) w1 ⟨fun α2 S2 H2 => ∃ vs, SqL X.K H2 a vs ∧ DenL X.K α2 H2 ds vs ∧ SqF X.K H2 a vs, ?_, ⟨vs, s.l, l, s⟩, ?_, gO⟩⟩
  ·intro i α2 S2 H2 ⟨vs2, a1, a2, a3⟩ w2
   obtain ⟨i1, i2⟩ := zOY (X := X) (a := a) (ds := ds) i α2 S2 H2 ⟨vs2, a1, a2⟩ w2
   refine ⟨fun hi => ⟨(i1 hi).1, fun x H' y => ?_⟩, i2⟩
   obtain ⟨j1, j2, j3, j4⟩ := (i1 hi).2 x H' y
   obtain ⟨rfl, _⟩ := y
   exact ⟨j1, j2, ⟨vs2, a1, a2, a3⟩, j4⟩
  ·intro α2 S2 H2 α3 S3 H3 ⟨vs2, a1, a2, a3⟩ x w3 _
   exact ⟨vs2, (x.sqF a3).l, a2.ext x, x.sqF a3⟩
 ·rename_i S0 n
  obtain ⟨a, rfl, h⟩ := zGQ d1.1
  obtain ⟨o, h1, h2⟩ := w1.of h
  rw [h1] at q1
  cases o with
  | lst ds =>
   obtain ⟨vs, h3, l⟩ := h2
   refine ⟨a, rfl, ⟨vs, .of h3⟩, Post.here (b := (⟨ds, [(n, ds)]⟩ : Wk)) q1 (u := Itl X.K a) w1 ⟨fun α2 S2 H2 => ∃ vs, SqL X.K H2 a vs ∧ DenL X.K α2 H2 ds vs ∧ α2[n]? = some a, ?_, ⟨vs, .of h3, l, h⟩, ?_, ?_⟩⟩
   ·intro i α2 S2 H2 ⟨vs2, a1, a2, a3⟩ w2
    obtain ⟨i1, i2⟩ := zOY (X := X) (a := a) (ds := ds) i α2 S2 H2 ⟨vs2, a1, a2⟩ w2
    refine ⟨fun hi => ⟨(i1 hi).1, fun x H' y => ?_⟩, i2⟩
    obtain ⟨j1, j2, j3, j4⟩ := (i1 hi).2 x H' y
    obtain ⟨rfl, _⟩ := y
    exact ⟨j1, j2, ⟨vs2, a1, a2, a3⟩, j4⟩
   ·intro α2 S2 H2 α3 S3 H3 ⟨vs2, a1, a2, a3⟩ x w3 hs
    have a3' := x.at a3
    have := w3.obj n a _ a3' (hs (n, ds) (by simp))
    obtain ⟨vs3, b1, b2⟩ := this
    exact ⟨vs3, .of b1, b2, a3'⟩
   ·intro p hp
    have : p = (n, ds) := by simpa using hp
    subst this
    exact h1
  | dic ds => exact q1.elim
  | ins c fs => exact q1.elim
 ·exact q1.elim
def itT : Er → Sto → R Wk
 | .val (.tup ds), S => .ok ⟨ds, []⟩ S
 | _, _ => .no
theorem zML (he : PEm X W iter f) : PIm X W tg iter (fun ρ S => (f ρ S).bind itT) := by
 obtain ⟨t, he, k⟩ := he
 refine ⟨_, yNG he, fun α ρ S σ H Rc wd sl q => k α ρ S σ H _ wd sl (q.bind fun u p S1 α1 H1 e x1 w1 d1 q1 => ?_)⟩
 replace q1 := q1.shift x1
 unfold itT at q1
 split at q1
 ·rename_i S0 ds
  obtain ⟨a, vs, rfl, s, l⟩ := dQ d1.1
  exact ⟨a, rfl, ⟨vs, s⟩, q1.here (u := Itt X.K a) w1 ⟨_, yKA, ⟨vs, s, l⟩, fun α2 S2 H2 α3 S3 H3 ⟨vs2, a1, a2⟩ x w3 _ => ⟨vs2, x.sqT a1, a2.ext x⟩, gO⟩⟩
 ·exact q1.elim
def itS : Er → Sto → R Wk
 | .val (.str x), S => .ok ⟨x.map fun c => .str [c], []⟩ S
 | _, _ => .no
theorem yOC (he : PEm X W iter f) : PIm X W tg iter (fun ρ S => (f ρ S).bind itS) := by
 obtain ⟨t, he, k⟩ := he
 refine ⟨_, yNW he, fun α ρ S σ H Rc wd sl q => k α ρ S σ H _ wd sl (q.bind fun u p S1 α1 H1 e x1 w1 d1 q1 => ?_)⟩
 replace q1 := q1.shift x1
 unfold itS at q1
 split at q1
 ·rename_i S0 x
  exact ⟨x, kU d1.1, q1.here (u := Its x) w1 ⟨_, yKB, trivial, fun _ _ _ _ _ _ _ _ _ _ => trivial, gO⟩⟩
 ·exact q1.elim
def zKU : List Er → Sto → R Wk
 | [.val (.int j)], S => if -(2 ^ 62) ≤ j ∧ j < 2 ^ 62 then .ok ⟨(List.range j.toNat).map fun k => .int (k : Nat), []⟩ S else .no
 | _, _ => .no
variable {af : Rho → Sto → R (List Er)} {p : Pos} {a b : Expr}
theorem zWG {K : PySem.W.Frag} {H0 : Hp} {α : List Addr} {H : Hp} {r : Er} {vs : List V} (d : ArgsE K H0 α H [r] vs) : ∃ v, vs = [v] ∧ DenX K α H r v := by
 cases d with
 | cons a n l => cases l; exact ⟨_, rfl, a.1⟩
theorem args2 {K : PySem.W.Frag} {H0 : Hp} {α : List Addr} {H : Hp} {r r' : Er} {vs : List V} (d : ArgsE K H0 α H [r, r'] vs) : ∃ v u, vs = [v, u] ∧ DenX K α H r v ∧ DenX K α H r' u := by
 cases d with
 | cons a n l => obtain ⟨u, rfl, l'⟩ := zWG l; exact ⟨_, u, rfl, a.1, l'⟩
theorem zDP (hg : Gl X "range") (hm : X.mg "range" = none) (ha : PAm X W [a] af) (hs : starEach [a] X.env = [(false, eval a X.env)] := by rfl) : PIm X W tg (.Call (.Name "range" p) [a] [] pos) (fun ρ S => (af ρ S).bind zKU) := by
 obtain ⟨t, ha, k⟩ := ha
 refine ⟨_, yDL hg hm ha hs, fun α ρ S σ H Rc wd sl q => k α ρ S σ H _ wd sl (q.bind fun vs rs S1 α1 H1 e x1 w1 d1 q1 => ?_)⟩
 replace q1 := q1.shift x1
 unfold zKU at q1
 split at q1
 ·split at q1
  ·rename_i S0 j hj
   obtain ⟨v, rfl, dv⟩ := zWG d1
   cases wA dv
   have := yDV (X := X) (lo := 0) (n := j.toNat)
   simp only [Int.zero_add] at this
   exact ⟨j, rfl, hj.1, hj.2, q1.here (u := Itr 0 j.toNat) w1 ⟨_, this, trivial, fun _ _ _ _ _ _ _ _ _ _ => trivial, gO⟩⟩
  ·exact q1.elim
 ·exact q1.elim
open Classical in
noncomputable def gK (gf : MV → Rho → Sto → R Rho) (body : Rho → Sto → R Fl) (gs : List (Nat × List MV)) : List MV → Rho → Sto → R Fl
 | [], ρ, S => .ok (.next ρ) S
 | d :: ds, ρ, S => (gf d ρ S).bind fun ρ0 S0 => (body ρ0 S0).bind fun fl S1 => match fl with
  | .next ρ' => if stay gs S1 then gK gf body gs ds ρ' S1 else .no
  | .cont ρ' => if stay gs S1 then gK gf body gs ds ρ' S1 else .no
  | .brk ρ' => .ok (.next ρ') S1
  | .ret r => .ok (.ret r) S1
open Classical in
theorem dR {itf : Rho → Sto → R Wk} {gf : MV → Rho → Sto → R Rho} (hp : PassesOwn (model X.prog X.w) X.A X.env X.xe) (hc : X.calm = true) (hi : PIm X W tg iter itf) (hg : PGm X W tg gf) (hb : zWF X W as F)
  (hs : ∀ y, foldedSetIterable iter X.env y = pure y := by intro _; rfl) : PSm X W (.For tg iter as [] pos) (fun ρ S => (itf ρ S).bind fun k S1 => gK gf F k.gs k.ds ρ S1) := by
 obtain ⟨wi, hi, ki⟩ := hi
 obtain ⟨tg', hg, kg⟩ := hg
 obtain ⟨tb, hb, kb⟩ := hb
 refine ⟨_, yNH hp hc hi hg hb hs, fun α ρ S σ H D wd sl q => ki α ρ S σ H _ wd sl (q.expr fun J k S1 α1 H1 e x1 w1 d1 q1 => ?_)⟩
 obtain ⟨P, hP⟩ := d1
 have sl1 := sl.ext x1
 replace q1 := PostS.shift x1 q1
 refine ⟨fun n m σ2 H2 => m = k.ds.length - n ∧ n ≤ k.ds.length ∧ ∃ α2 ρ2 S2, Wd X.g α2 S2 H2 ∧ Slots X.K α2 H2 ρ2 σ2 ∧ P α2 S2 H2 ∧ PostS X.g W α2 H2 D (gK gf F k.gs (k.ds.drop n) ρ2 S2), ⟨_, rfl, Nat.zero_le _, α1, ρ, S1, w1, sl1, hP.here, by simpa using q1⟩, ?_⟩
 rintro n m σ2 H2 ⟨rfl, hn, α2, ρ2, S2, w2, sl2, p2, q2⟩
 obtain ⟨i1, i2⟩ := hP.it n α2 S2 H2 p2 w2
 by_cases hlt : n < k.ds.length
 ·obtain ⟨go, yl⟩ := i1 hlt
  refine .inr ⟨go, fun σ3 H3 => ∃ α3 ρ3 S3, Wd X.g α3 S3 H3 ∧ Slots X.K α3 H3 ρ3 σ3 ∧ P α3 S3 H3 ∧ PostS X.g W α3 H3 D (gK gf F k.gs (k.ds.drop (n + 1)) ρ3 S3), fun σ3 H3 ⟨α3, ρ3, S3, h3⟩ => ⟨k.ds.length - (n + 1), by omega, rfl, hlt, α3, ρ3, S3, h3⟩, fun v H3 y => ?_⟩
  obtain ⟨x3, w3, p3, d, hd, dv⟩ := yl v H3 y
  have hdrop : k.ds.drop n = d :: k.ds.drop (n + 1) := by
   rw [List.drop_eq_getElem_cons hlt]
   have := List.getElem?_eq_getElem hlt
   rw [hd] at this
   rw [← Option.some.inj this]
  rw [hdrop] at q2
  unfold gK at q2
  replace q2 := PostS.shift x3 q2
  refine kg α2 ρ2 S2 σ2 H3 d v _ w3 (sl2.ext x3) dv (q2.expr fun σ4 ρ4 S4 α4 H4 e4 x4 w4 s4 q4 => ?_)
  have p4 : ∀ α5 S5 H5, Ext α4 H4 α5 H5 → Wd X.g α5 S5 H5 → stay k.gs S5 → P α5 S5 H5 := fun α5 S5 H5 x5 w5 s5 => hP.stays α2 S2 H3 α5 S5 H5 p3 (x4.trans x5) w5 s5
  refine kb α4 ρ4 S4 σ4 H4 _ w4 s4 ((PostS.shift x4 q4).stmt ?_ ?_ ?_ ?_)
  ·intro ρ5 S5 σ5 α5 H5 e5 x5 w5 s5 q5
   have q5' : PostS X.g W α4 H4 D (if stay k.gs S5 then gK gf F k.gs (k.ds.drop (n + 1)) ρ5 S5 else .no) := q5
   split at q5'
   ·rename_i hst
    exact ⟨α5, ρ5, S5, w5, s5, p4 α5 S5 H5 x5 w5 hst, PostS.shift x5 q5'⟩
   ·exact q5'.elim
  ·intro r S5 v5 α5 H5 e5 x5 w5 d5 q5
   exact q5 v5 α5 H5 x5 w5 d5
  ·intro ρ5 S5 σ5 α5 H5 e5 x5 w5 s5 q5
   exact q5 σ5 α5 H5 x5 w5 s5
  ·intro ρ5 S5 σ5 α5 H5 e5 x5 w5 s5 q5
   have q5' : PostS X.g W α4 H4 D (if stay k.gs S5 then gK gf F k.gs (k.ds.drop (n + 1)) ρ5 S5 else .no) := q5
   split at q5'
   ·rename_i hst
    exact ⟨α5, ρ5, S5, w5, s5, p4 α5 S5 H5 x5 w5 hst, PostS.shift x5 q5'⟩
   ·exact q5'.elim
 ·have e : n = k.ds.length := by omega
  subst e
  refine .inl ⟨i2 (Nat.le_refl _), ?_⟩
  rw [List.drop_length] at q2
  exact q2 σ2 α2 H2 (Ext.refl _ _) w2 sl2
end
end M
end L2
namespace L2
namespace M
open PySem PySem.Spec PyProof.Rows
def noX {β : Type} : R β → R β
 | .ok b S => .ok b S
 | _ => .no
theorem zGU {β : Type} (b : β) (S : Sto) : noX (R.ok b S) = .ok b S := rfl
theorem Post.bindY {β τ γ υ : Type} [Dn β τ] [Dn γ υ] {g : Gm} {W : XW} {α α' : List Addr} {H H' : Hp} (x : Ext α H α' H') {m : R β} {k : β → Sto → R γ} {Q : υ → Hp → Prop} {Q' : τ → Hp → Prop} (q : Post g W α H ((noX m).bind k) Q)
  (f : ∀ u b S1 α1 H1, m = .ok b S1 → Ext α' H' α1 H1 → Wd g α1 S1 H1 → Dn.d g H' α1 S1 H1 b u → Post g W α H (k b S1) Q → Q' u H1) : Post g W0 α' H' m Q' := by
 cases m with
 | ok b S => exact fun u α1 H1 x w d => f u b S α1 H1 rfl x w d q
 | exc c fs S => exact q.elim
 | no => exact q
theorem R.bind_assoc {β γ δ : Type} (m : R β) (k1 : β → Sto → R γ) (k2 : γ → Sto → R δ) : (m.bind k1).bind k2 = m.bind fun b S => (k1 b S).bind k2 := by cases m <;> rfl
def blk (nt : Nat) (idx : List Nat) (ρ : Rho) : Rho := List.replicate nt none ++ idx.map fun i => (ρ[i]?).join
open Classical in
noncomputable def wN (gf : MV → Rho → Sto → R Rho) (cf : Rho → Sto → R Bool) (ef : Rho → Sto → R Er) (ρb : Rho) (gs : List (Nat × List MV)) : List MV → Sto → R (List MV)
 | [], S => .ok [] S
 | d :: ds, S => (noX (gf d ρb S)).bind fun ρ1 S0 => (noX (cf ρ1 S0)).bind fun k S1 =>
  if k = true then (noX (ef ρ1 S1)).bind fun r S2 => (hU r S2).bind fun y S3 => if stay gs S3 then (wN gf cf ef ρb gs ds S3).bind fun out S4 => .ok (y :: out) S4 else .no
  else if stay gs S1 then wN gf cf ef ρb gs ds S1 else .no
theorem yDW {K : PySem.W.Frag} {α : List Addr} {H : Hp} {ρ : Rho} {σ : St} (q : Slots K α H ρ σ) (nt : Nat) (idx : List Nat) (τ : St) (hτ : τ.length = nt) : Slots K α H (blk nt idx ρ) (τ ++ zGM σ idx) := by
 refine ⟨by unfold blk; rw [zQ4, zQ4, zBV, List.length_map, List.length_replicate, hτ], fun i d e => ?_⟩
 unfold blk at e
 by_cases hi : i < nt
 ·rw [zQ2 (by rw [List.length_replicate]; exact hi), List.getElem?_replicate] at e
  split at e <;> cases e
 ·rw [List.getElem?_append_right (by rw [List.length_replicate]; omega), List.length_replicate, List.getElem?_map] at e
  cases z : idx[i - nt]? with
  | none => rw [z] at e; cases e
  | some k =>
   rw [z] at e
   have e2 : (ρ[k]?).join = some d := Option.some.inj e
   cases z2 : ρ[k]? with
   | none => rw [z2] at e2; cases e2
   | some o =>
    rw [z2] at e2
    have e3 : o = some d := e2
    subst e3
    obtain ⟨v, h1, h2⟩ := q.slot k d z2
    refine ⟨v, ?_, h2⟩
    rw [List.getElem?_append_right (by omega), hτ]
    unfold zGM
    rw [List.getElem?_map, z]
    show some (σ[k]?).join = some (some v)
    rw [h1]; rfl
def Keeps (nt : Nat) (σ : St) (Q : St → Hp → Prop) : St → Hp → Prop := fun σ' H' => σ'.length = σ.length → (∀ j, nt ≤ j → σ'[j]? = σ[j]?) → Q σ' H'
def PGn (nt : Nat) (X : Cx) (W : XW) (tg : Expr) (gf : MV → Rho → Sto → R Rho) : Prop :=
 ∃ t, PG X tg t ∧ ∀ α ρ S σ H d v Q, Wd X.g α S H → Slots X.K α H ρ σ → Den X.K α H d v → Post X.g W α H (gf d ρ S) (Keeps nt σ Q) → t v σ H Q
def PGsn (nt : Nat) (X : Cx) (W : XW) (tgs : List Expr) (gf : List MV → Rho → Sto → R Rho) : Prop :=
 ∃ t, PGs X tgs t ∧ ∀ α ρ S σ H ds vs Q, Wd X.g α S H → Slots X.K α H ρ σ → DenL X.K α H ds vs → Post X.g W α H (gf ds ρ S) (Keeps nt σ Q) → t vs σ H Q
section
variable {X : Cx} {W : XW} {e : Expr} {pos : Pos} {nt : Nat}
theorem nT (i : Nat) {x : Str} (hN : X.N.Nodup) (hi : X.N[i]? = some x := by rfl) (hx : Loc X.env.scope x := by first | exact Or.inl rfl | exact Or.inr rfl) (hf : X.fn x = true ∨ X.env.scope.names.lookup x = some .local := by first | exact .inl rfl | exact .inr rfl | assumption) (hlt : i < nt := by decide) :
  PGn nt X W (.Name x pos) (gNm i) := ⟨_, yBM hN hi hx hf, fun α ρ S σ H d v Q wd sl de q => Post.here (b := ρ.set i (some d)) q wd (sl.set de) (by rw [List.length_set]) fun j hj => by rw [List.getElem?_set_ne (by omega)]⟩
theorem yOD : PGsn nt X W [] kJ := ⟨_, yBN, fun α ρ S σ H ds vs Q wd sl de q => by
 cases ds with
 | nil => exact ⟨de.isnil, Post.here (b := ρ) q wd sl rfl fun _ _ => rfl⟩
 | cons d ds => exact q.elim⟩
theorem Post.keeps {g : Gm} {W : XW} {α : List Addr} {H : Hp} {m : R Rho} {σ σ1 : St} {Q : St → Hp → Prop} (h1 : σ1.length = σ.length) (h2 : ∀ j, nt ≤ j → σ1[j]? = σ[j]?) (q : Post g W α H m (Keeps nt σ Q)) : Post g W α H m (Keeps nt σ1 Q) := by
 cases m with
 | ok b S => exact fun u α1 H1 x w d k1 k2 => q u α1 H1 x w d (k1.trans h1) fun j hj => (k2 j hj).trans (h2 j hj)
 | exc c fs S => exact q
 | no => exact q
theorem yBY {es : List Expr} {g1 : MV → Rho → Sto → R Rho} {g2 : List MV → Rho → Sto → R Rho} (h1 : PGn nt X W e g1) (h2 : PGsn nt X W es g2) (hs : (assignEach (e :: es) X.env).map (·.2) = assign e X.env :: (assignEach es X.env).map (·.2) := by rfl) : PGsn nt X W (e :: es) (yC g1 g2) := by
 obtain ⟨t1, h1, k1⟩ := h1
 obtain ⟨t2, h2, k2⟩ := h2
 refine ⟨_, zVS h1 h2 hs, fun α ρ S σ H ds vs Q wd sl de q => ?_⟩
 cases ds with
 | nil => exact q.elim
 | cons d ds =>
  obtain ⟨v, r, rfl, a, l⟩ := de.uncons
  refine ⟨v, r, rfl, k1 α ρ S σ H d v _ wd sl a (Post.bind q fun u p S1 α1 H1 e x1 w1 d1 q1 k1 k2' => k2 α1 p S1 u H1 ds r Q w1 d1 (l.ext x1) (Post.keeps k1 k2' (q1.shift x1)))⟩
theorem yOE {es : List Expr} {k n : Nat} {g2 : List MV → Rho → Sto → R Rho} (hc : X.calm = true) (h : PGsn nt X W es g2)
  (hn : (assignEach es X.env).length = n := by rfl) (hst : (assignEach es X.env).findIdx? (·.1) = none := by rfl) : PGn nt X W (.Tuple es k pos) (gTp n g2) := by
 obtain ⟨t, h, k⟩ := h
 refine ⟨_, yFO hc h hn hst, fun α ρ S σ H d v Q wd sl de q => ?_⟩
 unfold gTp at q
 split at q
 ·split at q
  ·rename_i hl
   obtain ⟨a, vs, rfl, s, l⟩ := wG de
   exact ⟨a, vs, rfl, s, by rw [l.length]; exact hl, k α ρ S σ H _ vs Q wd sl l q⟩
  ·exact q.elim
 ·exact q.elim
end
abbrev PIfm (X : Cx) (W : XW) (ifs : List Expr) (f : Rho → Sto → R Bool) : Prop := Jd X W (yGE X ifs) f
section
variable {X : Cx} {W : XW} {iter : Expr} {c : Expr} {tf : Rho → Sto → R Bool} {pos : Pos}
theorem zBY : PIfm X W [] (fun _ S => .ok true S) := ⟨_, yGF, fun α ρ S σ H Q wd sl q => q.here wd rfl⟩
open Classical in
theorem yKC {elt tg : Expr} {ifs : List Expr} {sc : Scope} {itf : Rho → Sto → R Wk} {cf : Rho → Sto → R Bool} {ef : Rho → Sto → R Er} {gf : MV → Rho → Sto → R Rho} (osc : Scope) (N : List Str) (T : List Str) (idx : List Nat)
  (hi : PIm X W tg iter itf) (hcalm : X.calm = true)
  (hg : ∀ C s₂ H1 fp, ([] ++ T ++ idx.map fun i => (N[i]?).getD Str.empty).Nodup → PGn T.length (yF X sc T idx C s₂ H1 fp) W0 tg gf)
  (hc : ∀ C s₂ H1 fp, PIfm (yF X sc T idx C s₂ H1 fp) W0 ifs cf) (he : ∀ C s₂ H1 fp, PEm (yF X sc T idx C s₂ H1 fp) W0 elt ef)
  (e1 : X.env.scope = osc := by rfl) (e2 : X.N = N := by rfl) (hB : zOL osc N sc idx = true := by decide +kernel) (hN : ([] ++ T ++ idx.map fun i => (N[i]?).getD Str.empty).Nodup := by decide +kernel)
  (hs : ∀ y, foldedSetIterable iter X.env y = pure y := by intro _; rfl) :
  Jd (β := Er) (τ := V) X W (fun t => PE X (.ListComp elt [⟨tg, iter, ifs, 0⟩] sc pos) t ∧ PU X (.ListComp elt [⟨tg, iter, ifs, 0⟩] sc pos) t) (fun ρ S => (itf ρ S).bind fun k S1 => if k.ds.length < 1000000 then (wN gf cf ef (blk T.length idx ρ) k.gs k.ds S1).bind fun out S2 => .ok (.new out) S2 else .no) := by
 obtain ⟨wi, hi, ki⟩ := hi
 subst e1 e2
 have big : (1000000 : Nat) < sizeLine := by rw [sizeLine_eq]; decide
 have hg' : ∃ t, (∀ C s₂ H1 fp, PG (yF X sc T idx C s₂ H1 fp) tg t) ∧ ∀ α ρ S σ H d v Q, Wd X.g α S H → Slots X.K α H ρ σ → Den X.K α H d v → Post X.g W0 α H (gf d ρ S) (Keeps T.length σ Q) → t v σ H Q := by
  refine ⟨fun v σ H Q => ∃ α ρ S d, Wd X.g α S H ∧ Slots X.K α H ρ σ ∧ Den X.K α H d v ∧ Post X.g W0 α H (gf d ρ S) (Keeps T.length σ Q), fun C s₂ H1 fp pins s σ H v u Q I r ⟨α, ρ, S, d, h1, h2, h3, h4⟩ => ?_, fun α ρ S σ H d v Q h1 h2 h3 h4 => ⟨α, ρ, S, d, h1, h2, h3, h4⟩⟩
  obtain ⟨t, ht, kt⟩ := hg C s₂ H1 fp hN
  exact ht pins s σ H v u Q I r (kt α ρ S σ H d v Q h1 h2 h3 h4)
 obtain ⟨tg', hg1, kg⟩ := hg'
 refine ⟨_, ⟨yJU T idx hi hcalm hB hg1 (fun C s₂ H1 fp => (Classical.choose_spec (hc C s₂ H1 fp)).1) (fun C s₂ H1 fp => (Classical.choose_spec (he C s₂ H1 fp)).1) hs, yJX T idx hi hcalm hB hg1 (fun C s₂ H1 fp => (Classical.choose_spec (hc C s₂ H1 fp)).1) (fun C s₂ H1 fp => (Classical.choose_spec (he C s₂ H1 fp)).1) hs⟩, fun α ρ S σ H Q wd sl q => ki α ρ S σ H _ wd sl (q.bind fun J k S1 α1 H1 e1 x1 w1 d1 q1 => ?_)⟩
 obtain ⟨P, hP⟩ := d1
 split at q1
 ·rename_i hlen
  refine ⟨fun n m ys H2 => m = k.ds.length - n ∧ n ≤ k.ds.length ∧ ys.length ≤ n ∧ ∃ α2 S2, Ext α H α2 H2 ∧ Wd X.g α2 S2 H2 ∧ P α2 S2 H2 ∧ ∃ outs, DenL X.K α2 H2 outs ys ∧ Post X.g W α H ((wN gf cf ef (blk T.length idx ρ) k.gs (k.ds.drop n) S2).bind fun o S' => .ok (Er.new (outs ++ o)) S') Q,
   ⟨_, rfl, Nat.zero_le _, Nat.le_refl _, α1, S1, x1, w1, hP.here, [], xK, by simpa using q1⟩, ?_⟩
  rintro n m ys H2 ⟨rfl, hn, hy, α2, S2, x2, w2, p2, outs, l, q2⟩
  obtain ⟨i1, i2⟩ := hP.it n α2 S2 H2 p2 w2
  refine ⟨by omega, ?_⟩
  by_cases hlt : n < k.ds.length
  ·obtain ⟨go, yl⟩ := i1 hlt
   refine .inr ⟨go, by omega, fun v H3 y τ hτ => ?_⟩
   obtain ⟨x3, w3, p3, d, hd, dv⟩ := yl v H3 y
   have hdrop : k.ds.drop n = d :: k.ds.drop (n + 1) := by
    rw [List.drop_eq_getElem_cons hlt]
    have := List.getElem?_eq_getElem hlt
    rw [hd] at this
    rw [← Option.some.inj this]
   rw [hdrop] at q2
   unfold wN at q2
   have slb := yDW (sl.ext (x2.trans x3)) T.length idx τ hτ
   refine kg α2 (blk T.length idx ρ) S2 _ H3 d v _ w3 slb dv ?_
   rw [R.bind_assoc] at q2
   refine q2.bindY (x2.trans x3) fun σ4 ρ4 S4 α4 H4 e4 x4 w4 s4 q4 len4 kp4 => ⟨⟨σ4.take T.length, ?_, ?_⟩, fun C s₂ fp => ?_⟩
   ·refine List.ext_getElem? fun j => ?_
    have hl4 : σ4.length = T.length + idx.length := by rw [len4, zQ4, zBV, hτ]
    by_cases hj : j < T.length
    ·rw [zQ2 (by rw [List.length_take]; omega), List.getElem?_take_of_lt hj]
    ·rw [kp4 j (by omega), List.getElem?_append_right (by omega), List.getElem?_append_right (by rw [List.length_take]; omega), hτ, List.length_take, Nat.min_eq_left (by omega)]
   ·rw [List.length_take, len4, zQ4, zBV, hτ]; omega
   have x34 : Ext α H α4 H4 := (x2.trans x3).trans x4
   have p4 : ∀ α5 S5 H5, Ext α4 H4 α5 H5 → Wd X.g α5 S5 H5 → stay k.gs S5 → P α5 S5 H5 := fun α5 S5 H5 x5 w5 s5 => hP.stays α2 S2 H3 α5 S5 H5 p3 (x4.trans x5) w5 s5
   rw [R.bind_assoc] at q4
   refine (Classical.choose_spec (hc C s₂ H1 fp)).2 α4 ρ4 S4 σ4 H4 _ w4 s4 (q4.bindY x34 fun b5 b5' S5 α5 H5 e5 x5 w5 d5 q5 => ?_)
   cases d5
   cases b5 with
   | false =>
    rw [if_neg zQ3] at q5 ⊢
    split at q5
    ·rename_i hst
     exact ⟨k.ds.length - (n + 1), by omega, rfl, hlt, by omega, α5, S5, x34.trans x5, w5, p4 α5 S5 H5 x5 w5 hst, outs, (l.ext (x3.trans x4)).ext x5, q5⟩
    ·exact q5.elim
   | true =>
    rw [if_pos rfl, R.bind_assoc] at q5
    rw [if_pos rfl]
    refine (Classical.choose_spec (he C s₂ H1 fp)).2 α5 ρ4 S5 σ4 H5 _ w5 (s4.ext x5) (q5.bindY (x34.trans x5) fun y6 r6 S6 α6 H6 e6 x6 w6 d6 q6 => ?_)
    obtain ⟨d', S', α', e7, x7, y7, w7, de⟩ := zDO w6 x6 d6
    rw [e7] at q6
    have q6 : Post X.g W α H ((if stay k.gs S' then (wN gf cf ef (blk T.length idx ρ) k.gs (k.ds.drop (n + 1)) S').bind fun out S4 => .ok (d' :: out) S4 else .no).bind fun o S' => .ok (Er.new (outs ++ o)) S') Q := q6
    split at q6
    ·rename_i hst
     refine ⟨k.ds.length - (n + 1), by omega, rfl, hlt, by rw [zQ4, List.length_singleton]; omega, α', S', (x34.trans x5).trans x7, w7, p4 α' S' H6 (x5.trans x7) w7 hst, outs ++ [d'], ((l.ext (x3.trans x4)).ext (x5.trans x7)).append (xC de xK), ?_⟩
     rw [R.bind_assoc] at q6
     have e8 : (fun (o : List MV) (S' : Sto) => R.ok (Er.new ((outs ++ [d']) ++ o)) S') = (fun (b : List MV) S => (R.ok (d' :: b) S).bind fun o S' => .ok (Er.new (outs ++ o)) S') := by
      funext o S'
      show _ = R.ok (Er.new (outs ++ (d' :: o))) S'
      rw [List.append_assoc]; rfl
     rw [e8]
     exact q6
    ·exact q6.elim
  ·have e : n = k.ds.length := by omega
   subst e
   rw [List.drop_length] at q2
   have q3 : Post X.g W α H (.ok (Er.new (outs ++ [])) S2) Q := q2
   rw [List.append_nil] at q3
   exact .inl ⟨i2 (Nat.le_refl _), fun D hD => (q3.shift x2).newl w2 hD l⟩
 ·exact q1.elim
open Classical in
theorem zBZ {elt tg : Expr} {ifs : List Expr} {sc : Scope} {itf : Rho → Sto → R Wk} {cf : Rho → Sto → R Bool} {ef : Rho → Sto → R Er} {gf : MV → Rho → Sto → R Rho} (osc : Scope) (N : List Str) (T : List Str) (idx : List Nat)
  (hi : PIm X W tg iter itf) (hcalm : X.calm = true)
  (hg : ∀ C s₂ H1 fp, ([] ++ T ++ idx.map fun i => (N[i]?).getD Str.empty).Nodup → PGn T.length (yF X sc T idx C s₂ H1 fp) W0 tg gf)
  (hc : ∀ C s₂ H1 fp, PIfm (yF X sc T idx C s₂ H1 fp) W0 ifs cf) (he : ∀ C s₂ H1 fp, PEm (yF X sc T idx C s₂ H1 fp) W0 elt ef)
  (e1 : X.env.scope = osc := by rfl) (e2 : X.N = N := by rfl) (hB : zOL osc N sc idx = true := by decide +kernel) (hN : ([] ++ T ++ idx.map fun i => (N[i]?).getD Str.empty).Nodup := by decide +kernel)
  (hs : ∀ y, foldedSetIterable iter X.env y = pure y := by intro _; rfl) :
  PEm X W (.ListComp elt [⟨tg, iter, ifs, 0⟩] sc pos) (fun ρ S => (itf ρ S).bind fun k S1 => if k.ds.length < 1000000 then (wN gf cf ef (blk T.length idx ρ) k.gs k.ds S1).bind fun out S2 => .ok (.new out) S2 else .no) := let ⟨t, h, k⟩ := (yKC osc N T idx hi hcalm hg hc he e1 e2 hB hN hs); ⟨t, h.1, k⟩
open Classical in
end
end M
end L2
namespace L2
namespace M
open PySem PySem.Spec PyProof.Rows
mutual
def lo (n : Nat) : MV → Prop
 | .loc l => l < n
 | .tup ds => loL n ds
 | .scr ds => loL n ds
 | _ => True
def loL (n : Nat) : List MV → Prop
 | [] => True
 | d :: ds => lo n d ∧ loL n ds
end
def loO (n : Nat) : MO → Prop
 | .lst ds => loL n ds
 | .dic kvs => ∀ p ∈ kvs, lo n p.1 ∧ lo n p.2
 | .ins _ fs => ∀ p ∈ fs, lo n p.2
section
variable {K : PySem.W.Frag} {α t : List Addr} {H : Hp}
mutual
theorem Den.back : ∀ {d : MV} {v : V}, Den K (α ++ t) H d v → lo α.length d → Den K α H d v
 | .non, _, q, _ => by cases zCL q; exact zKT
 | .bl _, _, q, _ => by cases zFX q; exact wS _
 | .int _, _, q, _ => by cases kS q; exact wP _
 | .str _, _, q, _ => by cases kT q; exact zBW _
 | .typ _, _, q, _ => by cases zAF q; exact yBU _
 | .loc l, _, q, h => by
  obtain ⟨a, rfl, e⟩ := bM q
  have hl : l < α.length := by unfold lo at h; exact h
  rw [zQ2 hl] at e
  exact zNY e
 | .tup ds, _, q, h => by
  obtain ⟨a, vs, rfl, s, l⟩ := wG q
  exact nR s (DenL.back l (by unfold lo at h; exact h))
 | .scr ds, _, q, h => by
  obtain ⟨a, vs, rfl, s, l⟩ := dP q
  exact yBV s (DenL.back l (by unfold lo at h; exact h))
theorem DenL.back : ∀ {ds : List MV} {vs : List V}, DenL K (α ++ t) H ds vs → loL α.length ds → DenL K α H ds vs
 | [], _, q, _ => by rw [q.isnil]; exact xK
 | d :: ds, _, q, h => by
  obtain ⟨v, r, rfl, a, l⟩ := q.uncons
  unfold loL at h
  exact xC (Den.back a h.1) (DenL.back l h.2)
end
mutual
theorem Den.lo : ∀ {d : MV} {v : V}, Den K α H d v → lo α.length d
 | .non, _, q => by unfold M.lo; trivial
 | .bl _, _, q => by unfold M.lo; trivial
 | .int _, _, q => by unfold M.lo; trivial
 | .str _, _, q => by unfold M.lo; trivial
 | .typ _, _, q => by unfold M.lo; trivial
 | .loc l, _, q => by
  obtain ⟨a, rfl, e⟩ := bM q
  unfold M.lo
  exact (zQ1.mp e).1
 | .tup ds, _, q => by
  obtain ⟨a, vs, rfl, s, l⟩ := wG q
  unfold M.lo
  exact DenL.lo l
 | .scr ds, _, q => by
  obtain ⟨a, vs, rfl, s, l⟩ := dP q
  unfold M.lo
  exact DenL.lo l
theorem DenL.lo : ∀ {ds : List MV} {vs : List V}, DenL K α H ds vs → loL α.length ds
 | [], _, q => by unfold loL; trivial
 | d :: ds, _, q => by
  obtain ⟨v, r, rfl, a, l⟩ := q.uncons
  unfold loL
  exact ⟨Den.lo a, DenL.lo l⟩
end
theorem DenK.back : ∀ {fs gs}, DenK K (α ++ t) H fs gs → (∀ p ∈ fs, M.lo α.length p.1 ∧ M.lo α.length p.2) → DenK K α H fs gs
 | _, _, .nil, _ => .nil
 | _, _, .cons k a l, h => .cons k (a.back (h _ List.mem_cons_self).2) (DenK.back l fun p hp => h p (List.mem_cons_of_mem _ hp))
theorem KeyD.lo {n : Nat} {k : MV} {k' : Key} (h : KeyD k k') : M.lo n k := by
 unfold KeyD at h
 split at h
 ·unfold M.lo; trivial
 ·unfold M.lo; trivial
 ·exact h.elim
theorem DenK.lo : ∀ {fs gs}, DenK K α H fs gs → ∀ p ∈ fs, M.lo α.length p.1 ∧ M.lo α.length p.2
 | _, _, .nil => fun p h => by simp at h
 | _, _, .cons k a l => fun p h => (List.mem_cons.mp h).elim (fun e => by subst e; exact ⟨k.lo, a.lo⟩) (DenK.lo l p)
theorem DenN.back : ∀ {fs xs}, DenN K (α ++ t) H fs xs → (∀ p ∈ fs, M.lo α.length p.1 ∧ M.lo α.length p.2) → DenN K α H fs xs
 | _, _, .nil, _ => .nil
 | _, _, .cons k e a d r l, h => .cons k e (a.back (h _ List.mem_cons_self).1) (d.back (h _ List.mem_cons_self).2) r (DenN.back l fun p hp => h p (List.mem_cons_of_mem _ hp))
theorem DenN.lo : ∀ {fs xs}, DenN K α H fs xs → ∀ p ∈ fs, M.lo α.length p.1 ∧ M.lo α.length p.2
 | _, _, .nil => fun p h => by simp at h
 | _, _, .cons k e a d r l => fun p h => (List.mem_cons.mp h).elim (fun z => by subst z; exact ⟨a.lo, d.lo⟩) (DenN.lo l p)
theorem DenF.back : ∀ {fs gs}, DenF K (α ++ t) H fs gs → (∀ p ∈ fs, M.lo α.length p.2) → DenF K α H fs gs
 | _, _, .nil, _ => .nil
 | _, _, .cons a l, h => .cons (a.back (h _ List.mem_cons_self)) (DenF.back l fun p hp => h p (List.mem_cons_of_mem _ hp))
theorem DenF.lo : ∀ {fs gs}, DenF K α H fs gs → ∀ p ∈ fs, M.lo α.length p.2
 | _, _, .nil => fun p h => by simp at h
 | _, _, .cons a l => fun p h => (List.mem_cons.mp h).elim (fun e => by subst e; exact a.lo) (DenF.lo l p)
theorem ObD.back {g : Gm} {a : Addr} {o : MO} (q : ObD g (α ++ t) H a o) (h : loO α.length o) : ObD g α H a o := by
 cases o with
 | lst ds => obtain ⟨vs, h1, l⟩ := q; exact ⟨vs, h1, l.back h⟩
 | dic ds =>
  rcases q with ⟨vs, h1, l⟩ | ⟨vs, h1, l⟩
  ·exact .inl ⟨vs, h1, l.back h⟩
  ·exact .inr ⟨vs, h1, l.back h⟩
 | ins c fs => obtain ⟨C, gs, m, l, r⟩ := q; exact ⟨C, gs, m, l.back h, r⟩
theorem ObD.lo {g : Gm} {a : Addr} {o : MO} (q : ObD g α H a o) : loO α.length o := by
 cases o with
 | lst ds => obtain ⟨vs, h1, l⟩ := q; exact l.lo
 | dic ds =>
  rcases q with ⟨vs, h1, l⟩ | ⟨vs, h1, l⟩
  ·exact l.lo
  ·exact l.lo
 | ins c fs => obtain ⟨C, gs, m, l, r⟩ := q; exact l.lo
end
def yBZ (S S2 : Sto) : Prop := S.length ≤ S2.length ∧ ∀ l, l < S.length → S2[l]? = S[l]? ∨ ∃ o, S2[l]? = some o ∧ loO S.length o
open Classical in
noncomputable def zDQ (S : Sto) (r : Er) (S2 : Sto) : R Er :=
 if yBZ S S2 then match r with
  | .val (.loc l) => if l < S.length then .ok r (S2.take S.length) else match S2[l]? with
   | some (.lst ds) => if loL S.length ds then .ok (.new ds) (S2.take S.length) else .ok r S2
   | _ => .ok r S2
  | .val d => if lo S.length d then .ok r (S2.take S.length) else .ok r S2
  | .new ds => if loL S.length ds then .ok r (S2.take S.length) else .ok r S2
 else .ok r S2
theorem yKD {g : Gm} {α α1 α2 α3 : List Addr} {H H1 H3 : Hp} {S1 S3 : Sto} {r : Er} {v : V} (x1 : Ext α H α1 H1) (w1 : Wd g α1 S1 H1) (h12 : ∃ t, α2 = α1 ++ t) (x2 : Ext α H α2 H1) (x3 : Ext α2 H1 α3 H3) (w3 : Wd g α3 S3 H3) (d : DenE g.K H1 α3 H3 r v) :
  ∃ r' S' α', zDQ S1 r S3 = .ok r' S' ∧ Ext α H α' H3 ∧ Wd g α' S' H3 ∧ DenE g.K H α' H3 r' v := by
 have x23 := x2.trans x3
 have dfull : DenE g.K H α3 H3 r v := d.back fun b h => x1.free h
 unfold zDQ
 by_cases hc : yBZ S1 S3
 ·rw [if_pos hc]
  obtain ⟨t, ht⟩ : ∃ t, α3 = α1 ++ t := by
   obtain ⟨t, e⟩ := h12
   obtain ⟨u, e'⟩ := x3.pre
   exact ⟨t ++ u, by rw [e', e, List.append_assoc]⟩
  have hn : α1.length = S1.length := w1.len
  have xc : Ext α H α1 H3 := ⟨⟨x1.pre, x23.tup, x23.frz⟩, x1.new, x23.keep, x23.has⟩
  have wc : Wd g α1 (S3.take S1.length) H3 := by
   refine ⟨by rw [List.length_take, hn, Nat.min_eq_left hc.1], w1.nd, fun l a o h1 h2 => ?_⟩
   have hl : l < S1.length := by rw [← hn]; exact (zQ1.mp h1).1
   rw [List.getElem?_take_of_lt hl] at h2
   have h1' : α3[l]? = some a := by rw [ht, zQ2 (by rw [hn]; exact hl)]; exact h1
   have q := w3.obj l a o h1' h2
   rw [ht] at q
   refine q.back ?_
   rcases hc.2 l hl with e | ⟨o', e, lo'⟩
   ·rw [e] at h2
    exact (w1.obj l a o h1 h2).lo
   ·rw [h2] at e
    cases e
    rw [hn]; exact lo'
  have dlo : ∀ d, lo S1.length d → Den g.K α3 H3 d v → DenE g.K H α1 H3 (.val d) v := fun d hd q => .val ((ht ▸ q : Den g.K (α1 ++ t) H3 d v).back (by rw [hn]; exact hd))
  cases r with
  | new ds =>
   dsimp only
   split
   ·rename_i hl
    obtain ⟨⟨b, vs, rfl, h1, h2, h3⟩, h4⟩ := dfull
    exact ⟨_, _, α1, rfl, xc, wc, ⟨b, vs, rfl, h1, fun z => h2 (by rw [ht]; exact List.mem_append_left _ z), (ht ▸ h3 : DenL g.K (α1 ++ t) H3 ds vs).back (by rw [hn]; exact hl)⟩, h4⟩
   ·exact ⟨_, _, α3, rfl, x23, w3, dfull⟩
  | val mv =>
   have dd : Den g.K α3 H3 mv v := dfull.1
   cases mv with
   | loc l =>
    dsimp only
    split
    ·rename_i hl
     exact ⟨_, _, α1, rfl, xc, wc, dlo _ (by unfold lo; exact hl) dd⟩
    ·rename_i hl
     obtain ⟨a, rfl, ha⟩ := bM dd
     split
     ·rename_i ds hS
      split
      ·rename_i hlo
       obtain ⟨vs, h1, h2⟩ := w3.obj l a _ ha hS
       have hna : a ∉ α1 := fun z => by
        obtain ⟨m, hm⟩ := List.getElem?_of_mem z
        have hml : m < α1.length := (zQ1.mp hm).1
        have hm' : α3[m]? = some a := by rw [ht, zQ2 hml]; exact hm
        obtain ⟨u1, e1⟩ := zQ1.mp hm'
        obtain ⟨u2, e2⟩ := zQ1.mp ha
        have := (List.getElem_inj w3.nd).mp (e1.trans e2.symm)
        omega
       refine ⟨_, _, α1, rfl, xc, wc, ⟨a, vs, rfl, h1, hna, (ht ▸ h2 : DenL g.K (α1 ++ t) H3 ds vs).back (by rw [hn]; exact hlo)⟩, fun b e => ?_⟩
       cases e
       rcases x23.new a (List.mem_of_getElem? ha) with z | z
       ·obtain ⟨u, eu⟩ := x1.pre
        exact absurd (by rw [eu]; exact List.mem_append_left _ z) hna
       ·exact z
      ·exact ⟨_, _, α3, rfl, x23, w3, dfull⟩
     ·exact ⟨_, _, α3, rfl, x23, w3, dfull⟩
   | non => dsimp only; split; (· rename_i hl; exact ⟨_, _, α1, rfl, xc, wc, dlo _ hl dd⟩); (· exact ⟨_, _, α3, rfl, x23, w3, dfull⟩)
   | bl b => dsimp only; split; (· rename_i hl; exact ⟨_, _, α1, rfl, xc, wc, dlo _ hl dd⟩); (· exact ⟨_, _, α3, rfl, x23, w3, dfull⟩)
   | int b => dsimp only; split; (· rename_i hl; exact ⟨_, _, α1, rfl, xc, wc, dlo _ hl dd⟩); (· exact ⟨_, _, α3, rfl, x23, w3, dfull⟩)
   | str b => dsimp only; split; (· rename_i hl; exact ⟨_, _, α1, rfl, xc, wc, dlo _ hl dd⟩); (· exact ⟨_, _, α3, rfl, x23, w3, dfull⟩)
   | typ b => dsimp only; split; (· rename_i hl; exact ⟨_, _, α1, rfl, xc, wc, dlo _ hl dd⟩); (· exact ⟨_, _, α3, rfl, x23, w3, dfull⟩)
   | tup b => dsimp only; split; (· rename_i hl; exact ⟨_, _, α1, rfl, xc, wc, dlo _ hl dd⟩); (· exact ⟨_, _, α3, rfl, x23, w3, dfull⟩)
   | scr b => dsimp only; split; (· rename_i hl; exact ⟨_, _, α1, rfl, xc, wc, dlo _ hl dd⟩); (· exact ⟨_, _, α3, rfl, x23, w3, dfull⟩)
 ·rw [if_neg hc]
  exact ⟨_, _, α3, rfl, x23, w3, dfull⟩
def spM (g : Gm) (n : Nat) (F : List MV → Sto → R Er) : Sp := fun vs H Q _ => ∃ α S ds, Wd g α S H ∧ DenL g.K α H ds vs ∧ ds.length = n ∧ Post g W0 α H (F ds S) Q
noncomputable def zJ (n : Nat) (F : List MV → Sto → R Er) (rs : List Er) (S : Sto) : R Er := if rs.length = n then (noX (F (yI rs S).1 (yI rs S).2)).bind fun r S2 => zDQ S r S2 else .no
section
variable {X : Cx} {W : XW} {e : Expr} {es : List Expr} {af : Rho → Sto → R (List Er)} {pos : Pos}
theorem yDX {n : Nat} {F : List MV → Sto → R Er} {rs : List Er} {vs : List V} {α α1 : List Addr} {H H1 : Hp} {S1 : Sto} {Q : VK} (x1 : Ext α H α1 H1) (w1 : Wd X.g α1 S1 H1) (d1 : ArgsE X.K H α1 H1 rs vs) (q : Post X.g W α H (zJ n F rs S1) Q) :
  spM X.g n F vs H1 Q E0 := by
 unfold zJ at q
 split at q
 ·rename_i hl
  obtain ⟨α2, x2, y2, w2, l2⟩ := zGS w1 x1 d1
  refine ⟨α2, _, _, w2, l2, by rw [zMK]; exact hl, ?_⟩
  cases z : F (yI rs S1).1 (yI rs S1).2 with
  | ok r S3 =>
   rw [z] at q
   intro v α3 H3 x3 w3 d3
   obtain ⟨r', S', α', e', x', w', d'⟩ := yKD x1 w1 y2.pre x2 x3 w3 d3
   have q : Post X.g W α H (zDQ S1 r S3) Q := q
   rw [e'] at q
   exact q v α' H3 x' w' d'
  | exc c fs S3 => rw [z] at q; exact q.elim
  | no => rw [z] at q; exact q.elim
 ·exact q.elim
theorem zO {k n : Nat} {fa : Addr} {fd : FuncData} {ps : List Str} {F : List MV → Sto → R Er} {x : Str} {p : Pos} (G : FnOk X.prog X.w X.K X.mg X.base CX0 k fa fd ps (spM X.g n F)) (hr : Room k X.A) (hg : Gl X x) (hm : X.mg x = some (.ref fa))
  (hk : PySem.W.keepIn X.K (.ref fa) = true) (hb : Binds X.K fd ps []) (ha : PAm X W (e :: es) af) (hdb : (x == ("__debug__" : Str)) = false := by decide)
  (he : starEach (e :: es) X.env = (false, eval e X.env) :: starEach es X.env := by rfl) (hpl : (backTo pos (starEach es X.env)).any (·.1) = false := by rfl) :
  PEm X W (.Call (.Name x p) (e :: es) [] pos) (fun ρ S => (af ρ S).bind fun rs S1 => zJ n F rs S1) := by
 obtain ⟨t, ha, kk⟩ := ha
 refine ⟨_, yJL G hr hg hm hk hb .nil pass0 ha hdb he hpl, fun α ρ S σ H Q wd sl q => kk α ρ S σ H _ wd sl (q.bind fun vs rs S1 α1 H1 e1 x1 w1 d1 q1 => ?_)⟩
 rw [List.append_nil]
 exact yDX x1 w1 d1 q1
end
def yA (N : List Str) (ds : List MV) : Rho := ds.map some ++ List.replicate (N.length - ds.length) none
def yX : R Fl → R Er
 | .ok (.next _) S => .ok (.val .non) S
 | .ok (.ret r) S => .ok r S
 | .exc c fs S => .exc c fs S
 | _ => .no
theorem zWH {K : PySem.W.Frag} {α : List Addr} {N : List Str} {H : Hp} {ds : List MV} {vs : List V} (l : DenL K α H ds vs) : Slots K α H (yA N ds) (start N vs) := by
 have hlen := l.length
 refine ⟨?_, fun i d e => ?_⟩
 ·unfold start yA
  rw [zQ4, zQ4, List.length_map, List.length_map, List.length_replicate, List.length_replicate, hlen]
 ·unfold yA at e
  by_cases hi : i < ds.length
  ·rw [zQ2 (by simpa using hi), List.getElem?_map] at e
   cases z : ds[i]? with
   | none => rw [z] at e; cases e
   | some d' =>
    rw [z] at e
    obtain ⟨v, h1, h2⟩ := l.at z
    have e' : d' = d := Option.some.inj (Option.some.inj e)
    subst e'
    refine ⟨v, ?_, h2⟩
    unfold start
    rw [zQ2 (by rw [List.length_map, hlen]; exact hi), List.getElem?_map, h1]; rfl
  ·rw [List.getElem?_append_right (by simpa using hi), List.getElem?_replicate] at e
   split at e <;> cases e
section
variable {P : Program} {w : World} {K : PySem.W.Frag} {mg : Str → Option Value} {base : Heap}
theorem okM {x qual : Str} {st : Stmt} {f : Addr} {fd : FuncData} {N ps : List Str} {k : Nat} (Fb : Rho → Sto → R Fl) (F : Fun K x qual st f fd) (Sc : FnScope N ps (zG st))
  (hbody : ∀ (cdv : Value) (A : Around) (outer : List Env) (s : Shared) (H : Hp) (E : XK), Room k (A.deeper (envOfC qual (zG st) s.heap.objs.size f cdv)) →
   zWF (zZD CX0 P w K mg base N qual (zG st) f cdv A outer s H E).nox W0 (zZ st) Fb) :
  FnOk P w K mg base CX0 (k + 1) f fd ps (spM ⟨K, mg, P, w⟩ ps.length fun ds S => yX (Fb (yA N ds) S)) := by
 refine F.ok Sc (fun vs H Q E h => ?_) (fun cdv A outer s H vs Q E hr h => ?_)
 ·obtain ⟨α, S, ds, _, l, hl, _⟩ := h
  rw [l.length, hl]
 ·obtain ⟨α, S, ds, wd, l, hl, q⟩ := h
  obtain ⟨t, ht, kk⟩ := hbody cdv A outer s H E hr
  refine ⟨t, ht, kk α (yA N ds) S (start N vs) H _ wd (zWH l) ?_⟩
  dsimp only at q
  cases z : Fb (yA N ds) S with
  | ok fl S' =>
   rw [z] at q
   cases fl with
   | next ρ => exact fun σ α' H' x' w' s' => q .non α' H' x' w' (DenE.val zKT)
   | ret r => exact fun v α' H' x' w' d' => q v α' H' x' w' d'
   | brk ρ => exact q.elim
   | cont ρ => exact q.elim
  | exc c fs S' => rw [z] at q; exact fun α' H' x' w' => q α' H' x' w'
  | no => rw [z] at q; exact q
end
end M
end L2
namespace L2
namespace M
open PySem PySem.Spec PyProof.Rows
inductive Vw where
 | fl (v : V) | tp (ds : List MV) | ls (ds : List MV)
def bO (S : Sto) : Er → Option (List MV)
 | .new ds => some ds
 | .val (.scr ds) => some ds
 | .val (.loc l) => match S[l]? with
  | some (.lst ds) => some ds
  | _ => none
 | _ => none
def vwE (S : Sto) : Er → Option Vw
 | .val .non => some (.fl .non)
 | .val (.bl b) => some (.fl (.bl b))
 | .val (.int i) => some (.fl (.int i))
 | .val (.str x) => some (.fl (.str (mkS x)))
 | .val (.tup ds) => some (.tp ds)
 | .val (.typ _) => none
 | r => (bO S r).map .ls
def prs (e : MV → MV → Option Bool) : List MV → List MV → Option (List Bool)
 | d :: ds, f :: fs => (e d f).bind fun k => (prs e ds fs).map (k :: ·)
 | _, _ => some []
def eqW (e : MV → MV → Option Bool) : Vw → Vw → Option Bool
 | .fl x, .fl y => some (eqV x y)
 | .tp ds, .tp es => (prs e ds es).map fun bs => bs.all id && ds.length == es.length
 | .ls ds, .ls es => if ds.length = es.length then (prs e ds es).map fun bs => bs.all id else some false
 | _, _ => some false
theorem zZJ (e : MV → MV → Option Bool) (ds es : List MV) : eqW e (.tp ds) (.tp es) = (prs e ds es).map fun bs => bs.all id && ds.length == es.length := rfl
theorem zZK (e : MV → MV → Option Bool) (ds es : List MV) : eqW e (.ls ds) (.ls es) = if ds.length = es.length then (prs e ds es).map fun bs => bs.all id else some false := rfl
def eqv (S : Sto) : Nat → MV → MV → Option Bool
 | 0, _, _ => none
 | n + 1, a, b => (vwE S (.val a)).bind fun x => (vwE S (.val b)).bind fun y => eqW (eqv S n) x y
def zRD (S : Sto) (n : Nat) (a b : Er) : Option Bool := (vwE S a).bind fun x => (vwE S b).bind fun y => eqW (eqv S n) x y
section
variable {X : Cx} {α : List Addr} {S : Sto} {H : Hp}
theorem zKV {K : PySem.W.Frag} {g : Gm} (hK : g.K = K) (wd : Wd g α S H) {r : Er} {ds : List MV} {x : V} (e : bO S r = some ds) (d : DenX K α H r x) : ∃ a vs, x = .ref a ∧ SqL K H a vs ∧ DenL K α H ds vs := by
 subst hK
 unfold bO at e
 split at e
 ·cases e
  obtain ⟨b, vs, rfl, h, _, l⟩ := d
  exact ⟨b, vs, rfl, .of h, l⟩
 ·cases e
  obtain ⟨a, vs, rfl, s, l⟩ := zOU d
  exact ⟨a, vs, rfl, s.l, l⟩
 ·rename_i n
  obtain ⟨a, rfl, h⟩ := zGQ d
  split at e
  ·rename_i es hS
   cases e
   obtain ⟨vs, h1, l⟩ := wd.obj n a _ h hS
   exact ⟨a, vs, rfl, .of h1, l⟩
  ·cases e
 ·cases e
theorem zGA {r : Er} {x y : V} (e : vwE S r = some (.fl y)) (d : DenX X.K α H r x) : x = y ∧ kH y = true := by
 unfold vwE at e
 split at e
 ·cases e; exact ⟨zMJ d, rfl⟩
 ·cases e; exact ⟨zFY d, rfl⟩
 ·cases e; exact ⟨wA d, rfl⟩
 ·cases e; exact ⟨kU d, rfl⟩
 ·cases e
 ·cases e
 ·cases z : bO S r <;> rw [z] at e <;> cases e
theorem zGB {r : Er} {x : V} {ds : List MV} (e : vwE S r = some (.tp ds)) (d : DenX X.K α H r x) : ∃ a vs, x = .ref a ∧ SqT X.K H a vs ∧ DenL X.K α H ds vs := by
 unfold vwE at e
 split at e
 ·cases e
 ·cases e
 ·cases e
 ·cases e
 ·cases e; exact dQ d
 ·cases e
 ·cases z : bO S r <;> rw [z] at e <;> cases e
theorem zGC (wd : Wd X.g α S H) {r : Er} {x : V} {ds : List MV} (e : vwE S r = some (.ls ds)) (d : DenX X.K α H r x) : ∃ a vs, x = .ref a ∧ SqL X.K H a vs ∧ DenL X.K α H ds vs := by
 unfold vwE at e
 split at e
 ·cases e
 ·cases e
 ·cases e
 ·cases e
 ·cases e
 ·cases e
 ·cases z : bO S r with
  | none => rw [z] at e; cases e
  | some es => rw [z] at e; cases e; exact zKV rfl wd z d
theorem zIL {e : MV → MV → Option Bool} : ∀ {ds es : List MV} {bs : List Bool}, prs e ds es = some bs → bs.length = min ds.length es.length
 | [], _, _, h => by simp [prs] at h; subst h; simp
 | _ :: _, [], _, h => by simp [prs] at h; subst h; simp
 | d :: ds, f :: fs, bs, h => by
  unfold prs at h
  cases z : e d f with
  | none => rw [z] at h; cases h
  | some k =>
   rw [z] at h
   cases z2 : prs e ds fs with
   | none => simp [z2] at h
   | some cs =>
    simp [z2] at h
    subst h
    simp [zIL z2]
theorem zTX {e : MV → MV → Option Bool} : ∀ {ds es : List MV} {bs : List Bool} {j : Nat} {d f : MV}, prs e ds es = some bs → ds[j]? = some d → es[j]? = some f → e d f = some (bs.getD j true)
 | [], _, _, _, _, _, h, h1, _ => by simp at h1
 | _ :: _, [], _, _, _, _, h, _, h2 => by simp at h2
 | d :: ds, f :: fs, bs, j, d', f', h, h1, h2 => by
  unfold prs at h
  cases z : e d f with
  | none => rw [z] at h; cases h
  | some k =>
   rw [z] at h
   cases z2 : prs e ds fs with
   | none => simp [z2] at h
   | some cs =>
    simp [z2] at h
    subst h
    cases j with
    | zero => simp at h1 h2; subst h1 h2; simpa using z
    | succ j => simpa using zTX z2 (by simpa using h1) (by simpa using h2)
theorem range_all {bs : List Bool} {n : Nat} (h : bs.length = n) : (List.range n).all (fun j => bs.getD j true) = bs.all id := by
 subst h
 rw [Bool.eq_iff_iff, List.all_eq_true, List.all_eq_true]
 constructor
 ·intro h x hx
  obtain ⟨i, hi, rfl⟩ := List.getElem_of_mem hx
  have := h i (List.mem_range.mpr hi)
  simpa [List.getD_eq_getElem?_getD, hi] using this
 ·intro h i hi
  have hi' := List.mem_range.mp hi
  have := h bs[i] (List.getElem_mem hi')
  simpa [List.getD_eq_getElem?_getD, hi'] using this
variable {pins : List (Addr × Obj)} {σ : St} {s : Shared}
theorem zKW (I : Inv X pins σ H s) {a : Addr} {xs ys : List V} (h : SqL X.K H a xs) (h' : SqT X.K H a ys) : False := by
 obtain ⟨_, _, pl, _⟩ := I.list h
 obtain ⟨_, _, pt, _⟩ := I.tuple h'
 obtain ⟨o, n, e, c, _, _⟩ := pl
 obtain ⟨o', e', c', _⟩ := pt
 rw [e] at e'
 cases e'
 rw [c] at c'
 exact absurd c' (by simp)
theorem yGS (I : Inv X pins σ H s) (wd : Wd X.g α S H) {e : MV → MV → Option Bool} (he : ∀ d f v k, Den X.K α H d v → Den X.K α H f v → e d f = some k → k = true) {a b : Er} {x : V} {p q : Vw} {k : Bool}
  (ha : vwE S a = some p) (hb : vwE S b = some q) (da : DenX X.K α H a x) (db : DenX X.K α H b x) (h : eqW e p q = some k) : k = true := by
 have hp : ∀ {ds es : List MV} {vs : List V} {bs : List Bool}, DenL X.K α H ds vs → DenL X.K α H es vs → prs e ds es = some bs → bs.all id = true := by
  intro ds es vs bs l1 l2 z
  rw [List.all_eq_true]
  intro k hk
  obtain ⟨i, hi, rfl⟩ := List.getElem_of_mem hk
  have hl := zIL z
  have h1 : i < ds.length := by omega
  have h2 : i < es.length := by omega
  obtain ⟨v, g1, g2⟩ := l1.at (List.getElem?_eq_getElem h1)
  obtain ⟨v', g3, g4⟩ := l2.at (List.getElem?_eq_getElem h2)
  rw [g1] at g3; cases g3
  have := he _ _ _ _ g2 g4 (zTX z (List.getElem?_eq_getElem h1) (List.getElem?_eq_getElem h2))
  simpa [List.getD_eq_getElem?_getD, hi] using this
 cases p with
 | fl y =>
  obtain ⟨rfl, f1⟩ := zGA ha da
  cases q with
  | fl z => obtain ⟨rfl, f2⟩ := zGA hb db; cases h; exact yGH f1
  | tp ds => obtain ⟨a, vs, rfl, _⟩ := zGB hb db; exact absurd (show false = true from f1) zQ3
  | ls ds => obtain ⟨a, vs, rfl, _⟩ := zGC wd hb db; exact absurd (show false = true from f1) zQ3
 | tp ds =>
  obtain ⟨a1, vs, rfl, s1, l1⟩ := zGB ha da
  cases q with
  | fl z => obtain ⟨rfl, f2⟩ := zGA hb db; exact absurd (show false = true from f2) zQ3
  | tp es =>
   obtain ⟨a2, us, e2, s2, l2⟩ := zGB hb db
   cases e2
   cases I.tuple_inj s1 s2
   rw [zZJ] at h
   cases z : prs e ds es with
   | none => rw [z] at h; cases h
   | some bs =>
    rw [z] at h
    cases h
    show (bs.all id && ds.length == es.length) = true
    rw [hp l1 l2 z, ← l1.length, ← l2.length]; simp
  | ls es => obtain ⟨a2, us, e2, s2, l2⟩ := zGC wd hb db; cases e2; exact (zKW I s2 s1).elim
 | ls ds =>
  obtain ⟨a1, vs, rfl, s1, l1⟩ := zGC wd ha da
  cases q with
  | fl z => obtain ⟨rfl, f2⟩ := zGA hb db; exact absurd (show false = true from f2) zQ3
  | tp es => obtain ⟨a2, us, e2, s2, l2⟩ := zGB hb db; cases e2; exact (zKW I s1 s2).elim
  | ls es =>
   obtain ⟨a2, us, e2, s2, l2⟩ := zGC wd hb db
   cases e2
   cases I.list_inj s1 s2
   rw [zZK] at h
   rw [if_pos (by rw [← l1.length, ← l2.length])] at h
   cases z : prs e ds es with
   | none => rw [z] at h; cases h
   | some bs => rw [z] at h; cases h; exact hp l1 l2 z
theorem zOZ (I : Inv X pins σ H s) (wd : Wd X.g α S H) : ∀ (n : Nat) (d f : MV) (v : V) (k : Bool), Den X.K α H d v → Den X.K α H f v → eqv S n d f = some k → k = true
 | 0, _, _, _, _, _, _, h => by cases h
 | n + 1, d, f, v, k, h1, h2, h => by
  unfold eqv at h
  cases za : vwE S (.val d) with
  | none => rw [za] at h; cases h
  | some p =>
   cases zb : vwE S (.val f) with
   | none => rw [za, zb] at h; cases h
   | some q =>
    rw [za, zb] at h
    exact yGS I wd (zOZ I wd n) za zb (a := .val d) (b := .val f) h1 h2 h
theorem zKX {e : MV → MV → Option Bool} {A : Around} (he : ∀ d f x y u v k, Den X.K α H d x → Den X.K α H f y → RelV x u → RelV y v → e d f = some k → SeqAt.EqAt A s u v k)
  {ds es : List MV} {vs us : List V} {its its2 : List Value} {bs : List Bool} (l1 : DenL X.K α H ds vs) (l2 : DenL X.K α H es us) (r1 : Vals vs its) (r2 : Vals us its2) (z : prs e ds es = some bs) :
  ∀ j (h1 : j < its.toArray.size) (h2 : j < its2.toArray.size), SeqAt.EqAt A s its.toArray[j] its2.toArray[j] (bs.getD j true) := by
 intro j h1 h2
 have g1 : j < vs.length := by rw [r1.length]; simpa using h1
 have g2 : j < us.length := by rw [r2.length]; simpa using h2
 obtain ⟨d, d1, d2⟩ := l1.get (List.getElem?_eq_getElem g1)
 obtain ⟨f, f1, f2⟩ := l2.get (List.getElem?_eq_getElem g2)
 obtain ⟨u, u1, u2⟩ := r1.get (List.getElem?_eq_getElem g1)
 obtain ⟨v, v1, v2⟩ := r2.get (List.getElem?_eq_getElem g2)
 have e1 : its.toArray[j] = u := by
  have : its[j]? = some (its[j]'(by simpa using h1)) := List.getElem?_eq_getElem _
  rw [u1] at this
  simpa using (Option.some.inj this).symm
 have e2 : its2.toArray[j] = v := by
  have : its2[j]? = some (its2[j]'(by simpa using h2)) := List.getElem?_eq_getElem _
  rw [v1] at this
  simpa using (Option.some.inj this).symm
 rw [e1, e2]
 exact he d f _ _ u v _ d2 f2 u2 v2 (zTX z d1 f1)
theorem zPA (I : Inv X pins σ H s) (wd : Wd X.g α S H) : ∀ (n : Nat) (A : Around) (d f : MV) (x y : V) (u v : Value) (k : Bool), A.units + n < cLine → Den X.K α H d x → Den X.K α H f y → RelV x u → RelV y v → eqv S n d f = some k → SeqAt.EqAt A s u v k
 | 0, _, _, _, _, _, _, _, _, _, _, _, _, _, h => by cases h
 | n + 1, A, d, f, x, y, u, v, k, hu, h1, h2, rx, ry, h => by
  have hu0 : A.units < cLine := by omega
  have hsame := h
  unfold eqv at h
  cases za : vwE S (.val d) with
  | none => rw [za] at h; cases h
  | some p =>
   cases zb : vwE S (.val f) with
   | none => rw [za, zb] at h; cases h
   | some q =>
    rw [za, zb] at h
    have h : eqW (eqv S n) p q = some k := h
    have he := fun d f x y u v k a b c d' e => zPA I wd n A.in1 d f x y u v k (show A.units + 1 + n < cLine by omega) a b c d' e
    cases p with
    | fl x' =>
     obtain ⟨rfl, fx⟩ := zGA za (α := α) (H := H) (X := X) h1
     cases q with
     | fl y' => obtain ⟨rfl, fy⟩ := zGA zb (α := α) (H := H) (X := X) h2; cases h; exact yNR rx ry fx fy
     | tp es =>
      obtain ⟨b, us, rfl, s2, l2⟩ := zGB zb (α := α) (H := H) (X := X) h2
      cases ry; cases h
      obtain ⟨its, _, pt, _⟩ := I.tuple s2
      exact yMH rx fx pt hu0
     | ls es =>
      obtain ⟨b, us, rfl, s2, l2⟩ := zGC wd zb h2
      cases ry; cases h
      obtain ⟨its, _, pl, _⟩ := I.list s2
      exact eq_lr rx fx pl.isList hu0
    | tp ds =>
     obtain ⟨a, vs, rfl, s1, l1⟩ := zGB za (α := α) (H := H) (X := X) h1
     cases rx
     obtain ⟨its, r1, pt, _⟩ := I.tuple s1
     cases q with
     | fl y' => obtain ⟨rfl, fy⟩ := zGA zb (α := α) (H := H) (X := X) h2; cases h; exact yMG ry fy pt hu0
     | tp es =>
      obtain ⟨b, us, rfl, s2, l2⟩ := zGB zb (α := α) (H := H) (X := X) h2
      cases ry
      by_cases hab : a = b
      ·subst hab
       rw [zOZ I wd (n + 1) d f _ k h1 h2 hsame]
       exact SeqAt.EqAt.same _
      ·obtain ⟨its2, r2, pt2, _⟩ := I.tuple s2
       rw [zZJ] at h
       cases z : prs (eqv S n) ds es with
       | none => rw [z] at h; cases h
       | some bs =>
        rw [z] at h
        cases h
        have := SeqAt.RcAt.tuples pt pt2 hu0 (zKX he l1 l2 r1 r2 z)
        have hl := zIL z
        rw [range_all (by rw [hl]; simp [← r1.length, ← r2.length, l1.length, l2.length])] at this
        have e3 : (its.toArray.size == its2.toArray.size) = (ds.length == es.length) := by simp [← r1.length, ← r2.length, l1.length, l2.length]
        rw [e3] at this
        exact SeqAt.EqAt.of_refs hab this
     | ls es =>
      obtain ⟨b, us, rfl, s2, l2⟩ := zGC wd zb h2
      cases ry; cases h
      obtain ⟨its2, _, pl, _⟩ := I.list s2
      exact SeqAt.EqAt.tuple_list pt pl.isList hu0
    | ls ds =>
     obtain ⟨a, vs, rfl, s1, l1⟩ := zGC wd za h1
     cases rx
     obtain ⟨its, r1, pl, _⟩ := I.list s1
     cases q with
     | fl y' => obtain ⟨rfl, fy⟩ := zGA zb (α := α) (H := H) (X := X) h2; cases h; exact eq_ll ry fy pl.isList hu0
     | tp es =>
      obtain ⟨b, us, rfl, s2, l2⟩ := zGB zb (α := α) (H := H) (X := X) h2
      cases ry; cases h
      obtain ⟨its2, _, pt, _⟩ := I.tuple s2
      exact SeqAt.EqAt.list_tuple pl.isList pt hu0
     | ls es =>
      obtain ⟨b, us, rfl, s2, l2⟩ := zGC wd zb h2
      cases ry
      by_cases hab : a = b
      ·subst hab
       rw [zOZ I wd (n + 1) d f _ k h1 h2 hsame]
       exact SeqAt.EqAt.same _
      ·obtain ⟨its2, r2, pl2, _⟩ := I.list s2
       rw [zZK] at h
       by_cases hl : ds.length = es.length
       ·rw [if_pos hl] at h
        cases z : prs (eqv S n) ds es with
        | none => rw [z] at h; cases h
        | some bs =>
         rw [z] at h
         cases h
         have hs : its.toArray.size = its2.toArray.size := by simp [← r1.length, ← r2.length, l1.length, l2.length, hl]
         have := SeqAt.RcAt.lists pl.isList pl2.isList hs hu0 (zKX he l1 l2 r1 r2 z)
         have hl' := zIL z
         rw [range_all (by rw [hl']; simp [← r1.length, l1.length, hl])] at this
         exact SeqAt.EqAt.of_refs hab this
       ·rw [if_neg hl] at h
        cases h
        exact SeqAt.EqAt.of_refs hab (SeqAt.RcAt.lists_lengths pl.isList pl2.isList (by simpa [← r1.length, ← r2.length, l1.length, l2.length] using hl) hu0)
theorem yMI {RC : Around → Shared → Value → Value → Bool → Prop} {tr : Bool → Bool} {A : Around}
  (hff : ∀ x y u v, RelV x u → RelV y v → kH x = true → kH y = true → RC A s u v (tr (eqV x y)))
  (hfl : ∀ x v l items, RelV x v → kH x = true → s.heap.IsList l items → A.units < cLine → RC A s v (.ref l) (tr false) ∧ RC A s (.ref l) v (tr false))
  (hft : ∀ x v l items, RelV x v → kH x = true → s.heap.IsTuple l items → A.units < cLine → RC A s v (.ref l) (tr false) ∧ RC A s (.ref l) v (tr false))
  (hlt : ∀ l b items items2, s.heap.IsList l items → s.heap.IsTuple b items2 → A.units < cLine → RC A s (.ref l) (.ref b) (tr false) ∧ RC A s (.ref b) (.ref l) (tr false))
  (htt : ∀ (l b : Addr) (items items2 : Array Value) (e : Nat → Bool), s.heap.IsTuple l items → s.heap.IsTuple b items2 → A.units < cLine → (∀ j (h1 : j < items.size) (h2 : j < items2.size), SeqAt.EqAt A.in1 s items[j] items2[j] (e j)) → RC A s (.ref l) (.ref b) (tr ((List.range (min items.size items2.size)).all e && items.size == items2.size)))
  (hll : ∀ (l b : Addr) (items items2 : Array Value) (e : Nat → Bool), s.heap.IsList l items → s.heap.IsList b items2 → items.size = items2.size → A.units < cLine → (∀ j (h1 : j < items.size) (h2 : j < items2.size), SeqAt.EqAt A.in1 s items[j] items2[j] (e j)) → RC A s (.ref l) (.ref b) (tr ((List.range items.size).all e)))
  (hln : ∀ (l b : Addr) (items items2 : Array Value), s.heap.IsList l items → s.heap.IsList b items2 → (items.size != items2.size) = true → A.units < cLine → RC A s (.ref l) (.ref b) (tr false))
  (I : Inv X pins σ H s) (wd : Wd X.g α S H) (n : Nat) {a b : Er} {x y : V} {u v : Value} {k : Bool} (hu : A.units + (n + 1) < cLine) (h1 : DenX X.K α H a x) (h2 : DenX X.K α H b y) (rx : RelV x u) (ry : RelV y v) (h : zRD S n a b = some k) : RC A s u v (tr k) := by
 have hu0 : A.units < cLine := by omega
 unfold zRD at h
 cases za : vwE S a with
 | none => rw [za] at h; cases h
 | some p =>
  cases zb : vwE S b with
  | none => rw [za, zb] at h; cases h
  | some q =>
   rw [za, zb] at h
   have h : eqW (eqv S n) p q = some k := h
   have he := fun d f x y u v k a b c d' e => zPA I wd n A.in1 d f x y u v k (show A.units + 1 + n < cLine by omega) a b c d' e
   cases p with
   | fl x' =>
    obtain ⟨rfl, fx⟩ := zGA za h1
    cases q with
    | fl y' => obtain ⟨rfl, fy⟩ := zGA zb h2; cases h; exact hff _ _ _ _ rx ry fx fy
    | tp es =>
     obtain ⟨b, us, rfl, s2, l2⟩ := zGB zb h2
     cases ry; cases h
     obtain ⟨its, _, pt, _⟩ := I.tuple s2
     exact (hft _ _ _ _ rx fx pt hu0).1
    | ls es =>
     obtain ⟨b, us, rfl, s2, l2⟩ := zGC wd zb h2
     cases ry; cases h
     obtain ⟨its, _, pl, _⟩ := I.list s2
     exact (hfl _ _ _ _ rx fx pl.isList hu0).1
   | tp ds =>
    obtain ⟨a, vs, rfl, s1, l1⟩ := zGB za h1
    cases rx
    obtain ⟨its, r1, pt, _⟩ := I.tuple s1
    cases q with
    | fl y' => obtain ⟨rfl, fy⟩ := zGA zb h2; cases h; exact (hft _ _ _ _ ry fy pt hu0).2
    | tp es =>
     obtain ⟨b, us, rfl, s2, l2⟩ := zGB zb h2
     cases ry
     obtain ⟨its2, r2, pt2, _⟩ := I.tuple s2
     rw [zZJ] at h
     cases z : prs (eqv S n) ds es with
     | none => rw [z] at h; cases h
     | some bs =>
      rw [z] at h
      cases h
      have := htt _ _ _ _ _ pt pt2 hu0 (zKX he l1 l2 r1 r2 z)
      have hl := zIL z
      rw [range_all (by rw [hl]; simp [← r1.length, ← r2.length, l1.length, l2.length])] at this
      have e3 : (its.toArray.size == its2.toArray.size) = (ds.length == es.length) := by simp [← r1.length, ← r2.length, l1.length, l2.length]
      rw [e3] at this
      exact this
    | ls es =>
     obtain ⟨b, us, rfl, s2, l2⟩ := zGC wd zb h2
     cases ry; cases h
     obtain ⟨its2, _, pl, _⟩ := I.list s2
     exact (hlt _ _ _ _ pl.isList pt hu0).2
   | ls ds =>
    obtain ⟨a, vs, rfl, s1, l1⟩ := zGC wd za h1
    cases rx
    obtain ⟨its, r1, pl, _⟩ := I.list s1
    cases q with
    | fl y' => obtain ⟨rfl, fy⟩ := zGA zb h2; cases h; exact (hfl _ _ _ _ ry fy pl.isList hu0).2
    | tp es =>
     obtain ⟨b, us, rfl, s2, l2⟩ := zGB zb h2
     cases ry; cases h
     obtain ⟨its2, _, pt, _⟩ := I.tuple s2
     exact (hlt _ _ _ _ pl.isList pt hu0).1
    | ls es =>
     obtain ⟨b, us, rfl, s2, l2⟩ := zGC wd zb h2
     cases ry
     obtain ⟨its2, r2, pl2, _⟩ := I.list s2
     rw [zZK] at h
     by_cases hl : ds.length = es.length
     ·rw [if_pos hl] at h
      cases z : prs (eqv S n) ds es with
      | none => rw [z] at h; cases h
      | some bs =>
       rw [z] at h
       cases h
       have hs : its.toArray.size = its2.toArray.size := by simp [← r1.length, ← r2.length, l1.length, l2.length, hl]
       have := hll _ _ _ _ _ pl.isList pl2.isList hs hu0 (zKX he l1 l2 r1 r2 z)
       have hl' := zIL z
       rw [range_all (by rw [hl']; simp [← r1.length, l1.length, hl])] at this
       exact this
     ·rw [if_neg hl] at h
      cases h
      exact hln _ _ _ _ pl.isList pl2.isList (by simpa [← r1.length, ← r2.length, l1.length, l2.length] using hl) hu0
theorem yOF (I : Inv X pins σ H s) (wd : Wd X.g α S H) (n : Nat) {A : Around} {a b : Er} {x y : V} {u v : Value} {k : Bool} (hu : A.units + (n + 1) < cLine) (h1 : DenX X.K α H a x) (h2 : DenX X.K α H b y) (rx : RelV x u) (ry : RelV y v) (h : zRD S n a b = some k) : SeqAt.RcAt A s u v k :=
 yMI (RC := SeqAt.RcAt) (tr := id) (fun _ _ _ _ a b c d => yNX a b c d) (fun _ _ _ _ a b c d => ⟨rc_lr a b c d, rc_ll a b c d⟩) (fun _ _ _ _ a b c d => ⟨rc_tr a b c d, rc_tl a b c d⟩)
  (fun _ _ _ _ a b c => ⟨SeqAt.RcAt.list_tuple a b c, SeqAt.RcAt.tuple_list b a c⟩) (fun _ _ _ _ _ a b c d => SeqAt.RcAt.tuples a b c d) (fun _ _ _ _ _ a b c d e => SeqAt.RcAt.lists a b c d e) (fun _ _ _ _ a b c d => SeqAt.RcAt.lists_lengths a b c d)
  I wd n hu h1 h2 rx ry h
theorem yOG (I : Inv X pins σ H s) (wd : Wd X.g α S H) (n : Nat) {A : Around} {a b : Er} {x y : V} {u v : Value} {k : Bool} (hu : A.units + (n + 1) < cLine) (h1 : DenX X.K α H a x) (h2 : DenX X.K α H b y) (rx : RelV x u) (ry : RelV y v) (h : zRD S n a b = some k) : SeqAt.RcNeAt A s u v (!k) :=
 yMI (RC := SeqAt.RcNeAt) (tr := fun b => !b) (fun _ _ _ _ a b c d => yNY a b c d) (fun _ _ _ _ a b c d => ⟨rn_lr a b c d, rn_ll a b c d⟩) (fun _ _ _ _ a b c d => ⟨rn_tr a b c d, rn_tl a b c d⟩)
  (fun _ _ _ _ a b c => ⟨SeqAt.RcNeAt.list_tuple a b c, SeqAt.RcNeAt.tuple_list b a c⟩) (fun _ _ _ _ _ a b c d => SeqAt.RcNeAt.tuples a b c d) (fun _ _ _ _ _ a b c d e => SeqAt.RcNeAt.lists a b c d e) (fun _ _ _ _ a b c d => SeqAt.RcNeAt.lists_lengths a b c d)
  I wd n hu h1 h2 rx ry h
mutual
theorem Den.inj (I : Inv X pins σ H s) (wd : Wd X.g α S H) : ∀ {d f : MV} {v : V}, Den X.K α H d v → Den X.K α H f v → d = f
 | .non, f, v, h, h' => by cases zCL h; cases f <;> first | rfl | (have := zFX h'; cases this; done) | (have := kS h'; cases this; done) | (have := kT h'; cases this; done) | (have := zAF h'; cases this; done) | (obtain ⟨_, _, e, _⟩ := wG h'; cases e; done) | (obtain ⟨_, _, e, _⟩ := dP h'; cases e; done) | (obtain ⟨_, e, _⟩ := bM h'; cases e; done)
 | .bl b, f, v, h, h' => by cases zFX h; cases f <;> first | (have := zFX h'; cases this; rfl; done) | (have := zCL h'; cases this; done) | (have := kS h'; cases this; done) | (have := kT h'; cases this; done) | (have := zAF h'; cases this; done) | (obtain ⟨_, _, e, _⟩ := wG h'; cases e; done) | (obtain ⟨_, _, e, _⟩ := dP h'; cases e; done) | (obtain ⟨_, e, _⟩ := bM h'; cases e; done)
 | .int b, f, v, h, h' => by cases kS h; cases f <;> first | (have := kS h'; cases this; rfl; done) | (have := zCL h'; cases this; done) | (have := zFX h'; cases this; done) | (have := kT h'; cases this; done) | (have := zAF h'; cases this; done) | (obtain ⟨_, _, e, _⟩ := wG h'; cases e; done) | (obtain ⟨_, _, e, _⟩ := dP h'; cases e; done) | (obtain ⟨_, e, _⟩ := bM h'; cases e; done)
 | .str b, f, v, h, h' => by cases kT h; cases f <;> first | (have := kT h'; rw [zNX (V.str.inj this)]; done) | (have := zCL h'; cases this; done) | (have := zFX h'; cases this; done) | (have := kS h'; cases this; done) | (have := zAF h'; cases this; done) | (obtain ⟨_, _, e, _⟩ := wG h'; cases e; done) | (obtain ⟨_, _, e, _⟩ := dP h'; cases e; done) | (obtain ⟨_, e, _⟩ := bM h'; cases e; done)
 | .typ b, f, v, h, h' => by cases zAF h; cases f <;> first | (have := zAF h'; cases this; rfl; done) | (have := zCL h'; cases this; done) | (have := zFX h'; cases this; done) | (have := kS h'; cases this; done) | (have := kT h'; cases this; done) | (obtain ⟨_, _, e, _⟩ := wG h'; cases e; done) | (obtain ⟨_, _, e, _⟩ := dP h'; cases e; done) | (obtain ⟨_, e, _⟩ := bM h'; cases e; done)
 | .tup ds, f, v, h, h' => by
  obtain ⟨a, vs, rfl, s1, l1⟩ := wG h
  cases f with
  | tup es =>
   obtain ⟨a2, us, e2, s2, l2⟩ := wG h'
   cases e2
   cases I.tuple_inj s1 s2
   rw [DenL.inj I wd l1 l2]
  | scr es => obtain ⟨a2, us, e2, s2, l2⟩ := dP h'; cases e2; exact (zKW I s2.l s1).elim
  | loc l =>
   obtain ⟨a2, e2, h2⟩ := bM h'
   cases e2
   obtain ⟨ho, k1, k2, k3⟩ := wd.mem (List.mem_of_getElem? h2)
   rcases s1 with (s1 | ⟨o, s1⟩) | ⟨o, its, n, s1, _⟩
   ·rw [k1] at s1; exact absurd (Option.some.inj s1) (k2 _)
   ·rw [k1] at s1; exact absurd (Option.some.inj s1) (k3 _ _)
   ·have := (I.bs a o (I.mod.kin a o s1)).2; rw [k1] at this; cases this
  | non => cases zCL h'
  | bl b => cases zFX h'
  | int b => cases kS h'
  | str b => cases kT h'
  | typ b => cases zAF h'
 | .scr ds, f, v, h, h' => by
  obtain ⟨a, vs, rfl, s1, l1⟩ := dP h
  cases f with
  | scr es =>
   obtain ⟨a2, us, e2, s2, l2⟩ := dP h'
   cases e2
   cases I.list_inj s1.l s2.l
   rw [DenL.inj I wd l1 l2]
  | tup es => obtain ⟨a2, us, e2, s2, l2⟩ := wG h'; cases e2; exact (zKW I s1.l s2).elim
  | loc l =>
   obtain ⟨a2, e2, h2⟩ := bM h'
   cases e2
   obtain ⟨ho, k1, k2, k3⟩ := wd.mem (List.mem_of_getElem? h2)
   rcases s1 with ⟨o, s1⟩ | ⟨o, its, n, s1, _⟩
   ·rw [k1] at s1; exact absurd (Option.some.inj s1) (k3 _ _)
   ·have := (I.bs a o (I.mod.kin a o s1)).2; rw [k1] at this; cases this
  | non => cases zCL h'
  | bl b => cases zFX h'
  | int b => cases kS h'
  | str b => cases kT h'
  | typ b => cases zAF h'
 | .loc l, f, v, h, h' => by
  obtain ⟨a, rfl, h1⟩ := bM h
  obtain ⟨ho, k1, k2, k3⟩ := wd.mem (List.mem_of_getElem? h1)
  cases f with
  | loc m =>
   obtain ⟨a2, e2, h2⟩ := bM h'
   cases e2
   by_cases hlm : l = m
   ·rw [hlm]
   ·exact absurd rfl (wd.ne h1 h2 hlm)
  | tup es =>
   obtain ⟨a2, us, e2, s1, l2⟩ := wG h'
   cases e2
   rcases s1 with (s1 | ⟨o, s1⟩) | ⟨o, its, n, s1, _⟩
   ·rw [k1] at s1; exact absurd (Option.some.inj s1) (k2 _)
   ·rw [k1] at s1; exact absurd (Option.some.inj s1) (k3 _ _)
   ·have := (I.bs a o (I.mod.kin a o s1)).2; rw [k1] at this; cases this
  | scr es =>
   obtain ⟨a2, us, e2, s1, l2⟩ := dP h'
   cases e2
   rcases s1 with ⟨o, s1⟩ | ⟨o, its, n, s1, _⟩
   ·rw [k1] at s1; exact absurd (Option.some.inj s1) (k3 _ _)
   ·have := (I.bs a o (I.mod.kin a o s1)).2; rw [k1] at this; cases this
  | non => cases zCL h'
  | bl b => cases zFX h'
  | int b => cases kS h'
  | str b => cases kT h'
  | typ b => cases zAF h'
theorem DenL.inj (I : Inv X pins σ H s) (wd : Wd X.g α S H) : ∀ {ds fs : List MV} {vs : List V}, DenL X.K α H ds vs → DenL X.K α H fs vs → ds = fs
 | [], fs, vs, h, h' => by
  cases h.isnil
  cases fs with
  | nil => rfl
  | cons f fs => obtain ⟨_, _, e, _⟩ := h'.uncons; cases e
 | d :: ds, fs, vs, h, h' => by
  obtain ⟨v, r, rfl, a, l⟩ := h.uncons
  cases fs with
  | nil => cases h'.isnil
  | cons f fs =>
   obtain ⟨v', r', e, a', l'⟩ := h'.uncons
   cases e
   rw [Den.inj I wd a a', DenL.inj I wd l l']
end
end
end M
end L2
namespace L2
namespace M
open PySem PySem.Spec PyProof.Rows
inductive LexR (A : Around) (s : Shared) : List Value → List Value → Bool → Prop
 | nn : LexR A s [] [] false
 | nc (x xs) : LexR A s [] (x :: xs) true
 | cn (y ys) : LexR A s (y :: ys) [] false
 | eq {y x ys xs k} : SeqAt.EqAt A s y x true → LexR A s ys xs k → LexR A s (y :: ys) (x :: xs) k
 | ne {y x ys xs k} : SeqAt.EqAt A s y x false → (∀ (prog : Program) (w : World) (E Q : Value → Shared → Prop), Q (.bool k) s → wpAny (model prog w) A (richCompare .Lt y x) Q E s) → LexR A s (y :: ys) (x :: xs) k
section
open PySem.SeqAt
open PySem.AutoSeq1 (wpAny_loadPart')
open PySem.MeetsSeq PySem.MeetsSeq2 PySem.MeetsSeq3
theorem zZL (l b : Addr) (its its2 : Array Value) (n n2 : Nat) (dd dd2 : Option Addr) (sl sl2 : Array (Option Value)) (k : Bool) :
  Meets (Builtin.«tuple.__lt__» ⟨[.ref l, .ref b], []⟩)
   (fun A R s => s.heap.get? l = some { cls := .type "tuple", dict := dd, data := .seq its n, slots := sl } ∧ s.heap.get? b = some { cls := .type "tuple", dict := dd2, data := .seq its2 n2, slots := sl2 } ∧
    LexR A.in1 s its.toList its2.toList k ∧ R (.ok (.ret (.bool k))) s) :=
 .of_wp fun prog w A R s h => by
  obtain ⟨hp, g, d, tk, os⟩ := s; obtain ⟨hl, hb, hx, h⟩ := h
  have f2 := AutoSeq1.sub_tuple_tuple
  wp_walk using wpAny_loadPart' hl, wpAny_loadPart' hb, wpAny_forIn_list _ (fun rest b s' => b.1 = none ∧ s' = ⟨hp, g, d, tk, os⟩ ∧ ∃ (vs ws : List Value), rest = vs.zip ws ∧
   LexR A.in1 ⟨hp, g, d, tk, os⟩ vs ws k ∧ vs.length + its2.size = ws.length + its.size) _
  case turn =>
   rintro ⟨y, x⟩ rest b s' ⟨hb', rfl, vs, ws, hz, hlx, hlen⟩
   cases hlx with
   | nn => rw [List.zip_nil_left] at hz; cases hz
   | nc x xs => rw [List.zip_nil_left] at hz; cases hz
   | cn y ys => rw [List.zip_nil_right] at hz; cases hz
   | @eq y' x' ys xs k' he hr =>
    rw [List.zip_cons_cons] at hz
    injection hz with hyx hrest
    injection hyx with hy hx
    subst hy hx
    simp only [List.length_cons] at hlen
    refine wpAny_bind (he prog w _ _ ?_)
    wp_walk
    exact ⟨rfl, rfl, _, _, hrest, hr, by omega⟩
   | @ne y' x' ys xs k' he hr =>
    rw [List.zip_cons_cons] at hz
    injection hz with hyx hrest
    injection hyx with hy hx
    subst hy hx
    refine wpAny_bind (he prog w _ _ ?_)
    have hri := hr prog w
    wp_walk using hri
    exact ⟨_, rfl, by simpa using h⟩
  case fin =>
   rintro ⟨b1, b2⟩ s' ⟨hb', rfl, vs, ws, hz, hlx, hlen⟩
   simp only at hb'
   subst hb'
   have hv : k = decide (its.size < its2.size) := by
    cases hlx with
    | nn => simp only [List.length_nil] at hlen; exact (decide_eq_false (by omega)).symm
    | nc x xs => simp only [List.length_nil, List.length_cons] at hlen; exact (decide_eq_true (by omega)).symm
    | cn y ys => simp only [List.length_nil, List.length_cons] at hlen; exact (decide_eq_false (by omega)).symm
    | eq he hr => rw [List.zip_cons_cons] at hz; cases hz
    | ne he hr => rw [List.zip_cons_cons] at hz; cases hz
   rw [hv] at h
   wp_walk
   exact ⟨_, rfl, by simpa [Builtin.Tuple.tupleCompareSizes] using h⟩
  case h =>
   exact ⟨rfl, rfl, its.toList, its2.toList, rfl, hx, by simp; omega⟩
end
theorem yGT {A : Around} {s : Shared} {l b : Addr} {its its2 : Array Value} {k : Bool} (hl : IsTup s.heap l its) (hb : IsTup s.heap b its2) (hx : LexR A.in1 s its.toList its2.toList k) (hu : A.units < cLine) (prog : Program) (w : World) (E Q : Value → Shared → Prop) (h : Q (.bool k) s) :
  wpAny (model prog w) A (richCompare .Lt (.ref l) (.ref b)) Q E s := by
 obtain ⟨⟨cls, dd, data, sl⟩, ho, hc, n, hd⟩ := id hl
 obtain ⟨⟨cls2, dd2, data2, sl2⟩, ho2, hc2, n2, hd2⟩ := id hb
 simp only at hc hd hc2 hd2
 subst hc hd hc2 hd2
 exact richCompare_meets_room (op := .Lt) ⟨_, ho, rfl⟩ ⟨_, ho2, rfl⟩ PySem.F.slot_tuple_lt PySem.F.entry_tuple_lt (PySem.F.args_tuple_lt_2 _ _) (zZL l b its its2 n n2 dd dd2 sl sl2 k)
  ⟨ho, ho2, hx, show Value.bool k ≠ Value.notImplemented ∧ Q (.bool k) s from ⟨(fun x => nomatch x), h⟩⟩ hu
def yGU (e l : MV → MV → Option Bool) : List MV → List MV → Option Bool
 | [], [] => some false
 | [], _ :: _ => some true
 | _ :: _, [] => some false
 | d :: ds, f :: fs => (e d f).bind fun k => if k = true then yGU e l ds fs else l d f
def ltv (S : Sto) : Nat → MV → MV → Option Bool
 | 0, _, _ => none
 | n + 1, .int i, .int j => some (decide (i < j))
 | n + 1, .str x, .str y => some (decide (x < y))
 | n + 1, .tup ds, .tup es => yGU (eqv S n) (ltv S n) ds es
 | _, _, _ => none
section
variable {X : Cx} {α : List Addr} {S : Sto} {H : Hp} {pins : List (Addr × Obj)} {σ : St} {s : Shared}
theorem yMJ {A : Around} {e l : MV → MV → Option Bool} (he : ∀ d f x y u v k, Den X.K α H d x → Den X.K α H f y → RelV x u → RelV y v → e d f = some k → SeqAt.EqAt A s u v k)
  (hl : ∀ d f x y u v k, Den X.K α H d x → Den X.K α H f y → RelV x u → RelV y v → l d f = some k → ∀ (prog : Program) (w : World) (E Q : Value → Shared → Prop), Q (.bool k) s → wpAny (model prog w) A (richCompare .Lt u v) Q E s) :
  ∀ {ds fs : List MV} {vs us : List V} {its its2 : List Value} {k : Bool}, DenL X.K α H ds vs → DenL X.K α H fs us → Vals vs its → Vals us its2 → yGU e l ds fs = some k → LexR A s its its2 k
 | [], [], _, _, _, _, k, l1, l2, r1, r2, h => by
  cases l1.isnil; cases l2.isnil; cases r1; cases r2; cases h; exact .nn
 | [], f :: fs, _, _, _, _, k, l1, l2, r1, r2, h => by
  cases l1.isnil
  obtain ⟨v, r, rfl, a, l⟩ := l2.uncons
  cases r1
  cases r2 with
  | cons a b => cases h; exact .nc _ _
 | d :: ds, [], _, _, _, _, k, l1, l2, r1, r2, h => by
  cases l2.isnil
  obtain ⟨v, r, rfl, a, l⟩ := l1.uncons
  cases r2
  cases r1 with
  | cons a b => cases h; exact .cn _ _
 | d :: ds, f :: fs, _, _, _, _, k, l1, l2, r1, r2, h => by
  obtain ⟨v, r, rfl, a, l1'⟩ := l1.uncons
  obtain ⟨v2, r3, rfl, a2, l2'⟩ := l2.uncons
  cases r1 with
  | cons b1 c1 =>
   cases r2 with
   | cons b2 c2 =>
    unfold yGU at h
    cases z : e d f with
    | none => rw [z] at h; cases h
    | some kk =>
     rw [z] at h
     have h : (if kk = true then yGU e l ds fs else l d f) = some k := h
     cases kk with
     | true =>
      rw [if_pos rfl] at h
      exact .eq (he d f _ _ _ _ _ a a2 b1 b2 z) (yMJ he hl l1' l2' c1 c2 h)
     | false =>
      rw [if_neg zQ3] at h
      exact .ne (he d f _ _ _ _ _ a a2 b1 b2 z) (hl d f _ _ _ _ _ a a2 b1 b2 h)
theorem yGV (I : Inv X pins σ H s) (wd : Wd X.g α S H) : ∀ (n : Nat) (A : Around) (d f : MV) (x y : V) (u v : Value) (k : Bool), A.units + n < cLine → Den X.K α H d x → Den X.K α H f y → RelV x u → RelV y v → ltv S n d f = some k →
  ∀ (prog : Program) (w : World) (E Q : Value → Shared → Prop), Q (.bool k) s → wpAny (model prog w) A (richCompare .Lt u v) Q E s
 | 0, _, _, _, _, _, _, _, _, _, _, _, _, _, h => by cases h
 | n + 1, A, d, f, x, y, u, v, k, hu, h1, h2, rx, ry, h => by
  intro prog w E Q hq
  unfold ltv at h
  split at h
  ·cases h
  ·cases h
   cases kS h1; cases kS h2
   obtain ⟨t, rfl⟩ := rx
   obtain ⟨t', rfl⟩ := ry
   exact (PyProof.Rows.lt_int hq : wpAny (model prog w) A (compareOp .Lt _ _) Q E s)
  ·cases h
   cases kT h1; cases kT h2
   obtain ⟨t, rfl⟩ := rx
   obtain ⟨t', rfl⟩ := ry
   refine (PySem.P.lt_str ?_ : wpAny (model prog w) A (compareOp .Lt _ _) Q E s)
   rw [zEB, zEB]
   exact hq
  ·rename_i n' ds es hn
   obtain ⟨a, vs, rfl, s1, l1⟩ := wG h1
   obtain ⟨b, us, rfl, s2, l2⟩ := wG h2
   cases rx; cases ry
   obtain ⟨its, r1, pt, _⟩ := I.tuple s1
   obtain ⟨its2, r2, pt2, _⟩ := I.tuple s2
   cases hn
   refine yGT pt pt2 ?_ (by omega) prog w E Q hq
   exact yMJ (fun d f x y u v k a b c d' e => zPA I wd n A.in1 d f x y u v k (show A.units + 1 + n < cLine by omega) a b c d' e)
    (fun d f x y u v k a b c d' e => yGV I wd n A.in1 d f x y u v k (show A.units + 1 + n < cLine by omega) a b c d' e) l1 l2 r1 r2 h
  ·cases h
end
end M
end L2
namespace L2
namespace M
open PySem PySem.Spec PyProof.Rows
section
variable {X : Cx} {W : XW} {a b c e : Expr} {es : List Expr} {f g h : Rho → Sto → R Er} {af : Rho → Sto → R (List Er)} {pos : Pos}
def iiF (C : Int → Int → Prop) [∀ i j, Decidable (C i j)] (g : Int → Int → Int) : Er → Er → Sto → R Er
 | .val (.int i), .val (.int j), S => if C i j then .ok (.val (.int (g i j))) S else .no
 | _, _, _ => .no
def ibF (g : Int → Int → Bool) : Er → Er → Sto → R Er
 | .val (.int i), .val (.int j), S => .ok (.val (.bl (g i j))) S
 | _, _, _ => .no
theorem zZM {C C' : Int → Int → Prop} [∀ i j, Decidable (C i j)] {g : Int → Int → Int} (h : ∀ i j, C i j → C' i j) : Op2 X W (rI C' fun i j => .int (g i j)) (iiF C g) := by
 intro p q x y α S H Q wd dp dq post
 unfold iiF at post
 split at post
 ·split at post
  ·rename_i hc
   exact ⟨_, _, wA dp, wA dq, h _ _ hc, Post.val post wd (wP _)⟩
  ·exact post.elim
 ·exact post.elim
theorem yKE {g : Int → Int → Int} : Op2 X W (rI0 fun i j => .int (g i j)) (iiF (fun _ _ => True) g) := by
 intro p q x y α S H Q wd dp dq post
 unfold iiF at post
 split at post
 ·rw [if_pos trivial] at post
  exact ⟨_, _, wA dp, wA dq, Post.val post wd (wP _)⟩
 ·exact post.elim
theorem yOH {g : Int → Int → Bool} : Op2 X W (rI0 fun i j => .bl (g i j)) (ibF g) := by
 intro p q x y α S H Q wd dp dq post
 unfold ibF at post
 split at post
 ·exact ⟨_, _, wA dp, wA dq, Post.val post wd (wS _)⟩
 ·exact post.elim
abbrev yGW := iiF (fun _ _ => True) fun i j => i - j
theorem zZN (ha : PEm X W a f) (hb : PEm X W b g) : PEm X W (.BinOp a .Sub b pos) (fun ρ S => (f ρ S).bind fun p S1 => (g ρ S1).bind fun q S2 => yGW p q S2) := zSL yNJ yKE ha hb
def zZO (_ j : Int) : Prop := 0 < j ∧ j.natAbs.log2 < 9000
instance (i j : Int) : Decidable (zZO i j) := inferInstanceAs (Decidable (_ ∧ _))
abbrev zCM := iiF zZO fun i j => i / j
theorem yGX : OpR X (binaryOp .FloorDiv) (rI zZO fun i j => .int (i / j)) := opI fun i j _ _ _ _ _ hc q => by
 have e : i.fdiv j = i / j := Int.fdiv_eq_ediv_of_nonneg i (Int.le_of_lt hc.1)
 refine floordiv_int (by have := hc.1; omega) ?_ (.inl (PyProof.noPylong_of_log2 hc.2))
 rw [e]
 exact q
theorem kX (ha : PEm X W a f) (hb : PEm X W b g) : PEm X W (.BinOp a .FloorDiv b pos) (fun ρ S => (f ρ S).bind fun p S1 => (g ρ S1).bind fun q S2 => zCM p q S2) := zSL yGX (zZM fun i j h => h) ha hb
abbrev gP := iiF (fun _ j => 0 < j) fun i j => i % j
theorem xG (ha : PEm X W a f) (hb : PEm X W b g) : PEm X W (.BinOp a .Mod b pos) (fun ρ S => (f ρ S).bind fun p S1 => (g ρ S1).bind fun q S2 => gP p q S2) := zSL yNK (zZM fun i j h => h) ha hb
def yDY (i j : Int) : Prop := 0 ≤ j ∧ (Builtin.Int.intBits i : Int) * j ≤ 2 ^ 27
instance (i j : Int) : Decidable (yDY i j) := inferInstanceAs (Decidable (_ ∧ _))
abbrev zJP := iiF yDY fun i j => i ^ j.toNat
theorem yKF : OpR X (binaryOp .Pow) (rI yDY fun i j => .int (i ^ j.toNat)) := opI fun _ _ _ _ _ _ _ hc q => pow_int hc.1 hc.2 q
theorem zGV (ha : PEm X W a f) (hb : PEm X W b g) : PEm X W (.BinOp a .Pow b pos) (fun ρ S => (f ρ S).bind fun p S1 => (g ρ S1).bind fun q S2 => zJP p q S2) := zSL yKF (zZM fun i j h => h) ha hb
def shlC (i j : Int) : Prop := 0 ≤ j ∧ j ≤ 1000000 ∧ i.natAbs < 2 ^ 64
instance (i j : Int) : Decidable (shlC i j) := inferInstanceAs (Decidable (_ ∧ _ ∧ _))
def usubF : Er → Sto → R Er
 | .val (.int i), S => .ok (.val (.int (-i))) S
 | _, _ => .no
def lsW (S : Sto) : Er → Option (List MV)
 | .new ds => some ds
 | .val (.loc l) => match S[l]? with
  | some (.lst ds) => some ds
  | _ => none
 | _ => none
theorem zZP {α : List Addr} {S : Sto} {H : Hp} (wd : Wd X.g α S H) {r : Er} {ds : List MV} {x : V} (e : lsW S r = some ds) (d : DenX X.K α H r x) : ∃ a vs, x = .ref a ∧ H a = some (.lst vs) ∧ DenL X.K α H ds vs := by
 unfold lsW at e
 split at e
 ·cases e
  obtain ⟨b, vs, rfl, h, _, l⟩ := d
  exact ⟨b, vs, rfl, h, l⟩
 ·rename_i n
  obtain ⟨a, rfl, h⟩ := zGQ d
  split at e
  ·rename_i es hS
   cases e
   obtain ⟨vs, h1, l⟩ := wd.obj n a _ h hS
   exact ⟨a, vs, rfl, h1, l⟩
  ·cases e
 ·cases e
def yMK (p q : Er) (S : Sto) : R Er := match lsW S p, lsW S q with
 | some x, some y => if x.length + y.length ≤ sizeLine then .ok (.new (x ++ y)) S else .no
 | _, _ => .no
def bP : Er → Er → Sto → R Er
 | .val (.int i), .val (.int j), S => .ok (.val (.int (i + j))) S
 | .val (.str x), .val (.str y), S => if x.length + y.length ≤ sizeLine then .ok (.val (.str (x ++ y))) S else .no
 | .val (.tup x), .val (.tup y), S => if x.length + y.length ≤ sizeLine then .ok (.val (.tup (x ++ y))) S else .no
 | p, q, S => yMK p q S
theorem yGY : OpR X (binaryOp .Add) (fun x y H Q => ∃ a b ys, x = .ref a ∧ y = .ref b ∧ SqT X.K H a [] ∧ SqT X.K H b ys ∧ Q (.ref b) H) := by
 intro pins s σ H x y v u Q I rx ry h
 obtain ⟨a, b, ys, rfl, rfl, ha, hb, q⟩ := h
 cases rx
 cases ry
 obtain ⟨its, r1, p1, _⟩ := I.tuple ha
 obtain ⟨its2, r2, p2, _⟩ := I.tuple hb
 have e0 : its = [] := r1.nil_iff.mpr rfl
 subst e0
 obtain ⟨⟨cls, dd, data, sl⟩, ho, hc, n, hd⟩ := id p1
 obtain ⟨⟨cls2, dd2, data2, sl2⟩, ho2, hc2, n2, hd2⟩ := id p2
 simp only at hc hd hc2 hd2
 subst hc hd hc2 hd2
 exact concat_meets ⟨_, ho, rfl⟩ ⟨_, ho2, rfl⟩ noFill_tuple_add seq_tuple_add PySem.F.slot_tuple_add PySem.F.entry_tuple_add (PySem.F.args_tuple_add_2 _ _)
  (tuple_addW0 a b _ _ n n2 dd dd2 sl sl2 rfl) ⟨ho, ho2, ⟨.ref b, H, I, rfl, q⟩⟩
theorem wD (ha : PEm X W a f) (hb : PEm X W b g) : PEm X W (.BinOp a .Add b pos) (fun ρ S => (f ρ S).bind fun p S1 => (g ρ S1).bind fun q S2 => bP p q S2) := by
 refine zSL (yNI.or (zZB.or (yNT.or (yJP.or yGY)))) ?_ ha hb
 intro p q x y α S H Q wd dp dq post
 unfold bP at post
 split at post
 ·exact .inl ⟨_, _, wA dp, wA dq, Post.val post wd (wP _)⟩
 ·split at post
  ·rename_i hz
   refine .inr (.inl ⟨_, _, kU dp, kU dq, by rw [jZ, jZ]; exact hz, ?_⟩)
   rw [yJV]
   exact Post.val post wd (zBW _)
  ·exact post.elim
 ·split at post
  ·rename_i xx yy hz
   obtain ⟨a1, vs, rfl, s1, l1⟩ := dQ dp
   obtain ⟨a2, us, rfl, s2, l2⟩ := dQ dq
   by_cases h0 : vs = []
   ·subst h0
    have e0 := l1.length
    refine .inr (.inr (.inr (.inr ⟨a1, a2, us, rfl, rfl, s1, s2, ?_⟩)))
    have : xx = [] := by cases xx with | nil => rfl | cons _ _ => simp at e0
    subst this
    exact Post.val post wd (nR s2 l2)
   ·refine .inr (.inr (.inr (.inl ⟨a1, a2, vs, us, rfl, rfl, s1, s2, h0, by rw [l1.length, l2.length]; exact hz, fun h1 => ?_, fun h1 p hp => Post.newt post wd hp (l1.append l2)⟩)))
    subst h1
    have e0 := l2.length
    have : yy = [] := by cases yy with | nil => rfl | cons _ _ => simp at e0
    subst this
    rw [List.append_nil] at post
    exact Post.val post wd (nR s1 l1)
  ·exact post.elim
 ·unfold yMK at post
  split at post
  ·rename_i ds1 ds2 e1 e2
   split at post
   ·rename_i hz
    obtain ⟨a1, vs, rfl, h1, l1⟩ := zZP wd e1 dp
    obtain ⟨a2, us, rfl, h2, l2⟩ := zZP wd e2 dq
    exact .inr (.inr (.inl ⟨a1, a2, vs, us, rfl, rfl, h1, h2, by rw [l1.length, l2.length]; exact hz, fun p hp => Post.newl post wd hp (l1.append l2)⟩))
   ·exact post.elim
  ·exact post.elim
def mulC (i j : Int) : Prop := (-(2 ^ 64) < i ∧ i < 2 ^ 64) ∨ (-(2 ^ 64) < j ∧ j < 2 ^ 64) ∨ (i.natAbs.log2 < 4000 ∧ j.natAbs.log2 < 4000)
theorem yCA {i : Int} (h : i.natAbs.log2 < 4000) : Builtin.Int.intBits i ≤ 2 ^ 20 := by
 have e : (2 : Nat) ^ 20 = 1048576 := by decide
 unfold Builtin.Int.intBits
 split <;> omega
theorem mulC.ok {i j : Int} (h : mulC i j) : IntMulOk i j := by
 rcases h with h | h | ⟨h1, h2⟩
 ·exact CMul.ok (.inl h)
 ·exact CMul.ok (.inr h)
 ·exact .of_bits (yCA h1) (yCA h2)
theorem yKG {X : Cx} : OpR X (binaryOp .Mult) (rI mulC fun i j => .int (i * j)) := opI fun _ _ _ _ _ _ _ hc q => mul_int q hc.ok
instance (i j : Int) : Decidable (mulC i j) := inferInstanceAs (Decidable (_ ∨ _ ∨ _))
def yML (p : Er) (k : Int) (S : Sto) : R Er := match lsW S p with
 | some x => if 0 ≤ k ∧ k < 100000 ∧ x.length * k.toNat ≤ sizeLine then .ok (.new (List.replicate k.toNat x).flatten) S else .no
 | none => .no
def zRE : Er → Er → Sto → R Er
 | .val (.int i), .val (.int j), S => if mulC i j then .ok (.val (.int (i * j))) S else .no
 | .val (.str x), .val (.int k), S => if 0 ≤ k ∧ k < 1000 ∧ x.length ≤ 1000 then .ok (.val (.str (zOP x k))) S else .no
 | p, .val (.int k), S => yML p k S
 | _, _, _ => .no
theorem DenL.rep {K : PySem.W.Frag} {α : List Addr} {H : Hp} {ds : List MV} {vs : List V} (l : DenL K α H ds vs) : ∀ k : Nat, DenL K α H (List.replicate k ds).flatten (List.replicate k vs).flatten
 | 0 => xK
 | k + 1 => by rw [List.replicate_succ, List.flatten_cons, List.replicate_succ, List.flatten_cons]; exact l.append (DenL.rep l k)
theorem zPB (ha : PEm X W a f) (hb : PEm X W b g) : PEm X W (.BinOp a .Mult b pos) (fun ρ S => (f ρ S).bind fun p S1 => (g ρ S1).bind fun q S2 => zRE p q S2) := by
 refine zSL (yKG.or (zZH.or yNU)) ?_ ha hb
 intro p q x y α S H Q wd dp dq post
 unfold zRE at post
 split at post
 ·split at post
  ·rename_i hc
   exact .inl ⟨_, _, wA dp, wA dq, hc, Post.val post wd (wP _)⟩
  ·exact post.elim
 ·split at post
  ·rename_i hc
   exact .inr (.inl ⟨_, _, kU dp, wA dq, hc.1, hc.2.1, hc.2.2, Post.val post wd (zBW _)⟩)
  ·exact post.elim
 ·unfold yML at post
  split at post
  ·rename_i ds e1
   split at post
   ·rename_i hc
    obtain ⟨a1, vs, rfl, h1, l1⟩ := zZP wd e1 dp
    exact .inr (.inr ⟨a1, _, vs, rfl, wA dq, h1, by omega, by omega, by rw [l1.length]; exact hc.2.2, fun p hp => Post.newl post wd hp (l1.rep _)⟩)
   ·exact post.elim
  ·exact post.elim
 ·exact post.elim
def zR : Nat := 40
def eqF (p q : Er) (S : Sto) : R Er := match zRD S zR p q with
 | some k => .ok (.val (.bl k)) S
 | none => .no
def neF (p q : Er) (S : Sto) : R Er := match zRD S zR p q with
 | some k => .ok (.val (.bl !k)) S
 | none => .no
theorem yGZ (hu : X.A.units + 64 < cLine) : OpR X (compareOp .Eq) (fun x y H Q => ∃ α S p q k, Wd X.g α S H ∧ DenX X.K α H p x ∧ DenX X.K α H q y ∧ zRD S zR p q = some k ∧ Q (.bl k) H) := by
 intro pins s σ H x y v u Q I rx ry h
 obtain ⟨α, S, p, q, k, wd, dp, dq, e, hq⟩ := h
 exact yOF I wd zR (by unfold zR; omega) dp dq rx ry e X.prog X.w _ _ ⟨.bl k, H, I, rfl, hq⟩
theorem yOI (hu : X.A.units + 64 < cLine) : OpR X (compareOp .NotEq) (fun x y H Q => ∃ α S p q k, Wd X.g α S H ∧ DenX X.K α H p x ∧ DenX X.K α H q y ∧ zRD S zR p q = some k ∧ Q (.bl (!k)) H) := by
 intro pins s σ H x y v u Q I rx ry h
 obtain ⟨α, S, p, q, k, wd, dp, dq, e, hq⟩ := h
 exact yOG I wd zR (by unfold zR; omega) dp dq rx ry e X.prog X.w _ _ ⟨.bl (!k), H, I, rfl, hq⟩
theorem yCB : Op2 X W (fun x y H Q => ∃ α S p q k, Wd X.g α S H ∧ DenX X.K α H p x ∧ DenX X.K α H q y ∧ zRD S zR p q = some k ∧ Q (.bl k) H) eqF := by
 intro p q x y α S H Q wd dp dq post
 unfold eqF at post
 split at post
 ·rename_i k e
  exact ⟨α, S, p, q, k, wd, dp, dq, e, Post.val post wd (wS _)⟩
 ·exact post.elim
theorem yKH : Op2 X W (fun x y H Q => ∃ α S p q k, Wd X.g α S H ∧ DenX X.K α H p x ∧ DenX X.K α H q y ∧ zRD S zR p q = some k ∧ Q (.bl (!k)) H) neF := by
 intro p q x y α S H Q wd dp dq post
 unfold neF at post
 split at post
 ·rename_i k e
  exact ⟨α, S, p, q, k, wd, dp, dq, e, Post.val post wd (wS _)⟩
 ·exact post.elim
theorem zPC (hu : X.A.units + 64 < cLine) (ha : PEm X W a f) (hb : PEm X W b g) : PEm X W (.Compare a [.Eq] [b] pos) (fun ρ S => (f ρ S).bind fun p S1 => (g ρ S1).bind fun q S2 => eqF p q S2) := zOV (yGZ hu) yCB ha hb
theorem zSM (hu : X.A.units + 64 < cLine) (ha : PEm X W a f) (hb : PEm X W b g) : PTm X W (.Compare a [.Eq] [b] pos) (fun ρ S => ((f ρ S).bind fun p S1 => (g ρ S1).bind fun q S2 => eqF p q S2).bind asB) := zGR (yGZ hu) yCB ha hb
theorem zSN (hu : X.A.units + 64 < cLine) (ha : PEm X W a f) (hb : PEm X W b g) : PTm X W (.Compare a [.NotEq] [b] pos) (fun ρ S => ((f ρ S).bind fun p S1 => (g ρ S1).bind fun q S2 => neF p q S2).bind asB) := zGR (yOI hu) yKH ha hb
def ltF : Er → Er → Sto → R Er
 | .val d, .val f, S => match ltv S zR d f with
  | some k => .ok (.val (.bl k)) S
  | none => .no
 | _, _, _ => .no
theorem zZQ (hu : X.A.units + 64 < cLine) : OpR X (compareOp .Lt) (fun x y H Q => ∃ α S d f k, Wd X.g α S H ∧ Den X.K α H d x ∧ Den X.K α H f y ∧ ltv S zR d f = some k ∧ Q (.bl k) H) := by
 intro pins s σ H x y v u Q I rx ry h
 obtain ⟨α, S, d, f, k, wd, dp, dq, e, hq⟩ := h
 exact yGV I wd zR X.A d f x y v u k (by unfold zR; omega) dp dq rx ry e X.prog X.w _ _ ⟨.bl k, H, I, rfl, hq⟩
theorem zTY : Op2 X W (fun x y H Q => ∃ α S d f k, Wd X.g α S H ∧ Den X.K α H d x ∧ Den X.K α H f y ∧ ltv S zR d f = some k ∧ Q (.bl k) H) ltF := by
 intro p q x y α S H Q wd dp dq post
 unfold ltF at post
 split at post
 ·split at post
  ·rename_i k e
   exact ⟨α, S, _, _, k, wd, dp, dq, e, Post.val post wd (wS _)⟩
  ·exact post.elim
 ·exact post.elim
theorem pm_lt (hu : X.A.units + 64 < cLine) (ha : PEm X W a f) (hb : PEm X W b g) : PEm X W (.Compare a [.Lt] [b] pos) (fun ρ S => (f ρ S).bind fun p S1 => (g ρ S1).bind fun q S2 => ltF p q S2) := zOV (zZQ hu) zTY ha hb
theorem tm_lt (hu : X.A.units + 64 < cLine) (ha : PEm X W a f) (hb : PEm X W b g) : PTm X W (.Compare a [.Lt] [b] pos) (fun ρ S => ((f ρ S).bind fun p S1 => (g ρ S1).bind fun q S2 => ltF p q S2).bind asB) := zGR (zZQ hu) zTY ha hb
abbrev gtF := ibF fun i j => decide (j < i)
theorem yHA (ha : PEm X W a f) (hb : PEm X W b g) : PTm X W (.Compare a [.Gt] [b] pos) (fun ρ S => ((f ρ S).bind fun p S1 => (g ρ S1).bind fun q S2 => gtF p q S2).bind asB) := zGR op_gt yOH ha hb
def leF : Er → Er → Sto → R Er
 | .val (.int i), .val (.int j), S => .ok (.val (.bl (decide (i ≤ j)))) S
 | .val (.str x), .val (.str y), S => .ok (.val (.bl (!decide (y < x)))) S
 | _, _, _ => .no
theorem zPD : Op2 X W (fun x y H Q => rI0 (fun i j => .bl (decide (i ≤ j))) x y H Q ∨ (∃ i j, x = .str i ∧ y = .str j ∧ Q (.bl (!decide (j.cps.toList < i.cps.toList))) H)) leF := by
 intro p q x y α S H Q wd dp dq post
 unfold leF at post
 split at post
 ·exact .inl ⟨_, _, wA dp, wA dq, Post.val post wd (wS _)⟩
 ·refine .inr ⟨_, _, kU dp, kU dq, ?_⟩
  rw [zEB, zEB]
  exact Post.val post wd (wS _)
 ·exact post.elim
theorem zTZ (ha : PEm X W a f) (hb : PEm X W b g) (hc : PEm X W c h) (hm : lastMarks [.LtE, .LtE] [b, c] = false := by with_unfolding_all rfl) : PEm X W (.Compare a [.LtE, .LtE] [b, c] pos) (fun ρ S => (f ρ S).bind fun p S1 => (g ρ S1).bind fun q S2 => chF leF leF p q S2 fun S3 => h ρ S3) := zWE (zVT.or zDL) (zVT.or zDL) zPD zPD ha hb hc hm
theorem yKI (ha : PEm X W a f) (hb : PEm X W b g) (hc : PEm X W c h) (hm : lastMarks [.LtE, .LtE] [b, c] = false := by with_unfolding_all rfl) : PTm X W (.Compare a [.LtE, .LtE] [b, c] pos) (fun ρ S => ((f ρ S).bind fun p S1 => (g ρ S1).bind fun q S2 => chF leF leF p q S2 fun S3 => h ρ S3).bind asB) := yGK (zVT.or zDL) (zVT.or zDL) zPD zPD ha hb hc hm
theorem yKJ (hu : X.A.units + 64 < cLine) (ha : PEm X W a f) (hb : PEm X W b g) (hc : PEm X W c h) (hm : lastMarks [.LtE, .Lt] [b, c] = false := by with_unfolding_all rfl) : PEm X W (.Compare a [.LtE, .Lt] [b, c] pos) (fun ρ S => (f ρ S).bind fun p S1 => (g ρ S1).bind fun q S2 => chF leF ltF p q S2 fun S3 => h ρ S3) := zWE (zVT.or zDL) (zZQ hu) zPD zTY ha hb hc hm
def zRF : Er → Er → Sto → R Er
 | .val .non, .val .non, S => .ok (.val (.bl true)) S
 | _, .val .non, S => .ok (.val (.bl false)) S
 | _, _, _ => .no
theorem yHB {α : List Addr} {H : Hp} {p : Er} {x : V} (d : DenX X.K α H p x) (n : p ≠ .val .non) : decide (x = .non) = false := by
 cases p with
 | new ds => obtain ⟨b, vs, rfl, _⟩ := d; rfl
 | val m =>
  cases m with
  | non => exact absurd rfl n
  | bl b => cases zFY d; rfl
  | int b => cases wA d; rfl
  | str b => cases kU d; rfl
  | typ b => cases yGI d; rfl
  | tup b => obtain ⟨_, _, rfl, _⟩ := dQ d; rfl
  | scr b => obtain ⟨_, _, rfl, _⟩ := zOU d; rfl
  | loc b => obtain ⟨_, rfl, _⟩ := zGQ d; rfl
theorem yCC : Op2 X W (fun x y H Q => y = .non ∧ Q (.bl (decide (x = .non))) H) zRF := by
 intro p q x y α S H Q wd dp dq post
 unfold zRF at post
 split at post
 ·cases zMJ dp; exact ⟨zMJ dq, Post.val post wd (wS _)⟩
 ·rename_i p' S' hn
  rw [yHB dp (fun z => by first | exact hn z | exact hn z rfl | exact hn _ z | exact hn rfl z)]
  exact ⟨zMJ dq, Post.val post wd (wS _)⟩
 ·exact post.elim
theorem pm_is (ha : PEm X W a f) (hb : PEm X W b g) : PEm X W (.Compare a [.Is] [b] pos) (fun ρ S => (f ρ S).bind fun p S1 => (g ρ S1).bind fun q S2 => zRF p q S2) := zOV yFQ yCC ha hb
theorem tm_is (ha : PEm X W a f) (hb : PEm X W b g) : PTm X W (.Compare a [.Is] [b] pos) (fun ρ S => ((f ρ S).bind fun p S1 => (g ρ S1).bind fun q S2 => zRF p q S2).bind asB) := zGR yFQ yCC ha hb
def getL (ds : List MV) : Er → Sto → R Er
 | .val (.int i), S => match atI ds i with | some d => .ok (.val d) S | none => .no
 | _, _ => .no
def ixF : Er → Er → Sto → R Er
 | .val (.str x), .val (.int i), S => if x.length ≤ sizeLine then match atI x i with | some c => .ok (.val (.str [c])) S | none => .no else .no
 | .val (.tup ds), q, S => getL ds q S
 | p, q, S => match bO S p with | some ds => getL ds q S | none => .no
theorem yKK {K : PySem.W.Frag} {α : List Addr} {H : Hp} {ds : List MV} {vs : List V} {i : Int} {d : MV} (l : DenL K α H ds vs) (e : atI ds i = some d) : ∃ v, atI vs i = some v ∧ Den K α H d v := by
 unfold atI at e ⊢
 rw [l.length]
 cases z : ixN ds.length i with
 | none => rw [z] at e; cases e
 | some j =>
  rw [z] at e
  obtain ⟨v, h1, h2⟩ := l.at (show ds[j]? = some d from e)
  exact ⟨v, h1, h2⟩
theorem yK (ha : PEm X W a f) (hb : PEm X W b g) (hs : zTQ b := by exact fun _ _ => rfl) : PEm X W (.Subscript a b pos) (fun ρ S => (f ρ S).bind fun p S1 => (g ρ S1).bind fun q S2 => ixF p q S2) := by
 refine pm_ix yNQ ?_ ha hb hs
 intro p q x y α S H Q wd dp dq post
 have key : ∀ {ds : List MV} {vs : List V} {i : Int} {d : MV}, DenL X.K α H ds vs → atI ds i = some d → Post X.g W α H (.ok (Er.val d) S) Q → ∃ v, atI vs i = some v ∧ Q v H := fun l e post => by
  obtain ⟨v, h1, h2⟩ := yKK l e
  exact ⟨v, h1, Post.val post wd h2⟩
 unfold ixF at post
 split at post
 ·split at post
  ·rename_i hz
   split at post
   ·rename_i ch e
    refine .inr (.inr ⟨_, _, ch, kU dp, wA dq, by rw [jZ]; exact hz, by rw [zEB]; exact e, ?_⟩)
    exact Post.val post wd (zBW [ch])
   ·exact post.elim
  ·exact post.elim
 ·unfold getL at post
  split at post
  ·split at post
   ·rename_i d e
    obtain ⟨a1, vs, rfl, s1, l1⟩ := dQ dp
    obtain ⟨v, h1, h2⟩ := key l1 e post
    exact .inr (.inl ⟨a1, vs, _, v, rfl, wA dq, s1, h1, h2⟩)
   ·exact post.elim
  ·exact post.elim
 ·split at post
  ·rename_i ds el
   unfold getL at post
   split at post
   ·split at post
    ·rename_i d e
     obtain ⟨a1, vs, rfl, s1, l1⟩ := zKV rfl wd el dp
     obtain ⟨v, h1, h2⟩ := key l1 e post
     exact .inl ⟨a1, vs, _, v, rfl, wA dq, s1, h1, h2⟩
    ·exact post.elim
   ·exact post.elim
  ·exact post.elim
end
end M
end L2
namespace L2
namespace M
open PySem PySem.Spec PyProof.Rows
theorem zRG {prog : Program} {w : World} {A : Around} {E : Value → Shared → Prop} {s : Shared} {t sl : Addr} {its : Array Value} {vl vu : Value} {lo hi : Option Int} {Q : Value → Shared → Prop} (ht : IsTup s.heap t its) (hs : s.heap.IsSliceOf sl vl vu .none) (pl : IsPart vl lo) (pu : IsPart vu hi)
  (h0 : HT.sIx its.size 0 lo = 0) (h1 : HT.sIx its.size its.size hi = its.size) (h : Q (.ref t) s) : wpAny (model prog w) A (getItem (.ref t) (.ref sl)) Q E s := by
 have hTs : s.TypeIs (.ref sl) "slice" := by obtain ⟨os, hos, hcs, _⟩ := id hs; exact ⟨os, hos, hcs⟩
 have hTt := ht.typeIs
 unfold getItem
 try with_reducible refine wpAny_holding ?_
 first | refine wpAny_bind (wpAny_pure ?_) | skip
 refine wpAny_bind (wpAny_sequenceKey hTt (by decide) ?_)
 refine wpAny_bind (wpAny_callSpecial?_slot (name := Str.ofString "__getitem__") hTt PyProof.Rows.slot_tuple_getitem (wpAny_call_entry PyProof.Rows.slot_tuple_getitem hTt entry_tuple_getitem ?_ (args_tuple_getitem _ _)))
 show wpAny _ _ (Builtin.Tuple.tupleItemsOf (.ref t) >>= _) _ _ s
 refine wpAny_bind (tupleItemsOf_ ht (wpAny_bind (wpAny_typeOf hTs ?_)))
 rw [if_pos (by decide)]
 refine wpAny_bind (HT.sliceApplied_gen hs pl pu ?_)
 show wpAny _ _ (if (((HT.sIx its.size 0 lo : Nat) : Int) == 0 && (1 : Int) == 1 && (HT.sIx its.size its.size hi - HT.sIx its.size 0 lo) == its.size) = true then _ else _) _ _ s
 rw [if_pos (by rw [h0, h1]; simp)]
 unfold Builtin.Tuple.tupleIsExact
 refine wpAny_bind (wpAny_bind (wpAny_typeOf hTt (wpAny_pure ?_)))
 rw [if_pos (by decide)]
 refine wpAny_bind (wpAny_rule ?_)
 first
  | exact wpAny_pure ⟨_, rfl, wpAny_pure h⟩
  | exact wpAny_bind (wpAny_pure (wpAny_pure ⟨_, rfl, wpAny_pure h⟩))
  | exact wpAny_bind (wpAny_pure ⟨_, rfl, wpAny_pure h⟩)
section
variable {X : Cx} {W : XW} {a b c e : Expr} {es : List Expr} {f g h : Rho → Sto → R Er} {af : Rho → Sto → R (List Er)} {pos : Pos}
theorem yKL : SlR X (fun x lo hi H Q => ∃ a xs, x = .ref a ∧ SqT X.K H a xs ∧ HT.sIx xs.length 0 lo = 0 ∧ HT.sIx xs.length xs.length hi = xs.length ∧ Q (.ref a) H) := by
 intro pins s σ H x v vl vu lo hi sl Q I rx hs pl pu h
 obtain ⟨a, xs, rfl, hx, h0, h1, q⟩ := h
 cases rx
 obtain ⟨its, r, ht, hz⟩ := I.tuple hx
 have hlen : its.toArray.size = xs.length := by rw [List.size_toArray]; exact r.length.symm
 exact ⟨"tuple", _, PyProof.Rows.slot_tuple_getitem.lookup, ht.typeIs, zRG ht hs pl pu (by rw [hlen]; exact h0) (by rw [hlen]; exact h1) ⟨.ref a, H, I, rfl, q⟩⟩
def zKY : Er → Option Int → Option Int → Sto → R Er
 | .val (.str x), lo, hi, S => if x.length ≤ sizeLine then .ok (.val (.str (bK x lo hi))) S else .no
 | .val (.tup ds), lo, hi, S => .ok (.val (.tup (bK ds lo hi))) S
 | p, lo, hi, S => match bO S p with | some ds => .ok (.new (bK ds lo hi)) S | none => .no
theorem yDZ {α : Type} {ds : List α} {lo hi : Option Int} (h0 : HT.sIx ds.length 0 lo = 0) (h1 : HT.sIx ds.length ds.length hi = ds.length) : bK ds lo hi = ds := by
 unfold bK
 rw [h0, h1]
 simp
theorem zJQ {lo hi : Option Expr} {lf hf : Rho → Sto → R (Option Int)} {p2 : Pos} (ha : PEm X W a f) (hl : POm X W lo lf) (hh : POm X W hi hf) : PEm X W (.Subscript a (.Slice lo hi none p2) pos) (fun ρ S => (f ρ S).bind fun p S1 => (lf ρ S1).bind fun l S2 => (hf ρ S2).bind fun u S3 => zKY p l u S3) := by
 refine yGP (yNV.or (yJS.or (yNP.or yKL))) ?_ ha hl hh
 intro p lo hi x α S H Q wd dp post
 unfold zKY at post
 split at post
 ·split at post
  ·rename_i hz
   exact .inl ⟨_, kU dp, hz, Post.val post wd (zBW _)⟩
  ·exact post.elim
 ·rename_i _ _ _ ds
  obtain ⟨a1, vs, rfl, s1, l1⟩ := dQ dp
  by_cases hw : HT.sIx vs.length 0 lo = 0 ∧ HT.sIx vs.length vs.length hi = vs.length
  ·have e : bK ds lo hi = ds := yDZ (by rw [← l1.length]; exact hw.1) (by rw [← l1.length]; exact hw.2)
   rw [e] at post
   exact .inr (.inr (.inr ⟨a1, vs, rfl, s1, hw.1, hw.2, Post.val post wd (nR s1 l1)⟩))
  ·exact .inr (.inr (.inl ⟨a1, vs, rfl, s1, hw, fun p hp => Post.newt post wd hp (l1.cut lo hi)⟩))
 ·split at post
  ·rename_i ds el
   obtain ⟨a1, vs, rfl, s1, l1⟩ := zKV rfl wd el dp
   exact .inr (.inl ⟨a1, vs, rfl, s1, fun p hp => Post.newl post wd hp (l1.cut lo hi)⟩)
  ·exact post.elim
end
end M
end L2
namespace L2
namespace M
open PySem PySem.Spec PyProof.Rows
section
variable {X : Cx} {W : XW} {a b c e : Expr} {es : List Expr} {f g h : Rho → Sto → R Er} {af : Rho → Sto → R (List Er)} {pos : Pos}
def zUA (S : Sto) (n : Nat) (d : MV) : List MV → Option (List Bool)
 | [] => some []
 | y :: ys => (eqv S n y d).bind fun k => (zUA S n d ys).map (k :: ·)
section
variable {α : List Addr} {S : Sto} {H : Hp} {pins : List (Addr × Obj)} {σ : St} {s : Shared}
noncomputable def zWI (X : Cx) (α : List Addr) (S : Sto) (H : Hp) (n : Nat) (d : MV) (u : Value) : Bool := open Classical in decide (∃ y x, Den X.K α H y x ∧ RelV x u ∧ eqv S n y d = some true)
open Classical in
theorem yKM (I : Inv X pins σ H s) (wd : Wd X.g α S H) {n : Nat} {d y : MV} {x : V} {u : Value} {k : Bool} (dy : Den X.K α H y x) (r : RelV x u) (e : eqv S n y d = some k) : zWI X α S H n d u = k := by
 unfold zWI
 cases k with
 | true => exact decide_eq_true ⟨y, x, dy, r, e⟩
 | false =>
  refine decide_eq_false fun ⟨y', x', dy', r', e'⟩ => ?_
  have ex := r.inj r'
  subst ex
  rw [dy.inj I wd dy'] at e
  rw [e] at e'
  cases e'
theorem zKZ (I : Inv X pins σ H s) (wd : Wd X.g α S H) {n : Nat} {A : Around} {d : MV} {x : V} {v : Value} (hu : A.units + n < cLine) (dd : Den X.K α H d x) (rx : RelV x v) : ∀ {ys : List MV} {vs : List V} {us : List Value} {bs : List Bool}, DenL X.K α H ys vs → Vals vs us → zUA S n d ys = some bs →
  us.map (zWI X α S H n d) = bs ∧ ∀ u ∈ us, SeqAt.EqAt A s u v (zWI X α S H n d u)
 | [], _, _, bs, l, r, e => by
  cases l.isnil; cases r; cases e
  exact ⟨rfl, fun u hu => by cases hu⟩
 | y :: ys, _, _, bs, l, r, e => by
  obtain ⟨v', r', rfl, dy, l'⟩ := l.uncons
  cases r with
  | cons r1 r2 =>
   unfold zUA at e
   cases z : eqv S n y d with
   | none => rw [z] at e; cases e
   | some k =>
    rw [z] at e
    cases z2 : zUA S n d ys with
    | none => simp [z2] at e
    | some cs =>
     simp [z2] at e
     subst e
     obtain ⟨h1, h2⟩ := zKZ I wd hu dd rx l' r2 z2
     have h3 := yKM I wd dy r1 z
     refine ⟨by rw [List.map_cons, h1, h3], fun u hu' => ?_⟩
     rcases List.mem_cons.mp hu' with rfl | hu'
     ·rw [h3]; exact zPA I wd n A y d _ _ _ _ k hu dy dd r1 rx z
     ·exact h2 u hu'
end
theorem any_map {us : List Value} {f : Value → Bool} {bs : List Bool} (h : us.map f = bs) : us.toArray.any f = bs.any id := by
 subst h
 simp [List.any_map]
def itemsOf (S : Sto) : Er → Option (List MV)
 | .val (.tup ds) => some ds
 | r => bO S r
theorem zPE {α : List Addr} {S : Sto} {H : Hp} (wd : Wd X.g α S H) {r : Er} {ds : List MV} {x : V} (e : itemsOf S r = some ds) (d : DenX X.K α H r x) : ∃ a vs, x = .ref a ∧ (SqL X.K H a vs ∨ SqT X.K H a vs) ∧ DenL X.K α H ds vs := by
 unfold itemsOf at e
 split at e
 ·cases e
  obtain ⟨a, vs, rfl, s, l⟩ := dQ d
  exact ⟨a, vs, rfl, .inr s, l⟩
 ·obtain ⟨a, vs, rfl, s, l⟩ := zKV rfl wd e d
  exact ⟨a, vs, rfl, .inl s, l⟩
def zMM (neg : Bool) (p q : Er) (S : Sto) : R Er := match p with
 | .val d => match itemsOf S q with
  | some ys => match zUA S zR d ys with
   | some bs => .ok (.val (.bl (if neg = true then !bs.any id else bs.any id))) S
   | none => .no
  | none => .no
 | .new _ => .no
def inF (neg : Bool) : Er → Er → Sto → R Er
 | .val (.str [c]), .val (.str y), S => .ok (.val (.bl (if neg = true then !decide (c ∈ y) else decide (c ∈ y)))) S
 | p, q, S => zMM neg p q S
abbrev yHC (X : Cx) (neg : Bool) : R2 := fun x y H Q => ∃ α S d q ys bs, Wd X.g α S H ∧ Den X.K α H d x ∧ DenX X.K α H q y ∧ itemsOf S q = some ys ∧ zUA S zR d ys = some bs ∧ Q (.bl (if neg = true then !bs.any id else bs.any id)) H
theorem yOJ (hu : X.A.units + 64 < cLine) : OpR X (compareOp .In) (yHC X false) := by
 intro pins s σ H x y v u Q I rx ry h
 obtain ⟨α, S, d, q, ys, bs, wd, dd, dq, ei, ea, hq⟩ := h
 obtain ⟨a, vs, rfl, sq, l⟩ := zPE wd ei dq
 cases ry
 rcases sq with sq | sq
 ·obtain ⟨its, r, pl, _⟩ := I.list sq
  obtain ⟨h1, h2⟩ := zKZ I wd (A := X.A.in1) (by show X.A.units + 1 + zR < cLine; unfold zR; omega) dd rx l r ea
  refine SeqAt.in_listAt (zWI X α S H zR d) pl.isList (fun w hw => h2 w (by simpa using hw)) ⟨.bl _, H, I, rfl, ?_⟩
  rw [any_map h1]
  exact hq
 ·obtain ⟨its, r, pl, _⟩ := I.tuple sq
  obtain ⟨h1, h2⟩ := zKZ I wd (A := X.A.in1) (by show X.A.units + 1 + zR < cLine; unfold zR; omega) dd rx l r ea
  refine SeqAt.in_tupleAt (zWI X α S H zR d) pl (fun w hw => h2 w (by simpa using hw)) ⟨.bl _, H, I, rfl, ?_⟩
  rw [any_map h1]
  exact hq
theorem yEA (hu : X.A.units + 64 < cLine) : OpR X (compareOp .NotIn) (yHC X true) := by
 intro pins s σ H x y v u Q I rx ry h
 obtain ⟨α, S, d, q, ys, bs, wd, dd, dq, ei, ea, hq⟩ := h
 obtain ⟨a, vs, rfl, sq, l⟩ := zPE wd ei dq
 cases ry
 rcases sq with sq | sq
 ·obtain ⟨its, r, pl, _⟩ := I.list sq
  obtain ⟨h1, h2⟩ := zKZ I wd (A := X.A.in1) (by show X.A.units + 1 + zR < cLine; unfold zR; omega) dd rx l r ea
  refine SeqAt.notIn_listAt (zWI X α S H zR d) pl.isList (fun w hw => h2 w (by simpa using hw)) ⟨.bl _, H, I, rfl, ?_⟩
  rw [any_map h1]
  exact hq
 ·obtain ⟨its, r, pl, _⟩ := I.tuple sq
  obtain ⟨h1, h2⟩ := zKZ I wd (A := X.A.in1) (by show X.A.units + 1 + zR < cLine; unfold zR; omega) dd rx l r ea
  refine SeqAt.notIn_tupleAt (zWI X α S H zR d) pl (fun w hw => h2 w (by simpa using hw)) ⟨.bl _, H, I, rfl, ?_⟩
  rw [any_map h1]
  exact hq
theorem yCD {neg : Bool} : Op2 X W (fun x y H Q => (∃ i j, x = .str i ∧ y = .str j ∧ Q (.bl (if neg = true then !(!(Builtin.Str.occurrences j i 0 j.length 1).isEmpty) else !(Builtin.Str.occurrences j i 0 j.length 1).isEmpty)) H) ∨ yHC X neg x y H Q) (inF neg) := by
 intro p q x y α S H Q wd dp dq post
 unfold inF at post
 split at post
 ·refine .inl ⟨_, _, kU dp, kU dq, ?_⟩
  rw [← yJW, PySem.StrLaws.found_one, zEB]
  exact Post.val post wd (wS _)
 ·unfold zMM at post
  split at post
  ·rename_i d _
   split at post
   ·rename_i ys ei
    split at post
    ·rename_i bs ea
     exact .inr ⟨α, S, _, q, ys, bs, wd, dp, dq, ei, ea, Post.val post wd (wS _)⟩
    ·exact post.elim
   ·exact post.elim
  ·exact post.elim
theorem OpR.imp {f : Value → Value → Sem Value} {r r' : R2} (h : OpR X f r) (i : ∀ x y H Q, r' x y H Q → r x y H Q) : OpR X f r' := fun pins s σ H x y v u Q I rx ry q => h pins s σ H x y v u Q I rx ry (i x y H Q q)
theorem yOK (hu : X.A.units + 64 < cLine) : OpR X (compareOp .In) (fun x y H Q => (∃ i j, x = .str i ∧ y = .str j ∧ Q (.bl (if (false : Bool) = true then !(!(Builtin.Str.occurrences j i 0 j.length 1).isEmpty) else !(Builtin.Str.occurrences j i 0 j.length 1).isEmpty)) H) ∨ yHC X false x y H Q) :=
 OpR.imp (yDN.or (yOJ hu)) fun x y H Q q => q.imp (fun q => q) fun q => q
theorem yEB (hu : X.A.units + 64 < cLine) : OpR X (compareOp .NotIn) (fun x y H Q => (∃ i j, x = .str i ∧ y = .str j ∧ Q (.bl (if (true : Bool) = true then !(!(Builtin.Str.occurrences j i 0 j.length 1).isEmpty) else !(Builtin.Str.occurrences j i 0 j.length 1).isEmpty)) H) ∨ yHC X true x y H Q) :=
 OpR.imp (zTO.or (yEA hu)) fun x y H Q q => q.imp (fun q => q) fun q => q
theorem pm_in (hu : X.A.units + 64 < cLine) (ha : PEm X W a f) (hb : PEm X W b g) (hm : behindInMarks .In b = false := by with_unfolding_all rfl) : PEm X W (.Compare a [.In] [b] pos) (fun ρ S => (f ρ S).bind fun p S1 => (g ρ S1).bind fun q S2 => inF false p q S2) := zOV (yOK hu) yCD ha hb hm
theorem zWJ (hu : X.A.units + 64 < cLine) (ha : PEm X W a f) (hb : PEm X W b g) (hm : behindInMarks .NotIn b = false := by with_unfolding_all rfl) : PTm X W (.Compare a [.NotIn] [b] pos) (fun ρ S => ((f ρ S).bind fun p S1 => (g ρ S1).bind fun q S2 => inF true p q S2).bind asB) := zGR (yEB hu) yCD ha hb hm
theorem zPF {K : PySem.W.Frag} {α : List Addr} {H : Hp} {r : Er} {vs : List V} (d : ArgsX K α H [r] vs) : ∃ v, vs = [v] ∧ DenX K α H r v := by
 cases d with
 | cons a l => cases l; exact ⟨_, rfl, a⟩
theorem argx2 {K : PySem.W.Frag} {α : List Addr} {H : Hp} {r r' : Er} {vs : List V} (d : ArgsX K α H [r, r'] vs) : ∃ v u, vs = [v, u] ∧ DenX K α H r v ∧ DenX K α H r' u := by
 cases d with
 | cons a l => obtain ⟨u, rfl, l'⟩ := zPF l; exact ⟨_, u, rfl, a, l'⟩
def kB : List Er → Sto → R Er
 | [.val (.str x)], S => if x.length ≤ sizeLine then .ok (.val (.int x.length)) S else .no
 | [r], S => match itemsOf S r with | some ds => .ok (.val (.int ds.length)) S | none => .no
 | _, _ => .no
theorem xL : zOX X W (fun xs H Q => (∃ z, xs = [.str z] ∧ z.length ≤ sizeLine ∧ Q (.int z.length) H) ∨ ∃ p ys, xs = [.ref p] ∧ (SqL X.K H p ys ∨ SqT X.K H p ys) ∧ Q (.int ys.length) H) kB := by
 intro rs vs α S H Q wd d post
 unfold kB at post
 split at post
 ·split at post
  ·rename_i hz
   obtain ⟨v, rfl, dv⟩ := zPF d
   cases kU dv
   refine .inl ⟨_, rfl, by rw [jZ]; exact hz, ?_⟩
   rw [jZ]
   exact Post.val post wd (wP _)
  ·exact post.elim
 ·split at post
  ·rename_i ds e
   obtain ⟨v, rfl, dv⟩ := zPF d
   obtain ⟨a, us, rfl, sq, l⟩ := zPE wd e dv
   refine .inr ⟨a, us, rfl, sq, ?_⟩
   rw [l.length]
   exact Post.val post wd (wP _)
  ·exact post.elim
 ·exact post.elim
theorem yD : CallR X (.builtin "len") (fun xs H Q => (∃ z, xs = [.str z] ∧ z.length ≤ sizeLine ∧ Q (.int z.length) H) ∨ ∃ p ys, xs = [.ref p] ∧ (SqL X.K H p ys ∨ SqT X.K H p ys) ∧ Q (.int ys.length) H) := zTT.or zTS
def absF : List Er → Sto → R Er
 | [.val (.int i)], S => .ok (.val (.int (if i < 0 then -i else i))) S
 | _, _ => .no
theorem yOL : zOX X W (fun xs H Q => ∃ i, xs = [.int i] ∧ Q (.int (if i < 0 then -i else i)) H) absF := by
 intro rs vs α S H Q wd d post
 unfold absF at post
 split at post
 ·obtain ⟨v, rfl, dv⟩ := zPF d
  cases wA dv
  exact ⟨_, rfl, Post.val post wd (wP _)⟩
 ·exact post.elim
def zLA : List MV → Option (List Bool)
 | [] => some []
 | .bl b :: r => (zLA r).map (b :: ·)
 | _ :: _ => none
theorem zSO {K : PySem.W.Frag} {α : List Addr} {H : Hp} : ∀ {ds : List MV} {bs : List Bool} {vs : List V}, zLA ds = some bs → DenL K α H ds vs → vs = bs.map V.bl
 | [], _, _, e, l => by cases e; exact l.isnil
 | d :: r, bs, _, e, l => by
  cases d with
  | bl b =>
   unfold zLA at e
   cases z : zLA r with
   | none => rw [z] at e; cases e
   | some cs =>
    rw [z] at e
    cases e
    obtain ⟨v, us, rfl, dv, l'⟩ := l.uncons
    rw [zFX dv, zSO z l']
    rfl
  | _ => cases e
def zRH : List Er → Sto → R Er
 | [r], S => match (bO S r).bind zLA with | some bs => .ok (.val (.bl (bs.all id))) S | none => .no
 | _, _ => .no
theorem zMN (hc : X.calm = true) : zOX X W (fun xs H Q => ∃ (a : Addr) (bs : List Bool), xs = [.ref a] ∧ SqL X.K H a (bs.map V.bl) ∧ X.calm = true ∧ Q (.bl (bs.all id)) H) zRH := by
 intro rs vs α S H Q wd d post
 unfold zRH at post
 split at post
 ·split at post
  ·rename_i bs e
   obtain ⟨v, rfl, dv⟩ := zPF d
   cases z : bO S _ with
   | none => rw [z] at e; cases e
   | some ds =>
    rw [z] at e
    obtain ⟨a1, us, rfl, s, l⟩ := zKV rfl wd z dv
    refine ⟨a1, bs, rfl, ?_, hc, Post.val post wd (wS _)⟩
    rw [← zSO e l]
    exact s
  ·exact post.elim
 ·exact post.elim
def zMO (S : Sto) : Er → Option String
 | .val .non => some "NoneType"
 | .val (.bl _) => some "bool"
 | .val (.int _) => some "int"
 | .val (.str _) => some "str"
 | .val (.tup _) => some "tuple"
 | .val (.typ _) => none
 | r => (bO S r).map fun _ => "list"
def zZR (t T : String) : Bool := t == T || (t == "bool" && T == "int")
def known (T : String) : Bool := T == "int" || T == "bool" || T == "str" || T == "tuple" || T == "list"
def jU : List Er → Sto → R Er
 | [r, .val (.typ T)], S => match zMO S r with
  | some t => if known T = true then .ok (.val (.bl (zZR t T))) S else .no
  | none => .no
 | _, _ => .no
theorem nY (K : PySem.W.Frag) {t T : String} (ht : t = "NoneType" ∨ t = "bool" ∨ t = "int" ∨ t = "str" ∨ t = "tuple" ∨ t = "list") (hT : known T = true) : PySem.W.kitOne K (.type t) (.type T) = some (zZR t T) := by
 have hT' : T = "int" ∨ T = "bool" ∨ T = "str" ∨ T = "tuple" ∨ T = "list" := by
  unfold known at hT
  simp only [Bool.or_eq_true, beq_iff_eq] at hT
  rcases hT with (((h | h) | h) | h) | h
  ·exact .inl h
  ·exact .inr (.inl h)
  ·exact .inr (.inr (.inl h))
  ·exact .inr (.inr (.inr (.inl h)))
  ·exact .inr (.inr (.inr (.inr h)))
 rcases ht with rfl | rfl | rfl | rfl | rfl | rfl <;> rcases hT' with rfl | rfl | rfl | rfl | rfl <;> kernel_rfl
theorem wI : CallR X (.builtin "isinstance") (fun xs H Q => ∃ α S r x t T, xs = [x, .ty T] ∧ Wd X.g α S H ∧ DenX X.K α H r x ∧ zMO S r = some t ∧ known T = true ∧ Q (.bl (zZR t T)) H) := by
 intro pins s σ H xs us Q I rr h
 obtain ⟨α, S, r, x, t, T, rfl, wd, d, et, hk, q⟩ := h
 obtain ⟨u, w', rfl, rx, rT⟩ := vals2 rr
 cases rT
 have fin : ∀ tk, EP X pins σ Q (.bool (zZR t T)) { s with toks := tk } := fun tk => ⟨.bl _, H, I.tok _, rfl, q⟩
 unfold zMO at et
 split at et
 ·cases et
  cases zMJ d
  cases rx
  exact PySem.W.kia_one PySem.W.kitx_none I.kIn True.intro (nY X.K (.inl rfl) hk) (fun z => nomatch z) fin
 ·cases et
  cases zFY d
  cases rx
  exact PySem.W.kia_one PySem.W.kitx_bool I.kIn True.intro (nY X.K (.inr (.inl rfl)) hk) (fun z => nomatch z) fin
 ·cases et
  cases wA d
  obtain ⟨t, rfl⟩ := rx
  exact PySem.W.kia_one PySem.W.kitx_int I.kIn True.intro (nY X.K (.inr (.inr (.inl rfl))) hk) (fun z => nomatch z) fin
 ·cases et
  cases kU d
  obtain ⟨t, rfl⟩ := rx
  exact PySem.W.kia_one PySem.W.kitx_str I.kIn True.intro (nY X.K (.inr (.inr (.inr (.inl rfl)))) hk) (fun z => nomatch z) fin
 ·cases et
  obtain ⟨a, vs, rfl, sq, l⟩ := dQ d
  cases rx
  obtain ⟨its, r1, p1, _⟩ := I.tuple sq
  obtain ⟨o, h1, h2, _⟩ := p1
  exact PySem.W.kia_one PySem.W.kitx_tuple I.kIn ⟨o, h1, h2⟩ (nY X.K (.inr (.inr (.inr (.inr (.inl rfl))))) hk) (fun z => nomatch z) fin
 ·cases et
 ·cases z : bO S r with
  | none => rw [z] at et; cases et
  | some ds =>
   rw [z] at et
   cases et
   obtain ⟨a, vs, rfl, sq, l⟩ := zKV rfl wd z d
   cases rx
   obtain ⟨its, r1, p1, _⟩ := I.list sq
   obtain ⟨o, h1, h2, _⟩ := p1.isList
   exact PySem.W.kia_one PySem.W.kitx_list I.kIn ⟨o, h1, h2⟩ (nY X.K (.inr (.inr (.inr (.inr (.inr rfl))))) hk) (fun z => nomatch z) fin
theorem gQ : zOX X W (fun xs H Q => ∃ α S r x t T, xs = [x, .ty T] ∧ Wd X.g α S H ∧ DenX X.K α H r x ∧ zMO S r = some t ∧ known T = true ∧ Q (.bl (zZR t T)) H) jU := by
 intro rs vs α S H Q wd d post
 unfold jU at post
 split at post
 ·split at post
  ·rename_i t et
   split at post
   ·rename_i hk
    obtain ⟨v, u, rfl, d1, d2⟩ := argx2 d
    cases yGI d2
    exact ⟨α, S, _, v, t, _, rfl, wd, d1, et, hk, Post.val post wd (wS _)⟩
   ·exact post.elim
  ·exact post.elim
 ·exact post.elim
def dS : List Er → Sto → R Er
 | [.val (.tup ds)], S => .ok (.val (.tup ds)) S
 | [r], S => match bO S r with | some ds => .ok (.val (.tup ds)) S | none => .no
 | _, _ => .no
theorem zAI : zOX X W (fun xs H Q => ∃ p ys, xs = [.ref p] ∧ ((SqL X.K H p ys ∧ ∀ l, H l = none → Q (.ref l) (upd H l (.tup ys))) ∨ (SqT X.K H p ys ∧ Q (.ref p) H))) dS := by
 intro rs vs α S H Q wd d post
 unfold dS at post
 split at post
 ·obtain ⟨v, rfl, dv⟩ := zPF d
  obtain ⟨a, us, rfl, sq, l⟩ := dQ dv
  exact ⟨a, us, rfl, .inr ⟨sq, Post.val post wd (nR sq l)⟩⟩
 ·split at post
  ·rename_i ds e
   obtain ⟨v, rfl, dv⟩ := zPF d
   obtain ⟨a, us, rfl, sq, l⟩ := zKV rfl wd e dv
   exact ⟨a, us, rfl, .inl ⟨sq, fun p hp => Post.newt post wd hp l⟩⟩
  ·exact post.elim
 ·exact post.elim
def listF : List Er → Sto → R Er
 | [r], S => match itemsOf S r with | some ds => .ok (.new ds) S | none => .no
 | _, _ => .no
theorem xM : bootBuiltins "len" = some (.builtin "len") := by decide +kernel
theorem yOM : bootBuiltins "abs" = some (.builtin "abs") := by decide +kernel
theorem zMP : bootBuiltins "all" = some (.builtin "all") := by decide +kernel
theorem yL : bootBuiltins "isinstance" = some (.builtin "isinstance") := by decide +kernel
theorem zZS : bootBuiltins "int" = some (.type "int") := by decide +kernel
theorem yCE : bootBuiltins "bool" = some (.type "bool") := by decide +kernel
theorem zZT : bootBuiltins "str" = some (.type "str") := by decide +kernel
theorem jB : bootBuiltins "tuple" = some (.type "tuple") := by decide +kernel
theorem zUB : bootBuiltins "list" = some (.type "list") := by decide +kernel
end
end M
end L2
namespace L2
namespace M
open PySem PySem.Spec PyProof.Rows
def digN (n : Nat) : List Nat := (Nat.toDigits 10 n).map Char.toNat
def decL (i : Int) : List Nat := if i < 0 then 45 :: digN i.natAbs else digN i.natAbs
section
variable {X : Cx} {W : XW} {a b c e o i : Expr} {es : List Expr} {f g h : Rho → Sto → R Er} {af : Rho → Sto → R (List Er)} {pos apos : Pos}
def strF : List Er → Sto → R Er
 | [.val (.int i)], S => if i.natAbs.log2 < 1920 then .ok (.val (.str (decL i))) S else .no
 | [.val (.str x)], S => .ok (.val (.str x)) S
 | _, _ => .no
def zPG : Er → Sto → Bool
 | .val (.str _), _ => true
 | _, _ => false
theorem ty_str : TyM X "str" zPG := by
 intro p x α S H wd d h
 unfold zPG at h
 split at h
 ·cases kU d; rfl
 ·cases h
def dC (p : Er) (S : Sto) : Bool := (bO S p).isSome
theorem zZU : TyM X "list" dC := by
 intro p x α S H wd d h
 unfold dC at h
 cases z : bO S p with
 | none => rw [z] at h; cases h
 | some ds =>
  obtain ⟨a, vs, rfl, s, l⟩ := zKV rfl wd z d
  exact .inl ⟨rfl, vs, s⟩
def swF : Er → List Er → Sto → R Er
 | .val (.str x), [.val (.str y)], S => .ok (.val (.bl (decide (y.length ≤ x.length) && decide (x.take y.length = y)))) S
 | _, _, _ => .no
def strIdx (x y : List Nat) : Option Nat := (Builtin.Str.occurrences (mkS x) (mkS y) 0 (mkS x).length 1).head?
def zWK : Er → List Er → Sto → R Er
 | .val (.str x), [.val (.str y)], S => match strIdx x y with | some i => .ok (.val (.int (i : Nat))) S | none => .no
 | _, _, _ => .no
theorem yKN : MtR X "str.index" (fun x xs H Q => ∃ y z i, x = .str (mkS y) ∧ xs = [.str (mkS z)] ∧ strIdx y z = some i ∧ Q (.int (i : Nat)) H) := by
 intro pins s σ H x xs v us Q I rx rs h
 obtain ⟨y, z, i, rfl, rfl, hi, q⟩ := h
 obtain ⟨t, rfl⟩ := rx
 obtain ⟨u, rfl, t', rfl⟩ := vals1 rs
 unfold strIdx at hi
 cases zz : Builtin.Str.occurrences (mkS y) (mkS z) 0 (mkS y).length 1 with
 | nil => rw [zz] at hi; cases hi
 | cons k r =>
  rw [zz] at hi
  cases hi
  exact PySem.SC.index zz ⟨.int _, H, I.tok _, ⟨_, rfl⟩, q⟩
theorem yKO : zZI X W (fun x xs H Q => ∃ y z i, x = .str (mkS y) ∧ xs = [.str (mkS z)] ∧ strIdx y z = some i ∧ Q (.int (i : Nat)) H) zWK := by
 intro p rs x vs α S H0 H Q α0 wd x0 dp da post
 replace post := post.shift x0
 unfold zWK at post
 split at post
 ·split at post
  ·rename_i i hi
   obtain ⟨v, rfl, dv⟩ := zWG da
   exact ⟨_, _, i, kU dp, by rw [kU dv], hi, Post.val post wd (wP _)⟩
  ·exact post.elim
 ·exact post.elim
theorem yKP (ho : PEm X W a f) (ha : PAm X W (e :: es) af)
  (hbase : attributeBase a "index" X.env (eval a X.env) = eval a X.env := by rfl)
  (hfew : ((backTo pos (starEach (e :: es) X.env)).all (fun x => !x.1) && (backToKw pos (keywordEach [] X.env)).all (fun x => x.1.isSome)
   && decide ((e :: es).length + ([] : List Keyword).length + (if ([] : List Keyword).isEmpty then 0 else 1) < 30)) = true := by rfl)
  (hline : (apos.endLine == pos.line) = true := by rfl) (hs : starEach (e :: es) X.env = (false, eval e X.env) :: starEach es X.env := by rfl) (hplain : (backTo pos (starEach es X.env)).any (·.1) = false := by rfl) :
  PEm X W (.Call (.Attribute a "index" apos) (e :: es) [] pos) (fun ρ S => (f ρ S).bind fun p S1 => if zPG p S1 = true then (af ρ S1).bind fun rs S2 => zWK p rs S2 else .no) :=
 zTW PySem.F.plainAttrs_str PySem.F.slot_str_index PySem.F.type_str_index yKN yKO ty_str ho ha hbase hfew hline hs hplain
def zMQ (p : Er) (S : Sto) (G : List MV → Option (List MV)) : R Er := match p with
 | .val (.loc l) => match S[l]? with
  | some (.lst ds) => match G ds with
   | some es => .ok (.val .non) (S.set l (.lst es))
   | none => .no
  | _ => .no
 | _ => .no
theorem zSP {α0 α : List Addr} {H0 H : Hp} {S : Sto} {p : Er} {x : V} {G : List MV → Option (List MV)} {Q : VK} (wd : Wd X.g α S H) (x0 : Ext α0 H0 α H) (dp : DenX X.K α H p x) (post : Post X.g W α0 H0 (zMQ p S G) Q) :
  ∃ a vs ds es, x = .ref a ∧ H a = some (.lst vs) ∧ DenL X.K α H ds vs ∧ G ds = some es ∧ ∀ us, DenL X.K α H es us → Q .non (upd H a (.lst us)) := by
 unfold zMQ at post
 split at post
 ·rename_i l
  obtain ⟨a, rfl, h⟩ := zGQ dp
  obtain ⟨ob, h1, h2⟩ := wd.of h
  rw [h1] at post
  cases ob with
  | lst ds =>
   obtain ⟨vs, h3, l1⟩ := h2
   have post : Post X.g W α0 H0 (match G ds with | some es => R.ok (Er.val .non) (S.set l (.lst es)) | none => R.no) Q := post
   split at post
   ·rename_i es eg
    refine ⟨a, vs, ds, es, rfl, h3, l1, eg, fun us lu => ?_⟩
    have xw := wd.writex h (o := .lst us)
    exact (post.shift (x0.trans xw)).val (wd.write h ⟨us, wR, lu.ext xw⟩) zKT
   ·exact post.elim
  | dic _ => exact post.elim
  | ins _ _ => exact post.elim
 ·exact post.elim
def zNP : Er → List Er → Sto → R Er
 | p, [r], S => (hU r S).bind fun y S1 => zMQ p S1 fun ds => if ds.length < sizeLine then some (ds ++ [y]) else none
 | _, _, _ => .no
theorem yEC : zZI X W yBR zNP := by
 intro p rs x vs α S H0 H Q α0 wd x0 dp da post
 match rs, da, post with
 | [], _, post => exact post.elim
 | _ :: _ :: _, _, post => exact post.elim
 | [r], da, post =>
  cases da with
  | cons d n l =>
   cases l
   obtain ⟨d', S', α', e', x', y', w', dd⟩ := zDO wd x0 d
   have post : Post X.g W α0 H0 ((hU r S).bind fun y S1 => zMQ p S1 fun ds => if ds.length < sizeLine then some (ds ++ [y]) else none) Q := post
   rw [e'] at post
   have dp' : DenX X.K α' H p x := by
    cases p with
    | val m => exact Den.ex0 y' dp
    | new ds => exact post.elim
   obtain ⟨a, us, ds, es, rfl, h1, l1, eg, k⟩ := zSP w' x' dp' post
   split at eg
   ·rename_i hz
    cases eg
    exact ⟨a, us, _, rfl, rfl, h1, by rw [l1.length]; exact hz, k _ (l1.append (xC dd xK))⟩
   ·cases eg
theorem gA (ho : PEm X W a f) (ha : PAm X W (e :: es) af)
  (hbase : attributeBase a "append" X.env (eval a X.env) = eval a X.env := by rfl)
  (hfew : ((backTo pos (starEach (e :: es) X.env)).all (fun x => !x.1) && (backToKw pos (keywordEach [] X.env)).all (fun x => x.1.isSome)
   && decide ((e :: es).length + ([] : List Keyword).length + (if ([] : List Keyword).isEmpty then 0 else 1) < 30)) = true := by rfl)
  (hline : (apos.endLine == pos.line) = true := by rfl) (hs : starEach (e :: es) X.env = (false, eval e X.env) :: starEach es X.env := by rfl) (hplain : (backTo pos (starEach es X.env)).any (·.1) = false := by rfl) :
  PEm X W (.Call (.Attribute a "append" apos) (e :: es) [] pos) (fun ρ S => (f ρ S).bind fun p S1 => if dC p S1 = true then (af ρ S1).bind fun rs S2 => zNP p rs S2 else .no) :=
 zTW PySem.F.plainAttrs_list PySem.F.slot_list_append PySem.F.type_list_append yDP yEC zZU ho ha hbase hfew hline hs hplain
def clrF : Er → List Er → Sto → R Er
 | p, [], S => zMQ p S fun _ => some []
 | _, _, _ => .no
def revF : Er → List Er → Sto → R Er
 | p, [], S => zMQ p S fun ds => some ds.reverse
 | _, _, _ => .no
theorem zZV : zZI X W zVW revF := by
 intro p rs x vs α S H0 H Q α0 wd x0 dp da post
 match rs, da, post with
 | _ :: _, _, post => exact post.elim
 | [], .nil, post =>
  have post : Post X.g W α0 H0 (zMQ p S fun ds => some ds.reverse) Q := post
  obtain ⟨a, us, ds, es, rfl, h1, l1, eg, k⟩ := zSP wd x0 dp post
  cases eg
  exact ⟨a, us, rfl, rfl, h1, k _ l1.reverse⟩
theorem zZW (ho : PEm X W a f) (hbase : attributeBase a "reverse" X.env (eval a X.env) = eval a X.env := by rfl) (hline : (apos.endLine == pos.line) = true := by rfl) :
  PEm X W (.Call (.Attribute a "reverse" apos) [] [] pos) (fun ρ S => (f ρ S).bind fun p S1 => if dC p S1 = true then revF p [] S1 else .no) :=
 yGO PySem.F.plainAttrs_list PySem.F.slot_list_reverse PySem.F.type_list_reverse zZG zZV zZU ho hbase hline
end
end M
end L2
namespace L2
namespace M
open PySem PySem.Spec PyProof.Rows
theorem _root_.L2.Inv.turnedL {X : Cx} {pins : List (Addr × Obj)} {σ : St} {H : Hp} {s : Shared} {h' : Heap} {t' : Nat} {fp : List Addr} (I : Inv X pins σ H s) (k : ∀ b o, b ∉ fp → s.heap.get? b = some o → h'.get? b = some o)
  (hf : ∀ b ∈ fp, zJK X pins H b) : Inv X pins σ H { s with heap := h', toks := t' } := by
 have nit : ∀ b u, H b = some u → b ∉ fp := fun b u e z => by rw [(hf b z).1] at e; cases e
 refine I.step (g' := s.gens) (d' := s.drawn) (ch := fp) (fun b hb => ⟨(hf b hb).2.2.2.1, (hf b hb).2.1, (hf b hb).2.2.2.2.1, (hf b hb).2.2.2.2.2⟩) (fun b o _ _ hc e _ => k b o hc e) (fun b o _ _ hc e _ => ⟨o.slots, k b o hc e⟩) (fun _ _ _ _ n => n)
  (fun b o hc e => ⟨o, k b o hc e⟩) (fun _ _ e => e) (fun _ _ _ e => e) (fun b ps e => ⟨#[], by rw [e]; simp⟩) (fun m hm => ?_) (fun b u e => ?_) I.bare
 ·obtain ⟨o, es, ep, ho, r⟩ := hm
  exact ⟨o, es, ep, k _ o (fun z => (hf _ z).2.1 rfl) ho, r⟩
 ·refine (I.hok b u e).stay (fun c v hc q => k c v ?_ q) (fun _ q => q) fun _ _ q => q
  rcases hc with z | z
  ·rw [z]; exact nit b u e
  ·exact nit c _ z
def IsSub (k : Bool) (h : Heap) (it l : Addr) (i : Nat) : Prop := if k = true then h.IsListIter it l i else h.IsTupleIter it l i
def IsSeq (k : Bool) (h : Heap) (l : Addr) (its : Array Value) : Prop := if k = true then h.IsList l its else h.IsTuple l its
def zEE (k : Bool) (l : Addr) : Obj := { cls := .type (if k = true then "list_iterator" else "tuple_iterator"), data := .fields #[.ref l, .int 0 0] }
theorem IsSub.mk' {k : Bool} {h : Heap} {it l : Addr} (e : h.get? it = some (zEE k l)) : IsSub k h it l 0 := by
 cases k with
 | true => exact ⟨_, e, rfl, rfl⟩
 | false => exact ⟨_, e, rfl, rfl⟩
theorem IsSub.there {k : Bool} {h : Heap} {it l : Addr} {i : Nat} (x : IsSub k h it l i) : ∃ o, h.get? it = some o ∧ ∀ v, o.data ≠ .cell v := by
 cases k with
 | true => obtain ⟨o, e, _, d⟩ := (x : h.IsListIter it l i); exact ⟨o, e, fun v z => by rw [d] at z; cases z⟩
 | false => obtain ⟨o, e, _, d⟩ := (x : h.IsTupleIter it l i); exact ⟨o, e, fun v z => by rw [d] at z; cases z⟩
theorem IsSub.move {k : Bool} {h h' : Heap} {it l : Addr} {i : Nat} (x : IsSub k h it l i) (f : ∀ o, h.get? it = some o → h'.get? it = some o) : IsSub k h' it l i := by
 cases k with
 | true => obtain ⟨o, e, r⟩ := (x : h.IsListIter it l i); exact ⟨o, f o e, r⟩
 | false => obtain ⟨o, e, r⟩ := (x : h.IsTupleIter it l i); exact ⟨o, f o e, r⟩
theorem IsSeq.move {k : Bool} {h h' : Heap} {l : Addr} {its : Array Value} (x : IsSeq k h l its) (f : ∀ o, h.get? l = some o → h'.get? l = some o) : IsSeq k h' l its := by
 cases k with
 | true => obtain ⟨o, e, r⟩ := (x : h.IsList l its); exact ⟨o, f o e, r⟩
 | false => obtain ⟨o, e, r⟩ := (x : h.IsTuple l its); exact ⟨o, f o e, r⟩
section
variable {prog : Program} {w : World} {A : Around} {E : Value → Shared → Prop} {s : Shared}
theorem zGW {k : Bool} {l : Addr} {its : Array Value} {Q : Value → Shared → Prop} (hl : IsSeq k s.heap l its) (h : Q (.ref s.heap.objs.size) { s with heap := s.heap.push (zEE k l) }) : wpAny (model prog w) A (pyIter (.ref l)) Q E s := by
 cases k with
 | true => exact wpAny_pyIter_list hl h
 | false => exact wpAny_pyIter_tuple hl h
theorem zLB {k : Bool} {it l : Addr} {i : Nat} {its : Array Value} {x : Value} {Q : Value → Shared → Prop} (hit : IsSub k s.heap it l i) (hl : IsSeq k s.heap l its) (hx : its[i]? = some x)
  (hQ : ∀ h', IsSub k h' it l (i + 1) → Heap.SameBut it s.heap h' → Q x { s with heap := h' }) : wpAny (model prog w) A (Builtin.SmallTypes.nextOf (.ref it)) Q E s := by
 cases k with
 | true => exact wpAny_nextOf_list_item hit hl hx hQ
 | false =>
  have hit' : s.heap.IsTupleIter it l i := hit
  obtain ⟨o, ho, hc, hd⟩ := id hit'
  obtain ⟨ol, hol, _, nl, hdl⟩ := (hl : s.heap.IsTuple l its)
  unfold Builtin.SmallTypes.nextOf
  refine wpAny_bind (wpAny_callSpecial?_slot (name := Str.ofString "__next__") hit'.typeIs F.slot_tuple_iterator_next (wpAny_call_entry F.slot_tuple_iterator_next hit'.typeIs F.entry_tuple_iterator_next ?_ (F.args_tuple_iterator_next_1 _)))
  show wpAny _ _ (field (.ref it) 0 >>= _) _ _ s
  refine wpAny_bind (wpAny_field ho hd (x := .ref l) rfl ?_)
  show wpAny _ _ (if (Value.ref l == Value.none) = true then _ else _) _ _ s
  rw [if_neg (show ¬ ((Value.ref l == Value.none) = true) from zQ3)]
  show wpAny _ _ (field (.ref it) 1 >>= _) _ _ s
  refine wpAny_bind (wpAny_field ho hd (x := .int i 0) rfl ?_)
  show wpAny _ _ (seqItems? (.ref l) >>= _) _ _ s
  refine wpAny_bind (wpAny_seqItems hol hdl ?_)
  simp only [Int.toNat_natCast, hx]
  refine wpAny_bind (wpAny_setField ho hd (by simp) (wpAny_pure ⟨x, rfl, wpAny_pure (hQ _ ?_ (Heap.SameBut.update ..))⟩))
  exact ⟨_, Heap.get?_update_self _ ho (Obj.isFreed_of_fields (Obj.data_mapFields hd _)), (Obj.cls_mapFields ..).trans hc, by rw [Obj.data_mapFields hd]; simp [rawInt]⟩
theorem zUC {k : Bool} {it l : Addr} {i : Nat} {its : Array Value} {Q : Value → Shared → Prop} (hh : A.handled = none) (hit : IsSub k s.heap it l i) (hl : IsSeq k s.heap l its) (hx : its[i]? = none)
  (hE : ∀ h' e, Heap.ExtBut it s.heap h' → (∃ o, h'.get? e = some o ∧ o.cls = .type "StopIteration") → E (.ref e) { s with heap := h' }) : wpAny (model prog w) A (Builtin.SmallTypes.nextOf (.ref it)) Q E s := by
 cases k with
 | true => exact wpAny_nextOf_list_end hh hit hl hx hE
 | false =>
  have hit' : s.heap.IsTupleIter it l i := hit
  obtain ⟨o, ho, hc, hd⟩ := id hit'
  obtain ⟨ol, hol, _, nl, hdl⟩ := (hl : s.heap.IsTuple l its)
  unfold Builtin.SmallTypes.nextOf
  refine wpAny_bind (wpAny_callSpecial?_slot (name := Str.ofString "__next__") hit'.typeIs F.slot_tuple_iterator_next (wpAny_call_entry F.slot_tuple_iterator_next hit'.typeIs F.entry_tuple_iterator_next ?_ (F.args_tuple_iterator_next_1 _)))
  show wpAny _ _ (field (.ref it) 0 >>= _) _ _ s
  refine wpAny_bind (wpAny_field ho hd (x := .ref l) rfl ?_)
  show wpAny _ _ (if (Value.ref l == Value.none) = true then _ else _) _ _ s
  rw [if_neg (show ¬ ((Value.ref l == Value.none) = true) from zQ3)]
  show wpAny _ _ (field (.ref it) 1 >>= _) _ _ s
  refine wpAny_bind (wpAny_field ho hd (x := .int i 0) rfl ?_)
  show wpAny _ _ (seqItems? (.ref l) >>= _) _ _ s
  refine wpAny_bind (wpAny_seqItems hol hdl ?_)
  simp only [Int.toNat_natCast, hx]
  refine wpAny_bind (wpAny_rule (wpAny_bind (wpAny_setField ho hd (by simp) ?_)))
  show wpAny _ _ (newExc (.type "StopIteration") [] >>= _) _ _ _
  refine wpAny_bind ?_
  simp only [newExc, newTuple]
  refine wpAny_bind (wpAny_newObj_type ?_ (by size_fits))
  refine wpAny_bind (m := firstArgMember _ _) (wpAny_of_eq (a := Value.none) (by first | rfl | (simp only [firstArgMember]; rfl)) ?_)
  refine wpAny_newObj_type ?_ (by size_fits)
  simp only [raiseNew]
  refine wpAny_bind (wpAny_handled ?_)
  first | rw [show A.in1.handled = none from hh] | rw [hh]
  refine wpAny_bind (wpAny_pure (wpAny_throw ?_))
  exact hE _ _ (((Heap.SameBut.update ..).extBut.push _).push _) ⟨_, Heap.get?_push_size _ rfl, rfl⟩
end
structure ZipSt (k1 k2 : Bool) (z TI TO i1 i2 l1 l2 : Addr) (i : Nat) (h : Heap) : Prop where
 z : IsZip h z TI TO .none
 ti : IsPair h TI (.ref i1) (.ref i2)
 to : ∃ a b, IsPair h TO a b
 s1 : IsSub k1 h i1 l1 i
 s2 : IsSub k2 h i2 l2 i
structure Apart5 (z TI TO i1 i2 : Addr) : Prop where
 TIz : TI ≠ z
 TOz : TO ≠ z
 i1z : i1 ≠ z
 i2z : i2 ≠ z
 TITO : TI ≠ TO
 TIi1 : TI ≠ i1
 TIi2 : TI ≠ i2
 TOi1 : TO ≠ i1
 TOi2 : TO ≠ i2
 i12 : i1 ≠ i2
section
variable {prog : Program} {w : World} {A : Around} {E : Value → Shared → Prop} {s : Shared} {k1 k2 : Bool} {z TI TO i1 i2 l1 l2 : Addr} {i : Nat} {xs ys : Array Value}
def Off (l z TO i1 i2 : Addr) : Prop := l ≠ z ∧ l ≠ TO ∧ l ≠ i1 ∧ l ≠ i2
theorem yHD {x y : Value} {Q : Value → Shared → Prop} (D : Apart5 z TI TO i1 i2) (o1 : Off l1 z TO i1 i2) (o2 : Off l2 z TO i1 i2) (st : ZipSt k1 k2 z TI TO i1 i2 l1 l2 i s.heap) (hl1 : IsSeq k1 s.heap l1 xs) (hl2 : IsSeq k2 s.heap l2 ys) (hx : xs[i]? = some x) (hy : ys[i]? = some y)
  (hQ : ∀ h', IsZip h' z TI TO (rawInt s.heap.objs.size) → IsPair h' TO x y → IsSub k1 h' i1 l1 (i + 1) → IsSub k2 h' i2 l2 (i + 1) → IsPair h' s.heap.objs.size x y →
   (∀ c o, c ≠ z → c ≠ TO → c ≠ i1 → c ≠ i2 → s.heap.get? c = some o → h'.get? c = some o) → Q (.ref s.heap.objs.size) { s with heap := h' }) :
  wpAny (model prog w) A (Builtin.«zip.__next__» ⟨[.ref z], []⟩) (fun fin s' => ∃ v, fin = .done (.ret v) ∧ Q v s') E s := by
 obtain ⟨hz, hTI, ⟨a, b, hTO⟩, h1, h2⟩ := st
 show wpAny _ _ (field (.ref z) 2 >>= _) _ _ _
 refine wpAny_bind (wpAny_field hz rfl (x := .bool false) rfl ?_)
 show wpAny _ _ (field (.ref z) 3 >>= _) _ _ _
 refine wpAny_bind (wpAny_field hz rfl (x := .ref TI) rfl (wpAny_bind (wpAny_seqItems hTI rfl ?_)))
 show wpAny _ _ (Builtin.SmallTypes.ownedTupleIsFree (.ref z) >>= _) _ _ _
 refine wpAny_bind ?_
 unfold Builtin.SmallTypes.ownedTupleIsFree
 refine wpAny_bind (wpAny_field hz rfl (x := .none) rfl (wpAny_pure ?_))
 simp only [if_true]
 refine wpAny_bind (wpAny_rule (wpAny_bind (wpAny_field hz rfl (x := .ref TO) rfl (wpAny_bind (wpAny_setField_rec hz (by simp) fun ha hza hsa => ?_)))))
 replace hza : IsZip ha z TI TO .ellipsis := hza
 refine wpAny_bind ?_
 simp only [List.zipIdx_cons, List.zipIdx_nil, List.forIn_cons, List.forIn_nil]
 refine wpAny_bind (wpAny_bind (wpAny_onRaise ?_))
 show wpAny _ _ (Builtin.SmallTypes.nextOf (.ref i1) >>= _) _ _ _
 refine wpAny_bind (zLB (h1.move fun o e => hsa.extBut _ _ D.i1z e) (hl1.move fun o e => hsa.extBut _ _ o1.1 e) hx fun hb h1b hsb => wpAny_pure ?_)
 have tob : IsPair hb TO a b := hsb.extBut _ _ D.TOi1 (hsa.extBut _ _ D.TOz hTO)
 refine wpAny_bind (wpAny_seqItems tob rfl (wpAny_bind (wpAny_updateSeq_pair tob fun hc toc hsc => wpAny_bind (wpAny_letGo (wpAny_pure ?_)))))
 replace toc : IsPair hc TO x b := toc
 refine wpAny_bind (wpAny_bind (wpAny_onRaise ?_))
 show wpAny _ _ (Builtin.SmallTypes.nextOf (.ref i2) >>= _) _ _ _
 have mv : ∀ c o, c ≠ z → c ≠ TO → c ≠ i1 → s.heap.get? c = some o → hc.get? c = some o := fun c o n1 n2 n3 e => hsc.extBut _ _ n2 (hsb.extBut _ _ n3 (hsa.extBut _ _ n1 e))
 refine wpAny_bind (zLB (h2.move fun o e => mv _ o D.i2z D.TOi2.symm D.i12.symm e) (hl2.move fun o e => mv _ o o2.1 o2.2.1 o2.2.2.1 e) hy fun hd h2d hsd => wpAny_pure ?_)
 have tod : IsPair hd TO x b := hsd.extBut _ _ D.TOi2 toc
 refine wpAny_bind (wpAny_seqItems tod rfl (wpAny_bind (wpAny_updateSeq_pair tod fun he toe hse => wpAny_bind (wpAny_letGo (wpAny_pure (wpAny_pure ?_))))))
 replace toe : IsPair he TO x y := toe
 refine wpAny_bind (wpAny_seqItems toe rfl (wpAny_bind (wpAny_newTuple ?_)))
 have hsz : he.objs.size = s.heap.objs.size := by rw [hse.1, hsd.1, hsc.1, hsb.1, hsa.1]
 have ze : IsZip he z TI TO .ellipsis := hse.extBut _ _ D.TOz.symm (hsd.extBut _ _ D.i2z.symm (hsc.extBut _ _ D.TOz.symm (hsb.extBut _ _ D.i1z.symm hza)))
 have mve : ∀ c o, c ≠ z → c ≠ TO → c ≠ i1 → c ≠ i2 → s.heap.get? c = some o → he.get? c = some o := fun c o n1 n2 n3 n4 e => hse.extBut _ _ n2 (hsd.extBut _ _ n4 (mv c o n1 n2 n3 e))
 have s1e : IsSub k1 he i1 l1 (i + 1) := h1b.move fun o e => hse.extBut _ _ D.TOi1.symm (hsd.extBut _ _ D.i12 (hsc.extBut _ _ D.TOi1.symm e))
 have s2e : IsSub k2 he i2 l2 (i + 1) := h2d.move fun o e => hse.extBut _ _ D.TOi2.symm e
 have hzlt : z < he.objs.size := Heap.lt_size ze
 show wpAny _ _ (Builtin.SmallTypes.ownedTupleHandOut (.ref z) (.ref he.objs.size) >>= _) _ _ _
 refine wpAny_bind ?_
 unfold Builtin.SmallTypes.ownedTupleHandOut
 have zf : IsZip (he.push { cls := .type "tuple", data := .seq #[x, y] }) z TI TO .ellipsis := Heap.get?_push_of_some _ ze
 refine wpAny_bind (wpAny_setField_rec zf (by simp) fun hg' zg hsg => ?_)
 replace zg : IsZip hg' z TI TO (rawInt he.objs.size) := zg
 refine wpAny_setField_rec zg (by simp) fun hh' zh hsh => ?_
 replace zh : IsZip hh' z TI TO (rawInt he.objs.size) := zh
 have up : ∀ c o, c ≠ z → he.get? c = some o → hh'.get? c = some o := fun c o c1 e => hsh.extBut _ _ c1 (hsg.extBut _ _ c1 (Heap.get?_push_of_some _ e))
 have tT : IsPair hh' he.objs.size x y := hsh.extBut _ _ (Nat.ne_of_gt hzlt) (hsg.extBut _ _ (Nat.ne_of_gt hzlt) (Heap.get?_push_size _ rfl))
 rw [hsz] at zh tT
 refine wpAny_pure ⟨_, rfl, ?_⟩
 show Q (.ref he.objs.size) _
 rw [hsz]
 exact hQ hh' zh (up _ _ D.TOz toe) (s1e.move fun o e => up _ o D.i1z e) (s2e.move fun o e => up _ o D.i2z e) tT fun c o c1 c2 c3 c4 e => up c o c1 (mve c o c1 c2 c3 c4 e)
theorem yKQ {Q : Fin → Shared → Prop} (hh : A.handled = none) (D : Apart5 z TI TO i1 i2) (o1 : Off l1 z TO i1 i2) (o2 : Off l2 z TO i1 i2) (st : ZipSt k1 k2 z TI TO i1 i2 l1 l2 i s.heap) (hl1 : IsSeq k1 s.heap l1 xs) (hl2 : IsSeq k2 s.heap l2 ys) (hend : xs[i]? = none ∨ ys[i]? = none)
  (hE : ∀ h' e, (∀ c o, c ≠ z → c ≠ TO → c ≠ i1 → c ≠ i2 → s.heap.get? c = some o → h'.get? c = some o) → (∃ o, h'.get? e = some o ∧ o.cls = .type "StopIteration") → E (.ref e) { s with heap := h' }) :
  wpAny (model prog w) A (Builtin.«zip.__next__» ⟨[.ref z], []⟩) Q E s := by
 obtain ⟨hz, hTI, ⟨a, b, hTO⟩, h1, h2⟩ := st
 show wpAny _ _ (field (.ref z) 2 >>= _) _ _ _
 refine wpAny_bind (wpAny_field hz rfl (x := .bool false) rfl ?_)
 show wpAny _ _ (field (.ref z) 3 >>= _) _ _ _
 refine wpAny_bind (wpAny_field hz rfl (x := .ref TI) rfl (wpAny_bind (wpAny_seqItems hTI rfl ?_)))
 show wpAny _ _ (Builtin.SmallTypes.ownedTupleIsFree (.ref z) >>= _) _ _ _
 refine wpAny_bind ?_
 unfold Builtin.SmallTypes.ownedTupleIsFree
 refine wpAny_bind (wpAny_field hz rfl (x := .none) rfl (wpAny_pure ?_))
 simp only [if_true]
 refine wpAny_bind (wpAny_rule (wpAny_bind (wpAny_field hz rfl (x := .ref TO) rfl (wpAny_bind (wpAny_setField_rec hz (by simp) fun ha hza hsa => ?_)))))
 replace hza : IsZip ha z TI TO .ellipsis := hza
 refine wpAny_bind ?_
 simp only [List.zipIdx_cons, List.zipIdx_nil, List.forIn_cons, List.forIn_nil]
 refine wpAny_bind (wpAny_bind (wpAny_onRaise ?_))
 show wpAny _ _ (Builtin.SmallTypes.nextOf (.ref i1) >>= _) _ _ _
 cases hx : xs[i]? with
 | none =>
  refine wpAny_bind (zUC hh (h1.move fun o e => hsa.extBut _ _ D.i1z e) (hl1.move fun o e => hsa.extBut _ _ o1.1 e) hx fun hb e hsb he => ?_)
  obtain ⟨oe, hoe, hce⟩ := he
  have hzb : IsZip hb z TI TO .ellipsis := hsb _ _ D.i1z.symm hza
  have hez : e ≠ z := fun q => by subst q; rw [hzb] at hoe; cases hoe; simp at hce
  exact wpAny_setField_rec hzb (by simp) fun hc _ hsc => hE hc e (fun c o c1 _ c3 _ q => hsc.extBut _ _ c1 (hsb _ _ c3 (hsa.extBut _ _ c1 q))) ⟨oe, hsc.extBut _ _ hez hoe, hce⟩
 | some x =>
  have hy : ys[i]? = none := by rcases hend with h | h; (rw [hx] at h; cases h); exact h
  refine wpAny_bind (zLB (h1.move fun o e => hsa.extBut _ _ D.i1z e) (hl1.move fun o e => hsa.extBut _ _ o1.1 e) hx fun hb h1b hsb => wpAny_pure ?_)
  have tob : IsPair hb TO a b := hsb.extBut _ _ D.TOi1 (hsa.extBut _ _ D.TOz hTO)
  refine wpAny_bind (wpAny_seqItems tob rfl (wpAny_bind (wpAny_updateSeq_pair tob fun hc toc hsc => wpAny_bind (wpAny_letGo (wpAny_pure ?_)))))
  refine wpAny_bind (wpAny_bind (wpAny_onRaise ?_))
  show wpAny _ _ (Builtin.SmallTypes.nextOf (.ref i2) >>= _) _ _ _
  have mv : ∀ c o, c ≠ z → c ≠ TO → c ≠ i1 → s.heap.get? c = some o → hc.get? c = some o := fun c o n1 n2 n3 e => hsc.extBut _ _ n2 (hsb.extBut _ _ n3 (hsa.extBut _ _ n1 e))
  refine wpAny_bind (zUC hh (h2.move fun o e => mv _ o D.i2z D.TOi2.symm D.i12.symm e) (hl2.move fun o e => mv _ o o2.1 o2.2.1 o2.2.2.1 e) hy fun hd e hsd he => ?_)
  obtain ⟨oe, hoe, hce⟩ := he
  have hzd : IsZip hd z TI TO .ellipsis := hsd _ _ D.i2z.symm (hsc.extBut _ _ D.TOz.symm (hsb.extBut _ _ D.i1z.symm hza))
  have hez : e ≠ z := fun q => by subst q; rw [hzd] at hoe; cases hoe; simp at hce
  exact wpAny_setField_rec hzd (by simp) fun hg' _ hsg => hE hg' e (fun c o c1 c2 c3 c4 q => hsg.extBut _ _ c1 (hsd _ _ c4 (mv c o c1 c2 c3 q))) ⟨oe, hsg.extBut _ _ hez hoe, hce⟩
theorem zZX (k1 k2 : Bool) (l1 l2 : Addr) (xs ys : Array Value) :
  Meets (Builtin.«zip.__new__» ⟨[.type "zip", .ref l1, .ref l2], []⟩) (fun _ R s => IsSeq k1 s.heap l1 xs ∧ IsSeq k2 s.heap l2 ys ∧
   R (.ok (.ret (.ref (s.heap.objs.size + 4)))) { s with heap := ((((s.heap.push (zEE k1 l1)).push (zEE k2 l2)).push { cls := .type "tuple", data := .seq #[.ref s.heap.objs.size, .ref (s.heap.objs.size + 1)] }).push { cls := .type "tuple", data := .seq #[.none, .none] }).push { cls := .type "zip", data := .fields #[.none, .bool false, .bool false, .ref (s.heap.objs.size + 2), .ref (s.heap.objs.size + 3)] } }) :=
 .of_wp fun prog w A R s h => by
  obtain ⟨hp, g, d, tk, os⟩ := s; obtain ⟨hl1, hl2, h⟩ := h
  have hsub := sub_zip
  have hL1 : IsSeq k1 (Shared.heap ⟨hp, g, d, tk, os⟩) l1 xs := hl1
  have hL2 : IsSeq k2 (Shared.heap ⟨hp.push (zEE k1 l1), g, d, tk, os⟩) l2 ys := hl2.move fun o e => Heap.get?_push_of_some _ e
  have z1 : ∀ (h : Heap) (o : Obj), (h.push o).objs.size = h.objs.size + 1 := fun h o => Heap.size_push ..
  simp only [z1] at h ⊢
  wp_walk using zGW hL1, zGW hL2
  exact ⟨_, rfl, by simp only [z1]; exact h⟩
theorem yHE (hl1 : IsSeq k1 s.heap l1 xs) (hl2 : IsSeq k2 s.heap l2 ys) {Q : Value → Shared → Prop}
  (h : ∀ h', ZipSt k1 k2 (s.heap.objs.size + 4) (s.heap.objs.size + 2) (s.heap.objs.size + 3) s.heap.objs.size (s.heap.objs.size + 1) l1 l2 0 h' → (∀ c o, s.heap.get? c = some o → h'.get? c = some o) → Q (.ref (s.heap.objs.size + 4)) { s with heap := h' }) :
  wpAny (model prog w) A (call (.type "zip") [.ref l1, .ref l2]) Q E s := by
 refine callType_new F.called_zip (by decide) (F.typeCall_zip_2 _ _) (F.newCall_zip_2 _ _) (fun obj => F.args_object_init_3 obj _ _) F.entry_zip_new (zZX k1 k2 l1 l2 xs ys) ⟨hl1, hl2, ?_⟩
 have z1 : ∀ (h : Heap) (o : Obj), (h.push o).objs.size = h.objs.size + 1 := fun h o => Heap.size_push ..
 have pg : ∀ (h : Heap) (o : Obj) (n : Nat), o.isFreed = false → h.objs.size = n → (h.push o).get? n = some o := fun h o n hf e => by subst e; exact Heap.get?_push_size _ hf
 have up : ∀ (h : Heap) (o u : Obj) (n : Nat), h.get? n = some u → (h.push o).get? n = some u := fun h o u n e => Heap.get?_push_of_some _ e
 refine ⟨⟨_, pg _ _ _ rfl (by simp only [z1]), rfl⟩, h _ ⟨pg _ _ _ rfl (by simp only [z1]), up _ _ _ _ (up _ _ _ _ (pg _ _ _ rfl (by simp only [z1]))), ⟨.none, .none, up _ _ _ _ (pg _ _ _ rfl (by simp only [z1]))⟩, ?_, ?_⟩ fun c o e => up _ _ _ _ (up _ _ _ _ (up _ _ _ _ (up _ _ _ _ (up _ _ _ _ e))))⟩
 ·exact IsSub.mk' (up _ _ _ _ (up _ _ _ _ (up _ _ _ _ (up _ _ _ _ (pg _ _ _ rfl rfl)))))
 ·exact IsSub.mk' (up _ _ _ _ (up _ _ _ _ (up _ _ _ _ (pg _ _ _ rfl (by simp only [z1])))))
end
theorem apart_new (n : Nat) : Apart5 (n + 4) (n + 2) (n + 3) n (n + 1) := by
 constructor <;> (show (_ : Nat) ≠ _; omega)
def SqK (k : Bool) (K : PySem.W.Frag) (H : Hp) (a : Addr) (xs : List V) : Prop := if k = true then SqL K H a xs else SqT K H a xs
def Itz (K : PySem.W.Frag) (k1 k2 : Bool) (l1 l2 : Addr) : It :=
 ⟨fun i H => ∃ xs ys x y, SqK k1 K H l1 xs ∧ SqK k2 K H l2 ys ∧ xs[i]? = some x ∧ ys[i]? = some y,
   fun i H v H' => ∃ p x y, H p = none ∧ v = .ref p ∧ H' = upd H p (.tup [x, y]) ∧ (∀ xs, SqK k1 K H l1 xs → xs[i]? = some x) ∧ ∀ ys, SqK k2 K H l2 ys → ys[i]? = some y,
   fun i H => ∃ xs ys, SqK k1 K H l1 xs ∧ SqK k2 K H l2 ys ∧ (xs.length ≤ i ∨ ys.length ≤ i)⟩
section
variable {X : Cx} {pins : List (Addr × Obj)} {σ : St} {H : Hp} {s : Shared}
theorem _root_.L2.Inv.seqK (I : Inv X pins σ H s) {k : Bool} {a : Addr} {xs : List V} (h : SqK k X.K H a xs) : ∃ its : List Value, Vals xs its ∧ IsSeq k s.heap a its.toArray ∧ xs.length ≤ sizeLine := by
 cases k with
 | true => obtain ⟨its, r, p, z⟩ := I.list h; exact ⟨its, r, p.isList, z⟩
 | false => obtain ⟨its, r, p, z⟩ := I.tuple h; exact ⟨its, r, p, z⟩
theorem _root_.L2.Inv.seqK_inj (I : Inv X pins σ H s) {k : Bool} {a : Addr} {xs ys : List V} (h : SqK k X.K H a xs) (h' : SqK k X.K H a ys) : xs = ys := by
 cases k with
 | true => exact I.list_inj h h'
 | false => exact I.tuple_inj h h'
theorem zCA (I : Inv X pins σ H s) {k : Bool} {l b : Addr} {xs : List V} (h : SqK k X.K H l xs) (hb : zJK X pins H b) : l ≠ b := by
 rintro rfl
 have kk : ∀ o, X.K.lookup l = some o → False := fun o e => by
  have e1 := I.mod.kin l o e
  rcases hb.2.2.2.1 with z | z
  ·exact I.ok.noex l o e1 z
  ·exact absurd (Nat.lt_of_lt_of_le (Heap.lt_size e1) (Nat.le_trans I.ok.bsz z)) (Nat.lt_irrefl _)
 cases k with
 | true =>
  rcases (h : SqL X.K H l xs) with (h | ⟨o, h⟩) | ⟨o, its, n, h, _⟩
  ·rw [hb.1] at h; cases h
  ·rw [hb.1] at h; cases h
  ·exact kk o h
 | false =>
  rcases (h : SqT X.K H l xs) with (h | ⟨o, h⟩) | ⟨o, its, n, h, _⟩
  ·rw [hb.1] at h; cases h
  ·rw [hb.1] at h; cases h
  ·exact kk o h
end
theorem yHF {P : Program} {w : World} {K : PySem.W.Frag} {elts : List Expr} {kt : Nat} {pt : Pos} {k1 k2 : Bool} {z TI TO i1 i2 l1 l2 : Addr} (D : Apart5 z TI TO i1 i2) :
  Turn P w K (.Tuple elts kt pt) (Itz K k1 k2 l1 l2) [z, TI, TO, i1, i2] z (fun i h => ZipSt k1 k2 z TI TO i1 i2 l1 l2 i h) where
 mem := by simp
 obj := fun i h st b hb => by
  obtain ⟨hz, hTI, ⟨a, b', hTO⟩, h1, h2⟩ := st
  have hb' : b = z ∨ b = TI ∨ b = TO ∨ b = i1 ∨ b = i2 := by simpa using hb
  rcases hb' with rfl | rfl | rfl | rfl | rfl
  ·exact ⟨_, hz, fun v q => by cases q⟩
  ·exact ⟨_, hTI, fun v q => by cases q⟩
  ·exact ⟨_, hTO, fun v q => by cases q⟩
  ·exact h1.there
  ·exact h2.there
 keep := fun i h h' st k => by
  obtain ⟨hz, hTI, ⟨a, b', hTO⟩, h1, h2⟩ := st
  exact ⟨k z (by simp) _ hz, k TI (by simp) _ hTI, ⟨a, b', k TO (by simp) _ hTO⟩, h1.move fun o e => k i1 (by simp) o e, h2.move fun o e => k i2 (by simp) o e⟩
 item := by
  intro X hP hw hK hc i pins s σ H E I hf st hg
  subst hP hw hK
  obtain ⟨xs, ys, x, y, q1, q2, hx, hy⟩ := hg
  obtain ⟨its, r1, p1, _⟩ := I.seqK q1
  obtain ⟨its2, r2, p2, _⟩ := I.seqK q2
  obtain ⟨u, hu, ru⟩ := r1.get hx
  obtain ⟨v, hv, rv⟩ := r2.get hy
  have off : ∀ {k : Bool} {l : Addr} {xs : List V}, SqK k X.K H l xs → Off l z TO i1 i2 := fun q => ⟨zCA I q (hf z (by simp)), zCA I q (hf TO (by simp)), zCA I q (hf i1 (by simp)), zCA I q (hf i2 (by simp))⟩
  have hT : s.TypeIs (.ref z) "zip" := ⟨_, st.z, rfl⟩
  unfold pyNext
  refine wpAny_bind (wpAny_attempt (wpAny_callSpecial?_slot (name := Str.ofString "__next__") hT F.slot_zip_next (wpAny_call_entry F.slot_zip_next hT F.entry_zip_next
   (yHD D (off q1) (off q2) st p1 p2 (x := u) (y := v) (by simpa using hu) (by simpa using hv) fun h' a1 a2 a3 a4 a5 a6 => wpAny_pure ⟨_, rfl, ?_⟩) (F.args_zip_next_1 _))))
  refine wpAny_letOwnedTupleGo_zip a1 fun h2 z2 sb2 => ?_
  have hpn : H s.heap.objs.size = none := I.hok.fresh (Nat.le_refl _)
  have I0 : Inv X pins σ (upd H s.heap.objs.size (.tup [x, y])) { s with heap := s.heap.push { cls := .type "tuple", data := .seq #[u, v] } } :=
   I.laid (t' := s.toks) (o := .tup [x, y]) (fun b o e => Heap.get?_push_of_some _ e) (Nat.le_refl _) ⟨by show 2 ≤ sizeLine; decide, [u, v], .cons ru (.cons rv .nil), ⟨_, Heap.get?_push_size _ rfl, rfl, _, rfl⟩⟩
  have lt : ∀ b ∈ [z, TI, TO, i1, i2], b < s.heap.objs.size := fun b hb => by
   have : ∃ o, s.heap.get? b = some o := by
    obtain ⟨hz, hTI, ⟨a, b', hTO⟩, g1, g2⟩ := st
    have hb' : b = z ∨ b = TI ∨ b = TO ∨ b = i1 ∨ b = i2 := by simpa using hb
    rcases hb' with rfl | rfl | rfl | rfl | rfl
    ·exact ⟨_, hz⟩
    ·exact ⟨_, hTI⟩
    ·exact ⟨_, hTO⟩
    ·obtain ⟨o, e, _⟩ := g1.there; exact ⟨o, e⟩
    ·obtain ⟨o, e, _⟩ := g2.there; exact ⟨o, e⟩
   obtain ⟨o, e⟩ := this
   exact Heap.lt_size e
  have fr : ∀ b ∈ [z, TI, TO, i1, i2], upd H s.heap.objs.size (.tup [x, y]) b = none := fun b hb => by rw [yP (Nat.ne_of_lt (lt b hb))]; exact (hf b hb).1
  have zne : s.heap.objs.size ≠ z := Nat.ne_of_gt (lt z (by simp))
  have mv : ∀ b o, b ∉ [z, TI, TO, i1, i2] → (s.heap.push { cls := .type "tuple", data := .seq #[u, v] }).get? b = some o → h2.get? b = some o := fun b o hb e => by
   simp only [List.mem_cons, List.not_mem_nil, or_false, not_or] at hb
   refine sb2.extBut _ _ hb.1 ?_
   by_cases hbs : b = s.heap.objs.size
   ·subst hbs
    rw [Heap.get?_push_size _ rfl] at e
    cases e
    exact a5
   ·rw [Heap.get?_push_ne _ _ _ hbs] at e
    exact a6 b o hb.1 hb.2.2.1 hb.2.2.2.1 hb.2.2.2.2 e
  have I2 := I0.turnedL (h' := h2) (t' := s.toks) mv fun b hb => let ⟨_, c2, c3, c4, c5, c6⟩ := hf b hb; ⟨fr b hb, c2, c3, c4, c5, c6⟩
  refine ⟨.ref s.heap.objs.size, _, I2, rfl, ⟨s.heap.objs.size, x, y, hpn, rfl, rfl, fun zs hz => ?_, fun zs hz => ?_⟩, ⟨z2, ?_, ⟨u, v, ?_⟩, ?_, ?_⟩, fr⟩
  ·rw [I.seqK_inj hz q1]; exact hx
  ·rw [I.seqK_inj hz q2]; exact hy
  ·exact sb2.extBut _ _ D.TIz (a6 TI _ D.TIz D.TITO D.TIi1 D.TIi2 st.ti)
  ·exact sb2.extBut _ _ D.TOz a2
  ·exact a3.move fun o e => sb2.extBut _ _ D.i1z e
  ·exact a4.move fun o e => sb2.extBut _ _ D.i2z e
 done := by
  intro X hP hw hK hc i pins s σ H E I hf st hg
  subst hP hw hK
  obtain ⟨xs, ys, q1, q2, hx⟩ := hg
  obtain ⟨its, r1, p1, _⟩ := I.seqK q1
  obtain ⟨its2, r2, p2, _⟩ := I.seqK q2
  have off : ∀ {k : Bool} {l : Addr} {xs : List V}, SqK k X.K H l xs → Off l z TO i1 i2 := fun q => ⟨zCA I q (hf z (by simp)), zCA I q (hf TO (by simp)), zCA I q (hf i1 (by simp)), zCA I q (hf i2 (by simp))⟩
  have hT : s.TypeIs (.ref z) "zip" := ⟨_, st.z, rfl⟩
  have e1 := r1.length
  have e2 := r2.length
  unfold pyNext
  refine wpAny_bind (wpAny_attempt (wpAny_callSpecial?_slot (name := Str.ofString "__next__") hT F.slot_zip_next (wpAny_call_entry F.slot_zip_next hT F.entry_zip_next
   (yKQ (I.ok.hd hc) D (off q1) (off q2) st p1 p2 (by rcases hx with h | h; (exact .inl (by simp; omega)); exact .inr (by simp; omega)) fun h' e hk he => ?_) (F.args_zip_next_1 _))))
  obtain ⟨o, ho, hcl⟩ := he
  refine wpAny_bind (wpAny_isInstance (T := "StopIteration") (b := true) ⟨o, ho, hcl⟩ isSubtype_stop (wpAny_pure ⟨rfl, ?_⟩))
  refine I.turnedL (h' := h') (t' := s.toks) (fun b o hb e => ?_) hf
  simp only [List.mem_cons, List.not_mem_nil, or_false, not_or] at hb
  exact hk b o hb.1 hb.2.2.1 hb.2.2.2.1 hb.2.2.2.2 e
 self := fun _ _ _ _ _ st h => wpAny_pyIter_zip st.z h
end M
end L2
namespace L2
namespace M
open PySem PySem.Spec PyProof.Rows
structure Sr where
 k : Bool
 ds : List MV
 gs : List (Nat × List MV)
def srcOf (S : Sto) : Er → Option Sr
 | .val (.tup ds) => some ⟨false, ds, []⟩
 | .new ds => some ⟨true, ds, []⟩
 | .val (.scr ds) => some ⟨true, ds, []⟩
 | .val (.loc l) => match S[l]? with
  | some (.lst ds) => some ⟨true, ds, [(l, ds)]⟩
  | _ => none
 | _ => none
structure SrcD (X : Cx) (q : Sr) (l : Addr) (P : List Addr → Sto → Hp → Prop) : Prop where
 get : ∀ α S H, P α S H → ∃ vs, SqK q.k X.K H l vs ∧ DenL X.K α H q.ds vs
 stays : ∀ α1 S1 H1 α2 S2 H2, P α1 S1 H1 → Ext α1 H1 α2 H2 → Wd X.g α2 S2 H2 → stay q.gs S2 → P α2 S2 H2
 st : ∀ α S H, P α S H → stay q.gs S
theorem zZY {X : Cx} {α : List Addr} {S : Sto} {H : Hp} (wd : Wd X.g α S H) {r : Er} {x : V} {q : Sr} (e : srcOf S r = some q) (d : DenX X.K α H r x) : ∃ l P, x = .ref l ∧ P α S H ∧ SrcD X q l P := by
 unfold srcOf at e
 split at e
 ·rename_i ds
  cases e
  obtain ⟨a, vs, rfl, s, l⟩ := dQ d
  exact ⟨a, fun α S H => ∃ vs, SqT X.K H a vs ∧ DenL X.K α H ds vs, rfl, ⟨vs, s, l⟩, fun α S H h => h, fun α1 S1 H1 α2 S2 H2 ⟨vs, h1, h2⟩ x w _ => ⟨vs, x.sqT h1, h2.ext x⟩, fun _ _ _ _ => gO⟩
 ·rename_i ds
  cases e
  obtain ⟨b, vs, rfl, h, n, l⟩ := d
  exact ⟨b, fun α S H => ∃ vs, H b = some (.lst vs) ∧ b ∉ α ∧ DenL X.K α H ds vs, rfl, ⟨vs, h, n, l⟩, fun α S H ⟨vs, h1, _, h2⟩ => ⟨vs, (SqL.of h1 : SqL X.K H b vs), h2⟩,
   fun α1 S1 H1 α2 S2 H2 ⟨vs, h1, h2, h3⟩ x w _ => ⟨vs, x.keep b _ h1 h2, x.out h1 h2, h3.ext x⟩, fun _ _ _ _ => gO⟩
 ·rename_i ds
  cases e
  obtain ⟨a, vs, rfl, s, l⟩ := zOU d
  exact ⟨a, fun α S H => ∃ vs, SqF X.K H a vs ∧ DenL X.K α H ds vs, rfl, ⟨vs, s, l⟩, fun α S H ⟨vs, h1, h2⟩ => ⟨vs, h1.l, h2⟩, fun α1 S1 H1 α2 S2 H2 ⟨vs, h1, h2⟩ x w _ => ⟨vs, x.sqF h1, h2.ext x⟩, fun _ _ _ _ => gO⟩
 ·rename_i n
  split at e
  ·rename_i ds hS
   cases e
   obtain ⟨a, rfl, h⟩ := zGQ d
   obtain ⟨vs, h1, h2⟩ := wd.obj n a _ h hS
   refine ⟨a, fun α S H => ∃ vs, H a = some (.lst vs) ∧ DenL X.K α H ds vs ∧ α[n]? = some a ∧ S[n]? = some (.lst ds), rfl, ⟨vs, h1, h2, h, hS⟩, fun α S H ⟨vs, h1, h2, _⟩ => ⟨vs, (SqL.of h1 : SqL X.K H a vs), h2⟩, ?_, ?_⟩
   ·intro α1 S1 H1 α2 S2 H2 ⟨vs, a1, a2, a3, a4⟩ x w hs
    have hs' := hs (n, ds) (by simp)
    obtain ⟨us, b1, b2⟩ := w.obj n a _ (x.at a3) hs'
    exact ⟨us, b1, b2, x.at a3, hs'⟩
   ·intro α S H ⟨vs, _, _, _, a4⟩ p hp
    have : p = (n, ds) := by simpa using hp
    subst this
    exact a4
  ·cases e
 ·cases e
def iZip (K : PySem.W.Frag) (ta : TA) : TI := fun σ H R => ta σ H fun vs H1 => ∃ k1 k2 l1 l2, vs = [.ref l1, .ref l2] ∧ (∃ xs, SqK k1 K H1 l1 xs) ∧ (∃ ys, SqK k2 K H1 l2 ys) ∧ R (Itz K k1 k2 l1 l2) H1
section
variable {X : Cx} {W : XW} {a b : Expr} {elts : List Expr} {kt : Nat} {pt p pos : Pos} {ta : TA} {af : Rho → Sto → R (List Er)}
theorem yON : bootBuiltins "zip" = some (.type "zip") := by decide +kernel
theorem yKR : bootBuiltins "enumerate" = some (.type "enumerate") := by decide +kernel
theorem yOO (hg : Gl X "zip") (hm : X.mg "zip" = none) (ha : PA X [a, b] ta) (hs : starEach [a, b] X.env = [(false, eval a X.env), (false, eval b X.env)] := by rfl) (hs2 : starEach [b] X.env = [(false, eval b X.env)] := by rfl) :
  PI X (.Tuple elts kt pt) (.Call (.Name "zip" p) [a, b] [] pos) (iZip X.K ta) := by
 intro pins s σ H R I h
 refine Call_ (zMG I hg hm yON (PyProof.Rows.callWith_type1 (thn (ha pos pins s σ H _ I h) fun us s1 ⟨vs, H1, I1, r1, q1⟩ => ?_) (by rw [hs, hs2]) (by rw [hs2]; rfl)))
 obtain ⟨k1, k2, l1, l2, rfl, ⟨xs, c1⟩, ⟨ys, c2⟩, q⟩ := q1
 cases r1 with
 | cons r rr =>
  cases rr with
  | cons r' rr =>
   cases rr
   cases r
   cases r'
   obtain ⟨its, v1, p1, _⟩ := I1.seqK c1
   obtain ⟨its2, v2, p2, _⟩ := I1.seqK c2
   refine yHE p1 p2 fun h' st hk => wpAny_pyIter_zip st.z ?_
   have I2 : Inv X pins σ H1 { s1 with heap := h' } := I1.kept (t' := s1.toks) hk
   refine ⟨_, _, _, _, H1, rfl, I2, yHF (apart_new _), st, fun b hb => ?_, q⟩
   have hle : s1.heap.objs.size ≤ b := by
    have hb' : b = s1.heap.objs.size + 4 ∨ b = s1.heap.objs.size + 2 ∨ b = s1.heap.objs.size + 3 ∨ b = s1.heap.objs.size ∨ b = s1.heap.objs.size + 1 := by simpa using hb
    rcases hb' with h | h | h | h | h <;> rw [h] <;> (first | exact Nat.le_refl _ | exact Nat.le_add_right _ _)
   exact I1.fpOk hle (I1.hok.fresh hle)
def pairs (xs ys : List MV) : List MV := List.zipWith (fun x y => .tup [x, y]) xs ys
def itZ (rs : List Er) (S : Sto) : R Wk := match rs with
 | [p, q] => match srcOf S p with
  | some a => match srcOf S q with
   | some b => .ok ⟨pairs a.ds b.ds, a.gs ++ b.gs⟩ S
   | none => .no
  | none => .no
 | _ => .no
theorem yOP (hg : Gl X "zip") (hm : X.mg "zip" = none) (ha : PAm X W [a, b] af) (hs : starEach [a, b] X.env = [(false, eval a X.env), (false, eval b X.env)] := by rfl) (hs2 : starEach [b] X.env = [(false, eval b X.env)] := by rfl) :
  PIm X W (.Tuple elts kt pt) (.Call (.Name "zip" p) [a, b] [] pos) (fun ρ S => (af ρ S).bind itZ) := by
 obtain ⟨t, ha, k⟩ := ha
 refine ⟨_, yOO hg hm ha hs hs2, fun α ρ S σ H Rc wd sl q => k α ρ S σ H _ wd sl (q.bind fun vs rs S1 α1 H1 e x1 w1 d1 q1 => ?_)⟩
 replace q1 := q1.shift x1
 unfold itZ at q1
 split at q1
 ·rename_i r1 r2
  split at q1
  ·rename_i s1 e1
   split at q1
   ·rename_i s2 e2
    obtain ⟨u, v, rfl, du, dv⟩ := args2 d1
    obtain ⟨l1, P1, rfl, p1, D1⟩ := zZY w1 e1 du
    obtain ⟨l2, P2, rfl, p2, D2⟩ := zZY w1 e2 dv
    have g1 := D1.get _ _ _ p1
    have g2 := D2.get _ _ _ p2
    refine ⟨s1.k, s2.k, l1, l2, rfl, ⟨_, g1.choose_spec.1⟩, ⟨_, g2.choose_spec.1⟩, q1.here (u := Itz X.K s1.k s2.k l1 l2) w1 ⟨fun α S H => P1 α S H ∧ P2 α S H, ?_, ⟨p1, p2⟩, ?_, ?_⟩⟩
    ·intro i α2 S2 H2 ⟨b1, b2⟩ w2
     obtain ⟨us, c1, c2⟩ := D1.get _ _ _ b1
     obtain ⟨ws, c3, c4⟩ := D2.get _ _ _ b2
     have hl : (pairs s1.ds s2.ds).length = min us.length ws.length := by unfold pairs; rw [List.length_zipWith, c2.length, c4.length]
     refine ⟨fun hi => ?_, fun hi => ?_⟩
     ·have hi : i < (pairs s1.ds s2.ds).length := hi
      have h1 : i < us.length := by omega
      have h2 : i < ws.length := by omega
      refine ⟨⟨us, ws, us[i], ws[i], c1, c3, List.getElem?_eq_getElem h1, List.getElem?_eq_getElem h2⟩, ?_⟩
      rintro x H' ⟨pp, xx, yy, hp, rfl, rfl, hx, hy⟩
      obtain ⟨d, hd, dd⟩ := c2.get (hx us c1)
      obtain ⟨f, hf, df⟩ := c4.get (hy ws c3)
      have xn := w2.newx (o := .tup [xx, yy]) hp
      have wn := w2.new (o := .tup [xx, yy]) hp
      refine ⟨xn, wn, ⟨D1.stays _ _ _ _ _ _ b1 xn wn (D1.st _ _ _ b1), D2.stays _ _ _ _ _ _ b2 xn wn (D2.st _ _ _ b2)⟩, .tup [d, f], ?_, ?_⟩
      ·unfold pairs; rw [List.getElem?_zipWith, hd, hf]
      ·exact nR (.of wR) (xC (dd.ext xn) (xC (df.ext xn) xK))
     ·have hi : (pairs s1.ds s2.ds).length ≤ i := hi
      refine ⟨us, ws, c1, c3, ?_⟩
      by_cases h1 : us.length ≤ i
      ·exact .inl h1
      ·exact .inr (by omega)
    ·intro α1 S1 H1 α2 S2 H2 ⟨b1, b2⟩ x w hs
     exact ⟨D1.stays _ _ _ _ _ _ b1 x w fun p hp => hs p (List.mem_append_left _ hp), D2.stays _ _ _ _ _ _ b2 x w fun p hp => hs p (List.mem_append_right _ hp)⟩
    ·intro p hp
     rcases List.mem_append.mp hp with h | h
     ·exact D1.st _ _ _ p1 p h
     ·exact D2.st _ _ _ p2 p h
   ·exact q1.elim
  ·exact q1.elim
 ·exact q1.elim
end
structure EnSt (k : Bool) (e it l : Addr) (i : Nat) (h : Heap) : Prop where
 e : ∃ old, IsEnum h e it i old
 s : IsSub k h it l i
section
variable {prog : Program} {w : World} {A : Around} {E : Value → Shared → Prop} {s : Shared} {k : Bool} {e it l : Addr} {i : Nat} {its : Array Value}
theorem yKS {x old : Value} {Q : Value → Shared → Prop} (he : IsEnum s.heap e it i old) (hit : IsSub k s.heap it l i) (hl : IsSeq k s.heap l its) (hx : its[i]? = some x) (hne : e ≠ it)
  (hQ : ∀ h', IsEnumOut h' e it ((i : Int) + 1) x s.heap.objs.size → IsSub k h' it l (i + 1) → h'.get? s.heap.objs.size = some { cls := .type "tuple", data := .seq #[.int i s.toks, x] } →
   (∀ b o, b ≠ e → b ≠ it → s.heap.get? b = some o → h'.get? b = some o) → Q (.ref s.heap.objs.size) { s with heap := h', toks := s.toks + 1 }) :
  wpAny (model prog w) A (Builtin.«enumerate.__next__» ⟨[.ref e], []⟩) (fun fin s' => ∃ v, fin = .done (.ret v) ∧ Q v s') E s := by
 obtain ⟨hp, g, d, tk, os⟩ := s
 show wpAny _ _ (field (.ref e) 2 >>= _) _ _ _
 refine wpAny_bind (wpAny_field he rfl (x := .ref it) rfl (wpAny_bind (zLB hit hl hx fun ha ita hsa => ?_)))
 replace hsa : Heap.SameBut it hp ha := hsa
 have ea : IsEnum ha e it i old := (hsa.2 e hne).trans he
 show wpAny _ _ (field (.ref e) 3 >>= _) _ _ ⟨ha, g, d, tk, os⟩
 refine wpAny_bind (wpAny_field ea rfl (x := rawInt i) rfl ?_)
 show wpAny _ _ (field (.ref e) 4 >>= _) _ _ ⟨ha, g, d, tk, os⟩
 refine wpAny_bind (wpAny_field ea rfl (x := .none) rfl ?_)
 show wpAny _ _ (mkInt i >>= _) _ _ ⟨ha, g, d, tk, os⟩
 refine wpAny_bind (wpAny_mkInt ?_)
 show wpAny _ _ (setField (.ref e) 3 (rawInt ((i : Int) + 1)) >>= _) _ _ ⟨ha, g, d, tk + 1, os⟩
 refine wpAny_bind (wpAny_setField_rec ea (by simp) fun hb eb hsb => ?_)
 replace hsb : Heap.SameBut e ha hb := hsb
 replace eb : IsEnum hb e it ((i : Int) + 1) old := eb
 show wpAny _ _ (setField (.ref e) 4 .none >>= _) _ _ ⟨hb, g, d, tk + 1, os⟩
 refine wpAny_bind (wpAny_setField_rec eb (by simp) fun hc ec hsc => ?_)
 replace hsc : Heap.SameBut e hb hc := hsc
 replace ec : IsEnum hc e it ((i : Int) + 1) old := ec
 show wpAny _ _ (newTuple [.int i tk, x] >>= _) _ _ ⟨hc, g, d, tk + 1, os⟩
 refine wpAny_bind (wpAny_newTuple ?_)
 have hsz : hc.objs.size = hp.objs.size := by rw [hsc.1, hsb.1, hsa.1]
 have hel : e < hp.objs.size := Heap.lt_size he
 have ed : IsEnum (hc.push { cls := .type "tuple", data := .seq #[.int i tk, x] }) e it ((i : Int) + 1) old := Heap.get?_push_of_some _ ec
 have td : (hc.push { cls := .type "tuple", data := .seq #[.int i tk, x] }).get? hp.objs.size = some { cls := .type "tuple", data := .seq #[.int i tk, x] } := by rw [← hsz]; exact Heap.get?_push_size _ rfl
 have kd : ∀ b o, b ≠ e → b ≠ it → hp.get? b = some o → (hc.push { cls := .type "tuple", data := .seq #[.int i tk, x] }).get? b = some o := fun b o n1 n2 q =>
  Heap.get?_push_of_some _ (hsc.extBut b o n1 (hsb.extBut b o n1 (hsa.extBut b o n2 q)))
 have sd : IsSub k (hc.push { cls := .type "tuple", data := .seq #[.int i tk, x] }) it l (i + 1) := ita.move fun o q => Heap.get?_push_of_some _ (hsc.extBut _ o (Ne.symm hne) (hsb.extBut _ o (Ne.symm hne) q))
 generalize hc.push { cls := .type "tuple", data := .seq #[.int i tk, x] } = hd at ed td kd sd ⊢
 show wpAny _ _ (Builtin.SmallTypes.ownedTupleIsFree (.ref e) >>= _) _ _ ⟨hd, g, d, tk + 1, os⟩
 rw [hsz]
 refine wpAny_bind ?_
 unfold Builtin.SmallTypes.ownedTupleIsFree
 refine wpAny_bind (wpAny_field ed rfl (x := .none) rfl (wpAny_pure ?_))
 simp only [if_true]
 refine wpAny_bind (wpAny_rule (wpAny_bind (wpAny_field ed rfl (x := old) rfl (wpAny_bind (wpAny_setField_rec ed (by simp) fun hf ef hsf => ?_)))))
 replace hsf : Heap.SameBut e hd hf := hsf
 replace ef : IsEnum hf e it ((i : Int) + 1) x := ef
 show wpAny _ _ (Builtin.SmallTypes.ownedTupleHandOut (.ref e) (.ref hp.objs.size) >>= _) _ _ ⟨hf, g, d, tk + 1, os⟩
 refine wpAny_bind ?_
 unfold Builtin.SmallTypes.ownedTupleHandOut
 refine wpAny_bind (wpAny_setField_rec ef (by simp) fun hg' eg hsg => ?_)
 replace hsg : Heap.SameBut e hf hg' := hsg
 replace eg : IsEnumOut hg' e it ((i : Int) + 1) x hp.objs.size := eg
 refine wpAny_setField_rec eg (by simp) fun hh' eh hsh => ?_
 replace hsh : Heap.SameBut e hg' hh' := hsh
 replace eh : IsEnumOut hh' e it ((i : Int) + 1) x hp.objs.size := eh
 have up : ∀ b o, b ≠ e → hd.get? b = some o → hh'.get? b = some o := fun b o n q => hsh.extBut b o n (hsg.extBut b o n (hsf.extBut b o n q))
 exact wpAny_bind (wpAny_letGo (wpAny_pure ⟨_, rfl, hQ hh' eh (sd.move fun o q => up _ o (Ne.symm hne) q) (up _ _ (Nat.ne_of_gt hel) td) fun b o n1 n2 q => up b o n1 (kd b o n1 n2 q)⟩))
theorem zZZ (k : Bool) (l : Addr) (its : Array Value) :
  Meets (Builtin.«enumerate.__new__» ⟨[.type "enumerate", .ref l], []⟩) (fun _ R s => IsSeq k s.heap l its ∧
   R (.ok (.ret (.ref (s.heap.objs.size + 1)))) { s with heap := (s.heap.push (zEE k l)).push { cls := .type "enumerate", data := .fields #[.none, .bool false, .ref s.heap.objs.size, rawInt 0, .none, .none] } }) :=
 .of_wp fun prog w A R s h => by
  obtain ⟨hp, g, d, tk, os⟩ := s; obtain ⟨hl, h⟩ := h
  have hsub := sub_enumerate
  have hL : IsSeq k (Shared.heap ⟨hp, g, d, tk, os⟩) l its := hl
  have z1 : ∀ (h : Heap) (o : Obj), (h.push o).objs.size = h.objs.size + 1 := fun h o => Heap.size_push ..
  wp_walk
  refine wpAny_stack_any fun st => wpAny_pure ?_
  split
  ·rename_i c _ _ _ _ _
   cases (c == Value.type "enumerate")
   ·wp_walk using zGW hL
    exact ⟨_, rfl, by simp only [z1]; exact h⟩
   ·wp_walk using zGW hL
    exact ⟨_, rfl, by simp only [z1]; exact h⟩
  ·wp_walk using zGW hL
   exact ⟨_, rfl, by simp only [z1]; exact h⟩
end
end M
end L2
namespace L2
namespace M
open PySem PySem.Spec PyProof.Rows
def zWL (K : PySem.W.Frag) (F : List MV → Sto → R Er) : Sp := fun vs H Q _ => ∃ ds, DenL K [] H ds vs ∧ ds.length = 1 ∧ ∀ g : Gm, g.K = K → Post g W0 [] H (F ds []) Q
theorem yHG {g : Gm} {F : List MV → Sto → R Er} : ∀ vs H Q E, zWL g.K F vs H Q E → spM g 1 F vs H Q E := fun vs H Q E ⟨ds, l, hl, q⟩ => ⟨[], [], ds, ⟨rfl, by simp, fun l a o h => by simp at h⟩, l, hl, q g rfl⟩
theorem yOQ {K : PySem.W.Frag} {H : Hp} {a : Addr} {xs : List V} (hO : Only H) (h : SqL K H a xs) : SqF K H a xs := by
 rcases h with (h | ⟨o, h⟩) | h
 ·rcases hO a with z | ⟨o, ys, z⟩
  ·rw [z] at h; cases h
  ·rw [z] at h; cases h
 ·exact .inl ⟨o, h⟩
 ·exact .inr h
theorem yHH {K : PySem.W.Frag} {F : List MV → Sto → R Er} {H : Hp} {a : Addr} {ns : List Int} (hO : Only H) (hS : SqL K H a (ns.map V.int)) (h : ∃ S, F [.scr (ns.map MV.int)] [] = .ok (.val (.bl true)) S) : zWL K F [.ref a] H (fun v _ => v = .bl true) fun _ _ _ => False := by
 obtain ⟨S, h⟩ := h
 refine ⟨_, xC (yBV (yOQ hO hS) (zSK ns)) xK, rfl, fun g _ => ?_⟩
 rw [h]
 exact fun v α' H' x w d => zFY d.1
theorem bok {β γ : Type} (b : β) (S : Sto) (k : β → Sto → R γ) : (R.ok b S).bind k = k b S := by
 have h := R.bind_ok b S k
 exact Eq.trans h rfl
theorem yKT (d : MV) (S : Sto) : zF (some (some d)) S = .ok (.val d) S := rfl
theorem zWM {S T : Sto} : yBZ S (S ++ T) := ⟨by rw [zQ4]; omega, fun l hl => .inl (zQ2 hl)⟩
theorem gR (n : Nat) (i : Int) : lo n (.int i) := by unfold lo; trivial
theorem zGX (n : Nat) (i : List Nat) : lo n (.str i) := by unfold lo; trivial
theorem yHI (n : Nat) (i : Bool) : lo n (.bl i) := by unfold lo; trivial
theorem yOR (n : Nat) : lo n .non := by unfold lo; trivial
theorem wH {n : Nat} {ds : List MV} (h : loL n ds) : lo n (.tup ds) := by unfold lo; exact h
theorem yOS {n l : Nat} (h : l < n) : lo n (.loc l) := by unfold lo; exact h
theorem xN {n : Nat} : ∀ {ds : List MV}, (∀ d ∈ ds, lo n d) → loL n ds
 | [], _ => by unfold loL; trivial
 | d :: ds, h => by unfold loL; exact ⟨h d List.mem_cons_self, xN fun e he => h e (List.mem_cons_of_mem _ he)⟩
theorem yHJ {S T : Sto} {d : MV} (h : lo S.length d) (hn : ∀ l, d ≠ .loc l) : zDQ S (.val d) (S ++ T) = .ok (.val d) S := by
 unfold zDQ
 rw [if_pos zWM]
 have e : (S ++ T).take S.length = S := by simp
 cases d with
 | loc l => exact absurd rfl (hn l)
 | _ => dsimp only; rw [if_pos h, e]
theorem yHK {S T : Sto} {ds : List MV} (h : loL S.length ds) : zDQ S (.new ds) (S ++ T) = .ok (.new ds) S := by
 unfold zDQ
 rw [if_pos zWM]
 have e : (S ++ T).take S.length = S := by simp
 dsimp only
 rw [if_pos h, e]
theorem zAJ {n : Nat} {F : List MV → Sto → R Er} {rs : List Er} {S T : Sto} {d : MV} (hn : rs.length = n) (hF : F (yI rs S).1 (yI rs S).2 = .ok (.val d) (S ++ T)) (h : lo S.length d) (hd : ∀ l, d ≠ .loc l) : zJ n F rs S = .ok (.val d) S := by
 unfold zJ
 rw [if_pos hn, hF]
 exact yHJ h hd
theorem yHL {n : Nat} {F : List MV → Sto → R Er} {rs : List Er} {S T : Sto} {ds : List MV} (hn : rs.length = n) (hF : F (yI rs S).1 (yI rs S).2 = .ok (.new ds) (S ++ T)) (h : loL S.length ds) : zJ n F rs S = .ok (.new ds) S := by
 unfold zJ
 rw [if_pos hn, hF]
 exact yHK h
theorem bQ {n : Nat} {F : List MV → Sto → R Er} {rs : List Er} {S : Sto} {d : MV} (hn : rs.length = n) (hF : F (yI rs S).1 (yI rs S).2 = .ok (.val d) S) (h : lo S.length d) (hd : ∀ l, d ≠ .loc l) : zJ n F rs S = .ok (.val d) S := zAJ (T := []) hn (by rw [List.append_nil]; exact hF) h hd
theorem zWN {gf : MV → Rho → Sto → R Rho} {body : Rho → Sto → R Fl} {gs : List (Nat × List MV)} {L : List MV} (I : Nat → Rho → Sto → Prop)
  (st : ∀ i d, L[i]? = some d → ∀ ρ S, I i ρ S → ∃ ρ' S', ((gf d ρ S).bind fun ρ0 S0 => body ρ0 S0) = .ok (.next ρ') S' ∧ stay gs S' ∧ I (i + 1) ρ' S') :
  ∀ (n i : Nat) {ρ : Rho} {S : Sto}, n + i = L.length → I i ρ S → ∃ ρ' S', gK gf body gs (L.drop i) ρ S = .ok (.next ρ') S' ∧ I L.length ρ' S'
 | 0, i, ρ, S, hn, h => by
  have e : i = L.length := by omega
  subst e
  rw [List.drop_length]
  exact ⟨ρ, S, rfl, h⟩
 | n + 1, i, ρ, S, hn, h => by
  have hi : i < L.length := by omega
  obtain ⟨ρ1, S1, e, hs, h1⟩ := st i L[i] (List.getElem?_eq_getElem hi) ρ S h
  obtain ⟨ρ2, S2, e2, h2⟩ := zWN I st n (i + 1) (by omega) h1
  refine ⟨ρ2, S2, ?_, h2⟩
  rw [List.drop_eq_getElem_cons hi]
  unfold gK
  cases z : gf L[i] ρ S with
  | ok ρ0 S0 =>
   rw [z] at e
   have e : body ρ0 S0 = .ok (.next ρ1) S1 := e
   rw [bok]
   show (body ρ0 S0).bind _ = _
   rw [e, bok]
   dsimp only
   rw [if_pos hs]
   exact e2
  | exc c fs S0 => rw [z] at e; cases e
  | no => rw [z] at e; cases e
theorem zJR {gf : MV → Rho → Sto → R Rho} {body : Rho → Sto → R Fl} {gs : List (Nat × List MV)} {L : List MV} (I : Nat → Rho → Sto → Prop)
  (st : ∀ i d, L[i]? = some d → ∀ ρ S, I i ρ S → ∃ ρ' S', ((gf d ρ S).bind fun ρ0 S0 => body ρ0 S0) = .ok (.next ρ') S' ∧ stay gs S' ∧ I (i + 1) ρ' S') {ρ : Rho} {S : Sto} (h : I 0 ρ S) :
  ∃ ρ' S', gK gf body gs L ρ S = .ok (.next ρ') S' ∧ I L.length ρ' S' := zWN I st L.length 0 (by omega) h
end M
end L2
namespace L2
namespace M
open PySem PySem.Spec PyProof.Rows
section
variable {S : Sto}
theorem as_bl (b : Bool) (S : Sto) : asB (.val (.bl b)) S = .ok b S := rfl
theorem as_int (i : Int) (S : Sto) : asI (.val (.int i)) S = .ok (some i) S := rfl
theorem yOT (b : Bool) (S : Sto) : gM (.val (.bl b)) S = .ok b S := rfl
theorem add_int (i j : Int) (S : Sto) : bP (.val (.int i)) (.val (.int j)) S = .ok (.val (.int (i + j))) S := rfl
theorem sub_int (i j : Int) (S : Sto) : yGW (.val (.int i)) (.val (.int j)) S = .ok (.val (.int (i - j))) S := rfl
theorem add_str {x y : List Nat} (h : x.length + y.length ≤ sizeLine) : bP (.val (.str x)) (.val (.str y)) S = .ok (.val (.str (x ++ y))) S := if_pos h
theorem yOU {g : Int → Int → Bool} (i j : Int) (S : Sto) : ibF g (.val (.int i)) (.val (.int j)) S = .ok (.val (.bl (g i j))) S := rfl
theorem yKU (i j : Int) : eqV (.int i) (.int j) = decide (i = j) := by
 show (i == j) = _
 by_cases h : i = j
 ·subst h; simp
 ·rw [decide_eq_false h]; simpa using h
theorem yKV (x y : List Nat) : eqV (.str (mkS x)) (.str (mkS y)) = decide (x = y) := by
 show (mkS x == mkS y) = _
 by_cases h : x = y
 ·subst h; simp
 ·rw [decide_eq_false h]
  have : mkS x ≠ mkS y := fun z => h (zNX z)
  simpa using this
theorem zUD (n : Nat) (i j : Int) : eqv S (n + 1) (.int i) (.int j) = some (decide (i = j)) := by rw [← yKU]; rfl
theorem zUE (n : Nat) (x y : List Nat) : eqv S (n + 1) (.str x) (.str y) = some (decide (x = y)) := by rw [← yKV]; rfl
theorem yOV (n : Nat) (x : Int) (y : List Nat) : eqv S (n + 1) (.int x) (.str y) = some false := rfl
theorem yOW (n : Nat) (x : List Nat) (y : Int) : eqv S (n + 1) (.str x) (.int y) = some false := rfl
theorem yKW (d f : MV) : eqF (.val d) (.val f) S = match eqv S (zR + 1) d f with | some k => .ok (.val (.bl k)) S | none => .no := rfl
theorem yKX (d f : MV) : neF (.val d) (.val f) S = match eqv S (zR + 1) d f with | some k => .ok (.val (.bl !k)) S | none => .no := rfl
theorem yHM {d f : MV} {k : Bool} (h : eqv S (zR + 1) d f = some k) : eqF (.val d) (.val f) S = .ok (.val (.bl k)) S := by rw [yKW, h]
theorem yAA {d f : MV} {k : Bool} (h : eqv S (zR + 1) d f = some k) : neF (.val d) (.val f) S = .ok (.val (.bl !k)) S := by rw [yKX, h]
theorem eq_int (i j : Int) (S : Sto) : eqF (.val (.int i)) (.val (.int j)) S = .ok (.val (.bl (decide (i = j)))) S := yHM (zUD _ i j)
theorem eq_str (x y : List Nat) (S : Sto) : eqF (.val (.str x)) (.val (.str y)) S = .ok (.val (.bl (decide (x = y)))) S := yHM (zUE _ x y)
theorem ne_int (i j : Int) (S : Sto) : neF (.val (.int i)) (.val (.int j)) S = .ok (.val (.bl (!decide (i = j)))) S := yAA (zUD _ i j)
theorem lt_int (i j : Int) (S : Sto) : ltF (.val (.int i)) (.val (.int j)) S = .ok (.val (.bl (decide (i < j)))) S := rfl
theorem lt_str (i j : List Nat) (S : Sto) : ltF (.val (.str i)) (.val (.str j)) S = .ok (.val (.bl (decide (i < j)))) S := rfl
theorem wQ {b : Int} (h : 0 < b) (h2 : b < 1073741824) (a : Int) (S : Sto) : zCM (.val (.int a)) (.val (.int b)) S = .ok (.val (.int (a / b))) S := by
 refine if_pos ⟨h, ?_⟩
 have h3 : b.natAbs < 2 ^ 30 := by omega
 have := (Nat.log2_lt (by omega : b.natAbs ≠ 0)).mpr h3
 omega
theorem mod_lit {b : Int} (h : 0 < b) (a : Int) (S : Sto) : gP (.val (.int a)) (.val (.int b)) S = .ok (.val (.int (a % b))) S := if_pos h
theorem zOA {b : Int} (h : -(2 ^ 64) < b ∧ b < 2 ^ 64) (a : Int) (S : Sto) : zRE (.val (.int a)) (.val (.int b)) S = .ok (.val (.int (a * b))) S := if_pos (Or.inr (Or.inl h))
theorem yHN {a : Int} (h : -(2 ^ 64) < a ∧ a < 2 ^ 64) (b : Int) (S : Sto) : zRE (.val (.int a)) (.val (.int b)) S = .ok (.val (.int (a * b))) S := if_pos (Or.inl h)
theorem yKY {a b : Int} (h : yDY a b) (S : Sto) : zJP (.val (.int a)) (.val (.int b)) S = .ok (.val (.int (a ^ b.toNat))) S := if_pos h
theorem yCF (ρ : Rho) (i : Nat) (d : MV) (S : Sto) : xZ ρ i (.val d) S = .ok (.next (ρ.set i (some d))) S := rfl
theorem yCG (ρ : Rho) (i : Nat) (ds : List MV) (S : Sto) : xZ ρ i (.new ds) S = .ok (.next (ρ.set i (some (.loc S.length)))) (S ++ [.lst ds]) := rfl
theorem yKZ (S : Sto) : yI [] S = ([], S) := rfl
theorem yLA (d : MV) (rs : List Er) (S : Sto) : yI (.val d :: rs) S = (d :: (yI rs S).1, (yI rs S).2) := rfl
theorem zD {F G : Rho → Sto → R Fl} {ρ ρ' : Rho} {S S' : Sto} (h : F ρ S = .ok (.next ρ') S') : yE F G ρ S = G ρ' S' := by unfold yE; rw [h]; rfl
theorem zCB {F G : Rho → Sto → R Fl} {ρ : Rho} {S S' : Sto} {r : Er} (h : F ρ S = .ok (.ret r) S') : yE F G ρ S = .ok (.ret r) S' := by unfold yE; rw [h]; rfl
theorem gB (S : Sto) : stay [] S := gO
theorem dD {gf : MV → Rho → Sto → R Rho} {b : Rho → Sto → R Fl} {gs : List (Nat × List MV)} {d : MV} {ds : List MV} {ρ ρ0 ρ' : Rho} {S0 S' : Sto} (hg : gf d ρ S = .ok ρ0 S0) (h : b ρ0 S0 = .ok (.next ρ') S') (hs : stay gs S') : gK gf b gs (d :: ds) ρ S = gK gf b gs ds ρ' S' := by
 conv => lhs; unfold gK
 rw [hg, bok, h, bok]
 dsimp only
 rw [if_pos hs]
theorem zLC {α : Type} {xs : List α} {i : Int} (h0 : 0 ≤ i) (h1 : i < xs.length) : ∃ c, atI xs i = some c := by
 refine ⟨xs[i.toNat]'(by omega), ?_⟩
 unfold atI ixN
 rw [if_pos h0, if_pos h1]
 exact List.getElem?_eq_getElem _
theorem zLD {α : Type} {P : α → Prop} {xs : List α} {i : Int} {e : α} (h : ∀ e ∈ xs, P e) (z : atI xs i = some e) : P e := by
 unfold atI at z
 cases q : ixN xs.length i with
 | none => rw [q] at z; cases z
 | some j => rw [q] at z; exact h e (List.mem_of_getElem? (show xs[j]? = some e from z))
theorem ix_str {x : List Nat} {i : Int} {c : Nat} (h : x.length ≤ sizeLine) (hk : atI x i = some c) : ixF (.val (.str x)) (.val (.int i)) S = .ok (.val (.str [c])) S := by
 show (if x.length ≤ sizeLine then match atI x i with | some c => R.ok (Er.val (.str [c])) S | none => .no else .no) = _
 rw [if_pos h, hk]
theorem ix_tup {ds : List MV} {i : Int} {d : MV} (hk : atI ds i = some d) : ixF (.val (.tup ds)) (.val (.int i)) S = .ok (.val d) S := by
 show (match atI ds i with | some d => R.ok (Er.val d) S | none => .no) = _
 rw [hk]
theorem yAB {l : Nat} {ds : List MV} {i : Int} {d : MV} (hS : S[l]? = some (.lst ds)) (hk : atI ds i = some d) : ixF (.val (.loc l)) (.val (.int i)) S = .ok (.val d) S := by
 have e : bO S (.val (.loc l)) = some ds := by unfold bO; dsimp only; rw [hS]
 show (match bO S (.val (.loc l)) with | some ds => getL ds (.val (.int i)) S | none => .no) = _
 rw [e]
 show (match atI ds i with | some d => R.ok (Er.val d) S | none => .no) = _
 rw [hk]
theorem zUF {l : Nat} {ds : List MV} (hS : S[l]? = some (.lst ds)) : kB [.val (.loc l)] S = .ok (.val (.int ds.length)) S := by
 have e : bO S (.val (.loc l)) = some ds := by unfold bO; dsimp only; rw [hS]
 have e2 : itemsOf S (.val (.loc l)) = some ds := by unfold itemsOf; exact e
 show (match itemsOf S (.val (.loc l)) with | some ds => R.ok (Er.val (.int ds.length)) S | none => .no) = _
 rw [e2]
theorem zDR {l : Nat} {ds : List MV} (hS : S[l]? = some (.lst ds)) : bO S (.val (.loc l)) = some ds := by unfold bO; dsimp only; rw [hS]
theorem yCH {l : Nat} {ds : List MV} (hS : S[l]? = some (.lst ds)) : itL (.val (.loc l)) S = .ok ⟨ds, [(l, ds)]⟩ S := by unfold itL; dsimp only; rw [hS]
theorem zLE {l : Nat} {ds : List MV} (hS : S[l]? = some (.lst ds)) : stay [(l, ds)] S := fun p hp => by
 have : p = (l, ds) := by simpa using hp
 subst this; exact hS
theorem zPH {j : Int} (h : -(2 ^ 62) ≤ j ∧ j < 2 ^ 62) : zKU [.val (.int j)] S = .ok ⟨(List.range j.toNat).map fun k => .int (k : Nat), []⟩ S := if_pos h
theorem cut_str {x : List Nat} (h : x.length ≤ sizeLine) (lo hi : Option Int) : zKY (.val (.str x)) lo hi S = .ok (.val (.str (bK x lo hi))) S := if_pos h
theorem yHO {α β : Type} (f : α → β) (x : List α) (lo hi : Option Int) : bK (x.map f) lo hi = (bK x lo hi).map f := by
 unfold bK
 rw [List.length_map, List.map_take, List.map_drop]
theorem zUG {α : Type} (x : List α) (k : Int) (h0 : 0 ≤ k) : bK x none (some k) = x.take k.toNat := by
 unfold bK
 have h1 : HT.sIx x.length 0 none = 0 := rfl
 rw [h1]
 have h2 : HT.sIx x.length x.length (some k) = min k.toNat x.length := by
  unfold HT.sIx
  simp only
  split <;> omega
 rw [h2, List.drop_zero, Nat.sub_zero]
 by_cases hk : k.toNat ≤ x.length
 ·rw [Nat.min_eq_left hk]
 ·rw [Nat.min_eq_right (by omega), List.take_length, List.take_of_length_le (by omega)]
theorem fits {n : Nat} (h : n ≤ 1000000) : n ≤ sizeLine := by rw [sizeLine_eq]; exact Nat.le_trans h (by decide)
theorem zMR {rs : List Er} (h : rs.length ≤ 1000000) : zGT rs S = .ok (.new (yI rs S).1) (yI rs S).2 := if_pos (fits h)
theorem zUH {rs : List Er} (h : rs.length ≤ 1000000) : nS rs S = .ok (.val (.tup (yI rs S).1)) (yI rs S).2 := if_pos (fits h)
theorem lst0 (S : Sto) : zGT [] S = .ok (.new []) S := zMR (by simp)
theorem lst1 (a : MV) (S : Sto) : zGT [.val a] S = .ok (.new [a]) S := zMR (by simp)
theorem lst2 (a b : MV) (S : Sto) : zGT [.val a, .val b] S = .ok (.new [a, b]) S := zMR (by simp)
theorem lst3 (a b c : MV) (S : Sto) : zGT [.val a, .val b, .val c] S = .ok (.new [a, b, c]) S := zMR (by simp)
theorem lst6 (a b c d e f : MV) (S : Sto) : zGT [.val a, .val b, .val c, .val d, .val e, .val f] S = .ok (.new [a, b, c, d, e, f]) S := zMR (by simp)
theorem tup2 (a b : MV) (S : Sto) : nS [.val a, .val b] S = .ok (.val (.tup [a, b])) S := zUH (by simp)
theorem tup3 (a b c : MV) (S : Sto) : nS [.val a, .val b, .val c] S = .ok (.val (.tup [a, b, c])) S := zUH (by simp)
theorem yOX (i : Int) (S : Sto) : jU [.val (.int i), .val (.typ "str")] S = .ok (.val (.bl false)) S := rfl
theorem yOY (i : List Nat) (S : Sto) : jU [.val (.str i), .val (.typ "str")] S = .ok (.val (.bl true)) S := rfl
theorem yOZ (i : Int) (S : Sto) : jU [.val (.int i), .val (.typ "tuple")] S = .ok (.val (.bl false)) S := rfl
theorem yPA (i : List Nat) (S : Sto) : jU [.val (.str i), .val (.typ "tuple")] S = .ok (.val (.bl false)) S := rfl
theorem yPB (i : List MV) (S : Sto) : jU [.val (.tup i), .val (.typ "tuple")] S = .ok (.val (.bl true)) S := rfl
theorem yPC (i : Bool) (S : Sto) : jU [.val (.bl i), .val (.typ "bool")] S = .ok (.val (.bl true)) S := rfl
theorem zWO {gf : MV → Rho → Sto → R Rho} {cf : Rho → Sto → R Bool} {ef : Rho → Sto → R Er} {ρb : Rho} {gs : List (Nat × List MV)} {P : MV → Prop} (hs : stay gs S) :
  ∀ {ds : List MV}, (∀ d ∈ ds, ∃ ρ1 y, gf d ρb S = .ok ρ1 S ∧ cf ρ1 S = .ok true S ∧ ef ρ1 S = .ok (.val y) S ∧ P y) → ∃ out, wN gf cf ef ρb gs ds S = .ok out S ∧ out.length = ds.length ∧ ∀ o ∈ out, P o
 | [], _ => ⟨[], rfl, rfl, fun o h => by simp at h⟩
 | d :: ds, st => by
  obtain ⟨ρ1, y, h1, h2, h3, h4⟩ := st d List.mem_cons_self
  obtain ⟨out, e, hl, hp⟩ := zWO hs (ds := ds) fun d hd => st d (List.mem_cons_of_mem _ hd)
  refine ⟨y :: out, ?_, by rw [List.length_cons, List.length_cons, hl], fun o ho => (List.mem_cons.mp ho).elim (fun z => z ▸ h4) (hp o)⟩
  unfold wN
  rw [h1, zGU, bok, h2, zGU, bok, if_pos rfl, h3, zGU, bok]
  unfold hU
  rw [bok, if_pos hs, e]
  rfl
theorem gS {gf : MV → Rho → Sto → R Rho} {cf : Rho → Sto → R Bool} {ef : Rho → Sto → R Er} {ρb : Rho} {gs : List (Nat × List MV)} {F : MV → MV} (hs : stay gs S) :
  ∀ {ds : List MV}, (∀ d ∈ ds, ∃ ρ1, gf d ρb S = .ok ρ1 S ∧ cf ρ1 S = .ok true S ∧ ef ρ1 S = .ok (.val (F d)) S) → wN gf cf ef ρb gs ds S = .ok (ds.map F) S
 | [], _ => rfl
 | d :: ds, st => by
  obtain ⟨ρ1, h1, h2, h3⟩ := st d List.mem_cons_self
  have e := gS hs (ds := ds) fun d hd => st d (List.mem_cons_of_mem _ hd)
  unfold wN
  rw [h1, zGU, bok, h2, zGU, bok, if_pos rfl, h3, zGU, bok]
  unfold hU
  rw [bok, if_pos hs, e]
  rfl
def Nm (x : List Nat) : Prop := 1 ≤ x.length ∧ x.length ≤ 8 ∧ ∀ c ∈ x, 97 ≤ c ∧ c ≤ 122
def Vl : MV → Prop
 | .int i => -(10 ^ 30) < i ∧ i < 10 ^ 30
 | .str x => Nm x
 | _ => False
theorem Vl.cases {d : MV} (h : Vl d) : (∃ i, d = .int i ∧ -(10 ^ 30) < i ∧ i < 10 ^ 30) ∨ ∃ x, d = .str x ∧ Nm x := by
 cases d with
 | int i => exact .inl ⟨i, rfl, h⟩
 | str x => exact .inr ⟨x, rfl, h⟩
 | _ => exact h.elim
theorem Vl.lo {d : MV} (h : Vl d) (n : Nat) : lo n d := by
 rcases h.cases with ⟨i, rfl, _⟩ | ⟨x, rfl, _⟩
 ·exact gR n i
 ·exact zGX n x
end
end M
end L2
namespace L2
namespace M
open PySem PySem.Spec PyProof.Rows
def Ite (K : PySem.W.Frag) (k : Bool) (l : Addr) : It :=
 ⟨fun i H => ∃ xs x, SqK k K H l xs ∧ xs[i]? = some x,
   fun i H v H' => ∃ p x, H p = none ∧ v = .ref p ∧ H' = upd H p (.tup [.int (i : Nat), x]) ∧ (∀ xs, SqK k K H l xs → xs[i]? = some x),
   fun i H => ∃ xs, SqK k K H l xs ∧ xs.length ≤ i⟩
section
variable {prog : Program} {w : World} {A : Around} {E : Value → Shared → Prop} {s : Shared} {k : Bool} {e it l : Addr} {i : Nat} {its : Array Value}
theorem yED (hl : IsSeq k s.heap l its) {Q : Value → Shared → Prop}
  (h : ∀ h', EnSt k (s.heap.objs.size + 1) s.heap.objs.size l 0 h' → (∀ c o, s.heap.get? c = some o → h'.get? c = some o) → Q (.ref (s.heap.objs.size + 1)) { s with heap := h' }) :
  wpAny (model prog w) A (call (.type "enumerate") [.ref l]) Q E s := by
 refine callType_new F.called_enumerate (by decide) (F.typeCall_enumerate_1 _) (F.newCall_enumerate_1 _) (fun obj => F.args_object_init_2 obj _) F.entry_enumerate_new (zZZ k l its) ⟨hl, ?_⟩
 have hz : (s.heap.push (zEE k l)).objs.size = s.heap.objs.size + 1 := Heap.size_push ..
 show _ ∧ _
 have he : IsEnum ((s.heap.push (zEE k l)).push { cls := .type "enumerate", data := .fields #[.none, .bool false, .ref s.heap.objs.size, rawInt 0, .none, .none] }) (s.heap.objs.size + 1) s.heap.objs.size 0 .none := by
  have := Heap.get?_push_size (s.heap.push (zEE k l)) (o := { cls := .type "enumerate", data := .fields #[.none, .bool false, .ref s.heap.objs.size, rawInt 0, .none, .none] }) rfl
  rw [hz] at this; exact this
 refine ⟨⟨_, he, rfl⟩, h _ ⟨⟨.none, he⟩, IsSub.mk' (Heap.get?_push_of_some _ (Heap.get?_push_size _ rfl))⟩ fun b o x => Heap.get?_push_of_some _ (Heap.get?_push_of_some _ x)⟩
end
theorem yEE {P : Program} {w : World} {K : PySem.W.Frag} {elts : List Expr} {kt : Nat} {pt : Pos} {k : Bool} {e it l : Addr} (hne : e ≠ it) :
  Turn P w K (.Tuple elts kt pt) (Ite K k l) [e, it] e (fun i h => EnSt k e it l i h) where
 mem := by simp
 obj := fun i h st b hb => by
  obtain ⟨⟨old, he⟩, hs⟩ := st
  have hb' : b = e ∨ b = it := by simpa using hb
  rcases hb' with rfl | rfl
  ·exact ⟨_, he, fun v q => by cases q⟩
  ·exact hs.there
 keep := fun i h h' st kk => by
  obtain ⟨⟨old, he⟩, hs⟩ := st
  exact ⟨⟨old, kk e (by simp) _ he⟩, hs.move fun o q => kk it (by simp) o q⟩
 item := by
  intro X hP hw hK hc i pins s σ H E I hf st hg
  subst hP hw hK
  obtain ⟨xs, x, q1, hx⟩ := hg
  obtain ⟨its, r1, p1, _⟩ := I.seqK q1
  obtain ⟨u, hu, ru⟩ := r1.get hx
  obtain ⟨⟨old, he⟩, hs⟩ := st
  have hT : s.TypeIs (.ref e) "enumerate" := ⟨_, he, rfl⟩
  unfold pyNext
  refine wpAny_bind (wpAny_attempt (wpAny_callSpecial?_slot (name := Str.ofString "__next__") hT F.slot_enumerate_next (wpAny_call_entry F.slot_enumerate_next hT F.entry_enumerate_next
   (yKS he hs p1 (x := u) (by simpa using hu) hne fun h' a1 a2 a3 a4 => wpAny_pure ⟨_, rfl, ?_⟩) (F.args_enumerate_next_1 _))))
  refine wpAny_letOwnedTupleGo_enum a1 fun h2 z2 sb2 => ?_
  have hpn : H s.heap.objs.size = none := I.hok.fresh (Nat.le_refl _)
  have I0 : Inv X pins σ (upd H s.heap.objs.size (.tup [.int (i : Nat), x])) { s with heap := s.heap.push { cls := .type "tuple", data := .seq #[.int i s.toks, u] }, toks := s.toks + 1 } :=
   I.laid (t' := s.toks + 1) (o := .tup [.int (i : Nat), x]) (fun b o e => Heap.get?_push_of_some _ e) (Nat.le_refl _) ⟨by show 2 ≤ sizeLine; decide, [.int i s.toks, u], .cons ⟨_, rfl⟩ (.cons ru .nil), ⟨_, Heap.get?_push_size _ rfl, rfl, _, rfl⟩⟩
  have lt : ∀ b ∈ [e, it], b < s.heap.objs.size := fun b hb => by
   have hb' : b = e ∨ b = it := by simpa using hb
   rcases hb' with rfl | rfl
   ·exact Heap.lt_size he
   ·obtain ⟨o, eo, _⟩ := hs.there; exact Heap.lt_size eo
  have fr : ∀ b ∈ [e, it], upd H s.heap.objs.size (.tup [.int (i : Nat), x]) b = none := fun b hb => by rw [yP (Nat.ne_of_lt (lt b hb))]; exact (hf b hb).1
  have mv : ∀ b o, b ∉ [e, it] → (s.heap.push { cls := .type "tuple", data := .seq #[.int i s.toks, u] }).get? b = some o → h2.get? b = some o := fun b o hb eo => by
   simp only [List.mem_cons, List.not_mem_nil, or_false, not_or] at hb
   refine sb2.extBut _ _ hb.1 ?_
   by_cases hbs : b = s.heap.objs.size
   ·subst hbs
    rw [Heap.get?_push_size _ rfl] at eo
    cases eo
    exact a3
   ·rw [Heap.get?_push_ne _ _ _ hbs] at eo
    exact a4 b o hb.1 hb.2 eo
  have I2 := I0.turnedL (h' := h2) (t' := s.toks + 1) mv fun b hb => let ⟨_, c2, c3, c4, c5, c6⟩ := hf b hb; ⟨fr b hb, c2, c3, c4, c5, c6⟩
  refine ⟨.ref s.heap.objs.size, _, I2, rfl, ⟨s.heap.objs.size, x, hpn, rfl, rfl, fun zs hz => ?_⟩, ⟨⟨u, ?_⟩, ?_⟩, fr⟩
  ·rw [I.seqK_inj hz q1]; exact hx
  ·simpa using z2
  ·exact a2.move fun o eo => sb2.extBut _ _ (Ne.symm hne) eo
 done := by
  intro X hP hw hK hc i pins s σ H E I hf st hg
  subst hP hw hK
  obtain ⟨xs, q1, hx⟩ := hg
  obtain ⟨its, r1, p1, _⟩ := I.seqK q1
  obtain ⟨⟨old, he⟩, hs⟩ := st
  have hT : s.TypeIs (.ref e) "enumerate" := ⟨_, he, rfl⟩
  have e1 := r1.length
  unfold pyNext
  refine wpAny_bind (wpAny_attempt (wpAny_callSpecial?_slot (name := Str.ofString "__next__") hT F.slot_enumerate_next (wpAny_call_entry F.slot_enumerate_next hT F.entry_enumerate_next ?_ (F.args_enumerate_next_1 _))))
  show wpAny _ _ (field (.ref e) 2 >>= _) _ _ _
  refine wpAny_bind (wpAny_field he rfl (x := .ref it) rfl ?_)
  refine wpAny_bind (zUC (I.ok.hd hc) hs p1 (by simp; omega) fun h' x hk hx' => ?_)
  obtain ⟨o, ho, hcl⟩ := hx'
  refine wpAny_bind (wpAny_isInstance (T := "StopIteration") (b := true) ⟨o, ho, hcl⟩ isSubtype_stop (wpAny_pure ⟨rfl, ?_⟩))
  refine I.turnedL (h' := h') (t' := s.toks) (fun b o hb eo => ?_) hf
  simp only [List.mem_cons, List.not_mem_nil, or_false, not_or] at hb
  exact hk b o hb.2 eo
 self := fun _ _ _ _ _ st h => let ⟨⟨_, he⟩, _⟩ := st; wpAny_pyIter_enum he h
def iEnum (K : PySem.W.Frag) (ta : TA) : TI := fun σ H R => ta σ H fun vs H1 => ∃ k l, vs = [.ref l] ∧ (∃ xs, SqK k K H1 l xs) ∧ R (Ite K k l) H1
section
variable {X : Cx} {W : XW} {a : Expr} {elts : List Expr} {kt : Nat} {pt p pos : Pos} {ta : TA} {af : Rho → Sto → R (List Er)}
theorem yLB (hg : Gl X "enumerate") (hm : X.mg "enumerate" = none) (ha : PA X [a] ta) (hs : starEach [a] X.env = [(false, eval a X.env)] := by rfl) :
  PI X (.Tuple elts kt pt) (.Call (.Name "enumerate" p) [a] [] pos) (iEnum X.K ta) := by
 intro pins s σ H R I h
 refine Call_ (zMG I hg hm yKR (PyProof.Rows.callWith_type1 (thn (ha pos pins s σ H _ I h) fun us s1 ⟨vs, H1, I1, r1, q1⟩ => ?_) (by rw [hs]; rfl) (by rfl)))
 obtain ⟨k, l, rfl, ⟨xs, c1⟩, q⟩ := q1
 cases r1 with
 | cons r rr =>
  cases rr
  cases r
  obtain ⟨its, v1, p1, _⟩ := I1.seqK c1
  refine yED p1 fun h' st hk => let ⟨⟨_, he⟩, _⟩ := id st; wpAny_pyIter_enum he ?_
  have I2 : Inv X pins σ H1 { s1 with heap := h' } := I1.kept (t' := s1.toks) hk
  refine ⟨_, _, _, _, H1, rfl, I2, yEE (Nat.ne_of_gt (Nat.lt_succ_self _)), st, fun b hb => ?_, q⟩
  have hle : s1.heap.objs.size ≤ b := by
   have hb' : b = s1.heap.objs.size + 1 ∨ b = s1.heap.objs.size := by simpa using hb
   rcases hb' with h | h <;> rw [h] <;> (first | exact Nat.le_refl _ | exact Nat.le_add_right _ _)
  exact I1.fpOk hle (I1.hok.fresh hle)
def zIX (xs : List MV) : List MV := xs.zipIdx.map fun p => .tup [.int (p.2 : Nat), p.1]
def itE (rs : List Er) (S : Sto) : R Wk := match rs with
 | [p] => match srcOf S p with
  | some a => .ok ⟨zIX a.ds, a.gs⟩ S
  | none => .no
 | _ => .no
theorem zLF (hg : Gl X "enumerate") (hm : X.mg "enumerate" = none) (ha : PAm X W [a] af) (hs : starEach [a] X.env = [(false, eval a X.env)] := by rfl) :
  PIm X W (.Tuple elts kt pt) (.Call (.Name "enumerate" p) [a] [] pos) (fun ρ S => (af ρ S).bind itE) := by
 obtain ⟨t, ha, k⟩ := ha
 refine ⟨_, yLB hg hm ha hs, fun α ρ S σ H Rc wd sl q => k α ρ S σ H _ wd sl (q.bind fun vs rs S1 α1 H1 e x1 w1 d1 q1 => ?_)⟩
 replace q1 := q1.shift x1
 unfold itE at q1
 split at q1
 ·rename_i r1
  split at q1
  ·rename_i s1 e1
   obtain ⟨u, rfl, du⟩ := zWG d1
   obtain ⟨l1, P1, rfl, p1, D1⟩ := zZY w1 e1 du
   have g1 := D1.get _ _ _ p1
   have hlen : (zIX s1.ds).length = s1.ds.length := by unfold zIX; rw [List.length_map, List.length_zipIdx]
   refine ⟨s1.k, l1, rfl, ⟨_, g1.choose_spec.1⟩, q1.here (u := Ite X.K s1.k l1) w1 ⟨fun α S H => P1 α S H, ?_, p1, ?_, ?_⟩⟩
   ·intro i α2 S2 H2 b1 w2
    obtain ⟨us, c1, c2⟩ := D1.get _ _ _ b1
    have hl := c2.length
    refine ⟨fun hi => ?_, fun hi => ?_⟩
    ·have hi : i < (zIX s1.ds).length := hi
     have h1 : i < us.length := by omega
     refine ⟨⟨us, us[i], c1, List.getElem?_eq_getElem h1⟩, ?_⟩
     rintro x H' ⟨pp, xx, hp, rfl, rfl, hx⟩
     obtain ⟨d, hd, dd⟩ := c2.get (hx us c1)
     have xn := w2.newx (o := .tup [.int (i : Nat), xx]) hp
     have wn := w2.new (o := .tup [.int (i : Nat), xx]) hp
     refine ⟨xn, wn, D1.stays _ _ _ _ _ _ b1 xn wn (D1.st _ _ _ b1), .tup [.int (i : Nat), d], ?_, ?_⟩
     ·unfold zIX; rw [List.getElem?_map, List.getElem?_zipIdx, hd]; simp
     ·exact nR (.of wR) (xC (wP _) (xC (dd.ext xn) xK))
    ·have hi : (zIX s1.ds).length ≤ i := hi
     exact ⟨us, c1, by omega⟩
   ·intro α1 S1 H1 α2 S2 H2 b1 x w hs
    exact D1.stays _ _ _ _ _ _ b1 x w hs
   ·exact D1.st _ _ _ p1
  ·exact q1.elim
 ·exact q1.elim
end
end M
end L2
namespace L2
namespace M
open PySem PySem.Spec PyProof.Rows
noncomputable instance : DecidableEq MV := fun _ _ => Classical.propDecidable _
noncomputable def look (kvs : List (MV × MV)) (k : MV) : Option MV := (kvs.find? fun p => decide (p.1 = k)).map (·.2)
noncomputable def putK (kvs : List (MV × MV)) (k d : MV) : List (MV × MV) := if (look kvs k).isSome = true then kvs.map (fun p => if p.1 = k then (p.1, d) else p) else kvs ++ [(k, d)]
def zCN : MV → Bool
 | .tup _ => true
 | _ => false
theorem zDS (i : Int) : wY (.int i) = some (.key (.inl i)) := by unfold wY; rfl
theorem zDT (x : List Nat) : wY (.str x) = some (.key (.inr (mkS x))) := by unfold wY; rfl
theorem zDU (ds : List MV) : wY (.tup ds) = (jW ds).map .tup := by
 conv => lhs; unfold wY
theorem zIM : jW [] = some [] := by unfold jW; rfl
theorem zAK (d : MV) (ds : List MV) : jW (d :: ds) = (wY d).bind fun k => (jW ds).map (k :: ·) := by
 conv => lhs; unfold jW
mutual
theorem zLG : ∀ {d e : MV} {k : NK}, wY d = some k → wY e = some k → d = e
 | .int i, e, k, hd, he => by
  rw [zDS] at hd; cases hd
  cases e with
  | int j => rw [zDS] at he; cases he; rfl
  | str x => rw [zDT] at he; cases he
  | tup ds => rw [zDU] at he; cases z : jW ds <;> rw [z] at he <;> cases he
  | _ => unfold wY at he; cases he
 | .str x, e, k, hd, he => by
  rw [zDT] at hd; cases hd
  cases e with
  | int j => rw [zDS] at he; cases he
  | str y =>
   rw [zDT] at he
   have he := Option.some.inj he
   injection he with he
   injection he with he
   rw [zNX he]
  | tup ds => rw [zDU] at he; cases z : jW ds <;> rw [z] at he <;> cases he
  | _ => unfold wY at he; cases he
 | .tup ds, e, k, hd, he => by
  rw [zDU] at hd
  cases z : jW ds with
  | none => rw [z] at hd; cases hd
  | some ks =>
   rw [z] at hd; cases hd
   cases e with
   | int j => rw [zDS] at he; cases he
   | str y => rw [zDT] at he; cases he
   | tup es =>
    rw [zDU] at he
    cases z2 : jW es with
    | none => rw [z2] at he; cases he
    | some ks' => rw [z2] at he; cases he; rw [zSQ z z2]
   | _ => unfold wY at he; cases he
 | .non, e, k, hd, he => by unfold wY at hd; cases hd
 | .bl _, e, k, hd, he => by unfold wY at hd; cases hd
 | .scr _, e, k, hd, he => by unfold wY at hd; cases hd
 | .loc _, e, k, hd, he => by unfold wY at hd; cases hd
 | .typ _, e, k, hd, he => by unfold wY at hd; cases hd
theorem zSQ : ∀ {ds es : List MV} {ks : List NK}, jW ds = some ks → jW es = some ks → ds = es
 | [], es, ks, hd, he => by
  rw [zIM] at hd; cases hd
  cases es with
  | nil => rfl
  | cons e es =>
   rw [zAK] at he
   cases z : wY e <;> rw [z] at he
   ·cases he
   ·cases z2 : jW es <;> rw [z2] at he <;> cases he
 | d :: ds, es, ks, hd, he => by
  rw [zAK] at hd
  cases z : wY d with
  | none => rw [z] at hd; cases hd
  | some k =>
   rw [z] at hd
   cases z2 : jW ds with
   | none => rw [z2] at hd; cases hd
   | some ks2 =>
    rw [z2] at hd
    cases es with
    | nil => rw [zIM] at he; cases he; cases hd
    | cons e es =>
     rw [zAK] at he
     cases z3 : wY e with
     | none => rw [z3] at he; cases he
     | some k' =>
      rw [z3] at he
      cases z4 : jW es with
      | none => rw [z4] at he; cases he
      | some ks4 =>
       rw [z4] at he
       cases hd; cases he
       rw [zLG z z3, zSQ z2 z4]
end
section
variable {X : Cx} {pins : List (Addr × Obj)} {σ : St} {H : Hp} {s : Shared} {α : List Addr}
mutual
theorem zPI (I : Inv X pins σ H s) : ∀ {d : MV} {k : NK} {x : V} {u : Value}, wY d = some k → Den X.K α H d x → RelV x u → isN (mk X.prog X.w) s.heap k u
 | .int i, k, x, u, hk, hd, r => by
  rw [zDS] at hk; cases hk
  cases kS hd
  obtain ⟨t, rfl⟩ := r
  exact kY.mpr (by show zOH (.inl i) (.int i t) = true; simp [zOH, Value.isInt])
 | .str y, k, x, u, hk, hd, r => by
  rw [zDT] at hk; cases hk
  cases kT hd
  obtain ⟨t, rfl⟩ := r
  exact kY.mpr (by show zOH (.inr (mkS y)) (.str (mkS y) t) = true; simp [zOH, Value.isStrOf])
 | .tup ds, k, x, u, hk, hd, r => by
  rw [zDU] at hk
  cases z : jW ds with
  | none => rw [z] at hk; cases hk
  | some ks =>
   rw [z] at hk; cases hk
   obtain ⟨a, vs, rfl, sq, l⟩ := wG hd
   cases r
   obtain ⟨its, rv, pt, _⟩ := I.tuple sq
   obtain ⟨o, ho, hc, n, hdat⟩ := pt
   exact wO.mpr ⟨a, o, its.toArray, n, rfl, ho, hc, hdat, by simpa using yCI I z l rv⟩
 | .non, k, x, u, hk, hd, r => by unfold wY at hk; cases hk
 | .bl _, k, x, u, hk, hd, r => by unfold wY at hk; cases hk
 | .scr _, k, x, u, hk, hd, r => by unfold wY at hk; cases hk
 | .loc _, k, x, u, hk, hd, r => by unfold wY at hk; cases hk
 | .typ _, k, x, u, hk, hd, r => by unfold wY at hk; cases hk
theorem yCI (I : Inv X pins σ H s) : ∀ {ds : List MV} {ks : List NK} {xs : List V} {us : List Value}, jW ds = some ks → DenL X.K α H ds xs → Vals xs us → zGN (mk X.prog X.w) s.heap ks us
 | [], ks, xs, us, hk, hd, r => by
  rw [zIM] at hk; cases hk
  cases hd.isnil
  cases r
  exact kI.mpr rfl
 | d :: ds, ks, xs, us, hk, hd, r => by
  rw [zAK] at hk
  obtain ⟨v, vs, rfl, a, l⟩ := hd.uncons
  cases r with
  | cons r1 r2 =>
   cases z : wY d with
   | none => rw [z] at hk; cases hk
   | some k =>
    rw [z] at hk
    cases z2 : jW ds with
    | none => rw [z2] at hk; cases hk
    | some ks2 =>
     rw [z2] at hk
     cases hk
     exact xF.mpr ⟨_, _, rfl, zPI I z a r1, yCI I z2 l r2⟩
end
def DD (X : Cx) (H : Hp) (d : Addr) (xs : List (NK × Addr × Value)) : Prop := H d = some (DN X.prog X.w d xs) ∨ (xs = [] ∧ H d = some (.dK []))
theorem dd_of {S : Sto} {kvs : List (MV × MV)} {d : Addr} (ob : ObD X.g α H d (.dic kvs)) (hk : kvs.all (fun p => zCN p.1) = true) : ∃ xs, DD X H d xs ∧ DenN X.K α H kvs xs := by
 rcases ob with ⟨ks, h, l⟩ | ⟨xs, h, l⟩
 ·cases l with
  | nil => exact ⟨[], .inr ⟨rfl, h⟩, .nil⟩
  | @cons k k' dd v fs gs hkd a l =>
   rw [List.all_cons, Bool.and_eq_true] at hk
   cases k with
   | tup ds => exact absurd hkd (by unfold KeyD; exact fun z => z)
   | _ => exact absurd hk.1 zQ3
 ·exact ⟨xs, .inl h, l⟩
theorem yCJ (I : Inv X pins σ H s) : ∀ {kvs : List (MV × MV)} {xs : List (NK × Addr × Value)}, DenN X.K α H kvs xs → ∀ x ∈ xs, (zDM X.prog X.w).is s.heap x.1 x.2.1
 | _, _, .nil => fun x hx => by simp at hx
 | _, _, .cons k e a d r l => fun x hx => by
  rcases List.mem_cons.mp hx with rfl | hx
  ·exact ⟨zPI I k a rfl, e⟩
  ·exact yCJ I l x hx
theorem zOB (I : Inv X pins σ H s) {kvs : List (MV × MV)} {xs : List (NK × Addr × Value)} {d : Addr} (h : DD X H d xs) (l : DenN X.K α H kvs xs) : s.heap.DictOfH (zDM X.prog X.w) d xs ∧ xs.length ≤ sizeLine ∧ (d == sysModules) = false := by
 rcases h with h | ⟨rfl, h⟩
 ·obtain ⟨⟨hz, hs, o, es, ep, ho, hc, hd, he, hn⟩, _⟩ := (show ObjOk X.prog X.w H s.heap d (DN X.prog X.w d xs) from I.hok d _ h)
  exact ⟨⟨o, es, ep, ho, hc, hd, he, yCJ I l, hn⟩, hz, hs⟩
 ·obtain ⟨_, hs, vs, kv, o, es, ep, ho, hc, hd, _, hp, _⟩ := (show ObjOk X.prog X.w H s.heap d (.dK []) from I.hok d _ h)
  cases kv
  have he : es.toList = [] := by cases hes : es.toList with | nil => rfl | cons a b => rw [hes] at hp; cases hp
  exact ⟨⟨o, es, ep, ho, hc, hd, by rw [he]; rfl, fun x hx => by simp at hx, List.nodup_nil⟩, Nat.zero_le _, hs⟩
theorem bR (p : MV × MV) (kvs : List (MV × MV)) (k : MV) : look (p :: kvs) k = if p.1 = k then some p.2 else look kvs k := by
 unfold look
 rw [List.find?_cons]
 by_cases h : p.1 = k
 ·rw [decide_eq_true h, if_pos h]; rfl
 ·rw [decide_eq_false h, if_neg h]
theorem zJS (x : NK × Addr × Value) (xs : List (NK × Addr × Value)) (k : NK) : atKey (x :: xs) k = if x.1 = k then some x.2 else atKey xs k := by
 unfold atKey
 rw [List.find?_cons]
 by_cases h : x.1 = k
 ·rw [decide_eq_true h, if_pos h]; rfl
 ·rw [decide_eq_false h, if_neg h]
theorem zOC : ∀ {kvs : List (MV × MV)} {xs : List (NK × Addr × Value)} {k : MV} {nk : NK}, DenN X.K α H kvs xs → wY k = some nk → (atKey xs nk).isSome = (look kvs k).isSome
 | _, _, k, nk, .nil, hk => rfl
 | _, _, k, nk, .cons (k := k') (nk := nk') hk' e a d r l, hk => by
  rw [bR, zJS]
  by_cases h : k' = k
  ·subst h
   have : nk' = nk := by rw [hk] at hk'; exact (Option.some.inj hk').symm
   rw [if_pos this, if_pos rfl]; rfl
  ·have : nk' ≠ nk := fun z => h (zLG hk' (by rw [hk, z]))
   rw [if_neg this, if_neg h]
   exact zOC l hk
theorem zUI : ∀ {kvs : List (MV × MV)} {xs : List (NK × Addr × Value)} {k d : MV} {nk : NK} {v : V} {u : Value}, DenN X.K α H kvs xs → wY k = some nk → Den X.K α H d v → RelV v u → DenN X.K α H (kvs.map fun p => if p.1 = k then (p.1, d) else p) (xs.map (putAt nk u))
 | _, _, k, d, nk, v, u, .nil, hk, hd, r => .nil
 | _, _, k, d, nk, v, u, .cons (k := k') (nk := nk') hk' e a dd rr l, hk, hd, r => by
  rw [List.map_cons, List.map_cons]
  unfold putAt
  by_cases h : k' = k
  ·have hn : nk' = nk := by subst h; rw [hk] at hk'; exact (Option.some.inj hk').symm
   rw [if_pos h, if_pos hn]
   exact .cons hk' e a hd r (zUI l hk hd r)
  ·have hn : nk' ≠ nk := fun z => h (zLG hk' (by rw [hk, z]))
   rw [if_neg h, if_neg hn]
   exact .cons hk' e a dd rr (zUI l hk hd r)
theorem DenN.append : ∀ {kvs kvs' : List (MV × MV)} {xs xs' : List (NK × Addr × Value)}, DenN X.K α H kvs xs → DenN X.K α H kvs' xs' → DenN X.K α H (kvs ++ kvs') (xs ++ xs')
 | _, _, _, _, .nil, h => h
 | _, _, _, _, .cons hk e a d r l, h => .cons hk e a d r (DenN.append l h)
theorem yCK {kvs : List (MV × MV)} {xs : List (NK × Addr × Value)} {k d : MV} {nk : NK} {a : Addr} {v : V} {u : Value} (l : DenN X.K α H kvs xs) (hk : wY k = some nk) (e : nQ nk ≤ 4) (ha : Den X.K α H k (.ref a)) (hd : Den X.K α H d v) (r : RelV v u) : DenN X.K α H (putK kvs k d) (storedH xs nk a u) := by
 unfold putK
 have hl := zOC l hk
 by_cases h : (look kvs k).isSome = true
 ·rw [if_pos h]
  rw [h] at hl
  obtain ⟨p, hp⟩ := Option.isSome_iff_exists.mp hl
  rw [storedH_old hp]
  exact zUI l hk hd r
 ·rw [if_neg h]
  have hn : atKey xs nk = none := by
   cases z : atKey xs nk with
   | none => rfl
   | some p => rw [z] at hl; exact absurd hl.symm h
  rw [storedH_new hn]
  exact l.append (.cons hk e ha hd r .nil)
end
section
variable {X : Cx} {W : XW} {a b o i : Expr} {f g : Rho → Sto → R Er} {pos : Pos}
theorem yPD {pins : List (Addr × Obj)} {σ : St} {H : Hp} {s : Shared} (I : Inv X pins σ H s) : sysModules < s.heap.objs.size := Nat.lt_trans (by decide) ((I.mod.glob.keeps I.bk).lt)
theorem Wd.put {gg : Gm} {α : List Addr} {S : Sto} {H : Hp} {p : Addr} {ho : HO} {m : MO} (w : Wd gg α S H) (hp : H p = none) (q : ObD gg (α ++ [p]) (upd H p ho) p m) : Ext α H (α ++ [p]) (upd H p ho) ∧ Wd gg (α ++ [p]) (S ++ [m]) (upd H p ho) := by
 have x := w.newx (o := ho) hp
 have nw := w.new (o := ho) hp
 have np := w.fresh hp
 refine ⟨⟨⟨⟨[p], rfl⟩, x.tup, x.frz⟩, fun b hb => ?_, x.keep, x.has⟩, ⟨?_, ?_, fun l c ob h1 h2 => ?_⟩⟩
 ·rcases List.mem_append.mp hb with h | h
  ·exact .inl h
  ·rw [List.mem_singleton.mp h]; exact .inr hp
 ·rw [zQ4, zQ4, w.len]; rfl
 ·exact List.nodup_append.mpr ⟨w.nd, by simp, fun a ha c hc => by rw [List.mem_singleton.mp hc]; rintro rfl; exact np ha⟩
 ·by_cases hl : l < α.length
  ·rw [zQ2 hl] at h1
   rw [zQ2 (by rw [← w.len]; exact hl)] at h2
   exact (nw.obj l c ob h1 h2).move (Ex0.grow α [p] _) rfl
  ·have hl' : l = α.length := by
    have := (zQ1.mp h1).1
    rw [zQ4, List.length_singleton] at this
    omega
   subst hl'
   rw [List.getElem?_append_right (Nat.le_refl _), Nat.sub_self] at h1
   rw [List.getElem?_append_right (by rw [w.len]; exact Nat.le_refl _), w.len, Nat.sub_self] at h2
   cases h1; cases h2
   exact q
def zWP (S : Sto) : R Er := .ok (.val (.loc S.length)) (S ++ [.dic []])
theorem zWQ : PEm X W (.Dict [] [] pos) (fun _ S => zWP S) := by
 refine ⟨fun σ H Q => ∀ p, H p = none → Q (.ref p) (upd H p (.dK [])), fun pins s σ H Q I h => ?_, fun α ρ S σ H Q wd sl q p hp => ?_⟩
 ·exact wpAny_Dict_empty ⟨.ref s.heap.objs.size, _, I.laid (a := s.heap.objs.size) (o := .dK []) (t' := s.toks) (fun _ _ q => Heap.get?_push_of_some _ q) (Nat.le_refl _)
   ⟨Nat.zero_le _, beq_eq_false_iff_ne.mpr (Ne.symm (Nat.ne_of_lt (yPD I))), [], .nil, Heap.DictOf.new s.heap⟩, rfl, h _ (I.hok.fresh (Nat.le_refl _))⟩
 ·obtain ⟨x, w'⟩ := wd.put (ho := .dK []) (m := .dic []) hp (.inl ⟨[], wR, .nil⟩)
  exact q (.ref p) (α ++ [p]) _ x w' (DenE.val (zNY (by rw [← wd.len, List.getElem?_append_right (Nat.le_refl _), Nat.sub_self]; rfl)))
noncomputable def zGY (S : Sto) : Er → Option (Nat × List (MV × MV))
 | .val (.loc l) => match S[l]? with
  | some (.dic kvs) => if kvs.all (fun p => zCN p.1) = true then some (l, kvs) else none
  | _ => none
 | _ => none
noncomputable def keyOk (k : MV) : Bool := zCN k && (match wY k with | some nk => decide (nQ nk ≤ 4) | none => false)
theorem zPJ {k : MV} (h : keyOk k = true) : ∃ nk, wY k = some nk ∧ nQ nk ≤ 4 ∧ zCN k = true := by
 unfold keyOk at h
 rw [Bool.and_eq_true] at h
 cases z : wY k with
 | none => rw [z] at h; exact absurd h.2 zQ3
 | some nk => rw [z] at h; exact ⟨nk, rfl, of_decide_eq_true h.2, h.1⟩
theorem zPK {α : List Addr} {S : Sto} {H : Hp} (wd : Wd X.g α S H) {r : Er} {x : V} {l : Nat} {kvs : List (MV × MV)} (e : zGY S r = some (l, kvs)) (d : DenX X.K α H r x) :
  ∃ c xs, x = .ref c ∧ α[l]? = some c ∧ S[l]? = some (.dic kvs) ∧ DD X H c xs ∧ DenN X.K α H kvs xs := by
 unfold zGY at e
 split at e
 ·rename_i n
  obtain ⟨c, rfl, h⟩ := zGQ d
  split at e
  ·rename_i ks hS
   split at e
   ·rename_i hk
    obtain ⟨rfl, rfl⟩ := Prod.mk.inj (Option.some.inj e)
    obtain ⟨xs, dd, l⟩ := dd_of (S := S) (wd.obj _ c _ h hS) hk
    exact ⟨c, xs, rfl, h, hS, dd, l⟩
   ·cases e
  ·cases e
 ·cases e
abbrev rInD (X : Cx) (neg : Bool) : R2 := fun x y H Q => ∃ (α : List Addr) (kvs : List (MV × MV)) (xs : List (NK × Addr × Value)) (a d : Addr) (k : MV) (nk : NK), x = .ref a ∧ y = .ref d ∧ DD X H d xs ∧ DenN X.K α H kvs xs ∧ wY k = some nk ∧ nQ nk ≤ 4 ∧ Den X.K α H k (.ref a) ∧
 Q (.bl (if neg = true then !(look kvs k).isSome else (look kvs k).isSome)) H
theorem zRI {prog : Program} {w : World} {KK : Type} [DecidableEq KK] {knd : HeapKind prog w KK} {A : Around} {E : Value → Shared → Prop} {s : Shared} {d a : Addr} {k : KK} {xs : List (KK × Addr × Value)} {Q : Bool → Shared → Prop} (hu : knd.room A.in1) (hkey : knd.is s.heap k a) (hd : (d == sysModules) = false)
  (hm : s.heap.DictOfH knd d xs) (h : Q (atKey xs k).isSome { s with toks := s.toks + knd.draws k }) : wpAny (model prog w) A (contains (.ref d) (.ref a)) Q E s := by
 unfold contains
 try with_reducible refine wpAny_holding ?_
 refine wpAny_bind (wpAny_specialOf hm.typeIs slot_dict_contains.lookup ?_)
 show wpAny _ _ (if (some (Value.builtin "dict.__contains__") == some Value.none) = true then _ else _) _ E s
 rw [if_neg (by rw [beq_builtin_none]; exact zQ3)]
 refine wpAny_bind (wpAny_callSpecialUnlessNone?_slot (name := Str.ofString "__contains__") hm.typeIs slot_dict_contains (wpAny_call_entry slot_dict_contains hm.typeIs entry_dict_contains ?_ (args_dict_contains _ _)))
 show wpAny _ _ (dictGet d (.ref a) >>= _) _ _ s
 refine wpAny_bind (wpAny_dictGet_heap hu hkey hm ?_)
 cases hf : atKey xs k with
 | some p =>
  rw [hf] at h
  show wpAny _ _ (ret (.bool true)) _ _ _
  exact wpAny_pure ⟨_, rfl, wpAny_truthy_bool h⟩
 | none =>
  rw [hf] at h
  show wpAny _ _ (Builtin.Dict.pendingKey? d (.ref a) >>= _) _ _ _
  exact wpAny_bind (wpAny_pendingKey_other hd (wpAny_pure ⟨_, rfl, wpAny_truthy_bool h⟩))
theorem yPE (hu : X.A.units + 64 < cLine) : OpR X (compareOp .In) (rInD X false) := by
 intro pins s σ H x y v u Q I rx ry h
 obtain ⟨α, kvs, xs, a, d, k, nk, rfl, rfl, dd, l, hk, e, ha, q⟩ := h
 cases rx; cases ry
 obtain ⟨hm, _, hs⟩ := zOB I dd l
 show wpAny _ _ (do return Value.bool (← contains (.ref d) (.ref a))) _ _ s
 refine wpAny_bind (zRI (knd := zDM X.prog X.w) (show X.A.units + 1 + 4 < cLine by omega) ⟨zPI I hk ha rfl, e⟩ hs hm (wpAny_pure ⟨.bl (look kvs k).isSome, H, I.kept (t' := _) (fun _ _ z => z), ?_, q⟩))
 rw [zOC l hk]; rfl
noncomputable def yEF (neg : Bool) (p q : Er) (S : Sto) : R Er := match p with
 | .val k => match zGY S q with
  | some (_, kvs) => if keyOk k = true then .ok (.val (.bl (if neg = true then !(look kvs k).isSome else (look kvs k).isSome))) S else .no
  | none => .no
 | _ => .no
theorem zUJ {α : List Addr} {H : Hp} {k : MV} {x : V} (h : zCN k = true) (d : Den X.K α H k x) : ∃ a, x = .ref a := by
 cases k with
 | tup ds => obtain ⟨a, _, rfl, _⟩ := wG d; exact ⟨a, rfl⟩
 | _ => exact absurd h zQ3
theorem yLC {neg : Bool} : Op2 X W (rInD X neg) (yEF neg) := by
 intro p q x y α S H Q wd dp dq post
 unfold yEF at post
 split at post
 ·rename_i k
  split at post
  ·rename_i l kvs e
   split at post
   ·rename_i hk
    obtain ⟨nk, h1, h2, h3⟩ := zPJ hk
    obtain ⟨c, xs, rfl, _, _, dd, dl⟩ := zPK wd e dq
    obtain ⟨a', rfl⟩ := zUJ (X := X) (α := α) (H := H) h3 dp
    exact ⟨α, kvs, xs, a', c, k, nk, rfl, rfl, dd, dl, h1, h2, dp, Post.val post wd (wS _)⟩
   ·exact post.elim
  ·exact post.elim
 ·exact post.elim
theorem yPF (hu : X.A.units + 64 < cLine) (ha : PEm X W a f) (hb : PEm X W b g) (hm : behindInMarks .In b = false := by with_unfolding_all rfl) : PTm X W (.Compare a [.In] [b] pos) (fun ρ S => ((f ρ S).bind fun p S1 => (g ρ S1).bind fun q S2 => yEF false p q S2).bind asB) := zGR (yPE hu) yLC ha hb hm
def rSetD (X : Cx) : TSet := fun o i v H Q => ∃ (α : List Addr) (kvs : List (MV × MV)) (xs : List (NK × Addr × Value)) (a d : Addr) (k : MV) (nk : NK), o = .ref d ∧ i = .ref a ∧ DD X H d xs ∧ DenN X.K α H kvs xs ∧ wY k = some nk ∧ nQ nk ≤ 4 ∧ Den X.K α H k (.ref a) ∧ xs.length < sizeLine ∧
 ∀ u, RelV v u → Q (upd H d (DN X.prog X.w d (storedH xs nk a u)))
theorem zPL {xs : List (NK × Addr × Value)} {k : NK} {a : Addr} {u : Value} : (storedH xs k a u).length ≤ xs.length + 1 := by
 cases h : atKey xs k with
 | none => rw [storedH_new h, zQ4]; exact Nat.le_refl _
 | some p => rw [storedH_old h, List.length_map]; exact Nat.le_succ _
theorem yEG (hu : X.A.units + 64 < cLine) : PSet X (rSetD X) := by
 intro pins s σ H o i v ov iv u Q I ro ri rv h
 obtain ⟨α, kvs, xs, a, d, k, nk, rfl, rfl, dd, l, hk, e, ha, hz, q⟩ := h
 cases ro; cases ri
 obtain ⟨hm, hz', hs⟩ := zOB I dd l
 refine wpAny_setItem_heap (knd := zDM X.prog X.w) (show X.A.units + 1 + 4 < cLine by omega) ⟨zPI I hk ha rfl, e⟩ hm (fun h' hm' hs' => ⟨_, ?_, q u rv⟩) hz'
 have mu : Mut (H d) := by
  rcases dd with z | ⟨_, z⟩ <;> rw [z] <;> exact trivial
 obtain ⟨ob, es, ep, ho, hc, hd, he, _, hn⟩ := hm'
 refine I.write (t' := _) (x := d) (e := d) mu (.inl rfl) (fun b uo hb eo => (hs'.2 b hb).trans eo) ⟨ob, ho⟩ ?_
 refine ⟨⟨by have := zPL (xs := xs) (k := nk) (a := a) (u := u); omega, hs, ob, es, ep, ho, hc, hd, he, hn⟩, ⟨ob, ho⟩, ?_⟩
 rintro h1 h2 ⟨z1, z2, o', es', ep', ho', r⟩ mv
 exact ⟨z1, z2, o', es', ep', mv o' ho', r⟩
noncomputable def zWR (p q : Er) (d : MV) (ρ : Rho) (S : Sto) : R Rho := match q with
 | .val k => match zGY S p with
  | some (l, kvs) => if keyOk k = true ∧ kvs.length < 1000000 then .ok ρ (S.set l (.dic (putK kvs k d))) else .no
  | none => .no
 | _ => .no
theorem DenN.length {α : List Addr} {H : Hp} : ∀ {kvs xs}, DenN X.K α H kvs xs → xs.length = kvs.length
 | _, _, .nil => rfl
 | _, _, .cons _ _ _ _ _ l => by rw [List.length_cons, List.length_cons, DenN.length l]
theorem yLD (hu : X.A.units + 64 < cLine) (ho : PEm X W o f) (hi : PEm X W i g)
  (ha : ∀ v, assign (.Subscript o i pos) X.env v = (do
   let ov ← holding [v] (eval o X.env)
   let iv ← holding [v, ov] (eval i X.env)
   standAt pos
   holding [v, ov, iv] (setItem ov iv v)
   release [v, ov, iv] []) := by intro _; rfl) : PGm X W (.Subscript o i pos) (fun d ρ S => (f ρ S).bind fun p S1 => (g ρ S1).bind fun q S2 => zWR p q d ρ S2) := by
 obtain ⟨to, ho, fo⟩ := ho
 obtain ⟨ti, hi, fi⟩ := hi
 refine ⟨_, yND ho hi (yEG hu) ha, fun α ρ S σ H d v Q wd sl de q => fo α ρ S σ H _ wd sl (q.bind fun u p S1 α1 H1 e1 x1 w1 d1 q1 => fi α1 ρ S1 σ H1 _ w1 (sl.ext x1) ((q1.shift x1).bind fun u2 p2 S2 α2 H2 e2 x2 w2 d2 q2 => ?_))⟩
 replace q2 := q2.shift x2
 have d1' := DenX.ext x2 d1.1
 have de2 := (de.ext x1).ext x2
 unfold zWR at q2
 split at q2
 ·rename_i k
  split at q2
  ·rename_i l kvs e
   split at q2
   ·rename_i hk
    obtain ⟨nk, h1, h2, h3⟩ := zPJ hk.1
    obtain ⟨c, xs, rfl, hc, hS, dd, dl⟩ := zPK w2 e d1'
    obtain ⟨a', rfl⟩ := zUJ (X := X) (α := α2) (H := H2) h3 d2.1
    refine ⟨α2, kvs, xs, a', c, k, nk, rfl, rfl, dd, dl, h1, h2, d2.1, ?_, fun u ru => ?_⟩
    ·rw [dl.length]
     exact Nat.lt_of_lt_of_le hk.2 (fits (Nat.le_refl _))
    ·have xw := w2.writex hc (o := DN X.prog X.w c (storedH xs nk a' u))
     have sl2 := ((sl.ext x1).ext x2).ext xw
     exact q2 σ α2 _ xw (w2.write hc (.inr ⟨_, wR, (yCK dl h1 h2 d2.1 de2 ru).ex0 xw.toEx0⟩)) sl2
   ·exact q2.elim
  ·exact q2.elim
 ·exact q2.elim
end
end M
end L2
namespace L2
namespace M
open PySem PySem.Spec PyProof.Rows
def yCL : MV → V
 | .non => .non
 | .bl b => .bl b
 | .int i => .int i
 | .str x => .str (mkS x)
 | .typ n => .ty n
 | _ => .non
def zUK : MV → Bool
 | .non => true
 | .bl _ => true
 | .int _ => true
 | .str _ => true
 | _ => false
theorem yHP {K : PySem.W.Frag} {α : List Addr} {H : Hp} {d : MV} (h : zUK d = true) : Den K α H d (yCL d) := by
 cases d with
 | non => exact zKT
 | bl b => exact wS b
 | int i => exact wP i
 | str x => exact zBW x
 | _ => exact absurd h zQ3
theorem zSR {K : PySem.W.Frag} {α : List Addr} {H : Hp} : ∀ {ds : List MV}, ds.all zUK = true → DenL K α H ds (ds.map yCL)
 | [], _ => xK
 | d :: ds, h => by
  rw [List.all_cons, Bool.and_eq_true] at h
  exact xC (yHP h.1) (zSR h.2)
structure GTup (K : PySem.W.Frag) (mg : Str → Option Value) (x : Str) (ds : List MV) : Prop where
 ex : ∃ (a : Addr) (o : Obj) (its : Array Value) (n : Nat), mg x = some (.ref a) ∧ K.lookup a = some o ∧ o.cls = .type "tuple" ∧ o.data = .seq its n ∧ its.size ≤ sizeLine ∧ Vals (ds.map yCL) its.toList
 fl : ds.all zUK = true
theorem yLE {X : Cx} {W : XW} {x : Str} {ds : List MV} {pos : Pos} (hg : Gl X x) (G : GTup X.K X.mg x ds) (hd : (x == ("__debug__" : Str)) = false := by decide) : PEm X W (.Name x pos) (fun _ S => .ok (.val (.tup ds)) S) := by
 obtain ⟨⟨a, o, its, n, hm, lk, hc, hdt, hz, hv⟩, hf⟩ := G
 exact ⟨_, yBL (v := .ref a) hg hm rfl hd, fun α ρ S σ H Q wd sl q => Post.val q wd (nR (.inr ⟨o, its, n, lk, hc, hdt, hz, hv⟩) (zSR hf))⟩
theorem fn_no {P : Program} {w : World} {K : PySem.W.Frag} {mg : Str → Option Value} {base : Heap} {k m : Nat} {f : Addr} {fd : FuncData} {ps : List Str} {g : Gm} : FnOk P w K mg base CX0 k f fd ps (spM g m fun _ _ => .no) :=
 ⟨fun vs H Q E ⟨_, _, _, _, _, _, q⟩ => q.elim, fun _ _ _ _ _ _ _ _ _ _ _ _ _ ⟨_, _, _, _, _, _, q⟩ => q.elim⟩
end M
end L2
namespace L2
namespace M
open PySem PySem.Spec PyProof.Rows
def XCl (K : PySem.W.Frag) (C : Addr) (bm : List Value) (init : Option Value) : Prop :=
 ∃ nm q N bs hd sn sub ab col dd k0 k1 k2 k3 k5, K.lookup C = some (excClassObj nm q C N bs bm hd sn sub ab col dd k0 k1 k2 k3 k5 "ValueError.__new__") ∧ PySem.W.nsOkIn K N = true ∧ PySem.W.nsIn K N "__init__" = some init ∧ ∀ n ∈ qn, PySem.W.nsIn K N n = some none
def XEach (K : PySem.W.Frag) (mg : Str → Option Value) (M : Addr) : List (Str × Addr) → Prop
 | [] => True
 | (c, C) :: r => (mg c = some (.ref C) ∧ ∃ i, XCl K C (.ref M :: bmV) i) ∧ XEach K mg M r
theorem XEach.at {K : PySem.W.Frag} {mg : Str → Option Value} {M : Addr} : ∀ {cs : List (Str × Addr)}, XEach K mg M cs → ∀ {c C}, (c, C) ∈ cs → mg c = some (.ref C) ∧ ∃ i, XCl K C (.ref M :: bmV) i
 | (c, C) :: r, h, c', C', z => by
  rcases List.mem_cons.mp z with z | z
  ·cases z; exact h.1
  ·exact XEach.at h.2 z
end M
end L2
namespace L2
open PySem PySem.Spec PyProof.Rows
structure Out (X : Cx) (pins : List (Addr × Obj)) (H : Hp) (s : Shared) (b : Addr) : Prop where
 s0 : X.s₀.heap.get? b = none
 h : H b = none
 pin : ∀ p ∈ X.pn ++ pins, p.1 ≠ b
 fld : ∃ o vs, s.heap.get? b = some o ∧ o.data = .fields vs
section
variable {X : Cx} {pins : List (Addr × Obj)} {σ : St} {H : Hp} {s : Shared} {e T b : Addr} {h' : Heap}
theorem Out.ne (o : Out X pins H s b) {c : Addr} {oc : Obj} (hc : s.heap.get? c = some oc) (nf : ∀ vs, oc.data ≠ .fields vs) : c ≠ b := fun z => by
 obtain ⟨ob, vs, h1, h2⟩ := o.fld
 rw [z, h1] at hc; cases hc
 exact nf vs h2
theorem Out.loc (o : Out X pins H s b) (I : Inv X pins σ H s) : X.env.locals ≠ b := by
 obtain ⟨m, ⟨oL, es, ep, h1, h2, _⟩, _⟩ := I.loc
 exact o.ne h1 fun vs z => by rw [h2] at z; cases z
end
end L2
set_option autoImplicit false
namespace Srt
variable {β : Type} {le : β → β → Prop}
structure Two (le : β → β → Prop) (T out xs ys : List β) : Prop where
 hx : (out ++ xs).Pairwise le
 hy : (out ++ ys).Pairwise le
 pm : (out ++ (xs ++ ys)).Perm T
structure TwoR (le : β → β → Prop) (T xs ys R : List β) : Prop where
 hx : (xs ++ R).Pairwise le
 hy : (ys ++ R).Pairwise le
 pm : (xs ++ ys ++ R).Perm T
end Srt
set_option autoImplicit false
namespace Srt
open PySem PyProof.Rows
abbrev SM := StateT SortSt Sem
abbrev G3 := Option (Option Nat) × Nat × Nat
end Srt
set_option autoImplicit false
namespace Srt
open PySem PyProof.Rows
section
variable {M : Model} {A : Around} {E : Value → Shared → Prop} {s : Shared}
variable {kd : SortKind} {D : Keyed → Prop} {lt : Keyed → Keyed → Bool}
abbrev Le (lt : Keyed → Keyed → Bool) (x y : Keyed) : Prop := lt y x = false
def SL (lt : Keyed → Keyed → Bool) (l : List Keyed) (b n : Nat) : Prop := ∀ i j x y, i ≤ j → j < n → l[b + i]? = some x → l[b + j]? = some y → lt y x = false
end
end Srt
set_option autoImplicit false
namespace Srt
open PySem PyProof.Rows
abbrev V := Array Keyed
abbrev L6 := Option V × V × Nat × Nat × Nat × Nat
abbrev L7 := Option V × V × Nat × Nat × Nat × Nat × Nat
abbrev dnL (a b o : V) (i j : Nat) : V := o ++ a.extract i a.size ++ b.extract j b.size
abbrev laL (a b o : V) (i j : Nat) : V := o ++ b.extract j b.size ++ a.extract i a.size
noncomputable def one1 (a b : V) (g : Nat) (c : L6) : SM (ForInStep L6) :=
 elem' b c.2.2.2.1 >>= fun y => elem' a c.2.2.1 >>= fun x => lt' y x >>= fun r => match r with
  | some q => if q = true then elem' b c.2.2.2.1 >>= fun y =>
     if (c.2.2.2.1 + 1 == b.size) = true then pure (.done (some (dnL a b (c.2.1.push y) c.2.2.1 (c.2.2.2.1 + 1)), c.2.1.push y, c.2.2.1, c.2.2.2.1 + 1,0, c.2.2.2.2.2 + 1))
     else if c.2.2.2.2.2 + 1 ≥ g then pure (.done (none, c.2.1.push y, c.2.2.1, c.2.2.2.1 + 1,0, c.2.2.2.2.2 + 1))
     else pure (.yield (none, c.2.1.push y, c.2.2.1, c.2.2.2.1 + 1,0, c.2.2.2.2.2 + 1))
    else elem' a c.2.2.1 >>= fun x =>
     if (c.2.2.1 + 1 + 1 == a.size) = true then pure (.done (some (laL a b (c.2.1.push x) (c.2.2.1 + 1) c.2.2.2.1), c.2.1.push x, c.2.2.1 + 1, c.2.2.2.1, c.2.2.2.2.1 + 1,0))
     else if c.2.2.2.2.1 + 1 ≥ g then pure (.done (none, c.2.1.push x, c.2.2.1 + 1, c.2.2.2.1, c.2.2.2.2.1 + 1,0))
     else pure (.yield (none, c.2.1.push x, c.2.2.1 + 1, c.2.2.2.1, c.2.2.2.2.1 + 1,0))
  | _ => pure (.done (some (dnL a b c.2.1 c.2.2.1 c.2.2.2.1), c.2.1, c.2.2.1, c.2.2.2.1, c.2.2.2.2.1, c.2.2.2.2.2))
noncomputable def in1 (a b : V) (t g : Nat) (c : L6) : SM L6 := forIn [0:t] c fun _ c => one1 a b g c
end Srt
set_option autoImplicit false
namespace Srt
open PySem PyProof.Rows
def Sg (st st' : SortSt) : Prop := ∃ g, st' = SortSt.mk' (kindOf st) (arrOf st) (pendingOf st) g (failedOf st)
theorem Sg.kind {st st' : SortSt} (h : Sg st st') : kindOf st' = kindOf st := by obtain ⟨g, rfl⟩ := h; rfl
section
variable {M : Model} {A : Around} {E : Value → Shared → Prop} {s : Shared} {kd : SortKind} {D : Keyed → Prop} {lt : Keyed → Keyed → Bool} {a b : V}
abbrev TwoA (lt : Keyed → Keyed → Bool) (a b o : V) (i j : Nat) : Prop := Two (Le lt) (a.toList ++ b.toList) o.toList (a.toList.drop i) (b.toList.drop j)
def FinA (lt : Keyed → Keyed → Bool) (a b r : V) : Prop := r.toList.Pairwise (Le lt) ∧ r.toList.Perm (a.toList ++ b.toList)
theorem TwoA.sa {o : V} {i j : Nat} (h : TwoA lt a b o i j) : (a.toList.drop i).Pairwise (Le lt) := (List.pairwise_append.mp h.hx).2.1
theorem TwoA.len {o : V} {i j : Nat} (h : TwoA lt a b o i j) : o.size + ((a.size - i) + (b.size - j)) = a.size + b.size := by
 have := h.pm.length_eq
 simpa [zQ4, List.length_drop] using this
def I1 (lt : Keyed → Keyed → Bool) (a b o : V) (i j : Nat) : Prop := i + 1 < a.size ∧ j < b.size ∧ TwoA lt a b o i j
def N7 (lt : Keyed → Keyed → Bool) (a b : V) (n : Nat) (c : L7) : Prop := ∃ o i j g p q, c = (none, o, i, j, g, p, q) ∧ I1 lt a b o i j ∧ n ≤ o.size
def P7 (lt : Keyed → Keyed → Bool) (a b : V) (n : Nat) (c : L7) : Prop := (∃ r e, c = (some r, e) ∧ FinA lt a b r) ∨ N7 lt a b n c
end
end Srt
set_option autoImplicit false
namespace Srt
open PySem PyProof.Rows
abbrev H5 := Option V × Nat × Nat × V × Nat
abbrev H6 := Option V × Nat × Nat × V × Nat × Nat
abbrev H7 := Option V × Nat × Nat × V × Nat × Nat × Nat
section
variable {M : Model} {A : Around} {E : Value → Shared → Prop} {s : Shared} {kd : SortKind} {D : Keyed → Prop} {lt : Keyed → Keyed → Bool} {a b : V}
abbrev TwoH (lt : Keyed → Keyed → Bool) (a b o : V) (i j : Nat) : Prop := TwoR (Le lt) (a.toList ++ b.toList) (a.toList.take i) (b.toList.take j) o.toList.reverse
theorem TwoH.sa {o : V} {i j : Nat} (h : TwoH lt a b o i j) : (a.toList.take i).Pairwise (Le lt) := (List.pairwise_append.mp h.hx).1
theorem TwoH.len {o : V} {i j : Nat} (h : TwoH lt a b o i j) (h1 : i ≤ a.size) (h2 : j ≤ b.size) : o.size + (i + j) = a.size + b.size := by
 have := h.pm.length_eq
 simp only [zQ4, List.length_take, List.length_reverse, Array.length_toList] at this
 omega
def J1 (lt : Keyed → Keyed → Bool) (a b o : V) (i j : Nat) : Prop := 1 ≤ i ∧ i ≤ a.size ∧ 2 ≤ j ∧ j ≤ b.size ∧ TwoH lt a b o i j
def R6 (lt : Keyed → Keyed → Bool) (a b : V) (n : Nat) (c : H6) : Prop := ∃ i j o p q, c = (none, i, j, o, p, q) ∧ J1 lt a b o i j ∧ n ≤ o.size
def S6 (lt : Keyed → Keyed → Bool) (a b : V) (n : Nat) (c : H6) : Prop := (∃ r e, c = (some r, e) ∧ FinA lt a b r) ∨ R6 lt a b n c
def R7 (lt : Keyed → Keyed → Bool) (a b : V) (n : Nat) (c : H7) : Prop := ∃ i j o g p q, c = (none, i, j, o, g, p, q) ∧ J1 lt a b o i j ∧ n ≤ o.size
end
end Srt
set_option autoImplicit false
namespace Srt
open PySem PyProof.Rows
def Kx (d : Keyed) (v : V) (i : Nat) : Keyed := (v[i]?).getD d
structure SB (a₀ : V) (kd : SortKind) (pd : Array (Nat × Nat × Nat)) (f : V) (lo : Nat) (st : SortSt) : Prop where
 pm : (arrOf st).Perm a₀
 kind : kindOf st = kd
 fl : failedOf st = none
 pd : pendingOf st = pd
 fx : ∀ i, i < lo → (arrOf st)[i]? = f[i]?
section
variable {M : Model} {A : Around} {E : Value → Shared → Prop} {s : Shared} {kd : SortKind} {D : Keyed → Prop} {lt : Keyed → Keyed → Bool} {a₀ f : V} {pd : Array (Nat × Nat × Nat)} {lo : Nat} {st : SortSt} {d : Keyed}
theorem SB.size (h : SB a₀ kd pd f lo st) : (arrOf st).size = a₀.size := h.pm.size_eq
def Up (lt : Keyed → Keyed → Bool) (d : Keyed) (v : V) (lo n : Nat) : Prop := ∀ i j, i ≤ j → j < n → Le lt (Kx d v (lo + i)) (Kx d v (lo + j))
def Dn (lt : Keyed → Keyed → Bool) (d : Keyed) (v : V) (lo n : Nat) : Prop := ∀ i j, i ≤ j → j < n → Le lt (Kx d v (lo + j)) (Kx d v (lo + i))
end
end Srt
set_option autoImplicit false
namespace Srt
open PySem PyProof.Rows
section
variable {M : Model} {A : Around} {E : Value → Shared → Prop} {s : Shared} {kd : SortKind} {D : Keyed → Prop} {lt : Keyed → Keyed → Bool} {a₀ f : V} {pd : Array (Nat × Nat × Nat)} {lo : Nat} {st : SortSt} {d : Keyed}
theorem Up.sl {v : V} {n : Nat} (h : Up lt d v lo n) : SL lt v.toList lo n := by
 intro i j x y h1 h2 hx hy
 have e1 : Kx d v (lo + i) = x := by unfold Kx; rw [← Array.getElem?_toList, hx]; rfl
 have e2 : Kx d v (lo + j) = y := by unfold Kx; rw [← Array.getElem?_toList, hy]; rfl
 have := h i j h1 h2
 rw [e1, e2] at this
 exact this
structure Out (a₀ : V) (kd : SortKind) (lt : Keyed → Keyed → Bool) (n : Nat) (st : SortSt) : Prop where
 pm : (arrOf st).toList.Perm a₀.toList
 kind : kindOf st = kd
 fl : failedOf st = none
 pd : ∃ w, pendingOf st = #[(0, n, w)]
 so : (arrOf st).toList.Pairwise (Le lt)
end
end Srt
set_option autoImplicit false
set_option autoImplicit false
set_option autoImplicit false
set_option autoImplicit false
namespace L2
namespace M
open PySem PySem.Spec PyProof.Rows
mutual
def bJ : MV → Bool
 | .int _ => true
 | .str _ => true
 | .tup ds => zNE ds
 | _ => false
def zNE : List MV → Bool
 | [] => true
 | d :: ds => bJ d && zNE ds
end
section
variable {X : Cx} {α : List Addr} {S : Sto} {H : Hp} {pins : List (Addr × Obj)} {σ : St} {s : Shared}
mutual
theorem yCM (I : Inv X pins σ H s) : ∀ {d d' : MV} {v : V}, bJ d = true → bJ d' = true → Den X.K α H d v → Den X.K α H d' v → d = d'
 | .int i, d', v, _, h', q, q' => by
  cases kS q
  cases d' with
  | int j => cases kS q'; rfl
  | str x => cases kT q'
  | tup ds => obtain ⟨a, vs, e, _⟩ := wG q'; cases e
  | _ => simp [bJ] at h'
 | .str x, d', v, _, h', q, q' => by
  have e := kT q
  cases d' with
  | int j => rw [kS q'] at e; cases e
  | str y => rw [kT q'] at e; injection e with e; rw [zNX e]
  | tup ds => obtain ⟨a, vs, e', _⟩ := wG q'; rw [e'] at e; cases e
  | _ => simp [bJ] at h'
 | .tup ds, d', v, h, h', q, q' => by
  obtain ⟨a, vs, e, t, l⟩ := wG q
  cases d' with
  | int j => rw [kS q'] at e; cases e
  | str y => rw [kT q'] at e; cases e
  | tup es =>
   obtain ⟨a', vs', e', t', l'⟩ := wG q'
   rw [e] at e'; cases e'
   have := I.tuple_inj t t'
   subst this
   rw [zWS I (by unfold bJ at h; exact h) (by unfold bJ at h'; exact h') l l']
  | _ => simp [bJ] at h'
theorem zWS (I : Inv X pins σ H s) : ∀ {ds es : List MV} {vs : List V}, zNE ds = true → zNE es = true → DenL X.K α H ds vs → DenL X.K α H es vs → ds = es
 | [], [], _, _, _, _, _ => rfl
 | [], e :: es, _, _, _, q, q' => by obtain ⟨v, r, e, _⟩ := q'.uncons; rw [q.isnil] at e; cases e
 | d :: ds, [], _, _, _, q, q' => by obtain ⟨v, r, e, _⟩ := q.uncons; rw [q'.isnil] at e; cases e
 | d :: ds, e :: es, _, h, h', q, q' => by
  obtain ⟨v, r, rfl, a, l⟩ := q.uncons
  obtain ⟨v', r', e', a', l'⟩ := q'.uncons
  cases e'
  unfold zNE at h h'
  rw [Bool.and_eq_true] at h h'
  rw [yCM I h.1 h'.1 a a', zWS I h.2 h'.2 l l']
end
inductive KindD : Bool → MV → Prop
 | t (es r) : KindD true (.tup (.tup es :: r))
 | e : KindD false (.tup [])
end
structure OrdD (S : Sto) (ks : List MV) : Prop where
 any : ∀ a, a ∈ ks → ∀ b, b ∈ ks → ∃ t, ltv S zR a b = some t
 tr : ∀ a, a ∈ ks → ∀ b, b ∈ ks → ∀ c, c ∈ ks → ltv S zR b a = some false → ltv S zR c b = some false → ltv S zR c a = some false
 as : ∀ a, a ∈ ks → ∀ b, b ∈ ks → ltv S zR a b = some true → ltv S zR b a = some false
end M
end L2
namespace L2
namespace M
open PySem PySem.Spec PyProof.Rows
section
variable {X : Cx} {α : List Addr} {S : Sto} {H : Hp} {pins : List (Addr × Obj)} {σ : St} {s : Shared} {k : Nat} {fa : Addr} {fd : FuncData} {ps : List Str} {Fd : List MV → Sto → R Er}
noncomputable def zRJ (K : PySem.W.Frag) (α : List Addr) (H : Hp) (kds : List MV) (u : Value) : MV :=
 open Classical in if h : ∃ d v, d ∈ kds ∧ Den K α H d v ∧ RelV v u then Classical.choose h else kds.headD .non
theorem yLF {K : PySem.W.Frag} {kds : List MV} (hne : kds ≠ []) (u : Value) : zRJ K α H kds u ∈ kds := by
 unfold zRJ
 split
 ·rename_i h
  obtain ⟨v, h1, _⟩ := Classical.choose_spec h
  exact h1
 ·match kds, hne with
  | x :: l, _ => exact List.mem_cons_self
theorem yHQ {K : PySem.W.Frag} {kds : List MV} {u : Value} (h : ∃ d v, d ∈ kds ∧ Den K α H d v ∧ RelV v u) : ∃ v, Den K α H (zRJ K α H kds u) v ∧ RelV v u := by
 unfold zRJ
 rw [dif_pos h]
 obtain ⟨v, _, h2, h3⟩ := Classical.choose_spec h
 exact ⟨v, h2, h3⟩
theorem yPG (I : Inv X pins σ H s) {kds : List MV} {kvs : List V} {ks : List Value} (hpu : ∀ d, d ∈ kds → bJ d = true) (dk : DenL X.K α H kds kvs) (vk : Vals kvs ks) {i : Nat} {u : Value} {a : MV} (hu : ks[i]? = some u) (ha : kds[i]? = some a) :
  zRJ X.K α H kds u = a := by
 obtain ⟨v, hv, da⟩ := dk.at ha
 obtain ⟨u', hu', r⟩ := vk.get hv
 rw [hu] at hu'; cases hu'
 have ma : a ∈ kds := List.mem_of_getElem? ha
 have ne : kds ≠ [] := fun z => by rw [z] at ma; cases ma
 obtain ⟨v', d', r'⟩ := yHQ (K := X.K) (α := α) (H := H) ⟨a, v, ma, da, r⟩
 rw [r'.inj r] at d'
 exact yCM I (hpu _ (yLF ne u)) (hpu a ma) d' da
end
end M
end L2
namespace L2
namespace M
open PySem PySem.Spec PyProof.Rows
structure SrtOk (Fd : List MV → Sto → R Er) (S : Sto) (ds kds : List MV) (b : Bool) : Prop where
 len : ds.length < 128
 kl : kds.length = ds.length
 call : ∀ (m : Nat) d kd, ds[m]? = some d → kds[m]? = some kd → zJ 1 Fd [.val d] S = .ok (.val kd) S
 pu : ∀ d, d ∈ kds → bJ d = true
 kind : ∀ d, d ∈ kds → KindD b d
 ord : OrdD S kds
def SrtTo (S : Sto) (ds kds r : List MV) : Prop := ∃ idx : List Nat, idx.Perm (List.range ds.length) ∧ idx.Pairwise (fun i j => ∀ a c, kds[i]? = some a → kds[j]? = some c → ltv S zR c a = some false) ∧ r = idx.filterMap (ds[·]?)
open Classical in
noncomputable def srtF (Fd : List MV → Sto → R Er) (rs : List Er) (S : Sto) : R Er := match rs with
 | [p] => match bO S p with
  | some ds => if h : ∃ r, ∃ kds b, SrtOk Fd S ds kds b ∧ ∀ r', SrtTo S ds kds r' → r' = r then .ok (.new (Classical.choose h)) S else .no
  | none => .no
 | _ => .no
def zPM (S : Sto) (d : MV) : List MV → Option Nat
 | [] => none
 | x :: xs => (eqv S zR x d).bind fun k => if k = true then some 0 else (zPM S d xs).map (· + 1)
open Classical in
noncomputable def zSS (p : Er) (rs : List Er) (S : Sto) : R Er := match rs with
 | [.val d] => match bO S p with
  | some ds => if ∀ x, x ∈ ds → bJ x = true ∧ (eqv S zR x d).isSome = true then (match zPM S d ds with | some j => .ok (.val (.int (j : Nat))) S | none => .no) else .no
  | none => .no
 | _ => .no
theorem zST {S : Sto} {d : MV} : ∀ {ds : List MV} {j : Nat}, zPM S d ds = some j → (∃ x, ds[j]? = some x ∧ eqv S zR x d = some true) ∧ ∀ m x, m < j → ds[m]? = some x → eqv S zR x d = some false
 | [], j, h => by cases h
 | x :: xs, j, h => by
  unfold zPM at h
  cases z : eqv S zR x d with
  | none => rw [z] at h; cases h
  | some k =>
   rw [z] at h
   have h : (if k = true then some 0 else (zPM S d xs).map (· + 1)) = some j := h
   cases k with
   | true =>
    rw [if_pos rfl] at h
    cases h
    exact ⟨⟨x, rfl, z⟩, fun m y hm _ => by omega⟩
   | false =>
    rw [if_neg zQ3] at h
    cases zz : zPM S d xs with
    | none => rw [zz] at h; cases h
    | some i =>
     rw [zz] at h
     cases h
     obtain ⟨⟨y, h1, h2⟩, h3⟩ := zST zz
     refine ⟨⟨y, by simpa using h1, h2⟩, fun m w hm hw => ?_⟩
     cases m with
     | zero => simp at hw; subst hw; exact z
     | succ m => exact h3 m w (Nat.lt_of_succ_lt_succ hm) (by simpa using hw)
section
variable {X : Cx} {W : XW} {a e : Expr} {es : List Expr} {f : Rho → Sto → R Er} {af : Rho → Sto → R (List Er)} {pos apos : Pos}
theorem yLG (hu : X.A.units + 64 < cLine) : MtR X "list.index" (fun x xs H Q => ∃ α S l vs ds d y j, x = .ref l ∧ xs = [y] ∧ Wd X.g α S H ∧ SqL X.K H l vs ∧ DenL X.K α H ds vs ∧ Den X.K α H d y ∧ (∀ x, x ∈ ds → bJ x = true ∧ (eqv S zR x d).isSome = true) ∧ zPM S d ds = some j ∧ Q (.int (j : Nat)) H) := by
 intro pins s σ H x xs v us Q I rx rs h
 obtain ⟨α, S, l, vs, ds, d, y, j, rfl, rfl, wd, sq, dl, dd, hp, hj, q⟩ := h
 cases rx
 obtain ⟨u, rfl, ru⟩ := rs.one
 obtain ⟨its, rv, ⟨o, n, e0, hc, hd0, hd⟩, hz⟩ := I.list sq
 obtain ⟨cls, dct, dat, slt⟩ := o
 simp only at hc hd hd0
 subst hc hd hd0
 obtain ⟨⟨x, hx, ex⟩, hno⟩ := zST hj
 have hln := sizeLine_eq
 have hjl : j < its.length := by rw [← rv.length, dl.length]; exact (zQ1.mp hx).1
 have hpu : ∀ x, x ∈ ds → bJ x = true := fun x hx => (hp x hx).1
 have at_ : ∀ m (hm : m < its.length), ∃ x, ds[m]? = some x ∧ zRJ X.K α H ds its[m] = x := fun m hm => by
  have hm' : m < ds.length := by rw [← dl.length, rv.length]; exact hm
  exact ⟨ds[m], List.getElem?_eq_getElem hm', yPG I hpu dl rv (List.getElem?_eq_getElem hm) (List.getElem?_eq_getElem hm')⟩
 refine call_meets PySem.F.slot_list_index ⟨_, e0, rfl⟩ PySem.F.entry_list_index (PySem.F.args_list_index_2 _ _)
  (SeqAt.list_indexAt l its.toArray n _ _ u (fun w => (eqv S zR (zRJ X.K α H ds w) d).getD false) j (by simpa using hjl) (by have := rv.length; omega) ?_ ?_) ⟨e0, fun w hw => ?_, ?_⟩
 ·obtain ⟨x', h1, h2⟩ := at_ j hjl
  show (eqv S zR (zRJ X.K α H ds its[j]) d).getD false = true
  rw [h2]
  rw [hx] at h1; cases h1
  rw [ex]; rfl
 ·intro m hm hlt
  have hm' : m < its.length := by simpa using hm
  obtain ⟨x', h1, h2⟩ := at_ m hm'
  show (eqv S zR (zRJ X.K α H ds its[m]) d).getD false = false
  rw [h2, hno m x' hlt h1]; rfl
 ·have hw' : w ∈ its := by simpa using hw
  obtain ⟨m, hm, rfl⟩ := List.mem_iff_getElem.mp hw'
  obtain ⟨x', h1, h2⟩ := at_ m hm
  obtain ⟨xv, h3, h4⟩ := dl.at h1
  obtain ⟨w', h5, h6⟩ := rv.get h3
  rw [List.getElem?_eq_getElem hm] at h5; cases h5
  have hs := (hp x' (List.mem_of_getElem? h1)).2
  obtain ⟨kk, hk⟩ := Option.isSome_iff_exists.mp hs
  show SeqAt.EqAt _ _ _ _ ((eqv S zR (zRJ X.K α H ds its[m]) d).getD false)
  rw [h2, hk]
  exact zPA I wd zR X.A.in1 x' d xv y _ _ kk (by unfold zR; show X.A.units + 1 + 40 < cLine; omega) h4 dd h6 ru hk
 ·exact ⟨.int _, H, I.tok _, ⟨_, rfl⟩, q⟩
theorem yLH : zZI X W (fun x xs H Q => ∃ α S l vs ds d y j, x = .ref l ∧ xs = [y] ∧ Wd X.g α S H ∧ SqL X.K H l vs ∧ DenL X.K α H ds vs ∧ Den X.K α H d y ∧ (∀ x, x ∈ ds → bJ x = true ∧ (eqv S zR x d).isSome = true) ∧ zPM S d ds = some j ∧ Q (.int (j : Nat)) H) zSS := by
 intro p rs x vs α S H0 H Q α0 wd x0 dp da post
 replace post := post.shift x0
 unfold zSS at post
 split at post
 ·split at post
  ·rename_i ds el
   split at post
   ·rename_i hp
    split at post
    ·rename_i j hj
     obtain ⟨v, rfl, dv⟩ := zWG da
     obtain ⟨l, xs, rfl, sq, dl⟩ := zKV rfl wd el dp
     exact ⟨α, S, l, xs, ds, _, v, j, rfl, rfl, wd, sq, dl, dv, hp, hj, Post.val post wd (wP _)⟩
    ·exact post.elim
   ·exact post.elim
  ·exact post.elim
 ·exact post.elim
theorem yLI (hu : X.A.units + 64 < cLine) (ho : PEm X W a f) (ha : PAm X W (e :: es) af)
  (hbase : attributeBase a "index" X.env (eval a X.env) = eval a X.env := by rfl)
  (hfew : ((backTo pos (starEach (e :: es) X.env)).all (fun x => !x.1) && (backToKw pos (keywordEach [] X.env)).all (fun x => x.1.isSome)
   && decide ((e :: es).length + ([] : List Keyword).length + (if ([] : List Keyword).isEmpty then 0 else 1) < 30)) = true := by rfl)
  (hline : (apos.endLine == pos.line) = true := by rfl) (hs : starEach (e :: es) X.env = (false, eval e X.env) :: starEach es X.env := by rfl) (hplain : (backTo pos (starEach es X.env)).any (·.1) = false := by rfl) :
  PEm X W (.Call (.Attribute a "index" apos) (e :: es) [] pos) (fun ρ S => (f ρ S).bind fun p S1 => if dC p S1 = true then (af ρ S1).bind fun rs S2 => zSS p rs S2 else .no) :=
 zTW PySem.F.plainAttrs_list PySem.F.slot_list_index PySem.F.type_list_index (yLG hu) yLH zZU ho ha hbase hfew hline hs hplain
end
end M
end L2
namespace L2
namespace M
open PySem PySem.Spec PyProof.Rows
section
variable {X : Cx} {W : XW} {a b o i : Expr} {f g : Rho → Sto → R Er} {pos : Pos} {pins : List (Addr × Obj)} {σ : St} {H : Hp} {s : Shared} {α : List Addr}
theorem DenK.length : ∀ {kvs : List (MV × MV)} {xs : List (Key × V)}, DenK X.K α H kvs xs → xs.length = kvs.length
 | _, _, .nil => rfl
 | _, _, .cons _ _ l => by rw [List.length_cons, List.length_cons, DenK.length l]
end
end M
end L2
namespace L2
namespace M
open PySem PySem.Spec PyProof.Rows
section
variable {X : Cx} {W : XW} {o e : Expr} {es : List Expr} {f : Rho → Sto → R Er} {af : Rho → Sto → R (List Er)} {apos pos : Pos} {to : TE} {t : TA} {T : String} {name : Str} {id : String} {r : V → List V → Hp → VK → Prop}
def zJT (X : Cx) (T : String) (TY : V → Hp → Prop) : Prop := ∀ (pins : List (Addr × Obj)) (s : Shared) (σ : St) (H : Hp) (x : V) (v : Value), Inv X pins σ H s → RelV x v → TY x H → s.TypeIs v T ∧ ∀ a, v = .ref a → ∃ ob, s.heap.get? a = some ob ∧ ob.dict = none
theorem yPH {TY : V → Hp → Prop} (hTY : zJT X T TY) (pa : PlainAttrs T) (slot : Slot T name id) (hty : typeOf (.builtin id) = pure (.type "method_descriptor")) (hm : MtR X id r) (ho : PE X o to) (ha : PA X (e :: es) t)
  (hbase : attributeBase o name X.env (eval o X.env) = eval o X.env)
  (hfew : ((backTo pos (starEach (e :: es) X.env)).all (fun x => !x.1) && (backToKw pos (keywordEach [] X.env)).all (fun x => x.1.isSome)
   && decide ((e :: es).length + ([] : List Keyword).length + (if ([] : List Keyword).isEmpty then 0 else 1) < 30)) = true)
  (hline : (apos.endLine == pos.line) = true) (hs : starEach (e :: es) X.env = (false, eval e X.env) :: starEach es X.env) (hplain : (backTo pos (starEach es X.env)).any (·.1) = false) :
  PE X (.Call (.Attribute o name apos) (e :: es) [] pos) (fun σ H Q => to σ H fun x H1 => TY x H1 ∧ t σ H1 fun vs H2 => r x vs H2 Q) := by
 intro pins s σ H Q I h
 refine wpAny_Call_method_late hbase hfew hline rfl (thn (ho pins s σ H _ I h) fun v s1 ⟨x, H1, I1, r1, ty, q1⟩ => ?_)
 obtain ⟨h1, h2⟩ := hTY pins s1 σ H1 x v I1 r1 ty
 refine ⟨T, id, pa, slot, hty, h1, h2, ?_⟩
 have hA := ha pos pins s1 σ H1 _ I1 q1
 rw [hs] at hA ⊢
 refine Calls.callWith_builtin (by show (false || (backTo pos (starEach es X.env)).any (·.1)) = false; rw [hplain] <;> rfl) (Calls.evalArgs_plain ?_)
 exact thn hA fun us s2 ⟨vs, H2, I2, r2, q2⟩ => hm pins s2 σ H2 x vs v us Q I2 r1 r2 q2
def TyD (X : Cx) (x : V) (H : Hp) : Prop := ∃ d xs, x = .ref d ∧ DD X H d xs
theorem zUL : zJT X "dict" (TyD X) := by
 intro pins s σ H x v I rx ⟨d, xs, e, dd⟩
 subst e
 cases rx
 rcases dd with h | ⟨rfl, h⟩
 ·obtain ⟨⟨hz, hs, o, es, ep, ho, hc, _⟩, _⟩ := (show ObjOk X.prog X.w H s.heap d (DN X.prog X.w d xs) from I.hok d _ h)
  exact ⟨⟨o, ho, hc.1⟩, fun a e => by cases e; exact ⟨o, ho, hc.2.1⟩⟩
 ·obtain ⟨_, hs, vs, kv, o, es, ep, ho, hc, _⟩ := (show ObjOk X.prog X.w H s.heap d (.dK []) from I.hok d _ h)
  exact ⟨⟨o, ho, hc.1⟩, fun a e => by cases e; exact ⟨o, ho, hc.2.1⟩⟩
end
section
variable {P : Program} {w : World} {KK : Type} [DecidableEq KK] {knd : HeapKind P w KK} {A : Around} {E : Value → Shared → Prop} {s : Shared} {d a : Addr} {k : KK} {xs : List (KK × Addr × Value)}
theorem yEH {v : Value} {Q : Value → Shared → Prop} (hu : knd.room A) (hkey : knd.is s.heap k a) (hm : s.heap.DictOfH knd d xs)
  (h1 : ∀ p, atKey xs k = some p → Q p.2 { s with toks := s.toks + knd.draws k })
  (h2 : atKey xs k = none → ∀ h', h'.DictOfH knd d (storedH xs k a v) → Heap.SameBut d s.heap h' → Q v { s with heap := h', toks := s.toks + knd.draws k }) (hsz : xs.length ≤ sizeLine) :
  wpAny (model P w) A (dictSetDefault d (.ref a) v) Q E s := by
 obtain ⟨o, es, ep, ho, hc, hd, he, his, hn⟩ := hm
 unfold dictSetDefault
 try with_reducible refine wpAny_holding ?_
 refine wpAny_bind (knd.pyHash hu hkey ?_)
 refine wpAny_bind (wpAny_dictFind_heap (s := { s with toks := s.toks + knd.draws k }) hu hkey ho hd he his hn ?_ ?_)
 ·intro hno
  have hnone := atKey_none_of_get hno
  have hst := storedH_new (v := v) (a := a) hnone
  refine wpAny_bind (wpAny_rule (wpAny_bind (wpAny_updateDictKeys (hz := by have e := size_of_entries he; omega) (s := { s with toks := s.toks + knd.draws k }) ho hd (wpAny_pure (h2 hnone _ ⟨_, _, ep + 1, Heap.get?_update_self _ ho (Obj.isFreed_of_dict (Obj.data_mapDictKeys hd _)),
   hc.mapDictKeys _, Obj.data_mapDictKeys hd _, ?_, ?_, ?_⟩ (Heap.SameBut.update ..))))))
  ·rw [hst]
   simp [he, entryOfKey]
  ·rw [hst]
   intro x hx
   rcases List.mem_append.mp hx with hx | hx
   ·exact knd.keeps (his x hx) ho hd (Heap.SameBut.update ..)
   ·rw [List.mem_singleton.mp hx]
    exact knd.keeps hkey ho hd (Heap.SameBut.update ..)
  ·rw [hst, List.map_append, List.nodup_append]
   refine ⟨hn, by simp, fun x hx y hy => ?_⟩
   rw [List.mem_singleton.mp hy]
   rintro rfl
   exact not_mem_keys_of_get hno hx
 ·intro j p hj
  refine wpAny_bind (wpAny_dictEntries (s := { s with toks := s.toks + knd.draws k }) ho hd ?_)
  rw [entry_at he j, hj]
  exact wpAny_bind (wpAny_rule (wpAny_pure (h1 _ (atKey_of_get hn hj))))
end
end M
end L2
namespace L2
namespace M
open PySem PySem.Spec PyProof.Rows
section
variable {X : Cx} {W : XW} {o e : Expr} {es : List Expr} {f : Rho → Sto → R Er} {af : Rho → Sto → R (List Er)} {apos pos : Pos}
theorem yCN {α : List Addr} {H : Hp} : ∀ {kvs : List (MV × MV)} {xs : List (NK × Addr × Value)} {k dd : MV} {nk : NK}, DenN X.K α H kvs xs → wY k = some nk → look kvs k = some dd → ∃ a u v, atKey xs nk = some (a, u) ∧ Den X.K α H dd v ∧ RelV v u
 | _, _, k, dd, nk, .nil, hk, h => by cases h
 | _, _, k, dd, nk, .cons (k := k') (nk := nk') (a := a) (d := d') (v := v) (u := u) hk' e ha hd r l, hk, h => by
  rw [bR] at h
  by_cases c : k' = k
  ·subst c
   have : nk' = nk := by rw [hk] at hk'; exact (Option.some.inj hk').symm
   rw [if_pos rfl] at h
   cases h
   exact ⟨a, u, v, by rw [zJS, if_pos this], hd, r⟩
  ·have hn : nk' ≠ nk := fun z => c (zLG hk' (by rw [hk, z]))
   rw [if_neg c] at h
   obtain ⟨a2, u2, v2, h1, h2, h3⟩ := yCN l hk h
   exact ⟨a2, u2, v2, by rw [zJS, if_neg hn]; exact h1, h2, h3⟩
def rSD (X : Cx) : V → List V → Hp → VK → Prop := fun x vs H Q => ∃ (α : List Addr) (kvs : List (MV × MV)) (xs : List (NK × Addr × Value)) (a d : Addr) (k : MV) (nk : NK) (y : V), x = .ref d ∧ vs = [.ref a, y] ∧ DD X H d xs ∧ DenN X.K α H kvs xs ∧ wY k = some nk ∧ nQ nk ≤ 4 ∧ Den X.K α H k (.ref a) ∧ xs.length < sizeLine ∧
 (∀ dd v, look kvs k = some dd → Den X.K α H dd v → Q v H) ∧ (look kvs k = none → ∀ u, RelV y u → Q y (upd H d (DN X.prog X.w d (storedH xs nk a u))))
theorem mt_sd (hu : X.A.units + 64 < cLine) : MtR X "dict.setdefault" (rSD X) := by
 intro pins s σ H x vs v us Q I rx rv h
 obtain ⟨α, kvs, xs, a, d, k, nk, y, rfl, rfl, dd, l, hk, e, ha, hz, q1, q2⟩ := h
 obtain ⟨u1, u2, rfl, r1, r2⟩ := vals2 rv
 cases rx; cases r1
 obtain ⟨hm, hz', hs⟩ := zOB I dd l
 have hT : s.TypeIs (.ref d) "dict" := (zUL pins s σ H (.ref d) (.ref d) I rfl ⟨d, xs, rfl, dd⟩).1
 have hl := zOC l hk
 refine wpAny_call_entry PySem.F.slot_dict_setdefault hT PySem.F.entry_dict_setdefault ?_ (PySem.F.args_dict_setdefault_3 _ _ _)
 unfold Builtin.«dict.setdefault»
 refine wpAny_bind ?_
 unfold Builtin.Dict.keyAndDefault
 refine wpAny_bind (wpAny_notOrdered_dict hT ?_)
 show wpAny _ _ (pure (d, Value.ref a, some u2)) _ _ s
 refine wpAny_pure ?_
 show wpAny _ _ (if (d == sysModules) = true then _ else (dictSetDefault d (.ref a) u2 >>= _)) _ _ s
 rw [if_neg (by rw [hs]; exact zQ3)]
 refine wpAny_bind (yEH (knd := zDM X.prog X.w) (show X.A.units + 1 + 4 < cLine by omega) ⟨zPI I hk ha rfl, e⟩ hm (fun p hp => ?_) (fun hn h' hm' hs' => ?_) hz')
 ·rw [hp] at hl
  obtain ⟨d', hd'⟩ := Option.isSome_iff_exists.mp (show (look kvs k).isSome = true from hl.symm)
  obtain ⟨a2, u3, v3, g1, g2, g3⟩ := yCN l hk hd'
  rw [hp] at g1
  cases g1
  exact wpAny_pure ⟨_, rfl, v3, H, I.kept (t' := _) (fun _ _ z => z), g3, q1 d' v3 hd' g2⟩
 ·rw [hn] at hl
  have hln : look kvs k = none := by
   cases z : look kvs k with
   | none => rfl
   | some _ => rw [z] at hl; cases hl
  have mu : Mut (H d) := by
   rcases dd with z | ⟨_, z⟩ <;> rw [z] <;> exact trivial
  obtain ⟨ob, es, ep, ho, hc, hd, he, _, hnd⟩ := hm'
  refine wpAny_pure ⟨_, rfl, y, _, I.write (t' := _) (x := d) (e := d) (o := DN X.prog X.w d (storedH xs nk a u2)) mu (.inl rfl) (fun b uo hb eo => (hs'.2 b hb).trans eo) ⟨ob, ho⟩ ?_, r2, q2 hln u2 r2⟩
  refine ⟨⟨by have := zPL (xs := xs) (k := nk) (a := a) (u := u2); omega, hs, ob, es, ep, ho, hc, hd, he, hnd⟩, ⟨ob, ho⟩, ?_⟩
  rintro h1 h2 ⟨z1, z2, o', es', ep', ho', r⟩ mv
  exact ⟨z1, z2, o', es', ep', mv o' ho', r⟩
noncomputable def sd1 (p : Er) (k y : MV) (S1 : Sto) : R Er := match zGY S1 p with
 | some (l, kvs) => if keyOk k = true ∧ kvs.length < 1000000 then match look kvs k with
  | some d => .ok (.val d) S1
  | none => .ok (.val y) (S1.set l (.dic (putK kvs k y)))
  else .no
 | none => .no
noncomputable def sdF (p : Er) (rs : List Er) (S : Sto) : R Er := match rs with
 | [.val k, r] => (hU r S).bind fun y S1 => sd1 p k y S1
 | _ => .no
noncomputable def yCO (p : Er) (S : Sto) : Bool := (zGY S p).isSome
theorem mm_sd : zZI X W (rSD X) sdF := by
 intro p rs x vs α S H0 H Q α0 wd x0 dp da post
 match rs, da, post with
 | [], _, post => exact post.elim
 | [.val _], _, post => exact post.elim
 | .new _ :: _, _, post => exact post.elim
 | .val _ :: _ :: _ :: _, _, post => exact post.elim
 | [.val k, r], da, post =>
  cases da with
  | cons dk n1 l1 =>
   cases l1 with
   | cons d n2 l2 =>
    cases l2
    obtain ⟨d', S', α', e', x', y', w', dd⟩ := zDO wd x0 d
    have post : Post X.g W α0 H0 ((hU r S).bind fun y S1 => sd1 p k y S1) Q := post
    rw [e'] at post
    have post : Post X.g W α0 H0 (sd1 p k d' S') Q := post
    unfold sd1 at post
    split at post
    ·rename_i l kvs ed
     split at post
     ·rename_i hk
      have dp' : DenX X.K α' H p x := by
       cases p with
       | val m => exact Den.ex0 y' dp
       | new ds => cases ed
      obtain ⟨nk, h1, h2, h3⟩ := zPJ hk.1
      obtain ⟨c, xs, rfl, hc, hS, DDx, dl⟩ := zPK w' ed dp'
      have dk' : Den X.K α' H k _ := Den.ex0 y' dk.1
      obtain ⟨a', rfl⟩ := zUJ (X := X) (α := α') (H := H) h3 dk'
      refine ⟨α', kvs, xs, a', c, k, nk, _, rfl, rfl, DDx, dl, h1, h2, dk', ?_, fun d2 v2 e2 g2 => ?_, fun e2 u ru => ?_⟩
      ·rw [dl.length]
       exact Nat.lt_of_lt_of_le hk.2 (fits (Nat.le_refl _))
      ·rw [e2] at post
       exact (Post.shift x' post).val w' g2
      ·rw [e2] at post
       have xw := w'.writex hc (o := DN X.prog X.w c (storedH xs nk a' u))
       exact (Post.shift (x'.trans xw) post).val (w'.write hc (.inr ⟨_, wR, (yCK dl h1 h2 dk' dd ru).ex0 xw.toEx0⟩)) (dd.ext xw)
     ·exact post.elim
    ·exact post.elim
theorem pm_sd (hu : X.A.units + 64 < cLine) (ho : PEm X W o f) (ha : PAm X W (e :: es) af)
  (hbase : attributeBase o "setdefault" X.env (eval o X.env) = eval o X.env := by rfl)
  (hfew : ((backTo pos (starEach (e :: es) X.env)).all (fun x => !x.1) && (backToKw pos (keywordEach [] X.env)).all (fun x => x.1.isSome)
   && decide ((e :: es).length + ([] : List Keyword).length + (if ([] : List Keyword).isEmpty then 0 else 1) < 30)) = true := by rfl)
  (hline : (apos.endLine == pos.line) = true := by rfl) (hs : starEach (e :: es) X.env = (false, eval e X.env) :: starEach es X.env := by rfl) (hplain : (backTo pos (starEach es X.env)).any (·.1) = false := by rfl) :
  PEm X W (.Call (.Attribute o "setdefault" apos) (e :: es) [] pos) (fun ρ S => (f ρ S).bind fun p S1 => if yCO p S1 = true then (af ρ S1).bind fun rs S2 => sdF p rs S2 else .no) := by
 obtain ⟨to, ho, fo⟩ := ho
 obtain ⟨t, ha, k⟩ := ha
 refine ⟨_, yPH zUL PySem.F.plainAttrs_dict PySem.F.slot_dict_setdefault PySem.F.type_dict_setdefault (mt_sd hu) ho ha hbase hfew hline hs hplain, fun α ρ S σ H Q wd sl q => fo α ρ S σ H _ wd sl (q.bind fun u p S1 α1 H1 e1 x1 w1 d1 q1 => ?_)⟩
 split at q1
 ·rename_i hz
  obtain ⟨⟨l, kvs⟩, hz⟩ := Option.isSome_iff_exists.mp hz
  obtain ⟨c, xs, rfl, _, _, dd, _⟩ := zPK w1 hz d1.1
  exact ⟨⟨c, xs, rfl, dd⟩, k α1 ρ S1 σ H1 _ w1 (sl.ext x1) ((q1.shift x1).bind fun vs rs S2 α2 H2 e2 x2 w2 d2 q2 => mm_sd p rs _ vs α2 S2 H1 H2 Q α1 w2 x2 (d1.1.ext x2) d2 q2)⟩
 ·exact q1.elim
end
end M
end L2
namespace L2
namespace M
open PySem PySem.Spec PyProof.Rows
def VAt (d : Addr) (us : List Value) (ep : Nat) (h : Heap) : Prop := ∃ o es, h.get? d = some o ∧ o.ExactDict ∧ o.data = .dict es ep ∧ es.toList.map (·.val) = us
theorem VAt.at {d : Addr} {us : List Value} {ep : Nat} {h h' : Heap} (x : VAt d us ep h) (m : ∀ o, h.get? d = some o → h'.get? d = some o) : VAt d us ep h' := let ⟨o, es, ho, r⟩ := x; ⟨o, es, m o ho, r⟩
theorem VAt.size {d : Addr} {us : List Value} {ep : Nat} {h : Heap} (x : VAt d us ep h) : ∃ o es, h.get? d = some o ∧ o.ExactDict ∧ o.data = .dict es ep ∧ es.size = us.length ∧ ∀ i (hi : i < es.size), us[i]? = some es[i].val := by
 obtain ⟨o, es, ho, hc, hd, e⟩ := x
 refine ⟨o, es, ho, hc, hd, by rw [← e, List.length_map, Array.length_toList], fun i hi => ?_⟩
 rw [← e, List.getElem?_map, Array.getElem?_toList, Array.getElem?_eq_getElem hi]
 rfl
section
variable {P : Program} {w : World} {A : Around} {E : Value → Shared → Prop} {s : Shared} {d v it : Addr} {us : List Value} {ep i : Nat}
theorem yEI {Q : Value → Shared → Prop} (hv : s.heap.IsValuesView v d) (hm : VAt d us ep s.heap)
  (hQ : Q (.ref s.heap.objs.size) { s with heap := s.heap.push { cls := .type "dict_valueiterator", data := .fields #[.ref d, .int 0 0, .int us.length 0, .int ep 0] } }) : wpAny (model P w) A (pyIter (.ref v)) Q E s := by
 obtain ⟨ov, hov, hcv, hdv⟩ := id hv
 obtain ⟨o, es, ho, hc, hdat, hsz, _⟩ := hm.size
 refine wpAny_pyIter_slot hv.typeIs PySem.F.slot_dict_values_iter (wpAny_call_entry PySem.F.slot_dict_values_iter hv.typeIs PySem.F.entry_dict_values_iter ?_ (PySem.F.args_dict_values_iter_1 _))
 unfold Builtin.«dict_values.__iter__»
 refine wpAny_bind (wpAny_pure (wpAny_bind ?_))
 unfold Builtin.Dict_items.dictOf
 refine wpAny_bind (wpAny_field hov hdv (x := .ref d) rfl (wpAny_pure (wpAny_bind ?_)))
 unfold Builtin.Dict_items.newIterator
 refine wpAny_bind (wpAny_dictEntries ho hdat (wpAny_bind (wpAny_dictEpoch ho hdat ?_)))
 have hown : Builtin.Dict_items.ownsTuple "dict_valueiterator" = false := by decide
 simp only [hown, Bool.false_eq_true, if_false]
 refine wpAny_newObj_type (wpAny_pure ⟨_, rfl, "dict_valueiterator", _, ⟨_, Heap.get?_push_size _ rfl, rfl⟩, PySem.F.slot_dict_valueiterator_next.lookup, ?_⟩)
 simpa [rawInt, hsz] using hQ
theorem yHR {x : Value} {Q : Option Value → Shared → Prop} (hit : s.heap.IsValIter it d i us.length ep) (hm : VAt d us ep s.heap) (hx : us[i]? = some x)
  (hQ : ∀ h', h'.IsValIter it d (i + 1) us.length ep → Heap.SameBut it s.heap h' → Q (some x) { s with heap := h' }) : wpAny (model P w) A (pyNext (.ref it)) Q E s := by
 obtain ⟨o, ho, hc, hd⟩ := id hit
 obtain ⟨od, es, hod, hcd, hdd, hsz, hval⟩ := hm.size
 have hlt : i < us.length := (zQ1.mp hx).1
 have hlt' : i < es.size := by rw [hsz]; exact hlt
 have hv : es[i].val = x := by have := hval i hlt'; rw [hx] at this; exact (Option.some.inj this).symm
 unfold pyNext
 refine wpAny_bind (wpAny_attempt (wpAny_callSpecial?_slot (name := Str.ofString "__next__") hit.typeIs PySem.F.slot_dict_valueiterator_next (wpAny_call_entry PySem.F.slot_dict_valueiterator_next hit.typeIs PySem.F.entry_dict_valueiterator_next ?_ (PySem.F.args_dict_valueiterator_next_1 _))))
 refine wpAny_bind (wpAny_pure (wpAny_bind (wpAny_bind ?_)))
 first | refine wpAny_bind (wpAny_typeNameOfWhole_valiter hit.typeIs (wpAny_pure ?_)) | refine wpAny_bind (wpAny_typeNameOf_valiter hit.typeIs (wpAny_pure ?_))
 refine wpAny_bind (wpAny_fieldsOf ho hd ?_)
 have hown : Builtin.Dict_items.ownsTuple "dict_valueiterator" = false := by decide
 simp only [hown, Bool.false_eq_true, if_false]
 show wpAny _ _ (if (Value.ref d == Value.none) = true then _ else _) _ _ s
 rw [if_neg (show ¬ ((Value.ref d == Value.none) = true) from zQ3)]
 refine wpAny_bind (wpAny_pure (wpAny_bind (wpAny_dictEntries hod hdd ?_)))
 rw [if_neg (by rw [hsz]; simp)]
 refine wpAny_bind (wpAny_pure (wpAny_bind (wpAny_dictEpoch hod hdd ?_)))
 rw [if_neg (by simp)]
 refine wpAny_pure ?_
 simp only [show ¬ ((i : Int) < 0) from by omega, if_false, Int.toNat_natCast, Array.getElem?_eq_getElem hlt']
 refine wpAny_bind ?_
 first | refine wpAny_bind (wpAny_typeNameOfWhole_valiter hit.typeIs (wpAny_pure ?_)) | refine wpAny_bind (wpAny_typeNameOf_valiter hit.typeIs (wpAny_pure ?_))
 refine wpAny_bind (wpAny_isOneOf_valiter hit.typeIs ?_)
 show wpAny _ _ (setField (.ref it) 1 (rawInt ((i : Int) + 1)) >>= _) _ _ s
 refine wpAny_bind (wpAny_setField ho hd (by simp) ?_)
 have hit' : (s.heap.update it (Obj.mapFields (·.setIfInBounds 1 (rawInt ((i : Int) + 1))))).IsValIter it d (i + 1) us.length ep :=
  ⟨_, Heap.get?_update_self _ ho (Obj.isFreed_of_fields (Obj.data_mapFields hd _)), (Obj.cls_mapFields ..).trans hc, by rw [Obj.data_mapFields hd]; simp [rawInt]⟩
 refine wpAny_bind (wpAny_holding ?_)
 refine wpAny_bind (wpAny_isOneOf_valiter (s := { s with heap := s.heap.update it (Obj.mapFields (·.setIfInBounds 1 (rawInt ((i : Int) + 1)))) }) hit'.typeIs ?_)
 refine wpAny_bind (wpAny_isOneOf_valiter (s := { s with heap := s.heap.update it (Obj.mapFields (·.setIfInBounds 1 (rawInt ((i : Int) + 1)))) }) hit'.typeIs ?_)
 show wpAny _ _ (pure es[i].val) _ _ _
 exact wpAny_pure (wpAny_pure ⟨_, rfl, wpAny_pure (hv ▸ hQ _ hit' (Heap.SameBut.update ..))⟩)
theorem yHS {Q : Option Value → Shared → Prop} (hh : A.handled = none) (hit : s.heap.IsValIter it d i us.length ep) (hm : VAt d us ep s.heap) (hx : us.length ≤ i)
  (hQ : ∀ h', Heap.ExtBut it s.heap h' → Q none { s with heap := h' }) : wpAny (model P w) A (pyNext (.ref it)) Q E s := by
 obtain ⟨o, ho, hc, hd⟩ := id hit
 obtain ⟨od, es, hod, hcd, hdd, hsz, hval⟩ := hm.size
 have hge : es.size ≤ i := by rw [hsz]; exact hx
 unfold pyNext
 refine wpAny_bind (wpAny_attempt (wpAny_callSpecial?_slot (name := Str.ofString "__next__") hit.typeIs PySem.F.slot_dict_valueiterator_next (wpAny_call_entry PySem.F.slot_dict_valueiterator_next hit.typeIs PySem.F.entry_dict_valueiterator_next ?_ (PySem.F.args_dict_valueiterator_next_1 _))))
 refine wpAny_bind (wpAny_pure (wpAny_bind (wpAny_bind ?_)))
 first | refine wpAny_bind (wpAny_typeNameOfWhole_valiter hit.typeIs (wpAny_pure ?_)) | refine wpAny_bind (wpAny_typeNameOf_valiter hit.typeIs (wpAny_pure ?_))
 refine wpAny_bind (wpAny_fieldsOf ho hd ?_)
 have hown : Builtin.Dict_items.ownsTuple "dict_valueiterator" = false := by decide
 simp only [hown, Bool.false_eq_true, if_false]
 show wpAny _ _ (if (Value.ref d == Value.none) = true then _ else _) _ _ s
 rw [if_neg (show ¬ ((Value.ref d == Value.none) = true) from zQ3)]
 refine wpAny_bind (wpAny_pure (wpAny_bind (wpAny_dictEntries hod hdd ?_)))
 rw [if_neg (by rw [hsz]; simp)]
 refine wpAny_bind (wpAny_pure (wpAny_bind (wpAny_dictEpoch hod hdd ?_)))
 rw [if_neg (by simp)]
 refine wpAny_pure ?_
 simp only [show ¬ ((i : Int) < 0) from by omega, if_false, Int.toNat_natCast, Array.getElem?_eq_none hge]
 refine wpAny_bind ?_
 first | refine wpAny_bind (wpAny_typeNameOfWhole_valiter hit.typeIs (wpAny_pure ?_)) | refine wpAny_bind (wpAny_typeNameOf_valiter hit.typeIs (wpAny_pure ?_))
 show wpAny _ _ (setField (.ref it) 0 .none >>= _) _ _ s
 refine wpAny_bind (wpAny_setField ho hd (by simp) ?_)
 show wpAny _ _ (newExc (.type "StopIteration") [] >>= _) _ _ _
 refine wpAny_bind ?_
 simp only [newExc, newTuple]
 refine wpAny_bind (wpAny_newObj_type ?_ (by size_fits))
 refine wpAny_bind (m := firstArgMember _ _) (wpAny_of_eq (a := Value.none) (by first | rfl | (simp only [firstArgMember]; rfl)) ?_)
 refine wpAny_newObj_type ?_ (by size_fits)
 simp only [raiseNew]
 refine wpAny_bind (wpAny_handled ?_)
 rw [show A.in1.handled = none from hh]
 refine wpAny_bind (wpAny_pure (wpAny_throw ?_))
 refine wpAny_bind (wpAny_isInstance (T := "StopIteration") (b := true) ⟨_, Heap.get?_push_size _ rfl, rfl⟩ isSubtype_stop ?_)
 exact wpAny_pure (hQ _ (((Heap.SameBut.update ..).extBut.push _).push _))
theorem yEJ (hh : A.handled = none) (I : Addr) (hne : d ≠ I) (us : List Value) (ep : Nat) : Walks P w A I [I, d] [I] us.length (fun i x => us[i]? = some x) (fun i h => h.IsValIter I d i us.length ep ∧ VAt d us ep h) where
 sub := fun b hb => by simp at hb; simp [hb]
 frame := fun _ _ _ st hk => ⟨st.1.at fun o e => hk I (by simp) o e, st.2.at fun o e => hk d (by simp) o e⟩
 item := fun i s Q E hi st hQ => by
  have hx : us[i]? = some us[i] := List.getElem?_eq_getElem hi
  refine yHR st.1 st.2 hx fun h' hit' hs' => ?_
  exact hQ _ h' s.toks hx ⟨hit', st.2.at fun o e => hs'.extBut d o hne e⟩ fun b o hb e => hs'.extBut b o (fun h => hb (by simp [h])) e
 done := fun s Q E st hQ => yHS hh st.1 st.2 (Nat.le_refl _) fun h' he' => hQ h' s.toks fun b o hb e => he' b o (fun h => hb (by simp [h])) e
 self := fun _ _ _ _ st hQ => wpAny_pyIter_valiter st.1 hQ
theorem yHT (us : List Value) (ep : Nat) : PySem.W.KdlSrc P w "dict_values" v d us.length (fun i x => us[i]? = some x) (fun h => h.IsValuesView v d ∧ VAt d us ep h) where
 type := fun _ hm => hm.1.typeIs
 there := fun _ hm => ⟨let ⟨_, ho, _⟩ := hm.1; Heap.lt_size ho, let ⟨_, _, ho, _⟩ := hm.2; Heap.lt_size ho⟩
 keep := fun _ _ hm hk => ⟨let ⟨o, ho, x⟩ := hm.1; ⟨o, hk v (.inl rfl) o ho, x⟩, hm.2.at fun o e => hk d (.inr rfl) o e⟩
 notList := by decide
 notTuple := by decide
 hint := fun _ _ _ _ hm hq => PySem.W.kdl_hint_values hm.1.typeIs hq
 iter := fun _ _ hh hm => ⟨_, _, (fun _ _ hq => yEI hm.1 hm.2 hq), yEJ hh _ (Nat.ne_of_lt (let ⟨_, _, ho, _⟩ := hm.2; Heap.lt_size ho)) us ep, ⟨⟨_, Heap.get?_push_size _ rfl, rfl, rfl⟩, hm.2.at fun o e => Heap.get?_push_of_some _ e⟩⟩
end
end M
end L2
namespace L2
namespace M
open PySem PySem.Spec PyProof.Rows
section
variable {X : Cx} {W : XW} {o : Expr} {f : Rho → Sto → R Er} {apos pos pos2 p2 : Pos} {to : TE} {T : String} {name : Str} {id : String} {r : V → List V → Hp → VK → Prop}
theorem yLJ {TY : V → Hp → Prop} (hTY : zJT X T TY) (pa : PlainAttrs T) (slot : Slot T name id) (hty : typeOf (.builtin id) = pure (.type "method_descriptor")) (hm : MtR X id r) (ho : PE X o to)
  (hbase : attributeBase o name X.env (eval o X.env) = eval o X.env) (hline : (apos.endLine == pos.line) = true) : PE X (.Call (.Attribute o name apos) [] [] pos) (fun σ H Q => to σ H fun x H1 => TY x H1 ∧ r x [] H1 Q) := by
 intro pins s σ H Q I h
 refine wpAny_Call_method0_late hbase hline (thn (ho pins s σ H _ I h) fun v s1 ⟨x, H1, I1, r1, ty, q1⟩ => ?_)
 obtain ⟨h1, h2⟩ := hTY pins s1 σ H1 x v I1 r1 ty
 exact ⟨T, id, pa, slot, hty, h1, h2, Calls.callWith_builtin rfl (PySem.evalArgs_none (hm pins s1 σ H1 x [] v [] Q I1 r1 .nil q1))⟩
def zSU (l d : Addr) : HO := .ext fun h => h.IsValuesView l d
theorem yEK : MtR X "dict.values" (fun x vs H Q => ∃ d xs, x = .ref d ∧ vs = [] ∧ DD X H d xs ∧ ∀ l, H l = none → Q (.ref l) (upd H l (zSU l d))) := by
 intro pins s σ H x vs v us Q I rx rv h
 obtain ⟨d, xs, rfl, rfl, dd, q⟩ := h
 cases rx
 have := rv.zero
 subst this
 have hT : s.TypeIs (.ref d) "dict" := (zUL pins s σ H (.ref d) (.ref d) I rfl ⟨d, xs, rfl, dd⟩).1
 have hs : (d == sysModules) = false := by
  rcases dd with h | ⟨rfl, h⟩
  ·obtain ⟨⟨hz, hs, _⟩, _⟩ := (show ObjOk X.prog X.w H s.heap d (DN X.prog X.w d xs) from I.hok d _ h)
   exact hs
  ·obtain ⟨_, hs, _⟩ := (show ObjOk X.prog X.w H s.heap d (.dK []) from I.hok d _ h)
   exact hs
 refine wpAny_call_entry PySem.F.slot_dict_values hT PySem.F.entry_dict_values ?_ (PySem.F.args_dict_values_1 _)
 refine wpAny_bind ?_
 unfold Builtin.Dict.noArgs
 refine wpAny_bind (wpAny_notOrdered_dict hT ?_)
 show wpAny _ _ (pure d) _ _ s
 refine wpAny_pure ?_
 show wpAny _ _ (Builtin.Dict.showsAll d >>= _) _ _ s
 unfold Builtin.Dict.showsAll
 rw [if_neg (by rw [hs]; exact zQ3)]
 refine wpAny_bind (wpAny_pure ?_)
 refine wpAny_bind (wpAny_newObj_type (wpAny_pure ⟨_, rfl, .ref s.heap.objs.size, _, I.laid (o := zSU s.heap.objs.size d) (t' := s.toks) (fun b o e => Heap.get?_push_of_some _ e) (Nat.le_refl _) ⟨⟨_, Heap.get?_push_size _ rfl, rfl, rfl⟩, ⟨_, Heap.get?_push_size _ rfl⟩, ?_⟩, rfl, q _ (I.hok.fresh (Nat.le_refl _))⟩))
 rintro h1 h2 ⟨o, ho, r⟩ mv
 exact ⟨o, mv o ho, r⟩
theorem yCP {α : List Addr} {H : Hp} : ∀ {kvs : List (MV × MV)} {xs : List (NK × Addr × Value)}, DenN X.K α H kvs xs → ∃ ys, DenL X.K α H (kvs.map (·.2)) ys ∧ Vals ys (xs.map (·.2.2))
 | _, _, .nil => ⟨[], xK, .nil⟩
 | _, _, .cons hk e a d r l => by
  obtain ⟨ys, h1, h2⟩ := yCP l
  exact ⟨_ :: ys, xC d h1, .cons r h2⟩
theorem yAC : CallR X (.type "list") (fun xs H Q => ∃ l d zs α kvs, xs = [.ref l] ∧ H l = some (zSU l d) ∧ DD X H d zs ∧ DenN X.K α H kvs zs ∧ X.calm = true ∧ ∀ p ys, H p = none → DenL X.K α H (kvs.map (·.2)) ys → Q (.ref p) (upd H p (.lst ys))) := by
 intro pins s σ H xs us Q I r h
 obtain ⟨l, d, zs, α, kvs, rfl, hl, dd, dn, hc, q⟩ := h
 obtain ⟨u, rfl, rx⟩ := vals1 r
 cases rx
 obtain ⟨hv, _⟩ := (show ObjOk X.prog X.w H s.heap l (zSU l d) from I.hok l _ hl)
 obtain ⟨⟨o, es, ep, ho, hcc, hd, he, _, _⟩, hz, _⟩ := zOB I dd dn
 have va : VAt d (zs.map (·.2.2)) ep s.heap := ⟨o, es, ho, hcc, hd, by rw [he, List.map_map]; rfl⟩
 obtain ⟨ys, h1, h2⟩ := yCP dn
 refine PySem.W.kdl_call (yHT (P := X.prog) (w := X.w) (v := l) (d := d) (zs.map (·.2.2)) ep) (I.ok.hd hc) ⟨hv, va⟩ (by rw [List.length_map]; exact hz) fun h' tk acc c' hk hS hacc => ?_
 have ea : acc.toList = zs.map (·.2.2) := by
  refine List.ext_getElem? fun j => ?_
  by_cases hj : j < acc.size
  ·have h3 : acc[j]? = some acc[j] := Array.getElem?_eq_getElem hj
   rw [Array.getElem?_toList, h3]
   exact (hacc.2 j _ h3).symm
  ·have h3 : (zs.map (·.2.2)).length ≤ j := by have := hacc.1; omega
   rw [Array.getElem?_toList, Array.getElem?_eq_none (by omega), List.getElem?_eq_none h3]
 refine ⟨.ref s.heap.objs.size, _, I.laid (t' := tk) hk (Nat.le_refl _) (show ObjOk X.prog X.w _ h' _ (.lst ys) from ⟨?_, acc.toList, c', by rw [ea]; exact h2, ?_⟩), rfl, q _ ys (I.hok.fresh (Nat.le_refl _)) h1⟩
 ·have e1 := h2.length
  rw [List.length_map] at e1
  omega
 ·rw [Array.toArray_toList]
  exact hS
noncomputable def lvF (p : Er) (S : Sto) : R Er := match zGY S p with
 | some (_, kvs) => .ok (.new (kvs.map (·.2))) S
 | none => .no
theorem yHU (hc : X.calm = true) (hg : Gl X "list") (hm : X.mg "list" = none) (ho : PEm X W o f)
  (hbase : attributeBase o "values" X.env (eval o X.env) = eval o X.env := by rfl) (hline : (apos.endLine == pos2.line) = true := by rfl)
  (he1 : starEach [.Call (.Attribute o "values" apos) [] [] pos2] X.env = (false, eval (.Call (.Attribute o "values" apos) [] [] pos2) X.env) :: starEach [] X.env := by rfl) (hpl1 : (backTo pos (starEach [] X.env)).any (·.1) = false := by rfl) :
  PEm X W (.Call (.Name "list" p2) [.Call (.Attribute o "values" apos) [] [] pos2] [] pos) (fun ρ S => (f ρ S).bind lvF) := by
 obtain ⟨t, ho, k⟩ := ho
 refine ⟨_, zSG yAC hg hm zUB (yBP (yLJ zUL PySem.F.plainAttrs_dict PySem.F.slot_dict_values PySem.F.type_dict_values yEK ho hbase hline) yFW he1) (by decide) (by decide) he1 hpl1, fun α ρ S σ H Q wd sl q => k α ρ S σ H _ wd sl (q.bind fun u p S1 α1 H1 e1 x1 w1 d1 q1 => ?_)⟩
 replace q1 := q1.shift x1
 unfold lvF at q1
 split at q1
 ·rename_i l kvs ed
  obtain ⟨c, xs, rfl, _, _, dd, dl⟩ := zPK w1 ed d1.1
  refine ⟨⟨c, xs, rfl, dd⟩, c, xs, rfl, rfl, dd, fun v hv => ?_⟩
  have xn := w1.newx (o := zSU v c) hv
  have wn := w1.new (o := zSU v c) hv
  refine ⟨v, c, xs, α1, kvs, rfl, wR, ?_, dl.ex0 xn.toEx0, hc, fun p ys hp hy => (q1.shift xn).newl wn hp hy⟩
  rcases dd with h | ⟨e, h⟩
  ·exact .inl (by rw [yP (yV h hv)]; exact h)
  ·exact .inr ⟨e, by rw [yP (yV h hv)]; exact h⟩
 ·exact q1.elim
end
end M
end L2
namespace L2
namespace M
open PySem PySem.Spec PyProof.Rows
section
variable {X : Cx} {W : XW} {a b : Expr} {f g : Rho → Sto → R Er} {pos : Pos}
def zWT (neg : Bool) (p q : Er) (S : Sto) : R Er := match p, q with
 | .val (.bl x), .val (.bl y) => .ok (.val (.bl (if neg = true then !(x == y) else x == y))) S
 | _, _ => .no
abbrev rIsB (neg : Bool) : R2 := fun x y H Q => ∃ c d, x = .bl c ∧ y = .bl d ∧ Q (.bl (if neg = true then !(c == d) else c == d)) H
theorem zWU (c d : Bool) : (Value.bool c == Value.bool d) = (c == d) := by cases c <;> cases d <;> rfl
theorem yPI : OpR X (compareOp .Is) (rIsB false) := by
 intro pins s σ H x y v u Q I rx ry h
 obtain ⟨c, d, rfl, rfl, q⟩ := h
 cases rx; cases ry
 refine wpAny_is_plain rfl ⟨.bl (c == d), H, I, ?_, q⟩
 rw [zWU]; rfl
theorem yEL : OpR X (compareOp .IsNot) (rIsB true) := by
 intro pins s σ H x y v u Q I rx ry h
 obtain ⟨c, d, rfl, rfl, q⟩ := h
 cases rx; cases ry
 refine wpAny_isNot_plain rfl ⟨.bl (!(c == d)), H, I, ?_, q⟩
 rw [zWU]; rfl
theorem yCQ {neg : Bool} : Op2 X W (rIsB neg) (zWT neg) := by
 intro p q x y α S H Q wd dp dq post
 unfold zWT at post
 split at post
 ·exact ⟨_, _, zFY dp, zFY dq, Post.val post wd (wS _)⟩
 ·exact post.elim
theorem yPJ (ha : PEm X W a f) (hb : PEm X W b g) : PEm X W (.Compare a [.Is] [b] pos) (fun ρ S => (f ρ S).bind fun p S1 => (g ρ S1).bind fun q S2 => zWT false p q S2) := zOV yPI yCQ ha hb
theorem yEM (ha : PEm X W a f) (hb : PEm X W b g) : PTm X W (.Compare a [.IsNot] [b] pos) (fun ρ S => ((f ρ S).bind fun p S1 => (g ρ S1).bind fun q S2 => zWT true p q S2).bind asB) := zGR yEL yCQ ha hb
end
end M
end L2
namespace L2
namespace M
namespace My
open PySem PySem.Spec PyProof.Rows
local macro_rules
 | `(tactic| simp? [$xs,*] $[$l:location]?) => `(tactic| simp only [List.getElem?_cons_zero, List.getElem?_cons_succ, yKT, bok, as_int, as_bl, yOT, add_int, sub_int, eq_int, yOU, lst0, lst1, lst2, lst3, lst6, tup2, tup3, yOX, yOY, yOZ, yPA, yPB, yPC, yCF, yCG, List.set_cons_zero, List.set_cons_succ, if_true, yLA, yKZ, $xs,*] $[$l:location]?)
noncomputable section
abbrev AF := Rho → Sto → R Fl
abbrev AE := Rho → Sto → R Er
def zEF : AF := (fun ρ S => ((((zF (ρ[0]?) S).bind fun a b => ((R.ok (.val (.typ "int")) b).bind fun c d => (R.ok [] d).bind fun e g => .ok (c :: e) g).bind fun h i => .ok (a :: h) i).bind jU).bind fun j l => jS j l fun m => ((((zF (ρ[0]?) m).bind fun n o => ((R.ok (.val (.typ "bool")) o).bind fun p q => (R.ok [] q).bind fun s t => .ok (p :: s) t).bind fun u v => .ok (n :: u) v).bind jU).bind fun w x => (asB w x).bind fun y z => .ok (.val (.bl !y)) z)).bind fun r A => .ok (.ret r) A)
def bS : AF := (zEF)
def kC (ds : List MV) (S : Sto) : R Er := yX (bS (yA ["thing"] ds) S)
def zCO : Rho → Sto → R Bool := fun ρ S => (R.ok true S)
def cT : AE := fun ρ S => ((R.ok (.val (.str [97])) S).bind fun a b => (zF (ρ[0]?) b).bind fun c d => chF leF leF a c d fun e => (R.ok (.val (.str [122])) e))
def zGZ : AF := (fun ρ S => ((((((zF (ρ[0]?) S).bind fun a b => ((R.ok (.val (.typ "str")) b).bind fun c d => (R.ok [] d).bind fun e g => .ok (c :: e) g).bind fun h i => .ok (a :: h) i).bind jU).bind gM).bind fun j l => .ok (!j) l).bind fun m n => if m = true then .ok true n else ((((R.ok (.val (.int 1)) n).bind fun o p => (((zF (ρ[0]?) p).bind fun q s => (R.ok [] s).bind fun t u => .ok (q :: t) u).bind kB).bind fun v w => chF leF leF o v w fun x => (R.ok (.val (.int 8)) x)).bind asB).bind fun y z => .ok (!y) z)).bind fun k A => if k = true then ((fun ρ S => (R.ok (.val (.bl false)) S).bind fun r A => .ok (.ret r) A)) ρ A else (fun ρ S => .ok (.next ρ) S) ρ A)
def zHA : AF := (fun ρ S => (((((zF (ρ[0]?) S).bind itS).bind fun a b => if a.ds.length < 1000000 then (wN (gNm 0) (zCO) (cT) (blk 1 [] ρ) a.gs a.ds b).bind fun c d => .ok (.new c) d else .no).bind fun e g => (R.ok [] g).bind fun h i => .ok (e :: h) i).bind zRH).bind fun r j => .ok (.ret r) j)
def zIN : AF := yE (zGZ) ((zHA))
def zIO (ds : List MV) (S : Sto) : R Er := yX (zIN (yA ["thing"] ds) S)
def gT : AF := (fun ρ S => ((((zF (ρ[0]?) S).bind fun a b => (R.ok [] b).bind fun c d => .ok (a :: c) d).bind fun e g => zJ 1 kC e g).bind gM).bind fun k h => if k = true then ((fun ρ S => ((((zF (ρ[0]?) S).bind fun i j => (R.ok [] j).bind fun l m => .ok (i :: l) m).bind absF).bind fun n o => ((R.ok (.val (.int 10)) o).bind fun p q => (R.ok (.val (.int 30)) q).bind fun s t => zJP p s t).bind fun u v => ltF n u v).bind fun r h => .ok (.ret r) h)) ρ h else (fun ρ S => .ok (.next ρ) S) ρ h)
def zLH : AF := (fun ρ S => (((zF (ρ[0]?) S).bind fun a b => (R.ok [] b).bind fun c d => .ok (a :: c) d).bind fun e g => zJ 1 zIO e g).bind fun r h => .ok (.ret r) h)
def zEG : AF := yE (gT) ((zLH))
def bT (ds : List MV) (S : Sto) : R Er := yX (zEG (yA ["thing"] ds) S)
def zPN : AF := (fun ρ S => ((((zF (ρ[1]?) S).bind fun a b => (R.ok (.val (.int 0)) b).bind fun c d => ixF a c d).bind fun e g => ((((zF (ρ[1]?) g).bind fun h i => (R.ok (.val (.int 1)) i).bind fun j l => ixF h j l).bind fun m n => (R.ok none n).bind fun o p => ((((zF (ρ[0]?) p).bind fun q s => ((zF (ρ[1]?) s).bind fun t u => (R.ok (.val (.int 0)) u).bind fun v w => ixF t v w).bind fun x y => ixF q x y).bind fun z A => (R.ok (.val (.int 1)) A).bind fun B D => ixF z B D).bind asI).bind fun G I => zKY m o G I).bind fun J L => (R.ok [] L).bind fun M N => .ok (J :: M) N).bind fun O P => .ok (e :: O) P).bind nS).bind fun r Q => .ok (.ret r) Q)
def zLI : AF := (zPN)
def zLJ (ds : List MV) (S : Sto) : R Er := yX (zLI (yA ["tables", "row"] ds) S)
def zLK : AF := (fun ρ S => (((((zF (ρ[0]?) S).bind fun a b => (R.ok (.val (.int 1)) b).bind fun c d => ixF a c d).bind fun e g => (R.ok [] g).bind fun h i => .ok (e :: h) i).bind kB).bind fun j l => (R.ok (.val (.int 0)) l).bind fun m n => eqF j m n).bind fun r o => .ok (.ret r) o)
def zEH : AF := (zLK)
def kD (ds : List MV) (S : Sto) : R Er := yX (zEH (yA ["book"] ds) S)
noncomputable def zEI : Rho → Sto → R Fl := (fun ρ S => (((zF (ρ[1]?) S).bind fun p146 S147 => if yCO p146 S147 = true then (((((zF (ρ[0]?) S147).bind fun p152 S153 => (R.ok (.val (.int 0)) S153).bind fun q154 S155 => ixF p152 q154 S155).bind fun p156 S157 => ((zF (ρ[3]?) S157).bind fun p160 S161 => (R.ok [] S161).bind fun l162 S163 => .ok (p160 :: l162) S163).bind fun l158 S159 => .ok (p156 :: l158) S159).bind fun r150 S151 => zJ 2 zLJ r150 S151).bind fun p164 S165 => (((R.ok [] S165).bind zGT).bind fun p168 S169 => (R.ok [] S169).bind fun l170 S171 => .ok (p168 :: l170) S171).bind fun l166 S167 => .ok (p164 :: l166) S167).bind fun r148 S149 => sdF p146 r148 S149 else .no).bind fun p172 S173 => if dC p172 S173 = true then ((zF (ρ[2]?) S173).bind fun p176 S177 => (R.ok [] S177).bind fun l178 S179 => .ok (p176 :: l178) S179).bind fun r174 S175 => zNP p172 r174 S175 else .no).bind fun _ S1 => .ok (.next ρ) S1)
noncomputable def zAL : Rho → Sto → R Fl := (zEI)
def zJU : AF := (fun ρ S => (((((zF (ρ[0]?) S).bind fun a b => (R.ok [] b).bind fun c d => .ok (a :: c) d).bind fun e g => zJ 1 kD e g).bind gM).bind fun h i => .ok (!h) i).bind fun k j => if k = true then ((fun _ _ => R.no)) ρ j else (fun ρ S => .ok (.next ρ) S) ρ j)
def zJV : AF := (fun ρ S => (zWP S).bind (xZ ρ 1))
def zJW : AF := (fun ρ S => ((((zF (ρ[0]?) S).bind fun a b => (R.ok (.val (.int 2)) b).bind fun c d => ixF a c d).bind fun e g => (R.ok [] g).bind fun h i => .ok (e :: h) i).bind itE).bind fun k j => gK (gTp 2 (yC (gNm 2) (yC (gNm 3) kJ))) (zAL) k.gs k.ds ρ j)
def zJX : AF := (fun ρ S => ((zF (ρ[1]?) S).bind lvF).bind fun r a => .ok (.ret r) a)
def zPO : AF := yE (zJU) (yE (zJV) (yE (zJW) ((zJX))))
def f_blocks (ds : List MV) (S : Sto) : R Er := yX (zPO (yA ["book", "by_key", "i", "row"] ds) S)
def zLL : AF := (fun ρ S => ((((zF (ρ[0]?) S).bind fun a b => ((R.ok (.val (.typ "tuple")) b).bind fun c d => (R.ok [] d).bind fun e g => .ok (c :: e) g).bind fun h i => .ok (a :: h) i).bind jU).bind fun j l => jS j l fun m => ((zF (ρ[1]?) m).bind fun n o => (((zF (ρ[0]?) o).bind fun p q => (R.ok [] q).bind fun s t => .ok (p :: s) t).bind kB).bind fun u v => chF leF leF n u v fun w => (zF (ρ[2]?) w))).bind fun r x => .ok (.ret r) x)
def zEJ : AF := (zLL)
def yJ (ds : List MV) (S : Sto) : R Er := yX (zEJ (yA ["thing", "least", "most"] ds) S)
def nP : AF := (fun ρ S => ((((zF (ρ[0]?) S).bind fun a b => (R.ok [] b).bind fun c d => .ok (a :: c) d).bind fun e g => zJ 1 kC e g).bind fun h i => jS h i fun j => ((R.ok (.val (.int 0)) j).bind fun l m => (zF (ρ[0]?) m).bind fun n o => chF leF ltF l n o fun p => (zF (ρ[1]?) p))).bind fun r q => .ok (.ret r) q)
def jA : AF := (nP)
def zQ (ds : List MV) (S : Sto) : R Er := yX (jA (yA ["thing", "bound"] ds) S)
def zEK : AF := (fun ρ S => ((((((zF (ρ[0]?) S).bind fun a b => ((R.ok (.val (.int 2)) b).bind fun c d => ((R.ok (.val (.int 2)) d).bind fun e g => (R.ok [] g).bind fun h i => .ok (e :: h) i).bind fun j l => .ok (c :: j) l).bind fun m n => .ok (a :: m) n).bind fun o p => zJ 3 yJ o p).bind gM).bind fun q s => .ok (!q) s).bind fun t u => if t = true then .ok true u else ((((((zF (ρ[0]?) u).bind fun v w => (R.ok (.val (.int 0)) w).bind fun x y => ixF v x y).bind fun z A => (R.ok [] A).bind fun B D => .ok (z :: B) D).bind fun G I => zJ 1 kC G I).bind gM).bind fun J L => .ok (!J) L)).bind fun k M => if k = true then ((fun ρ S => (R.ok (.val (.bl false)) S).bind fun r M => .ok (.ret r) M)) ρ M else (fun ρ S => .ok (.next ρ) S) ρ M)
def zEL : AF := (fun ρ S => ((zF (ρ[0]?) S).bind fun a b => (R.ok (.val (.int 0)) b).bind fun c d => ixF a c d).bind (xZ ρ 1))
def zEM : AF := (fun ρ S => (((R.ok (.val (.int 1)) S).bind fun a b => (zF (ρ[1]?) b).bind fun c d => chF leF leF a c d fun e => (R.ok (.val (.int 4)) e)).bind fun g h => jS g h fun i => ((((zF (ρ[0]?) i).bind fun j l => (R.ok (.val (.int 1)) l).bind fun m n => ixF j m n).bind fun o p => (((zF (ρ[1]?) p).bind fun q s => (R.ok (.val (.int 1)) s).bind fun t u => bP q t u).bind fun v w => (R.ok [] w).bind fun x y => .ok (v :: x) y).bind fun z A => .ok (o :: z) A).bind fun B D => zJ 2 zQ B D)).bind fun r G => .ok (.ret r) G)
def zEN : AF := yE (zEK) (yE (zEL) ((zEM)))
def zEO (ds : List MV) (S : Sto) : R Er := yX (zEN (yA ["thing", "wide"] ds) S)
def dE : AF := (fun ρ S => ((((zF (ρ[0]?) S).bind fun a b => ((R.ok (.val (.int 2)) b).bind fun c d => ((R.ok (.val (.int 2)) d).bind fun e g => (R.ok [] g).bind fun h i => .ok (e :: h) i).bind fun j l => .ok (c :: j) l).bind fun m n => .ok (a :: m) n).bind fun o p => zJ 3 yJ o p).bind gM).bind fun k q => if k = true then ((fun ρ S => ((((zF (ρ[0]?) S).bind fun s t => (R.ok (.val (.int 0)) t).bind fun u v => ixF s u v).bind fun w x => (R.ok (.val (.str [105,115])) x).bind fun y z => eqF w y z).bind fun A B => jS A B fun D => ((((zF (ρ[0]?) D).bind fun G I => (R.ok (.val (.int 1)) I).bind fun J L => ixF G J L).bind fun M N => (R.ok [] N).bind fun O P => .ok (M :: O) P).bind fun Q T => zJ 1 bT Q T)).bind fun r q => .ok (.ret r) q)) ρ q else (fun ρ S => .ok (.next ρ) S) ρ q)
def zHB : AF := (fun ρ S => ((((((zF (ρ[0]?) S).bind fun a b => ((R.ok (.val (.int 3)) b).bind fun c d => ((R.ok (.val (.int 3)) d).bind fun e g => (R.ok [] g).bind fun h i => .ok (e :: h) i).bind fun j l => .ok (c :: j) l).bind fun m n => .ok (a :: m) n).bind fun o p => zJ 3 yJ o p).bind gM).bind fun q s => .ok (!q) s).bind fun t u => if t = true then .ok true u else ((((zF (ρ[0]?) u).bind fun v w => (R.ok (.val (.int 0)) w).bind fun x y => ixF v x y).bind fun z A => (R.ok (.val (.str [99,101,108,108])) A).bind fun B D => neF z B D).bind asB)).bind fun k G => if k = true then ((fun ρ S => (R.ok (.val (.bl false)) S).bind fun r G => .ok (.ret r) G)) ρ G else (fun ρ S => .ok (.next ρ) S) ρ G)
def zHC : AF := (fun ρ S => (((((zF (ρ[0]?) S).bind fun a b => (R.ok (.val (.int 1)) b).bind fun c d => ixF a c d).bind fun e g => ((((zF (ρ[1]?) g).bind fun h i => (R.ok [] i).bind fun j l => .ok (h :: j) l).bind kB).bind fun m n => (R.ok [] n).bind fun o p => .ok (m :: o) p).bind fun q s => .ok (e :: q) s).bind fun t u => zJ 2 zQ t u).bind fun v w => jS v w fun x => ((((zF (ρ[0]?) x).bind fun y z => (R.ok (.val (.int 2)) z).bind fun A B => ixF y A B).bind fun D G => (((zF (ρ[1]?) G).bind fun I J => ((zF (ρ[0]?) J).bind fun L M => (R.ok (.val (.int 1)) M).bind fun N O => ixF L N O).bind fun P Q => ixF I P Q).bind fun T U => (R.ok [] U).bind fun V X => .ok (T :: V) X).bind fun Y Z => .ok (D :: Y) Z).bind fun a0 a1 => zJ 2 zQ a0 a1)).bind fun r a2 => .ok (.ret r) a2)
def nZ : AF := yE (dE) (yE (zHB) ((zHC)))
def zDV (ds : List MV) (S : Sto) : R Er := yX (nZ (yA ["thing", "wides"] ds) S)
def zHD : AF := (fun ρ S => (((((zF (ρ[0]?) S).bind fun a b => ((R.ok (.val (.int 3)) b).bind fun c d => ((R.ok (.val (.int 3)) d).bind fun e g => (R.ok [] g).bind fun h i => .ok (e :: h) i).bind fun j l => .ok (c :: j) l).bind fun m n => .ok (a :: m) n).bind fun o p => zJ 3 yJ o p).bind gM).bind fun q s => .ok (!q) s).bind fun k t => if k = true then ((fun ρ S => (R.ok (.val (.bl false)) S).bind fun r t => .ok (.ret r) t)) ρ t else (fun ρ S => .ok (.next ρ) S) ρ t)
def zHE : AF := (fun ρ S => (((((zF (ρ[0]?) S).bind fun a b => (R.ok (.val (.int 0)) b).bind fun c d => ixF a c d).bind fun e g => ((zF (ρ[1]?) g).bind fun h i => (R.ok [] i).bind fun j l => .ok (h :: j) l).bind fun m n => .ok (e :: m) n).bind fun o p => zJ 2 zDV o p).bind fun q s => jS q s fun t => ((((zF (ρ[0]?) t).bind fun u v => (R.ok (.val (.int 1)) v).bind fun w x => ixF u w x).bind fun y z => (R.ok (.val (.tup [.str [115,97,109,101], .str [117,110,108,105,107,101], .str [108,101,115,115]])) z).bind fun A B => inF false y A B).bind fun D G => jS D G fun I => ((((zF (ρ[0]?) I).bind fun J L => (R.ok (.val (.int 2)) L).bind fun M N => ixF J M N).bind fun O P => ((zF (ρ[1]?) P).bind fun Q T => (R.ok [] T).bind fun U V => .ok (Q :: U) V).bind fun X Y => .ok (O :: X) Y).bind fun Z a0 => zJ 2 zDV Z a0))).bind fun r a1 => .ok (.ret r) a1)
def zIP : AF := yE (zHD) ((zHE))
def zIQ (ds : List MV) (S : Sto) : R Er := yX (zIP (yA ["thing", "wides"] ds) S)
def zGD : Rho → Sto → R Bool := fun ρ S => (R.ok true S)
def dU : AE := fun ρ S => (((zF (ρ[0]?) S).bind fun a b => ((zF (ρ[1]?) b).bind fun c d => (R.ok [] d).bind fun e g => .ok (c :: e) g).bind fun h i => .ok (a :: h) i).bind fun j l => zJ 2 zIQ j l)
def zJC : AF := (fun ρ S => ((((zF (ρ[0]?) S).bind fun a b => ((R.ok (.val (.int 1)) b).bind fun c d => ((R.ok (.val (.int 3)) d).bind fun e g => (R.ok [] g).bind fun h i => .ok (e :: h) i).bind fun j l => .ok (c :: j) l).bind fun m n => .ok (a :: m) n).bind fun o p => zJ 3 yJ o p).bind fun q s => jS q s fun t => (((((zF (ρ[0]?) t).bind itT).bind fun u v => if u.ds.length < 1000000 then (wN (gNm 0) (zGD) (dU) (blk 1 [1] ρ) u.gs u.ds v).bind fun w x => .ok (.new w) x else .no).bind fun y z => (R.ok [] z).bind fun A B => .ok (y :: A) B).bind zRH)).bind fun r D => .ok (.ret r) D)
def zCC : AF := (zJC)
def jC (ds : List MV) (S : Sto) : R Er := yX (zCC (yA ["thing", "wides"] ds) S)
def zCD : Rho → Sto → R Bool := fun ρ S => (R.ok true S)
def gU : AE := fun ρ S => (((zF (ρ[0]?) S).bind fun a b => ((zF (ρ[1]?) b).bind fun c d => (R.ok [] d).bind fun e g => .ok (c :: e) g).bind fun h i => .ok (a :: h) i).bind fun j l => zJ 2 zQ j l)
def zGE : AF := (fun ρ S => ((((zF (ρ[0]?) S).bind fun a b => ((R.ok (.val (.int 1)) b).bind fun c d => ((R.ok (.val (.int 3)) d).bind fun e g => (R.ok [] g).bind fun h i => .ok (e :: h) i).bind fun j l => .ok (c :: j) l).bind fun m n => .ok (a :: m) n).bind fun o p => zJ 3 yJ o p).bind fun q s => jS q s fun t => (((((zF (ρ[0]?) t).bind itT).bind fun u v => if u.ds.length < 1000000 then (wN (gNm 0) (zCD) (gU) (blk 1 [1] ρ) u.gs u.ds v).bind fun w x => .ok (.new w) x else .no).bind fun y z => (R.ok [] z).bind fun A B => .ok (y :: A) B).bind zRH)).bind fun r D => .ok (.ret r) D)
def cU : AF := (zGE)
def cV (ds : List MV) (S : Sto) : R Er := yX (cU (yA ["thing", "wide"] ds) S)
def zEP : AF := (fun ρ S => ((((((zF (ρ[0]?) S).bind fun a b => (R.ok [] b).bind fun c d => .ok (a :: c) d).bind kB).bind fun e g => (R.ok (.val (.int 3)) g).bind fun h i => neF e h i).bind asB).bind fun j l => if j = true then .ok true l else ((((((zF (ρ[0]?) l).bind fun m n => (R.ok (.val (.int 1)) n).bind fun o p => ixF m o p).bind fun q s => ((((zF (ρ[1]?) s).bind fun t u => (R.ok [] u).bind fun v w => .ok (t :: v) w).bind kB).bind fun x y => (R.ok [] y).bind fun z A => .ok (x :: z) A).bind fun B D => .ok (q :: B) D).bind fun G I => zJ 2 zQ G I).bind gM).bind fun J L => .ok (!J) L)).bind fun k M => if k = true then ((fun ρ S => (R.ok (.val (.bl false)) S).bind fun r M => .ok (.ret r) M)) ρ M else (fun ρ S => .ok (.next ρ) S) ρ M)
def zEQ : AF := (fun ρ S => ((((zF (ρ[0]?) S).bind fun a b => (R.ok (.val (.int 2)) b).bind fun c d => ixF a c d).bind fun e g => ((((((zF (ρ[1]?) g).bind fun h i => ((zF (ρ[0]?) i).bind fun j l => (R.ok (.val (.int 1)) l).bind fun m n => ixF j m n).bind fun o p => ixF h o p).bind fun q s => (R.ok (.val (.int 0)) s).bind fun t u => ixF q t u).bind fun v w => (R.ok [] w).bind fun x y => .ok (v :: x) y).bind zGT).bind fun z A => (R.ok [] A).bind fun B D => .ok (z :: B) D).bind fun G I => .ok (e :: G) I).bind fun J L => zJ 2 jC J L).bind fun r M => .ok (.ret r) M)
def zER : AF := yE (zEP) ((zEQ))
def zES (ds : List MV) (S : Sto) : R Er := yX (zER (yA ["rule", "tables"] ds) S)
def zHF : Rho → Sto → R Bool := fun ρ S => (R.ok true S)
def zAM : AE := fun ρ S => (((zF (ρ[0]?) S).bind fun a b => ((((zF (ρ[1]?) b).bind fun c d => (R.ok [] d).bind fun e g => .ok (c :: e) g).bind kB).bind fun h i => (R.ok [] i).bind fun j l => .ok (h :: j) l).bind fun m n => .ok (a :: m) n).bind fun o p => zJ 2 zQ o p)
def zAN : Rho → Sto → R Bool := fun ρ S => (R.ok true S)
def gV : AE := fun ρ S => (((zF (ρ[1]?) S).bind fun a b => (zF (ρ[0]?) b).bind fun c d => ixF a c d).bind fun e g => (R.ok (.val (.int 0)) g).bind fun h i => ixF e h i)
def zET : AF := (fun ρ S => ((((((zF (ρ[0]?) S).bind fun a b => (R.ok [] b).bind fun c d => .ok (a :: c) d).bind kB).bind fun e g => (R.ok (.val (.int 4)) g).bind fun h i => neF e h i).bind asB).bind fun j l => if j = true then .ok true l else ((((((((zF (ρ[0]?) l).bind fun m n => ((R.ok (.val (.int 1)) n).bind asI).bind fun o p => ((R.ok (.val (.int 3)) p).bind asI).bind fun q s => zKY m o q s).bind itT).bind fun t u => if t.ds.length < 1000000 then (wN (gNm 0) (zHF) (zAM) (blk 1 [1] ρ) t.gs t.ds u).bind fun v w => .ok (.new v) w else .no).bind fun x y => (R.ok [] y).bind fun z A => .ok (x :: z) A).bind zRH).bind gM).bind fun B D => .ok (!B) D)).bind fun k G => if k = true then ((fun ρ S => (R.ok (.val (.bl false)) S).bind fun r G => .ok (.ret r) G)) ρ G else (fun ρ S => .ok (.next ρ) S) ρ G)
def zEU : AF := (fun ρ S => ((((zF (ρ[0]?) S).bind fun a b => (R.ok (.val (.int 3)) b).bind fun c d => ixF a c d).bind fun e g => (((((zF (ρ[0]?) g).bind fun h i => ((R.ok (.val (.int 1)) i).bind asI).bind fun j l => ((R.ok (.val (.int 3)) l).bind asI).bind fun m n => zKY h j m n).bind itT).bind fun o p => if o.ds.length < 1000000 then (wN (gNm 0) (zAN) (gV) (blk 1 [1] ρ) o.gs o.ds p).bind fun q s => .ok (.new q) s else .no).bind fun t u => (R.ok [] u).bind fun v w => .ok (t :: v) w).bind fun x y => .ok (e :: x) y).bind fun z A => zJ 2 jC z A).bind fun r B => .ok (.ret r) B)
def zEV : AF := yE (zET) ((zEU))
def zEW (ds : List MV) (S : Sto) : R Er := yX (zEV (yA ["rule", "tables"] ds) S)
noncomputable def zLM : Rho → Sto → R Fl := (fun ρ S => ((((((zF (ρ[2]?) S).bind fun p688 S689 => ((((zF (ρ[1]?) S689).bind fun p692 S693 => (R.ok [] S693).bind fun l694 S695 => .ok (p692 :: l694) S695).bind kB).bind fun p696 S697 => (R.ok [] S697).bind fun l698 S699 => .ok (p696 :: l698) S699).bind fun l690 S691 => .ok (p688 :: l690) S691).bind fun r686 S687 => zJ 2 zQ r686 S687).bind gM).bind fun k700 S701 => .ok (!k700) S701).bind fun k702 S703 => if k702 = true then .ok true S703 else (((((zF (ρ[3]?) S703).bind fun p706 S707 => ((((zF (ρ[1]?) S707).bind fun p710 S711 => (zF (ρ[2]?) S711).bind fun q712 S713 => ixF p710 q712 S713).bind fun p714 S715 => (R.ok (.val (.int 0)) S715).bind fun q716 S717 => ixF p714 q716 S717).bind fun p718 S719 => (R.ok [] S719).bind fun l720 S721 => .ok (p718 :: l720) S721).bind fun l708 S709 => .ok (p706 :: l708) S709).bind fun r704 S705 => zJ 2 cV r704 S705).bind gM).bind fun k722 S723 => .ok (!k722) S723)).bind fun k S1 => if k = true then ((fun ρ S => (R.ok (.val (.bl false)) S).bind fun r S1 => .ok (.ret r) S1)) ρ S1 else (fun ρ S => .ok (.next ρ) S) ρ S1)
noncomputable def zJY : Rho → Sto → R Fl := (zLM)
def zJZ : AF := (fun ρ S => (((((zF (ρ[0]?) S).bind fun a b => (R.ok [] b).bind fun c d => .ok (a :: c) d).bind kB).bind fun e g => (R.ok (.val (.int 5)) g).bind fun h i => neF e h i).bind asB).bind fun k j => if k = true then ((fun ρ S => (R.ok (.val (.bl false)) S).bind fun r j => .ok (.ret r) j)) ρ j else (fun ρ S => .ok (.next ρ) S) ρ j)
def zKA : AF := (fun ρ S => (((((((zF (ρ[0]?) S).bind fun a b => (R.ok (.val (.int 1)) b).bind fun c d => ixF a c d).bind fun e g => (((zF (ρ[0]?) g).bind fun h i => (R.ok (.val (.int 2)) i).bind fun j l => ixF h j l).bind fun m n => (R.ok [] n).bind fun o p => .ok (m :: o) p).bind fun q s => .ok (e :: q) s).bind nS).bind fun t u => (((((zF (ρ[0]?) u).bind fun v w => (R.ok (.val (.int 3)) w).bind fun x y => ixF v x y).bind fun z A => (((zF (ρ[0]?) A).bind fun B D => (R.ok (.val (.int 4)) D).bind fun G I => ixF B G I).bind fun J L => (R.ok [] L).bind fun M N => .ok (J :: M) N).bind fun O P => .ok (z :: O) P).bind nS).bind fun Q T => (R.ok [] T).bind fun U V => .ok (Q :: U) V).bind fun X Y => .ok (t :: X) Y).bind nS).bind itT).bind fun k Z => gK (gTp 2 (yC (gNm 2) (yC (gNm 3) kJ))) (zJY) k.gs k.ds ρ Z)
def zKB : AF := (fun ρ S => (((((zF (ρ[0]?) S).bind fun a b => (R.ok (.val (.int 2)) b).bind fun c d => ixF a c d).bind fun e g => (R.ok [] g).bind fun h i => .ok (e :: h) i).bind kB).bind fun j l => ((((zF (ρ[0]?) l).bind fun m n => (R.ok (.val (.int 4)) n).bind fun o p => ixF m o p).bind fun q s => (R.ok [] s).bind fun t u => .ok (q :: t) u).bind kB).bind fun v w => eqF j v w).bind fun r x => .ok (.ret r) x)
def zLN : AF := yE (zJZ) (yE (zKA) ((zKB)))
def zLO (ds : List MV) (S : Sto) : R Er := yX (zLN (yA ["rule", "tables", "number", "columns"] ds) S)
def zHG : AF := (fun ρ S => ((((((zF (ρ[0]?) S).bind fun a b => ((R.ok (.val (.typ "tuple")) b).bind fun c d => (R.ok [] d).bind fun e g => .ok (c :: e) g).bind fun h i => .ok (a :: h) i).bind jU).bind gM).bind fun j l => .ok (!j) l).bind fun m n => if m = true then .ok true n else (((((zF (ρ[0]?) n).bind fun o p => (R.ok [] p).bind fun q s => .ok (o :: q) s).bind kB).bind fun t u => (R.ok (.val (.int 0)) u).bind fun v w => eqF t v w).bind asB)).bind fun k x => if k = true then ((fun ρ S => (R.ok (.val (.bl false)) S).bind fun r x => .ok (.ret r) x)) ρ x else (fun ρ S => .ok (.next ρ) S) ρ x)
def jD : AF := (fun ρ S => ((((zF (ρ[0]?) S).bind fun a b => (R.ok (.val (.int 0)) b).bind fun c d => ixF a c d).bind fun e g => (R.ok (.val (.str [110,101,118,101,114])) g).bind fun h i => eqF e h i).bind asB).bind fun k j => if k = true then ((fun ρ S => (((zF (ρ[0]?) S).bind fun l m => ((zF (ρ[1]?) m).bind fun n o => (R.ok [] o).bind fun p q => .ok (n :: p) q).bind fun s t => .ok (l :: s) t).bind fun u v => zJ 2 zES u v).bind fun r j => .ok (.ret r) j)) ρ j else (fun ρ S => .ok (.next ρ) S) ρ j)
def dF : AF := (fun ρ S => ((((zF (ρ[0]?) S).bind fun a b => (R.ok (.val (.int 0)) b).bind fun c d => ixF a c d).bind fun e g => (R.ok (.val (.str [97,112,97,114,116])) g).bind fun h i => eqF e h i).bind asB).bind fun k j => if k = true then ((fun ρ S => (((zF (ρ[0]?) S).bind fun l m => ((zF (ρ[1]?) m).bind fun n o => (R.ok [] o).bind fun p q => .ok (n :: p) q).bind fun s t => .ok (l :: s) t).bind fun u v => zJ 2 zEW u v).bind fun r j => .ok (.ret r) j)) ρ j else (fun ρ S => .ok (.next ρ) S) ρ j)
def zHH : AF := (fun ρ S => ((((zF (ρ[0]?) S).bind fun a b => (R.ok (.val (.int 0)) b).bind fun c d => ixF a c d).bind fun e g => (R.ok (.val (.str [116,105,101])) g).bind fun h i => eqF e h i).bind fun j l => jS j l fun m => (((zF (ρ[0]?) m).bind fun n o => ((zF (ρ[1]?) o).bind fun p q => (R.ok [] q).bind fun s t => .ok (p :: s) t).bind fun u v => .ok (n :: u) v).bind fun w x => zJ 2 zLO w x)).bind fun r y => .ok (.ret r) y)
def zIR : AF := yE (zHG) (yE (jD) (yE (dF) ((zHH))))
def zIS (ds : List MV) (S : Sto) : R Er := yX (zIR (yA ["thing", "tables"] ds) S)
def zLP : Rho → Sto → R Bool := fun ρ S => (R.ok true S)
def zEX : AE := fun ρ S => (((zF (ρ[0]?) S).bind fun a b => (R.ok [] b).bind fun c d => .ok (a :: c) d).bind fun e g => zJ 1 bT e g)
def zKC : AF := (fun ρ S => ((((((zF (ρ[0]?) S).bind fun a b => ((R.ok (.val (.int 2)) b).bind fun c d => ((R.ok (.val (.int 2)) d).bind fun e g => (R.ok [] g).bind fun h i => .ok (e :: h) i).bind fun j l => .ok (c :: j) l).bind fun m n => .ok (a :: m) n).bind fun o p => zJ 3 yJ o p).bind gM).bind fun q s => .ok (!q) s).bind fun t u => if t = true then .ok true u else ((((((zF (ρ[0]?) u).bind fun v w => (R.ok (.val (.int 0)) w).bind fun x y => ixF v x y).bind fun z A => ((((zF (ρ[1]?) A).bind fun B D => (R.ok [] D).bind fun G I => .ok (B :: G) I).bind kB).bind fun J L => (R.ok [] L).bind fun M N => .ok (J :: M) N).bind fun O P => .ok (z :: O) P).bind fun Q T => zJ 2 zQ Q T).bind gM).bind fun U V => .ok (!U) V)).bind fun k X => if k = true then ((fun ρ S => (R.ok (.val (.bl false)) S).bind fun r X => .ok (.ret r) X)) ρ X else (fun ρ S => .ok (.next ρ) S) ρ X)
def zKD : AF := (fun ρ S => (((zF (ρ[1]?) S).bind fun a b => ((zF (ρ[0]?) b).bind fun c d => (R.ok (.val (.int 0)) d).bind fun e g => ixF c e g).bind fun h i => ixF a h i).bind fun j l => (R.ok (.val (.int 0)) l).bind fun m n => ixF j m n).bind (xZ ρ 2))
def zKE : AF := (fun ρ S => (((((zF (ρ[0]?) S).bind fun a b => (R.ok (.val (.int 1)) b).bind fun c d => ixF a c d).bind fun e g => ((zF (ρ[2]?) g).bind fun h i => ((zF (ρ[2]?) i).bind fun j l => (R.ok [] l).bind fun m n => .ok (j :: m) n).bind fun o p => .ok (h :: o) p).bind fun q s => .ok (e :: q) s).bind fun t u => zJ 3 yJ t u).bind fun v w => jS v w fun x => ((((((zF (ρ[0]?) x).bind fun y z => (R.ok (.val (.int 1)) z).bind fun A B => ixF y A B).bind itT).bind fun D G => if D.ds.length < 1000000 then (wN (gNm 0) (zLP) (zEX) (blk 1 [] ρ) D.gs D.ds G).bind fun I J => .ok (.new I) J else .no).bind fun L M => (R.ok [] M).bind fun N O => .ok (L :: N) O).bind zRH)).bind fun r P => .ok (.ret r) P)
def zLQ : AF := yE (zKC) (yE (zKD) ((zKE)))
def zLR (ds : List MV) (S : Sto) : R Er := yX (zLQ (yA ["thing", "tables", "wide"] ds) S)
def zGF : AF := (fun ρ S => ((((((zF (ρ[0]?) S).bind fun a b => (R.ok [] b).bind fun c d => .ok (a :: c) d).bind kB).bind fun e g => (R.ok (.val (.int 4)) g).bind fun h i => gtF e h i).bind asB).bind fun j l => if j = true then .ok true l else ((((((zF (ρ[1]?) l).bind fun m n => (R.ok [] n).bind fun o p => .ok (m :: o) p).bind kB).bind fun q s => (R.ok (.val (.int 6)) s).bind fun t u => gtF q t u).bind asB).bind fun v w => if v = true then .ok true w else (((((zF (ρ[2]?) w).bind fun x y => (R.ok [] y).bind fun z A => .ok (x :: z) A).bind kB).bind fun B D => (R.ok (.val (.int 60)) D).bind fun G I => gtF B G I).bind asB))).bind fun k J => if k = true then ((fun _ _ => R.no)) ρ J else (fun ρ S => .ok (.next ρ) S) ρ J)
def cW : AF := (zGF)
def cX (ds : List MV) (S : Sto) : R Er := yX (cW (yA ["tables", "rules", "rows"] ds) S)
noncomputable def zAO : Rho → Sto → R Fl := (fun ρ S => (((((zF (ρ[2]?) S).bind fun p952 S953 => (R.ok [] S953).bind fun l954 S955 => .ok (p952 :: l954) S955).bind fun r950 S951 => zJ 1 zEO r950 S951).bind gM).bind fun k956 S957 => .ok (!k956) S957).bind fun k S1 => if k = true then ((fun _ _ => R.no)) ρ S1 else (fun ρ S => .ok (.next ρ) S) ρ S1)
noncomputable def bU : Rho → Sto → R Fl := (zAO)
def bV : AF := (fun ρ S => (((((zF (ρ[0]?) S).bind fun a b => (R.ok [] b).bind fun c d => .ok (a :: c) d).bind kB).bind fun e g => (R.ok (.val (.int 0)) g).bind fun h i => eqF e h i).bind asB).bind fun k j => if k = true then ((fun _ _ => R.no)) ρ j else (fun ρ S => .ok (.next ρ) S) ρ j)
def bW : AF := (fun ρ S => (((zF (ρ[0]?) S).bind fun a b => (R.ok [] b).bind fun c d => .ok (a :: c) d).bind itE).bind fun k e => gK (gTp 2 (yC (gNm 1) (yC (gNm 2) kJ))) (bU) k.gs k.ds ρ e)
def gW : AF := yE (bV) ((bW))
def gX (ds : List MV) (S : Sto) : R Er := yX (gW (yA ["tables", "place", "table"] ds) S)
noncomputable def zCE : Rho → Sto → R Fl := (fun ρ S => (((((zF (ρ[3]?) S).bind fun p964 S965 => ((zF (ρ[0]?) S965).bind fun p968 S969 => (R.ok [] S969).bind fun l970 S971 => .ok (p968 :: l970) S971).bind fun l966 S967 => .ok (p964 :: l966) S967).bind fun r962 S963 => zJ 2 zIS r962 S963).bind gM).bind fun k972 S973 => .ok (!k972) S973).bind fun k S1 => if k = true then ((fun _ _ => R.no)) ρ S1 else (fun ρ S => .ok (.next ρ) S) ρ S1)
noncomputable def dW : Rho → Sto → R Fl := (zCE)
def dX : AF := (fun ρ S => (((zF (ρ[1]?) S).bind fun a b => (R.ok [] b).bind fun c d => .ok (a :: c) d).bind itE).bind fun k e => gK (gTp 2 (yC (gNm 2) (yC (gNm 3) kJ))) (dW) k.gs k.ds ρ e)
def cY : AF := (dX)
def cZ (ds : List MV) (S : Sto) : R Er := yX (cY (yA ["tables", "rules", "place", "rule"] ds) S)
noncomputable def zDW : Rho → Sto → R Fl := (fun ρ S => (((((zF (ρ[3]?) S).bind fun p980 S981 => ((zF (ρ[0]?) S981).bind fun p984 S985 => (R.ok [] S985).bind fun l986 S987 => .ok (p984 :: l986) S987).bind fun l982 S983 => .ok (p980 :: l982) S983).bind fun r978 S979 => zJ 2 zLR r978 S979).bind gM).bind fun k988 S989 => .ok (!k988) S989).bind fun k S1 => if k = true then ((fun _ _ => R.no)) ρ S1 else (fun ρ S => .ok (.next ρ) S) ρ S1)
noncomputable def zAP : Rho → Sto → R Fl := (zDW)
noncomputable def bX : Rho → Sto → R Fl := (fun ρ S => (((zF (ρ[3]?) S).bind fun p994 S995 => (zF (ρ[4]?) S995).bind fun q996 S997 => yEF false p994 q996 S997).bind asB).bind fun k S1 => if k = true then ((fun _ _ => R.no)) ρ S1 else (fun ρ S => .ok (.next ρ) S) ρ S1)
noncomputable def bY : Rho → Sto → R Fl := (fun ρ S => (R.ok (.val (.bl true)) S).bind (yGQ (fun d999 ρ S998 => (zF (ρ[4]?) S998).bind fun p1001 S1002 => (zF (ρ[3]?) S1002).bind fun q1003 S1004 => zWR p1001 q1003 d999 ρ S1004) ρ))
noncomputable def gY : Rho → Sto → R Fl := yE (bX) ((bY))
def zAQ : AF := (fun ρ S => (((zF (ρ[1]?) S).bind fun a b => (R.ok [] b).bind fun c d => .ok (a :: c) d).bind itE).bind fun k e => gK (gTp 2 (yC (gNm 2) (yC (gNm 3) kJ))) (zAP) k.gs k.ds ρ e)
def zAR : AF := (fun ρ S => (zWP S).bind (xZ ρ 4))
def zAS : AF := (fun ρ S => (((zF (ρ[1]?) S).bind fun a b => (R.ok [] b).bind fun c d => .ok (a :: c) d).bind itE).bind fun k e => gK (gTp 2 (yC (gNm 2) (yC (gNm 3) kJ))) (gY) k.gs k.ds ρ e)
def nU : AF := yE (zAQ) (yE (zAR) ((zAS)))
def nV (ds : List MV) (S : Sto) : R Er := yX (nU (yA ["tables", "rows", "place", "row", "seen"] ds) S)
def zHI : AF := (fun ρ S => (((zF (ρ[0]?) S).bind fun a b => ((zF (ρ[1]?) b).bind fun c d => ((zF (ρ[2]?) d).bind fun e g => (R.ok [] g).bind fun h i => .ok (e :: h) i).bind fun j l => .ok (c :: j) l).bind fun m n => .ok (a :: m) n).bind fun o p => zJ 3 cX o p).bind fun _ q => .ok (.next ρ) q)
def zHJ : AF := (fun ρ S => (((zF (ρ[0]?) S).bind fun a b => (R.ok [] b).bind fun c d => .ok (a :: c) d).bind fun e g => zJ 1 gX e g).bind fun _ h => .ok (.next ρ) h)
def zHK : AF := (fun ρ S => (((zF (ρ[0]?) S).bind fun a b => ((zF (ρ[1]?) b).bind fun c d => (R.ok [] d).bind fun e g => .ok (c :: e) g).bind fun h i => .ok (a :: h) i).bind fun j l => zJ 2 cZ j l).bind fun _ m => .ok (.next ρ) m)
def zHL : AF := (fun ρ S => (((zF (ρ[0]?) S).bind fun a b => ((zF (ρ[2]?) b).bind fun c d => (R.ok [] d).bind fun e g => .ok (c :: e) g).bind fun h i => .ok (a :: h) i).bind fun j l => zJ 2 nV j l).bind fun _ m => .ok (.next ρ) m)
def zHM : AF := (fun ρ S => (((((zF (ρ[0]?) S).bind fun a b => (R.ok [] b).bind fun c d => .ok (a :: c) d).bind dS).bind fun e g => ((((zF (ρ[1]?) g).bind fun h i => (R.ok [] i).bind fun j l => .ok (h :: j) l).bind dS).bind fun m n => ((((zF (ρ[2]?) n).bind fun o p => (R.ok [] p).bind fun q s => .ok (o :: q) s).bind dS).bind fun t u => (R.ok [] u).bind fun v w => .ok (t :: v) w).bind fun x y => .ok (m :: x) y).bind fun z A => .ok (e :: z) A).bind nS).bind fun r B => .ok (.ret r) B)
def zIT : AF := yE (zHI) (yE (zHJ) (yE (zHK) (yE (zHL) ((zHM)))))
def bZ (ds : List MV) (S : Sto) : R Er := yX (zIT (yA ["tables", "rules", "rows"] ds) S)
def cA : AF := (fun ρ S => (((zF (ρ[1]?) S).bind fun a b => (((zF (ρ[0]?) b).bind fun c d => (R.ok [] d).bind fun e g => .ok (c :: e) g).bind kB).bind fun h i => ltF a h i).bind asB).bind fun k j => if k = true then ((fun ρ S => ((zF (ρ[0]?) S).bind fun l m => (zF (ρ[1]?) m).bind fun n o => ixF l n o).bind fun r j => .ok (.ret r) j)) ρ j else (fun ρ S => .ok (.next ρ) S) ρ j)
def zMS : AF := (fun ρ S => (R.ok (.val (.int 0)) S).bind fun r a => .ok (.ret r) a)
def gZ : AF := yE (cA) ((zMS))
def yU (ds : List MV) (S : Sto) : R Er := yX (gZ (yA ["_law_script", "_law_k"] ds) S)
def zEY : AF := (fun ρ S => ((((zF (ρ[0]?) S).bind fun a b => (R.ok (.val (.int 2)) b).bind fun c d => gP a c d).bind fun e g => (R.ok (.val (.int 0)) g).bind fun h i => eqF e h i).bind asB).bind fun k j => if k = true then ((fun ρ S => (((zF (ρ[0]?) S).bind fun l m => (R.ok (.val (.int 2)) m).bind fun n o => zCM l n o).bind fun p q => (((R.ok (.val (.int 10)) q).bind fun s t => (R.ok (.val (.int 60)) t).bind fun u v => zJP s u v).bind fun w x => (R.ok (.val (.int 10)) x).bind fun y z => zJP w y z).bind fun A B => gP p A B).bind fun r j => .ok (.ret r) j)) ρ j else (fun ρ S => .ok (.next ρ) S) ρ j)
def zEZ : AF := (fun ρ S => (((((zF (ρ[0]?) S).bind fun a b => (R.ok (.val (.int 2147483629)) b).bind fun c d => gP a c d).bind fun e g => (R.ok (.val (.int 7)) g).bind fun h i => bP e h i).bind fun j l => (R.ok (.val (.int 48271)) l).bind fun m n => zRE j m n).bind fun o p => (zF (ρ[1]?) p).bind fun q s => gP o q s).bind (xZ ρ 2))
def zFA : AF := (fun ρ S => (((((zF (ρ[2]?) S).bind fun a b => (zF (ρ[2]?) b).bind fun c d => zRE a c d).bind fun e g => (R.ok (.val (.int 2147483579)) g).bind fun h i => gP e h i).bind fun j l => (R.ok (.val (.int 1000003)) l).bind fun m n => zRE j m n).bind fun o p => (zF (ρ[2]?) p).bind fun q s => bP o q s).bind fun r t => .ok (.ret r) t)
def zFB : AF := yE (zEY) (yE (zEZ) ((zFA)))
def xW (ds : List MV) (S : Sto) : R Er := yX (zFB (yA ["_law_cell", "_law_prime", "_law_number"] ds) S)
noncomputable def dY : Rho → Sto → R Fl := (fun ρ S => ((zF (ρ[3]?) S).bind fun p1153 S1154 => ((zF (ρ[1]?) S1154).bind fun p1157 S1158 => ((zF (ρ[2]?) S1158).bind fun p1161 S1162 => (R.ok (.val (.int 26)) S1162).bind fun q1163 S1164 => gP p1161 q1163 S1164).bind fun q1159 S1160 => ixF p1157 q1159 S1160).bind fun q1155 S1156 => bP p1153 q1155 S1156).bind (xZ ρ 3))
noncomputable def dZ : Rho → Sto → R Fl := (fun ρ S => ((zF (ρ[2]?) S).bind fun p1165 S1166 => (R.ok (.val (.int 26)) S1166).bind fun q1167 S1168 => zCM p1165 q1167 S1168).bind (xZ ρ 2))
noncomputable def dA : Rho → Sto → R Fl := yE (dY) ((dZ))
def zJD : AF := (fun ρ S => (R.ok (.val (.str [97,98,99,100,101,102,103,104,105,106,107,108,109,110,111,112,113,114,115,116,117,118,119,120,121,122])) S).bind (xZ ρ 1))
def zCP : AF := (fun ρ S => ((zF (ρ[0]?) S).bind fun a b => (R.ok (.val (.int 8)) b).bind fun c d => zCM a c d).bind (xZ ρ 2))
def zJE : AF := (fun ρ S => (R.ok (.val (.str [])) S).bind (xZ ρ 3))
def zCQ : AF := (fun ρ S => ((((R.ok (.val (.int 1)) S).bind fun a b => ((zF (ρ[0]?) b).bind fun c d => (R.ok (.val (.int 8)) d).bind fun e g => gP c e g).bind fun h i => bP a h i).bind fun j l => (R.ok [] l).bind fun m n => .ok (j :: m) n).bind zKU).bind fun k o => gK (gNm 4) (dA) k.gs k.ds ρ o)
def zRK : AF := (fun ρ S => (zF (ρ[3]?) S).bind fun r a => .ok (.ret r) a)
def zHN : AF := yE (zJD) (yE (zCP) (yE (zJE) (yE (zCQ) ((zRK)))))
def gC (ds : List MV) (S : Sto) : R Er := yX (zHN (yA ["_law_cell", "_law_letters", "_law_number", "_law_name_here", "_law_k"] ds) S)
def zCR : AF := (fun ρ S => (((zF (ρ[0]?) S).bind fun a b => ((R.ok (.val (.int 2147483587)) b).bind fun c d => (R.ok [] d).bind fun e g => .ok (c :: e) g).bind fun h i => .ok (a :: h) i).bind fun j l => zJ 2 xW j l).bind (xZ ρ 1))
def zJF : AF := (fun ρ S => (R.ok (.val (.str [97,98,99,100,101,102,103,104,105,106,107,108,109,110,111,112,113,114,115,116,117,118,119,120,121,122])) S).bind (xZ ρ 2))
def zCS : AF := (fun ρ S => (((zF (ρ[1]?) S).bind fun a b => (R.ok [] b).bind fun c d => .ok (a :: c) d).bind fun e g => zJ 1 gC e g).bind (xZ ρ 3))
def zCT : AF := (fun ρ S => ((zF (ρ[1]?) S).bind fun a b => ((R.ok (.val (.int 8)) b).bind fun c d => ((R.ok (.val (.int 26)) d).bind fun e g => (R.ok (.val (.int 8)) g).bind fun h i => zJP e h i).bind fun j l => zRE c j l).bind fun m n => zCM a m n).bind (xZ ρ 1))
def zCU : AF := (fun ρ S => ((zF (ρ[1]?) S).bind fun a b => (((zF (ρ[3]?) b).bind fun c d => (R.ok [] d).bind fun e g => .ok (c :: e) g).bind kB).bind fun h i => gP a h i).bind (xZ ρ 4))
def zCV : AF := (fun ρ S => ((((zF (ρ[2]?) S).bind fun a b => if zPG a b = true then (((zF (ρ[3]?) b).bind fun c d => (zF (ρ[4]?) d).bind fun e g => ixF c e g).bind fun h i => (R.ok [] i).bind fun j l => .ok (h :: j) l).bind fun m n => zWK a m n else .no).bind fun o p => (R.ok (.val (.int 1)) p).bind fun q s => bP o q s).bind fun t u => (((zF (ρ[1]?) u).bind fun v w => (R.ok (.val (.int 8)) w).bind fun x y => zCM v x y).bind fun z A => (R.ok (.val (.int 25)) A).bind fun B D => gP z B D).bind fun G I => bP t G I).bind (xZ ρ 5))
def zCW : AF := (fun ρ S => ((((zF (ρ[3]?) S).bind fun a b => (R.ok none b).bind fun c d => ((zF (ρ[4]?) d).bind asI).bind fun e g => zKY a c e g).bind fun h i => ((zF (ρ[2]?) i).bind fun j l => ((zF (ρ[5]?) l).bind fun m n => (R.ok (.val (.int 26)) n).bind fun o p => gP m o p).bind fun q s => ixF j q s).bind fun t u => bP h t u).bind fun v w => ((zF (ρ[3]?) w).bind fun x y => (((zF (ρ[4]?) y).bind fun z A => (R.ok (.val (.int 1)) A).bind fun B D => bP z B D).bind asI).bind fun G I => (R.ok none I).bind fun J L => zKY x G J L).bind fun M N => bP v M N).bind (xZ ρ 6))
def zCX : AF := (fun ρ S => ((zF (ρ[1]?) S).bind fun a b => (R.ok (.val (.int 200)) b).bind fun c d => zCM a c d).bind (xZ ρ 1))
def zCY : AF := (fun ρ S => (((((((zF (ρ[1]?) S).bind fun a b => ((R.ok (.val (.int 10)) b).bind fun c d => (R.ok (.val (.int 30)) d).bind fun e g => zJP c e g).bind fun h i => gP a h i).bind fun j l => (R.ok (.val (.int 48271)) l).bind fun m n => zRE j m n).bind fun o p => (R.ok (.val (.int 11)) p).bind fun q s => bP o q s).bind fun t u => (R.ok (.val (.int 4)) u).bind fun v w => zJP t v w).bind fun x y => (((R.ok (.val (.int 10)) y).bind fun z A => (R.ok (.val (.int 30)) A).bind fun B D => zJP z B D).bind fun G I => (R.ok (.val (.int 3)) I).bind fun J L => yGW G J L).bind fun M N => gP x M N).bind fun O P => (R.ok (.val (.int 1)) P).bind fun Q T => bP O Q T).bind (xZ ρ 7))
def bA : AF := (fun ρ S => ((((zF (ρ[1]?) S).bind fun a b => (R.ok (.val (.int 2)) b).bind fun c d => gP a c d).bind fun e g => (R.ok (.val (.int 1)) g).bind fun h i => eqF e h i).bind asB).bind fun k j => if k = true then ((fun ρ S => ((((zF (ρ[1]?) S).bind fun l m => (R.ok (.val (.int 2)) m).bind fun n o => zCM l n o).bind fun p q => (((R.ok (.val (.int 10)) q).bind fun s t => (R.ok (.val (.int 30)) t).bind fun u v => zJP s u v).bind fun w x => (R.ok (.val (.int 3)) x).bind fun y z => yGW w y z).bind fun A B => gP p A B).bind fun D G => (R.ok (.val (.int 1)) G).bind fun I J => bP D I J).bind (xZ ρ 7))) ρ j else (fun ρ S => .ok (.next ρ) S) ρ j)
def zAT : AF := (fun ρ S => (((((zF (ρ[1]?) S).bind fun a b => (R.ok (.val (.int 64)) b).bind fun c d => zCM a c d).bind fun e g => (R.ok (.val (.int 5)) g).bind fun h i => gP e h i).bind fun j l => ((zF (ρ[7]?) l).bind fun m n => ((zF (ρ[3]?) n).bind fun o p => (((R.ok (.val (.int 0)) p).bind fun q s => (zF (ρ[7]?) s).bind fun t u => yGW q t u).bind fun v w => ((zF (ρ[6]?) w).bind fun x y => (((((zF (ρ[1]?) y).bind fun z A => (R.ok (.val (.int 320)) A).bind fun B D => zCM z B D).bind fun G I => (R.ok (.val (.int 5)) I).bind fun J L => gP G J L).bind fun M N => (R.ok (.val (.int 7)) N).bind fun O P => bP M O P).bind fun Q T => (((zF (ρ[7]?) T).bind fun U V => (R.ok (.val (.int 1)) V).bind fun X Y => bP U X Y).bind fun Z a0 => (R.ok [] a0).bind fun a1 a2 => .ok (Z :: a1) a2).bind fun a3 a4 => .ok (Q :: a3) a4).bind fun a5 a6 => .ok (x :: a5) a6).bind fun a7 a8 => .ok (v :: a7) a8).bind fun a9 b0 => .ok (o :: a9) b0).bind fun b1 b2 => .ok (m :: b1) b2).bind fun b3 b4 => .ok (j :: b3) b4).bind zGT).bind fun r b5 => .ok (.ret r) b5)
def zHO : AF := yE (zCR) (yE (zJF) (yE (zCS) (yE (zCT) (yE (zCU) (yE (zCV) (yE (zCW) (yE (zCX) (yE (zCY) (yE (bA) ((zAT)))))))))))
def gD (ds : List MV) (S : Sto) : R Er := yX (zHO (yA ["_law_cell", "_law_number", "_law_letters", "_law_name_here", "_law_at", "_law_turned", "_law_other", "_law_great"] ds) S)
def cB (self : List MV → Sto → R Er) : Rho → Sto → R Bool := fun ρ S => (R.ok true S)
def wT (self : List MV → Sto → R Er) : AE := fun ρ S => (((zF (ρ[0]?) S).bind fun a b => ((zF (ρ[1]?) b).bind fun c d => (R.ok [] d).bind fun e g => .ok (c :: e) g).bind fun h i => .ok (a :: h) i).bind fun j l => zJ 2 self j l)
def yY (self : List MV → Sto → R Er) : AF := (fun ρ S => (((zF (ρ[1]?) S).bind fun a b => (R.ok (.val .non) b).bind fun c d => zRF a c d).bind asB).bind fun k e => if k = true then ((fun ρ S => ((zF (ρ[0]?) S).bind fun g h => (R.ok (.val .non) h).bind fun i j => zRF g i j).bind fun r e => .ok (.ret r) e)) ρ e else (fun ρ S => .ok (.next ρ) S) ρ e)
def yZ (self : List MV → Sto → R Er) : AF := (fun ρ S => ((((zF (ρ[1]?) S).bind fun a b => ((R.ok (.val (.typ "str")) b).bind fun c d => (R.ok [] d).bind fun e g => .ok (c :: e) g).bind fun h i => .ok (a :: h) i).bind jU).bind gM).bind fun k j => if k = true then ((fun ρ S => ((((zF (ρ[0]?) S).bind fun l m => ((R.ok (.val (.typ "str")) m).bind fun n o => (R.ok [] o).bind fun p q => .ok (n :: p) q).bind fun s t => .ok (l :: s) t).bind jU).bind fun u v => jS u v fun w => ((zF (ρ[0]?) w).bind fun x y => (zF (ρ[1]?) y).bind fun z A => eqF x z A)).bind fun r j => .ok (.ret r) j)) ρ j else (fun ρ S => .ok (.next ρ) S) ρ j)
def wE (self : List MV → Sto → R Er) : AF := (fun ρ S => ((((zF (ρ[1]?) S).bind fun a b => ((R.ok (.val (.typ "int")) b).bind fun c d => (R.ok [] d).bind fun e g => .ok (c :: e) g).bind fun h i => .ok (a :: h) i).bind jU).bind gM).bind fun k j => if k = true then ((fun ρ S => ((((zF (ρ[0]?) S).bind fun l m => ((R.ok (.val (.typ "int")) m).bind fun n o => (R.ok [] o).bind fun p q => .ok (n :: p) q).bind fun s t => .ok (l :: s) t).bind jU).bind fun u v => jS u v fun w => (((((zF (ρ[0]?) w).bind fun x y => ((R.ok (.val (.typ "bool")) y).bind fun z A => (R.ok [] A).bind fun B D => .ok (z :: B) D).bind fun G I => .ok (x :: G) I).bind jU).bind fun J L => (asB J L).bind fun M N => .ok (.val (.bl !M)) N).bind fun O P => jS O P fun Q => ((zF (ρ[0]?) Q).bind fun T U => (zF (ρ[1]?) U).bind fun V X => eqF T V X))).bind fun r j => .ok (.ret r) j)) ρ j else (fun ρ S => .ok (.next ρ) S) ρ j)
def jE (self : List MV → Sto → R Er) : AF := (fun ρ S => (((((zF (ρ[1]?) S).bind fun a b => ((R.ok (.val (.typ "list")) b).bind fun c d => (R.ok [] d).bind fun e g => .ok (c :: e) g).bind fun h i => .ok (a :: h) i).bind jU).bind gM).bind fun j l => if j = true then (((((zF (ρ[0]?) l).bind fun m n => ((R.ok (.val (.typ "list")) n).bind fun o p => (R.ok [] p).bind fun q s => .ok (o :: q) s).bind fun t u => .ok (m :: t) u).bind jU).bind gM).bind fun v w => .ok (!v) w) else .ok false l).bind fun k x => if k = true then ((fun ρ S => (R.ok (.val (.bl false)) S).bind fun r x => .ok (.ret r) x)) ρ x else (fun ρ S => .ok (.next ρ) S) ρ x)
def jF (self : List MV → Sto → R Er) : AF := (fun ρ S => (((((zF (ρ[1]?) S).bind fun a b => ((R.ok (.val (.typ "tuple")) b).bind fun c d => (R.ok [] d).bind fun e g => .ok (c :: e) g).bind fun h i => .ok (a :: h) i).bind jU).bind gM).bind fun j l => if j = true then (((((zF (ρ[0]?) l).bind fun m n => ((R.ok (.val (.typ "tuple")) n).bind fun o p => (R.ok [] p).bind fun q s => .ok (o :: q) s).bind fun t u => .ok (m :: t) u).bind jU).bind gM).bind fun v w => .ok (!v) w) else .ok false l).bind fun k x => if k = true then ((fun ρ S => (R.ok (.val (.bl false)) S).bind fun r x => .ok (.ret r) x)) ρ x else (fun ρ S => .ok (.next ρ) S) ρ x)
def zAU (self : List MV → Sto → R Er) : AF := (fun ρ S => (((((zF (ρ[0]?) S).bind fun a b => (R.ok [] b).bind fun c d => .ok (a :: c) d).bind kB).bind fun e g => (((zF (ρ[1]?) g).bind fun h i => (R.ok [] i).bind fun j l => .ok (h :: j) l).bind kB).bind fun m n => eqF e m n).bind fun o p => jS o p fun q => ((((((zF (ρ[0]?) q).bind fun s t => ((zF (ρ[1]?) t).bind fun u v => (R.ok [] v).bind fun w x => .ok (u :: w) x).bind fun y z => .ok (s :: y) z).bind itZ).bind fun A B => if A.ds.length < 1000000 then (wN (gTp 2 (yC (gNm 0) (yC (gNm 1) kJ))) (cB self) (wT self) (blk 2 [] ρ) A.gs A.ds B).bind fun D G => .ok (.new D) G else .no).bind fun I J => (R.ok [] J).bind fun L M => .ok (I :: L) M).bind zRH)).bind fun r N => .ok (.ret r) N)
def jP (self : List MV → Sto → R Er) : AF := yE (yY self) (yE (yZ self) (yE (wE self) (yE (jE self) (yE (jF self) ((zAU self))))))
def zK : Nat → List MV → Sto → R Er
 | 0 => fun _ _ => .no
 | n + 1 => fun ds S => yX (jP (zK n) (yA ["_law_told", "_law_due"] ds) S)
noncomputable def bB : Rho → Sto → R Fl := (fun ρ S => ((R.ok (.val (.int 1)) S).bind fun p1565 S1566 => ((zF (ρ[2]?) S1566).bind fun p1569 S1570 => (R.ok (.val (.int 4)) S1570).bind fun q1571 S1572 => gP p1569 q1571 S1572).bind fun q1567 S1568 => bP p1565 q1567 S1568).bind (xZ ρ 6))
noncomputable def bC : Rho → Sto → R Fl := (fun ρ S => ((zF (ρ[4]?) S).bind fun p1573 S1574 => if dC p1573 S1574 = true then ((((zF (ρ[6]?) S1574).bind fun p1577 S1578 => ((((zF (ρ[2]?) S1578).bind fun p1581 S1582 => (R.ok (.val (.int 4)) S1582).bind fun q1583 S1584 => zCM p1581 q1583 S1584).bind fun p1585 S1586 => ((zF (ρ[6]?) S1586).bind fun p1589 S1590 => (R.ok (.val (.int 1)) S1590).bind fun q1591 S1592 => bP p1589 q1591 S1592).bind fun q1587 S1588 => gP p1585 q1587 S1588).bind fun p1593 S1594 => (R.ok [] S1594).bind fun l1595 S1596 => .ok (p1593 :: l1595) S1596).bind fun l1579 S1580 => .ok (p1577 :: l1579) S1580).bind nS).bind fun p1597 S1598 => (R.ok [] S1598).bind fun l1599 S1600 => .ok (p1597 :: l1599) S1600).bind fun r1575 S1576 => zNP p1573 r1575 S1576 else .no).bind fun _ S1 => .ok (.next ρ) S1)
noncomputable def bD : Rho → Sto → R Fl := (fun ρ S => ((zF (ρ[2]?) S).bind fun p1601 S1602 => (R.ok (.val (.int 20)) S1602).bind fun q1603 S1604 => zCM p1601 q1603 S1604).bind (xZ ρ 2))
noncomputable def hJ : Rho → Sto → R Fl := yE (bB) (yE (bC) ((bD)))
def nA : AF := (fun ρ S => (((zF (ρ[0]?) S).bind fun a b => ((R.ok (.val (.int 2147483629)) b).bind fun c d => (R.ok [] d).bind fun e g => .ok (c :: e) g).bind fun h i => .ok (a :: h) i).bind fun j l => zJ 2 xW j l).bind (xZ ρ 2))
def nB : AF := (fun ρ S => ((R.ok (.val (.int 1)) S).bind fun a b => ((zF (ρ[2]?) b).bind fun c d => (zF (ρ[1]?) d).bind fun e g => gP c e g).bind fun h i => bP a h i).bind (xZ ρ 3))
def nE : AF := (fun ρ S => ((zF (ρ[2]?) S).bind fun a b => (zF (ρ[1]?) b).bind fun c d => zCM a c d).bind (xZ ρ 2))
def nF : AF := (fun ρ S => ((R.ok [] S).bind zGT).bind (xZ ρ 4))
def nG : AF := (fun ρ S => (((zF (ρ[3]?) S).bind fun a b => (R.ok [] b).bind fun c d => .ok (a :: c) d).bind zKU).bind fun k e => gK (gNm 5) (hJ) k.gs k.ds ρ e)
def nH : AF := (fun ρ S => (((zF (ρ[4]?) S).bind fun a b => (R.ok [] b).bind fun c d => .ok (a :: c) d).bind dS).bind fun r e => .ok (.ret r) e)
def zCZ : AF := yE (nA) (yE (nB) (yE (nE) (yE (nF) (yE (nG) ((nH))))))
def kN (ds : List MV) (S : Sto) : R Er := yX (zCZ (yA ["_law_cell", "_law_most", "_law_number", "_law_many", "_law_tables_here", "_law_k", "_law_wide"] ds) S)
noncomputable def zAV : Rho → Sto → R Fl := (fun ρ S => ((zF (ρ[6]?) S).bind fun p1647 S1648 => if dC p1647 S1648 = true then (((zF (ρ[2]?) S1648).bind fun p1651 S1652 => ((zF (ρ[4]?) S1652).bind fun p1655 S1656 => (zF (ρ[3]?) S1656).bind fun q1657 S1658 => gP p1655 q1657 S1658).bind fun q1653 S1654 => ixF p1651 q1653 S1654).bind fun p1659 S1660 => (R.ok [] S1660).bind fun l1661 S1662 => .ok (p1659 :: l1661) S1662).bind fun r1649 S1650 => zNP p1647 r1649 S1650 else .no).bind fun _ S1 => .ok (.next ρ) S1)
noncomputable def zAW : Rho → Sto → R Fl := (fun ρ S => ((zF (ρ[4]?) S).bind fun p1663 S1664 => (zF (ρ[3]?) S1664).bind fun q1665 S1666 => zCM p1663 q1665 S1666).bind (xZ ρ 4))
noncomputable def nW : Rho → Sto → R Fl := yE (zAV) ((zAW))
def zFC : AF := (fun ρ S => (((zF (ρ[0]?) S).bind fun a b => ((R.ok (.val (.int 2147483563)) b).bind fun c d => (R.ok [] d).bind fun e g => .ok (c :: e) g).bind fun h i => .ok (a :: h) i).bind fun j l => zJ 2 xW j l).bind (xZ ρ 4))
def zFD : AF := (fun ρ S => ((zF (ρ[4]?) S).bind fun a b => (((zF (ρ[1]?) b).bind fun c d => (R.ok [] d).bind fun e g => .ok (c :: e) g).bind kB).bind fun h i => gP a h i).bind (xZ ρ 5))
def zFE : AF := (fun ρ S => ((zF (ρ[4]?) S).bind fun a b => (((zF (ρ[1]?) b).bind fun c d => (R.ok [] d).bind fun e g => .ok (c :: e) g).bind kB).bind fun h i => zCM a h i).bind (xZ ρ 4))
def zFF : AF := (fun ρ S => ((R.ok [] S).bind zGT).bind (xZ ρ 6))
def zFG : AF := (fun ρ S => (((((zF (ρ[1]?) S).bind fun a b => (zF (ρ[5]?) b).bind fun c d => ixF a c d).bind fun e g => (R.ok (.val (.int 0)) g).bind fun h i => ixF e h i).bind fun j l => (R.ok [] l).bind fun m n => .ok (j :: m) n).bind zKU).bind fun k o => gK (gNm 7) (nW) k.gs k.ds ρ o)
def zFH : AF := (fun ρ S => (((zF (ρ[5]?) S).bind fun a b => ((((zF (ρ[6]?) b).bind fun c d => (R.ok [] d).bind fun e g => .ok (c :: e) g).bind dS).bind fun h i => (R.ok [] i).bind fun j l => .ok (h :: j) l).bind fun m n => .ok (a :: m) n).bind nS).bind fun r o => .ok (.ret r) o)
def zKF : AF := yE (zFC) (yE (zFD) (yE (zFE) (yE (zFF) (yE (zFG) ((zFH))))))
def cC (ds : List MV) (S : Sto) : R Er := yX (zKF (yA ["_law_cell", "_law_tables_here", "_law_pool_here", "_law_wide", "_law_number", "_law_t", "_law_cells", "_law_k"] ds) S)
noncomputable def nI : Rho → Sto → R Fl := (fun ρ S => (((zF (ρ[5]?) S).bind fun p1681 S1682 => ((zF (ρ[1]?) S1682).bind fun p1685 S1686 => ((zF (ρ[2]?) S1686).bind fun p1689 S1690 => ((zF (ρ[3]?) S1690).bind fun p1693 S1694 => (R.ok [] S1694).bind fun l1695 S1696 => .ok (p1693 :: l1695) S1696).bind fun l1691 S1692 => .ok (p1689 :: l1691) S1692).bind fun l1687 S1688 => .ok (p1685 :: l1687) S1688).bind fun l1683 S1684 => .ok (p1681 :: l1683) S1684).bind fun r1679 S1680 => zJ 4 cC r1679 S1680).bind (xZ ρ 6))
noncomputable def kK : Rho → Sto → R Fl := (fun ρ S => (((zF (ρ[6]?) S).bind fun p1697 S1698 => (zF (ρ[4]?) S1698).bind fun q1699 S1700 => inF true p1697 q1699 S1700).bind asB).bind fun k S1 => if k = true then ((fun ρ S => ((zF (ρ[4]?) S).bind fun p1701 S1702 => if dC p1701 S1702 = true then ((zF (ρ[6]?) S1702).bind fun p1705 S1706 => (R.ok [] S1706).bind fun l1707 S1708 => .ok (p1705 :: l1707) S1708).bind fun r1703 S1704 => zNP p1701 r1703 S1704 else .no).bind fun _ S1 => .ok (.next ρ) S1)) ρ S1 else (fun ρ S => .ok (.next ρ) S) ρ S1)
noncomputable def jX : Rho → Sto → R Fl := yE (nI) ((kK))
def zDA : AF := (fun ρ S => ((R.ok [] S).bind zGT).bind (xZ ρ 4))
def zDB : AF := (fun ρ S => ((zF (ρ[0]?) S).bind itL).bind fun k a => gK (gNm 5) (jX) k.gs k.ds ρ a)
def zDC : AF := (fun ρ S => (((zF (ρ[4]?) S).bind fun a b => (R.ok [] b).bind fun c d => .ok (a :: c) d).bind dS).bind fun r e => .ok (.ret r) e)
def zHP : AF := yE (zDA) (yE (zDB) ((zDC)))
def gE (ds : List MV) (S : Sto) : R Er := yX (zHP (yA ["_law_cells", "_law_tables_here", "_law_pool_here", "_law_wide", "_law_rows_here", "_law_cell", "_law_row_here"] ds) S)
noncomputable def hW : Rho → Sto → R Fl := (fun ρ S => ((zF (ρ[1]?) S).bind fun p1721 S1722 => (zF (ρ[4]?) S1722).bind fun q1723 S1724 => ixF p1721 q1723 S1724).bind (yGQ (gTp 2 (yC (gNm 5) (yC (gNm 6) kJ))) ρ))
noncomputable def hX : Rho → Sto → R Fl := (fun ρ S => (((zF (ρ[5]?) S).bind fun p1725 S1726 => (((zF (ρ[6]?) S1726).bind fun p1729 S1730 => (R.ok none S1730).bind fun l1731 S1732 => ((((zF (ρ[0]?) S1732).bind fun p1735 S1736 => (zF (ρ[5]?) S1736).bind fun q1737 S1738 => ixF p1735 q1737 S1738).bind fun p1739 S1740 => (R.ok (.val (.int 1)) S1740).bind fun q1741 S1742 => ixF p1739 q1741 S1742).bind asI).bind fun u1733 S1734 => zKY p1729 l1731 u1733 S1734).bind fun p1743 S1744 => (R.ok [] S1744).bind fun l1745 S1746 => .ok (p1743 :: l1745) S1746).bind fun l1727 S1728 => .ok (p1725 :: l1727) S1728).bind nS).bind (xZ ρ 7))
noncomputable def wF : Rho → Sto → R Fl := (fun ρ S => (((zF (ρ[7]?) S).bind fun p1747 S1748 => (zF (ρ[2]?) S1748).bind fun q1749 S1750 => inF true p1747 q1749 S1750).bind asB).bind fun k S1 => if k = true then (yE (fun ρ S => ((zF (ρ[2]?) S).bind fun p1751 S1752 => if dC p1751 S1752 = true then ((zF (ρ[7]?) S1752).bind fun p1755 S1756 => (R.ok [] S1756).bind fun l1757 S1758 => .ok (p1755 :: l1757) S1758).bind fun r1753 S1754 => zNP p1751 r1753 S1754 else .no).bind fun _ S1 => .ok (.next ρ) S1) ((fun ρ S => ((zF (ρ[3]?) S).bind fun p1759 S1760 => if dC p1759 S1760 = true then (((R.ok [] S1760).bind zGT).bind fun p1763 S1764 => (R.ok [] S1764).bind fun l1765 S1766 => .ok (p1763 :: l1765) S1766).bind fun r1761 S1762 => zNP p1759 r1761 S1762 else .no).bind fun _ S1 => .ok (.next ρ) S1))) ρ S1 else (fun ρ S => .ok (.next ρ) S) ρ S1)
noncomputable def hZ : Rho → Sto → R Fl := (fun ρ S => (((zF (ρ[3]?) S).bind fun p1767 S1768 => ((zF (ρ[2]?) S1768).bind fun p1771 S1772 => if dC p1771 S1772 = true then ((zF (ρ[7]?) S1772).bind fun p1775 S1776 => (R.ok [] S1776).bind fun l1777 S1778 => .ok (p1775 :: l1777) S1778).bind fun r1773 S1774 => zSS p1771 r1773 S1774 else .no).bind fun q1769 S1770 => ixF p1767 q1769 S1770).bind fun p1779 S1780 => if dC p1779 S1780 = true then ((zF (ρ[4]?) S1780).bind fun p1783 S1784 => (R.ok [] S1784).bind fun l1785 S1786 => .ok (p1783 :: l1785) S1786).bind fun r1781 S1782 => zNP p1779 r1781 S1782 else .no).bind fun _ S1 => .ok (.next ρ) S1)
noncomputable def wU : Rho → Sto → R Fl := yE (hW) (yE (hX) (yE (wF) ((hZ))))
def cE : AF := (fun ρ S => ((R.ok [] S).bind zGT).bind (xZ ρ 2))
def cF : AF := (fun ρ S => ((R.ok [] S).bind zGT).bind (xZ ρ 3))
def cG : AF := (fun ρ S => (((((zF (ρ[1]?) S).bind fun a b => (R.ok [] b).bind fun c d => .ok (a :: c) d).bind kB).bind fun e g => (R.ok [] g).bind fun h i => .ok (e :: h) i).bind zKU).bind fun k j => gK (gNm 4) (wU) k.gs k.ds ρ j)
def cH : AF := (fun ρ S => (zF (ρ[3]?) S).bind fun r a => .ok (.ret r) a)
def zAX : AF := yE (cE) (yE (cF) (yE (cG) ((cH))))
def xO (ds : List MV) (S : Sto) : R Er := yX (zAX (yA ["_law_tables_here", "_law_rows_here", "_law_keys", "_law_found", "_law_place", "_law_t", "_law_cells", "_law_own"] ds) S)
def zDD : AF := (fun ρ S => (((R.ok (.val (.str [105,115])) S).bind fun a b => (((zF (ρ[0]?) b).bind fun c d => (R.ok (.val (.int 7)) d).bind fun e g => gP c e g).bind fun h i => (R.ok [] i).bind fun j l => .ok (h :: j) l).bind fun m n => .ok (a :: m) n).bind nS).bind (xZ ρ 2))
def zDE : AF := (fun ρ S => (((R.ok (.val (.str [110,101,118,101,114])) S).bind fun a b => ((((zF (ρ[0]?) b).bind fun c d => (R.ok (.val (.int 7)) d).bind fun e g => zCM c e g).bind fun h i => (((zF (ρ[1]?) i).bind fun j l => (R.ok [] l).bind fun m n => .ok (j :: m) n).bind kB).bind fun o p => gP h o p).bind fun q s => ((((((zF (ρ[2]?) s).bind fun t u => ((R.ok (.val (.str [115,97,109,101])) u).bind fun v w => ((((R.ok (.val (.str [105,115])) w).bind fun x y => (((((zF (ρ[0]?) y).bind fun z A => (R.ok (.val (.int 7)) A).bind fun B D => gP z B D).bind fun G I => (R.ok (.val (.int 1)) I).bind fun J L => bP G J L).bind fun M N => (((zF (ρ[0]?) N).bind fun O P => (R.ok (.val (.int 28)) P).bind fun Q T => zCM O Q T).bind fun U V => (R.ok (.val (.int 5)) V).bind fun X Y => gP U X Y).bind fun Z a0 => bP M Z a0).bind fun a1 a2 => (R.ok [] a2).bind fun a3 a4 => .ok (a1 :: a3) a4).bind fun a5 a6 => .ok (x :: a5) a6).bind nS).bind fun a7 a8 => (R.ok [] a8).bind fun a9 b0 => .ok (a7 :: a9) b0).bind fun b1 b2 => .ok (v :: b1) b2).bind fun b3 b4 => .ok (t :: b3) b4).bind nS).bind fun b5 b6 => (R.ok [] b6).bind fun b7 b8 => .ok (b5 :: b7) b8).bind nS).bind fun b9 c0 => (R.ok [] c0).bind fun c1 c2 => .ok (b9 :: c1) c2).bind fun c3 c4 => .ok (q :: c3) c4).bind fun c5 c6 => .ok (a :: c5) c6).bind nS).bind fun r c7 => .ok (.ret r) c7)
def zHQ : AF := yE (zDD) ((zDE))
def gF (ds : List MV) (S : Sto) : R Er := yX (zHQ (yA ["_law_cell", "_law_tables_here", "_law_left"] ds) S)
noncomputable def zSV : Rho → Sto → R Fl := (fun ρ S => ((zF (ρ[8]?) S).bind fun p2019 S2020 => if dC p2019 S2020 = true then ((R.ok (.val (.int 0)) S2020).bind fun p2023 S2024 => (R.ok [] S2024).bind fun l2025 S2026 => .ok (p2023 :: l2025) S2026).bind fun r2021 S2022 => zNP p2019 r2021 S2022 else .no).bind fun _ S1 => .ok (.next ρ) S1)
noncomputable def zOD : Rho → Sto → R Fl := (zSV)
def zSW : Rho → Sto → R Bool := fun ρ S => (R.ok true S)
def zMT : AE := fun ρ S => (((((zF (ρ[2]?) S).bind fun a b => (R.ok (.val (.int 6)) b).bind fun c d => zCM a c d).bind fun e g => (zF (ρ[0]?) g).bind fun h i => bP e h i).bind fun j l => ((zF (ρ[1]?) l).bind fun m n => (R.ok [] n).bind fun o p => .ok (m :: o) p).bind fun q s => .ok (j :: q) s).bind fun t u => zJ 2 gF t u)
def zUM : AF := (fun ρ S => (((((zF (ρ[0]?) S).bind fun a b => ((R.ok (.val (.int 0)) b).bind fun c d => (R.ok [] d).bind fun e g => .ok (c :: e) g).bind fun h i => .ok (a :: h) i).bind fun j l => zJ 2 yU j l).bind fun m n => (R.ok [] n).bind fun o p => .ok (m :: o) p).bind fun q s => zJ 1 gD q s).bind (xZ ρ 1))
def zUN : AF := (fun ρ S => (((((zF (ρ[0]?) S).bind fun a b => ((R.ok (.val (.int 1)) b).bind fun c d => (R.ok [] d).bind fun e g => .ok (c :: e) g).bind fun h i => .ok (a :: h) i).bind fun j l => zJ 2 yU j l).bind fun m n => ((R.ok (.val (.int 4)) n).bind fun o p => (R.ok [] p).bind fun q s => .ok (o :: q) s).bind fun t u => .ok (m :: t) u).bind fun v w => zJ 2 kN v w).bind (xZ ρ 2))
def zUO : AF := (fun ρ S => (((zF (ρ[0]?) S).bind fun a b => ((R.ok (.val (.int 2)) b).bind fun c d => (R.ok [] d).bind fun e g => .ok (c :: e) g).bind fun h i => .ok (a :: h) i).bind fun j l => zJ 2 yU j l).bind (xZ ρ 3))
def zUP : AF := (fun ρ S => ((((zF (ρ[0]?) S).bind fun a b => ((R.ok (.val (.int 3)) b).bind asI).bind fun c d => ((R.ok (.val (.int 63)) d).bind asI).bind fun e g => zKY a c e g).bind fun h i => ((zF (ρ[2]?) i).bind fun j l => ((zF (ρ[1]?) l).bind fun m n => (((R.ok (.val (.int 2)) n).bind fun o p => ((zF (ρ[3]?) p).bind fun q s => (R.ok (.val (.int 6)) s).bind fun t u => gP q t u).bind fun v w => bP o v w).bind fun x y => (R.ok [] y).bind fun z A => .ok (x :: z) A).bind fun B D => .ok (m :: B) D).bind fun G I => .ok (j :: G) I).bind fun J L => .ok (h :: J) L).bind fun M N => zJ 4 gE M N).bind (xZ ρ 4))
def zUQ : AF := (fun ρ S => (((zF (ρ[2]?) S).bind fun a b => (((R.ok [] b).bind nS).bind fun c d => ((zF (ρ[4]?) d).bind fun e g => (R.ok [] g).bind fun h i => .ok (e :: h) i).bind fun j l => .ok (c :: j) l).bind fun m n => .ok (a :: m) n).bind fun o p => zJ 3 bZ o p).bind (xZ ρ 5))
def zUR : AF := (fun ρ S => (((zF (ρ[2]?) S).bind fun a b => ((zF (ρ[4]?) b).bind fun c d => (R.ok [] d).bind fun e g => .ok (c :: e) g).bind fun h i => .ok (a :: h) i).bind fun j l => zJ 2 xO j l).bind (xZ ρ 6))
def zUS : AF := (fun ρ S => ((((((zF (ρ[5]?) S).bind fun a b => (R.ok [] b).bind fun c d => .ok (a :: c) d).bind fun e g => zJ 1 kD e g).bind fun h i => (R.ok (.val (.bl true)) i).bind fun j l => zWT true h j l).bind asB).bind fun m n => if m = true then .ok true n else (((zF (ρ[5]?) n).bind fun o p => (((zF (ρ[2]?) p).bind fun q s => (((R.ok [] s).bind nS).bind fun t u => ((zF (ρ[4]?) u).bind fun v w => (R.ok [] w).bind fun x y => .ok (v :: x) y).bind fun z A => .ok (t :: z) A).bind fun B D => .ok (q :: B) D).bind nS).bind fun G I => neF o G I).bind asB)).bind fun k J => if k = true then ((fun ρ S => (R.ok (.val (.bl false)) S).bind fun r J => .ok (.ret r) J)) ρ J else (fun ρ S => .ok (.next ρ) S) ρ J)
def zUT : AF := (fun ρ S => (((zF (ρ[5]?) S).bind fun a b => (R.ok [] b).bind fun c d => .ok (a :: c) d).bind fun e g => zJ 1 f_blocks e g).bind (xZ ρ 7))
def zUU : AF := (fun ρ S => (((((zF (ρ[7]?) S).bind fun a b => ((zF (ρ[6]?) b).bind fun c d => (R.ok [] d).bind fun e g => .ok (c :: e) g).bind fun h i => .ok (a :: h) i).bind fun j l => zJ 2 (zK 8) j l).bind gM).bind fun m n => .ok (!m) n).bind fun k o => if k = true then ((fun ρ S => (R.ok (.val (.bl false)) S).bind fun r o => .ok (.ret r) o)) ρ o else (fun ρ S => .ok (.next ρ) S) ρ o)
def zPP : AF := (fun ρ S => ((zF (ρ[7]?) S).bind fun a b => if dC a b = true then revF a [] b else .no).bind fun _ c => .ok (.next ρ) c)
def zPQ : AF := (fun ρ S => ((zF (ρ[7]?) S).bind itL).bind fun k a => gK (gNm 8) (zOD) k.gs k.ds ρ a)
def zPR : AF := (fun ρ S => ((((((((zF (ρ[5]?) S).bind fun a b => (R.ok [] b).bind fun c d => .ok (a :: c) d).bind fun e g => zJ 1 f_blocks e g).bind fun h i => ((zF (ρ[6]?) i).bind fun j l => (R.ok [] l).bind fun m n => .ok (j :: m) n).bind fun o p => .ok (h :: o) p).bind fun q s => zJ 2 (zK 8) q s).bind gM).bind fun t u => .ok (!t) u).bind fun v w => if v = true then .ok true w else (((zF (ρ[5]?) w).bind fun x y => (((zF (ρ[2]?) y).bind fun z A => (((R.ok [] A).bind nS).bind fun B D => ((zF (ρ[4]?) D).bind fun G I => (R.ok [] I).bind fun J L => .ok (G :: J) L).bind fun M N => .ok (B :: M) N).bind fun O P => .ok (z :: O) P).bind nS).bind fun Q T => neF x Q T).bind asB)).bind fun k U => if k = true then ((fun ρ S => (R.ok (.val (.bl false)) S).bind fun r U => .ok (.ret r) U)) ρ U else (fun ρ S => .ok (.next ρ) S) ρ U)
def zPS : AF := (fun ρ S => (((((((R.ok (.val (.int 1)) S).bind fun a b => (((zF (ρ[3]?) b).bind fun c d => (R.ok (.val (.int 6)) d).bind fun e g => zCM c e g).bind fun h i => (R.ok (.val (.int 6)) i).bind fun j l => gP h j l).bind fun m n => bP a m n).bind fun o p => (R.ok [] p).bind fun q s => .ok (o :: q) s).bind zKU).bind fun t u => if t.ds.length < 1000000 then (wN (gNm 0) (zSW) (zMT) (blk 1 [2,3] ρ) t.gs t.ds u).bind fun v w => .ok (.new v) w else .no).bind fun x y => (R.ok [] y).bind fun z A => .ok (x :: z) A).bind dS).bind (xZ ρ 9))
def zPT : AF := (fun ρ S => ((((((zF (ρ[2]?) S).bind fun a b => ((zF (ρ[9]?) b).bind fun c d => ((zF (ρ[4]?) d).bind fun e g => (R.ok [] g).bind fun h i => .ok (e :: h) i).bind fun j l => .ok (c :: j) l).bind fun m n => .ok (a :: m) n).bind fun o p => zJ 3 bZ o p).bind fun q s => (R.ok [] s).bind fun t u => .ok (q :: t) u).bind fun v w => zJ 1 kD v w).bind fun x y => (R.ok (.val (.bl false)) y).bind fun z A => zWT false x z A).bind fun r B => .ok (.ret r) B)
def yHV : AF := yE (zUM) (yE (zUN) (yE (zUO) (yE (zUP) (yE (zUQ) (yE (zUR) (yE (zUS) (yE (zUT) (yE (zUU) (yE (zPP) (yE (zPQ) (yE (zPR) (yE (zPS) ((zPT))))))))))))))
def zSX (ds : List MV) (S : Sto) : R Er := yX (yHV (yA ["_law_script", "_law_pool_here", "_law_tables_here", "_law_head", "_law_rows_here", "_law_book", "_law_due", "_law_told", "_law_some", "_law_rules"] ds) S)
end
def abc : List Nat := [97,98,99,100,101,102,103,104,105,106,107,108,109,110,111,112,113,114,115,116,117,118,119,120,121,122]
theorem yEN (c n : Int) (x : List Nat) (s : Option MV) (S : Sto) (h : x.length ≤ 1000) : ∃ k, (97 ≤ k ∧ k ≤ 122) ∧ dA [some (.int c), some (.str abc), some (.int n), some (.str x), s] S =
  .ok (.next [some (.int c), some (.str abc), some (.int (n / 26)), some (.str (x ++ [k])), s]) S := by
 obtain ⟨k, hk⟩ := zLC (xs := abc) (i := n % 26) (Int.emod_nonneg _ (by decide)) (by have := Int.emod_lt_of_pos n (show (0 : Int) < 26 by decide); show n % 26 < 26; exact this)
 refine ⟨k, zLD (P := fun k => 97 ≤ k ∧ k ≤ 122) (by decide) hk, ?_⟩
 have h1 : dY [some (.int c), some (.str abc), some (.int n), some (.str x), s] S = .ok (.next [some (.int c), some (.str abc), some (.int n), some (.str (x ++ [k])), s]) S := by
  unfold dY
  simp? [mod_lit (show (0 : Int) < 26 by decide), ix_str (show abc.length ≤ sizeLine by rw [sizeLine_eq]; decide) hk]
  rw [add_str (fits (by rw [List.length_singleton]; omega))]
  rfl
 have h2 : dZ [some (.int c), some (.str abc), some (.int n), some (.str (x ++ [k])), s] S = .ok (.next [some (.int c), some (.str abc), some (.int (n / 26)), some (.str (x ++ [k])), s]) S := by
  unfold dZ
  simp? [wQ (show (0 : Int) < 26 by decide) (show (26 : Int) < 1073741824 by decide)]
 unfold dA
 rw [zD h1, h2]
theorem zSY (c : Int) (S : Sto) : ∀ (ds : List MV) (n : Int) (x : List Nat) (s : Option MV), x.length + ds.length ≤ 1000 → (∀ c ∈ x, 97 ≤ c ∧ c ≤ 122) → ∃ n' x' s', gK (gNm 4) dA [] ds [some (.int c), some (.str abc), some (.int n), some (.str x), s] S =
  .ok (.next [some (.int c), some (.str abc), some (.int n'), some (.str x'), s']) S ∧ x'.length = x.length + ds.length ∧ ∀ c ∈ x', 97 ≤ c ∧ c ≤ 122
 | [], n, x, s, _, hx => ⟨n, x, s, rfl, rfl, hx⟩
 | d :: ds, n, x, s, h, hx => by
  rw [List.length_cons] at h
  obtain ⟨k, hl, hk⟩ := yEN c n x (some d) S (by omega)
  obtain ⟨n', x', s', h1, h2, h3⟩ := zSY c S ds (n / 26) (x ++ [k]) (some d) (by rw [zQ4, List.length_singleton]; omega) (by
   intro c hc
   rw [List.mem_append, List.mem_singleton] at hc
   rcases hc with hc | rfl
   ·exact hx c hc
   ·exact hl)
  refine ⟨n', x', s', ?_, by rw [h2, zQ4, List.length_singleton, List.length_cons]; omega, h3⟩
  rw [dD rfl hk (gB S)]
  exact h1
theorem yLK (c : Int) (S : Sto) : ∃ x, gC [.int c] S = .ok (.val (.str x)) S ∧ Nm x := by
 have hm0 : 0 ≤ c % 8 := Int.emod_nonneg _ (by decide)
 have hm1 : c % 8 < 8 := Int.emod_lt_of_pos _ (by decide)
 have hn : ((List.range (1 + c % 8).toNat).map fun k => MV.int (k : Nat)).length = (1 + c % 8).toNat := by rw [List.length_map, List.length_range]
 obtain ⟨n', x', s', h1, h2, h3⟩ := zSY c S ((List.range (1 + c % 8).toNat).map fun k => MV.int (k : Nat)) (c / 8) [] none (by rw [hn]; simp only [List.length_nil]; omega) (by simp)
 rw [hn, List.length_nil] at h2
 refine ⟨x', ?_, by omega, by omega, h3⟩
 have e1 : zJD [some (.int c), none, none, none, none] S = .ok (.next [some (.int c), some (.str abc), none, none, none]) S := rfl
 have e2 : zCP [some (.int c), some (.str abc), none, none, none] S = .ok (.next [some (.int c), some (.str abc), some (.int (c / 8)), none, none]) S := by
  unfold zCP
  simp? [wQ (show (0 : Int) < 8 by decide) (show (8 : Int) < 1073741824 by decide)]
 have e3 : zJE [some (.int c), some (.str abc), some (.int (c / 8)), none, none] S = .ok (.next [some (.int c), some (.str abc), some (.int (c / 8)), some (.str []), none]) S := rfl
 have e4 : zCQ [some (.int c), some (.str abc), some (.int (c / 8)), some (.str []), none] S = .ok (.next [some (.int c), some (.str abc), some (.int n'), some (.str x'), s']) S := by
  unfold zCQ
  simp? [mod_lit (show (0 : Int) < 8 by decide)]
  rw [zPH (by omega), bok]
  exact h1
 have hs : yA ["_law_cell", "_law_letters", "_law_number", "_law_name_here", "_law_k"] [.int c] = [some (.int c), none, none, none, none] := rfl
 unfold gC zHN
 rw [hs, zD e1, zD e2, zD e3, zD e4]
 rfl
theorem p1060 (S : Sto) : zJP (.val (.int 10)) (.val (.int 60)) S = .ok (.val (.int (10 ^ 60))) S := rfl
theorem p600 (S : Sto) : zJP (.val (.int (10 ^ 60))) (.val (.int 10)) S = .ok (.val (.int ((10 ^ 60) ^ 10))) S := by
 show (if yDY (10 ^ 60) 10 then R.ok (Er.val (.int ((10 ^ 60) ^ (10 : Int).toNat))) S else .no) = _
 rw [if_pos (by decide +kernel)]
 rfl
theorem pp30 (S : Sto) : zJP (.val (.int 10)) (.val (.int 30)) S = .ok (.val (.int (10 ^ 30))) S := rfl
theorem pp268 (S : Sto) : zJP (.val (.int 26)) (.val (.int 8)) S = .ok (.val (.int 208827064576)) S := rfl
theorem yCR {b : Int} (h : zZO 0 b) (a : Int) (S : Sto) : zCM (.val (.int a)) (.val (.int b)) S = .ok (.val (.int (a / b))) S := if_pos (show zZO a b from h)
theorem yPK {a : Int} (h : 0 ≤ a ∧ a < 4294967296) (S : Sto) : zRE (.val (.int a)) (.val (.int a)) S = .ok (.val (.int (a * a))) S :=
 zOA ⟨Int.lt_of_lt_of_le (by decide) h.1, Int.lt_trans h.2 (by decide)⟩ a S
theorem yAD (c p : Int) (hp : 0 < p ∧ p < 4294967296) (S : Sto) : ∃ n, zJ 2 xW [.val (.int c), .val (.int p)] S = .ok (.val (.int n)) S := by
 have hs : yA ["_law_cell", "_law_prime", "_law_number"] [.int c, .int p] = [some (.int c), some (.int p), none] := rfl
 have h600 : (0 : Int) < (10 ^ 60) ^ 10 := Int.pow_pos (Int.pow_pos (by decide))
 have e1 : zEY [some (.int c), some (.int p), none] S = if decide (c % 2 = 0) = true then .ok (.ret (.val (.int (c / 2 % (10 ^ 60) ^ 10)))) S else .ok (.next [some (.int c), some (.int p), none]) S := by
  unfold zEY
  simp? [mod_lit (show (0 : Int) < 2 by decide), wQ (show (0 : Int) < 2 by decide) (show (2 : Int) < 1073741824 by decide), p1060, p600, mod_lit h600]
 have fin : ∀ n, xW [.int c, .int p] S = .ok (.val (.int n)) S → ∃ n, zJ 2 xW [.val (.int c), .val (.int p)] S = .ok (.val (.int n)) S := fun n h => ⟨n, bQ rfl h (gR _ _) (fun l => by simp)⟩
 cases hb : decide (c % 2 = 0) with
 | true =>
  refine fin (c / 2 % (10 ^ 60) ^ 10) ?_
  rw [hb, if_pos rfl] at e1
  unfold xW zFB
  rw [hs, zCB e1]
  rfl
 | false =>
  rw [hb, if_neg zQ3] at e1
  have hn0 : 0 ≤ (c % 2147483629 + 7) * 48271 % p := Int.emod_nonneg _ (by omega)
  have hn1 : (c % 2147483629 + 7) * 48271 % p < p := Int.emod_lt_of_pos _ hp.1
  have e2 : zEZ [some (.int c), some (.int p), none] S = .ok (.next [some (.int c), some (.int p), some (.int ((c % 2147483629 + 7) * 48271 % p))]) S := by
   unfold zEZ
   simp? [mod_lit (show (0 : Int) < 2147483629 by decide), zOA (show -(2 ^ 64) < (48271 : Int) ∧ (48271 : Int) < 2 ^ 64 by decide), mod_lit hp.1]
  generalize (c % 2147483629 + 7) * 48271 % p = m at hn0 hn1 e2
  have e3 : zFA [some (.int c), some (.int p), some (.int m)] S = .ok (.ret (.val (.int (m * m % 2147483579 * 1000003 + m)))) S := by
   unfold zFA
   simp? [yPK (a := m) ⟨hn0, by omega⟩, mod_lit (show (0 : Int) < 2147483579 by decide), zOA (show -(2 ^ 64) < (1000003 : Int) ∧ (1000003 : Int) < 2 ^ 64 by decide)]
  refine fin (m * m % 2147483579 * 1000003 + m) ?_
  unfold xW zFB
  rw [hs, zD e1, zD e2, e3]
  rfl
theorem yLL : ∀ k, k < 26 → strIdx abc [97 + k] = some k := by decide +kernel
abbrev P8 (c n : Int) (a b x4 x5 x6 x7 : Option MV) : Rho := [some (.int c), some (.int n), a, b, x4, x5, x6, x7]
section
variable {c n : Int} {a b x4 x5 x6 x7 : Option MV} {S : Sto} {x : List Nat} {at' tn : Int}
theorem po4 : zCT (P8 c n a b x4 x5 x6 x7) S = .ok (.next (P8 c (n / 1670616516608) a b x4 x5 x6 x7)) S := by
 unfold zCT
 simp? [pp268, yHN (show -(2 ^ 64) < (8 : Int) ∧ (8 : Int) < 2 ^ 64 by decide), yCR (show zZO 0 (8 * 208827064576) by decide +kernel)]
 rfl
theorem po5 (hx : Nm x) : zCU (P8 c n a (some (.str x)) x4 x5 x6 x7) S = .ok (.next (P8 c n a (some (.str x)) (some (.int (n % x.length))) x5 x6 x7)) S := by
 have hl : kB [.val (.str x)] S = .ok (.val (.int x.length)) S := if_pos (fits (by have := hx.2.1; omega))
 have hp : (0 : Int) < (x.length : Int) := by have := hx.1; omega
 unfold zCU
 simp? [hl, mod_lit hp]
theorem po6 (hx : Nm x) (h0 : 0 ≤ at') (h1 : at' < x.length) : ∃ tn, zCV (P8 c n (some (.str abc)) (some (.str x)) (some (.int at')) x5 x6 x7) S = .ok (.next (P8 c n (some (.str abc)) (some (.str x)) (some (.int at')) (some (.int tn)) x6 x7)) S := by
 obtain ⟨k, hk⟩ := zLC (xs := x) h0 h1
 obtain ⟨k0, k1⟩ := zLD (P := fun c => 97 ≤ c ∧ c ≤ 122) hx.2.2 hk
 have hi := yLL (k - 97) (by omega)
 rw [show 97 + (k - 97) = k by omega] at hi
 have hsi : zWK (.val (.str abc)) [.val (.str [k])] S = .ok (.val (.int ((k - 97 : Nat) : Int))) S := by
  show (match strIdx abc [k] with | some i => R.ok (Er.val (.int (i : Nat))) S | none => .no) = _
  rw [hi]
 refine ⟨((k - 97 : Nat) : Int) + 1 + n / 8 % 25, ?_⟩
 unfold zCV
 simp? [ix_str (S := S) (fits (show x.length ≤ 1000000 by have := hx.2.1; omega)) hk, show zPG (.val (.str abc)) S = true from rfl, hsi, wQ (show (0 : Int) < 8 by decide) (show (8 : Int) < 1073741824 by decide), mod_lit (show (0 : Int) < 25 by decide)]
theorem po7 (hx : Nm x) (h0 : 0 ≤ at') (h1 : at' < x.length) : ∃ y, Nm y ∧ zCW (P8 c n (some (.str abc)) (some (.str x)) (some (.int at')) (some (.int tn)) x6 x7) S = .ok (.next (P8 c n (some (.str abc)) (some (.str x)) (some (.int at')) (some (.int tn)) (some (.str y)) x7)) S := by
 obtain ⟨k, hk⟩ := zLC (xs := abc) (i := tn % 26) (Int.emod_nonneg _ (by decide)) (by have := Int.emod_lt_of_pos tn (show (0 : Int) < 26 by decide); show tn % 26 < 26; exact this)
 have hkl := zLD (P := fun k => 97 ≤ k ∧ k ≤ 122) (by decide) hk
 have c1 : bK x none (some at') = x.take at'.toNat := zUG _ _ h0
 have c2 : bK x (some (at' + 1)) none = x.drop (at'.toNat + 1) := by
  unfold bK
  have z1 : HT.sIx x.length 0 (some (at' + 1)) = at'.toNat + 1 := by
   unfold HT.sIx
   simp only
   split <;> omega
  have z2 : HT.sIx x.length x.length none = x.length := rfl
  rw [z1, z2]
  rw [List.take_of_length_le (by rw [List.length_drop]; omega)]
 have hlen := hx.2.1
 refine ⟨x.take at'.toNat ++ [k] ++ x.drop (at'.toNat + 1), ⟨?_, ?_, ?_⟩, ?_⟩
 ·simp only [zQ4, List.length_singleton]; omega
 ·simp only [zQ4, List.length_singleton, List.length_take, List.length_drop]; omega
 ·intro z hz
  rw [List.mem_append, List.mem_append, List.mem_singleton] at hz
  rcases hz with (hz | rfl) | hz
  ·exact hx.2.2 z (List.mem_of_mem_take hz)
  ·exact hkl
  ·exact hx.2.2 z (List.mem_of_mem_drop hz)
 ·unfold zCW
  simp? [cut_str (S := S) (fits (show x.length ≤ 1000000 by omega)), c1, mod_lit (show (0 : Int) < 26 by decide), ix_str (show abc.length ≤ sizeLine by rw [sizeLine_eq]; decide) hk, c2]
  rw [add_str (x := x.take at'.toNat) (y := [k]) (fits (by rw [List.length_singleton, List.length_take]; omega)), bok]
  simp? [cut_str (S := S) (fits (show x.length ≤ 1000000 by omega)), c2]
  rw [add_str (fits (by simp only [zQ4, List.length_singleton, List.length_take, List.length_drop]; omega)), bok]
  rfl
theorem po8 : zCX (P8 c n a b x4 x5 x6 x7) S = .ok (.next (P8 c (n / 200) a b x4 x5 x6 x7)) S := by
 unfold zCX
 simp? [wQ (show (0 : Int) < 200 by decide) (show (200 : Int) < 1073741824 by decide)]
theorem po9 : ∃ g, (1 ≤ g ∧ g ≤ 10 ^ 30 - 3) ∧ zCY (P8 c n a b x4 x5 x6 x7) S = .ok (.next (P8 c n a b x4 x5 x6 (some (.int g)))) S := by
 have h0 : 0 ≤ n % 10 ^ 30 := Int.emod_nonneg _ (by decide)
 have h1 : n % 10 ^ 30 < 10 ^ 30 := Int.emod_lt_of_pos _ (by decide)
 have h2 : 0 ≤ (n % 10 ^ 30 * 48271 + 11) ^ (4 : Int).toNat % (10 ^ 30 - 3) := Int.emod_nonneg _ (by decide)
 have h3 : (n % 10 ^ 30 * 48271 + 11) ^ (4 : Int).toNat % (10 ^ 30 - 3) < 10 ^ 30 - 3 := Int.emod_lt_of_pos _ (by decide)
 have h4 : yDY (n % 10 ^ 30 * 48271 + 11) 4 := by
  refine ⟨by decide, ?_⟩
  have hb : Builtin.Int.intBits (n % 10 ^ 30 * 48271 + 11) ≤ 200 := by
   unfold Builtin.Int.intBits
   split
   ·omega
   ·rename_i hn
    have hn' : (n % 10 ^ 30 * 48271 + 11).natAbs ≠ 0 := by omega
    have := (Nat.log2_lt hn').mpr (show (n % 10 ^ 30 * 48271 + 11).natAbs < 2 ^ 199 by omega)
    omega
  omega
 refine ⟨(n % 10 ^ 30 * 48271 + 11) ^ (4 : Int).toNat % (10 ^ 30 - 3) + 1, ⟨by omega, by omega⟩, ?_⟩
 unfold zCY
 simp? [pp30, mod_lit (show (0 : Int) < 10 ^ 30 by decide), zOA (show -(2 ^ 64) < (48271 : Int) ∧ (48271 : Int) < 2 ^ 64 by decide), yKY h4, mod_lit (show (0 : Int) < 10 ^ 30 - 3 by decide)]
theorem po10 {g : Int} (hg : 1 ≤ g ∧ g ≤ 10 ^ 30 - 3) : ∃ g', (1 ≤ g' ∧ g' ≤ 10 ^ 30 - 3) ∧ bA (P8 c n a b x4 x5 x6 (some (.int g))) S = .ok (.next (P8 c n a b x4 x5 x6 (some (.int g')))) S := by
 have h2 : 0 ≤ n / 2 % (10 ^ 30 - 3) := Int.emod_nonneg _ (by decide)
 have h3 : n / 2 % (10 ^ 30 - 3) < 10 ^ 30 - 3 := Int.emod_lt_of_pos _ (by decide)
 have e : bA (P8 c n a b x4 x5 x6 (some (.int g))) S = if decide (n % 2 = 1) = true then .ok (.next (P8 c n a b x4 x5 x6 (some (.int (n / 2 % (10 ^ 30 - 3) + 1))))) S else .ok (.next (P8 c n a b x4 x5 x6 (some (.int g)))) S := by
  unfold bA
  simp? [mod_lit (show (0 : Int) < 2 by decide), wQ (show (0 : Int) < 2 by decide) (show (2 : Int) < 1073741824 by decide), pp30, mod_lit (show (0 : Int) < 10 ^ 30 - 3 by decide)]
 cases hb : decide (n % 2 = 1) with
 | true => exact ⟨n / 2 % (10 ^ 30 - 3) + 1, ⟨by omega, by omega⟩, by rw [e, hb, if_pos rfl]⟩
 | false => exact ⟨g, hg, by rw [e, hb, if_neg zQ3]⟩
theorem lst7 (a b c d e f g : MV) (S : Sto) : zGT [.val a, .val b, .val c, .val d, .val e, .val f, .val g] S = .ok (.new [a, b, c, d, e, f, g]) S := zMR (by simp)
theorem po11 {g : Int} {y : List Nat} (hg : 1 ≤ g ∧ g ≤ 10 ^ 30 - 3) (hx : Nm x) (hy : Nm y) : ∃ vs, vs.length = 7 ∧ (∀ d ∈ vs, Vl d) ∧ zAT (P8 c n a (some (.str x)) x4 x5 (some (.str y)) (some (.int g))) S = .ok (.ret (.new vs)) S := by
 have h0 : 0 ≤ n / 64 % 5 := Int.emod_nonneg _ (by decide)
 have h1 : n / 64 % 5 < 5 := Int.emod_lt_of_pos _ (by decide)
 have h2 : 0 ≤ n / 320 % 5 := Int.emod_nonneg _ (by decide)
 have h3 : n / 320 % 5 < 5 := Int.emod_lt_of_pos _ (by decide)
 refine ⟨[.int (n / 64 % 5), .int g, .str x, .int (0 - g), .str y, .int (n / 320 % 5 + 7), .int (g + 1)], rfl, ?_, ?_⟩
 ·intro d hd
  simp only [List.mem_cons, List.not_mem_nil, or_false] at hd
  rcases hd with rfl | rfl | rfl | rfl | rfl | rfl | rfl
  ·exact ⟨by omega, by omega⟩
  ·exact ⟨by omega, by omega⟩
  ·exact hx
  ·exact ⟨by omega, by omega⟩
  ·exact hy
  ·exact ⟨by omega, by omega⟩
  ·exact ⟨by omega, by omega⟩
 ·unfold zAT
  simp? [wQ (show (0 : Int) < 64 by decide) (show (64 : Int) < 1073741824 by decide), mod_lit (show (0 : Int) < 5 by decide), wQ (show (0 : Int) < 320 by decide) (show (320 : Int) < 1073741824 by decide), lst7]
end
theorem yLM (c : Int) (S : Sto) : ∃ vs, vs.length = 7 ∧ (∀ d ∈ vs, Vl d) ∧ zJ 1 gD [.val (.int c)] S = .ok (.new vs) S := by
 obtain ⟨n, hn⟩ := yAD c 2147483587 ⟨by decide, by decide⟩ S
 obtain ⟨x, hx, nx⟩ := yLK n S
 have hc : zJ 1 gC [.val (.int n)] S = .ok (.val (.str x)) S := bQ rfl hx (zGX _ x) (fun l => by simp)
 have hs : yA ["_law_cell", "_law_number", "_law_letters", "_law_name_here", "_law_at", "_law_turned", "_law_other", "_law_great"] [.int c] = [some (.int c), none, none, none, none, none, none, none] := rfl
 have e1 : zCR [some (.int c), none, none, none, none, none, none, none] S = .ok (.next (P8 c n none none none none none none)) S := by
  unfold zCR
  simp? [hn]
 have e2 : zJF (P8 c n none none none none none none) S = .ok (.next (P8 c n (some (.str abc)) none none none none none)) S := rfl
 have e3 : zCS (P8 c n (some (.str abc)) none none none none none) S = .ok (.next (P8 c n (some (.str abc)) (some (.str x)) none none none none)) S := by
  unfold zCS
  simp? [hc]
 have hp : 0 < x.length := by have := nx.1; omega
 have hm0 : 0 ≤ n / 1670616516608 % (x.length : Int) := Int.emod_nonneg _ (by omega)
 have hm1 : n / 1670616516608 % (x.length : Int) < x.length := Int.emod_lt_of_pos _ (by omega)
 obtain ⟨tn, e6⟩ := po6 (c := c) (n := n / 1670616516608) (x5 := none) (x6 := none) (x7 := none) (S := S) nx hm0 hm1
 obtain ⟨y, ny, e7⟩ := po7 (c := c) (n := n / 1670616516608) (tn := tn) (x6 := none) (x7 := none) (S := S) nx hm0 hm1
 obtain ⟨g, hg, e9⟩ := po9 (c := c) (n := n / 1670616516608 / 200) (a := some (.str abc)) (b := some (.str x)) (x4 := some (.int (n / 1670616516608 % (x.length : Int)))) (x5 := some (.int tn)) (x6 := some (.str y)) (x7 := none) (S := S)
 obtain ⟨g', hg', e10⟩ := po10 (c := c) (n := n / 1670616516608 / 200) (a := some (.str abc)) (b := some (.str x)) (x4 := some (.int (n / 1670616516608 % (x.length : Int)))) (x5 := some (.int tn)) (x6 := some (.str y)) (S := S) hg
 obtain ⟨vs, hl, hv, e11⟩ := po11 (c := c) (n := n / 1670616516608 / 200) (a := some (.str abc)) (x4 := some (.int (n / 1670616516608 % (x.length : Int)))) (x5 := some (.int tn)) (S := S) hg' nx ny
 refine ⟨vs, hl, hv, yHL (T := []) rfl ?_ (xN fun d hd => (hv d hd).lo _)⟩
 rw [List.append_nil]
 show gD [.int c] S = _
 unfold gD zHO
 rw [hs, zD e1, zD e2, zD e3, zD po4, zD (po5 nx), zD e6, zD e7, zD po8, zD e9, zD e10, e11]
 rfl
theorem zCF {S : Sto} {l : Nat} {ds : List MV} {d : MV} (hS : S[l]? = some (.lst ds)) (hz : ds.length < 1000000) : zNP (.val (.loc l)) [.val d] S = .ok (.val .non) (S.set l (.lst (ds ++ [d]))) := by
 show zMQ (.val (.loc l)) S (fun ds => if ds.length < sizeLine then some (ds ++ [d]) else none) = _
 unfold zMQ
 dsimp only
 rw [hS]
 dsimp only
 rw [if_pos (Nat.lt_of_lt_of_le hz (fits (Nat.le_refl _)))]
theorem bE {S : Sto} {l : Nat} {ds : List MV} (hS : S[l]? = some (.lst ds)) : dC (.val (.loc l)) S = true := by
 unfold dC
 rw [zDR hS]; rfl
theorem get_set {S : Sto} {l : Nat} {o o' : MO} (h : S[l]? = some o) : (S.set l o')[l]? = some o' := List.getElem?_set_self (zQ1.mp h).1
theorem yAE {S : Sto} {l m : Nat} {o' : MO} (h : l ≠ m) : (S.set l o')[m]? = S[m]? := List.getElem?_set_ne h
theorem zIU {S : Sto} {l : Nat} {ds : List MV} (hS : S[l]? = some (.lst ds)) : dS [.val (.loc l)] S = .ok (.val (.tup ds)) S := by
 show (match bO S (.val (.loc l)) with | some ds => R.ok (Er.val (.tup ds)) S | none => .no) = _
 rw [zDR hS]
theorem zCG (ds : List MV) (S : Sto) : kB [.val (.tup ds)] S = .ok (.val (.int ds.length)) S := rfl
theorem yCS (gf : MV → Rho → Sto → R Rho) (ρ : Rho) (d : MV) (S : Sto) : yGQ gf ρ (.val d) S = (gf d ρ S).bind fun ρ' S2 => .ok (.next ρ') S2 := rfl
def tbl (p : Int × Int) : MV := .tup [.int p.1, .int p.2]
def TOk (ts : List (Int × Int)) : Prop := 1 ≤ ts.length ∧ ts.length ≤ 4 ∧ ∀ p ∈ ts, 1 ≤ p.1 ∧ p.1 ≤ 4 ∧ 0 ≤ p.2 ∧ p.2 ≤ p.1
abbrev P7 (c m n k : MV) (l : Nat) (x5 x6 : Option MV) : Rho := [some c, some m, some n, some k, some (.loc l), x5, x6]
theorem yHW {c m k : MV} {n : Int} {l : Nat} {x5 x6 : Option MV} {S : Sto} {ts : List (Int × Int)} (hS : S[l]? = some (.lst (ts.map tbl))) (hl : ts.length < 1000) :
  ∃ p n', (1 ≤ p.1 ∧ p.1 ≤ 4 ∧ 0 ≤ p.2 ∧ p.2 ≤ p.1) ∧ hJ (P7 c m (.int n) k l x5 x6) S = .ok (.next (P7 c m (.int n') k l x5 (some (.int p.1)))) (S.set l (.lst ((ts ++ [p]).map tbl))) := by
 have h0 : 0 ≤ n % 4 := Int.emod_nonneg _ (by decide)
 have h1 : n % 4 < 4 := Int.emod_lt_of_pos _ (by decide)
 have hp : (0 : Int) < 1 + n % 4 + 1 := by omega
 have h2 : 0 ≤ n / 4 % (1 + n % 4 + 1) := Int.emod_nonneg _ (by omega)
 have h3 : n / 4 % (1 + n % 4 + 1) < 1 + n % 4 + 1 := Int.emod_lt_of_pos _ hp
 refine ⟨(1 + n % 4, n / 4 % (1 + n % 4 + 1)), n / 20, ⟨by show 1 ≤ 1 + n % 4; omega, by show 1 + n % 4 ≤ 4; omega, h2, by show n / 4 % (1 + n % 4 + 1) ≤ 1 + n % 4; omega⟩, ?_⟩
 have e1 : bB (P7 c m (.int n) k l x5 x6) S = .ok (.next (P7 c m (.int n) k l x5 (some (.int (1 + n % 4))))) S := by
  unfold bB
  simp? [mod_lit (show (0 : Int) < 4 by decide)]
 have e2 : bC (P7 c m (.int n) k l x5 (some (.int (1 + n % 4)))) S = .ok (.next (P7 c m (.int n) k l x5 (some (.int (1 + n % 4))))) (S.set l (.lst ((ts ++ [(1 + n % 4, n / 4 % (1 + n % 4 + 1))]).map tbl))) := by
  unfold bC
  simp? [bE hS, wQ (show (0 : Int) < 4 by decide) (show (4 : Int) < 1073741824 by decide), mod_lit hp, zCF hS (show (ts.map tbl).length < 1000000 by rw [List.length_map]; omega)]
  rw [List.map_append]
  rfl
 have e3 : bD (P7 c m (.int n) k l x5 (some (.int (1 + n % 4)))) (S.set l (.lst ((ts ++ [(1 + n % 4, n / 4 % (1 + n % 4 + 1))]).map tbl))) = .ok (.next (P7 c m (.int (n / 20)) k l x5 (some (.int (1 + n % 4))))) (S.set l (.lst ((ts ++ [(1 + n % 4, n / 4 % (1 + n % 4 + 1))]).map tbl))) := by
  unfold bD
  simp? [wQ (show (0 : Int) < 20 by decide) (show (20 : Int) < 1073741824 by decide)]
 unfold hJ
 rw [zD e1, zD e2, e3]
theorem yEO (c : Int) (S : Sto) : ∃ ts, TOk ts ∧ zJ 2 kN [.val (.int c), .val (.int 4)] S = .ok (.val (.tup (ts.map tbl))) S := by
 obtain ⟨n, hn⟩ := yAD c 2147483629 ⟨by decide, by decide⟩ S
 have h0 : 0 ≤ n % 4 := Int.emod_nonneg _ (by decide)
 have h1 : n % 4 < 4 := Int.emod_lt_of_pos _ (by decide)
 have hs : yA ["_law_cell", "_law_most", "_law_number", "_law_many", "_law_tables_here", "_law_k", "_law_wide"] [.int c, .int 4] = [some (.int c), some (.int 4), none, none, none, none, none] := rfl
 have e1 : nA [some (.int c), some (.int 4), none, none, none, none, none] S = .ok (.next [some (.int c), some (.int 4), some (.int n), none, none, none, none]) S := by
  unfold nA
  simp? [hn]
 have e2 : nB [some (.int c), some (.int 4), some (.int n), none, none, none, none] S = .ok (.next [some (.int c), some (.int 4), some (.int n), some (.int (1 + n % 4)), none, none, none]) S := by
  unfold nB
  simp? [mod_lit (show (0 : Int) < 4 by decide)]
 have e3 : nE [some (.int c), some (.int 4), some (.int n), some (.int (1 + n % 4)), none, none, none] S = .ok (.next [some (.int c), some (.int 4), some (.int (n / 4)), some (.int (1 + n % 4)), none, none, none]) S := by
  unfold nE
  simp? [wQ (show (0 : Int) < 4 by decide) (show (4 : Int) < 1073741824 by decide)]
 have e4 : nF [some (.int c), some (.int 4), some (.int (n / 4)), some (.int (1 + n % 4)), none, none, none] S = .ok (.next (P7 (.int c) (.int 4) (.int (n / 4)) (.int (1 + n % 4)) S.length none none)) (S ++ [.lst []]) := by
  unfold nF
  simp? [bok]
 have hlen : ((List.range (1 + n % 4).toNat).map fun k => MV.int (k : Nat)).length = (1 + n % 4).toNat := by rw [List.length_map, List.length_range]
 obtain ⟨ρ', S', e, x5, x6, n', ts, hρ, hS', hl, hT⟩ := zJR (L := (List.range (1 + n % 4).toNat).map fun k => MV.int (k : Nat)) (gf := gNm 5) (body := hJ) (gs := []) (S := S ++ [.lst []]) (ρ := P7 (.int c) (.int 4) (.int (n / 4)) (.int (1 + n % 4)) S.length none none)
  (fun i ρ S' => ∃ x5 x6 n' ts, ρ = P7 (.int c) (.int 4) (.int n') (.int (1 + n % 4)) S.length x5 x6 ∧ S' = S ++ [.lst (ts.map tbl)] ∧ ts.length = i ∧ ∀ p ∈ ts, 1 ≤ p.1 ∧ p.1 ≤ 4 ∧ 0 ≤ p.2 ∧ p.2 ≤ p.1) (fun i d hi ρ S1 ⟨x5, x6, n', ts, hρ, hS1, hl, hT⟩ => by
   subst hρ hS1
   have hil : i < 5 := by have := (zQ1.mp hi).1; omega
   obtain ⟨p, n'', hp, hb⟩ := yHW (c := .int c) (m := .int 4) (k := .int (1 + n % 4)) (n := n') (l := S.length) (x5 := some d) (x6 := x6) (S := S ++ [.lst (ts.map tbl)]) (ts := ts) (by simp) (by omega)
   refine ⟨P7 (.int c) (.int 4) (.int n'') (.int (1 + n % 4)) S.length (some d) (some (.int p.1)), S ++ [.lst ((ts ++ [p]).map tbl)], ?_, gB _, some d, some (.int p.1), n'', ts ++ [p], rfl, rfl, by rw [zQ4, hl]; rfl, ?_⟩
   ·rw [show gNm 5 d (P7 (.int c) (.int 4) (.int n') (.int (1 + n % 4)) S.length x5 x6) (S ++ [.lst (ts.map tbl)]) = .ok (P7 (.int c) (.int 4) (.int n') (.int (1 + n % 4)) S.length (some d) x6) (S ++ [.lst (ts.map tbl)]) from rfl, bok, hb]
    rw [show (S ++ [MO.lst (ts.map tbl)]).set S.length (.lst ((ts ++ [p]).map tbl)) = S ++ [.lst ((ts ++ [p]).map tbl)] by simp]
   ·intro q hq
    rw [List.mem_append, List.mem_singleton] at hq
    rcases hq with hq | rfl
    ·exact hT q hq
    ·exact hp) ⟨none, none, n / 4, [], rfl, rfl, rfl, fun p hp => by simp at hp⟩
 subst hρ hS'
 rw [hlen] at hl
 have e5 : nG (P7 (.int c) (.int 4) (.int (n / 4)) (.int (1 + n % 4)) S.length none none) (S ++ [.lst []]) = .ok (.next (P7 (.int c) (.int 4) (.int n') (.int (1 + n % 4)) S.length x5 x6)) (S ++ [.lst (ts.map tbl)]) := by
  unfold nG
  simp? [zPH (S := S ++ [.lst []]) (show -(2 ^ 62) ≤ 1 + n % 4 ∧ 1 + n % 4 < 2 ^ 62 by omega)]
  exact e
 have e6 : nH (P7 (.int c) (.int 4) (.int n') (.int (1 + n % 4)) S.length x5 x6) (S ++ [.lst (ts.map tbl)]) = .ok (.ret (.val (.tup (ts.map tbl)))) (S ++ [.lst (ts.map tbl)]) := by
  unfold nH
  simp? [zIU (S := S ++ [.lst (ts.map tbl)]) (l := S.length) (ds := ts.map tbl) (by simp)]
 refine ⟨ts, ⟨by omega, by omega, hT⟩, zAJ (T := [.lst (ts.map tbl)]) rfl ?_ (wH (xN fun d hd => ?_)) (fun l => by simp)⟩
 ·show kN [.int c, .int 4] S = _
  unfold kN zCZ
  rw [hs, zD e1, zD e2, zD e3, zD e4, zD e5, e6]
  rfl
 ·obtain ⟨p, _, rfl⟩ := List.mem_map.mp hd
  exact wH (xN fun e he => by simp at he; rcases he with rfl | rfl <;> exact gR _ _)
mutual
def pd : MV → Bool
 | .int _ => true
 | .str _ => true
 | .tup ds => pdL ds
 | _ => false
def pdL : List MV → Bool
 | [] => true
 | d :: ds => pd d && pdL ds
end
mutual
def dpt : MV → Nat
 | .tup ds => zFI ds + 1
 | _ => 0
def zFI : List MV → Nat
 | [] => 0
 | d :: ds => max (dpt d) (zFI ds)
end
theorem jV (ds : List MV) : pd (.tup ds) = pdL ds := by rw [pd]
theorem zFJ : pdL [] = true := by rw [pdL]
theorem yQ (d : MV) (ds : List MV) : pdL (d :: ds) = (pd d && pdL ds) := by rw [pdL]
theorem wJ (ds : List MV) : dpt (.tup ds) = zFI ds + 1 := by rw [dpt]
theorem yH (d : MV) (ds : List MV) : zFI (d :: ds) = max (dpt d) (zFI ds) := by rw [zFI]
theorem dG : zFI [] = 0 := by rw [zFI]
theorem zDF (i : Int) : pd (.int i) = true := by rw [pd]
theorem zMU (i : List Nat) : pd (.str i) = true := by rw [pd]
theorem dB (i : Int) : dpt (.int i) = 0 := by simp [dpt]
theorem zIV (i : List Nat) : dpt (.str i) = 0 := by simp [dpt]
theorem zCH : ∀ {ds : List MV}, (∀ d ∈ ds, pd d = true) → pdL ds = true
 | [], _ => zFJ
 | d :: ds, h => by rw [yQ, h d List.mem_cons_self, zCH fun e he => h e (List.mem_cons_of_mem _ he)]; rfl
theorem zOE : ∀ {ds : List MV}, pdL ds = true → ∀ d ∈ ds, pd d = true
 | [], _, d, h => by simp at h
 | e :: ds, hp, d, h => by
  rw [yQ, Bool.and_eq_true] at hp
  rcases List.mem_cons.mp h with rfl | h
  ·exact hp.1
  ·exact zOE hp.2 d h
theorem zCI : ∀ {ds : List MV} {n : Nat}, (∀ d ∈ ds, dpt d ≤ n) → zFI ds ≤ n
 | [], n, _ => by rw [dG]; exact Nat.zero_le _
 | d :: ds, n, h => by
  rw [yH]
  have h1 := h d List.mem_cons_self
  have h2 := zCI fun e he => h e (List.mem_cons_of_mem _ he)
  omega
theorem zPU : ∀ {ds : List MV}, ∀ d ∈ ds, dpt d ≤ zFI ds
 | [], d, h => by simp at h
 | e :: ds, d, h => by
  rw [yH]
  rcases List.mem_cons.mp h with rfl | h
  ·exact Nat.le_max_left _ _
  ·exact Nat.le_trans (zPU d h) (Nat.le_max_right _ _)
theorem zPV {d : MV} (h : pd d = true) : (∃ i, d = .int i) ∨ (∃ x, d = .str x) ∨ ∃ ds, d = .tup ds ∧ pdL ds = true := by
 cases d with
 | int i => exact .inl ⟨i, rfl⟩
 | str x => exact .inr (.inl ⟨x, rfl⟩)
 | tup ds => exact .inr (.inr ⟨ds, rfl, by rw [← jV]; exact h⟩)
 | _ => rw [pd] at h <;> first | cases h | (intros; simp)
theorem dec_is {p : Prop} [Decidable p] {q : Prop} [Decidable q] (h : p ↔ q) : decide p = decide q := by
 by_cases hq : q
 ·rw [decide_eq_true hq, decide_eq_true (h.mpr hq)]
 ·rw [decide_eq_false hq, decide_eq_false fun z => hq (h.mp z)]
theorem zWV {e : MV → MV → Option Bool} : ∀ {ds es : List MV}, (∀ d ∈ ds, ∀ f ∈ es, e d f = some (decide (d = f))) → ∃ bs, prs e ds es = some bs ∧ (bs.all id && ds.length == es.length) = decide (ds = es)
 | [], [], _ => ⟨[], rfl, by simp⟩
 | [], _ :: _, _ => ⟨[], rfl, by simp⟩
 | _ :: _, [], _ => ⟨[], rfl, by simp⟩
 | d :: ds, f :: es, h => by
  obtain ⟨bs, h1, h2⟩ := zWV (e := e) (ds := ds) (es := es) fun a ha b hb => h a (List.mem_cons_of_mem _ ha) b (List.mem_cons_of_mem _ hb)
  refine ⟨decide (d = f) :: bs, ?_, ?_⟩
  ·unfold prs
   rw [h d List.mem_cons_self f List.mem_cons_self, h1]
   rfl
  ·by_cases hd : d = f
   ·subst hd
    rw [List.all_cons, decide_eq_true rfl]
    simp only [id, Bool.true_and, List.length_cons]
    rw [show (ds.length + 1 == es.length + 1) = (ds.length == es.length) by simp, h2]
    exact dec_is (by simp)
   ·rw [List.all_cons, decide_eq_false hd]
    rw [decide_eq_false (show ¬ (d :: ds = f :: es) from fun z => hd (List.cons.inj z).1)]
    rfl
theorem zHR {S : Sto} : ∀ (n : Nat) {d e : MV}, pd d = true → pd e = true → dpt d < n → eqv S n d e = some (decide (d = e))
 | 0, d, e, _, _, h => by omega
 | n + 1, d, e, hd, he, h => by
  rcases zPV hd with ⟨i, rfl⟩ | ⟨x, rfl⟩ | ⟨ds, rfl, pds⟩ <;> rcases zPV he with ⟨j, rfl⟩ | ⟨y, rfl⟩ | ⟨es, rfl, pes⟩
  ·rw [zUD]; exact congrArg some (dec_is (by simp))
  ·rw [yOV, decide_eq_false (by simp)]
  ·rw [decide_eq_false (by simp)]; rfl
  ·rw [yOW, decide_eq_false (by simp)]
  ·rw [zUE]; exact congrArg some (dec_is (by simp))
  ·rw [decide_eq_false (by simp)]; rfl
  ·rw [decide_eq_false (by simp)]; rfl
  ·rw [decide_eq_false (by simp)]; rfl
  ·rw [wJ] at h
   obtain ⟨bs, h1, h2⟩ := zWV (e := eqv S n) (ds := ds) (es := es) fun a ha b hb => zHR n (zOE pds a ha) (zOE pes b hb) (by have := zPU a ha; omega)
   show ((prs (eqv S n) ds es).map fun bs => bs.all id && ds.length == es.length) = _
   rw [h1]
   show some (bs.all id && ds.length == es.length) = _
   rw [h2]
   exact congrArg some (dec_is (by simp))
theorem zPW {S : Sto} {d : MV} (hd : pd d = true) : ∀ {ys : List MV}, (∀ y ∈ ys, pd y = true ∧ dpt y < 40) → zUA S zR d ys = some (ys.map fun y => decide (y = d))
 | [], _ => rfl
 | y :: ys, h => by
  have h1 := h y List.mem_cons_self
  unfold zUA
  rw [zHR zR h1.1 hd (by unfold zR; exact h1.2), zPW hd fun z hz => h z (List.mem_cons_of_mem _ hz)]
  rfl
theorem zPX {S : Sto} {l : Nat} {d : MV} {ys : List MV} (hS : S[l]? = some (.lst ys)) (hd : pd d = true) (hs : ∀ x, d ≠ .str x) (h : ∀ y ∈ ys, pd y = true ∧ dpt y < 40) : inF true (.val d) (.val (.loc l)) S = .ok (.val (.bl (!decide (d ∈ ys)))) S := by
 have e1 : itemsOf S (.val (.loc l)) = some ys := by unfold itemsOf; exact zDR hS
 have e2 : zMM true (.val d) (.val (.loc l)) S = .ok (.val (.bl (!decide (d ∈ ys)))) S := by
  unfold zMM
  dsimp only
  rw [e1]
  dsimp only
  rw [zPW hd h]
  dsimp only
  rw [if_pos rfl]
  congr 4
  rw [List.any_map]
  by_cases hm : d ∈ ys
  ·rw [decide_eq_true hm, List.any_eq_true]
   exact ⟨d, hm, by simp⟩
  ·rw [decide_eq_false hm]
   rw [List.any_eq_false]
   intro y hy
   simp only [Function.comp, id, decide_eq_true_eq]
   rintro rfl
   exact hm hy
 cases d with
 | str x => exact absurd rfl (hs x)
 | _ => exact e2
def zN (r : Nat × List MV) : MV := .tup [.int r.1, .tup r.2]
def ROk (ts : List (Int × Int)) (r : Nat × List MV) : Prop := ∃ p, ts[r.1]? = some p ∧ (r.2.length : Int) = p.1 ∧ ∀ d ∈ r.2, Vl d
theorem yCT {d : MV} (h : Vl d) : pd d = true ∧ dpt d = 0 := by
 rcases h.cases with ⟨i, rfl, _⟩ | ⟨x, rfl, _⟩
 ·exact ⟨zDF i, dB i⟩
 ·exact ⟨zMU x, zIV x⟩
theorem zPY {ts : List (Int × Int)} {r : Nat × List MV} (h : ROk ts r) : pd (zN r) = true ∧ dpt (zN r) ≤ 2 := by
 obtain ⟨p, _, _, hv⟩ := h
 have h1 : pdL r.2 = true := zCH fun d hd => (yCT (hv d hd)).1
 have h2 : zFI r.2 ≤ 0 := zCI fun d hd => by rw [(yCT (hv d hd)).2]; exact Nat.le_refl _
 unfold zN
 refine ⟨by rw [jV, yQ, yQ, zFJ, zDF, jV, h1]; rfl, ?_⟩
 rw [wJ, yH, yH, dG, dB, wJ]
 omega
theorem zWW {r q : Nat × List MV} (h : zN r = zN q) : r = q := by
 unfold zN at h
 injection h with h
 injection h with h1 h2
 injection h2 with h2 _
 injection h1 with h1
 injection h2 with h2
 exact Prod.ext (by omega) h2
theorem yAF {ts : List (Int × Int)} {r : Nat × List MV} (h : ROk ts r) (n : Nat) : lo n (zN r) := by
 obtain ⟨p, _, _, hv⟩ := h
 refine wH (xN fun d hd => ?_)
 simp only [List.mem_cons, List.not_mem_nil, or_false] at hd
 rcases hd with rfl | rfl
 ·exact gR _ _
 ·exact wH (xN fun e he => (hv e he).lo n)
theorem zUV {ts : List (Int × Int)} {t : Nat} {p : Int × Int} (h : ts[t]? = some p) : atI (ts.map tbl) (t : Int) = some (tbl p) := by
 have hl : t < ts.length := (zQ1.mp h).1
 unfold atI ixN
 rw [if_pos (by omega), if_pos (by rw [List.length_map]; omega)]
 show (ts.map tbl)[(t : Int).toNat]? = _
 rw [Int.toNat_natCast, List.getElem?_map, h]
 rfl
abbrev R8 (c tb pl w : MV) (n : Int) (t : Int) (l : Nat) (x7 : Option MV) : Rho := [some c, some tb, some pl, some w, some (.int n), some (.int t), some (.loc l), x7]
theorem yHX {c tb : MV} {lp l : Nat} {w n t : Int} {x7 : Option MV} {S : Sto} {vs cs : List MV} (hw : 1 ≤ w ∧ w ≤ 7) (hv : vs.length = 7) (hP : S[lp]? = some (.lst vs)) (hS : S[l]? = some (.lst cs)) (hl : cs.length < 1000) :
  ∃ v n', v ∈ vs ∧ nW (R8 c tb (.loc lp) (.int w) n t l x7) S = .ok (.next (R8 c tb (.loc lp) (.int w) n' t l x7)) (S.set l (.lst (cs ++ [v]))) := by
 have hp : (0 : Int) < w := by omega
 have h0 : 0 ≤ n % w := Int.emod_nonneg _ (by omega)
 have h1 : n % w < w := Int.emod_lt_of_pos _ hp
 obtain ⟨v, hvv⟩ := zLC (xs := vs) (i := n % w) h0 (by omega)
 refine ⟨v, n / w, zLD (P := fun e => e ∈ vs) (fun e h => h) hvv, ?_⟩
 have e1 : zAV (R8 c tb (.loc lp) (.int w) n t l x7) S = .ok (.next (R8 c tb (.loc lp) (.int w) n t l x7)) (S.set l (.lst (cs ++ [v]))) := by
  unfold zAV
  simp? [bE hS, mod_lit hp, yAB hP hvv, zCF hS (show cs.length < 1000000 by omega)]
 have e2 : zAW (R8 c tb (.loc lp) (.int w) n t l x7) (S.set l (.lst (cs ++ [v]))) = .ok (.next (R8 c tb (.loc lp) (.int w) (n / w) t l x7)) (S.set l (.lst (cs ++ [v]))) := by
  unfold zAW
  simp? [wQ hp (show w < 1073741824 by omega)]
 unfold nW
 rw [zD e1, e2]
theorem yPL {ts : List (Int × Int)} (hT : TOk ts) (c w : Int) (hw : 1 ≤ w ∧ w ≤ 7) {lp : Nat} {vs : List MV} {S : Sto} (hv : vs.length = 7) (hV : ∀ d ∈ vs, Vl d) (hP : S[lp]? = some (.lst vs)) :
  ∃ r, ROk ts r ∧ zJ 4 cC [.val (.int c), .val (.tup (ts.map tbl)), .val (.loc lp), .val (.int w)] S = .ok (.val (zN r)) S := by
 obtain ⟨n, hn⟩ := yAD c 2147483563 ⟨by decide, by decide⟩ S
 have hlp : lp < S.length := (zQ1.mp hP).1
 have hp : (0 : Int) < (ts.length : Int) := by have := hT.1; omega
 have h0 : 0 ≤ n % (ts.length : Int) := Int.emod_nonneg _ (by omega)
 have h1 : n % (ts.length : Int) < ts.length := Int.emod_lt_of_pos _ hp
 obtain ⟨t, ht⟩ := Int.eq_ofNat_of_zero_le h0
 have htl : t < ts.length := by omega
 have hgt : ts[t]? = some ts[t] := List.getElem?_eq_getElem htl
 have hpp := hT.2.2 ts[t] (List.getElem_mem htl)
 generalize hpe : ts[t] = p at hgt hpp
 have hs : yA ["_law_cell", "_law_tables_here", "_law_pool_here", "_law_wide", "_law_number", "_law_t", "_law_cells", "_law_k"] [.int c, .tup (ts.map tbl), .loc lp, .int w] = [some (.int c), some (.tup (ts.map tbl)), some (.loc lp), some (.int w), none, none, none, none] := rfl
 have hlen : kB [.val (.tup (ts.map tbl))] S = .ok (.val (.int ts.length)) S := by rw [zCG, List.length_map]
 have e1 : zFC [some (.int c), some (.tup (ts.map tbl)), some (.loc lp), some (.int w), none, none, none, none] S = .ok (.next [some (.int c), some (.tup (ts.map tbl)), some (.loc lp), some (.int w), some (.int n), none, none, none]) S := by
  unfold zFC
  simp? [hn]
 have e2 : zFD [some (.int c), some (.tup (ts.map tbl)), some (.loc lp), some (.int w), some (.int n), none, none, none] S = .ok (.next [some (.int c), some (.tup (ts.map tbl)), some (.loc lp), some (.int w), some (.int n), some (.int t), none, none]) S := by
  unfold zFD
  simp? [hlen, mod_lit hp]
  rw [ht]
 have hdc : zZO 0 (ts.length : Int) := by
  have := hT.2.1
  have h1 := hT.1
  have : ts.length = 1 ∨ ts.length = 2 ∨ ts.length = 3 ∨ ts.length = 4 := by omega
  rcases this with h | h | h | h <;> rw [h] <;> decide +kernel
 have e3 : zFE [some (.int c), some (.tup (ts.map tbl)), some (.loc lp), some (.int w), some (.int n), some (.int t), none, none] S = .ok (.next [some (.int c), some (.tup (ts.map tbl)), some (.loc lp), some (.int w), some (.int (n / ts.length)), some (.int t), none, none]) S := by
  unfold zFE
  simp? [hlen, yCR hdc]
 have e4 : zFF [some (.int c), some (.tup (ts.map tbl)), some (.loc lp), some (.int w), some (.int (n / ts.length)), some (.int t), none, none] S = .ok (.next (R8 (.int c) (.tup (ts.map tbl)) (.loc lp) (.int w) (n / ts.length) t S.length none)) (S ++ [.lst []]) := by
  unfold zFF
  simp? [bok]
 have hll : ((List.range p.1.toNat).map fun k => MV.int (k : Nat)).length = p.1.toNat := by rw [List.length_map, List.length_range]
 obtain ⟨ρ', S', e, x7, n', cs, hρ, hS', hl, hC⟩ := zJR (L := (List.range p.1.toNat).map fun k => MV.int (k : Nat)) (gf := gNm 7) (body := nW) (gs := []) (S := S ++ [.lst []]) (ρ := R8 (.int c) (.tup (ts.map tbl)) (.loc lp) (.int w) (n / ts.length) t S.length none)
  (fun i ρ S' => ∃ x7 n' cs, ρ = R8 (.int c) (.tup (ts.map tbl)) (.loc lp) (.int w) n' t S.length x7 ∧ S' = S ++ [.lst cs] ∧ cs.length = i ∧ ∀ d ∈ cs, d ∈ vs) (fun i d hi ρ S1 ⟨x7, n', cs, hρ, hS1, hl, hC⟩ => by
   subst hρ hS1
   have hil : i < 5 := by have := (zQ1.mp hi).1; omega
   obtain ⟨v, n'', hv', hb⟩ := yHX (c := .int c) (tb := .tup (ts.map tbl)) (lp := lp) (l := S.length) (w := w) (n := n') (t := t) (x7 := some d) (S := S ++ [.lst cs]) (vs := vs) (cs := cs) hw hv (by rw [zQ2 hlp]; exact hP) (by simp) (by omega)
   refine ⟨R8 (.int c) (.tup (ts.map tbl)) (.loc lp) (.int w) n'' t S.length (some d), S ++ [.lst (cs ++ [v])], ?_, gB _, some d, n'', cs ++ [v], rfl, rfl, by rw [zQ4, hl]; rfl, ?_⟩
   ·rw [show gNm 7 d (R8 (.int c) (.tup (ts.map tbl)) (.loc lp) (.int w) n' t S.length x7) (S ++ [.lst cs]) = .ok (R8 (.int c) (.tup (ts.map tbl)) (.loc lp) (.int w) n' t S.length (some d)) (S ++ [.lst cs]) from rfl, bok, hb]
    rw [show (S ++ [MO.lst cs]).set S.length (.lst (cs ++ [v])) = S ++ [.lst (cs ++ [v])] by simp]
   ·intro q hq
    rw [List.mem_append, List.mem_singleton] at hq
    rcases hq with hq | rfl
    ·exact hC q hq
    ·exact hv') ⟨none, _, [], rfl, rfl, rfl, fun p hp => by simp at hp⟩
 subst hρ hS'
 rw [hll] at hl
 have e5 : zFG (R8 (.int c) (.tup (ts.map tbl)) (.loc lp) (.int w) (n / ts.length) t S.length none) (S ++ [.lst []]) = .ok (.next (R8 (.int c) (.tup (ts.map tbl)) (.loc lp) (.int w) n' t S.length x7)) (S ++ [.lst cs]) := by
  unfold zFG
  simp? [ix_tup (S := S ++ [.lst []]) (zUV hgt)]
  rw [show ixF (.val (tbl p)) (.val (.int 0)) (S ++ [MO.lst []]) = .ok (.val (.int p.1)) (S ++ [.lst []]) from rfl]
  simp? [zPH (S := S ++ [.lst []]) (show -(2 ^ 62) ≤ p.1 ∧ p.1 < 2 ^ 62 by omega)]
  exact e
 have e6 : zFH (R8 (.int c) (.tup (ts.map tbl)) (.loc lp) (.int w) n' t S.length x7) (S ++ [.lst cs]) = .ok (.ret (.val (zN (t, cs)))) (S ++ [.lst cs]) := by
  unfold zFH
  simp? [zIU (S := S ++ [.lst cs]) (l := S.length) (ds := cs) (by simp)]
  rfl
 have hR : ROk ts (t, cs) := ⟨p, hgt, by show (cs.length : Int) = p.1; omega, fun d hd => hV d (hC d hd)⟩
 refine ⟨(t, cs), hR, zAJ (T := [.lst cs]) rfl ?_ (yAF hR _) (fun l => by unfold zN; simp)⟩
 show cC [.int c, .tup (ts.map tbl), .loc lp, .int w] S = _
 unfold cC zKF
 rw [hs, zD e1, zD e2, zD e3, zD e4, zD e5, e6]
 rfl
abbrev R7 (lc : Nat) (tb : MV) (lp : Nat) (w : Int) (lr : Nat) (x5 x6 : Option MV) : Rho := [some (.loc lc), some tb, some (.loc lp), some (.int w), some (.loc lr), x5, x6]
theorem yEP {ts : List (Int × Int)} (hT : TOk ts) {c w : Int} (hw : 1 ≤ w ∧ w ≤ 7) {lc lp lr : Nat} {vs : List MV} {S : Sto} {x6 : Option MV} {rs : List (Nat × List MV)} (hv : vs.length = 7) (hV : ∀ d ∈ vs, Vl d) (hP : S[lp]? = some (.lst vs)) (hS : S[lr]? = some (.lst (rs.map zN)))
  (hR : ∀ r ∈ rs, ROk ts r) (hn : rs.Nodup) (hl : rs.length < 1000) : ∃ (x6' : Option MV) (rs' : List (Nat × List MV)), jX (R7 lc (.tup (ts.map tbl)) lp w lr (some (.int c)) x6) S = .ok (.next (R7 lc (.tup (ts.map tbl)) lp w lr (some (.int c)) x6')) (S.set lr (.lst (rs'.map zN))) ∧ (∀ r ∈ rs', ROk ts r) ∧ rs'.Nodup ∧ rs'.length ≤ rs.length + 1 := by
 obtain ⟨r, hr, hcall⟩ := yPL hT c w hw hv hV hP
 have e1 : nI (R7 lc (.tup (ts.map tbl)) lp w lr (some (.int c)) x6) S = .ok (.next (R7 lc (.tup (ts.map tbl)) lp w lr (some (.int c)) (some (zN r)))) S := by
  unfold nI
  simp? [hcall]
 have hin : inF true (.val (zN r)) (.val (.loc lr)) S = .ok (.val (.bl (!decide (zN r ∈ rs.map zN)))) S := zPX hS (zPY hr).1 (fun x => by unfold zN; simp) fun y hy => by
  obtain ⟨q, hq, rfl⟩ := List.mem_map.mp hy
  have := zPY (hR q hq)
  exact ⟨this.1, by omega⟩
 have hmem : zN r ∈ rs.map zN ↔ r ∈ rs := ⟨fun h => by obtain ⟨q, hq, e⟩ := List.mem_map.mp h; rw [← zWW e]; exact hq, fun h => List.mem_map_of_mem h⟩
 by_cases hm : r ∈ rs
 ·have e2 : kK (R7 lc (.tup (ts.map tbl)) lp w lr (some (.int c)) (some (zN r))) S = .ok (.next (R7 lc (.tup (ts.map tbl)) lp w lr (some (.int c)) (some (zN r)))) S := by
   unfold kK
   simp? [hin, decide_eq_true (hmem.mpr hm)]
   rfl
  refine ⟨some (zN r), rs, ?_, hR, hn, Nat.le_succ _⟩
  unfold jX
  rw [zD e1, e2]
  have hset : S.set lr (.lst (rs.map zN)) = S := by
   refine List.ext_getElem? fun j => ?_
   by_cases e : lr = j
   ·subst e; rw [get_set hS, hS]
   ·rw [yAE e]
  rw [hset]
 ·have e2 : kK (R7 lc (.tup (ts.map tbl)) lp w lr (some (.int c)) (some (zN r))) S = .ok (.next (R7 lc (.tup (ts.map tbl)) lp w lr (some (.int c)) (some (zN r)))) (S.set lr (.lst ((rs ++ [r]).map zN))) := by
   unfold kK
   simp? [hin, decide_eq_false (fun z => hm (hmem.mp z)), bE hS, zCF hS (show (rs.map zN).length < 1000000 by rw [List.length_map]; omega)]
   rw [List.map_append]
   rfl
  refine ⟨some (zN r), rs ++ [r], ?_, ?_, ?_, ?_⟩
  ·unfold jX
   rw [zD e1, e2]
  ·intro q hq
   rw [List.mem_append, List.mem_singleton] at hq
   rcases hq with hq | rfl
   ·exact hR q hq
   ·exact hr
  ·exact List.nodup_append.mpr ⟨hn, by simp, fun a ha c hc => by rw [List.mem_singleton.mp hc]; rintro rfl; exact hm ha⟩
  ·rw [zQ4]; exact Nat.le_refl _
theorem yLN {ts : List (Int × Int)} (hT : TOk ts) (is : List Int) (hil : is.length ≤ 60) {w : Int} (hw : 1 ≤ w ∧ w ≤ 7) {lp : Nat} {vs : List MV} {S : Sto} (hv : vs.length = 7) (hV : ∀ d ∈ vs, Vl d) (hP : S[lp]? = some (.lst vs)) :
  ∃ rs : List (Nat × List MV), (∀ r ∈ rs, ROk ts r) ∧ rs.Nodup ∧ rs.length ≤ is.length ∧ zJ 4 gE [.new (is.map MV.int), .val (.tup (ts.map tbl)), .val (.loc lp), .val (.int w)] S = .ok (.val (.tup (rs.map zN))) S := by
 have hlp : lp < S.length := (zQ1.mp hP).1
 have hs : yA ["_law_cells", "_law_tables_here", "_law_pool_here", "_law_wide", "_law_rows_here", "_law_cell", "_law_row_here"] [.loc S.length, .tup (ts.map tbl), .loc lp, .int w] = [some (.loc S.length), some (.tup (ts.map tbl)), some (.loc lp), some (.int w), none, none, none] := rfl
 have e1 : zDA [some (.loc S.length), some (.tup (ts.map tbl)), some (.loc lp), some (.int w), none, none, none] (S ++ [.lst (is.map MV.int)]) = .ok (.next (R7 S.length (.tup (ts.map tbl)) lp w (S.length + 1) none none)) (S ++ [.lst (is.map MV.int)] ++ [.lst []]) := by
  unfold zDA
  simp? [bok]
  rw [zQ4]
  rfl
 obtain ⟨ρ', S', e, x5, x6, rs, hρ, hS', hR, hN, hl⟩ := zJR (L := is.map MV.int) (gf := gNm 5) (body := jX) (gs := [(S.length, is.map MV.int)]) (S := S ++ [.lst (is.map MV.int)] ++ [.lst []]) (ρ := R7 S.length (.tup (ts.map tbl)) lp w (S.length + 1) none none)
  (fun i ρ S' => ∃ (x5 x6 : Option MV) (rs : List (Nat × List MV)), ρ = R7 S.length (.tup (ts.map tbl)) lp w (S.length + 1) x5 x6 ∧ S' = S ++ [.lst (is.map MV.int)] ++ [.lst (rs.map zN)] ∧ (∀ r ∈ rs, ROk ts r) ∧ rs.Nodup ∧ rs.length ≤ i) (fun i d hi ρ S1 ⟨x5, x6, rs, hρ, hS1, hR, hN, hl⟩ => by
   subst hρ hS1
   obtain ⟨c, _, rfl⟩ := List.mem_map.mp (List.mem_of_getElem? hi)
   have hil' : i < is.length := by have := (zQ1.mp hi).1; rw [List.length_map] at this; exact this
   obtain ⟨x6', rs', hb, hR', hN', hl'⟩ := yEP hT (c := c) hw (lc := S.length) (lp := lp) (lr := S.length + 1) (S := S ++ [.lst (is.map MV.int)] ++ [.lst (rs.map zN)]) (x6 := x6) (rs := rs) hv hV (by rw [List.append_assoc, zQ2 hlp]; exact hP) (by simp) hR hN (by omega)
   refine ⟨R7 S.length (.tup (ts.map tbl)) lp w (S.length + 1) (some (.int c)) x6', S ++ [.lst (is.map MV.int)] ++ [.lst (rs'.map zN)], ?_, zLE (by simp), some (.int c), x6', rs', rfl, rfl, hR', hN', by omega⟩
   rw [show gNm 5 (.int c) (R7 S.length (.tup (ts.map tbl)) lp w (S.length + 1) x5 x6) (S ++ [.lst (is.map MV.int)] ++ [.lst (rs.map zN)]) = .ok (R7 S.length (.tup (ts.map tbl)) lp w (S.length + 1) (some (.int c)) x6) (S ++ [.lst (is.map MV.int)] ++ [.lst (rs.map zN)]) from rfl, bok, hb]
   have hset : List.set (S ++ [MO.lst (is.map MV.int)] ++ [MO.lst (rs.map zN)]) (S.length + 1) (MO.lst (rs'.map zN)) = S ++ [MO.lst (is.map MV.int)] ++ [MO.lst (rs'.map zN)] := by simp
   rw [hset])
  ⟨none, none, [], rfl, rfl, fun r hr => by simp at hr, by simp, Nat.zero_le _⟩
 subst hρ hS'
 rw [List.length_map] at hl
 have e2 : zDB (R7 S.length (.tup (ts.map tbl)) lp w (S.length + 1) none none) (S ++ [.lst (is.map MV.int)] ++ [.lst []]) = .ok (.next (R7 S.length (.tup (ts.map tbl)) lp w (S.length + 1) x5 x6)) (S ++ [.lst (is.map MV.int)] ++ [.lst (rs.map zN)]) := by
  unfold zDB
  simp? [yCH (S := S ++ [.lst (is.map MV.int)] ++ [.lst []]) (l := S.length) (ds := is.map MV.int) (by simp)]
  exact e
 have e3 : zDC (R7 S.length (.tup (ts.map tbl)) lp w (S.length + 1) x5 x6) (S ++ [.lst (is.map MV.int)] ++ [.lst (rs.map zN)]) = .ok (.ret (.val (.tup (rs.map zN)))) (S ++ [.lst (is.map MV.int)] ++ [.lst (rs.map zN)]) := by
  unfold zDC
  simp? [zIU (S := S ++ [.lst (is.map MV.int)] ++ [.lst (rs.map zN)]) (l := S.length + 1) (ds := rs.map zN) (by simp)]
 refine ⟨rs, hR, hN, hl, zAJ (T := [.lst (is.map MV.int), .lst (rs.map zN)]) rfl ?_ (wH (xN fun d hd => ?_)) (fun l => by simp)⟩
 ·show gE [.loc S.length, .tup (ts.map tbl), .loc lp, .int w] (S ++ [.lst (is.map MV.int)]) = _
  unfold gE zHP
  rw [hs, zD e1, zD e2, e3]
  rw [List.append_assoc]
  rfl
 ·obtain ⟨r, hr, rfl⟩ := List.mem_map.mp hd
  exact yAF (hR r hr) _
inductive Side where
 | isv (v : MV) | cell (k j : Nat)
def sIs : List Nat := [105,115]
def zGG : List Nat := [99,101,108,108]
def kL : Side → MV
 | .isv v => .tup [.str sIs, v]
 | .cell k j => .tup [.str zGG, .int k, .int j]
def yHY (ws : List Int) : Side → Prop
 | .isv v => Vl v
 | .cell k j => ∃ w, ws[k]? = some w ∧ (j : Int) < w
def wid (ts : List (Int × Int)) (t : Nat) : Int := ((ts[t]?).map (·.1)).getD 0
theorem yHZ {ts : List (Int × Int)} {t : Nat} {p : Int × Int} (h : ts[t]? = some p) : wid ts t = p.1 := by unfold wid; rw [h]; rfl
def xX (t : Nat) : MV := .int (t : Nat)
theorem yCU {ws : List Int} {sd : Side} (h : yHY ws sd) (n : Nat) : lo n (kL sd) := by
 cases sd with
 | isv v => exact wH (xN fun e he => by simp at he; rcases he with rfl | rfl; (exact zGX _ _); exact Vl.lo h n)
 | cell k j => exact wH (xN fun e he => by simp at he; rcases he with rfl | rfl | rfl <;> first | exact zGX _ _ | exact gR _ _)
structure Test where
 l : Side
 w : List Nat
 r : Side
def zUW : List (List Nat) := [[115,97,109,101], [117,110,108,105,107,101], [108,101,115,115]]
def testM (t : Test) : MV := .tup [kL t.l, .str t.w, kL t.r]
def zWX (ws : List Int) (t : Test) : Prop := yHY ws t.l ∧ t.w ∈ zUW ∧ yHY ws t.r
theorem yCV {ws : List Int} {t : Test} (h : zWX ws t) (n : Nat) : lo n (testM t) := wH (xN fun e he => by
 simp only [List.mem_cons, List.not_mem_nil, or_false] at he
 rcases he with rfl | rfl | rfl
 ·exact yCU h.1 n
 ·exact zGX _ _
 ·exact yCU h.2.2 n)
inductive Rule where
 | never (t : Nat) (qs : List Test) | apart (t u : Nat) (qs : List Test) | tie (t : Nat) (cs : List Nat) (u : Nat) (ds : List Nat)
def zAY : List Nat := [110,101,118,101,114]
def cI : List Nat := [97,112,97,114,116]
def yIA : List Nat := [116,105,101]
def yO : Rule → MV
 | .never t qs => .tup [.str zAY, .int (t : Nat), .tup (qs.map testM)]
 | .apart t u qs => .tup [.str cI, .int (t : Nat), .int (u : Nat), .tup (qs.map testM)]
 | .tie t cs u ds => .tup [.str yIA, .int (t : Nat), .tup (cs.map xX), .int (u : Nat), .tup (ds.map xX)]
def zLS (ts : List (Int × Int)) : Rule → Prop
 | .never t qs => t < ts.length ∧ 1 ≤ qs.length ∧ qs.length ≤ 3 ∧ ∀ q ∈ qs, zWX [wid ts t] q
 | .apart t u qs => t < ts.length ∧ u < ts.length ∧ 1 ≤ qs.length ∧ qs.length ≤ 3 ∧ ∀ q ∈ qs, zWX [wid ts t, wid ts u] q
 | .tie t cs u ds => t < ts.length ∧ u < ts.length ∧ 1 ≤ cs.length ∧ cs.length ≤ 3 ∧ ds.length = cs.length ∧ (∀ c ∈ cs, (c : Int) < wid ts t) ∧ ∀ d ∈ ds, (d : Int) < wid ts u
theorem yCW {ts : List (Int × Int)} {r : Rule} (h : zLS ts r) (n : Nat) : lo n (yO r) := by
 have nm : ∀ (cs : List Nat), lo n (.tup (cs.map xX)) := fun cs => wH (xN fun e he => by
  obtain ⟨c, _, rfl⟩ := List.mem_map.mp he
  exact gR _ _)
 cases r with
 | never t qs =>
  refine wH (xN fun e he => ?_)
  simp only [List.mem_cons, List.not_mem_nil, or_false] at he
  rcases he with rfl | rfl | rfl
  ·exact zGX _ _
  ·exact gR _ _
  ·exact wH (xN fun e he => by obtain ⟨q, hq, rfl⟩ := List.mem_map.mp he; exact yCV (h.2.2.2 q hq) n)
 | apart t u qs =>
  refine wH (xN fun e he => ?_)
  simp only [List.mem_cons, List.not_mem_nil, or_false] at he
  rcases he with rfl | rfl | rfl | rfl
  ·exact zGX _ _
  ·exact gR _ _
  ·exact gR _ _
  ·exact wH (xN fun e he => by obtain ⟨q, hq, rfl⟩ := List.mem_map.mp he; exact yCV (h.2.2.2.2 q hq) n)
 | tie t cs u ds =>
  refine wH (xN fun e he => ?_)
  simp only [List.mem_cons, List.not_mem_nil, or_false] at he
  rcases he with rfl | rfl | rfl | rfl | rfl
  ·exact zGX _ _
  ·exact gR _ _
  ·exact nm cs
  ·exact gR _ _
  ·exact nm ds
theorem yAG (r : Rule) (l : Nat) : yO r ≠ .loc l := by cases r <;> (intro h; cases h)
theorem tup1 (a : MV) (S : Sto) : nS [.val a] S = .ok (.val (.tup [a])) S := zUH (by simp)
theorem le_int (i j : Int) (S : Sto) : leF (.val (.int i)) (.val (.int j)) S = .ok (.val (.bl (decide (i ≤ j)))) S := rfl
theorem le_str (i j : List Nat) (S : Sto) : leF (.val (.str i)) (.val (.str j)) S = .ok (.val (.bl (!decide (j < i)))) S := rfl
theorem yIB (i : Int) (S : Sto) : jU [.val (.int i), .val (.typ "int")] S = .ok (.val (.bl true)) S := rfl
theorem yIC (i : Int) (S : Sto) : jU [.val (.int i), .val (.typ "bool")] S = .ok (.val (.bl false)) S := rfl
theorem yPM (i : List Nat) (S : Sto) : jU [.val (.str i), .val (.typ "int")] S = .ok (.val (.bl false)) S := rfl
theorem wB {n : Nat} {F : List MV → Sto → R Er} {rs : List Er} {S : Sto} {b : Bool} (hn : rs.length = n) (hF : F (yI rs S).1 (yI rs S).2 = .ok (.val (.bl b)) S) : zJ n F rs S = .ok (.val (.bl b)) S := bQ hn hF (yHI _ _) (fun l => by simp)
theorem zHS (i : Int) (S : Sto) : zJ 1 kC [.val (.int i)] S = .ok (.val (.bl true)) S := wB rfl (by
 show yX (bS [some (.int i)] S) = _
 unfold bS zEF
 simp? [yIB, yIC, jS]
 rfl)
theorem zWY (i : List Nat) (S : Sto) : zJ 1 kC [.val (.str i)] S = .ok (.val (.bl false)) S := wB rfl (by
 show yX (bS [some (.str i)] S) = _
 unfold bS zEF
 simp? [yPM, jS]
 rfl)
theorem yEQ {c : Nat} (h : 97 ≤ c ∧ c ≤ 122) : (!decide ([c] < [97])) = true ∧ (!decide ([122] < [c])) = true := by
 have h1 : ¬ ([c] < [97]) := by
  intro z
  rw [List.cons_lt_cons_iff] at z
  rcases z with z | ⟨_, z⟩
  ·omega
  ·exact absurd z (by simp)
 have h2 : ¬ ([122] < [c]) := by
  intro z
  rw [List.cons_lt_cons_iff] at z
  rcases z with z | ⟨_, z⟩
  ·omega
  ·exact absurd z (by simp)
 exact ⟨by rw [decide_eq_false h1]; rfl, by rw [decide_eq_false h2]; rfl⟩
theorem zAZ : ∀ {n : Nat} {S : Sto}, zRH [.new (List.replicate n (.bl true))] S = .ok (.val (.bl true)) S := by
 intro n S
 have h : ∀ n : Nat, zLA (List.replicate n (.bl true)) = some (List.replicate n true) := by
  intro n
  induction n with
  | zero => rfl
  | succ n ih => rw [List.replicate_succ, List.replicate_succ]; unfold zLA; rw [ih]; rfl
 show (match (some (List.replicate n (MV.bl true))).bind zLA with | some bs => R.ok (Er.val (.bl (bs.all id))) S | none => .no) = _
 rw [show (some (List.replicate n (MV.bl true))).bind zLA = some (List.replicate n true) from h n]
 show R.ok (Er.val (.bl ((List.replicate n true).all id))) S = _
 rw [show (List.replicate n true).all id = true by simp]
theorem zBA {ds : List MV} : ds.map (fun _ => MV.bl true) = List.replicate ds.length (.bl true) := by
 induction ds with
 | nil => rfl
 | cons d ds ih => rw [List.map_cons, List.length_cons, List.replicate_succ, ih]
theorem yPN {x : List Nat} (h : Nm x) (S : Sto) : zJ 1 zIO [.val (.str x)] S = .ok (.val (.bl true)) S := wB rfl (by
 have hl : ∀ S, kB [.val (.str x)] S = .ok (.val (.int x.length)) S := fun S => if_pos (fits (by have := h.2.1; omega))
 have e1 : zGZ [some (.str x)] S = .ok (.next [some (.str x)]) S := by
  unfold zGZ
  simp? [hl, chF, le_int, decide_eq_true (show (1 : Int) ≤ x.length by have := h.1; omega), decide_eq_true (show (x.length : Int) ≤ 8 by have := h.2.1; omega)]
  rfl
 have hc : wN (gNm 0) zCO cT (blk 1 [] [some (.str x)]) [] (x.map fun c => .str [c]) S = .ok ((x.map fun c => MV.str [c]).map fun _ => .bl true) S := gS (gB S) fun d hd => by
  obtain ⟨c, hc, rfl⟩ := List.mem_map.mp hd
  obtain ⟨h1, h2⟩ := yEQ (h.2.2 c hc)
  refine ⟨[some (.str [c])], rfl, rfl, ?_⟩
  unfold cT
  simp? [chF, le_str, h1, h2]
 have e2 : zHA [some (.str x)] S = .ok (.ret (.val (.bl true))) S := by
  unfold zHA
  simp? [bok]
  show (((((if (x.map fun c => MV.str [c]).length < 1000000 then (wN (gNm 0) zCO cT (blk 1 [] [some (.str x)]) [] (x.map fun c => .str [c]) S).bind fun o S => R.ok (Er.new o) S else .no).bind fun p S1 => R.ok [p] S1).bind zRH).bind fun r S1 => R.ok (Fl.ret r) S1)) = _
  rw [if_pos (by rw [List.length_map]; have := h.2.1; omega), hc, bok, bok, bok, zBA, zAZ]
  rfl
 show yX (zIN [some (.str x)] S) = _
 unfold zIN
 rw [zD e1, e2]
 rfl)
theorem yCX {d : MV} (h : Vl d) (S : Sto) : zJ 1 bT [.val d] S = .ok (.val (.bl true)) S := wB rfl (by
 show yX (zEG [some d] S) = _
 unfold zEG
 rcases h.cases with ⟨i, rfl, h0, h1⟩ | ⟨x, rfl, hx⟩
 ·have habs : absF [.val (.int i)] S = .ok (.val (.int (if i < 0 then -i else i))) S := rfl
  have hlt : decide ((if i < 0 then -i else i) < (10 : Int) ^ 30) = true := decide_eq_true (by split <;> omega)
  rw [zCB (show gT [some (.int i)] S = .ok (.ret (.val (.bl true))) S by
   unfold gT
   simp? [zHS, habs, show zJP (.val (.int 10)) (.val (.int 30)) S = .ok (.val (.int (10 ^ 30))) S from rfl, lt_int, hlt])]
  rfl
 ·rw [zD (show gT [some (.str x)] S = .ok (.next [some (.str x)]) S by
   unfold gT
   simp? [zWY]
   rfl)]
  unfold zLH
  simp? [yPN hx]
  rfl)
theorem yCY (ds : List MV) (a b : Int) (S : Sto) : zJ 3 yJ [.val (.tup ds), .val (.int a), .val (.int b)] S = .ok (.val (.bl (decide (a ≤ ds.length) && decide ((ds.length : Int) ≤ b)))) S := wB rfl (by
 show yX (zEJ [some (.tup ds), some (.int a), some (.int b)] S) = _
 unfold zEJ zLL
 simp? [jS, zCG, chF, le_int]
 cases decide (a ≤ (ds.length : Int)) <;> rfl)
theorem yLO (i b : Int) (S : Sto) : zJ 2 zQ [.val (.int i), .val (.int b)] S = .ok (.val (.bl (decide (0 ≤ i) && decide (i < b)))) S := wB rfl (by
 show yX (jA [some (.int i), some (.int b)] S) = _
 unfold jA nP
 simp? [zHS, jS, chF, le_int, lt_int]
 cases decide (0 ≤ i) <;> rfl)
theorem jG {i b : Int} (h0 : 0 ≤ i) (h1 : i < b) (S : Sto) : zJ 2 zQ [.val (.int i), .val (.int b)] S = .ok (.val (.bl true)) S := by
 rw [yLO, decide_eq_true h0, decide_eq_true h1]; rfl
theorem zBB {ds : List MV} {a b : Int} (h0 : a ≤ ds.length) (h1 : (ds.length : Int) ≤ b) (S : Sto) : zJ 3 yJ [.val (.tup ds), .val (.int a), .val (.int b)] S = .ok (.val (.bl true)) S := by
 rw [yCY, decide_eq_true h0, decide_eq_true h1]; rfl
theorem yAH (a b : MV) (S : Sto) : zJ 3 yJ [.val (.tup [a, b]), .val (.int 2), .val (.int 2)] S = .ok (.val (.bl true)) S := zBB (by simp) (by simp) S
theorem yID (a b c : MV) (S : Sto) : zJ 3 yJ [.val (.tup [a, b, c]), .val (.int 3), .val (.int 3)] S = .ok (.val (.bl true)) S := zBB (by simp) (by simp) S
theorem yLP (a b c : MV) (S : Sto) : zJ 3 yJ [.val (.tup [a, b, c]), .val (.int 2), .val (.int 2)] S = .ok (.val (.bl false)) S := by
 rw [yCY, decide_eq_false (show ¬ (([a, b, c].length : Int) ≤ 2) by simp), Bool.and_false]
theorem yLQ {p : Int × Int} (h : 1 ≤ p.1 ∧ p.1 ≤ 4 ∧ 0 ≤ p.2 ∧ p.2 ≤ p.1) (S : Sto) : zJ 1 zEO [.val (tbl p)] S = .ok (.val (.bl true)) S := wB rfl (by
 have i0 : ∀ S, ixF (.val (.tup [.int p.1, .int p.2])) (.val (.int 0)) S = .ok (.val (.int p.1)) S := fun S => rfl
 have i1 : ∀ S, ixF (.val (.tup [.int p.1, .int p.2])) (.val (.int 1)) S = .ok (.val (.int p.2)) S := fun S => rfl
 have e1 : zEK [some (.tup [.int p.1, .int p.2]), none] S = .ok (.next [some (.tup [.int p.1, .int p.2]), none]) S := by
  unfold zEK
  simp? [yAH, i0, zHS]
  rfl
 have e2 : zEL [some (.tup [.int p.1, .int p.2]), none] S = .ok (.next [some (.tup [.int p.1, .int p.2]), some (.int p.1)]) S := by
  unfold zEL
  simp? [i0]
 have e3 : zEM [some (.tup [.int p.1, .int p.2]), some (.int p.1)] S = .ok (.ret (.val (.bl true))) S := by
  unfold zEM
  simp? [chF, le_int, decide_eq_true h.1, decide_eq_true h.2.1, jS, i1, jG h.2.2.1 (show p.2 < p.1 + 1 by omega)]
 show yX (zEN [some (.tup [.int p.1, .int p.2]), none] S) = _
 unfold zEN
 rw [zD e1, zD e2, e3]
 rfl)
def SqM (S : Sto) (m : MV) (ds : List MV) : Prop := m = .tup ds ∨ ∃ l, m = .loc l ∧ S[l]? = some (.lst ds)
theorem SqM.ix {S : Sto} {m : MV} {ds : List MV} {i : Int} {d : MV} (h : SqM S m ds) (hk : atI ds i = some d) : ixF (.val m) (.val (.int i)) S = .ok (.val d) S := by
 rcases h with rfl | ⟨l, rfl, hS⟩
 ·exact ix_tup hk
 ·exact yAB hS hk
theorem SqM.len {S : Sto} {m : MV} {ds : List MV} (h : SqM S m ds) : kB [.val m] S = .ok (.val (.int ds.length)) S := by
 rcases h with rfl | ⟨l, rfl, hS⟩
 ·rfl
 ·exact zUF hS
theorem SqM.app {S T : Sto} {m : MV} {ds : List MV} (h : SqM S m ds) : SqM (S ++ T) m ds := by
 rcases h with h | ⟨l, h, hS⟩
 ·exact .inl h
 ·exact .inr ⟨l, h, by rw [zQ2 (zQ1.mp hS).1]; exact hS⟩
theorem SqM.lo {S : Sto} {m : MV} {ds : List MV} (h : SqM S m ds) (hd : ∀ d ∈ ds, lo S.length d) : lo S.length m := by
 rcases h with rfl | ⟨l, rfl, hS⟩
 ·exact wH (xN hd)
 ·exact yOS (zQ1.mp hS).1
theorem yPO {ws : List Int} {k : Nat} {w : Int} (h : ws[k]? = some w) : atI (ws.map MV.int) (k : Int) = some (.int w) := by
 have hl : k < ws.length := (zQ1.mp h).1
 unfold atI ixN
 rw [if_pos (by omega), if_pos (by rw [List.length_map]; omega)]
 show (ws.map MV.int)[(k : Int).toNat]? = _
 rw [Int.toNat_natCast, List.getElem?_map, h]
 rfl
theorem yIE {ws : List Int} {sd : Side} (h : yHY ws sd) {m : MV} {S : Sto} (hm : SqM S m (ws.map MV.int)) : zJ 2 zDV [.val (kL sd), .val m] S = .ok (.val (.bl true)) S := wB rfl (by
 cases sd with
 | isv v =>
  have i0 : ∀ S, ixF (.val (.tup [.str sIs, v])) (.val (.int 0)) S = .ok (.val (.str sIs)) S := fun S => rfl
  have i1 : ∀ S, ixF (.val (.tup [.str sIs, v])) (.val (.int 1)) S = .ok (.val v) S := fun S => rfl
  have e1 : dE [some (.tup [.str sIs, v]), some m] S = .ok (.ret (.val (.bl true))) S := by
   unfold dE
   simp? [yAH, i0, i1, eq_str, show decide (sIs = [105,115]) = true from rfl, jS, yCX h]
  show yX (nZ [some (.tup [.str sIs, v]), some m] S) = _
  unfold nZ
  rw [zCB e1]
  rfl
 | cell k j =>
  obtain ⟨w, hw, hj⟩ := h
  have hkl : k < ws.length := (zQ1.mp hw).1
  have i0 : ∀ S, ixF (.val (.tup [.str zGG, .int (k : Nat), .int (j : Nat)])) (.val (.int 0)) S = .ok (.val (.str zGG)) S := fun S => rfl
  have i1 : ∀ S, ixF (.val (.tup [.str zGG, .int (k : Nat), .int (j : Nat)])) (.val (.int 1)) S = .ok (.val (.int (k : Nat))) S := fun S => rfl
  have i2 : ∀ S, ixF (.val (.tup [.str zGG, .int (k : Nat), .int (j : Nat)])) (.val (.int 2)) S = .ok (.val (.int (j : Nat))) S := fun S => rfl
  have e1 : dE [some (.tup [.str zGG, .int (k : Nat), .int (j : Nat)]), some m] S = .ok (.next [some (.tup [.str zGG, .int (k : Nat), .int (j : Nat)]), some m]) S := by
   unfold dE
   simp? [yLP]
   rfl
  have e2 : zHB [some (.tup [.str zGG, .int (k : Nat), .int (j : Nat)]), some m] S = .ok (.next [some (.tup [.str zGG, .int (k : Nat), .int (j : Nat)]), some m]) S := by
   unfold zHB
   simp? [yID, i0, show neF (.val (.str zGG)) (.val (.str [99,101,108,108])) S = .ok (.val (.bl false)) S from yAA (zUE _ _ _)]
   rfl
  have e3 : zHC [some (.tup [.str zGG, .int (k : Nat), .int (j : Nat)]), some m] S = .ok (.ret (.val (.bl true))) S := by
   unfold zHC
   simp? [i1, hm.len, List.length_map, jG (show (0 : Int) ≤ (k : Nat) by omega) (show ((k : Nat) : Int) < ws.length by omega), jS, i2, hm.ix (yPO hw), jG (show (0 : Int) ≤ (j : Nat) by omega) hj]
  show yX (nZ [some (.tup [.str zGG, .int (k : Nat), .int (j : Nat)]), some m] S) = _
  unfold nZ
  rw [zD e1, zD e2, e3]
  rfl)
theorem yLR (neg : Bool) (p : Er) (ds : List MV) (S : Sto) : inF neg p (.val (.tup ds)) S = zMM neg p (.val (.tup ds)) S := by
 unfold inF
 split
 ·rename_i h; cases h
 ·rfl
theorem yPP {ws : List Int} {q : Test} (h : zWX ws q) {m : MV} {S : Sto} (hm : SqM S m (ws.map MV.int)) : zJ 2 zIQ [.val (testM q), .val m] S = .ok (.val (.bl true)) S := wB rfl (by
 obtain ⟨sl, w, sr⟩ := q
 obtain ⟨h1, h2, h3⟩ := h
 have h2 : w ∈ zUW := h2
 have i0 : ∀ S, ixF (.val (.tup [kL sl, .str w, kL sr])) (.val (.int 0)) S = .ok (.val (kL sl)) S := fun S => rfl
 have i1 : ∀ S, ixF (.val (.tup [kL sl, .str w, kL sr])) (.val (.int 1)) S = .ok (.val (.str w)) S := fun S => rfl
 have i2 : ∀ S, ixF (.val (.tup [kL sl, .str w, kL sr])) (.val (.int 2)) S = .ok (.val (kL sr)) S := fun S => rfl
 have hin : inF false (.val (.str w)) (.val (.tup [.str [115,97,109,101], .str [117,110,108,105,107,101], .str [108,101,115,115]])) S = .ok (.val (.bl true)) S := by
  rw [yLR]
  unfold zMM
  show (match zUA S zR (.str w) [.str [115,97,109,101], .str [117,110,108,105,107,101], .str [108,101,115,115]] with | some bs => R.ok (Er.val (.bl (if false = true then !bs.any id else bs.any id))) S | none => .no) = _
  rw [zPW (zMU _) (fun y hy => by simp only [List.mem_cons, List.not_mem_nil, or_false] at hy; rcases hy with rfl | rfl | rfl <;> exact ⟨zMU _, by rw [zIV]; decide⟩)]
  simp only [zUW, List.mem_cons, List.not_mem_nil, or_false] at h2
  rcases h2 with rfl | rfl | rfl <;> simp
 have e1 : zHD [some (.tup [kL sl, .str w, kL sr]), some m] S = .ok (.next [some (.tup [kL sl, .str w, kL sr]), some m]) S := by
  unfold zHD
  simp? [yID]
  rfl
 have e2 : zHE [some (.tup [kL sl, .str w, kL sr]), some m] S = .ok (.ret (.val (.bl true))) S := by
  unfold zHE
  simp? [i0, i1, i2, yIE h1 hm, jS, hin, yIE h3 hm]
 show yX (zIP [some (.tup [kL sl, .str w, kL sr]), some m] S) = _
 unfold zIP
 rw [zD e1, e2]
 rfl)
theorem yLS {ws : List Int} {qs : List Test} (h0 : 1 ≤ qs.length) (h1 : qs.length ≤ 3) (h : ∀ q ∈ qs, zWX ws q) {m : MV} {S : Sto} (hm : SqM S m (ws.map MV.int)) : jC [.tup (qs.map testM), m] S = .ok (.val (.bl true)) S := by
 have hc : wN (gNm 0) zGD dU [none, some m] [] (qs.map testM) S = .ok ((qs.map testM).map fun _ => .bl true) S := gS (gB S) fun d hd => by
  obtain ⟨q, hq, rfl⟩ := List.mem_map.mp hd
  refine ⟨[some (testM q), some m], rfl, rfl, ?_⟩
  unfold dU
  simp? [yPP (h q hq) hm]
 show yX (zCC [some (.tup (qs.map testM)), some m] S) = _
 unfold zCC zJC
 simp? [zBB (ds := qs.map testM) (a := 1) (b := 3) (by rw [List.length_map]; omega) (by rw [List.length_map]; omega), jS, show itT (.val (.tup (qs.map testM))) S = .ok ⟨qs.map testM, []⟩ S from rfl]
 rw [if_pos (by rw [List.length_map]; omega)]
 rw [show blk 1 [1] [some (.tup (qs.map testM)), some m] = [none, some m] from rfl, hc]
 simp? [zBA, zAZ]
 rfl
theorem zWZ {ws : List Int} {qs : List Test} (h0 : 1 ≤ qs.length) (h1 : qs.length ≤ 3) (h : ∀ q ∈ qs, zWX ws q) (S : Sto) : zJ 2 jC [.val (.tup (qs.map testM)), .new (ws.map MV.int)] S = .ok (.val (.bl true)) S :=
 by
 have hf := yLS h0 h1 h (m := .loc S.length) (S := S ++ [.lst (ws.map MV.int)]) (.inr ⟨S.length, rfl, by simp⟩)
 refine zAJ (T := [.lst (ws.map MV.int)]) rfl ?_ (yHI _ _) (fun l => by simp)
 rw [show yI [.val (.tup (qs.map testM)), .new (ws.map MV.int)] S = ([.tup (qs.map testM), .loc S.length], S ++ [.lst (ws.map MV.int)]) from rfl]
 exact hf
theorem yPQ {cs : List Nat} {w : Int} (h0 : 1 ≤ cs.length) (h1 : cs.length ≤ 3) (h : ∀ c ∈ cs, (c : Int) < w) (S : Sto) : zJ 2 cV [.val (.tup (cs.map xX)), .val (.int w)] S = .ok (.val (.bl true)) S := wB rfl (by
 have hc : wN (gNm 0) zCD gU [none, some (.int w)] [] (cs.map xX) S = .ok ((cs.map xX).map fun _ => .bl true) S := gS (gB S) fun d hd => by
  obtain ⟨c, hcc, rfl⟩ := List.mem_map.mp hd
  refine ⟨[some (.int (c : Nat)), some (.int w)], rfl, rfl, ?_⟩
  unfold gU
  simp? [jG (show (0 : Int) ≤ (c : Nat) by omega) (h c hcc)]
 show yX (cU [some (.tup (cs.map xX)), some (.int w)] S) = _
 unfold cU zGE
 simp? [zBB (ds := cs.map xX) (a := 1) (b := 3) (by rw [List.length_map]; omega) (by rw [List.length_map]; omega), jS, show itT (.val (.tup (cs.map xX))) S = .ok ⟨cs.map xX, []⟩ S from rfl]
 rw [if_pos (by rw [List.length_map]; omega)]
 rw [show blk 1 [1] [some (.tup (cs.map xX)), some (.int w)] = [none, some (.int w)] from rfl, hc]
 simp? [zBA, zAZ]
 rfl)
section
variable {ts : List (Int × Int)} {m : MV} {S : Sto}
theorem yCZ (hm : SqM S m (ts.map tbl)) {t : Nat} (ht : t < ts.length) : ∃ e, ixF (.val m) (.val (.int (t : Nat))) S = .ok (.val e) S ∧ ixF (.val e) (.val (.int 0)) S = .ok (.val (.int (wid ts t))) S := by
 have hgt : ts[t]? = some ts[t] := List.getElem?_eq_getElem ht
 exact ⟨tbl ts[t], hm.ix (zUV hgt), by rw [yHZ hgt]; rfl⟩
theorem zPZ (hm : SqM S m (ts.map tbl)) : kB [.val m] S = .ok (.val (.int ts.length)) S := by rw [hm.len, List.length_map]
theorem yLT (hm : SqM S m (ts.map tbl)) {t : Nat} {qs : List Test} (h : zLS ts (.never t qs)) : zJ 2 zES [.val (yO (.never t qs)), .val m] S = .ok (.val (.bl true)) S := wB rfl (by
 obtain ⟨ht, q1, q2, q3⟩ := h
 have i1 : ∀ S, ixF (.val (.tup [.str zAY, .int (t : Nat), .tup (qs.map testM)])) (.val (.int 1)) S = .ok (.val (.int (t : Nat))) S := fun S => rfl
 have i2 : ∀ S, ixF (.val (.tup [.str zAY, .int (t : Nat), .tup (qs.map testM)])) (.val (.int 2)) S = .ok (.val (.tup (qs.map testM))) S := fun S => rfl
 have hl : ∀ S, kB [.val (.tup [.str zAY, .int (t : Nat), .tup (qs.map testM)])] S = .ok (.val (.int 3)) S := fun S => rfl
 obtain ⟨e, ix1, ix2⟩ := yCZ hm ht
 have e1 : zEP [some (.tup [.str zAY, .int (t : Nat), .tup (qs.map testM)]), some m] S = .ok (.next [some (.tup [.str zAY, .int (t : Nat), .tup (qs.map testM)]), some m]) S := by
  unfold zEP
  simp? [hl, ne_int, show decide ((3 : Int) = 3) = true from rfl, i1, zPZ hm, jG (show (0 : Int) ≤ (t : Nat) by omega) (show ((t : Nat) : Int) < ts.length by omega)]
  rfl
 have e2 : zEQ [some (.tup [.str zAY, .int (t : Nat), .tup (qs.map testM)]), some m] S = .ok (.ret (.val (.bl true))) S := by
  unfold zEQ
  have hc := zWZ (ws := [wid ts t]) q1 q2 q3 S
  simp? [i2, i1, ix1, ix2]
  rw [show ([wid ts t] : List Int).map MV.int = [.int (wid ts t)] from rfl] at hc
  rw [hc]
  rfl
 show yX (zER [some (.tup [.str zAY, .int (t : Nat), .tup (qs.map testM)]), some m] S) = _
 unfold zER
 rw [zD e1, e2]
 rfl)
theorem yLU (hm : SqM S m (ts.map tbl)) {t u : Nat} {qs : List Test} (h : zLS ts (.apart t u qs)) : zJ 2 zEW [.val (yO (.apart t u qs)), .val m] S = .ok (.val (.bl true)) S := wB rfl (by
 obtain ⟨ht, hu, q1, q2, q3⟩ := h
 have i3 : ∀ S, ixF (.val (.tup [.str cI, .int (t : Nat), .int (u : Nat), .tup (qs.map testM)])) (.val (.int 3)) S = .ok (.val (.tup (qs.map testM))) S := fun S => rfl
 have hl : ∀ S, kB [.val (.tup [.str cI, .int (t : Nat), .int (u : Nat), .tup (qs.map testM)])] S = .ok (.val (.int 4)) S := fun S => rfl
 have hcut : ∀ S, zKY (.val (.tup [.str cI, .int (t : Nat), .int (u : Nat), .tup (qs.map testM)])) (some 1) (some 3) S = .ok (.val (.tup [.int (t : Nat), .int (u : Nat)])) S := fun S => rfl
 have hit : ∀ S, itT (.val (.tup [.int (t : Nat), .int (u : Nat)])) S = .ok ⟨[.int (t : Nat), .int (u : Nat)], []⟩ S := fun S => rfl
 have hc1 : wN (gNm 0) zHF zAM [none, some m] [] [.int (t : Nat), .int (u : Nat)] S = .ok ([MV.int (t : Nat), MV.int (u : Nat)].map fun _ => .bl true) S := gS (gB S) fun d hd => by
  have hd' : ∃ z : Nat, z < ts.length ∧ d = .int (z : Nat) := by
   simp only [List.mem_cons, List.not_mem_nil, or_false] at hd
   rcases hd with rfl | rfl
   ·exact ⟨t, ht, rfl⟩
   ·exact ⟨u, hu, rfl⟩
  obtain ⟨z, hz, rfl⟩ := hd'
  refine ⟨[some (.int (z : Nat)), some m], rfl, rfl, ?_⟩
  unfold zAM
  simp? [zPZ hm, jG (show (0 : Int) ≤ (z : Nat) by omega) (show ((z : Nat) : Int) < ts.length by omega)]
 have hc2 : wN (gNm 0) zAN gV [none, some m] [] [.int (t : Nat), .int (u : Nat)] S = .ok [.int (wid ts t), .int (wid ts u)] S := by
  have := gS (S := S) (gf := gNm 0) (cf := zAN) (ef := gV) (ρb := [none, some m]) (gs := []) (ds := [.int (t : Nat), .int (u : Nat)]) (F := fun d => match d with | .int i => .int (wid ts i.toNat) | d => d) (gB S) fun d hd => by
   have hd' : ∃ z : Nat, z < ts.length ∧ d = .int (z : Nat) := by
    simp only [List.mem_cons, List.not_mem_nil, or_false] at hd
    rcases hd with rfl | rfl
    ·exact ⟨t, ht, rfl⟩
    ·exact ⟨u, hu, rfl⟩
   obtain ⟨z, hz, rfl⟩ := hd'
   obtain ⟨e, ix1, ix2⟩ := yCZ hm hz
   refine ⟨[some (.int (z : Nat)), some m], rfl, rfl, ?_⟩
   unfold gV
   simp? [ix1, ix2]
   rw [Int.toNat_natCast]
  rw [this]
  simp
 have e1 : zET [some (.tup [.str cI, .int (t : Nat), .int (u : Nat), .tup (qs.map testM)]), some m] S = .ok (.next [some (.tup [.str cI, .int (t : Nat), .int (u : Nat), .tup (qs.map testM)]), some m]) S := by
  unfold zET
  simp? [hl, ne_int, show decide ((4 : Int) = 4) = true from rfl, hcut, hit]
  rw [show blk 1 [1] [some (.tup [.str cI, .int (t : Nat), .int (u : Nat), .tup (qs.map testM)]), some m] = [none, some m] from rfl, hc1, zBA]
  rw [if_pos (show ([MV.int (t : Nat), MV.int (u : Nat)] : List MV).length < 1000000 by simp)]
  simp? [zAZ]
  rfl
 have e2 : zEU [some (.tup [.str cI, .int (t : Nat), .int (u : Nat), .tup (qs.map testM)]), some m] S = .ok (.ret (.val (.bl true))) S := by
  unfold zEU
  have hc := zWZ (ws := [wid ts t, wid ts u]) q1 q2 q3 S
  simp? [i3, hcut, hit]
  rw [show blk 1 [1] [some (.tup [.str cI, .int (t : Nat), .int (u : Nat), .tup (qs.map testM)]), some m] = [none, some m] from rfl, hc2]
  rw [if_pos (show ([MV.int (t : Nat), MV.int (u : Nat)] : List MV).length < 1000000 by simp)]
  simp? [bok]
  rw [show ([wid ts t, wid ts u] : List Int).map MV.int = [.int (wid ts t), .int (wid ts u)] from rfl] at hc
  rw [hc]
  rfl
 show yX (zEV [some (.tup [.str cI, .int (t : Nat), .int (u : Nat), .tup (qs.map testM)]), some m] S) = _
 unfold zEV
 rw [zD e1, e2]
 rfl)
theorem c_tie (hm : SqM S m (ts.map tbl)) {t u : Nat} {cs ds : List Nat} (h : zLS ts (.tie t cs u ds)) : zJ 2 zLO [.val (yO (.tie t cs u ds)), .val m] S = .ok (.val (.bl true)) S := wB rfl (by
 obtain ⟨ht, hu, q1, q2, q3, q4, q5⟩ := h
 generalize hR : yO (.tie t cs u ds) = Rr
 have i1 : ∀ S, ixF (.val Rr) (.val (.int 1)) S = .ok (.val (.int (t : Nat))) S := fun S => by rw [← hR]; rfl
 have i2 : ∀ S, ixF (.val Rr) (.val (.int 2)) S = .ok (.val (.tup (cs.map xX))) S := fun S => by rw [← hR]; rfl
 have i3 : ∀ S, ixF (.val Rr) (.val (.int 3)) S = .ok (.val (.int (u : Nat))) S := fun S => by rw [← hR]; rfl
 have i4 : ∀ S, ixF (.val Rr) (.val (.int 4)) S = .ok (.val (.tup (ds.map xX))) S := fun S => by rw [← hR]; rfl
 have hl : ∀ S, kB [.val Rr] S = .ok (.val (.int 5)) S := fun S => by rw [← hR]; rfl
 have e1 : zJZ [some Rr, some m, none, none] S = .ok (.next [some Rr, some m, none, none]) S := by
  unfold zJZ
  simp? [hl, ne_int, show decide ((5 : Int) = 5) = true from rfl]
  rfl
 have turn : ∀ {z : Nat} {es : List Nat} (x2 x3 : Option MV), z < ts.length → 1 ≤ es.length → es.length ≤ 3 → (∀ c ∈ es, (c : Int) < wid ts z) → zJY [some Rr, some m, some (.int (z : Nat)), some (.tup (es.map xX))] S = .ok (.next [some Rr, some m, some (.int (z : Nat)), some (.tup (es.map xX))]) S := fun {z es} x2 x3 hz h1 h2 h3 => by
  obtain ⟨e, ix1, ix2⟩ := yCZ hm hz
  unfold zJY zLM
  simp? [zPZ hm, jG (show (0 : Int) ≤ (z : Nat) by omega) (show ((z : Nat) : Int) < ts.length by omega), ix1, ix2, yPQ h1 h2 h3]
  rfl
 have e2 : zKA [some Rr, some m, none, none] S = .ok (.next [some Rr, some m, some (.int (u : Nat)), some (.tup (ds.map xX))]) S := by
  unfold zKA
  simp? [i1, i2, i3, i4, show itT (.val (.tup [.tup [.int (t : Nat), .tup (cs.map xX)], .tup [.int (u : Nat), .tup (ds.map xX)]])) S = .ok ⟨[.tup [.int (t : Nat), .tup (cs.map xX)], .tup [.int (u : Nat), .tup (ds.map xX)]], []⟩ S from rfl]
  rw [dD (show gTp 2 (yC (gNm 2) (yC (gNm 3) kJ)) (.tup [.int (t : Nat), .tup (cs.map xX)]) [some Rr, some m, none, none] S = .ok [some Rr, some m, some (.int (t : Nat)), some (.tup (cs.map xX))] S from rfl) (turn none none ht q1 q2 q4) (gB S)]
  rw [dD (show gTp 2 (yC (gNm 2) (yC (gNm 3) kJ)) (.tup [.int (u : Nat), .tup (ds.map xX)]) [some Rr, some m, some (.int (t : Nat)), some (.tup (cs.map xX))] S = .ok [some Rr, some m, some (.int (u : Nat)), some (.tup (ds.map xX))] S from rfl) (turn none none hu (by omega) (by omega) q5) (gB S)]
  rfl
 have e3 : zKB [some Rr, some m, some (.int (u : Nat)), some (.tup (ds.map xX))] S = .ok (.ret (.val (.bl true))) S := by
  unfold zKB
  simp? [i2, i4, zCG, List.length_map, decide_eq_true (show (cs.length : Int) = ds.length by omega)]
 show yX (zLN [some Rr, some m, none, none] S) = _
 unfold zLN
 rw [zD e1, zD e2, e3]
 rfl)
theorem yPR (hm : SqM S m (ts.map tbl)) {r : Rule} (h : zLS ts r) : zJ 2 zIS [.val (yO r), .val m] S = .ok (.val (.bl true)) S := wB rfl (by
 have key : ∀ (w : List Nat) (rest : List MV), yO r = .tup (.str w :: rest) → zHG [some (yO r), some m] S = .ok (.next [some (yO r), some m]) S ∧ ∀ S, ixF (.val (yO r)) (.val (.int 0)) S = .ok (.val (.str w)) S := fun w rest e => by
  rw [e]
  refine ⟨?_, fun S => ix_tup (by unfold atI ixN; rw [if_pos (by decide), if_pos (by rw [List.length_cons]; omega)]; rfl)⟩
  unfold zHG
  simp? [zCG, decide_eq_false (show ¬ (((MV.str w :: rest).length : Nat) : Int) = 0 by rw [List.length_cons]; omega)]
  rfl
 show yX (zIR [some (yO r), some m] S) = _
 unfold zIR
 cases r with
 | never t qs =>
  obtain ⟨e1, i0⟩ := key zAY _ rfl
  have e2 : jD [some (yO (.never t qs)), some m] S = .ok (.ret (.val (.bl true))) S := by
   unfold jD
   simp? [i0, eq_str, show decide (zAY = [110,101,118,101,114]) = true from rfl, yLT hm h]
  rw [zD e1, zCB e2]
  rfl
 | apart t u qs =>
  obtain ⟨e1, i0⟩ := key cI _ rfl
  have e2 : jD [some (yO (.apart t u qs)), some m] S = .ok (.next [some (yO (.apart t u qs)), some m]) S := by
   unfold jD
   simp? [i0, eq_str, show decide (cI = [110,101,118,101,114]) = false from rfl]
   rfl
  have e3 : dF [some (yO (.apart t u qs)), some m] S = .ok (.ret (.val (.bl true))) S := by
   unfold dF
   simp? [i0, eq_str, show decide (cI = [97,112,97,114,116]) = true from rfl, yLU hm h]
  rw [zD e1, zD e2, zCB e3]
  rfl
 | tie t cs u ds =>
  obtain ⟨e1, i0⟩ := key yIA _ rfl
  have e2 : jD [some (yO (.tie t cs u ds)), some m] S = .ok (.next [some (yO (.tie t cs u ds)), some m]) S := by
   unfold jD
   simp? [i0, eq_str, show decide (yIA = [110,101,118,101,114]) = false from rfl]
   rfl
  have e3 : dF [some (yO (.tie t cs u ds)), some m] S = .ok (.next [some (yO (.tie t cs u ds)), some m]) S := by
   unfold dF
   simp? [i0, eq_str, show decide (yIA = [97,112,97,114,116]) = false from rfl]
   rfl
  have e4 : zHH [some (yO (.tie t cs u ds)), some m] S = .ok (.ret (.val (.bl true))) S := by
   unfold zHH
   simp? [i0, eq_str, show decide (yIA = [116,105,101]) = true from rfl, jS, c_tie hm h]
  rw [zD e1, zD e2, zD e3, e4]
  rfl)
end
section
variable {ts : List (Int × Int)} {m : MV} {S : Sto}
theorem c_row (hm : SqM S m (ts.map tbl)) {r : Nat × List MV} (h : ROk ts r) (hT : TOk ts) : zJ 2 zLR [.val (zN r), .val m] S = .ok (.val (.bl true)) S := wB rfl (by
 obtain ⟨t, cs⟩ := r
 obtain ⟨p, hp, hl, hv⟩ := h
 have hp : ts[t]? = some p := hp
 have hl : (cs.length : Int) = p.1 := hl
 have ht : t < ts.length := (zQ1.mp hp).1
 have hw := yHZ hp
 have hpw := hT.2.2 p (List.mem_of_getElem? hp)
 obtain ⟨e, ix1, ix2⟩ := yCZ hm ht
 rw [hw] at ix2
 generalize hR : zN (t, cs) = Rr
 have hRt : Rr = .tup [.int (t : Nat), .tup cs] := hR.symm
 have i0 : ∀ S, ixF (.val Rr) (.val (.int 0)) S = .ok (.val (.int (t : Nat))) S := fun S => by rw [hRt]; rfl
 have i1 : ∀ S, ixF (.val Rr) (.val (.int 1)) S = .ok (.val (.tup cs)) S := fun S => by rw [hRt]; rfl
 have h2 : zJ 3 yJ [.val Rr, .val (.int 2), .val (.int 2)] S = .ok (.val (.bl true)) S := by rw [hRt]; exact yAH _ _ S
 have e1 : zKC [some Rr, some m, none] S = .ok (.next [some Rr, some m, none]) S := by
  unfold zKC
  simp? [h2, i0, zPZ hm, jG (show (0 : Int) ≤ (t : Nat) by omega) (show ((t : Nat) : Int) < ts.length by omega)]
  rfl
 have e2 : zKD [some Rr, some m, none] S = .ok (.next [some Rr, some m, some (.int p.1)]) S := by
  unfold zKD
  simp? [i0, ix1, ix2]
 have hc : wN (gNm 0) zLP zEX [none] [] cs S = .ok (cs.map fun _ => .bl true) S := gS (gB S) fun d hd => by
  refine ⟨[some d], rfl, rfl, ?_⟩
  unfold zEX
  simp? [yCX (hv d hd)]
 have e3 : zKE [some Rr, some m, some (.int p.1)] S = .ok (.ret (.val (.bl true))) S := by
  unfold zKE
  simp? [i1, zBB (ds := cs) (a := p.1) (b := p.1) (by omega) (by omega), jS, show itT (.val (.tup cs)) S = .ok ⟨cs, []⟩ S from rfl]
  rw [if_pos (show cs.length < 1000000 by omega)]
  rw [show blk 1 [] [some Rr, some m, some (.int p.1)] = [none] from rfl, hc, zBA]
  simp? [zAZ]
 show yX (zLQ [some Rr, some m, none] S) = _
 unfold zLQ
 rw [zD e1, zD e2, e3]
 rfl)
theorem gt_int (i j : Int) (S : Sto) : gtF (.val (.int i)) (.val (.int j)) S = .ok (.val (.bl (decide (j < i)))) S := rfl
theorem zLT {n : Nat} {F : List MV → Sto → R Er} {rs : List Er} {S T : Sto} (hn : rs.length = n) (hF : F (yI rs S).1 (yI rs S).2 = .ok (.val .non) (S ++ T)) : zJ n F rs S = .ok (.val .non) S := zAJ hn hF (yOR _) (fun l => by simp)
theorem yLV {a b c : MV} {as bs cs : List MV} (ha : SqM S a as) (hb : SqM S b bs) (hc : SqM S c cs) (h1 : as.length ≤ 4) (h2 : bs.length ≤ 6) (h3 : cs.length ≤ 60) : zJ 3 cX [.val a, .val b, .val c] S = .ok (.val .non) S := zLT (T := []) rfl (by
 rw [List.append_nil]
 show yX (cW [some a, some b, some c] S) = _
 unfold cW zGF
 simp? [ha.len, hb.len, hc.len, gt_int, decide_eq_false (show ¬ (4 : Int) < as.length by omega), decide_eq_false (show ¬ (6 : Int) < bs.length by omega), decide_eq_false (show ¬ (60 : Int) < cs.length by omega)]
 rfl)
theorem SqM.src {m : MV} {ds : List MV} (h : SqM S m ds) : ∃ gs, itE [.val m] S = .ok ⟨zIX ds, gs⟩ S ∧ stay gs S ∧ ∀ T, stay gs (S ++ T) := by
 rcases h with rfl | ⟨l, rfl, hS⟩
 ·exact ⟨[], rfl, gB S, fun T => gB _⟩
 ·refine ⟨[(l, ds)], ?_, zLE hS, fun T => zLE (by rw [zQ2 (zQ1.mp hS).1]; exact hS)⟩
  show (match srcOf S (.val (.loc l)) with | some a => R.ok (⟨zIX a.ds, a.gs⟩ : Wk) S | none => .no) = _
  rw [show srcOf S (.val (.loc l)) = some ⟨true, ds, [(l, ds)]⟩ by unfold srcOf; dsimp only; rw [hS]]
theorem zOF {ds : List MV} {i : Nat} {d : MV} (h : (zIX ds)[i]? = some d) : ∃ e, ds[i]? = some e ∧ d = .tup [.int (i : Nat), e] := by
 unfold zIX at h
 rw [List.getElem?_map, List.getElem?_zipIdx] at h
 cases z : ds[i]? with
 | none => rw [z] at h; cases h
 | some e => rw [z] at h; refine ⟨e, rfl, ?_⟩; simp at h; rw [← h]
theorem yIF (hm : SqM S m (ts.map tbl)) (hT : TOk ts) : zJ 1 gX [.val m] S = .ok (.val .non) S := zLT (T := []) rfl (by
 rw [List.append_nil]
 obtain ⟨gs, hi, hs, _⟩ := hm.src
 have e1 : bV [some m, none, none] S = .ok (.next [some m, none, none]) S := by
  unfold bV
  simp? [zPZ hm, decide_eq_false (show ¬ (ts.length : Int) = 0 by have := hT.1; omega)]
  rfl
 obtain ⟨ρ', S', e, _, hS'⟩ := zJR (L := zIX (ts.map tbl)) (gf := gTp 2 (yC (gNm 1) (yC (gNm 2) kJ))) (body := bU) (gs := gs) (S := S) (ρ := [some m, none, none]) (fun i ρ S' => (∃ x1 x2, ρ = [some m, x1, x2]) ∧ S' = S) (fun i d hd ρ S1 ⟨⟨x1, x2, hρ⟩, hS1⟩ => by
  subst hρ hS1
  obtain ⟨f, hf, rfl⟩ := zOF hd
  obtain ⟨p, hp, rfl⟩ := List.mem_map.mp (List.mem_of_getElem? hf)
  refine ⟨[some m, some (.int (i : Nat)), some (tbl p)], S1, ?_, hs, ⟨_, _, rfl⟩, rfl⟩
  rw [show gTp 2 (yC (gNm 1) (yC (gNm 2) kJ)) (.tup [.int (i : Nat), tbl p]) [some m, x1, x2] S1 = .ok [some m, some (.int (i : Nat)), some (tbl p)] S1 from rfl, bok]
  unfold bU zAO
  simp? [yLQ (hT.2.2 p hp)]
  rfl) ⟨⟨none, none, rfl⟩, rfl⟩
 subst hS'
 have e2 : bW [some m, none, none] S' = .ok (.next ρ') S' := by
  unfold bW
  simp? [hi]
  exact e
 show yX (gW [some m, none, none] S') = _
 unfold gW
 rw [zD e1, e2]
 rfl)
theorem yLW (hm : SqM S m (ts.map tbl)) {b : MV} {rl : List Rule} (hb : SqM S b (rl.map yO)) (h : ∀ r ∈ rl, zLS ts r) : zJ 2 cZ [.val m, .val b] S = .ok (.val .non) S := zLT (T := []) rfl (by
 rw [List.append_nil]
 obtain ⟨gs, hi, hs, _⟩ := hb.src
 obtain ⟨ρ', S', e, _, hS'⟩ := zJR (L := zIX (rl.map yO)) (gf := gTp 2 (yC (gNm 2) (yC (gNm 3) kJ))) (body := dW) (gs := gs) (S := S) (ρ := [some m, some b, none, none]) (fun i ρ S' => (∃ x1 x2, ρ = [some m, some b, x1, x2]) ∧ S' = S) (fun i d hd ρ S1 ⟨⟨x1, x2, hρ⟩, hS1⟩ => by
  subst hρ hS1
  obtain ⟨f, hf, rfl⟩ := zOF hd
  obtain ⟨p, hp, rfl⟩ := List.mem_map.mp (List.mem_of_getElem? hf)
  refine ⟨[some m, some b, some (.int (i : Nat)), some (yO p)], S1, ?_, hs, ⟨_, _, rfl⟩, rfl⟩
  rw [show gTp 2 (yC (gNm 2) (yC (gNm 3) kJ)) (.tup [.int (i : Nat), yO p]) [some m, some b, x1, x2] S1 = .ok [some m, some b, some (.int (i : Nat)), some (yO p)] S1 from rfl, bok]
  unfold dW zCE
  simp? [yPR hm (h p hp)]
  rfl) ⟨⟨none, none, rfl⟩, rfl⟩
 subst hS'
 have e2 : dX [some m, some b, none, none] S' = .ok (.next ρ') S' := by
  unfold dX
  simp? [hi]
  exact e
 show yX (cY [some m, some b, none, none] S') = _
 unfold cY
 rw [e2]
 rfl)
end
mutual
theorem zUX : ∀ {d : MV}, pd d = true → ∃ nk, wY d = some nk ∧ nQ nk ≤ dpt d
 | .int i, _ => ⟨_, zDS i, by rw [nQ]; exact Nat.zero_le _⟩
 | .str x, _ => ⟨_, zDT x, by rw [nQ]; exact Nat.zero_le _⟩
 | .tup ds, h => by
  obtain ⟨ks, h1, h2⟩ := zXA (by rw [← jV]; exact h : pdL ds = true)
  exact ⟨.tup ks, by rw [zDU, h1]; rfl, by rw [zAE, wJ]; omega⟩
 | .non, h => by rw [pd] at h <;> first | cases h | (intros; simp)
 | .bl _, h => by rw [pd] at h <;> first | cases h | (intros; simp)
 | .scr _, h => by rw [pd] at h <;> first | cases h | (intros; simp)
 | .loc _, h => by rw [pd] at h <;> first | cases h | (intros; simp)
 | .typ _, h => by rw [pd] at h <;> first | cases h | (intros; simp)
theorem zXA : ∀ {ds : List MV}, pdL ds = true → ∃ ks, jW ds = some ks ∧ zIZ ks ≤ zFI ds
 | [], _ => ⟨[], zIM, by rw [zIZ]; exact Nat.zero_le _⟩
 | d :: ds, h => by
  rw [yQ, Bool.and_eq_true] at h
  obtain ⟨k, h1, h2⟩ := zUX h.1
  obtain ⟨ks, h3, h4⟩ := zXA h.2
  exact ⟨k :: ks, by rw [zAK, h1, h3]; rfl, by rw [zJM, yH]; omega⟩
end
section
variable {ts : List (Int × Int)} {m : MV} {S : Sto}
theorem yDA {r : Nat × List MV} (h : ROk ts r) : keyOk (zN r) = true := by
 have hp := zPY h
 obtain ⟨nk, h1, h2⟩ := zUX hp.1
 unfold keyOk
 rw [h1]
 show (zCN (zN r) && decide (nQ nk ≤ 4)) = true
 rw [decide_eq_true (show nQ nk ≤ 4 by omega)]
 rfl
theorem zMV : ∀ {kvs : List (MV × MV)} {k : MV}, (∀ p ∈ kvs, p.1 ≠ k) → look kvs k = none
 | [], k, _ => rfl
 | p :: kvs, k, h => by
  rw [bR, if_neg (h p List.mem_cons_self)]
  exact zMV fun q hq => h q (List.mem_cons_of_mem _ hq)
def zBT (rs : List (Nat × List MV)) : List (MV × MV) := rs.map fun r => (zN r, .bl true)
theorem yIG {T : Sto} {l : Nat} {rs : List (Nat × List MV)} (hS : T[l]? = some (.dic (zBT rs))) : zGY T (.val (.loc l)) = some (l, zBT rs) := by
 unfold zGY
 dsimp only
 rw [hS]
 dsimp only
 rw [if_pos]
 rw [List.all_eq_true]
 intro p hp
 obtain ⟨r, _, rfl⟩ := List.mem_map.mp hp
 rfl
theorem yER {b : MV} {T : Sto} {l : Nat} {x2 : Option MV} {rs : List (Nat × List MV)} {r : Nat × List MV} (hS : T[l]? = some (.dic (zBT rs))) (hr : ROk ts r) (hn : r ∉ rs) (hl : rs.length < 1000) :
  gY [some m, some b, x2, some (zN r), some (.loc l)] T = .ok (.next [some m, some b, x2, some (zN r), some (.loc l)]) (T.set l (.dic (zBT (rs ++ [r])))) := by
 have hlk : look (zBT rs) (zN r) = none := zMV fun p hp => by
  obtain ⟨q, hq, rfl⟩ := List.mem_map.mp hp
  intro e
  have e : zN q = zN r := e
  rw [zWW e] at hq
  exact hn hq
 have hin : yEF false (.val (zN r)) (.val (.loc l)) T = .ok (.val (.bl false)) T := by
  unfold yEF
  dsimp only
  rw [yIG hS]
  dsimp only
  rw [if_pos (yDA hr), hlk]
  rfl
 have hset : ∀ ρ, zWR (.val (.loc l)) (.val (zN r)) (.bl true) ρ T = .ok ρ (T.set l (.dic (zBT (rs ++ [r])))) := fun ρ => by
  unfold zWR
  dsimp only
  rw [yIG hS]
  dsimp only
  rw [if_pos ⟨yDA hr, by unfold zBT; rw [List.length_map]; omega⟩]
  unfold putK
  rw [hlk]
  unfold zBT
  rw [if_neg (by simp), List.map_append]
  rfl
 have e1 : bX [some m, some b, x2, some (zN r), some (.loc l)] T = .ok (.next [some m, some b, x2, some (zN r), some (.loc l)]) T := by
  unfold bX
  simp? [hin]
  rfl
 have e2 : bY [some m, some b, x2, some (zN r), some (.loc l)] T = .ok (.next [some m, some b, x2, some (zN r), some (.loc l)]) (T.set l (.dic (zBT (rs ++ [r])))) := by
  unfold bY
  simp? [yCS, hset]
 unfold gY
 rw [zD e1, e2]
theorem yPS (hm : SqM S m (ts.map tbl)) (hT : TOk ts) {b : MV} {rs : List (Nat × List MV)} (hb : SqM S b (rs.map zN)) (h : ∀ r ∈ rs, ROk ts r) (hn : rs.Nodup) (hl : rs.length ≤ 60) : zJ 2 nV [.val m, .val b] S = .ok (.val .non) S := by
 obtain ⟨gs, hi, hs, _⟩ := hb.src
 obtain ⟨ρ', S', e, ⟨y2, y3, hρ'⟩, hS'⟩ := zJR (L := zIX (rs.map zN)) (gf := gTp 2 (yC (gNm 2) (yC (gNm 3) kJ))) (body := zAP) (gs := gs) (S := S) (ρ := [some m, some b, none, none, none]) (fun i ρ S' => (∃ x1 x2, ρ = [some m, some b, x1, x2, none]) ∧ S' = S) (fun i d hd ρ S1 ⟨⟨x1, x2, hρ⟩, hS1⟩ => by
  subst hρ hS1
  obtain ⟨f, hf, rfl⟩ := zOF hd
  obtain ⟨p, hp, rfl⟩ := List.mem_map.mp (List.mem_of_getElem? hf)
  refine ⟨[some m, some b, some (.int (i : Nat)), some (zN p), none], S1, ?_, hs, ⟨_, _, rfl⟩, rfl⟩
  rw [show gTp 2 (yC (gNm 2) (yC (gNm 3) kJ)) (.tup [.int (i : Nat), zN p]) [some m, some b, x1, x2, none] S1 = .ok [some m, some b, some (.int (i : Nat)), some (zN p), none] S1 from rfl, bok]
  unfold zAP zDW
  simp? [c_row hm (h p hp) hT]
  rfl) ⟨⟨none, none, rfl⟩, rfl⟩
 rw [hρ', hS'] at e
 have e1 : zAQ [some m, some b, none, none, none] S = .ok (.next [some m, some b, y2, y3, none]) S := by
  unfold zAQ
  simp? [hi]
  exact e
 have e2 : zAR [some m, some b, y2, y3, none] S = .ok (.next [some m, some b, y2, y3, some (.loc S.length)]) (S ++ [.dic (zBT [])]) := by
  unfold zAR
  simp? [show zWP S = .ok (.val (.loc S.length)) (S ++ [.dic []]) from rfl]
  rfl
 obtain ⟨gs2, hi2, hs2, _⟩ := (hb.app (T := [.dic (zBT [])])).src
 have stays : ∀ kvs, stay gs2 (S ++ [.dic kvs]) := fun kvs => by
  rcases hb with rfl | ⟨l, rfl, hS⟩
  ·have : gs2 = [] := by have := hi2; injection this with h1 _; injection h1 with _ h2; exact h2.symm
   rw [this]; exact gB _
  ·have hll : l < S.length := (zQ1.mp hS).1
   intro p hp
   have hx := hs2 p hp
   have hpl : p.1 < S.length := by
    by_cases hlt : p.1 < S.length
    ·exact hlt
    ·have hlen := (zQ1.mp hx).1
     rw [zQ4, List.length_singleton] at hlen
     rw [show p.1 = S.length by omega, List.getElem?_append_right (Nat.le_refl _), Nat.sub_self] at hx
     cases hx
   rw [zQ2 hpl] at hx ⊢
   exact hx
 obtain ⟨ρ'', S'', e', ⟨z2, z3, hρ''⟩, hS''⟩ := zJR (L := zIX (rs.map zN)) (gf := gTp 2 (yC (gNm 2) (yC (gNm 3) kJ))) (body := gY) (gs := gs2) (S := S ++ [.dic (zBT [])]) (ρ := [some m, some b, y2, y3, some (.loc S.length)]) (fun i ρ S' => (∃ x1 x2, ρ = [some m, some b, x1, x2, some (.loc S.length)]) ∧ S' = S ++ [.dic (zBT (rs.take i))]) (fun i d hd ρ S1 ⟨⟨x1, x2, hρ⟩, hS1⟩ => by
  subst hρ hS1
  obtain ⟨f, hf, rfl⟩ := zOF hd
  rw [List.getElem?_map] at hf
  cases zr : rs[i]? with
  | none => rw [zr] at hf; cases hf
  | some r =>
   rw [zr] at hf
   obtain rfl : zN r = f := Option.some.inj hf
   have hil : i < rs.length := (zQ1.mp zr).1
   have hri : rs[i] = r := (zQ1.mp zr).2
   have hnot : r ∉ rs.take i := by
    intro hmem
    obtain ⟨j, hj, ej⟩ := List.mem_iff_getElem.mp hmem
    rw [List.length_take] at hj
    rw [List.getElem_take] at ej
    have := (List.getElem_inj hn).mp (ej.trans hri.symm)
    omega
   have htk : rs.take i ++ [r] = rs.take (i + 1) := by rw [List.take_succ_eq_append_getElem hil, hri]
   have hb2 := yER (ts := ts) (m := m) (b := b) (T := S ++ [.dic (zBT (rs.take i))]) (l := S.length) (x2 := some (.int (i : Nat))) (rs := rs.take i) (r := r) (by simp) (h r (List.mem_of_getElem? zr)) hnot (by rw [List.length_take]; omega)
   refine ⟨[some m, some b, some (.int (i : Nat)), some (zN r), some (.loc S.length)], S ++ [.dic (zBT (rs.take (i + 1)))], ?_, stays _, ⟨_, _, rfl⟩, rfl⟩
   rw [show gTp 2 (yC (gNm 2) (yC (gNm 3) kJ)) (.tup [.int (i : Nat), zN r]) [some m, some b, x1, x2, some (.loc S.length)] (S ++ [.dic (zBT (rs.take i))]) = .ok [some m, some b, some (.int (i : Nat)), some (zN r), some (.loc S.length)] (S ++ [.dic (zBT (rs.take i))]) from rfl, bok, hb2, htk]
   have hfin : List.set (S ++ [MO.dic (zBT (rs.take i))]) S.length (MO.dic (zBT (rs.take (i + 1)))) = S ++ [MO.dic (zBT (rs.take (i + 1)))] := by simp
   rw [hfin]) ⟨⟨y2, y3, rfl⟩, by rw [List.take_zero]⟩
 have e3 : zAS [some m, some b, y2, y3, some (.loc S.length)] (S ++ [.dic (zBT [])]) = .ok (.next ρ'') S'' := by
  unfold zAS
  simp? [hi2]
  exact e'
 refine zLT (T := [.dic (zBT (rs.take (zIX (rs.map zN)).length))]) rfl ?_
 show yX (nU [some m, some b, none, none, none] S) = _
 unfold nU
 rw [zD e1, zD e2, e3, hS'']
 rfl
end
section
variable {ts : List (Int × Int)} {S : Sto}
theorem SqM.tuple {m : MV} {ds : List MV} (h : SqM S m ds) : dS [.val m] S = .ok (.val (.tup ds)) S := by
 rcases h with rfl | ⟨l, rfl, hS⟩
 ·rfl
 ·exact zIU hS
theorem yIH {a b c : MV} {rl : List Rule} {rs : List (Nat × List MV)} (ha : SqM S a (ts.map tbl)) (hb : SqM S b (rl.map yO)) (hc : SqM S c (rs.map zN)) (hT : TOk ts) (hR : ∀ r ∈ rl, zLS ts r) (hrl : rl.length ≤ 6) (hr : ∀ r ∈ rs, ROk ts r) (hn : rs.Nodup) (hl : rs.length ≤ 60) :
  zJ 3 bZ [.val a, .val b, .val c] S = .ok (.val (.tup [.tup (ts.map tbl), .tup (rl.map yO), .tup (rs.map zN)])) S := by
 refine bQ rfl ?_ (wH (xN fun d hd => ?_)) (fun l => by simp)
 ·have e1 : zHI [some a, some b, some c] S = .ok (.next [some a, some b, some c]) S := by
   unfold zHI
   simp? [yLV ha hb hc (by rw [List.length_map]; exact hT.2.1) (by rw [List.length_map]; exact hrl) (by rw [List.length_map]; exact hl)]
  have e2 : zHJ [some a, some b, some c] S = .ok (.next [some a, some b, some c]) S := by
   unfold zHJ
   simp? [yIF ha hT]
  have e3 : zHK [some a, some b, some c] S = .ok (.next [some a, some b, some c]) S := by
   unfold zHK
   simp? [yLW ha hb hR]
  have e4 : zHL [some a, some b, some c] S = .ok (.next [some a, some b, some c]) S := by
   unfold zHL
   simp? [yPS ha hT hc hr hn hl]
  have e5 : zHM [some a, some b, some c] S = .ok (.ret (.val (.tup [.tup (ts.map tbl), .tup (rl.map yO), .tup (rs.map zN)]))) S := by
   unfold zHM
   simp? [ha.tuple, hb.tuple, hc.tuple]
  show yX (zIT [some a, some b, some c] S) = _
  unfold zIT
  rw [zD e1, zD e2, zD e3, zD e4, e5]
  rfl
 ·simp only [List.mem_cons, List.not_mem_nil, or_false] at hd
  rcases hd with rfl | rfl | rfl
  ·exact wH (xN fun e he => by
    obtain ⟨p, _, rfl⟩ := List.mem_map.mp he
    exact wH (xN fun e he => by simp at he; rcases he with rfl | rfl <;> exact gR _ _))
  ·exact wH (xN fun e he => by obtain ⟨r, hr', rfl⟩ := List.mem_map.mp he; exact yCW (hR r hr') _)
  ·exact wH (xN fun e he => by obtain ⟨r, hr', rfl⟩ := List.mem_map.mp he; exact yAF (hr r hr') _)
end
theorem yLX (i : Int) (S : Sto) : zRF (.val (.int i)) (.val .non) S = .ok (.val (.bl false)) S := rfl
theorem yLY (i : List Nat) (S : Sto) : zRF (.val (.str i)) (.val .non) S = .ok (.val (.bl false)) S := rfl
theorem yII (i : List MV) (S : Sto) : zRF (.val (.tup i)) (.val .non) S = .ok (.val (.bl false)) S := rfl
theorem yPT (i : List MV) (S : Sto) : jU [.val (.tup i), .val (.typ "str")] S = .ok (.val (.bl false)) S := rfl
theorem yPU (i : List MV) (S : Sto) : jU [.val (.tup i), .val (.typ "int")] S = .ok (.val (.bl false)) S := rfl
theorem yPV (i : List MV) (S : Sto) : jU [.val (.tup i), .val (.typ "list")] S = .ok (.val (.bl false)) S := rfl
theorem zFK (ds : List MV) : pairs ds ds = ds.map fun d => .tup [d, d] := by
 induction ds with
 | nil => rfl
 | cons d ds ih => show MV.tup [d, d] :: pairs ds ds = _; rw [ih]; rfl
mutual
def sm : MV → Bool
 | .tup ds => decide (ds.length < 1000) && smL ds
 | _ => true
def smL : List MV → Bool
 | [] => true
 | d :: ds => sm d && smL ds
end
theorem nJ (ds : List MV) : sm (.tup ds) = (decide (ds.length < 1000) && smL ds) := by rw [sm]
theorem xA (d : MV) (ds : List MV) : smL (d :: ds) = (sm d && smL ds) := by rw [smL]
theorem yDB : ∀ {ds : List MV}, smL ds = true → ∀ d ∈ ds, sm d = true
 | [], _, d, h => by simp at h
 | e :: ds, hp, d, h => by
  rw [xA, Bool.and_eq_true] at hp
  rcases List.mem_cons.mp h with rfl | h
  ·exact hp.1
  ·exact yDB hp.2 d h
theorem zFL : ∀ {ds : List MV}, (∀ d ∈ ds, sm d = true) → smL ds = true
 | [], _ => by rw [smL]
 | d :: ds, h => by rw [xA, h d List.mem_cons_self, zFL fun e he => h e (List.mem_cons_of_mem _ he)]; rfl
theorem zXB : ∀ (n : Nat) {d : MV} (S : Sto), pd d = true → sm d = true → dpt d < n → zJ 2 (zK n) [.val d, .val d] S = .ok (.val (.bl true)) S
 | 0, d, S, _, _, h => by omega
 | n + 1, d, S, hp, hsm, h => wB rfl (by
  show yX (jP (zK n) [some d, some d] S) = _
  unfold jP
  rcases zPV hp with ⟨i, rfl⟩ | ⟨x, rfl⟩ | ⟨ds, rfl, pds⟩
  ·rw [zD (show yY (zK n) [some (.int i), some (.int i)] S = .ok (.next [some (.int i), some (.int i)]) S by unfold yY; simp? [yLX]; rfl)]
   rw [zD (show yZ (zK n) [some (.int i), some (.int i)] S = .ok (.next [some (.int i), some (.int i)]) S by unfold yZ; simp? [bok]; rfl)]
   rw [zCB (show wE (zK n) [some (.int i), some (.int i)] S = .ok (.ret (.val (.bl true))) S by unfold wE; simp? [yIB, yIC, jS]; first | rfl | simp [bok])]
   rfl
  ·rw [zD (show yY (zK n) [some (.str x), some (.str x)] S = .ok (.next [some (.str x), some (.str x)]) S by unfold yY; simp? [yLY]; rfl)]
   rw [zCB (show yZ (zK n) [some (.str x), some (.str x)] S = .ok (.ret (.val (.bl true))) S by unfold yZ; simp? [jS, eq_str]; first | rfl | simp [bok])]
   rfl
  ·rw [wJ] at h
   rw [nJ, Bool.and_eq_true, decide_eq_true_eq] at hsm
   have hlen : ds.length < 1000000 := by omega
   have hc : wN (gTp 2 (yC (gNm 0) (yC (gNm 1) kJ))) (cB (zK n)) (wT (zK n)) [none, none] [] (pairs ds ds) S = .ok ((pairs ds ds).map fun _ => .bl true) S := gS (gB S) fun e he => by
    rw [zFK] at he
    obtain ⟨x, hx, rfl⟩ := List.mem_map.mp he
    refine ⟨[some x, some x], rfl, rfl, ?_⟩
    unfold wT
    simp? [zXB n S (zOE pds x hx) (yDB hsm.2 x hx) (by have := zPU x hx; omega)]
   rw [zD (show yY (zK n) [some (.tup ds), some (.tup ds)] S = .ok (.next [some (.tup ds), some (.tup ds)]) S by unfold yY; simp? [yII]; rfl)]
   rw [zD (show yZ (zK n) [some (.tup ds), some (.tup ds)] S = .ok (.next [some (.tup ds), some (.tup ds)]) S by unfold yZ; simp? [yPT]; rfl)]
   rw [zD (show wE (zK n) [some (.tup ds), some (.tup ds)] S = .ok (.next [some (.tup ds), some (.tup ds)]) S by unfold wE; simp? [yPU]; rfl)]
   rw [zD (show jE (zK n) [some (.tup ds), some (.tup ds)] S = .ok (.next [some (.tup ds), some (.tup ds)]) S by unfold jE; simp? [yPV]; rfl)]
   rw [zD (show jF (zK n) [some (.tup ds), some (.tup ds)] S = .ok (.next [some (.tup ds), some (.tup ds)]) S by unfold jF; simp? [bok]; rfl)]
   unfold zAU
   simp? [zCG, jS, show itZ [.val (.tup ds), .val (.tup ds)] S = .ok ⟨pairs ds ds, []⟩ S from rfl]
   rw [if_pos (show (pairs ds ds).length < 1000000 by rw [zFK, List.length_map]; exact hlen)]
   rw [show blk 2 [] [some (.tup ds), some (.tup ds)] = [none, none] from rfl, hc, zBA]
   simp [bok, zAZ]
   rfl)
theorem zUY (ns : List Int) (k : Int) (hk : 0 ≤ k) (S : Sto) : ∃ c, zJ 2 yU [.val (.scr (ns.map MV.int)), .val (.int k)] S = .ok (.val (.int c)) S := by
 have hlen : kB [.val (.scr (ns.map MV.int))] S = .ok (.val (.int ns.length)) S := by
  show R.ok (Er.val (.int (((ns.map MV.int).length : Nat) : Int))) S = _
  rw [List.length_map]
 have e1 : cA [some (.scr (ns.map MV.int)), some (.int k)] S = if decide (k < ns.length) = true then (ixF (.val (.scr (ns.map MV.int))) (.val (.int k)) S).bind fun r S1 => .ok (.ret r) S1 else .ok (.next [some (.scr (ns.map MV.int)), some (.int k)]) S := by
  unfold cA
  simp? [hlen, lt_int]
 have fin : ∀ c, yU [.scr (ns.map MV.int), .int k] S = .ok (.val (.int c)) S → ∃ c, zJ 2 yU [.val (.scr (ns.map MV.int)), .val (.int k)] S = .ok (.val (.int c)) S := fun c h => ⟨c, bQ rfl h (gR _ _) (fun l => by simp)⟩
 have hs : yA ["_law_script", "_law_k"] [.scr (ns.map MV.int), .int k] = [some (.scr (ns.map MV.int)), some (.int k)] := rfl
 by_cases hlt : k < ns.length
 ·obtain ⟨d, hd⟩ := zLC (xs := ns.map MV.int) (i := k) hk (by rw [List.length_map]; exact hlt)
  obtain ⟨c, rfl⟩ : ∃ c, d = .int c := zLD (P := fun d => ∃ c, d = .int c) (fun e he => by obtain ⟨c, _, rfl⟩ := List.mem_map.mp he; exact ⟨c, rfl⟩) hd
  have hix : ixF (.val (.scr (ns.map MV.int))) (.val (.int k)) S = .ok (.val (.int c)) S := by
   show (match atI (ns.map MV.int) k with | some d => R.ok (Er.val d) S | none => .no) = _
   rw [hd]
  refine fin c ?_
  rw [decide_eq_true hlt, if_pos rfl, hix, bok] at e1
  unfold yU gZ
  rw [hs, zCB e1]
  rfl
 ·refine fin 0 ?_
  rw [decide_eq_false hlt, if_neg zQ3] at e1
  unfold yU gZ
  rw [hs, zD e1]
  rfl
theorem yDC {ws : List Int} {sd : Side} (h : yHY ws sd) : pd (kL sd) = true ∧ dpt (kL sd) ≤ 1 ∧ sm (kL sd) = true := by
 cases sd with
 | isv v =>
  have hv : Vl v := h
  rcases hv.cases with ⟨i, rfl, _⟩ | ⟨x, rfl, _⟩ <;> (unfold kL; simp [pd, pdL, dpt, zFI, sm, smL])
 | cell k j => unfold kL; simp [pd, pdL, dpt, zFI, sm, smL]
theorem zUZ {ws : List Int} {q : Test} (h : zWX ws q) : pd (testM q) = true ∧ dpt (testM q) ≤ 2 ∧ sm (testM q) = true := by
 obtain ⟨a1, a2, a3⟩ := yDC h.1
 obtain ⟨b1, b2, b3⟩ := yDC h.2.2
 unfold testM
 refine ⟨by simp [pd, pdL, a1, b1], ?_, by simp [sm, smL, a3, b3]⟩
 rw [wJ, yH, yH, yH, dG, zIV]
 omega
theorem zXC {ws : List Int} {qs : List Test} (h : ∀ q ∈ qs, zWX ws q) (hl : qs.length ≤ 3) : pd (.tup (qs.map testM)) = true ∧ dpt (.tup (qs.map testM)) ≤ 3 ∧ sm (.tup (qs.map testM)) = true := by
 refine ⟨?_, ?_, ?_⟩
 ·rw [jV]; exact zCH fun d hd => by obtain ⟨q, hq, rfl⟩ := List.mem_map.mp hd; exact (zUZ (h q hq)).1
 ·rw [wJ]; have := zCI (n := 2) (ds := qs.map testM) fun d hd => by obtain ⟨q, hq, rfl⟩ := List.mem_map.mp hd; exact (zUZ (h q hq)).2.1
  omega
 ·rw [nJ, decide_eq_true (by rw [List.length_map]; omega), zFL fun d hd => by obtain ⟨q, hq, rfl⟩ := List.mem_map.mp hd; exact (zUZ (h q hq)).2.2]; rfl
theorem yDD {cs : List Nat} (hl : cs.length ≤ 3) : pd (.tup (cs.map xX)) = true ∧ dpt (.tup (cs.map xX)) ≤ 1 ∧ sm (.tup (cs.map xX)) = true := by
 refine ⟨?_, ?_, ?_⟩
 ·rw [jV]; exact zCH fun d hd => by obtain ⟨q, hq, rfl⟩ := List.mem_map.mp hd; exact zDF _
 ·rw [wJ]; have := zCI (n := 0) (ds := cs.map xX) fun d hd => by obtain ⟨q, hq, rfl⟩ := List.mem_map.mp hd; exact Nat.le_of_eq (dB _)
  omega
 ·rw [nJ, decide_eq_true (by rw [List.length_map]; omega), zFL fun d hd => by obtain ⟨q, hq, rfl⟩ := List.mem_map.mp hd; unfold xX; simp [sm]]; rfl
theorem zVA {ts : List (Int × Int)} {r : Rule} (h : zLS ts r) : pd (yO r) = true ∧ dpt (yO r) ≤ 4 ∧ sm (yO r) = true := by
 cases r with
 | never t qs =>
  obtain ⟨a1, a2, a3⟩ := zXC h.2.2.2 h.2.2.1
  unfold yO
  refine ⟨?_, ?_, ?_⟩
  ·rw [jV, yQ, yQ, yQ, zFJ, a1, zMU, zDF]; rfl
  ·rw [wJ, yH, yH, yH, dG, zIV, dB]; omega
  ·rw [nJ, xA, xA, xA, a3]; simp [sm, smL]
 | apart t u qs =>
  obtain ⟨a1, a2, a3⟩ := zXC h.2.2.2.2 h.2.2.2.1
  unfold yO
  refine ⟨?_, ?_, ?_⟩
  ·rw [jV, yQ, yQ, yQ, yQ, zFJ, a1, zMU, zDF, zDF]; rfl
  ·rw [wJ, yH, yH, yH, yH, dG, zIV, dB, dB]; omega
  ·rw [nJ, xA, xA, xA, xA, a3]; simp [sm, smL]
 | tie t cs u ds =>
  obtain ⟨_, _, _, hc, hd, _⟩ := h
  obtain ⟨a1, a2, a3⟩ := yDD (cs := cs) hc
  obtain ⟨b1, b2, b3⟩ := yDD (cs := ds) (by omega)
  unfold yO
  refine ⟨?_, ?_, ?_⟩
  ·rw [jV, yQ, yQ, yQ, yQ, yQ, zFJ, a1, b1, zMU, zDF, zDF]; rfl
  ·rw [wJ, yH, yH, yH, yH, yH, dG, zIV, dB, dB]; omega
  ·rw [nJ, xA, xA, xA, xA, xA, a3, b3]; simp [sm, smL]
theorem yAI (p : Int × Int) : pd (tbl p) = true ∧ dpt (tbl p) ≤ 1 ∧ sm (tbl p) = true := by unfold tbl; simp [pd, pdL, dpt, zFI, sm, smL]
theorem yPW {ts : List (Int × Int)} (hT : TOk ts) {r : Nat × List MV} (h : ROk ts r) : sm (zN r) = true := by
 obtain ⟨p, hp, hl, hv⟩ := h
 have hw := hT.2.2 p (List.mem_of_getElem? hp)
 have hs : smL r.2 = true := zFL fun d hd => by
  rcases (hv d hd).cases with ⟨i, rfl, _⟩ | ⟨x, rfl, _⟩ <;> simp [sm]
 unfold zN
 rw [nJ, xA, xA, nJ, hs, decide_eq_true (show r.2.length < 1000 by omega)]
 simp [sm, smL]
def zXD (ts : List (Int × Int)) (t : Nat) : Nat := (((ts[t]?).map fun p : Int × Int => p.2).getD 0).toNat
def xS (ts : List (Int × Int)) (r : Nat × List MV) : MV := .tup [.int r.1, .tup (r.2.take (zXD ts r.1))]
section
variable {ts : List (Int × Int)}
theorem yIJ {r : Nat × List MV} (h : ROk ts r) : pd (xS ts r) = true ∧ dpt (xS ts r) ≤ 2 := by
 obtain ⟨p, _, _, hv⟩ := h
 have hv' : ∀ d ∈ r.2.take (zXD ts r.1), Vl d := fun d hd => hv d (List.mem_of_mem_take hd)
 have h1 : pdL (r.2.take (zXD ts r.1)) = true := zCH fun d hd => (yCT (hv' d hd)).1
 have h2 : zFI (r.2.take (zXD ts r.1)) ≤ 0 := zCI fun d hd => by rw [(yCT (hv' d hd)).2]; exact Nat.le_refl _
 unfold xS
 refine ⟨by rw [jV, yQ, yQ, zFJ, zDF, jV, h1]; rfl, ?_⟩
 rw [wJ, yH, yH, dG, dB, wJ]
 omega
theorem yPX {r : Nat × List MV} (h : ROk ts r) (n : Nat) : lo n (xS ts r) := by
 obtain ⟨p, _, _, hv⟩ := h
 refine wH (xN fun d hd => ?_)
 simp only [List.mem_cons, List.not_mem_nil, or_false] at hd
 rcases hd with rfl | rfl
 ·exact gR _ _
 ·exact wH (xN fun e he => (hv e (List.mem_of_mem_take he)).lo n)
theorem yDE {r : Nat × List MV} (h : ROk ts r) : keyOk (xS ts r) = true := by
 obtain ⟨h1, h2⟩ := yIJ h
 obtain ⟨nk, h3, h4⟩ := zUX h1
 unfold keyOk
 rw [h3]
 show (true && decide (nQ nk ≤ 4)) = true
 rw [decide_eq_true (by omega)]
 rfl
theorem yMM {r : Nat × List MV} (hT : TOk ts) (h : ROk ts r) (S : Sto) : zJ 2 zLJ [.val (.tup (ts.map tbl)), .val (zN r)] S = .ok (.val (xS ts r)) S := by
 have hk := yPX h S.length
 obtain ⟨p, hp, hl, hv⟩ := h
 have h0 := (hT.2.2 p (List.mem_of_getElem? hp)).2.2.1
 have kn : zXD ts r.1 = p.2.toNat := by unfold zXD; rw [hp]; rfl
 refine bQ rfl ?_ hk (fun l => by unfold xS; simp)
 show yX (zLI [some (.tup (ts.map tbl)), some (.tup [.int r.1, .tup r.2])] S) = _
 have i0 : ∀ S, ixF (.val (.tup [.int r.1, .tup r.2])) (.val (.int 0)) S = .ok (.val (.int r.1)) S := fun S => rfl
 have i1 : ∀ S, ixF (.val (.tup [.int r.1, .tup r.2])) (.val (.int 1)) S = .ok (.val (.tup r.2)) S := fun S => rfl
 have t1 : ∀ S, ixF (.val (tbl p)) (.val (.int 1)) S = .ok (.val (.int p.2)) S := fun S => rfl
 have ct : ∀ S, zKY (.val (.tup r.2)) none (some p.2) S = .ok (.val (.tup (bK r.2 none (some p.2)))) S := fun S => rfl
 unfold zLI zPN
 simp? [i0, i1, ix_tup (S := S) (zUV hp), t1, ct, zUG _ _ h0]
 unfold xS
 rw [kn]
 rfl
theorem zVB {a b c : MV} {rl : List MV} (hb : b = .tup rl) (S : Sto) : zJ 1 kD [.val (.tup [a, b, c])] S = .ok (.val (.bl (decide (rl.length = 0)))) S := wB rfl (by
 subst hb
 show yX (zEH [some (.tup [a, .tup rl, c])] S) = _
 have i1 : ∀ S, ixF (.val (.tup [a, .tup rl, c])) (.val (.int 1)) S = .ok (.val (.tup rl)) S := fun S => rfl
 unfold zEH zLK
 simp? [i1, zCG]
 rw [dec_is (show ((rl.length : Nat) : Int) = 0 ↔ rl.length = 0 by omega)]
 rfl)
end
inductive LsAt (S : Sto) : List MV → List (List Nat) → Prop
 | nil : LsAt S [] []
 | cons {l : Nat} {ps : List Nat} {ls : List MV} {pss : List (List Nat)} : S[l]? = some (.lst (ps.map xX)) → LsAt S ls pss → LsAt S (.loc l :: ls) (ps :: pss)
theorem LsAt.other {S : Sto} {l : Nat} {o : MO} : ∀ {ls : List MV} {pss : List (List Nat)}, LsAt S ls pss → MV.loc l ∉ ls → LsAt (S.set l o) ls pss
 | _, _, .nil, _ => .nil
 | _, _, .cons (l := l0) h t, hn => .cons (by rw [List.getElem?_set_ne (fun z => hn (by rw [z]; exact List.mem_cons_self))]; exact h) (t.other fun z => hn (List.mem_cons_of_mem _ z))
theorem LsAt.app {S T : Sto} : ∀ {ls : List MV} {pss : List (List Nat)}, LsAt S ls pss → LsAt (S ++ T) ls pss
 | _, _, .nil => .nil
 | _, _, .cons h t => .cons (by rw [zQ2 (zQ1.mp h).1]; exact h) t.app
theorem LsAt.in {S : Sto} {d : MV} : ∀ {ls : List MV} {pss : List (List Nat)}, LsAt S ls pss → d ∈ ls → ∃ l ps, d = .loc l ∧ S[l]? = some (.lst (List.map xX ps))
 | _, _, .cons (l := l0) (ps := ps) h t, hd => by
  rcases List.mem_cons.mp hd with rfl | hd
  ·exact ⟨l0, ps, rfl, h⟩
  ·exact t.in hd
theorem LsAt.lt {S : Sto} {ls : List MV} {pss : List (List Nat)} (h : LsAt S ls pss) {n : Nat} (hn : S.length ≤ n) : MV.loc n ∉ ls := fun z => by
 obtain ⟨l, ps, e, hl⟩ := h.in z
 cases e
 have := (zQ1.mp hl).1
 omega
theorem LsAt.snoc {S : Sto} {l : Nat} {ps : List Nat} (hl : S[l]? = some (.lst (ps.map xX))) : ∀ {ls : List MV} {pss : List (List Nat)}, LsAt S ls pss → LsAt S (ls ++ [.loc l]) (pss ++ [ps])
 | _, _, .nil => .cons hl .nil
 | _, _, .cons h t => .cons h (t.snoc hl)
noncomputable def zDG (k : MV) (i : Nat) : List MV → List (List Nat) → List (List Nat)
 | c :: ks, ps :: pss => if c = k then (ps ++ [i]) :: pss else ps :: zDG k i ks pss
 | _, _ => []
theorem yAJ {S : Sto} {k d : MV} {i : Nat} : ∀ {kvs : List (MV × MV)} {pss : List (List Nat)}, LsAt S (kvs.map (·.2)) pss → (kvs.map (·.2)).Nodup → look kvs k = some d →
  ∃ l ps, d = .loc l ∧ MV.loc l ∈ kvs.map (·.2) ∧ S[l]? = some (.lst (List.map xX ps)) ∧ LsAt (S.set l (.lst ((ps ++ [i]).map xX))) (kvs.map (·.2)) (zDG k i (kvs.map (·.1)) pss)
 | [], _, _, _, h => by cases h
 | (c, v) :: kvs, pss, hl, hn, h => by
  rw [bR] at h
  rw [List.map_cons] at hl hn
  rw [List.nodup_cons] at hn
  cases hl with
  | @cons l0 ps0 _ pss' h0 t =>
   by_cases e : c = k
   ·rw [if_pos e] at h
    cases h
    refine ⟨l0, ps0, rfl, List.mem_cons_self, h0, ?_⟩
    rw [List.map_cons, List.map_cons]
    unfold zDG
    rw [if_pos e]
    exact .cons (List.getElem?_set_self (zQ1.mp h0).1) (t.other hn.1)
   ·rw [if_neg e] at h
    obtain ⟨l, ps, h1, h2, h3, h4⟩ := yAJ (i := i) t hn.2 h
    refine ⟨l, ps, h1, List.mem_cons_of_mem _ h2, h3, ?_⟩
    rw [List.map_cons, List.map_cons]
    unfold zDG
    rw [if_neg e]
    have ne : l ≠ l0 := fun z => hn.1 (by rw [← z]; exact h2)
    exact .cons (by rw [List.getElem?_set_ne ne]; exact h0) h4
noncomputable def zHT : List MV → Nat → List MV → List (List Nat) → List MV × List (List Nat)
 | [], _, ks, pss => (ks, pss)
 | k :: r, i, ks, pss => if k ∈ ks then zHT r (i + 1) ks (zDG k i ks pss) else zHT r (i + 1) (ks ++ [k]) (pss ++ [[i]])
theorem zSZ {k : MV} : ∀ {kvs : List (MV × MV)}, k ∈ kvs.map (·.1) → ∃ d, look kvs k = some d
 | [], h => by cases h
 | p :: kvs, h => by
  rw [bR]
  by_cases e : p.1 = k
  ·exact ⟨p.2, if_pos e⟩
  ·rw [if_neg e]
   rcases List.mem_cons.mp h with z | z
   ·exact absurd z.symm e
   ·exact zSZ z
theorem yIK {k : MV} {kvs : List (MV × MV)} (h : k ∉ kvs.map (·.1)) : look kvs k = none := zMV fun p hp z => h (by rw [← z]; exact List.mem_map_of_mem hp)
theorem zLU {T : Sto} {l : Nat} {kvs : List (MV × MV)} (hS : T[l]? = some (.dic kvs)) (hk : kvs.all (fun p => zCN p.1) = true) : zGY T (.val (.loc l)) = some (l, kvs) := by
 unfold zGY
 dsimp only
 rw [hS]
 dsimp only
 rw [if_pos hk]
section
variable {ts : List (Int × Int)} {b0 : MV}
abbrev B4 (q : MV) (D : Nat) (i r : Option MV) : Rho := [some q, some (.loc D), i, r]
theorem yIL {S : Sto} {D i : Nat} {rl rr : MV} {r : Nat × List MV} {kvs : List (MV × MV)} {pss : List (List Nat)} (hT : TOk ts) (hr : ROk ts r) (hD : S[D]? = some (.dic kvs)) (hk : kvs.all (fun p => zCN p.1) = true) (hlen : kvs.length < 1000)
  (hl : LsAt S (kvs.map (·.2)) pss) (hn : (kvs.map (·.2)).Nodup) (hDn : MV.loc D ∉ kvs.map (·.2)) (hz : ∀ l ps, MV.loc l ∈ kvs.map (·.2) → S[l]? = some (.lst (List.map xX ps)) → ps.length < 1000) :
  ∃ (S' : Sto) (kvs' : List (MV × MV)), S'[D]? = some (.dic kvs') ∧ kvs'.all (fun p => zCN p.1) = true ∧ kvs'.length ≤ kvs.length + 1 ∧ (kvs'.map (·.2)).Nodup ∧ MV.loc D ∉ kvs'.map (·.2) ∧ S.length ≤ S'.length ∧ (∀ m o, S[m]? = some o → m ≠ D → MV.loc m ∉ kvs.map (·.2) → S'[m]? = some o) ∧
   (∀ m, MV.loc m ∈ kvs'.map (·.2) → MV.loc m ∈ kvs.map (·.2) ∨ S.length ≤ m) ∧
   (if xS ts r ∈ kvs.map (·.1) then kvs'.map (·.1) = kvs.map (·.1) ∧ LsAt S' (kvs'.map (·.2)) (zDG (xS ts r) i (kvs.map (·.1)) pss) else kvs'.map (·.1) = kvs.map (·.1) ++ [xS ts r] ∧ LsAt S' (kvs'.map (·.2)) (pss ++ [[i]])) ∧
   zAL (B4 (.tup [.tup (ts.map tbl), rl, rr]) D (some (.int (i : Nat))) (some (zN r))) S = .ok (.next (B4 (.tup [.tup (ts.map tbl), rl, rr]) D (some (.int (i : Nat))) (some (zN r)))) S' := by
 have i0 : ∀ S, ixF (.val (.tup [.tup (ts.map tbl), rl, rr])) (.val (.int 0)) S = .ok (.val (.tup (ts.map tbl))) S := fun S => rfl
 have hD' : (S ++ [MO.lst []])[D]? = some (.dic kvs) := by rw [zQ2 (zQ1.mp hD).1]; exact hD
 have dlt : D < S.length := (zQ1.mp hD).1
 have isd : yCO (.val (.loc D)) S = true := by unfold yCO; rw [zLU hD hk]; rfl
 have e1 : hU (.new []) S = .ok (.loc S.length) (S ++ [.lst []]) := rfl
 by_cases hm : xS ts r ∈ kvs.map (·.1)
 ·obtain ⟨d, hd⟩ := zSZ hm
  obtain ⟨l, ps, rfl, hin, hS, hls⟩ := yAJ (i := i) hl hn hd
  have hS' : (S ++ [MO.lst []])[l]? = some (.lst (ps.map xX)) := by rw [zQ2 (zQ1.mp hS).1]; exact hS
  have hp := hz l ps hin hS
  have llt : l < S.length := (zQ1.mp hS).1
  have lD : l ≠ D := fun z => hDn (by rw [← z]; exact hin)
  have sd : sdF (.val (.loc D)) [.val (xS ts r), .new []] S = .ok (.val (.loc l)) (S ++ [.lst []]) := by
   show (hU (.new []) S).bind (fun y S1 => sd1 (.val (.loc D)) (xS ts r) y S1) = _
   rw [e1, bok]
   unfold sd1
   rw [zLU hD' hk]
   dsimp only
   rw [if_pos ⟨yDE hr, by omega⟩, hd]
  have se : (S ++ [MO.lst []]).set l (.lst ((ps ++ [i]).map xX)) = S.set l (.lst ((ps ++ [i]).map xX)) ++ [.lst []] := List.set_append_left _ _ llt
  refine ⟨S.set l (.lst ((ps ++ [i]).map xX)) ++ [.lst []], kvs, ?_, hk, Nat.le_succ _, hn, hDn, by rw [zQ4, List.length_set]; exact Nat.le_add_right _ _, fun m o ho hmD hmn => ?_, fun m hm => .inl hm, ?_, ?_⟩
  ·rw [zQ2 (by rw [List.length_set]; exact dlt), List.getElem?_set_ne lD]; exact hD
  ·have mlt := (zQ1.mp ho).1
   rw [zQ2 (by rw [List.length_set]; exact mlt), List.getElem?_set_ne (fun z => hmn (by rw [← z]; exact hin))]; exact ho
  ·rw [if_pos hm]
   exact ⟨rfl, hls.app⟩
  ·unfold zAL zEI
   simp? [isd, i0, yMM hT hr, sd, bE hS', zCF hS' (show (ps.map xX).length < 1000000 by rw [List.length_map]; omega)]
   rw [← se, List.map_append]
   rfl
 ·have hd := yIK hm
  have hS' : ((S ++ [MO.lst []]).set D (.dic (putK kvs (xS ts r) (.loc S.length))))[S.length]? = some (.lst []) := by
   rw [List.getElem?_set_ne (Nat.ne_of_lt dlt)]; simp
  have pk : putK kvs (xS ts r) (.loc S.length) = kvs ++ [(xS ts r, .loc S.length)] := by
   unfold putK
   rw [hd]
   rfl
  have sd : sdF (.val (.loc D)) [.val (xS ts r), .new []] S = .ok (.val (.loc S.length)) ((S ++ [MO.lst []]).set D (.dic (putK kvs (xS ts r) (.loc S.length)))) := by
   show (hU (.new []) S).bind (fun y S1 => sd1 (.val (.loc D)) (xS ts r) y S1) = _
   rw [e1, bok]
   unfold sd1
   rw [zLU hD' hk]
   dsimp only
   rw [if_pos ⟨yDE hr, by omega⟩, hd]
  rw [pk] at sd hS'
  have nin : MV.loc S.length ∉ kvs.map (·.2) := hl.lt (Nat.le_refl _)
  refine ⟨((S ++ [MO.lst []]).set D (MO.dic (kvs ++ [(xS ts r, MV.loc S.length)]))).set S.length (MO.lst [xX i]), kvs ++ [(xS ts r, MV.loc S.length)], ?_, ?_, by rw [zQ4]; exact Nat.le_refl _, ?_, ?_, by rw [List.length_set, List.length_set, zQ4]; exact Nat.le_add_right _ _, fun m o ho hmD hmn => ?_, fun m hm => ?_, ?_, ?_⟩
  ·rw [List.getElem?_set_ne (Nat.ne_of_gt dlt), List.getElem?_set_self (by rw [zQ4]; omega)]
  ·rw [List.all_append, hk]; rfl
  ·rw [List.map_append]
   exact List.nodup_append.mpr ⟨hn, by simp, fun x hx y hy => by rw [List.mem_singleton.mp hy]; rintro rfl; exact nin hx⟩
  ·rw [List.map_append, List.mem_append]
   rintro (z | z)
   ·exact hDn z
   ·have := List.mem_singleton.mp z
    cases this
    exact absurd dlt (Nat.lt_irrefl _)
  ·have mlt := (zQ1.mp ho).1
   rw [List.getElem?_set_ne (Nat.ne_of_gt mlt), List.getElem?_set_ne (fun z => hmD z.symm), zQ2 mlt]; exact ho
  ·rw [List.map_append, List.mem_append] at hm
   rcases hm with z | z
   ·exact .inl z
   ·have := List.mem_singleton.mp z
    cases this
    exact .inr (Nat.le_refl _)
  ·rw [if_neg hm, List.map_append, List.map_append]
   refine ⟨rfl, ?_⟩
   have hself : (((S ++ [MO.lst []]).set D (.dic (kvs ++ [(xS ts r, .loc S.length)]))).set S.length (.lst [xX i]))[S.length]? = some (.lst ([i].map xX)) := by
    rw [List.getElem?_set_self (by rw [List.length_set, zQ4]; exact Nat.lt_succ_self _)]; rfl
   exact LsAt.snoc hself ((hl.app.other hDn).other nin)
  ·unfold zAL zEI
   simp? [isd, i0, yMM hT hr, sd, bE hS', zCF hS' (show ([] : List MV).length < 1000000 by decide)]
   rfl
end
theorem LsAt.mem {S : Sto} {l : Nat} {ps : List Nat} : ∀ {ls : List MV} {pss : List (List Nat)}, LsAt S ls pss → MV.loc l ∈ ls → S[l]? = some (.lst (ps.map xX)) → ∃ qs ∈ pss, qs.length = ps.length
 | _, _, .cons (l := l0) (ps := p0) h t, hd, hl => by
  rcases List.mem_cons.mp hd with e | hd
  ·cases e
   rw [h] at hl
   have e := MO.lst.inj (Option.some.inj hl)
   have e := congrArg List.length e
   rw [List.length_map, List.length_map] at e
   exact ⟨p0, List.mem_cons_self, e⟩
  ·obtain ⟨qs, h1, h2⟩ := t.mem hd hl
   exact ⟨qs, List.mem_cons_of_mem _ h1, h2⟩
theorem zLV {k : MV} {i n : Nat} : ∀ {ks : List MV} {pss : List (List Nat)}, (∀ ps ∈ pss, ps.length ≤ n) → ∀ ps ∈ zDG k i ks pss, ps.length ≤ n + 1
 | [], pss, h, ps, hp => by unfold zDG at hp; cases hp
 | c :: ks, [], h, ps, hp => by unfold zDG at hp; cases hp
 | c :: ks, q :: pss, h, ps, hp => by
  unfold zDG at hp
  have hq := h q List.mem_cons_self
  split at hp
  ·rcases List.mem_cons.mp hp with rfl | hp
   ·rw [zQ4]; exact Nat.succ_le_succ hq
   ·exact Nat.le_succ_of_le (h ps (List.mem_cons_of_mem _ hp))
  ·rcases List.mem_cons.mp hp with rfl | hp
   ·exact Nat.le_succ_of_le hq
   ·exact zLV (fun z hz => h z (List.mem_cons_of_mem _ hz)) ps hp
structure BI (S0 S : Sto) (D : Nat) (kvs : List (MV × MV)) (ks : List MV) (pss : List (List Nat)) : Prop where
 at' : S[D]? = some (.dic kvs)
 tup : kvs.all (fun p => zCN p.1) = true
 keys : kvs.map (·.1) = ks
 ls : LsAt S (kvs.map (·.2)) pss
 nd : (kvs.map (·.2)).Nodup
 out : MV.loc D ∉ kvs.map (·.2)
 new : ∀ m, MV.loc m ∈ kvs.map (·.2) → S0.length ≤ m
 old : ∀ (m : Nat) (o : MO), S0[m]? = some o → S[m]? = some o
theorem zQA {ts : List (Int × Int)} {S0 : Sto} {rl rr : MV} (hT : TOk ts) : ∀ (rs : List (Nat × List MV)), (∀ r ∈ rs, ROk ts r) → ∀ (i : Nat) (S : Sto) (kvs : List (MV × MV)) (ks : List MV) (pss : List (List Nat)) (x y : Option MV), BI S0 S S0.length kvs ks pss → kvs.length ≤ i → i + rs.length ≤ 100 → (∀ ps ∈ pss, ps.length ≤ i) →
  ∃ (S' : Sto) (kvs' : List (MV × MV)) (x' y' : Option MV), BI S0 S' S0.length kvs' (zHT (rs.map (xS ts)) i ks pss).1 (zHT (rs.map (xS ts)) i ks pss).2 ∧
   gK (gTp 2 (yC (gNm 2) (yC (gNm 3) kJ))) zAL [] (((rs.map zN).zipIdx i).map fun p => .tup [.int (p.2 : Nat), p.1]) (B4 (.tup [.tup (ts.map tbl), rl, rr]) S0.length x y) S = .ok (.next (B4 (.tup [.tup (ts.map tbl), rl, rr]) S0.length x' y')) S'
 | [], _, i, S, kvs, ks, pss, x, y, B, _, _, _ => ⟨S, kvs, x, y, B, rfl⟩
 | r :: rs, hr, i, S, kvs, ks, pss, x, y, B, hk, hi, hp => by
  rw [List.length_cons] at hi
  obtain ⟨S1, kv1, a1, a2, a3, a4, a5, a6, a7, a8, a9, a10⟩ := yIL (rl := rl) (rr := rr) (i := i) hT (hr r List.mem_cons_self) B.at' B.tup (by omega) B.ls B.nd B.out (fun l ps h1 h2 => by
   obtain ⟨qs, h3, h4⟩ := B.ls.mem h1 h2
   have := hp qs h3
   omega)
  have old1 : ∀ (m : Nat) (o : MO), S0[m]? = some o → S1[m]? = some o := fun m o h => by
   have mlt := (zQ1.mp h).1
   exact a7 m o (B.old m o h) (Nat.ne_of_lt mlt) fun z => absurd (B.new m z) (by omega)
  have len0 : S0.length ≤ S.length := Nat.le_of_lt (zQ1.mp B.at').1
  have new1 : ∀ m, MV.loc m ∈ kv1.map (·.2) → S0.length ≤ m := fun m h => (a8 m h).elim (B.new m) fun z => by omega
  rw [B.keys] at a9
  rw [List.map_cons, List.map_cons, List.zipIdx_cons, List.map_cons]
  unfold zHT
  by_cases hm : xS ts r ∈ ks
  ·rw [if_pos hm] at a9
   obtain ⟨S2, kv2, x2, y2, b1, b2⟩ := zQA hT rs (fun q hq => hr q (List.mem_cons_of_mem _ hq)) (i + 1) S1 kv1 ks (zDG (xS ts r) i ks pss) (some (.int (i : Nat))) (some (zN r)) ⟨a1, a2, a9.1, a9.2, a4, a5, new1, old1⟩ (by omega) (by omega) (zLV hp)
   refine ⟨S2, kv2, x2, y2, by rw [if_pos hm]; exact b1, ?_⟩
   rw [dD (show gTp 2 (yC (gNm 2) (yC (gNm 3) kJ)) (.tup [.int (i : Nat), zN r]) (B4 (.tup [.tup (ts.map tbl), rl, rr]) S0.length x y) S = .ok (B4 (.tup [.tup (ts.map tbl), rl, rr]) S0.length (some (.int (i : Nat))) (some (zN r))) S from rfl) a10 (gB _)]
   exact b2
  ·rw [if_neg hm] at a9
   obtain ⟨S2, kv2, x2, y2, b1, b2⟩ := zQA hT rs (fun q hq => hr q (List.mem_cons_of_mem _ hq)) (i + 1) S1 kv1 (ks ++ [xS ts r]) (pss ++ [[i]]) (some (.int (i : Nat))) (some (zN r)) ⟨a1, a2, a9.1, a9.2, a4, a5, new1, old1⟩ (by omega) (by omega) (fun ps h => by
    rcases List.mem_append.mp h with z | z
    ·exact Nat.le_succ_of_le (hp ps z)
    ·rw [List.mem_singleton.mp z]; exact Nat.succ_le_succ (Nat.zero_le _))
   refine ⟨S2, kv2, x2, y2, by rw [if_neg hm]; exact b1, ?_⟩
   rw [dD (show gTp 2 (yC (gNm 2) (yC (gNm 3) kJ)) (.tup [.int (i : Nat), zN r]) (B4 (.tup [.tup (ts.map tbl), rl, rr]) S0.length x y) S = .ok (B4 (.tup [.tup (ts.map tbl), rl, rr]) S0.length (some (.int (i : Nat))) (some (zN r))) S from rfl) a10 (gB _)]
   exact b2
theorem zXE {ts : List (Int × Int)} {rs : List (Nat × List MV)} (hT : TOk ts) (hr : ∀ r ∈ rs, ROk ts r) (hl : rs.length ≤ 60) (S : Sto) :
  ∃ (S' : Sto) (ls : List MV), LsAt S' ls (zHT (rs.map (xS ts)) 0 [] []).2 ∧ ls.Nodup ∧ (∀ m, MV.loc m ∈ ls → S.length ≤ m) ∧ (∀ (m : Nat) (o : MO), S[m]? = some o → S'[m]? = some o) ∧
   f_blocks [.tup [.tup (ts.map tbl), .tup [], .tup (rs.map zN)]] S = .ok (.new ls) S' := by
 have hst : yA ["book", "by_key", "i", "row"] [.tup [.tup (ts.map tbl), .tup [], .tup (rs.map zN)]] = [some (.tup [.tup (ts.map tbl), .tup [], .tup (rs.map zN)]), none, none, none] := rfl
 have e1 : zJU [some (.tup [.tup (ts.map tbl), .tup [], .tup (rs.map zN)]), none, none, none] S = .ok (.next [some (.tup [.tup (ts.map tbl), .tup [], .tup (rs.map zN)]), none, none, none]) S := by
  unfold zJU
  simp? [zVB rfl, List.length_nil, decide_true, Bool.not_true, Bool.false_eq_true, if_false]
 have e2 : zJV [some (.tup [.tup (ts.map tbl), .tup [], .tup (rs.map zN)]), none, none, none] S = .ok (.next (B4 (.tup [.tup (ts.map tbl), .tup [], .tup (rs.map zN)]) S.length none none)) (S ++ [.dic []]) := by
  unfold zJV
  simp? [zWP]
 obtain ⟨S', kvs, x', y', B, hlp⟩ := zQA (S0 := S) (rl := .tup []) (rr := .tup (rs.map zN)) hT rs hr 0 (S ++ [.dic []]) [] [] [] none none ⟨by simp, rfl, rfl, .nil, List.nodup_nil, by simp, (fun m h => by cases h), fun m o h => by rw [zQ2 (zQ1.mp h).1]; exact h⟩ (Nat.le_refl _) (by omega) (by simp)
 have i2 : ∀ S, ixF (.val (.tup [.tup (ts.map tbl), .tup [], .tup (rs.map zN)])) (.val (.int 2)) S = .ok (.val (.tup (rs.map zN))) S := fun S => rfl
 have e3 : zJW (B4 (.tup [.tup (ts.map tbl), .tup [], .tup (rs.map zN)]) S.length none none) (S ++ [.dic []]) = .ok (.next (B4 (.tup [.tup (ts.map tbl), .tup [], .tup (rs.map zN)]) S.length x' y')) S' := by
  unfold zJW
  simp? [i2, show ∀ (ds : List MV) (S : Sto), itE [.val (.tup ds)] S = .ok ⟨zIX ds, []⟩ S from fun ds S => rfl]
  exact hlp
 have lv : lvF (.val (.loc S.length)) S' = .ok (.new (kvs.map (·.2))) S' := by
  unfold lvF
  rw [zLU B.at' B.tup]
 have e4 : zJX (B4 (.tup [.tup (ts.map tbl), .tup [], .tup (rs.map zN)]) S.length x' y') S' = .ok (.ret (.new (kvs.map (·.2)))) S' := by
  unfold zJX
  simp? [lv]
 refine ⟨S', kvs.map (·.2), B.ls, B.nd, B.new, B.old, ?_⟩
 unfold f_blocks zPO
 rw [hst, zD e1, zD e2, zD e3, e4]
 rfl
mutual
theorem yDF : ∀ {d : MV}, pd d = true → bJ d = true
 | .int i, _ => by unfold bJ; rfl
 | .str x, _ => by unfold bJ; rfl
 | .tup ds, h => by unfold bJ; exact zXF (by rw [jV] at h; exact h)
 | .non, h => by unfold pd at h; cases h
 | .bl b, h => by unfold pd at h; cases h
 | .scr ds, h => by unfold pd at h; cases h
 | .loc l, h => by unfold pd at h; cases h
 | .typ t, h => by unfold pd at h; cases h
theorem zXF : ∀ {ds : List MV}, pdL ds = true → zNE ds = true
 | [], _ => by unfold zNE; rfl
 | d :: ds, h => by
  rw [yQ, Bool.and_eq_true] at h
  unfold zNE
  rw [yDF h.1, zXF h.2]
  rfl
end
theorem zXG {S : Sto} {d : MV} (hd : pd d = true) : ∀ {ds : List MV}, (∀ y ∈ ds, pd y = true ∧ dpt y < 40) → d ∈ ds → ∃ j, zPM S d ds = some j ∧ ds[j]? = some d
 | [], _, h => by cases h
 | y :: ys, hy, h => by
  have h1 := hy y List.mem_cons_self
  unfold zPM
  rw [zHR zR h1.1 hd (by unfold zR; exact h1.2)]
  show ∃ j, (if decide (y = d) = true then some 0 else (zPM S d ys).map (· + 1)) = some j ∧ _
  by_cases e : y = d
  ·exact ⟨0, by rw [decide_eq_true e, if_pos rfl], by rw [e]; rfl⟩
  ·rcases List.mem_cons.mp h with e' | m
   ·exact absurd e'.symm e
   ·obtain ⟨j, j1, j2⟩ := zXG hd (fun z hz => hy z (List.mem_cons_of_mem _ hz)) m
    exact ⟨j + 1, by rw [decide_eq_false e, if_neg zQ3, j1]; rfl, by simpa using j2⟩
theorem yLZ {S : Sto} {l : Nat} {ks : List MV} {d : MV} (hS : S[l]? = some (.lst ks)) (hk : ∀ y ∈ ks, pd y = true ∧ dpt y < 40) (hd : d ∈ ks) :
  ∃ j, zSS (.val (.loc l)) [.val d] S = .ok (.val (.int (j : Nat))) S ∧ ks[j]? = some d := by
 obtain ⟨j, j1, j2⟩ := zXG (S := S) (hk d hd).1 hk hd
 refine ⟨j, ?_, j2⟩
 unfold zSS
 dsimp only
 rw [zDR hS]
 dsimp only
 rw [if_pos (fun x hx => ?_), j1]
 refine ⟨yDF (hk x hx).1, ?_⟩
 rw [zHR zR (hk x hx).1 (hk d hd).1 (by have := (hk x hx).2; unfold zR; omega)]
 rfl
theorem yIM {α : Type} {xs : List α} {j : Nat} {x : α} (h : xs[j]? = some x) : atI xs (j : Int) = some x := by
 have hj := (zQ1.mp h).1
 unfold atI
 have : ixN xs.length (j : Int) = some j := by
  unfold ixN
  simp
  omega
 rw [this]
 exact h
theorem zXH {S : Sto} {l : Nat} {d : MV} {ys : List MV} (hS : S[l]? = some (.lst ys)) (hd : pd d = true) (hs : ∀ x, d ≠ .str x) (h : ∀ y ∈ ys, pd y = true ∧ dpt y < 40) : inF true (.val d) (.val (.loc l)) S = .ok (.val (.bl (!decide (d ∈ ys)))) S := zPX hS hd hs h
theorem zXI {k d : MV} : ∀ {ks ls : List MV} {j : Nat}, ks.Nodup → ks[j]? = some k → ls[j]? = some d → look (ks.zip ls) k = some d
 | [], _, _, _, h, _ => by simp at h
 | _ :: _, [], _, _, _, h => by simp at h
 | c :: ks, v :: ls, 0, hn, h1, h2 => by
  simp at h1 h2
  rw [List.zip_cons_cons, bR]
  show (if c = k then some v else _) = _
  rw [if_pos h1, h2]
 | c :: ks, v :: ls, j + 1, hn, h1, h2 => by
  rw [List.nodup_cons] at hn
  rw [List.getElem?_cons_succ] at h1 h2
  rw [List.zip_cons_cons, bR]
  show (if c = k then some v else _) = _
  rw [if_neg (fun z => hn.1 (by rw [z]; exact List.mem_of_getElem? h1))]
  exact zXI hn.2 h1 h2
theorem zXJ {k : MV} {i : Nat} : ∀ {ks : List MV} {pss : List (List Nat)}, k ∉ ks → ks.length = pss.length → zDG k i (ks ++ [k]) (pss ++ [[]]) = pss ++ [[i]]
 | [], [], _, _ => by show zDG k i [k] [[]] = _; unfold zDG; rw [if_pos rfl]; rfl
 | [], _ :: _, _, h => by simp at h
 | _ :: _, [], _, h => by simp at h
 | c :: ks, ps :: pss, hn, h => by
  rw [List.cons_append, List.cons_append]
  unfold zDG
  rw [if_neg (fun z => hn (by rw [z]; exact List.mem_cons_self)), zXJ (fun z => hn (List.mem_cons_of_mem _ z)) (by simpa using h)]
  rfl
theorem LsAt.length {S : Sto} : ∀ {ls : List MV} {pss : List (List Nat)}, LsAt S ls pss → ls.length = pss.length
 | _, _, .nil => rfl
 | _, _, .cons _ t => by rw [List.length_cons, List.length_cons, t.length]
abbrev G8 (tt rr : MV) (n : Nat) (p t c o : Option MV) : Rho := [some tt, some rr, some (.loc n), some (.loc (n + 1)), p, t, c, o]
structure GI (S0 S : Sto) (ks ls : List MV) (pss : List (List Nat)) : Prop where
 k : S[S0.length]? = some (.lst ks)
 f : S[S0.length + 1]? = some (.lst ls)
 lat : LsAt S ls pss
 len : ks.length = ls.length
 nd : ls.Nodup
 kd : ks.Nodup
 new : ∀ m, MV.loc m ∈ ls → S0.length + 1 < m
 old : ∀ (m : Nat) (o : MO), S0[m]? = some o → S[m]? = some o
 kp : ∀ y ∈ ks, pd y = true ∧ dpt y < 40
section
variable {ts : List (Int × Int)} {S0 S : Sto} {ks ls : List MV} {pss : List (List Nat)} {i : Nat} {tt rr own : MV} {t c : Option MV}
theorem g4 (B : GI S0 S ks ls pss) (ho : own ∈ ks) (hz : ∀ ps ∈ pss, ps.length < 1000) :
  ∃ S', GI S0 S' ks ls (zDG own i ks pss) ∧ hZ (G8 tt rr S0.length (some (.int (i : Nat))) t c (some own)) S = .ok (.next (G8 tt rr S0.length (some (.int (i : Nat))) t c (some own))) S' := by
 obtain ⟨j, hj, hk⟩ := yLZ B.k B.kp ho
 have jl : j < ls.length := by rw [← B.len]; exact (zQ1.mp hk).1
 have m1 : (ks.zip ls).map (·.1) = ks := List.map_fst_zip (by rw [B.len]; exact Nat.le_refl _)
 have m2 : (ks.zip ls).map (·.2) = ls := List.map_snd_zip (by rw [B.len]; exact Nat.le_refl _)
 have hlk := zXI B.kd hk (List.getElem?_eq_getElem jl)
 obtain ⟨l, ps, hd, hin, hS, hls⟩ := yAJ (kvs := ks.zip ls) (i := i) (by rw [m2]; exact B.lat) (by rw [m2]; exact B.nd) hlk
 rw [m2] at hin hls
 rw [m1] at hls
 have hj2 : ls[j]? = some (.loc l) := by rw [List.getElem?_eq_getElem jl, hd]
 obtain ⟨qs, q1, q2⟩ := B.lat.mem hin hS
 have := hz qs q1
 have nl := B.new l hin
 refine ⟨S.set l (.lst ((ps ++ [i]).map xX)), ⟨by rw [List.getElem?_set_ne (by omega)]; exact B.k, by rw [List.getElem?_set_ne (by omega)]; exact B.f, hls, B.len, B.nd, B.kd, B.new, fun m o h => ?_, B.kp⟩, ?_⟩
 ·have mlt := (zQ1.mp h).1
  rw [List.getElem?_set_ne (by omega)]
  exact B.old m o h
 ·unfold hZ
  simp? [bE B.k, hj, yAB B.f (yIM hj2), bE hS, zCF hS (show (ps.map xX).length < 1000000 by rw [List.length_map]; omega)]
  rw [List.map_append]
  rfl
theorem g3 (B : GI S0 S ks ls pss) (ho : own ∉ ks) (hp : pd own = true ∧ dpt own < 40) (hs : ∀ x, own ≠ .str x) (hl : ks.length < 1000) {p : Option MV} :
  ∃ S' ls', GI S0 S' (ks ++ [own]) ls' (pss ++ [[]]) ∧ wF (G8 tt rr S0.length p t c (some own)) S = .ok (.next (G8 tt rr S0.length p t c (some own))) S' := by
 have klt : S0.length < S.length := (zQ1.mp B.k).1
 have flt : S0.length + 1 < S.length := (zQ1.mp B.f).1
 have hf1 : (S.set S0.length (.lst (ks ++ [own])))[S0.length + 1]? = some (.lst ls) := by rw [List.getElem?_set_ne (by omega)]; exact B.f
 have hf2 : (S.set S0.length (.lst (ks ++ [own])) ++ [MO.lst []])[S0.length + 1]? = some (.lst ls) := by rw [zQ2 (by rw [List.length_set]; exact flt)]; exact hf1
 have ap : zNP (.val (.loc (S0.length + 1))) [.new []] (S.set S0.length (.lst (ks ++ [own]))) = .ok (.val .non) ((S.set S0.length (.lst (ks ++ [own])) ++ [MO.lst []]).set (S0.length + 1) (.lst (ls ++ [.loc S.length]))) := by
  show (hU (.new []) (S.set S0.length (.lst (ks ++ [own])))).bind (fun y S1 => zMQ (.val (.loc (S0.length + 1))) S1 fun ds => if ds.length < sizeLine then some (ds ++ [y]) else none) = _
  rw [show hU (.new []) (S.set S0.length (.lst (ks ++ [own]))) = .ok (.loc (S.set S0.length (.lst (ks ++ [own]))).length) (S.set S0.length (.lst (ks ++ [own])) ++ [MO.lst []]) from rfl, bok, List.length_set]
  unfold zMQ
  dsimp only
  rw [hf2]
  dsimp only
  rw [if_pos (Nat.lt_of_lt_of_le (show ls.length < 1000000 by rw [← B.len]; omega) (fits (Nat.le_refl _)))]
 have nin : MV.loc S.length ∉ ls := B.lat.lt (Nat.le_refl _)
 refine ⟨(S.set S0.length (.lst (ks ++ [own])) ++ [MO.lst []]).set (S0.length + 1) (.lst (ls ++ [.loc S.length])), ls ++ [.loc S.length], ⟨?_, ?_, ?_, by rw [zQ4, zQ4, B.len]; rfl, ?_, ?_, fun m h => ?_, fun m o h => ?_, fun y hy => ?_⟩, ?_⟩
 ·rw [List.getElem?_set_ne (by omega), zQ2 (by rw [List.length_set]; exact klt), List.getElem?_set_self klt]
 ·rw [List.getElem?_set_self (by rw [zQ4, List.length_set]; omega)]
 ·refine LsAt.snoc (ps := []) ?_ (((B.lat.other fun z => absurd (B.new _ z) (by omega)).app).other fun z => absurd (B.new _ z) (by omega))
  rw [List.getElem?_set_ne (by omega), List.getElem?_append_right (by rw [List.length_set]; exact Nat.le_refl _), List.length_set, Nat.sub_self]
  rfl
 ·exact List.nodup_append.mpr ⟨B.nd, by simp, fun x hx y hy => by rw [List.mem_singleton.mp hy]; rintro rfl; exact nin hx⟩
 ·exact List.nodup_append.mpr ⟨B.kd, by simp, fun x hx y hy => by rw [List.mem_singleton.mp hy]; rintro rfl; exact ho hx⟩
 ·rcases List.mem_append.mp h with z | z
  ·exact B.new m z
  ·have := List.mem_singleton.mp z
   cases this
   exact flt
 ·have mlt := (zQ1.mp h).1
  rw [List.getElem?_set_ne (by omega), zQ2 (by rw [List.length_set]; omega), List.getElem?_set_ne (by omega)]
  exact B.old m o h
 ·rcases List.mem_append.mp hy with z | z
  ·exact B.kp y z
  ·rw [List.mem_singleton.mp z]; exact hp
 ·unfold wF
  simp? [zXH B.k hp.1 hs B.kp, decide_eq_false ho, Bool.not_false, yE, bE B.k, zCF B.k (show ks.length < 1000000 by omega), bE hf1, ap]
end
section
variable {ts : List (Int × Int)} {S0 : Sto} {rs : List (Nat × List MV)}
theorem yPY {S : Sto} {ks ls : List MV} {pss : List (List Nat)} {i : Nat} {r : Nat × List MV} {t c o : Option MV} (hT : TOk ts) (hr : ROk ts r) (hi : rs[i]? = some r) (B : GI S0 S ks ls pss) (hk : ks.length < 900) (hz : ∀ ps ∈ pss, ps.length < 900) :
  ∃ S' ls' t' c' o', (if xS ts r ∈ ks then GI S0 S' ks ls' (zDG (xS ts r) i ks pss) else GI S0 S' (ks ++ [xS ts r]) ls' (pss ++ [[i]])) ∧
   wU (G8 (.tup (ts.map tbl)) (.tup (rs.map zN)) S0.length (some (.int (i : Nat))) t c o) S = .ok (.next (G8 (.tup (ts.map tbl)) (.tup (rs.map zN)) S0.length (some (.int (i : Nat))) t' c' o')) S' := by
 have hix : (rs.map zN)[i]? = some (zN r) := by rw [List.getElem?_map, hi]; rfl
 have b1 : hW (G8 (.tup (ts.map tbl)) (.tup (rs.map zN)) S0.length (some (.int (i : Nat))) t c o) S = .ok (.next (G8 (.tup (ts.map tbl)) (.tup (rs.map zN)) S0.length (some (.int (i : Nat))) (some (.int r.1)) (some (.tup r.2)) o)) S := by
  unfold hW
  simp? [ix_tup (S := S) (yIM hix), yCS]
  rfl
 have b2 : hX (G8 (.tup (ts.map tbl)) (.tup (rs.map zN)) S0.length (some (.int (i : Nat))) (some (.int r.1)) (some (.tup r.2)) o) S = .ok (.next (G8 (.tup (ts.map tbl)) (.tup (rs.map zN)) S0.length (some (.int (i : Nat))) (some (.int r.1)) (some (.tup r.2)) (some (xS ts r)))) S := by
  obtain ⟨p, hp, hl, hv⟩ := hr
  have h0 := (hT.2.2 p (List.mem_of_getElem? hp)).2.2.1
  have kn : zXD ts r.1 = p.2.toNat := by unfold zXD; rw [hp]; rfl
  have t1 : ∀ S, ixF (.val (tbl p)) (.val (.int 1)) S = .ok (.val (.int p.2)) S := fun S => rfl
  have ct : ∀ S, zKY (.val (.tup r.2)) none (some p.2) S = .ok (.val (.tup (bK r.2 none (some p.2)))) S := fun S => rfl
  unfold hX
  simp? [ix_tup (S := S) (zUV hp), t1, ct, zUG _ _ h0]
  unfold xS
  rw [kn]
 obtain ⟨k1, k2⟩ := yIJ hr
 have ks' : ∀ x, xS ts r ≠ .str x := fun x z => by unfold xS at z; cases z
 by_cases hm : xS ts r ∈ ks
 ·have b3 : wF (G8 (.tup (ts.map tbl)) (.tup (rs.map zN)) S0.length (some (.int (i : Nat))) (some (.int r.1)) (some (.tup r.2)) (some (xS ts r))) S = .ok (.next (G8 (.tup (ts.map tbl)) (.tup (rs.map zN)) S0.length (some (.int (i : Nat))) (some (.int r.1)) (some (.tup r.2)) (some (xS ts r)))) S := by
   unfold wF
   simp? [zXH B.k k1 ks' B.kp, decide_eq_true hm, Bool.not_true, Bool.false_eq_true, if_false]
  obtain ⟨S', B', b4⟩ := g4 (i := i) (tt := .tup (ts.map tbl)) (rr := .tup (rs.map zN)) (t := some (.int r.1)) (c := some (.tup r.2)) B hm (fun ps h => by have := hz ps h; omega)
  refine ⟨S', ls, some (.int r.1), some (.tup r.2), some (xS ts r), by rw [if_pos hm]; exact B', ?_⟩
  unfold wU
  rw [zD b1, zD b2, zD b3, b4]
 ·obtain ⟨S1, ls1, B1, b3⟩ := g3 (p := some (.int (i : Nat))) (tt := .tup (ts.map tbl)) (rr := .tup (rs.map zN)) (t := some (.int r.1)) (c := some (.tup r.2)) B hm ⟨k1, by omega⟩ ks' (by omega)
  obtain ⟨S', B', b4⟩ := g4 (i := i) (tt := .tup (ts.map tbl)) (rr := .tup (rs.map zN)) (t := some (.int r.1)) (c := some (.tup r.2)) B1 (List.mem_append_right _ (List.mem_singleton.mpr rfl)) (fun ps h => by
   rcases List.mem_append.mp h with z | z
   ·have := hz ps z; omega
   ·rw [List.mem_singleton.mp z]; exact Nat.zero_lt_succ _)
  rw [zXJ hm (by rw [B.len, B.lat.length])] at B'
  refine ⟨S', ls1, some (.int r.1), some (.tup r.2), some (xS ts r), by rw [if_neg hm]; exact B', ?_⟩
  unfold wU
  rw [zD b1, zD b2, zD b3, b4]
theorem yAK (hT : TOk ts) : ∀ (sfx pre : List (Nat × List MV)), rs = pre ++ sfx → (∀ r ∈ sfx, ROk ts r) → ∀ (S : Sto) (ks ls : List MV) (pss : List (List Nat)) (p t c o : Option MV), GI S0 S ks ls pss → ks.length ≤ pre.length → rs.length ≤ 100 → (∀ ps ∈ pss, ps.length ≤ pre.length) →
  ∃ (S' : Sto) (ls' : List MV) (p' t' c' o' : Option MV), GI S0 S' (zHT (sfx.map (xS ts)) pre.length ks pss).1 ls' (zHT (sfx.map (xS ts)) pre.length ks pss).2 ∧
   gK (gNm 4) wU [] ((List.range' pre.length sfx.length).map fun k => MV.int (k : Nat)) (G8 (.tup (ts.map tbl)) (.tup (rs.map zN)) S0.length p t c o) S = .ok (.next (G8 (.tup (ts.map tbl)) (.tup (rs.map zN)) S0.length p' t' c' o')) S'
 | [], pre, _, _, S, ks, ls, pss, p, t, c, o, B, _, _, _ => ⟨S, ls, p, t, c, o, B, rfl⟩
 | r :: sfx, pre, he, hr, S, ks, ls, pss, p, t, c, o, B, hk, hl, hz => by
  have hi : rs[pre.length]? = some r := by rw [he, List.getElem?_append_right (Nat.le_refl _), Nat.sub_self]; rfl
  have hpl : pre.length < rs.length := (zQ1.mp hi).1
  obtain ⟨S1, ls1, t1, c1, o1, B1, hb⟩ := yPY (S0 := S0) (rs := rs) (t := t) (c := c) (o := o) hT (hr r List.mem_cons_self) hi B (by omega) (fun ps h => by have := hz ps h; omega)
  have he' : rs = (pre ++ [r]) ++ sfx := by rw [he, List.append_assoc]; rfl
  have pl : (pre ++ [r]).length = pre.length + 1 := by rw [zQ4]; rfl
  rw [List.length_cons, List.range'_succ, List.map_cons, List.map_cons]
  unfold zHT
  by_cases hm : xS ts r ∈ ks
  ·rw [if_pos hm] at B1
   obtain ⟨S2, ls2, p2, t2, c2, o2, B2, hlp⟩ := yAK hT sfx (pre ++ [r]) he' (fun q hq => hr q (List.mem_cons_of_mem _ hq)) S1 ks ls1 (zDG (xS ts r) pre.length ks pss) (some (.int (pre.length : Nat))) t1 c1 o1 B1 (by rw [pl]; omega) hl (by rw [pl]; exact zLV hz)
   rw [pl] at B2 hlp
   refine ⟨S2, ls2, p2, t2, c2, o2, by rw [if_pos hm]; exact B2, ?_⟩
   rw [dD (show gNm 4 (.int (pre.length : Nat)) (G8 (.tup (ts.map tbl)) (.tup (rs.map zN)) S0.length p t c o) S = .ok (G8 (.tup (ts.map tbl)) (.tup (rs.map zN)) S0.length (some (.int (pre.length : Nat))) t c o) S from rfl) hb (gB _)]
   exact hlp
  ·rw [if_neg hm] at B1
   obtain ⟨S2, ls2, p2, t2, c2, o2, B2, hlp⟩ := yAK hT sfx (pre ++ [r]) he' (fun q hq => hr q (List.mem_cons_of_mem _ hq)) S1 (ks ++ [xS ts r]) ls1 (pss ++ [[pre.length]]) (some (.int (pre.length : Nat))) t1 c1 o1 B1 (by rw [pl, zQ4]; exact Nat.succ_le_succ hk) hl (by
    rw [pl]
    intro ps h
    rcases List.mem_append.mp h with z | z
    ·exact Nat.le_succ_of_le (hz ps z)
    ·rw [List.mem_singleton.mp z]; exact Nat.succ_le_succ (Nat.zero_le _))
   rw [pl] at B2 hlp
   refine ⟨S2, ls2, p2, t2, c2, o2, by rw [if_neg hm]; exact B2, ?_⟩
   rw [dD (show gNm 4 (.int (pre.length : Nat)) (G8 (.tup (ts.map tbl)) (.tup (rs.map zN)) S0.length p t c o) S = .ok (G8 (.tup (ts.map tbl)) (.tup (rs.map zN)) S0.length (some (.int (pre.length : Nat))) t c o) S from rfl) hb (gB _)]
   exact hlp
theorem yES (hT : TOk ts) (hr : ∀ r ∈ rs, ROk ts r) (hl : rs.length ≤ 60) (S : Sto) :
  ∃ (S' : Sto) (ls : List MV), GI S S' (zHT (rs.map (xS ts)) 0 [] []).1 ls (zHT (rs.map (xS ts)) 0 [] []).2 ∧ xO [.tup (ts.map tbl), .tup (rs.map zN)] S = .ok (.val (.loc (S.length + 1))) S' := by
 have hst : yA ["_law_tables_here", "_law_rows_here", "_law_keys", "_law_found", "_law_place", "_law_t", "_law_cells", "_law_own"] [.tup (ts.map tbl), .tup (rs.map zN)] = [some (.tup (ts.map tbl)), some (.tup (rs.map zN)), none, none, none, none, none, none] := rfl
 have e1 : cE [some (.tup (ts.map tbl)), some (.tup (rs.map zN)), none, none, none, none, none, none] S = .ok (.next [some (.tup (ts.map tbl)), some (.tup (rs.map zN)), some (.loc S.length), none, none, none, none, none]) (S ++ [.lst []]) := by
  unfold cE
  simp? [bok]
 have e2 : cF [some (.tup (ts.map tbl)), some (.tup (rs.map zN)), some (.loc S.length), none, none, none, none, none] (S ++ [.lst []]) = .ok (.next (G8 (.tup (ts.map tbl)) (.tup (rs.map zN)) S.length none none none none)) (S ++ [.lst [], .lst []]) := by
  unfold cF
  simp? [bok]
  rw [zQ4, List.append_assoc]
  rfl
 obtain ⟨S', ls, p', t', c', o', B, hlp⟩ := yAK (S0 := S) (rs := rs) hT rs [] rfl hr (S ++ [.lst [], .lst []]) [] [] [] none none none none ⟨by simp, by rw [List.getElem?_append_right (by omega), show S.length + 1 - S.length = 1 by omega]; rfl, .nil, rfl, List.nodup_nil, List.nodup_nil, (fun m h => by cases h), (fun m o h => by rw [zQ2 (zQ1.mp h).1]; exact h), fun y h => by cases h⟩ (Nat.le_refl _) (by omega) (by simp)
 have rg : ∀ T : Sto, zKU [.val (.int (((rs.map zN).length : Nat) : Int))] T = .ok ⟨(List.range' 0 rs.length).map fun k => MV.int (k : Nat), []⟩ T := fun T => by
  rw [zPH (by rw [List.length_map]; omega), ← List.range_eq_range']
  show R.ok (⟨(List.range (((rs.map zN).length : Nat) : Int).toNat).map fun k => MV.int (k : Nat), []⟩ : Wk) T = _
  rw [Int.toNat_natCast, List.length_map]
 have e3 : cG (G8 (.tup (ts.map tbl)) (.tup (rs.map zN)) S.length none none none none) (S ++ [.lst [], .lst []]) = .ok (.next (G8 (.tup (ts.map tbl)) (.tup (rs.map zN)) S.length p' t' c' o')) S' := by
  unfold cG
  simp? [zCG, rg]
  exact hlp
 have e4 : cH (G8 (.tup (ts.map tbl)) (.tup (rs.map zN)) S.length p' t' c' o') S' = .ok (.ret (.val (.loc (S.length + 1)))) S' := by
  unfold cH
  simp? [bok]
 refine ⟨S', ls, B, ?_⟩
 unfold xO zAX
 rw [hst, zD e1, zD e2, zD e3, e4]
 rfl
end
theorem yMA {S S' : Sto} (h : ∀ (m : Nat) (o : MO), S[m]? = some o → S'[m]? = some o) : S.length ≤ S'.length := by
 by_cases z : S.length = 0
 ·omega
 ·have hl : S.length - 1 < S.length := by omega
  have := (zQ1.mp (h _ _ (List.getElem?_eq_getElem hl))).1
  omega
theorem yDG {S S' : Sto} (h : ∀ (m : Nat) (o : MO), S[m]? = some o → S'[m]? = some o) : yBZ S S' := ⟨yMA h, fun l hl => .inl (by rw [h l _ (List.getElem?_eq_getElem hl), List.getElem?_eq_getElem hl])⟩
theorem zXK {S S' : Sto} (h : ∀ (m : Nat) (o : MO), S[m]? = some o → S'[m]? = some o) : ∀ (m : Nat) (o : MO), S[m]? = some o → (S'.take S.length)[m]? = some o := fun m o hm => by
 rw [List.getElem?_take_of_lt (zQ1.mp hm).1]
 exact h m o hm
theorem yIN {S : Sto} {ls : List MV} (h : ∀ m, MV.loc m ∈ ls → S.length ≤ m) (hl : ∀ d ∈ ls, ∃ m, d = .loc m) (hne : ls ≠ []) : ¬ loL S.length ls := by
 cases ls with
 | nil => exact absurd rfl hne
 | cons d r =>
  obtain ⟨m, rfl⟩ := hl d List.mem_cons_self
  intro z
  unfold loL at z
  have := z.1
  unfold lo at this
  have := h m List.mem_cons_self
  omega
theorem LsAt.locs {S : Sto} {ls : List MV} {pss : List (List Nat)} (h : LsAt S ls pss) : ∀ d ∈ ls, ∃ m, d = .loc m := fun d hd => let ⟨l, _, e, _⟩ := h.in hd; ⟨l, e⟩
theorem LsAt.nil_of {S T : Sto} {ls : List MV} {pss : List (List Nat)} (h : LsAt S ls pss) (e : ls = []) : LsAt T ls pss := by
 subst e
 cases h
 exact .nil
theorem zQB {n : Nat} {F : List MV → Sto → R Er} {rs : List Er} {S S' : Sto} {as : List MV} {ls : List MV} {pss : List (List Nat)} (hn : rs.length = n) (hE : yI rs S = (as, S)) (hF : F as S = .ok (.new ls) S') (hl : LsAt S' ls pss) (hnew : ∀ m, MV.loc m ∈ ls → S.length ≤ m) (hold : ∀ (m : Nat) (o : MO), S[m]? = some o → S'[m]? = some o) :
  ∃ S2, zJ n F rs S = .ok (.new ls) S2 ∧ LsAt S2 ls pss ∧ ∀ (m : Nat) (o : MO), S[m]? = some o → S2[m]? = some o := by
 unfold zJ
 rw [if_pos hn, hE]
 show ∃ S2, ((noX (F as S)).bind fun r S2 => zDQ S r S2) = _ ∧ _
 rw [hF, zGU, bok]
 unfold zDQ
 rw [if_pos (yDG hold)]
 dsimp only
 by_cases e : ls = []
 ·refine ⟨S'.take S.length, ?_, hl.nil_of e, zXK hold⟩
  rw [if_pos (by rw [e]; exact xN fun d hd => by cases hd)]
 ·exact ⟨S', by rw [if_neg (yIN hnew hl.locs e)], hl, hold⟩
theorem zFM (S : Sto) (o : MO) : (S ++ [o])[S.length]? = some o := by simp
theorem yPZ {S : Sto} {l : Nat} {ds : List MV} (hS : S[l]? = some (.lst ds)) : zMO S (.val (.loc l)) = some "list" := by
 show (bO S (.val (.loc l))).map (fun _ => "list") = _
 rw [zDR hS]; rfl
theorem zOG {S : Sto} {l : Nat} {ds : List MV} {T : String} (hS : S[l]? = some (.lst ds)) (hk : known T = true) : jU [.val (.loc l), .val (.typ T)] S = .ok (.val (.bl (zZR "list" T))) S := by
 show (match zMO S (.val (.loc l)) with | some t => if known T = true then R.ok (Er.val (.bl (zZR t T))) S else .no | none => .no) = _
 rw [yPZ hS]
 dsimp only
 rw [if_pos hk]
theorem yDH {S : Sto} {l : Nat} {ds : List MV} (hS : S[l]? = some (.lst ds)) : srcOf S (.val (.loc l)) = some ⟨true, ds, [(l, ds)]⟩ := by
 unfold srcOf
 dsimp only
 rw [hS]
theorem zQC {n a b : Nat} {S : Sto} {da db : List MV} (ha : S[a]? = some (.lst da)) (hb : S[b]? = some (.lst db)) (hl : da.length = db.length) (hz : (pairs da db).length < 1000) (h : ∀ e ∈ pairs da db, ∃ x y, e = .tup [x, y] ∧ zJ 2 (zK n) [.val x, .val y] S = .ok (.val (.bl true)) S) :
  zK (n + 1) [.loc a, .loc b] S = .ok (.val (.bl true)) S := by
 have gs : stay ([(a, da)] ++ [(b, db)]) S := fun p hp => by
  rcases List.mem_append.mp hp with z | z
  ·rw [List.mem_singleton.mp z]; exact ha
  ·rw [List.mem_singleton.mp z]; exact hb
 have hc : wN (gTp 2 (yC (gNm 0) (yC (gNm 1) kJ))) (cB (zK n)) (wT (zK n)) [none, none] ([(a, da)] ++ [(b, db)]) (pairs da db) S = .ok ((pairs da db).map fun _ => .bl true) S := gS gs fun e he => by
  obtain ⟨x, y, rfl, hxy⟩ := h e he
  refine ⟨[some x, some y], rfl, rfl, ?_⟩
  unfold wT
  simp? [hxy]
 have iz : itZ [.val (.loc a), .val (.loc b)] S = .ok ⟨pairs da db, [(a, da)] ++ [(b, db)]⟩ S := by
  unfold itZ
  dsimp only
  rw [yDH ha, yDH hb]
 have il : ∀ l ds, S[l]? = some (.lst ds) → jU [.val (.loc l), .val (.typ "list")] S = .ok (.val (.bl true)) S := fun l ds hS => zOG hS rfl
 have is : jU [.val (.loc b), .val (.typ "str")] S = .ok (.val (.bl false)) S := zOG hb rfl
 have ii : jU [.val (.loc b), .val (.typ "int")] S = .ok (.val (.bl false)) S := zOG hb rfl
 have it : jU [.val (.loc b), .val (.typ "tuple")] S = .ok (.val (.bl false)) S := zOG hb rfl
 have nn : zRF (.val (.loc b)) (.val .non) S = .ok (.val (.bl false)) S := rfl
 show yX (jP (zK n) [some (.loc a), some (.loc b)] S) = _
 unfold jP
 rw [zD (show yY (zK n) [some (.loc a), some (.loc b)] S = .ok (.next [some (.loc a), some (.loc b)]) S by unfold yY; simp? [nn]; rfl)]
 rw [zD (show yZ (zK n) [some (.loc a), some (.loc b)] S = .ok (.next [some (.loc a), some (.loc b)]) S by unfold yZ; simp? [is]; rfl)]
 rw [zD (show wE (zK n) [some (.loc a), some (.loc b)] S = .ok (.next [some (.loc a), some (.loc b)]) S by unfold wE; simp? [ii]; rfl)]
 rw [zD (show jE (zK n) [some (.loc a), some (.loc b)] S = .ok (.next [some (.loc a), some (.loc b)]) S by unfold jE; simp? [il a da ha, il b db hb, Bool.not_true, Bool.false_eq_true, if_false])]
 rw [zD (show jF (zK n) [some (.loc a), some (.loc b)] S = .ok (.next [some (.loc a), some (.loc b)]) S by unfold jF; simp? [it, Bool.false_eq_true, if_false])]
 unfold zAU
 simp? [zUF ha, zUF hb, hl, decide_true, jS, iz]
 rw [if_pos (show (pairs da db).length < 1000000 by omega)]
 rw [show blk 2 [] [some (.loc a), some (.loc b)] = [none, none] from rfl, hc, zBA]
 simp [bok, zAZ]
 rfl
theorem yQA {n a b : Nat} {S : Sto} {ps : List Nat} (ha : S[a]? = some (.lst (ps.map xX))) (hb : S[b]? = some (.lst (ps.map xX))) (hz : ps.length < 1000) : zJ 2 (zK (n + 2)) [.val (.loc a), .val (.loc b)] S = .ok (.val (.bl true)) S :=
 wB rfl (zQC ha hb rfl (by rw [zFK, List.length_map, List.length_map]; exact hz) fun e he => by
  rw [zFK] at he
  obtain ⟨x, hx, rfl⟩ := List.mem_map.mp he
  obtain ⟨m, _, rfl⟩ := List.mem_map.mp hx
  exact ⟨_, _, rfl, zXB (n + 1) S (zDF _) (by simp [sm, xX]) (by show dpt (.int _) < _; rw [dB]; exact Nat.zero_lt_succ _)⟩)
theorem zNF {n : Nat} {S : Sto} : ∀ {la lb : List MV} {pss : List (List Nat)}, LsAt S la pss → LsAt S lb pss → (∀ ps ∈ pss, ps.length < 1000) → (pairs la lb).length = pss.length ∧ ∀ e ∈ pairs la lb, ∃ x y, e = .tup [x, y] ∧ zJ 2 (zK (n + 2)) [.val x, .val y] S = .ok (.val (.bl true)) S
 | _, _, _, .nil, .nil, _ => ⟨rfl, fun e he => by cases he⟩
 | _, _, _, .cons (l := l1) h1 t1, .cons (l := l2) h2 t2, hz => by
  obtain ⟨i1, i2⟩ := zNF (n := n) t1 t2 fun ps hp => hz ps (List.mem_cons_of_mem _ hp)
  refine ⟨by show (_ :: pairs _ _).length = _; rw [List.length_cons, List.length_cons, i1], fun e he => ?_⟩
  rcases List.mem_cons.mp (show e ∈ MV.tup [.loc l1, .loc l2] :: pairs _ _ from he) with rfl | he
  ·exact ⟨_, _, rfl, yQA h1 h2 (hz _ List.mem_cons_self)⟩
  ·exact i2 e he
theorem yIO {a b : Nat} {S : Sto} {la lb : List MV} {pss : List (List Nat)} (ha : S[a]? = some (.lst la)) (hb : S[b]? = some (.lst lb)) (h1 : LsAt S la pss) (h2 : LsAt S lb pss) (hl : pss.length < 1000) (hz : ∀ ps ∈ pss, ps.length < 1000) : zK 8 [.loc a, .loc b] S = .ok (.val (.bl true)) S := by
 obtain ⟨i1, i2⟩ := zNF (n := 5) h1 h2 hz
 exact zQC (n := 7) ha hb (by rw [h1.length, h2.length]) (by rw [i1]; exact hl) i2
theorem zMW {k : MV} {i : Nat} : ∀ {ks : List MV} {pss : List (List Nat)}, ks.length = pss.length → (zDG k i ks pss).length = pss.length
 | [], [], _ => rfl
 | [], _ :: _, h => by simp at h
 | _ :: _, [], h => by simp at h
 | c :: ks, ps :: pss, h => by
  unfold zDG
  split
  ·rfl
  ·rw [List.length_cons, List.length_cons, zMW (by simpa using h)]
theorem zQD : ∀ (r : List MV) (i : Nat) (ks : List MV) (pss : List (List Nat)), ks.length = pss.length → (∀ ps ∈ pss, ps.length ≤ i) → pss.length ≤ i → (zHT r i ks pss).2.length ≤ i + r.length ∧ ∀ ps ∈ (zHT r i ks pss).2, ps.length ≤ i + r.length
 | [], i, ks, pss, _, h2, h3 => ⟨h3, h2⟩
 | k :: r, i, ks, pss, h1, h2, h3 => by
  unfold zHT
  rw [List.length_cons, show i + (r.length + 1) = i + 1 + r.length by omega]
  by_cases hm : k ∈ ks
  ·rw [if_pos hm]
   exact zQD r (i + 1) ks (zDG k i ks pss) (by rw [zMW h1]; exact h1) (zLV h2) (by rw [zMW h1]; omega)
  ·rw [if_neg hm]
   refine zQD r (i + 1) (ks ++ [k]) (pss ++ [[i]]) (by rw [zQ4, zQ4, h1]; rfl) (fun ps hp => ?_) (by rw [zQ4]; exact Nat.succ_le_succ h3)
   rcases List.mem_append.mp hp with z | z
   ·exact Nat.le_succ_of_le (h2 ps z)
   ·rw [List.mem_singleton.mp z]; exact Nat.succ_le_succ (Nat.zero_le _)
theorem yQB {ts : List (Int × Int)} {rs : List (Nat × List MV)} (hT : TOk ts) (hr : ∀ r ∈ rs, ROk ts r) (hl : rs.length ≤ 60) (S : Sto) (ρ : Rho) (j : Nat) :
  ∃ (T : Sto) (L : Nat) (ls : List MV), (zJ 2 xO [.val (.tup (ts.map tbl)), .val (.tup (rs.map zN))] S).bind (xZ ρ j) = .ok (.next (ρ.set j (some (.loc L)))) T ∧ T[L]? = some (.lst ls) ∧ LsAt T ls (zHT (rs.map (xS ts)) 0 [] []).2 ∧ ∀ (m : Nat) (o : MO), S[m]? = some o → T[m]? = some o := by
 obtain ⟨S', ls, B, hF⟩ := yES hT hr hl S
 have hcall : zJ 2 xO [.val (.tup (ts.map tbl)), .val (.tup (rs.map zN))] S = zDQ S (.val (.loc (S.length + 1))) S' := by
  unfold zJ
  rw [if_pos (show [Er.val (.tup (ts.map tbl)), Er.val (.tup (rs.map zN))].length = 2 from rfl), show yI [.val (.tup (ts.map tbl)), .val (.tup (rs.map zN))] S = ([.tup (ts.map tbl), .tup (rs.map zN)], S) from rfl]
  show ((noX (xO [.tup (ts.map tbl), .tup (rs.map zN)] S)).bind fun r S2 => zDQ S r S2) = _
  rw [hF, zGU, bok]
 rw [hcall]
 unfold zDQ
 rw [if_pos (yDG B.old)]
 dsimp only
 rw [if_neg (by omega), B.f]
 dsimp only
 by_cases e : ls = []
 ·rw [if_pos (by rw [e]; exact xN fun d hd => by cases hd), bok, yCG]
  have old := zXK B.old
  refine ⟨_, _, ls, rfl, zFM _ _, B.lat.nil_of e, fun m o h => ?_⟩
  have := old m o h
  rw [zQ2 (zQ1.mp this).1]
  exact this
 ·rw [if_neg (yIN (fun m h => Nat.le_of_lt (Nat.lt_of_succ_lt (B.new m h))) B.lat.locs e), bok, yCF]
  exact ⟨S', _, ls, rfl, B.f, B.lat, B.old⟩
theorem SqM.list {S : Sto} {m : MV} {ds : List MV} (h : SqM S m ds) : listF [.val m] S = .ok (.new ds) S := by
 rcases h with rfl | ⟨l, rfl, hS⟩
 ·rfl
 ·show (match itemsOf S (.val (.loc l)) with | some ds => R.ok (Er.new ds) S | none => .no) = _
  rw [show itemsOf S (.val (.loc l)) = some ds by unfold itemsOf; exact zDR hS]
section
variable {ts : List (Int × Int)} {rl : List Rule} {rs : List (Nat × List MV)} {vs : List MV} {q : MV} {hd : Int} {x6 : Option MV}
abbrev yIP (ts : List (Int × Int)) (rl : List Rule) (rs : List (Nat × List MV)) : MV := .tup [.tup (ts.map tbl), .tup (rl.map yO), .tup (rs.map zN)]
theorem yMB (hT : TOk ts) (hR : ∀ r ∈ rl, zLS ts r) (hrl : rl.length ≤ 6) (hr : ∀ r ∈ rs, ROk ts r) (hl : rs.length ≤ 60) : pd (yIP ts rl rs) = true ∧ dpt (yIP ts rl rs) < 8 ∧ sm (yIP ts rl rs) = true := by
 have a : pdL (ts.map tbl) = true ∧ zFI (ts.map tbl) ≤ 1 ∧ smL (ts.map tbl) = true := ⟨zCH fun d hd => by obtain ⟨p, _, rfl⟩ := List.mem_map.mp hd; exact (yAI p).1, zCI fun d hd => by obtain ⟨p, _, rfl⟩ := List.mem_map.mp hd; exact (yAI p).2.1, zFL fun d hd => by obtain ⟨p, _, rfl⟩ := List.mem_map.mp hd; exact (yAI p).2.2⟩
 have b : pdL (rl.map yO) = true ∧ zFI (rl.map yO) ≤ 4 ∧ smL (rl.map yO) = true := ⟨zCH fun d hd => by obtain ⟨p, hp, rfl⟩ := List.mem_map.mp hd; exact (zVA (hR p hp)).1, zCI fun d hd => by obtain ⟨p, hp, rfl⟩ := List.mem_map.mp hd; exact (zVA (hR p hp)).2.1, zFL fun d hd => by obtain ⟨p, hp, rfl⟩ := List.mem_map.mp hd; exact (zVA (hR p hp)).2.2⟩
 have c : pdL (rs.map zN) = true ∧ zFI (rs.map zN) ≤ 2 ∧ smL (rs.map zN) = true := ⟨zCH fun d hd => by obtain ⟨p, hp, rfl⟩ := List.mem_map.mp hd; exact (zPY (hr p hp)).1, zCI fun d hd => by obtain ⟨p, hp, rfl⟩ := List.mem_map.mp hd; exact (zPY (hr p hp)).2, zFL fun d hd => by obtain ⟨p, hp, rfl⟩ := List.mem_map.mp hd; exact yPW hT (hr p hp)⟩
 have h4 := hT.2.1
 refine ⟨?_, ?_, ?_⟩
 ·rw [jV, yQ, yQ, yQ, zFJ, jV, jV, jV, a.1, b.1, c.1]; rfl
 ·rw [wJ, yH, yH, yH, dG, wJ, wJ, wJ]; omega
 ·rw [nJ, xA, xA, xA, nJ, nJ, nJ, a.2.2, b.2.2, c.2.2, decide_eq_true (show (ts.map tbl).length < 1000 by rw [List.length_map]; omega), decide_eq_true (show (rl.map yO).length < 1000 by rw [List.length_map]; omega), decide_eq_true (show (rs.map zN).length < 1000 by rw [List.length_map]; omega)]
  simp [smL]
end
theorem yIQ : ∀ {ts : List (Int × Int)} {o : List MV}, (∀ y ∈ o, ∃ r, zLS ts r ∧ y = yO r) → ∃ rl : List Rule, o = rl.map yO ∧ ∀ r ∈ rl, zLS ts r := by
 intro ts o
 induction o with
 | nil => exact fun _ => ⟨[], rfl, fun c hc => by simp at hc⟩
 | cons a o ih =>
  intro h
  obtain ⟨r, hr, rfl⟩ := h a List.mem_cons_self
  obtain ⟨rl, rfl, hrl⟩ := ih fun y hy => h y (List.mem_cons_of_mem _ hy)
  exact ⟨r :: rl, rfl, fun d hd => (List.mem_cons.mp hd).elim (fun e => e ▸ hr) (hrl d)⟩
theorem zXL (t : Nat) (qs : List Test) : yO (.never t qs) = .tup [.str zAY, .int (t : Nat), .tup (qs.map testM)] := rfl
theorem tup0 (S : Sto) : nS [] S = .ok (.val (.tup [])) S := zUH (by simp)
theorem LsAt.keep {S T : Sto} (h : ∀ (m : Nat) (o : MO), S[m]? = some o → T[m]? = some o) : ∀ {ls : List MV} {pss : List (List Nat)}, LsAt S ls pss → LsAt T ls pss
 | _, _, .nil => .nil
 | _, _, .cons a t => .cons (h _ _ a) (t.keep h)
theorem yMC {S : Sto} {d : MV} (hd : pd d = true) (h : dpt d < 40) : neF (.val d) (.val d) S = .ok (.val (.bl false)) S := by
 rw [yAA (zHR (zR + 1) hd hd (by unfold zR; omega)), decide_eq_true rfl]
 rfl
theorem yMD {S : Sto} {l : Nat} {ds : List MV} (hS : S[l]? = some (.lst ds)) : revF (.val (.loc l)) [] S = .ok (.val .non) (S.set l (.lst ds.reverse)) := by
 show zMQ (.val (.loc l)) S (fun ds => some ds.reverse) = _
 unfold zMQ
 dsimp only
 rw [hS]
theorem yME {ts : List (Int × Int)} (hT : TOk ts) (c : Int) (S : Sto) : ∃ r, zLS ts r ∧ zJ 2 gF [.val (.int c), .val (.tup (ts.map tbl))] S = .ok (.val (yO r)) S := by
 have tl : (((ts.map tbl).length : Nat) : Int) = ts.length := by rw [List.length_map]
 have t0 : (0 : Int) < (((ts.map tbl).length : Nat) : Int) := by have := hT.1; omega
 have i0 : 0 ≤ c / 7 % (((ts.map tbl).length : Nat) : Int) := Int.emod_nonneg _ (by omega)
 have i1 : c / 7 % (((ts.map tbl).length : Nat) : Int) < (((ts.map tbl).length : Nat) : Int) := Int.emod_lt_of_pos _ t0
 have a0 : 0 ≤ c % 7 := Int.emod_nonneg _ (by decide)
 have a1 : c % 7 < 7 := Int.emod_lt_of_pos _ (by decide)
 have b0 : 0 ≤ c / 28 % 5 := Int.emod_nonneg _ (by decide)
 have b1 : c / 28 % 5 < 5 := Int.emod_lt_of_pos _ (by decide)
 have et : ((c / 7 % (((ts.map tbl).length : Nat) : Int)).toNat : Int) = c / 7 % (((ts.map tbl).length : Nat) : Int) := Int.toNat_of_nonneg i0
 have hst : yA ["_law_cell", "_law_tables_here", "_law_left"] [.int c, .tup (ts.map tbl)] = [some (.int c), some (.tup (ts.map tbl)), none] := rfl
 have ok : zLS ts (.never (c / 7 % (((ts.map tbl).length : Nat) : Int)).toNat [⟨.isv (.int (c % 7)), [115,97,109,101], .isv (.int (c % 7 + 1 + c / 28 % 5))⟩]) := by
  refine ⟨by omega, Nat.le_refl _, show 1 ≤ 3 from by decide, fun q hq => ?_⟩
  rw [List.mem_singleton.mp hq]
  exact ⟨show Vl (.int (c % 7)) from ⟨by omega, by omega⟩, show ([115,97,109,101] : List Nat) ∈ zUW from by decide, show Vl (.int (c % 7 + 1 + c / 28 % 5)) from ⟨by omega, by omega⟩⟩
 have e1 : zDD [some (.int c), some (.tup (ts.map tbl)), none] S = .ok (.next [some (.int c), some (.tup (ts.map tbl)), some (.tup [.str sIs, .int (c % 7)])]) S := by
  unfold zDD
  simp? [mod_lit (show (0 : Int) < 7 by decide)]
  rfl
 have e2 : zDE [some (.int c), some (.tup (ts.map tbl)), some (.tup [.str sIs, .int (c % 7)])] S = .ok (.ret (.val (yO (.never (c / 7 % (((ts.map tbl).length : Nat) : Int)).toNat [⟨.isv (.int (c % 7)), [115,97,109,101], .isv (.int (c % 7 + 1 + c / 28 % 5))⟩])))) S := by
  unfold zDE
  simp? [wQ (show (0 : Int) < 7 by decide) (show (7 : Int) < 1073741824 by decide), zCG, mod_lit t0, mod_lit (show (0 : Int) < 7 by decide), wQ (show (0 : Int) < 28 by decide) (show (28 : Int) < 1073741824 by decide), mod_lit (show (0 : Int) < 5 by decide), tup1]
  rw [zXL, et]
  rfl
 refine ⟨_, ok, bQ rfl ?_ (yCW ok _) (yAG _)⟩
 show gF [.int c, .tup (ts.map tbl)] S = _
 unfold gF zHQ
 rw [hst, zD e1, e2]
 rfl
abbrev K10 (q : MV) (ts : List (Int × Int)) (hd : Int) (rs : List (Nat × List MV)) (L : Nat) (t s r : Option MV) : Rho := [some q, some (.loc 0), some (.tup (ts.map tbl)), some (.int hd), some (.tup (rs.map zN)), some (.tup [.tup (ts.map tbl), .tup [], .tup (rs.map zN)]), some (.loc L), t, s, r]
theorem zTA {q : MV} {ts : List (Int × Int)} {hd : Int} {rs : List (Nat × List MV)} {L A : Nat} {all : List MV} {r : Option MV} {S0 : Sto} (hA : MV.loc A ∉ all) : ∀ (ls : List MV) (S : Sto) (k : Nat) (s : Option MV), (∀ d ∈ ls, d ∈ all) → S[A]? = some (.lst all) → (∀ d ∈ all, ∃ l ds, d = .loc l ∧ S[l]? = some (.lst ds) ∧ ds.length ≤ 1000 + k) → (∀ (m : Nat) (o : MO), S0[m]? = some o → MV.loc m ∉ all → S[m]? = some o) → ls.length + k ≤ 1000 →
  ∃ S' s', gK (gNm 8) zOD [(A, all)] ls (K10 q ts hd rs L (some (.loc A)) s r) S = .ok (.next (K10 q ts hd rs L (some (.loc A)) s' r)) S' ∧ ∀ (m : Nat) (o : MO), S0[m]? = some o → MV.loc m ∉ all → S'[m]? = some o
 | [], S, k, s, _, _, _, ho, _ => ⟨S, s, rfl, ho⟩
 | d :: ls, S, k, s, hin, hS, hall, ho, hk => by
  rw [List.length_cons] at hk
  obtain ⟨l, ds, rfl, hl, hz⟩ := hall d (hin d List.mem_cons_self)
  have hla : l ≠ A := fun z => hA (by rw [← z]; exact hin _ List.mem_cons_self)
  have hb : zOD (K10 q ts hd rs L (some (.loc A)) (some (.loc l)) r) S = .ok (.next (K10 q ts hd rs L (some (.loc A)) (some (.loc l)) r)) (S.set l (.lst (ds ++ [.int 0]))) := by
   unfold zOD zSV
   simp? [bE hl, zCF hl (show ds.length < 1000000 by omega)]
  have hS' : (S.set l (.lst (ds ++ [.int 0])))[A]? = some (.lst all) := by rw [List.getElem?_set_ne hla]; exact hS
  obtain ⟨S', s', e, h'⟩ := zTA (S0 := S0) hA ls (S.set l (.lst (ds ++ [.int 0]))) (k + 1) (some (.loc l)) (fun e he => hin e (List.mem_cons_of_mem _ he)) hS' (fun e he => by
   obtain ⟨l2, d2, rfl, h2, z2⟩ := hall e he
   by_cases c : l = l2
   ·subst c
    rw [hl] at h2
    cases h2
    exact ⟨l, _, rfl, List.getElem?_set_self (zQ1.mp hl).1, by rw [zQ4]; exact Nat.succ_le_succ hz⟩
   ·exact ⟨l2, d2, rfl, by rw [List.getElem?_set_ne c]; exact h2, by omega⟩) (fun m o h n => by
   have : l ≠ m := fun z => n (by rw [← z]; exact hin _ List.mem_cons_self)
   rw [List.getElem?_set_ne this]
   exact ho m o h n) (by omega)
  refine ⟨S', s', ?_, h'⟩
  rw [dD (show gNm 8 (.loc l) (K10 q ts hd rs L (some (.loc A)) s r) S = .ok (K10 q ts hd rs L (some (.loc A)) (some (.loc l)) r) S from rfl) hb (zLE hS')]
  exact e
theorem LsAt.each {S : Sto} : ∀ {ls : List MV} {pss : List (List Nat)}, LsAt S ls pss → (∀ ps ∈ pss, ps.length < 1000) → ∀ d ∈ ls, ∃ l ds, d = .loc l ∧ S[l]? = some (.lst ds) ∧ ds.length ≤ 1000 + 0
 | _, _, .cons (l := l0) (ps := p0) h t, hz, d, hd => by
  rcases List.mem_cons.mp hd with rfl | hd
  ·exact ⟨l0, _, rfl, h, by rw [List.length_map]; have := hz p0 List.mem_cons_self; omega⟩
  ·exact t.each (fun ps hp => hz ps (List.mem_cons_of_mem _ hp)) d hd
theorem yIR (ns : List Int) (h : ns.length ≤ 63) : ∃ S, zSX [.scr (ns.map MV.int)] [] = .ok (.val (.bl true)) S := by
 have hs : yA ["_law_script", "_law_pool_here", "_law_tables_here", "_law_head", "_law_rows_here", "_law_book", "_law_due", "_law_told", "_law_some", "_law_rules"] [.scr (ns.map MV.int)] = [some (.scr (ns.map MV.int)), none, none, none, none, none, none, none, none, none] := rfl
 obtain ⟨c0, h0⟩ := zUY ns 0 (by decide) []
 obtain ⟨vs, hv, hV, hpool⟩ := yLM c0 []
 obtain ⟨c1, h1⟩ := zUY ns 1 (by decide) [.lst vs]
 obtain ⟨ts, hT, htab⟩ := yEO c1 [.lst vs]
 obtain ⟨hd, h2⟩ := zUY ns 2 (by decide) [.lst vs]
 have hS0 : ([MO.lst vs] : Sto)[0]? = some (.lst vs) := rfl
 have hw0 : 0 ≤ hd % 6 := Int.emod_nonneg _ (by decide)
 have hw1 : hd % 6 < 6 := Int.emod_lt_of_pos _ (by decide)
 have hcl : (bK ns (some 3) (some 63)).length ≤ 60 := by
  unfold bK
  rw [List.length_take, List.length_drop]
  have z1 : HT.sIx ns.length 0 (some 3) = min 3 ns.length := by unfold HT.sIx; simp only; split <;> omega
  have z2 : HT.sIx ns.length ns.length (some 63) = min 63 ns.length := by unfold HT.sIx; simp only; split <;> omega
  rw [z1, z2]
  omega
 obtain ⟨rs, hr, hn, hl, hrows⟩ := yLN hT (bK ns (some 3) (some 63)) hcl (w := 2 + hd % 6) ⟨by omega, by omega⟩ hv hV hS0
 have hl60 : rs.length ≤ 60 := by omega
 obtain ⟨gs1, gs2⟩ := zQD (rs.map (xS ts)) 0 [] [] rfl (by simp) (Nat.le_refl _)
 rw [List.length_map] at gs1 gs2
 have gsz : ∀ ps ∈ (zHT (rs.map (xS ts)) 0 [] []).2, ps.length < 1000 := fun ps hp => by have := gs2 ps hp; omega
 have gsl : (zHT (rs.map (xS ts)) 0 [] []).2.length < 1000 := by omega
 obtain ⟨bp, bd, _⟩ := yMB (rl := []) hT (fun r hr => by cases hr) (by decide) hr hl60
 have e1 : zUM [some (.scr (ns.map MV.int)), none, none, none, none, none, none, none, none, none] [] = .ok (.next [some (.scr (ns.map MV.int)), some (.loc 0), none, none, none, none, none, none, none, none]) [.lst vs] := by
  unfold zUM
  simp? [h0, hpool]
  rfl
 have e2 : zUN [some (.scr (ns.map MV.int)), some (.loc 0), none, none, none, none, none, none, none, none] [.lst vs] = .ok (.next [some (.scr (ns.map MV.int)), some (.loc 0), some (.tup (ts.map tbl)), none, none, none, none, none, none, none]) [.lst vs] := by
  unfold zUN
  simp? [h1, htab]
 have e3 : zUO [some (.scr (ns.map MV.int)), some (.loc 0), some (.tup (ts.map tbl)), none, none, none, none, none, none, none] [.lst vs] = .ok (.next [some (.scr (ns.map MV.int)), some (.loc 0), some (.tup (ts.map tbl)), some (.int hd), none, none, none, none, none, none]) [.lst vs] := by
  unfold zUO
  simp? [h2]
 have e4 : zUP [some (.scr (ns.map MV.int)), some (.loc 0), some (.tup (ts.map tbl)), some (.int hd), none, none, none, none, none, none] [.lst vs] = .ok (.next [some (.scr (ns.map MV.int)), some (.loc 0), some (.tup (ts.map tbl)), some (.int hd), some (.tup (rs.map zN)), none, none, none, none, none]) [.lst vs] := by
  unfold zUP
  have hcut : zKY (.val (.scr (ns.map MV.int))) (some 3) (some 63) [MO.lst vs] = .ok (.new ((bK ns (some 3) (some 63)).map MV.int)) [MO.lst vs] := by
   rw [← yHO]; rfl
  simp? [hcut, mod_lit (show (0 : Int) < 6 by decide), hrows]
 have cb : ∀ S : Sto, zJ 3 bZ [.val (.tup (ts.map tbl)), .val (.tup []), .val (.tup (rs.map zN))] S = .ok (.val (.tup [.tup (ts.map tbl), .tup [], .tup (rs.map zN)])) S := fun S => yIH (rl := []) (.inl rfl) (.inl rfl) (.inl rfl) hT (fun r hr => by cases hr) (by decide) hr hn hl60
 have e5 : zUQ [some (.scr (ns.map MV.int)), some (.loc 0), some (.tup (ts.map tbl)), some (.int hd), some (.tup (rs.map zN)), none, none, none, none, none] [.lst vs] = .ok (.next [some (.scr (ns.map MV.int)), some (.loc 0), some (.tup (ts.map tbl)), some (.int hd), some (.tup (rs.map zN)), some (.tup [.tup (ts.map tbl), .tup [], .tup (rs.map zN)]), none, none, none, none]) [.lst vs] := by
  unfold zUQ
  simp? [tup0, cb]
 obtain ⟨T, L, dl, d1, d2, d3, d4⟩ := yQB hT hr hl60 [.lst vs] [some (.scr (ns.map MV.int)), some (.loc 0), some (.tup (ts.map tbl)), some (.int hd), some (.tup (rs.map zN)), some (.tup [.tup (ts.map tbl), .tup [], .tup (rs.map zN)]), none, none, none, none] 6
 have e6 : zUR [some (.scr (ns.map MV.int)), some (.loc 0), some (.tup (ts.map tbl)), some (.int hd), some (.tup (rs.map zN)), some (.tup [.tup (ts.map tbl), .tup [], .tup (rs.map zN)]), none, none, none, none] [.lst vs] = .ok (.next (K10 (.scr (ns.map MV.int)) ts hd rs L none none none)) T := by
  unfold zUR
  simp? [bok]
  exact d1
 have pl : ∀ S : Sto, zJ 1 kD [.val (.tup [.tup (ts.map tbl), .tup [], .tup (rs.map zN)])] S = .ok (.val (.bl true)) S := fun S => zVB rfl S
 have bn : ∀ S : Sto, neF (.val (.tup [.tup (ts.map tbl), .tup [], .tup (rs.map zN)])) (.val (.tup [.tup (ts.map tbl), .tup [], .tup (rs.map zN)])) S = .ok (.val (.bl false)) S := fun S => yMC bp (Nat.lt_trans bd (by decide))
 have e7 : zUS (K10 (.scr (ns.map MV.int)) ts hd rs L none none none) T = .ok (.next (K10 (.scr (ns.map MV.int)) ts hd rs L none none none)) T := by
  unfold zUS
  simp? [pl, show ∀ S, zWT true (.val (.bl true)) (.val (.bl true)) S = .ok (.val (.bl false)) S from fun S => rfl, Bool.false_eq_true, if_false, tup0, bn]
 obtain ⟨S8, l8, a1, a2, a3, a4, a5⟩ := zXE hT hr hl60 T
 obtain ⟨S9, c1', c2', c3'⟩ := zQB (n := 1) (F := f_blocks) (rs := [.val (.tup [.tup (ts.map tbl), .tup [], .tup (rs.map zN)])]) rfl rfl a5 a1 a3 a4
 have e8 : zUT (K10 (.scr (ns.map MV.int)) ts hd rs L none none none) T = .ok (.next (K10 (.scr (ns.map MV.int)) ts hd rs L (some (.loc S9.length)) none none)) (S9 ++ [.lst l8]) := by
  unfold zUT
  simp? [c1']
 have k9 : ∀ (m : Nat) (o : MO), T[m]? = some o → (S9 ++ [MO.lst l8])[m]? = some o := fun m o hm => by
  have := c3' m o hm
  rw [zQ2 (zQ1.mp this).1]
  exact this
 have al1 : zJ 2 (zK 8) [.val (.loc S9.length), .val (.loc L)] (S9 ++ [.lst l8]) = .ok (.val (.bl true)) (S9 ++ [.lst l8]) := wB rfl (yIO (zFM S9 _) (k9 L _ d2) c2'.app (d3.keep k9) gsl gsz)
 have e9 : zUU (K10 (.scr (ns.map MV.int)) ts hd rs L (some (.loc S9.length)) none none) (S9 ++ [.lst l8]) = .ok (.next (K10 (.scr (ns.map MV.int)) ts hd rs L (some (.loc S9.length)) none none)) (S9 ++ [.lst l8]) := by
  unfold zUU
  simp? [al1, Bool.not_true, Bool.false_eq_true, if_false]
 have sr : (S9 ++ [MO.lst l8]).set S9.length (.lst l8.reverse) = S9 ++ [.lst l8.reverse] := by simp
 have e10 : zPP (K10 (.scr (ns.map MV.int)) ts hd rs L (some (.loc S9.length)) none none) (S9 ++ [.lst l8]) = .ok (.next (K10 (.scr (ns.map MV.int)) ts hd rs L (some (.loc S9.length)) none none)) (S9 ++ [.lst l8.reverse]) := by
  unfold zPP
  simp? [bE (zFM S9 (.lst l8)), yMD (zFM S9 (.lst l8)), sr]
 have hA : MV.loc S9.length ∉ l8.reverse := fun z => c2'.lt (Nat.le_refl _) (List.mem_reverse.mp z)
 have ll8 : l8.length ≤ 60 := by rw [a1.length]; omega
 obtain ⟨S11, s11, z1, z2⟩ := zTA (q := .scr (ns.map MV.int)) (ts := ts) (hd := hd) (rs := rs) (L := L) (r := none) (S0 := S9 ++ [.lst l8.reverse]) hA l8.reverse (S9 ++ [.lst l8.reverse]) 0 none (fun d hd => hd) (zFM S9 _) (fun d hd => (c2'.app (T := [.lst l8.reverse])).each gsz d (List.mem_reverse.mp hd)) (fun m o h _ => h) (by rw [List.length_reverse]; omega)
 have e11 : zPQ (K10 (.scr (ns.map MV.int)) ts hd rs L (some (.loc S9.length)) none none) (S9 ++ [.lst l8.reverse]) = .ok (.next (K10 (.scr (ns.map MV.int)) ts hd rs L (some (.loc S9.length)) s11 none)) S11 := by
  unfold zPQ
  simp? [yCH (zFM S9 (.lst l8.reverse))]
  exact z1
 have k11 : ∀ (m : Nat) (o : MO), T[m]? = some o → S11[m]? = some o := fun m o hm => by
  have mlt := (zQ1.mp hm).1
  have h9 := c3' m o hm
  refine z2 m o (by rw [zQ2 (zQ1.mp h9).1]; exact h9) fun z => ?_
  have := a3 m (List.mem_reverse.mp z)
  omega
 obtain ⟨S12, l12, g1, g2, g3, g4, g5⟩ := zXE hT hr hl60 S11
 obtain ⟨S13, j1, j2, j3⟩ := zQB (n := 1) (F := f_blocks) (rs := [.val (.tup [.tup (ts.map tbl), .tup [], .tup (rs.map zN)])]) rfl rfl g5 g1 g3 g4
 have k13 : ∀ (m : Nat) (o : MO), T[m]? = some o → (S13 ++ [MO.lst l12])[m]? = some o := fun m o hm => by
  have := j3 m o (k11 m o hm)
  rw [zQ2 (zQ1.mp this).1]
  exact this
 have af : zK 8 [.loc S13.length, .loc L] (S13 ++ [.lst l12]) = .ok (.val (.bl true)) (S13 ++ [.lst l12]) := yIO (zFM S13 _) (k13 L _ d2) j2.app (d3.keep k13) gsl gsz
 have al2 : zJ 2 (zK 8) [.new l12, .val (.loc L)] S13 = .ok (.val (.bl true)) S13 := by
  refine zAJ (T := [.lst l12]) rfl ?_ (yHI _ _) (fun l => by simp)
  rw [show yI [.new l12, .val (.loc L)] S13 = ([.loc S13.length, .loc L], S13 ++ [.lst l12]) from rfl]
  exact af
 have e12 : zPR (K10 (.scr (ns.map MV.int)) ts hd rs L (some (.loc S9.length)) s11 none) S11 = .ok (.next (K10 (.scr (ns.map MV.int)) ts hd rs L (some (.loc S9.length)) s11 none)) S13 := by
  unfold zPR
  simp? [j1, al2, Bool.not_true, Bool.false_eq_true, if_false, tup0, bn]
 have r0 : 0 ≤ hd / 6 % 6 := Int.emod_nonneg _ (by decide)
 have r1 : hd / 6 % 6 < 6 := Int.emod_lt_of_pos _ (by decide)
 obtain ⟨out, k1, l1, p1⟩ := zWO (S := S13) (gf := gNm 0) (cf := zSW) (ef := zMT) (ρb := [none, some (.tup (ts.map tbl)), some (.int hd)]) (gs := []) (P := fun y => ∃ r, zLS ts r ∧ y = yO r) (gB _) (ds := (List.range (1 + hd / 6 % 6).toNat).map fun j => MV.int (j : Nat)) (fun d hd' => by
  obtain ⟨j, _, rfl⟩ := List.mem_map.mp hd'
  obtain ⟨r, hr, hrc⟩ := yME hT (hd / 6 + (j : Nat)) S13
  refine ⟨[some (.int (j : Nat)), some (.tup (ts.map tbl)), some (.int hd)], yO r, rfl, rfl, ?_, r, hr, rfl⟩
  unfold zMT
  simp? [wQ (show (0 : Int) < 6 by decide) (show (6 : Int) < 1073741824 by decide), hrc])
 rw [List.length_map, List.length_range] at l1
 obtain ⟨rl, rfl, hR⟩ := yIQ p1
 rw [List.length_map] at l1
 have hll : ((List.range (1 + hd / 6 % 6).toNat).map fun k => MV.int (k : Nat)).length < 1000000 := by rw [List.length_map, List.length_range]; omega
 have e13 : zPS (K10 (.scr (ns.map MV.int)) ts hd rs L (some (.loc S9.length)) s11 none) S13 = .ok (.next (K10 (.scr (ns.map MV.int)) ts hd rs L (some (.loc S9.length)) s11 (some (.tup (rl.map yO))))) S13 := by
  unfold zPS
  simp? [wQ (show (0 : Int) < 6 by decide) (show (6 : Int) < 1073741824 by decide), mod_lit (show (0 : Int) < 6 by decide), zPH (S := S13) (show -(2 ^ 62) ≤ 1 + hd / 6 % 6 ∧ 1 + hd / 6 % 6 < 2 ^ 62 by omega), hll,
   show blk 1 [2,3] (K10 (.scr (ns.map MV.int)) ts hd rs L (some (.loc S9.length)) s11 none) = [none, some (.tup (ts.map tbl)), some (.int hd)] from rfl, k1,
   show ∀ (o : List MV) (S : Sto), dS [.new o] S = .ok (.val (.tup o)) S from fun o S => rfl]
 have cb2 : zJ 3 bZ [.val (.tup (ts.map tbl)), .val (.tup (rl.map yO)), .val (.tup (rs.map zN))] S13 = .ok (.val (.tup [.tup (ts.map tbl), .tup (rl.map yO), .tup (rs.map zN)])) S13 := yIH (.inl rfl) (.inl rfl) (.inl rfl) hT hR (by omega) hr hn hl60
 have pl2 : zJ 1 kD [.val (.tup [.tup (ts.map tbl), .tup (rl.map yO), .tup (rs.map zN)])] S13 = .ok (.val (.bl false)) S13 := by
  rw [zVB rfl, decide_eq_false (by rw [List.length_map]; omega)]
 have e14 : zPT (K10 (.scr (ns.map MV.int)) ts hd rs L (some (.loc S9.length)) s11 (some (.tup (rl.map yO)))) S13 = .ok (.ret (.val (.bl true))) S13 := by
  unfold zPT
  simp? [cb2, pl2, show ∀ S, zWT false (.val (.bl false)) (.val (.bl false)) S = .ok (.val (.bl true)) S from fun S => rfl]
 refine ⟨S13, ?_⟩
 unfold zSX yHV
 rw [hs, zD e1, zD e2, zD e3, zD e4, zD e5, zD e6, zD e7, zD e8, zD e9, zD e10, zD e11, zD e12, zD e13, e14]
 rfl
section
variable {P : Program} {w : World} {K : PySem.W.Frag} {mg : Str → Option Value} {base : Heap}
def top (i : Nat) : Stmt := PySem.Challenge.pw_mendsure_k50_blocks.main.body.getD i (.Pass ⟨0,0,0,0⟩)
abbrev cJ : Stmt := top 2
theorem zXM : FnScope ["thing"] ["thing"] (zG cJ) := ⟨rfl, rfl, rfl, by decide +kernel, rfl, by decide +kernel, by decide +kernel⟩
theorem zXN {f : Addr} {fd : FuncData} (F : Fun K "is_whole" "is_whole" cJ f fd) (zNK : mg "int" = none) (zT : mg "isinstance" = none) (zKM : mg "bool" = none) : FnOk P w K mg base CX0 1 f fd ["thing"] (spM ⟨K, mg, P, w⟩ 1 kC) :=
 okM (k := 0) bS F zXM fun cdv A outer s H E hr => (zM (zX (jT (zP wI gQ rfl zT yL (zA (zB 0) (zA (zBX rfl zNK zZS) zC))) (gN (yGM (zP wI gQ rfl zT yL (zA (zB 0) (zA (zBX rfl zKM yCE) zC))))))))
abbrev cK : Stmt := top 3
theorem yAL : FnScope ["thing"] ["thing"] (zG cK) := ⟨rfl, rfl, rfl, by decide +kernel, rfl, by decide +kernel, by decide +kernel⟩
theorem yAM {f : Addr} {fd : FuncData} (F : Fun K "is_name" "is_name" cK f fd) (zNM : mg "str" = none) (zT : mg "isinstance" = none) (yR : mg "len" = none) {zBO : Tok} (jM : mg "MOST_LETTERS" = some (.int 8 zBO)) (zBN : mg "all" = none) : FnOk P w K mg base CX0 1 f fd ["thing"] (spM ⟨K, mg, P, w⟩ 1 zIO) :=
 okM (k := 0) zIN F yAL fun cdv A outer s H E hr => (zI (xT (zDN (zFZ (wL (yM (zP wI gQ rfl zT yL (zA (zB 0) (zA (zBX rfl zNM zZT) zC))))) (zAG (wL (yKI zE (zP yD xL rfl yR xM (zA (zB 0) zC)) (zEC rfl jM)))))) (zM (zX bI)) yT) (zM (zX (zP jN (zMN rfl) rfl zBN zMP (zA (zBZ (zG cK) ["thing"] ["sign"] [] (yOC (zB 0)) rfl (fun _ _ _ _ hN => (nT 0 hN)) (fun _ _ _ _ => zBY) (fun _ _ _ _ => (zTZ (gL [97]) (zB 0) (gL [122])))) zC)))))
abbrev cL : Stmt := top 4
theorem zXO : FnScope ["thing"] ["thing"] (zG cL) := ⟨rfl, rfl, rfl, by decide +kernel, rfl, by decide +kernel, by decide +kernel⟩
theorem zXP {f : Addr} {fd : FuncData} (F : Fun K "is_value" "is_value" cL f fd) {xR : Addr} {kA : FuncData} (zBR : FnOk P w K mg base CX0 1 xR kA ["thing"] (spM ⟨K, mg, P, w⟩ 1 kC)) (zBI : mg "is_whole" = some (.ref xR)) (dM : PySem.W.keepIn K (.ref xR) = true) (zBK : Binds K kA ["thing"] []) (zYG : mg "abs" = none) {zKI : Addr} {zQN : FuncData} (yFJ : FnOk P w K mg base CX0 1 zKI zQN ["thing"] (spM ⟨K, mg, P, w⟩ 1 zIO)) (yFH : mg "is_name" = some (.ref zKI)) (yAW : PySem.W.keepIn K (.ref zKI) = true) (yEY : Binds K zQN ["thing"] []) : FnOk P w K mg base CX0 2 f fd ["thing"] (spM ⟨K, mg, P, w⟩ 1 bT) :=
 okM (k := 1) zEG F zXO fun cdv A outer s H E hr => (zI (xT (yM (zO zBR (hr.mono (by decide)) rfl zBI dM zBK (zA (zB 0) zC))) (zM (zX (pm_lt hr.units (zP yFV yOL rfl zYG yOM (zA (zB 0) zC)) (zGV zE zE)))) yT) (zM (zX (zO yFJ (hr.mono (by decide)) rfl yFH yAW yEY (zA (zB 0) zC)))))
abbrev zDX : Stmt := top 6
theorem yET : FnScope ["tables", "row"] ["tables", "row"] (zG zDX) := ⟨rfl, rfl, rfl, by decide +kernel, rfl, by decide +kernel, by decide +kernel⟩
theorem yEU {f : Addr} {fd : FuncData} (F : Fun K "key_of" "key_of" zDX f fd)  : FnOk P w K mg base CX0 1 f fd ["tables", "row"] (spM ⟨K, mg, P, w⟩ 2 zLJ) :=
 okM (k := 0) zLI F yET fun cdv A outer s H E hr => (zM (zX (kW (zA (yK (zB 1) zE) (zA (zJQ (yK (zB 1) zE) zNZ (cS (yK (yK (zB 0) (yK (zB 1) zE)) zE))) zC)))))
abbrev cM : Stmt := top 16
theorem zXQ : FnScope ["book"] ["book"] (zG cM) := ⟨rfl, rfl, rfl, by decide +kernel, rfl, by decide +kernel, by decide +kernel⟩
theorem zXR {f : Addr} {fd : FuncData} (F : Fun K "is_plain" "is_plain" cM f fd) (yR : mg "len" = none) : FnOk P w K mg base CX0 1 f fd ["book"] (spM ⟨K, mg, P, w⟩ 1 kD) :=
 okM (k := 0) zEH F zXQ fun cdv A outer s H E hr => (zM (zX (zPC hr.units (zP yD xL rfl yR xM (zA (yK (zB 0) zE) zC)) zE)))
abbrev zDY : Stmt := top 17
theorem zIW : FnScope ["book", "by_key", "i", "row"] ["book"] (zG zDY) := ⟨rfl, rfl, rfl, by decide +kernel, rfl, by decide +kernel, by decide +kernel⟩
theorem yEV {f : Addr} {fd : FuncData} (F : Fun K "blocks" "blocks" zDY f fd) {jK : Addr} {dI : FuncData} (zFT : FnOk P w K mg base CX0 1 jK dI ["book"] (spM ⟨K, mg, P, w⟩ 1 kD)) (zFS : mg "is_plain" = some (.ref jK)) (zCJ : PySem.W.keepIn K (.ref jK) = true) (zFV : Binds K dI ["book"] []) (xD : mg "enumerate" = none) {zMY : Addr} {zTF : FuncData} (yIT : FnOk P w K mg base CX0 1 zMY zTF ["tables", "row"] (spM ⟨K, mg, P, w⟩ 2 zLJ)) (yIU : mg "key_of" = some (.ref zMY)) (yFI : PySem.W.keepIn K (.ref zMY) = true) (yIZ : Binds K zTF ["tables", "row"] []) (zIB : mg "list" = none) : FnOk P w K mg base CX0 2 f fd ["book"] (spM ⟨K, mg, P, w⟩ 1 f_blocks) :=
 okM (k := 1) zPO F zIW fun cdv A outer s H E hr => (zI (xT (wL (yM (zO zFT (hr.mono (by decide)) rfl zFS zCJ zFV (zA (zB 0) zC)))) (zM zAH) yT) (zI (yG 1 zIW.nd zWQ) (zI (dR PassesOwn.never rfl (zLF rfl xD (zA (yK (zB 0) zE) zC)) (zJO rfl (kZ (xU 2 zIW.nd) (kZ (xU 3 zIW.nd) zJN))) (zM (jO (gA (pm_sd hr.units (zB 1) (zA (zO yIT (hr.mono (by decide)) rfl yIU yFI yIZ (zA (yK (zB 0) zE) (zA (zB 3) zC))) (zA (zED zC) zC))) (zA (zB 2) zC))))) (zM (zX (yHU rfl rfl zIB (zB 1)))))))
abbrev cN : Stmt := top 26
theorem zXS : FnScope ["thing", "least", "most"] ["thing", "least", "most"] (zG cN) := ⟨rfl, rfl, rfl, by decide +kernel, rfl, by decide +kernel, by decide +kernel⟩
theorem zXT {f : Addr} {fd : FuncData} (F : Fun K "is_tuple" "is_tuple" cN f fd) (xE : mg "tuple" = none) (zT : mg "isinstance" = none) (yR : mg "len" = none) : FnOk P w K mg base CX0 1 f fd ["thing", "least", "most"] (spM ⟨K, mg, P, w⟩ 3 yJ) :=
 okM (k := 0) zEJ F zXS fun cdv A outer s H E hr => (zM (zX (jT (zP wI gQ rfl zT yL (zA (zB 0) (zA (zBX rfl xE jB) zC))) (gN (zTZ (zB 1) (zP yD xL rfl yR xM (zA (zB 0) zC)) (zB 2))))))
abbrev xV : Stmt := top 27
theorem zKG : FnScope ["thing", "bound"] ["thing", "bound"] (zG xV) := ⟨rfl, rfl, rfl, by decide +kernel, rfl, by decide +kernel, by decide +kernel⟩
theorem zKH {f : Addr} {fd : FuncData} (F : Fun K "is_number_below" "is_number_below" xV f fd) {xR : Addr} {kA : FuncData} (zBR : FnOk P w K mg base CX0 1 xR kA ["thing"] (spM ⟨K, mg, P, w⟩ 1 kC)) (zBI : mg "is_whole" = some (.ref xR)) (dM : PySem.W.keepIn K (.ref xR) = true) (zBK : Binds K kA ["thing"] []) : FnOk P w K mg base CX0 2 f fd ["thing", "bound"] (spM ⟨K, mg, P, w⟩ 2 zQ) :=
 okM (k := 1) jA F zKG fun cdv A outer s H E hr => (zM (zX (jT (zO zBR (hr.mono (by decide)) rfl zBI dM zBK (zA (zB 0) zC)) (gN (yKJ hr.units zE (zB 0) (zB 1))))))
abbrev cO : Stmt := top 28
theorem zNG : FnScope ["thing", "wide"] ["thing"] (zG cO) := ⟨rfl, rfl, rfl, by decide +kernel, rfl, by decide +kernel, by decide +kernel⟩
theorem zXU {f : Addr} {fd : FuncData} (F : Fun K "is_table" "is_table" cO f fd) {zY : Addr} {yN : FuncData} (xJ : FnOk P w K mg base CX0 1 zY yN ["thing", "least", "most"] (spM ⟨K, mg, P, w⟩ 3 yJ)) (xH : mg "is_tuple" = some (.ref zY)) (yW : PySem.W.keepIn K (.ref zY) = true) (xI : Binds K yN ["thing", "least", "most"] []) {xR : Addr} {kA : FuncData} (zBR : FnOk P w K mg base CX0 1 xR kA ["thing"] (spM ⟨K, mg, P, w⟩ 1 kC)) (zBI : mg "is_whole" = some (.ref xR)) (dM : PySem.W.keepIn K (.ref xR) = true) (zBK : Binds K kA ["thing"] []) {zII : Tok} (dJ : mg "MOST_WIDE" = some (.int 4 zII)) {zH : Addr} {zL : FuncData} (zU : FnOk P w K mg base CX0 2 zH zL ["thing", "bound"] (spM ⟨K, mg, P, w⟩ 2 zQ)) (zV : mg "is_number_below" = some (.ref zH)) (zS : PySem.W.keepIn K (.ref zH) = true) (zW : Binds K zL ["thing", "bound"] []) : FnOk P w K mg base CX0 3 f fd ["thing"] (spM ⟨K, mg, P, w⟩ 1 zEO) :=
 okM (k := 2) zEN F zNG fun cdv A outer s H E hr => (zI (xT (zDN (zFZ (wL (yM (zO xJ (hr.mono (by decide)) rfl xH yW xI (zA (zB 0) (zA zE (zA zE zC)))))) (zAG (wL (yM (zO zBR (hr.mono (by decide)) rfl zBI dM zBK (zA (yK (zB 0) zE) zC))))))) (zM (zX bI)) yT) (zI (yG 1 zNG.nd (yK (zB 0) zE)) (zM (zX (jT (zTZ zE (zB 1) (zEC rfl dJ)) (gN (zO zU (hr.mono (by decide)) rfl zV zS zW (zA (yK (zB 0) zE) (zA (wD (zB 1) zE) zC)))))))))
abbrev zAA : Stmt := top 29
theorem yAN : FnScope ["thing", "wides"] ["thing", "wides"] (zG zAA) := ⟨rfl, rfl, rfl, by decide +kernel, rfl, by decide +kernel, by decide +kernel⟩
theorem yAO {f : Addr} {fd : FuncData} (F : Fun K "is_side" "is_side" zAA f fd) {zY : Addr} {yN : FuncData} (xJ : FnOk P w K mg base CX0 1 zY yN ["thing", "least", "most"] (spM ⟨K, mg, P, w⟩ 3 yJ)) (xH : mg "is_tuple" = some (.ref zY)) (yW : PySem.W.keepIn K (.ref zY) = true) (xI : Binds K yN ["thing", "least", "most"] []) {jL : Addr} {dL : FuncData} (zKQ : FnOk P w K mg base CX0 2 jL dL ["thing"] (spM ⟨K, mg, P, w⟩ 1 bT)) (zKL : mg "is_value" = some (.ref jL)) (zIF : PySem.W.keepIn K (.ref jL) = true) (zKJ : Binds K dL ["thing"] []) {zH : Addr} {zL : FuncData} (zU : FnOk P w K mg base CX0 2 zH zL ["thing", "bound"] (spM ⟨K, mg, P, w⟩ 2 zQ)) (zV : mg "is_number_below" = some (.ref zH)) (zS : PySem.W.keepIn K (.ref zH) = true) (zW : Binds K zL ["thing", "bound"] []) (yR : mg "len" = none) : FnOk P w K mg base CX0 3 f fd ["thing", "wides"] (spM ⟨K, mg, P, w⟩ 2 zDV) :=
 okM (k := 2) nZ F yAN fun cdv A outer s H E hr => (zI (xT (yM (zO xJ (hr.mono (by decide)) rfl xH yW xI (zA (zB 0) (zA zE (zA zE zC))))) (zM (zX (jT (zPC hr.units (yK (zB 0) zE) (gL [105,115])) (gN (zO zKQ (hr.mono (by decide)) rfl zKL zIF zKJ (zA (yK (zB 0) zE) zC)))))) yT) (zI (xT (zDN (zFZ (wL (yM (zO xJ (hr.mono (by decide)) rfl xH yW xI (zA (zB 0) (zA zE (zA zE zC)))))) (zAG (zSN hr.units (yK (zB 0) zE) (gL [99,101,108,108]))))) (zM (zX bI)) yT) (zM (zX (jT (zO zU (hr.mono (by decide)) rfl zV zS zW (zA (yK (zB 0) zE) (zA (zP yD xL rfl yR xM (zA (zB 1) zC)) zC))) (gN (zO zU (hr.mono (by decide)) rfl zV zS zW (zA (yK (zB 0) zE) (zA (yK (zB 1) (yK (zB 0) zE)) zC)))))))))
abbrev zAB : Stmt := top 30
theorem yAP : FnScope ["thing", "wides"] ["thing", "wides"] (zG zAB) := ⟨rfl, rfl, rfl, by decide +kernel, rfl, by decide +kernel, by decide +kernel⟩
theorem yAQ {f : Addr} {fd : FuncData} (F : Fun K "is_test" "is_test" zAB f fd) {zY : Addr} {yN : FuncData} (xJ : FnOk P w K mg base CX0 1 zY yN ["thing", "least", "most"] (spM ⟨K, mg, P, w⟩ 3 yJ)) (xH : mg "is_tuple" = some (.ref zY)) (yW : PySem.W.keepIn K (.ref zY) = true) (xI : Binds K yN ["thing", "least", "most"] []) {zKK : Addr} {zQK : FuncData} (zTD : FnOk P w K mg base CX0 3 zKK zQK ["thing", "wides"] (spM ⟨K, mg, P, w⟩ 2 zDV)) (zTJ : mg "is_side" = some (.ref zKK)) (zRA : PySem.W.keepIn K (.ref zKK) = true) (zTM : Binds K zQK ["thing", "wides"] []) (zME : GTup K mg "WORDS" [.str [115,97,109,101], .str [117,110,108,105,107,101], .str [108,101,115,115]]) : FnOk P w K mg base CX0 4 f fd ["thing", "wides"] (spM ⟨K, mg, P, w⟩ 2 zIQ) :=
 okM (k := 3) zIP F yAP fun cdv A outer s H E hr => (zI (xT (wL (yM (zO xJ (hr.mono (by decide)) rfl xH yW xI (zA (zB 0) (zA zE (zA zE zC)))))) (zM (zX bI)) yT) (zM (zX (jT (zO zTD (hr.mono (by decide)) rfl zTJ zRA zTM (zA (yK (zB 0) zE) (zA (zB 1) zC))) (jT (pm_in hr.units (yK (zB 0) zE) (yLE (ds := [.str [115,97,109,101], .str [117,110,108,105,107,101], .str [108,101,115,115]]) rfl zME)) (gN (zO zTD (hr.mono (by decide)) rfl zTJ zRA zTM (zA (yK (zB 0) zE) (zA (zB 1) zC)))))))))
abbrev jH : Stmt := top 31
theorem zVC : FnScope ["thing", "wides"] ["thing", "wides"] (zG jH) := ⟨rfl, rfl, rfl, by decide +kernel, rfl, by decide +kernel, by decide +kernel⟩
theorem zVD {f : Addr} {fd : FuncData} (F : Fun K "are_tests" "are_tests" jH f fd) {zY : Addr} {yN : FuncData} (xJ : FnOk P w K mg base CX0 1 zY yN ["thing", "least", "most"] (spM ⟨K, mg, P, w⟩ 3 yJ)) (xH : mg "is_tuple" = some (.ref zY)) (yW : PySem.W.keepIn K (.ref zY) = true) (xI : Binds K yN ["thing", "least", "most"] []) {zFN : Tok} (bG : mg "MOST_TESTS" = some (.int 3 zFN)) {zKN : Addr} {zQR : FuncData} (yFD : FnOk P w K mg base CX0 4 zKN zQR ["thing", "wides"] (spM ⟨K, mg, P, w⟩ 2 zIQ)) (yFG : mg "is_test" = some (.ref zKN)) (yBG : PySem.W.keepIn K (.ref zKN) = true) (yEZ : Binds K zQR ["thing", "wides"] []) (zBN : mg "all" = none) : FnOk P w K mg base CX0 5 f fd ["thing", "wides"] (spM ⟨K, mg, P, w⟩ 2 jC) :=
 okM (k := 4) zCC F zVC fun cdv A outer s H E hr => (zM (zX (jT (zO xJ (hr.mono (by decide)) rfl xH yW xI (zA (zB 0) (zA zE (zA (zEC rfl bG) zC)))) (gN (zP jN (zMN rfl) rfl zBN zMP (zA (zBZ (zG jH) ["thing", "wides"] ["part"] [1] (zML (zB 0)) rfl (fun _ _ _ _ hN => (nT 0 hN)) (fun _ _ _ _ => zBY) (fun _ _ _ _ => (zO yFD (hr.mono (by decide)) rfl yFG yBG yEZ (zA (zB 0) (zA (zB 1) zC))))) zC))))))
abbrev wM : Stmt := top 32
theorem zQE : FnScope ["thing", "wide"] ["thing", "wide"] (zG wM) := ⟨rfl, rfl, rfl, by decide +kernel, rfl, by decide +kernel, by decide +kernel⟩
theorem zQF {f : Addr} {fd : FuncData} (F : Fun K "are_columns" "are_columns" wM f fd) {zY : Addr} {yN : FuncData} (xJ : FnOk P w K mg base CX0 1 zY yN ["thing", "least", "most"] (spM ⟨K, mg, P, w⟩ 3 yJ)) (xH : mg "is_tuple" = some (.ref zY)) (yW : PySem.W.keepIn K (.ref zY) = true) (xI : Binds K yN ["thing", "least", "most"] []) {zIC : Tok} (dN : mg "MOST_TIED" = some (.int 3 zIC)) {zH : Addr} {zL : FuncData} (zU : FnOk P w K mg base CX0 2 zH zL ["thing", "bound"] (spM ⟨K, mg, P, w⟩ 2 zQ)) (zV : mg "is_number_below" = some (.ref zH)) (zS : PySem.W.keepIn K (.ref zH) = true) (zW : Binds K zL ["thing", "bound"] []) (zBN : mg "all" = none) : FnOk P w K mg base CX0 3 f fd ["thing", "wide"] (spM ⟨K, mg, P, w⟩ 2 cV) :=
 okM (k := 2) cU F zQE fun cdv A outer s H E hr => (zM (zX (jT (zO xJ (hr.mono (by decide)) rfl xH yW xI (zA (zB 0) (zA zE (zA (zEC rfl dN) zC)))) (gN (zP jN (zMN rfl) rfl zBN zMP (zA (zBZ (zG wM) ["thing", "wide"] ["part"] [1] (zML (zB 0)) rfl (fun _ _ _ _ hN => (nT 0 hN)) (fun _ _ _ _ => zBY) (fun _ _ _ _ => (zO zU (hr.mono (by decide)) rfl zV zS zW (zA (zB 0) (zA (zB 1) zC))))) zC))))))
abbrev cP : Stmt := top 33
theorem zXV : FnScope ["rule", "tables"] ["rule", "tables"] (zG cP) := ⟨rfl, rfl, rfl, by decide +kernel, rfl, by decide +kernel, by decide +kernel⟩
theorem zXW {f : Addr} {fd : FuncData} (F : Fun K "is_never" "is_never" cP f fd) (yR : mg "len" = none) {zH : Addr} {zL : FuncData} (zU : FnOk P w K mg base CX0 2 zH zL ["thing", "bound"] (spM ⟨K, mg, P, w⟩ 2 zQ)) (zV : mg "is_number_below" = some (.ref zH)) (zS : PySem.W.keepIn K (.ref zH) = true) (zW : Binds K zL ["thing", "bound"] []) {kG : Addr} {bH : FuncData} (zHU : FnOk P w K mg base CX0 5 kG bH ["thing", "wides"] (spM ⟨K, mg, P, w⟩ 2 jC)) (zIA : mg "are_tests" = some (.ref kG)) (zFP : PySem.W.keepIn K (.ref kG) = true) (zIE : Binds K bH ["thing", "wides"] []) : FnOk P w K mg base CX0 6 f fd ["rule", "tables"] (spM ⟨K, mg, P, w⟩ 2 zES) :=
 okM (k := 5) zER F zXV fun cdv A outer s H E hr => (zI (xT (zDN (zFZ (zSN hr.units (zP yD xL rfl yR xM (zA (zB 0) zC)) zE) (zAG (wL (yM (zO zU (hr.mono (by decide)) rfl zV zS zW (zA (yK (zB 0) zE) (zA (zP yD xL rfl yR xM (zA (zB 1) zC)) zC)))))))) (zM (zX bI)) yT) (zM (zX (zO zHU (hr.mono (by decide)) rfl zIA zFP zIE (zA (yK (zB 0) zE) (zA (zED (zA (yK (yK (zB 1) (yK (zB 0) zE)) zE) zC)) zC))))))
abbrev jI : Stmt := top 34
theorem zXX : FnScope ["rule", "tables"] ["rule", "tables"] (zG jI) := ⟨rfl, rfl, rfl, by decide +kernel, rfl, by decide +kernel, by decide +kernel⟩
theorem zXY {f : Addr} {fd : FuncData} (F : Fun K "is_apart" "is_apart" jI f fd) (yR : mg "len" = none) {zH : Addr} {zL : FuncData} (zU : FnOk P w K mg base CX0 2 zH zL ["thing", "bound"] (spM ⟨K, mg, P, w⟩ 2 zQ)) (zV : mg "is_number_below" = some (.ref zH)) (zS : PySem.W.keepIn K (.ref zH) = true) (zW : Binds K zL ["thing", "bound"] []) (zBN : mg "all" = none) {kG : Addr} {bH : FuncData} (zHU : FnOk P w K mg base CX0 5 kG bH ["thing", "wides"] (spM ⟨K, mg, P, w⟩ 2 jC)) (zIA : mg "are_tests" = some (.ref kG)) (zFP : PySem.W.keepIn K (.ref kG) = true) (zIE : Binds K bH ["thing", "wides"] []) : FnOk P w K mg base CX0 6 f fd ["rule", "tables"] (spM ⟨K, mg, P, w⟩ 2 zEW) :=
 okM (k := 5) zEV F zXX fun cdv A outer s H E hr => (zI (xT (zDN (zFZ (zSN hr.units (zP yD xL rfl yR xM (zA (zB 0) zC)) zE) (zAG (wL (yM (zP jN (zMN rfl) rfl zBN zMP (zA (zBZ (zG jI) ["rule", "tables"] ["part"] [1] (zML (zJQ (zB 0) (cS zE) (cS zE))) rfl (fun _ _ _ _ hN => (nT 0 hN)) (fun _ _ _ _ => zBY) (fun _ _ _ _ => (zO zU (hr.mono (by decide)) rfl zV zS zW (zA (zB 0) (zA (zP yD xL rfl yR xM (zA (zB 1) zC)) zC))))) zC))))))) (zM (zX bI)) yT) (zM (zX (zO zHU (hr.mono (by decide)) rfl zIA zFP zIE (zA (yK (zB 0) zE) (zA (zBZ (zG jI) ["rule", "tables"] ["part"] [1] (zML (zJQ (zB 0) (cS zE) (cS zE))) rfl (fun _ _ _ _ hN => (nT 0 hN)) (fun _ _ _ _ => zBY) (fun _ _ _ _ => (yK (yK (zB 1) (zB 0)) zE))) zC))))))
abbrev zDZ : Stmt := top 35
theorem zMX : FnScope ["rule", "tables", "number", "columns"] ["rule", "tables"] (zG zDZ) := ⟨rfl, rfl, rfl, by decide +kernel, rfl, by decide +kernel, by decide +kernel⟩
theorem yEW {f : Addr} {fd : FuncData} (F : Fun K "is_tie" "is_tie" zDZ f fd) (yR : mg "len" = none) {zH : Addr} {zL : FuncData} (zU : FnOk P w K mg base CX0 2 zH zL ["thing", "bound"] (spM ⟨K, mg, P, w⟩ 2 zQ)) (zV : mg "is_number_below" = some (.ref zH)) (zS : PySem.W.keepIn K (.ref zH) = true) (zW : Binds K zL ["thing", "bound"] []) {zBM : Addr} {zHW : FuncData} (zRP : FnOk P w K mg base CX0 3 zBM zHW ["thing", "wide"] (spM ⟨K, mg, P, w⟩ 2 cV)) (zRS : mg "are_columns" = some (.ref zBM)) (zQQ : PySem.W.keepIn K (.ref zBM) = true) (zSA : Binds K zHW ["thing", "wide"] []) : FnOk P w K mg base CX0 4 f fd ["rule", "tables"] (spM ⟨K, mg, P, w⟩ 2 zLO) :=
 okM (k := 3) zLN F zMX fun cdv A outer s H E hr => (zI (xT (zSN hr.units (zP yD xL rfl yR xM (zA (zB 0) zC)) zE) (zM (zX bI)) yT) (zI (dR PassesOwn.never rfl (zML (kW (zA (kW (zA (yK (zB 0) zE) (zA (yK (zB 0) zE) zC))) (zA (kW (zA (yK (zB 0) zE) (zA (yK (zB 0) zE) zC))) zC)))) (zJO rfl (kZ (xU 2 zMX.nd) (kZ (xU 3 zMX.nd) zJN))) (zM (xT (zDN (zFZ (wL (yM (zO zU (hr.mono (by decide)) rfl zV zS zW (zA (zB 2) (zA (zP yD xL rfl yR xM (zA (zB 1) zC)) zC))))) (zAG (wL (yM (zO zRP (hr.mono (by decide)) rfl zRS zQQ zSA (zA (zB 3) (zA (yK (yK (zB 1) (zB 2)) zE) zC)))))))) (zM (zX bI)) yT))) (zM (zX (zPC hr.units (zP yD xL rfl yR xM (zA (yK (zB 0) zE) zC)) (zP yD xL rfl yR xM (zA (yK (zB 0) zE) zC)))))))
abbrev zAC : Stmt := top 36
theorem yAR : FnScope ["thing", "tables"] ["thing", "tables"] (zG zAC) := ⟨rfl, rfl, rfl, by decide +kernel, rfl, by decide +kernel, by decide +kernel⟩
theorem yAS {f : Addr} {fd : FuncData} (F : Fun K "is_rule" "is_rule" zAC f fd) (xE : mg "tuple" = none) (zT : mg "isinstance" = none) (yR : mg "len" = none) {zID : Addr} {zNI : FuncData} (yBE : FnOk P w K mg base CX0 6 zID zNI ["rule", "tables"] (spM ⟨K, mg, P, w⟩ 2 zES)) (yAV : mg "is_never" = some (.ref zID)) (zYQ : PySem.W.keepIn K (.ref zID) = true) (yBH : Binds K zNI ["rule", "tables"] []) {zHX : Addr} {zNN : FuncData} (yBF : FnOk P w K mg base CX0 6 zHX zNN ["rule", "tables"] (spM ⟨K, mg, P, w⟩ 2 zEW)) (yBJ : mg "is_apart" = some (.ref zHX)) (zYI : PySem.W.keepIn K (.ref zHX) = true) (yBI : Binds K zNN ["rule", "tables"] []) {zMZ : Addr} {zTI : FuncData} (yJA : FnOk P w K mg base CX0 4 zMZ zTI ["rule", "tables"] (spM ⟨K, mg, P, w⟩ 2 zLO)) (yIV : mg "is_tie" = some (.ref zMZ)) (yFF : PySem.W.keepIn K (.ref zMZ) = true) (yIS : Binds K zTI ["rule", "tables"] []) : FnOk P w K mg base CX0 7 f fd ["thing", "tables"] (spM ⟨K, mg, P, w⟩ 2 zIS) :=
 okM (k := 6) zIR F yAR fun cdv A outer s H E hr => (zI (xT (zDN (zFZ (wL (yM (zP wI gQ rfl zT yL (zA (zB 0) (zA (zBX rfl xE jB) zC))))) (zAG (zSM hr.units (zP yD xL rfl yR xM (zA (zB 0) zC)) zE)))) (zM (zX bI)) yT) (zI (xT (zSM hr.units (yK (zB 0) zE) (gL [110,101,118,101,114])) (zM (zX (zO yBE (hr.mono (by decide)) rfl yAV zYQ yBH (zA (zB 0) (zA (zB 1) zC))))) yT) (zI (xT (zSM hr.units (yK (zB 0) zE) (gL [97,112,97,114,116])) (zM (zX (zO yBF (hr.mono (by decide)) rfl yBJ zYI yBI (zA (zB 0) (zA (zB 1) zC))))) yT) (zM (zX (jT (zPC hr.units (yK (zB 0) zE) (gL [116,105,101])) (gN (zO yJA (hr.mono (by decide)) rfl yIV yFF yIS (zA (zB 0) (zA (zB 1) zC))))))))))
abbrev zBC : Stmt := top 37
theorem zTB : FnScope ["thing", "tables", "wide"] ["thing", "tables"] (zG zBC) := ⟨rfl, rfl, rfl, by decide +kernel, rfl, by decide +kernel, by decide +kernel⟩
theorem yEX {f : Addr} {fd : FuncData} (F : Fun K "is_row" "is_row" zBC f fd) {zY : Addr} {yN : FuncData} (xJ : FnOk P w K mg base CX0 1 zY yN ["thing", "least", "most"] (spM ⟨K, mg, P, w⟩ 3 yJ)) (xH : mg "is_tuple" = some (.ref zY)) (yW : PySem.W.keepIn K (.ref zY) = true) (xI : Binds K yN ["thing", "least", "most"] []) {zH : Addr} {zL : FuncData} (zU : FnOk P w K mg base CX0 2 zH zL ["thing", "bound"] (spM ⟨K, mg, P, w⟩ 2 zQ)) (zV : mg "is_number_below" = some (.ref zH)) (zS : PySem.W.keepIn K (.ref zH) = true) (zW : Binds K zL ["thing", "bound"] []) (yR : mg "len" = none) {jL : Addr} {dL : FuncData} (zKQ : FnOk P w K mg base CX0 2 jL dL ["thing"] (spM ⟨K, mg, P, w⟩ 1 bT)) (zKL : mg "is_value" = some (.ref jL)) (zIF : PySem.W.keepIn K (.ref jL) = true) (zKJ : Binds K dL ["thing"] []) (zBN : mg "all" = none) : FnOk P w K mg base CX0 3 f fd ["thing", "tables"] (spM ⟨K, mg, P, w⟩ 2 zLR) :=
 okM (k := 2) zLQ F zTB fun cdv A outer s H E hr => (zI (xT (zDN (zFZ (wL (yM (zO xJ (hr.mono (by decide)) rfl xH yW xI (zA (zB 0) (zA zE (zA zE zC)))))) (zAG (wL (yM (zO zU (hr.mono (by decide)) rfl zV zS zW (zA (yK (zB 0) zE) (zA (zP yD xL rfl yR xM (zA (zB 1) zC)) zC)))))))) (zM (zX bI)) yT) (zI (yG 2 zTB.nd (yK (yK (zB 1) (yK (zB 0) zE)) zE)) (zM (zX (jT (zO xJ (hr.mono (by decide)) rfl xH yW xI (zA (yK (zB 0) zE) (zA (zB 2) (zA (zB 2) zC)))) (gN (zP jN (zMN rfl) rfl zBN zMP (zA (zBZ (zG zBC) ["thing", "tables", "wide"] ["cell"] [] (zML (yK (zB 0) zE)) rfl (fun _ _ _ _ hN => (nT 0 hN)) (fun _ _ _ _ => zBY) (fun _ _ _ _ => (zO zKQ (hr.mono (by decide)) rfl zKL zIF zKJ (zA (zB 0) zC)))) zC))))))))
abbrev kO : Stmt := top 38
theorem zQG : FnScope ["tables", "rules", "rows"] ["tables", "rules", "rows"] (zG kO) := ⟨rfl, rfl, rfl, by decide +kernel, rfl, by decide +kernel, by decide +kernel⟩
theorem zQH {f : Addr} {fd : FuncData} (F : Fun K "check_sizes" "check_sizes" kO f fd) (yR : mg "len" = none) {zDJ : Tok} (jY : mg "MOST_TABLES" = some (.int 4 zDJ)) {zFU : Tok} (bF : mg "MOST_RULES" = some (.int 6 zFU)) {zIJ : Tok} (dO : mg "MOST_ROWS" = some (.int 60 zIJ)) : FnOk P w K mg base CX0 1 f fd ["tables", "rules", "rows"] (spM ⟨K, mg, P, w⟩ 3 cX) :=
 okM (k := 0) cW F zQG fun cdv A outer s H E hr => (zM (xT (zDN (zFZ (yHA (zP yD xL rfl yR xM (zA (zB 0) zC)) (zEC rfl jY)) (zFZ (yHA (zP yD xL rfl yR xM (zA (zB 1) zC)) (zEC rfl bF)) (zAG (yHA (zP yD xL rfl yR xM (zA (zB 2) zC)) (zEC rfl dO)))))) (zM zAH) yT))
abbrev wV : Stmt := top 39
theorem nK : FnScope ["tables", "place", "table"] ["tables"] (zG wV) := ⟨rfl, rfl, rfl, by decide +kernel, rfl, by decide +kernel, by decide +kernel⟩
theorem zNQ {f : Addr} {fd : FuncData} (F : Fun K "check_tables" "check_tables" wV f fd) (yR : mg "len" = none) (xD : mg "enumerate" = none) {zHY : Addr} {zNL : FuncData} (yAZ : FnOk P w K mg base CX0 3 zHY zNL ["thing"] (spM ⟨K, mg, P, w⟩ 1 zEO)) (yBD : mg "is_table" = some (.ref zHY)) (zYS : PySem.W.keepIn K (.ref zHY) = true) (yAX : Binds K zNL ["thing"] []) : FnOk P w K mg base CX0 4 f fd ["tables"] (spM ⟨K, mg, P, w⟩ 1 gX) :=
 okM (k := 3) gW F nK fun cdv A outer s H E hr => (zI (xT (zSM hr.units (zP yD xL rfl yR xM (zA (zB 0) zC)) zE) (zM zAH) yT) (zM (dR PassesOwn.never rfl (zLF rfl xD (zA (zB 0) zC)) (zJO rfl (kZ (xU 1 nK.nd) (kZ (xU 2 nK.nd) zJN))) (zM (xT (wL (yM (zO yAZ (hr.mono (by decide)) rfl yBD zYS yAX (zA (zB 2) zC)))) (zM zAH) yT)))))
abbrev kP : Stmt := top 40
theorem zBD : FnScope ["tables", "rules", "place", "rule"] ["tables", "rules"] (zG kP) := ⟨rfl, rfl, rfl, by decide +kernel, rfl, by decide +kernel, by decide +kernel⟩
theorem zQI {f : Addr} {fd : FuncData} (F : Fun K "check_rules" "check_rules" kP f fd) (xD : mg "enumerate" = none) {zKO : Addr} {zQS : FuncData} (yFB : FnOk P w K mg base CX0 7 zKO zQS ["thing", "tables"] (spM ⟨K, mg, P, w⟩ 2 zIS)) (yFA : mg "is_rule" = some (.ref zKO)) (yBC : PySem.W.keepIn K (.ref zKO) = true) (yFE : Binds K zQS ["thing", "tables"] []) : FnOk P w K mg base CX0 8 f fd ["tables", "rules"] (spM ⟨K, mg, P, w⟩ 2 cZ) :=
 okM (k := 7) cY F zBD fun cdv A outer s H E hr => (zM (dR PassesOwn.never rfl (zLF rfl xD (zA (zB 1) zC)) (zJO rfl (kZ (xU 2 zBD.nd) (kZ (xU 3 zBD.nd) zJN))) (zM (xT (wL (yM (zO yFB (hr.mono (by decide)) rfl yFA yBC yFE (zA (zB 3) (zA (zB 0) zC))))) (zM zAH) yT))))
abbrev jQ : Stmt := top 41
theorem kQ : FnScope ["tables", "rows", "place", "row", "seen"] ["tables", "rows"] (zG jQ) := ⟨rfl, rfl, rfl, by decide +kernel, rfl, by decide +kernel, by decide +kernel⟩
theorem zRL {f : Addr} {fd : FuncData} (F : Fun K "check_rows" "check_rows" jQ f fd) (xD : mg "enumerate" = none) {zNA : Addr} {zTC : FuncData} (yIW : FnOk P w K mg base CX0 3 zNA zTC ["thing", "tables"] (spM ⟨K, mg, P, w⟩ 2 zLR)) (yIY : mg "is_row" = some (.ref zNA)) (yFC : PySem.W.keepIn K (.ref zNA) = true) (yIX : Binds K zTC ["thing", "tables"] []) : FnOk P w K mg base CX0 4 f fd ["tables", "rows"] (spM ⟨K, mg, P, w⟩ 2 nV) :=
 okM (k := 3) nU F kQ fun cdv A outer s H E hr => (zI (dR PassesOwn.never rfl (zLF rfl xD (zA (zB 1) zC)) (zJO rfl (kZ (xU 2 kQ.nd) (kZ (xU 3 kQ.nd) zJN))) (zM (xT (wL (yM (zO yIW (hr.mono (by decide)) rfl yIY yFC yIX (zA (zB 3) (zA (zB 0) zC))))) (zM zAH) yT))) (zI (yG 4 kQ.nd zWQ) (zM (dR PassesOwn.never rfl (zLF rfl xD (zA (zB 1) zC)) (zJO rfl (kZ (xU 2 kQ.nd) (kZ (xU 3 kQ.nd) zJN))) (zI (xT (yPF hr.units (zB 3) (zB 4)) (zM zAH) yT) (zM (yGR bI (yLD hr.units (zB 4) (zB 3)))))))))
abbrev zAD : Stmt := top 42
theorem yAT : FnScope ["tables", "rules", "rows"] ["tables", "rules", "rows"] (zG zAD) := ⟨rfl, rfl, rfl, by decide +kernel, rfl, by decide +kernel, by decide +kernel⟩
theorem yAU {f : Addr} {fd : FuncData} (F : Fun K "book_of" "book_of" zAD f fd) {zBL : Addr} {zIH : FuncData} (zRU : FnOk P w K mg base CX0 1 zBL zIH ["tables", "rules", "rows"] (spM ⟨K, mg, P, w⟩ 3 cX)) (zRQ : mg "check_sizes" = some (.ref zBL)) (zQL : PySem.W.keepIn K (.ref zBL) = true) (zRO : Binds K zIH ["tables", "rules", "rows"] []) {nN : Addr} {zGH : FuncData} (zQY : FnOk P w K mg base CX0 4 nN zGH ["tables"] (spM ⟨K, mg, P, w⟩ 1 gX)) (zQZ : mg "check_tables" = some (.ref nN)) (zNV : PySem.W.keepIn K (.ref nN) = true) (zQP : Binds K zGH ["tables"] []) {zBH : Addr} {zHZ : FuncData} (zRX : FnOk P w K mg base CX0 8 zBH zHZ ["tables", "rules"] (spM ⟨K, mg, P, w⟩ 2 cZ)) (zRT : mg "check_rules" = some (.ref zBH)) (zQW : PySem.W.keepIn K (.ref zBH) = true) (zRV : Binds K zHZ ["tables", "rules"] []) {zDI : Addr} {zJI : FuncData} (zVN : FnOk P w K mg base CX0 4 zDI zJI ["tables", "rows"] (spM ⟨K, mg, P, w⟩ 2 nV)) (zVL : mg "check_rows" = some (.ref zDI)) (zRW : PySem.W.keepIn K (.ref zDI) = true) (zVP : Binds K zJI ["tables", "rows"] []) (xE : mg "tuple" = none) : FnOk P w K mg base CX0 9 f fd ["tables", "rules", "rows"] (spM ⟨K, mg, P, w⟩ 3 bZ) :=
 okM (k := 8) zIT F yAT fun cdv A outer s H E hr => (zI (jO (zO zRU (hr.mono (by decide)) rfl zRQ zQL zRO (zA (zB 0) (zA (zB 1) (zA (zB 2) zC))))) (zI (jO (zO zQY (hr.mono (by decide)) rfl zQZ zNV zQP (zA (zB 0) zC))) (zI (jO (zO zRX (hr.mono (by decide)) rfl zRT zQW zRV (zA (zB 0) (zA (zB 1) zC)))) (zI (jO (zO zVN (hr.mono (by decide)) rfl zVL zRW zVP (zA (zB 0) (zA (zB 2) zC)))) (zM (zX (kW (zA (bN wK zAI rfl xE jB (zA (zB 0) zC)) (zA (bN wK zAI rfl xE jB (zA (zB 1) zC)) (zA (bN wK zAI rfl xE jB (zA (zB 2) zC)) zC))))))))))
abbrev wW : Stmt := top 44
theorem zNR : FnScope ["_law_script", "_law_k"] ["_law_script", "_law_k"] (zG wW) := ⟨rfl, rfl, rfl, by decide +kernel, rfl, by decide +kernel, by decide +kernel⟩
theorem zNS {f : Addr} {fd : FuncData} (F : Fun K "_law_cell_at" "_law_cell_at" wW f fd) (yR : mg "len" = none) : FnOk P w K mg base CX0 1 f fd ["_law_script", "_law_k"] (spM ⟨K, mg, P, w⟩ 2 yU) :=
 okM (k := 0) gZ F zNR fun cdv A outer s H E hr => (zI (xT (tm_lt hr.units (zB 1) (zP yD xL rfl yR xM (zA (zB 0) zC))) (zM (zX (yK (zB 0) (zB 1)))) yT) (zM (zX zE)))
abbrev cQ : Stmt := top 45
theorem zNH : FnScope ["_law_cell", "_law_prime", "_law_number"] ["_law_cell", "_law_prime"] (zG cQ) := ⟨rfl, rfl, rfl, by decide +kernel, rfl, by decide +kernel, by decide +kernel⟩
theorem zXZ {f : Addr} {fd : FuncData} (F : Fun K "_law_mix" "_law_mix" cQ f fd)  : FnOk P w K mg base CX0 1 f fd ["_law_cell", "_law_prime"] (spM ⟨K, mg, P, w⟩ 2 xW) :=
 okM (k := 0) zFB F zNH fun cdv A outer s H E hr => (zI (xT (zSM hr.units (xG (zB 0) zE) zE) (zM (zX (xG (kX (zB 0) zE) (zGV (zGV zE zE) zE)))) yT) (zI (yG 2 zNH.nd (xG (zPB (wD (xG (zB 0) zE) zE) zE) (zB 1))) (zM (zX (wD (zPB (xG (zPB (zB 2) (zB 2)) zE) zE) (zB 2))))))
abbrev gG : Stmt := top 46
theorem kE : FnScope ["_law_cell", "_law_letters", "_law_number", "_law_name_here", "_law_k"] ["_law_cell"] (zG gG) := ⟨rfl, rfl, rfl, by decide +kernel, rfl, by decide +kernel, by decide +kernel⟩
theorem zVE {f : Addr} {fd : FuncData} (F : Fun K "_law_name" "_law_name" gG f fd) (jR : mg "range" = none) : FnOk P w K mg base CX0 1 f fd ["_law_cell"] (spM ⟨K, mg, P, w⟩ 1 gC) :=
 okM (k := 0) zHN F kE fun cdv A outer s H E hr => (zI (yG 1 kE.nd (gL [97,98,99,100,101,102,103,104,105,106,107,108,109,110,111,112,113,114,115,116,117,118,119,120,121,122])) (zI (yG 2 kE.nd (kX (zB 0) zE)) (zI (yG 3 kE.nd (gL [])) (zI (dR PassesOwn.never rfl (zDP rfl jR (zA (wD zE (xG (zB 0) zE)) zC)) (xU 4 kE.nd) (zI (yG 3 kE.nd (wD (zB 3) (yK (zB 1) (xG (zB 2) zE)))) (zM (yG 2 kE.nd (kX (zB 2) zE))))) (zM (zX (zB 3)))))))
abbrev gH : Stmt := top 47
theorem xB : FnScope ["_law_cell", "_law_number", "_law_letters", "_law_name_here", "_law_at", "_law_turned", "_law_other", "_law_great"] ["_law_cell"] (zG gH) := ⟨rfl, rfl, rfl, by decide +kernel, rfl, by decide +kernel, by decide +kernel⟩
theorem zVF {f : Addr} {fd : FuncData} (F : Fun K "_law_pool" "_law_pool" gH f fd) {xQ : Addr} {wZ : FuncData} (zBQ : FnOk P w K mg base CX0 1 xQ wZ ["_law_cell", "_law_prime"] (spM ⟨K, mg, P, w⟩ 2 xW)) (zBP : mg "_law_mix" = some (.ref xQ)) (dH : PySem.W.keepIn K (.ref xQ) = true) (zBS : Binds K wZ ["_law_cell", "_law_prime"] []) {zFW : Addr} {zLY : FuncData} (zYH : FnOk P w K mg base CX0 1 zFW zLY ["_law_cell"] (spM ⟨K, mg, P, w⟩ 1 gC)) (zYJ : mg "_law_name" = some (.ref zFW)) (zVM : PySem.W.keepIn K (.ref zFW) = true) (zYD : Binds K zLY ["_law_cell"] []) (yR : mg "len" = none) : FnOk P w K mg base CX0 2 f fd ["_law_cell"] (spM ⟨K, mg, P, w⟩ 1 gD) :=
 okM (k := 1) zHO F xB fun cdv A outer s H E hr => (zI (yG 1 xB.nd (zO zBQ (hr.mono (by decide)) rfl zBP dH zBS (zA (zB 0) (zA zE zC)))) (zI (yG 2 xB.nd (gL [97,98,99,100,101,102,103,104,105,106,107,108,109,110,111,112,113,114,115,116,117,118,119,120,121,122])) (zI (yG 3 xB.nd (zO zYH (hr.mono (by decide)) rfl zYJ zVM zYD (zA (zB 1) zC))) (zI (yG 1 xB.nd (kX (zB 1) (zPB zE (zGV zE zE)))) (zI (yG 4 xB.nd (xG (zB 1) (zP yD xL rfl yR xM (zA (zB 3) zC)))) (zI (yG 5 xB.nd (wD (wD (yKP (zB 2) (zA (yK (zB 3) (zB 4)) zC)) zE) (xG (kX (zB 1) zE) zE))) (zI (yG 6 xB.nd (wD (wD (zJQ (zB 3) zNZ (cS (zB 4))) (yK (zB 2) (xG (zB 5) zE))) (zJQ (zB 3) (cS (wD (zB 4) zE)) zNZ))) (zI (yG 1 xB.nd (kX (zB 1) zE)) (zI (yG 7 xB.nd (wD (xG (zGV (wD (zPB (xG (zB 1) (zGV zE zE)) zE) zE) zE) (zZN (zGV zE zE) zE)) zE)) (zI (xT (zSM hr.units (xG (zB 1) zE) zE) (zM (yG 7 xB.nd (wD (xG (kX (zB 1) zE) (zZN (zGV zE zE) zE)) zE))) yT) (zM (zX (zED (zA (xG (kX (zB 1) zE) zE) (zA (zB 7) (zA (zB 3) (zA (zZN zE (zB 7)) (zA (zB 6) (zA (wD (xG (kX (zB 1) zE) zE) zE) (zA (wD (zB 7) zE) zC))))))))))))))))))))
abbrev kF : Stmt := top 48
theorem zRM : FnScope ["_law_told", "_law_due"] ["_law_told", "_law_due"] (zG kF) := ⟨rfl, rfl, rfl, by decide +kernel, rfl, by decide +kernel, by decide +kernel⟩
theorem zRN {f : Addr} {fd : FuncData} (F : Fun K "_law_alike" "_law_alike" kF f fd) (hself : mg "_law_alike" = some (.ref f)) (kself : PySem.W.keepIn K (.ref f) = true) (bself : Binds K fd ["_law_told", "_law_due"] []) (zNM : mg "str" = none) (zT : mg "isinstance" = none) (zNK : mg "int" = none) (zKM : mg "bool" = none) (zIB : mg "list" = none) (xE : mg "tuple" = none) (yR : mg "len" = none) (zYN : mg "zip" = none) (zBN : mg "all" = none) : ∀ n, FnOk P w K mg base CX0 (0 + n) f fd ["_law_told", "_law_due"] (spM ⟨K, mg, P, w⟩ 2 (zK n)) := by
 intro n
 induction n with
 | zero => exact fn_no
 | succ n ih0 =>
  have ih : ∀ m, m = n → FnOk P w K mg base CX0 (0 + m) f fd ["_law_told", "_law_due"] (spM ⟨K, mg, P, w⟩ 2 (zK m)) := fun m e => e ▸ ih0
  exact okM (k := 0 + n) (jP (zK n)) F zRM fun cdv A outer s H E hr => (zI (xT (tm_is (zB 1) yGJ) (zM (zX (pm_is (zB 0) yGJ))) yT) (zI (xT (yM (zP wI gQ rfl zT yL (zA (zB 1) (zA (zBX rfl zNM zZT) zC)))) (zM (zX (jT (zP wI gQ rfl zT yL (zA (zB 0) (zA (zBX rfl zNM zZT) zC))) (gN (zPC hr.units (zB 0) (zB 1)))))) yT) (zI (xT (yM (zP wI gQ rfl zT yL (zA (zB 1) (zA (zBX rfl zNK zZS) zC)))) (zM (zX (jT (zP wI gQ rfl zT yL (zA (zB 0) (zA (zBX rfl zNK zZS) zC))) (jT (yGM (zP wI gQ rfl zT yL (zA (zB 0) (zA (zBX rfl zKM yCE) zC)))) (gN (zPC hr.units (zB 0) (zB 1))))))) yT) (zI (xT (zDN (yGN (yM (zP wI gQ rfl zT yL (zA (zB 1) (zA (zBX rfl zIB zUB) zC)))) (yBW (wL (yM (zP wI gQ rfl zT yL (zA (zB 0) (zA (zBX rfl zIB zUB) zC)))))))) (zM (zX bI)) yT) (zI (xT (zDN (yGN (yM (zP wI gQ rfl zT yL (zA (zB 1) (zA (zBX rfl xE jB) zC)))) (yBW (wL (yM (zP wI gQ rfl zT yL (zA (zB 0) (zA (zBX rfl xE jB) zC)))))))) (zM (zX bI)) yT) (zM (zX (jT (zPC hr.units (zP yD xL rfl yR xM (zA (zB 0) zC)) (zP yD xL rfl yR xM (zA (zB 1) zC))) (gN (zP jN (zMN rfl) rfl zBN zMP (zA (zBZ (zG kF) ["_law_told", "_law_due"] ["_law_one", "_law_other"] [] (yOP rfl zYN (zA (zB 0) (zA (zB 1) zC))) rfl (fun _ _ _ _ hN => (yOE rfl (yBY (nT 0 hN) (yBY (nT 1 hN) yOD)))) (fun _ _ _ _ => zBY) (fun _ _ _ _ => (zO (ih n rfl) (hr.mono (by omega)) rfl hself kself bself (zA (zB 0) (zA (zB 1) zC))))) zC)))))))))))
abbrev kR : Stmt := top 49
theorem xP : FnScope ["_law_cell", "_law_most", "_law_number", "_law_many", "_law_tables_here", "_law_k", "_law_wide"] ["_law_cell", "_law_most"] (zG kR) := ⟨rfl, rfl, rfl, by decide +kernel, rfl, by decide +kernel, by decide +kernel⟩
theorem zQJ {f : Addr} {fd : FuncData} (F : Fun K "_law_tables" "_law_tables" kR f fd) {xQ : Addr} {wZ : FuncData} (zBQ : FnOk P w K mg base CX0 1 xQ wZ ["_law_cell", "_law_prime"] (spM ⟨K, mg, P, w⟩ 2 xW)) (zBP : mg "_law_mix" = some (.ref xQ)) (dH : PySem.W.keepIn K (.ref xQ) = true) (zBS : Binds K wZ ["_law_cell", "_law_prime"] []) (jR : mg "range" = none) (xE : mg "tuple" = none) : FnOk P w K mg base CX0 2 f fd ["_law_cell", "_law_most"] (spM ⟨K, mg, P, w⟩ 2 kN) :=
 okM (k := 1) zCZ F xP fun cdv A outer s H E hr => (zI (yG 2 xP.nd (zO zBQ (hr.mono (by decide)) rfl zBP dH zBS (zA (zB 0) (zA zE zC)))) (zI (yG 3 xP.nd (wD zE (xG (zB 2) (zB 1)))) (zI (yG 2 xP.nd (kX (zB 2) (zB 1))) (zI (yG 4 xP.nd (zED zC)) (zI (dR PassesOwn.never rfl (zDP rfl jR (zA (zB 3) zC)) (xU 5 xP.nd) (zI (yG 6 xP.nd (wD zE (xG (zB 2) zE))) (zI (jO (gA (zB 4) (zA (kW (zA (zB 6) (zA (xG (kX (zB 2) zE) (wD (zB 6) zE)) zC))) zC))) (zM (yG 2 xP.nd (kX (zB 2) zE)))))) (zM (zX (bN wK zAI rfl xE jB (zA (zB 4) zC)))))))))
abbrev cR : Stmt := top 50
theorem jJ : FnScope ["_law_cell", "_law_tables_here", "_law_pool_here", "_law_wide", "_law_number", "_law_t", "_law_cells", "_law_k"] ["_law_cell", "_law_tables_here", "_law_pool_here", "_law_wide"] (zG cR) := ⟨rfl, rfl, rfl, by decide +kernel, rfl, by decide +kernel, by decide +kernel⟩
theorem zYA {f : Addr} {fd : FuncData} (F : Fun K "_law_row" "_law_row" cR f fd) {xQ : Addr} {wZ : FuncData} (zBQ : FnOk P w K mg base CX0 1 xQ wZ ["_law_cell", "_law_prime"] (spM ⟨K, mg, P, w⟩ 2 xW)) (zBP : mg "_law_mix" = some (.ref xQ)) (dH : PySem.W.keepIn K (.ref xQ) = true) (zBS : Binds K wZ ["_law_cell", "_law_prime"] []) (yR : mg "len" = none) (jR : mg "range" = none) (xE : mg "tuple" = none) : FnOk P w K mg base CX0 2 f fd ["_law_cell", "_law_tables_here", "_law_pool_here", "_law_wide"] (spM ⟨K, mg, P, w⟩ 4 cC) :=
 okM (k := 1) zKF F jJ fun cdv A outer s H E hr => (zI (yG 4 jJ.nd (zO zBQ (hr.mono (by decide)) rfl zBP dH zBS (zA (zB 0) (zA zE zC)))) (zI (yG 5 jJ.nd (xG (zB 4) (zP yD xL rfl yR xM (zA (zB 1) zC)))) (zI (yG 4 jJ.nd (kX (zB 4) (zP yD xL rfl yR xM (zA (zB 1) zC)))) (zI (yG 6 jJ.nd (zED zC)) (zI (dR PassesOwn.never rfl (zDP rfl jR (zA (yK (yK (zB 1) (zB 5)) zE) zC)) (xU 7 jJ.nd) (zI (jO (gA (zB 6) (zA (yK (zB 2) (xG (zB 4) (zB 3))) zC))) (zM (yG 4 jJ.nd (kX (zB 4) (zB 3)))))) (zM (zX (kW (zA (zB 5) (zA (bN wK zAI rfl xE jB (zA (zB 6) zC)) zC))))))))))
abbrev gI : Stmt := top 51
theorem nX : FnScope ["_law_cells", "_law_tables_here", "_law_pool_here", "_law_wide", "_law_rows_here", "_law_cell", "_law_row_here"] ["_law_cells", "_law_tables_here", "_law_pool_here", "_law_wide"] (zG gI) := ⟨rfl, rfl, rfl, by decide +kernel, rfl, by decide +kernel, by decide +kernel⟩
theorem zVG {f : Addr} {fd : FuncData} (F : Fun K "_law_rows" "_law_rows" gI f fd) {zHV : Addr} {zNJ : FuncData} (yBA : FnOk P w K mg base CX0 2 zHV zNJ ["_law_cell", "_law_tables_here", "_law_pool_here", "_law_wide"] (spM ⟨K, mg, P, w⟩ 4 cC)) (yAY : mg "_law_row" = some (.ref zHV)) (zYR : PySem.W.keepIn K (.ref zHV) = true) (yBB : Binds K zNJ ["_law_cell", "_law_tables_here", "_law_pool_here", "_law_wide"] []) (xE : mg "tuple" = none) : FnOk P w K mg base CX0 3 f fd ["_law_cells", "_law_tables_here", "_law_pool_here", "_law_wide"] (spM ⟨K, mg, P, w⟩ 4 gE) :=
 okM (k := 2) zHP F nX fun cdv A outer s H E hr => (zI (yG 4 nX.nd (zED zC)) (zI (dR PassesOwn.never rfl (yBX (zB 0)) (xU 5 nX.nd) (zI (yG 6 nX.nd (zO yBA (hr.mono (by decide)) rfl yAY zYR yBB (zA (zB 5) (zA (zB 1) (zA (zB 2) (zA (zB 3) zC)))))) (zM (xT (zWJ hr.units (zB 6) (zB 4)) (zM (jO (gA (zB 4) (zA (zB 6) zC)))) yT)))) (zM (zX (bN wK zAI rfl xE jB (zA (zB 4) zC))))))
abbrev wX : Stmt := top 52
theorem xY : FnScope ["_law_tables_here", "_law_rows_here", "_law_keys", "_law_found", "_law_place", "_law_t", "_law_cells", "_law_own"] ["_law_tables_here", "_law_rows_here"] (zG wX) := ⟨rfl, rfl, rfl, by decide +kernel, rfl, by decide +kernel, by decide +kernel⟩
theorem zNT {f : Addr} {fd : FuncData} (F : Fun K "_law_grouped" "_law_grouped" wX f fd) (jR : mg "range" = none) (yR : mg "len" = none) : FnOk P w K mg base CX0 1 f fd ["_law_tables_here", "_law_rows_here"] (spM ⟨K, mg, P, w⟩ 2 xO) :=
 okM (k := 0) zAX F xY fun cdv A outer s H E hr => (zI (yG 2 xY.nd (zED zC)) (zI (yG 3 xY.nd (zED zC)) (zI (dR PassesOwn.never rfl (zDP rfl jR (zA (zP yD xL rfl yR xM (zA (zB 1) zC)) zC)) (xU 4 xY.nd) (zI (yGR (yK (zB 1) (zB 4)) (zJO rfl (kZ (xU 5 xY.nd) (kZ (xU 6 xY.nd) zJN)))) (zI (yG 7 xY.nd (kW (zA (zB 5) (zA (zJQ (zB 6) zNZ (cS (yK (yK (zB 0) (zB 5)) zE))) zC)))) (zI (xT (zWJ hr.units (zB 7) (zB 2)) (zI (jO (gA (zB 2) (zA (zB 7) zC))) (zM (jO (gA (zB 3) (zA (zED zC) zC))))) yT) (zM (jO (gA (yK (zB 3) (yLI hr.units (zB 2) (zA (zB 7) zC))) (zA (zB 4) zC)))))))) (zM (zX (zB 3))))))
abbrev gJ : Stmt := top 53
theorem zLW : FnScope ["_law_cell", "_law_tables_here", "_law_left"] ["_law_cell", "_law_tables_here"] (zG gJ) := ⟨rfl, rfl, rfl, by decide +kernel, rfl, by decide +kernel, by decide +kernel⟩
theorem zVH {f : Addr} {fd : FuncData} (F : Fun K "_law_idle" "_law_idle" gJ f fd) (yR : mg "len" = none) : FnOk P w K mg base CX0 1 f fd ["_law_cell", "_law_tables_here"] (spM ⟨K, mg, P, w⟩ 2 gF) :=
 okM (k := 0) zHQ F zLW fun cdv A outer s H E hr => (zI (yG 2 zLW.nd (kW (zA (gL [105,115]) (zA (xG (zB 0) zE) zC)))) (zM (zX (kW (zA (gL [110,101,118,101,114]) (zA (xG (kX (zB 0) zE) (zP yD xL rfl yR xM (zA (zB 1) zC))) (zA (kW (zA (kW (zA (zB 2) (zA (gL [115,97,109,101]) (zA (kW (zA (gL [105,115]) (zA (wD (wD (xG (zB 0) zE) zE) (xG (kX (zB 0) zE) zE)) zC))) zC)))) zC)) zC)))))))
abbrev zJG : Stmt := top 54
theorem zDH : FnScope ["_law_script", "_law_pool_here", "_law_tables_here", "_law_head", "_law_rows_here", "_law_book", "_law_due", "_law_told", "_law_some", "_law_rules"] ["_law_script"] (zG zJG) := ⟨rfl, rfl, rfl, by decide +kernel, rfl, by decide +kernel, by decide +kernel⟩
theorem yQC {f : Addr} {fd : FuncData} (F : Fun K "law" "law" zJG f fd) {zFQ : Addr} {zMA : FuncData} (zYF : FnOk P w K mg base CX0 2 zFQ zMA ["_law_cell"] (spM ⟨K, mg, P, w⟩ 1 gD)) (zYO : mg "_law_pool" = some (.ref zFQ)) (zVO : PySem.W.keepIn K (.ref zFQ) = true) (zYB : Binds K zMA ["_law_cell"] []) {nM : Addr} {zGI : FuncData} (zBF : FnOk P w K mg base CX0 1 nM zGI ["_law_script", "_law_k"] (spM ⟨K, mg, P, w⟩ 2 yU)) (zBE : mg "_law_cell_at" = some (.ref nM)) (nO : PySem.W.keepIn K (.ref nM) = true) (zBJ : Binds K zGI ["_law_script", "_law_k"] []) {zBG : Addr} {zIG : FuncData} (zRY : FnOk P w K mg base CX0 2 zBG zIG ["_law_cell", "_law_most"] (spM ⟨K, mg, P, w⟩ 2 kN)) (zRZ : mg "_law_tables" = some (.ref zBG)) (zQX : PySem.W.keepIn K (.ref zBG) = true) (zRR : Binds K zIG ["_law_cell", "_law_most"] []) {zFO : Addr} {zMC : FuncData} (zYT : FnOk P w K mg base CX0 3 zFO zMC ["_law_cells", "_law_tables_here", "_law_pool_here", "_law_wide"] (spM ⟨K, mg, P, w⟩ 4 gE)) (zYK : mg "_law_rows" = some (.ref zFO)) (zVK : PySem.W.keepIn K (.ref zFO) = true) (zYP : Binds K zMC ["_law_cells", "_law_tables_here", "_law_pool_here", "_law_wide"] []) {zKP : Addr} {zQO : FuncData} (zTH : FnOk P w K mg base CX0 9 zKP zQO ["tables", "rules", "rows"] (spM ⟨K, mg, P, w⟩ 3 bZ)) (zTG : mg "book_of" = some (.ref zKP)) (zQM : PySem.W.keepIn K (.ref zKP) = true) (zTL : Binds K zQO ["tables", "rules", "rows"] []) {nL : Addr} {zGJ : FuncData} (zQU : FnOk P w K mg base CX0 1 nL zGJ ["_law_tables_here", "_law_rows_here"] (spM ⟨K, mg, P, w⟩ 2 xO)) (zQT : mg "_law_grouped" = some (.ref nL)) (zNU : PySem.W.keepIn K (.ref nL) = true) (zQV : Binds K zGJ ["_law_tables_here", "_law_rows_here"] []) {jK : Addr} {dI : FuncData} (zFT : FnOk P w K mg base CX0 1 jK dI ["book"] (spM ⟨K, mg, P, w⟩ 1 kD)) (zFS : mg "is_plain" = some (.ref jK)) (zCJ : PySem.W.keepIn K (.ref jK) = true) (zFV : Binds K dI ["book"] []) {zNB : Addr} {zTE : FuncData} (zYV : FnOk P w K mg base CX0 2 zNB zTE ["book"] (spM ⟨K, mg, P, w⟩ 1 f_blocks)) (zYC : mg "blocks" = some (.ref zNB)) (zTK : PySem.W.keepIn K (.ref zNB) = true) (zYL : Binds K zTE ["book"] []) {zDK : Addr} {zJH : FuncData} (zMF : FnOk P w K mg base CX0 8 zDK zJH ["_law_told", "_law_due"] (spM ⟨K, mg, P, w⟩ 2 (zK 8))) (zMD : mg "_law_alike" = some (.ref zDK)) (zJJ : PySem.W.keepIn K (.ref zDK) = true) (zLX : Binds K zJH ["_law_told", "_law_due"] []) (jR : mg "range" = none) {zFR : Addr} {zLZ : FuncData} (zYM : FnOk P w K mg base CX0 1 zFR zLZ ["_law_cell", "_law_tables_here"] (spM ⟨K, mg, P, w⟩ 2 gF)) (zYU : mg "_law_idle" = some (.ref zFR)) (zVI : PySem.W.keepIn K (.ref zFR) = true) (zYE : Binds K zLZ ["_law_cell", "_law_tables_here"] []) (xE : mg "tuple" = none) : FnOk P w K mg base CX0 10 f fd ["_law_script"] (spM ⟨K, mg, P, w⟩ 1 zSX) :=
 okM (k := 9) yHV F zDH fun cdv A outer s H E hr => (zI (yG 1 zDH.nd (zO zYF (hr.mono (by decide)) rfl zYO zVO zYB (zA (zO zBF (hr.mono (by decide)) rfl zBE nO zBJ (zA (zB 0) (zA zE zC))) zC))) (zI (yG 2 zDH.nd (zO zRY (hr.mono (by decide)) rfl zRZ zQX zRR (zA (zO zBF (hr.mono (by decide)) rfl zBE nO zBJ (zA (zB 0) (zA zE zC))) (zA zE zC)))) (zI (yG 3 zDH.nd (zO zBF (hr.mono (by decide)) rfl zBE nO zBJ (zA (zB 0) (zA zE zC)))) (zI (yG 4 zDH.nd (zO zYT (hr.mono (by decide)) rfl zYK zVK zYP (zA (zJQ (zB 0) (cS zE) (cS zE)) (zA (zB 2) (zA (zB 1) (zA (wD zE (xG (zB 3) zE)) zC)))))) (zI (yG 5 zDH.nd (zO zTH (hr.mono (by decide)) rfl zTG zQM zTL (zA (zB 2) (zA (kW zC) (zA (zB 4) zC))))) (zI (yG 6 zDH.nd (zO zQU (hr.mono (by decide)) rfl zQT zNU zQV (zA (zB 2) (zA (zB 4) zC)))) (zI (xT (zDN (zFZ (yEM (zO zFT (hr.mono (by decide)) rfl zFS zCJ zFV (zA (zB 5) zC)) bI) (zAG (zSN hr.units (zB 5) (kW (zA (zB 2) (zA (kW zC) (zA (zB 4) zC)))))))) (zM (zX bI)) yT) (zI (yG 7 zDH.nd (zO zYV (hr.mono (by decide)) rfl zYC zTK zYL (zA (zB 5) zC))) (zI (xT (wL (yM (zO zMF (hr.mono (by decide)) rfl zMD zJJ zLX (zA (zB 7) (zA (zB 6) zC))))) (zM (zX bI)) yT) (zI (jO (zZW (zB 7))) (zI (dR PassesOwn.never rfl (yBX (zB 7)) (xU 8 zDH.nd) (zM (jO (gA (zB 8) (zA zE zC))))) (zI (xT (zDN (zFZ (wL (yM (zO zMF (hr.mono (by decide)) rfl zMD zJJ zLX (zA (zO zYV (hr.mono (by decide)) rfl zYC zTK zYL (zA (zB 5) zC)) (zA (zB 6) zC))))) (zAG (zSN hr.units (zB 5) (kW (zA (zB 2) (zA (kW zC) (zA (zB 4) zC)))))))) (zM (zX bI)) yT) (zI (yG 9 zDH.nd (bN wK zAI rfl xE jB (zA (zBZ (zG zJG) ["_law_script", "_law_pool_here", "_law_tables_here", "_law_head", "_law_rows_here", "_law_book", "_law_due", "_law_told", "_law_some", "_law_rules"] ["_law_k"] [2,3] (zDP rfl jR (zA (wD zE (xG (kX (zB 3) zE) zE)) zC)) rfl (fun _ _ _ _ hN => (nT 0 hN)) (fun _ _ _ _ => zBY) (fun _ _ _ _ => (zO zYM (hr.mono (by decide)) rfl zYU zVI zYE (zA (wD (kX (zB 2) zE) (zB 0)) (zA (zB 1) zC))))) zC))) (zM (zX (yPJ (zO zFT (hr.mono (by decide)) rfl zFS zCJ zFV (zA (zO zTH (hr.mono (by decide)) rfl zTG zQM zTL (zA (zB 2) (zA (zB 9) (zA (zB 4) zC)))) zC)) bI))))))))))))))))
end
theorem us1 {P : List Value → Prop} (h : ∀ a0, P [a0]) (us : List Value) (e : us.length = 1) : P us := by
 match us, e with | [_], _ => exact h _
theorem us2 {P : List Value → Prop} (h : ∀ a0 a1, P [a0, a1]) (us : List Value) (e : us.length = 2) : P us := by
 match us, e with | [_, _], _ => exact h _ _
theorem us3 {P : List Value → Prop} (h : ∀ a0 a1 a2, P [a0, a1, a2]) (us : List Value) (e : us.length = 3) : P us := by
 match us, e with | [_, _, _], _ => exact h _ _ _
theorem us4 {P : List Value → Prop} (h : ∀ a0 a1 a2 a3, P [a0, a1, a2, a3]) (us : List Value) (e : us.length = 4) : P us := by
 match us, e with | [_, _, _, _], _ => exact h _ _ _ _
theorem all_mk {l : PySem.W.OpenLaw} {w : World} {K : PySem.W.Frag} {h : Heap} {mg : Str → Option Value} {fa : Addr} (X : K.In h) (GG : h.Ns mainGlobals mg) (hfa : mg "law" = some (.ref fa))
  {g0 : Addr} {od0 an0 : Option Addr} {sl0 : Array (Option Value)} {oc0 kV0 dc0 pm0 cd0 ct0 : Value} (a0 : PySem.W.nsIn K mainGlobals "is_whole" = some (some (.ref g0))) (l0 : K.lookup g0 = some ⟨oc0, od0, .func (PySem.W.fnOf "is_whole" "is_whole" (yB cJ) (zZ cJ) (zG cJ) .none kV0 dc0 pm0 an0 cd0 ct0), sl0⟩) (c0 : PySem.W.codeIn K cd0 "is_whole" = true) (k0 : PySem.W.keepIn K (.ref g0) = true)
  {g1 : Addr} {od1 an1 : Option Addr} {sl1 : Array (Option Value)} {oc1 kV1 dc1 pm1 cd1 ct1 : Value} (a1 : PySem.W.nsIn K mainGlobals "is_name" = some (some (.ref g1))) (l1 : K.lookup g1 = some ⟨oc1, od1, .func (PySem.W.fnOf "is_name" "is_name" (yB cK) (zZ cK) (zG cK) .none kV1 dc1 pm1 an1 cd1 ct1), sl1⟩) (c1 : PySem.W.codeIn K cd1 "is_name" = true) (k1 : PySem.W.keepIn K (.ref g1) = true)
  {g2 : Addr} {od2 an2 : Option Addr} {sl2 : Array (Option Value)} {oc2 kV2 dc2 pm2 cd2 ct2 : Value} (a2 : PySem.W.nsIn K mainGlobals "is_value" = some (some (.ref g2))) (l2 : K.lookup g2 = some ⟨oc2, od2, .func (PySem.W.fnOf "is_value" "is_value" (yB cL) (zZ cL) (zG cL) .none kV2 dc2 pm2 an2 cd2 ct2), sl2⟩) (c2 : PySem.W.codeIn K cd2 "is_value" = true) (k2 : PySem.W.keepIn K (.ref g2) = true)
  {g3 : Addr} {od3 an3 : Option Addr} {sl3 : Array (Option Value)} {oc3 kV3 dc3 pm3 cd3 ct3 : Value} (a3 : PySem.W.nsIn K mainGlobals "key_of" = some (some (.ref g3))) (l3 : K.lookup g3 = some ⟨oc3, od3, .func (PySem.W.fnOf "key_of" "key_of" (yB zDX) (zZ zDX) (zG zDX) .none kV3 dc3 pm3 an3 cd3 ct3), sl3⟩) (c3 : PySem.W.codeIn K cd3 "key_of" = true) (k3 : PySem.W.keepIn K (.ref g3) = true)
  {g4 : Addr} {od4 an4 : Option Addr} {sl4 : Array (Option Value)} {oc4 kV4 dc4 pm4 cd4 ct4 : Value} (a4 : PySem.W.nsIn K mainGlobals "is_plain" = some (some (.ref g4))) (l4 : K.lookup g4 = some ⟨oc4, od4, .func (PySem.W.fnOf "is_plain" "is_plain" (yB cM) (zZ cM) (zG cM) .none kV4 dc4 pm4 an4 cd4 ct4), sl4⟩) (c4 : PySem.W.codeIn K cd4 "is_plain" = true) (k4 : PySem.W.keepIn K (.ref g4) = true)
  {g5 : Addr} {od5 an5 : Option Addr} {sl5 : Array (Option Value)} {oc5 kV5 dc5 pm5 cd5 ct5 : Value} (a5 : PySem.W.nsIn K mainGlobals "blocks" = some (some (.ref g5))) (l5 : K.lookup g5 = some ⟨oc5, od5, .func (PySem.W.fnOf "blocks" "blocks" (yB zDY) (zZ zDY) (zG zDY) .none kV5 dc5 pm5 an5 cd5 ct5), sl5⟩) (c5 : PySem.W.codeIn K cd5 "blocks" = true) (k5 : PySem.W.keepIn K (.ref g5) = true)
  {g6 : Addr} {od6 an6 : Option Addr} {sl6 : Array (Option Value)} {oc6 kV6 dc6 pm6 cd6 ct6 : Value} (a6 : PySem.W.nsIn K mainGlobals "is_tuple" = some (some (.ref g6))) (l6 : K.lookup g6 = some ⟨oc6, od6, .func (PySem.W.fnOf "is_tuple" "is_tuple" (yB cN) (zZ cN) (zG cN) .none kV6 dc6 pm6 an6 cd6 ct6), sl6⟩) (c6 : PySem.W.codeIn K cd6 "is_tuple" = true) (k6 : PySem.W.keepIn K (.ref g6) = true)
  {g7 : Addr} {od7 an7 : Option Addr} {sl7 : Array (Option Value)} {oc7 kV7 dc7 pm7 cd7 ct7 : Value} (a7 : PySem.W.nsIn K mainGlobals "is_number_below" = some (some (.ref g7))) (l7 : K.lookup g7 = some ⟨oc7, od7, .func (PySem.W.fnOf "is_number_below" "is_number_below" (yB xV) (zZ xV) (zG xV) .none kV7 dc7 pm7 an7 cd7 ct7), sl7⟩) (c7 : PySem.W.codeIn K cd7 "is_number_below" = true) (k7 : PySem.W.keepIn K (.ref g7) = true)
  {g8 : Addr} {od8 an8 : Option Addr} {sl8 : Array (Option Value)} {oc8 kV8 dc8 pm8 cd8 ct8 : Value} (a8 : PySem.W.nsIn K mainGlobals "is_table" = some (some (.ref g8))) (l8 : K.lookup g8 = some ⟨oc8, od8, .func (PySem.W.fnOf "is_table" "is_table" (yB cO) (zZ cO) (zG cO) .none kV8 dc8 pm8 an8 cd8 ct8), sl8⟩) (c8 : PySem.W.codeIn K cd8 "is_table" = true) (k8 : PySem.W.keepIn K (.ref g8) = true)
  {g9 : Addr} {od9 an9 : Option Addr} {sl9 : Array (Option Value)} {oc9 kV9 dc9 pm9 cd9 ct9 : Value} (a9 : PySem.W.nsIn K mainGlobals "is_side" = some (some (.ref g9))) (l9 : K.lookup g9 = some ⟨oc9, od9, .func (PySem.W.fnOf "is_side" "is_side" (yB zAA) (zZ zAA) (zG zAA) .none kV9 dc9 pm9 an9 cd9 ct9), sl9⟩) (c9 : PySem.W.codeIn K cd9 "is_side" = true) (k9 : PySem.W.keepIn K (.ref g9) = true)
  {g10 : Addr} {od10 an10 : Option Addr} {sl10 : Array (Option Value)} {oc10 kV10 dc10 pm10 cd10 ct10 : Value} (a10 : PySem.W.nsIn K mainGlobals "is_test" = some (some (.ref g10))) (l10 : K.lookup g10 = some ⟨oc10, od10, .func (PySem.W.fnOf "is_test" "is_test" (yB zAB) (zZ zAB) (zG zAB) .none kV10 dc10 pm10 an10 cd10 ct10), sl10⟩) (c10 : PySem.W.codeIn K cd10 "is_test" = true) (k10 : PySem.W.keepIn K (.ref g10) = true)
  {g11 : Addr} {od11 an11 : Option Addr} {sl11 : Array (Option Value)} {oc11 kV11 dc11 pm11 cd11 ct11 : Value} (a11 : PySem.W.nsIn K mainGlobals "are_tests" = some (some (.ref g11))) (l11 : K.lookup g11 = some ⟨oc11, od11, .func (PySem.W.fnOf "are_tests" "are_tests" (yB jH) (zZ jH) (zG jH) .none kV11 dc11 pm11 an11 cd11 ct11), sl11⟩) (c11 : PySem.W.codeIn K cd11 "are_tests" = true) (k11 : PySem.W.keepIn K (.ref g11) = true)
  {g12 : Addr} {od12 an12 : Option Addr} {sl12 : Array (Option Value)} {oc12 kV12 dc12 pm12 cd12 ct12 : Value} (a12 : PySem.W.nsIn K mainGlobals "are_columns" = some (some (.ref g12))) (l12 : K.lookup g12 = some ⟨oc12, od12, .func (PySem.W.fnOf "are_columns" "are_columns" (yB wM) (zZ wM) (zG wM) .none kV12 dc12 pm12 an12 cd12 ct12), sl12⟩) (c12 : PySem.W.codeIn K cd12 "are_columns" = true) (k12 : PySem.W.keepIn K (.ref g12) = true)
  {g13 : Addr} {od13 an13 : Option Addr} {sl13 : Array (Option Value)} {oc13 kV13 dc13 pm13 cd13 ct13 : Value} (a13 : PySem.W.nsIn K mainGlobals "is_never" = some (some (.ref g13))) (l13 : K.lookup g13 = some ⟨oc13, od13, .func (PySem.W.fnOf "is_never" "is_never" (yB cP) (zZ cP) (zG cP) .none kV13 dc13 pm13 an13 cd13 ct13), sl13⟩) (c13 : PySem.W.codeIn K cd13 "is_never" = true) (k13 : PySem.W.keepIn K (.ref g13) = true)
  {g14 : Addr} {od14 an14 : Option Addr} {sl14 : Array (Option Value)} {oc14 kV14 dc14 pm14 cd14 ct14 : Value} (a14 : PySem.W.nsIn K mainGlobals "is_apart" = some (some (.ref g14))) (l14 : K.lookup g14 = some ⟨oc14, od14, .func (PySem.W.fnOf "is_apart" "is_apart" (yB jI) (zZ jI) (zG jI) .none kV14 dc14 pm14 an14 cd14 ct14), sl14⟩) (c14 : PySem.W.codeIn K cd14 "is_apart" = true) (k14 : PySem.W.keepIn K (.ref g14) = true)
  {g15 : Addr} {od15 an15 : Option Addr} {sl15 : Array (Option Value)} {oc15 kV15 dc15 pm15 cd15 ct15 : Value} (a15 : PySem.W.nsIn K mainGlobals "is_tie" = some (some (.ref g15))) (l15 : K.lookup g15 = some ⟨oc15, od15, .func (PySem.W.fnOf "is_tie" "is_tie" (yB zDZ) (zZ zDZ) (zG zDZ) .none kV15 dc15 pm15 an15 cd15 ct15), sl15⟩) (c15 : PySem.W.codeIn K cd15 "is_tie" = true) (k15 : PySem.W.keepIn K (.ref g15) = true)
  {g16 : Addr} {od16 an16 : Option Addr} {sl16 : Array (Option Value)} {oc16 kV16 dc16 pm16 cd16 ct16 : Value} (a16 : PySem.W.nsIn K mainGlobals "is_rule" = some (some (.ref g16))) (l16 : K.lookup g16 = some ⟨oc16, od16, .func (PySem.W.fnOf "is_rule" "is_rule" (yB zAC) (zZ zAC) (zG zAC) .none kV16 dc16 pm16 an16 cd16 ct16), sl16⟩) (c16 : PySem.W.codeIn K cd16 "is_rule" = true) (k16 : PySem.W.keepIn K (.ref g16) = true)
  {g17 : Addr} {od17 an17 : Option Addr} {sl17 : Array (Option Value)} {oc17 kV17 dc17 pm17 cd17 ct17 : Value} (a17 : PySem.W.nsIn K mainGlobals "is_row" = some (some (.ref g17))) (l17 : K.lookup g17 = some ⟨oc17, od17, .func (PySem.W.fnOf "is_row" "is_row" (yB zBC) (zZ zBC) (zG zBC) .none kV17 dc17 pm17 an17 cd17 ct17), sl17⟩) (c17 : PySem.W.codeIn K cd17 "is_row" = true) (k17 : PySem.W.keepIn K (.ref g17) = true)
  {g18 : Addr} {od18 an18 : Option Addr} {sl18 : Array (Option Value)} {oc18 kV18 dc18 pm18 cd18 ct18 : Value} (a18 : PySem.W.nsIn K mainGlobals "check_sizes" = some (some (.ref g18))) (l18 : K.lookup g18 = some ⟨oc18, od18, .func (PySem.W.fnOf "check_sizes" "check_sizes" (yB kO) (zZ kO) (zG kO) .none kV18 dc18 pm18 an18 cd18 ct18), sl18⟩) (c18 : PySem.W.codeIn K cd18 "check_sizes" = true) (k18 : PySem.W.keepIn K (.ref g18) = true)
  {g19 : Addr} {od19 an19 : Option Addr} {sl19 : Array (Option Value)} {oc19 kV19 dc19 pm19 cd19 ct19 : Value} (a19 : PySem.W.nsIn K mainGlobals "check_tables" = some (some (.ref g19))) (l19 : K.lookup g19 = some ⟨oc19, od19, .func (PySem.W.fnOf "check_tables" "check_tables" (yB wV) (zZ wV) (zG wV) .none kV19 dc19 pm19 an19 cd19 ct19), sl19⟩) (c19 : PySem.W.codeIn K cd19 "check_tables" = true) (k19 : PySem.W.keepIn K (.ref g19) = true)
  {g20 : Addr} {od20 an20 : Option Addr} {sl20 : Array (Option Value)} {oc20 kV20 dc20 pm20 cd20 ct20 : Value} (a20 : PySem.W.nsIn K mainGlobals "check_rules" = some (some (.ref g20))) (l20 : K.lookup g20 = some ⟨oc20, od20, .func (PySem.W.fnOf "check_rules" "check_rules" (yB kP) (zZ kP) (zG kP) .none kV20 dc20 pm20 an20 cd20 ct20), sl20⟩) (c20 : PySem.W.codeIn K cd20 "check_rules" = true) (k20 : PySem.W.keepIn K (.ref g20) = true)
  {g21 : Addr} {od21 an21 : Option Addr} {sl21 : Array (Option Value)} {oc21 kV21 dc21 pm21 cd21 ct21 : Value} (a21 : PySem.W.nsIn K mainGlobals "check_rows" = some (some (.ref g21))) (l21 : K.lookup g21 = some ⟨oc21, od21, .func (PySem.W.fnOf "check_rows" "check_rows" (yB jQ) (zZ jQ) (zG jQ) .none kV21 dc21 pm21 an21 cd21 ct21), sl21⟩) (c21 : PySem.W.codeIn K cd21 "check_rows" = true) (k21 : PySem.W.keepIn K (.ref g21) = true)
  {g22 : Addr} {od22 an22 : Option Addr} {sl22 : Array (Option Value)} {oc22 kV22 dc22 pm22 cd22 ct22 : Value} (a22 : PySem.W.nsIn K mainGlobals "book_of" = some (some (.ref g22))) (l22 : K.lookup g22 = some ⟨oc22, od22, .func (PySem.W.fnOf "book_of" "book_of" (yB zAD) (zZ zAD) (zG zAD) .none kV22 dc22 pm22 an22 cd22 ct22), sl22⟩) (c22 : PySem.W.codeIn K cd22 "book_of" = true) (k22 : PySem.W.keepIn K (.ref g22) = true)
  {g23 : Addr} {od23 an23 : Option Addr} {sl23 : Array (Option Value)} {oc23 kV23 dc23 pm23 cd23 ct23 : Value} (a23 : PySem.W.nsIn K mainGlobals "_law_cell_at" = some (some (.ref g23))) (l23 : K.lookup g23 = some ⟨oc23, od23, .func (PySem.W.fnOf "_law_cell_at" "_law_cell_at" (yB wW) (zZ wW) (zG wW) .none kV23 dc23 pm23 an23 cd23 ct23), sl23⟩) (c23 : PySem.W.codeIn K cd23 "_law_cell_at" = true) (k23 : PySem.W.keepIn K (.ref g23) = true)
  {g24 : Addr} {od24 an24 : Option Addr} {sl24 : Array (Option Value)} {oc24 kV24 dc24 pm24 cd24 ct24 : Value} (a24 : PySem.W.nsIn K mainGlobals "_law_mix" = some (some (.ref g24))) (l24 : K.lookup g24 = some ⟨oc24, od24, .func (PySem.W.fnOf "_law_mix" "_law_mix" (yB cQ) (zZ cQ) (zG cQ) .none kV24 dc24 pm24 an24 cd24 ct24), sl24⟩) (c24 : PySem.W.codeIn K cd24 "_law_mix" = true) (k24 : PySem.W.keepIn K (.ref g24) = true)
  {g25 : Addr} {od25 an25 : Option Addr} {sl25 : Array (Option Value)} {oc25 kV25 dc25 pm25 cd25 ct25 : Value} (a25 : PySem.W.nsIn K mainGlobals "_law_name" = some (some (.ref g25))) (l25 : K.lookup g25 = some ⟨oc25, od25, .func (PySem.W.fnOf "_law_name" "_law_name" (yB gG) (zZ gG) (zG gG) .none kV25 dc25 pm25 an25 cd25 ct25), sl25⟩) (c25 : PySem.W.codeIn K cd25 "_law_name" = true) (k25 : PySem.W.keepIn K (.ref g25) = true)
  {g26 : Addr} {od26 an26 : Option Addr} {sl26 : Array (Option Value)} {oc26 kV26 dc26 pm26 cd26 ct26 : Value} (a26 : PySem.W.nsIn K mainGlobals "_law_pool" = some (some (.ref g26))) (l26 : K.lookup g26 = some ⟨oc26, od26, .func (PySem.W.fnOf "_law_pool" "_law_pool" (yB gH) (zZ gH) (zG gH) .none kV26 dc26 pm26 an26 cd26 ct26), sl26⟩) (c26 : PySem.W.codeIn K cd26 "_law_pool" = true) (k26 : PySem.W.keepIn K (.ref g26) = true)
  {g27 : Addr} {od27 an27 : Option Addr} {sl27 : Array (Option Value)} {oc27 kV27 dc27 pm27 cd27 ct27 : Value} (a27 : PySem.W.nsIn K mainGlobals "_law_alike" = some (some (.ref g27))) (l27 : K.lookup g27 = some ⟨oc27, od27, .func (PySem.W.fnOf "_law_alike" "_law_alike" (yB kF) (zZ kF) (zG kF) .none kV27 dc27 pm27 an27 cd27 ct27), sl27⟩) (c27 : PySem.W.codeIn K cd27 "_law_alike" = true) (k27 : PySem.W.keepIn K (.ref g27) = true)
  {g28 : Addr} {od28 an28 : Option Addr} {sl28 : Array (Option Value)} {oc28 kV28 dc28 pm28 cd28 ct28 : Value} (a28 : PySem.W.nsIn K mainGlobals "_law_tables" = some (some (.ref g28))) (l28 : K.lookup g28 = some ⟨oc28, od28, .func (PySem.W.fnOf "_law_tables" "_law_tables" (yB kR) (zZ kR) (zG kR) .none kV28 dc28 pm28 an28 cd28 ct28), sl28⟩) (c28 : PySem.W.codeIn K cd28 "_law_tables" = true) (k28 : PySem.W.keepIn K (.ref g28) = true)
  {g29 : Addr} {od29 an29 : Option Addr} {sl29 : Array (Option Value)} {oc29 kV29 dc29 pm29 cd29 ct29 : Value} (a29 : PySem.W.nsIn K mainGlobals "_law_row" = some (some (.ref g29))) (l29 : K.lookup g29 = some ⟨oc29, od29, .func (PySem.W.fnOf "_law_row" "_law_row" (yB cR) (zZ cR) (zG cR) .none kV29 dc29 pm29 an29 cd29 ct29), sl29⟩) (c29 : PySem.W.codeIn K cd29 "_law_row" = true) (k29 : PySem.W.keepIn K (.ref g29) = true)
  {g30 : Addr} {od30 an30 : Option Addr} {sl30 : Array (Option Value)} {oc30 kV30 dc30 pm30 cd30 ct30 : Value} (a30 : PySem.W.nsIn K mainGlobals "_law_rows" = some (some (.ref g30))) (l30 : K.lookup g30 = some ⟨oc30, od30, .func (PySem.W.fnOf "_law_rows" "_law_rows" (yB gI) (zZ gI) (zG gI) .none kV30 dc30 pm30 an30 cd30 ct30), sl30⟩) (c30 : PySem.W.codeIn K cd30 "_law_rows" = true) (k30 : PySem.W.keepIn K (.ref g30) = true)
  {g31 : Addr} {od31 an31 : Option Addr} {sl31 : Array (Option Value)} {oc31 kV31 dc31 pm31 cd31 ct31 : Value} (a31 : PySem.W.nsIn K mainGlobals "_law_grouped" = some (some (.ref g31))) (l31 : K.lookup g31 = some ⟨oc31, od31, .func (PySem.W.fnOf "_law_grouped" "_law_grouped" (yB wX) (zZ wX) (zG wX) .none kV31 dc31 pm31 an31 cd31 ct31), sl31⟩) (c31 : PySem.W.codeIn K cd31 "_law_grouped" = true) (k31 : PySem.W.keepIn K (.ref g31) = true)
  {g32 : Addr} {od32 an32 : Option Addr} {sl32 : Array (Option Value)} {oc32 kV32 dc32 pm32 cd32 ct32 : Value} (a32 : PySem.W.nsIn K mainGlobals "_law_idle" = some (some (.ref g32))) (l32 : K.lookup g32 = some ⟨oc32, od32, .func (PySem.W.fnOf "_law_idle" "_law_idle" (yB gJ) (zZ gJ) (zG gJ) .none kV32 dc32 pm32 an32 cd32 ct32), sl32⟩) (c32 : PySem.W.codeIn K cd32 "_law_idle" = true) (k32 : PySem.W.keepIn K (.ref g32) = true)
  {g33 : Addr} {od33 an33 : Option Addr} {sl33 : Array (Option Value)} {oc33 kV33 dc33 pm33 cd33 ct33 : Value} (a33 : PySem.W.nsIn K mainGlobals "law" = some (some (.ref g33))) (l33 : K.lookup g33 = some ⟨oc33, od33, .func (PySem.W.fnOf "law" "law" (yB zJG) (zZ zJG) (zG zJG) .none kV33 dc33 pm33 an33 cd33 ct33), sl33⟩) (c33 : PySem.W.codeIn K cd33 "law" = true) (k33 : PySem.W.keepIn K (.ref g33) = true)
  {zBO : Tok} (jM : PySem.W.nsIn K mainGlobals "MOST_LETTERS" = some (some (.int 8 zBO)))
  {zIJ : Tok} (dO : PySem.W.nsIn K mainGlobals "MOST_ROWS" = some (some (.int 60 zIJ)))
  {zFU : Tok} (bF : PySem.W.nsIn K mainGlobals "MOST_RULES" = some (some (.int 6 zFU)))
  {zDJ : Tok} (jY : PySem.W.nsIn K mainGlobals "MOST_TABLES" = some (some (.int 4 zDJ)))
  {zFN : Tok} (bG : PySem.W.nsIn K mainGlobals "MOST_TESTS" = some (some (.int 3 zFN)))
  {zIC : Tok} (dN : PySem.W.nsIn K mainGlobals "MOST_TIED" = some (some (.int 3 zIC)))
  {zII : Tok} (dJ : PySem.W.nsIn K mainGlobals "MOST_WIDE" = some (some (.int 4 zII)))
  {yDI : Addr} {oc_WORDS : Value} {od_WORDS : Option Addr} {its_WORDS : Array Value} {n_WORDS : Nat} {sl_WORDS : Array (Option Value)} (zME : PySem.W.nsIn K mainGlobals "WORDS" = some (some (.ref yDI))) (zVJ : K.lookup yDI = some ⟨oc_WORDS, od_WORDS, .seq its_WORDS n_WORDS, sl_WORDS⟩) (zMB : oc_WORDS = .type "tuple" ∧ its_WORDS.size ≤ sizeLine ∧ Vals ([.str [115,97,109,101], .str [117,110,108,105,107,101], .str [108,101,115,115]].map yCL) its_WORDS.toList)
  (zYG : PySem.W.nsIn K mainGlobals "abs" = some none)
  (zBN : PySem.W.nsIn K mainGlobals "all" = some none)
  (zKM : PySem.W.nsIn K mainGlobals "bool" = some none)
  (xD : PySem.W.nsIn K mainGlobals "enumerate" = some none)
  (zNK : PySem.W.nsIn K mainGlobals "int" = some none)
  (zT : PySem.W.nsIn K mainGlobals "isinstance" = some none)
  (yR : PySem.W.nsIn K mainGlobals "len" = some none)
  (zIB : PySem.W.nsIn K mainGlobals "list" = some none)
  (jR : PySem.W.nsIn K mainGlobals "range" = some none)
  (zNM : PySem.W.nsIn K mainGlobals "str" = some none)
  (xE : PySem.W.nsIn K mainGlobals "tuple" = some none)
  (zYN : PySem.W.nsIn K mainGlobals "zip" = some none)
  : ∃ fd : FuncData, (∀ (s : Shared) (v : Value), BindsTo s fd ⟨[v], []⟩ [("_law_script", v)]) ∧ ∀ base : Heap, K.In base → base.Ns mainGlobals mg → FnOk l.prog w K mg base CX0 10 fa fd ["_law_script"] (zWL K zSX) := by
 have e := hfa.symm.trans (PySem.W.mg_of X GG a33)
 cases e
 have Z_abs := PySem.W.mg_none_of X GG zYG
 have Z_all := PySem.W.mg_none_of X GG zBN
 have Z_bool := PySem.W.mg_none_of X GG zKM
 have Z_enumerate := PySem.W.mg_none_of X GG xD
 have Z_int := PySem.W.mg_none_of X GG zNK
 have Z_isinstance := PySem.W.mg_none_of X GG zT
 have Z_len := PySem.W.mg_none_of X GG yR
 have Z_list := PySem.W.mg_none_of X GG zIB
 have Z_range := PySem.W.mg_none_of X GG jR
 have Z_str := PySem.W.mg_none_of X GG zNM
 have Z_tuple := PySem.W.mg_none_of X GG xE
 have Z_zip := PySem.W.mg_none_of X GG zYN
 have M_MOST_LETTERS := PySem.W.mg_of X GG jM
 have M_MOST_ROWS := PySem.W.mg_of X GG dO
 have M_MOST_RULES := PySem.W.mg_of X GG bF
 have M_MOST_TABLES := PySem.W.mg_of X GG jY
 have M_MOST_TESTS := PySem.W.mg_of X GG bG
 have M_MOST_TIED := PySem.W.mg_of X GG dN
 have M_MOST_WIDE := PySem.W.mg_of X GG dJ
 have M_WORDS : GTup K mg "WORDS" [.str [115,97,109,101], .str [117,110,108,105,107,101], .str [108,101,115,115]] := ⟨⟨_, _, _, _, PySem.W.mg_of X GG zME, zVJ, zMB.1, rfl, zMB.2.1, zMB.2.2⟩, rfl⟩
 have F0 := yS (st := cJ) l0 c0 k0
 have b0 := F0.binds (ps := ["thing"]) fun _ _ _ _ _ _ us hl => us1 (P := fun us => bindArgs _ ⟨us, []⟩ = pure (List.zip _ us)) (fun _ => rfl) us hl
 have m0 := PySem.W.mg_of X GG a0
 have F1 := yS (st := cK) l1 c1 k1
 have b1 := F1.binds (ps := ["thing"]) fun _ _ _ _ _ _ us hl => us1 (P := fun us => bindArgs _ ⟨us, []⟩ = pure (List.zip _ us)) (fun _ => rfl) us hl
 have m1 := PySem.W.mg_of X GG a1
 have F2 := yS (st := cL) l2 c2 k2
 have b2 := F2.binds (ps := ["thing"]) fun _ _ _ _ _ _ us hl => us1 (P := fun us => bindArgs _ ⟨us, []⟩ = pure (List.zip _ us)) (fun _ => rfl) us hl
 have m2 := PySem.W.mg_of X GG a2
 have F3 := yS (st := zDX) l3 c3 k3
 have b3 := F3.binds (ps := ["tables", "row"]) fun _ _ _ _ _ _ us hl => us2 (P := fun us => bindArgs _ ⟨us, []⟩ = pure (List.zip _ us)) (fun _ _ => rfl) us hl
 have m3 := PySem.W.mg_of X GG a3
 have F4 := yS (st := cM) l4 c4 k4
 have b4 := F4.binds (ps := ["book"]) fun _ _ _ _ _ _ us hl => us1 (P := fun us => bindArgs _ ⟨us, []⟩ = pure (List.zip _ us)) (fun _ => rfl) us hl
 have m4 := PySem.W.mg_of X GG a4
 have F5 := yS (st := zDY) l5 c5 k5
 have b5 := F5.binds (ps := ["book"]) fun _ _ _ _ _ _ us hl => us1 (P := fun us => bindArgs _ ⟨us, []⟩ = pure (List.zip _ us)) (fun _ => rfl) us hl
 have m5 := PySem.W.mg_of X GG a5
 have F6 := yS (st := cN) l6 c6 k6
 have b6 := F6.binds (ps := ["thing", "least", "most"]) fun _ _ _ _ _ _ us hl => us3 (P := fun us => bindArgs _ ⟨us, []⟩ = pure (List.zip _ us)) (fun _ _ _ => rfl) us hl
 have m6 := PySem.W.mg_of X GG a6
 have F7 := yS (st := xV) l7 c7 k7
 have b7 := F7.binds (ps := ["thing", "bound"]) fun _ _ _ _ _ _ us hl => us2 (P := fun us => bindArgs _ ⟨us, []⟩ = pure (List.zip _ us)) (fun _ _ => rfl) us hl
 have m7 := PySem.W.mg_of X GG a7
 have F8 := yS (st := cO) l8 c8 k8
 have b8 := F8.binds (ps := ["thing"]) fun _ _ _ _ _ _ us hl => us1 (P := fun us => bindArgs _ ⟨us, []⟩ = pure (List.zip _ us)) (fun _ => rfl) us hl
 have m8 := PySem.W.mg_of X GG a8
 have F9 := yS (st := zAA) l9 c9 k9
 have b9 := F9.binds (ps := ["thing", "wides"]) fun _ _ _ _ _ _ us hl => us2 (P := fun us => bindArgs _ ⟨us, []⟩ = pure (List.zip _ us)) (fun _ _ => rfl) us hl
 have m9 := PySem.W.mg_of X GG a9
 have F10 := yS (st := zAB) l10 c10 k10
 have b10 := F10.binds (ps := ["thing", "wides"]) fun _ _ _ _ _ _ us hl => us2 (P := fun us => bindArgs _ ⟨us, []⟩ = pure (List.zip _ us)) (fun _ _ => rfl) us hl
 have m10 := PySem.W.mg_of X GG a10
 have F11 := yS (st := jH) l11 c11 k11
 have b11 := F11.binds (ps := ["thing", "wides"]) fun _ _ _ _ _ _ us hl => us2 (P := fun us => bindArgs _ ⟨us, []⟩ = pure (List.zip _ us)) (fun _ _ => rfl) us hl
 have m11 := PySem.W.mg_of X GG a11
 have F12 := yS (st := wM) l12 c12 k12
 have b12 := F12.binds (ps := ["thing", "wide"]) fun _ _ _ _ _ _ us hl => us2 (P := fun us => bindArgs _ ⟨us, []⟩ = pure (List.zip _ us)) (fun _ _ => rfl) us hl
 have m12 := PySem.W.mg_of X GG a12
 have F13 := yS (st := cP) l13 c13 k13
 have b13 := F13.binds (ps := ["rule", "tables"]) fun _ _ _ _ _ _ us hl => us2 (P := fun us => bindArgs _ ⟨us, []⟩ = pure (List.zip _ us)) (fun _ _ => rfl) us hl
 have m13 := PySem.W.mg_of X GG a13
 have F14 := yS (st := jI) l14 c14 k14
 have b14 := F14.binds (ps := ["rule", "tables"]) fun _ _ _ _ _ _ us hl => us2 (P := fun us => bindArgs _ ⟨us, []⟩ = pure (List.zip _ us)) (fun _ _ => rfl) us hl
 have m14 := PySem.W.mg_of X GG a14
 have F15 := yS (st := zDZ) l15 c15 k15
 have b15 := F15.binds (ps := ["rule", "tables"]) fun _ _ _ _ _ _ us hl => us2 (P := fun us => bindArgs _ ⟨us, []⟩ = pure (List.zip _ us)) (fun _ _ => rfl) us hl
 have m15 := PySem.W.mg_of X GG a15
 have F16 := yS (st := zAC) l16 c16 k16
 have b16 := F16.binds (ps := ["thing", "tables"]) fun _ _ _ _ _ _ us hl => us2 (P := fun us => bindArgs _ ⟨us, []⟩ = pure (List.zip _ us)) (fun _ _ => rfl) us hl
 have m16 := PySem.W.mg_of X GG a16
 have F17 := yS (st := zBC) l17 c17 k17
 have b17 := F17.binds (ps := ["thing", "tables"]) fun _ _ _ _ _ _ us hl => us2 (P := fun us => bindArgs _ ⟨us, []⟩ = pure (List.zip _ us)) (fun _ _ => rfl) us hl
 have m17 := PySem.W.mg_of X GG a17
 have F18 := yS (st := kO) l18 c18 k18
 have b18 := F18.binds (ps := ["tables", "rules", "rows"]) fun _ _ _ _ _ _ us hl => us3 (P := fun us => bindArgs _ ⟨us, []⟩ = pure (List.zip _ us)) (fun _ _ _ => rfl) us hl
 have m18 := PySem.W.mg_of X GG a18
 have F19 := yS (st := wV) l19 c19 k19
 have b19 := F19.binds (ps := ["tables"]) fun _ _ _ _ _ _ us hl => us1 (P := fun us => bindArgs _ ⟨us, []⟩ = pure (List.zip _ us)) (fun _ => rfl) us hl
 have m19 := PySem.W.mg_of X GG a19
 have F20 := yS (st := kP) l20 c20 k20
 have b20 := F20.binds (ps := ["tables", "rules"]) fun _ _ _ _ _ _ us hl => us2 (P := fun us => bindArgs _ ⟨us, []⟩ = pure (List.zip _ us)) (fun _ _ => rfl) us hl
 have m20 := PySem.W.mg_of X GG a20
 have F21 := yS (st := jQ) l21 c21 k21
 have b21 := F21.binds (ps := ["tables", "rows"]) fun _ _ _ _ _ _ us hl => us2 (P := fun us => bindArgs _ ⟨us, []⟩ = pure (List.zip _ us)) (fun _ _ => rfl) us hl
 have m21 := PySem.W.mg_of X GG a21
 have F22 := yS (st := zAD) l22 c22 k22
 have b22 := F22.binds (ps := ["tables", "rules", "rows"]) fun _ _ _ _ _ _ us hl => us3 (P := fun us => bindArgs _ ⟨us, []⟩ = pure (List.zip _ us)) (fun _ _ _ => rfl) us hl
 have m22 := PySem.W.mg_of X GG a22
 have F23 := yS (st := wW) l23 c23 k23
 have b23 := F23.binds (ps := ["_law_script", "_law_k"]) fun _ _ _ _ _ _ us hl => us2 (P := fun us => bindArgs _ ⟨us, []⟩ = pure (List.zip _ us)) (fun _ _ => rfl) us hl
 have m23 := PySem.W.mg_of X GG a23
 have F24 := yS (st := cQ) l24 c24 k24
 have b24 := F24.binds (ps := ["_law_cell", "_law_prime"]) fun _ _ _ _ _ _ us hl => us2 (P := fun us => bindArgs _ ⟨us, []⟩ = pure (List.zip _ us)) (fun _ _ => rfl) us hl
 have m24 := PySem.W.mg_of X GG a24
 have F25 := yS (st := gG) l25 c25 k25
 have b25 := F25.binds (ps := ["_law_cell"]) fun _ _ _ _ _ _ us hl => us1 (P := fun us => bindArgs _ ⟨us, []⟩ = pure (List.zip _ us)) (fun _ => rfl) us hl
 have m25 := PySem.W.mg_of X GG a25
 have F26 := yS (st := gH) l26 c26 k26
 have b26 := F26.binds (ps := ["_law_cell"]) fun _ _ _ _ _ _ us hl => us1 (P := fun us => bindArgs _ ⟨us, []⟩ = pure (List.zip _ us)) (fun _ => rfl) us hl
 have m26 := PySem.W.mg_of X GG a26
 have F27 := yS (st := kF) l27 c27 k27
 have b27 := F27.binds (ps := ["_law_told", "_law_due"]) fun _ _ _ _ _ _ us hl => us2 (P := fun us => bindArgs _ ⟨us, []⟩ = pure (List.zip _ us)) (fun _ _ => rfl) us hl
 have m27 := PySem.W.mg_of X GG a27
 have F28 := yS (st := kR) l28 c28 k28
 have b28 := F28.binds (ps := ["_law_cell", "_law_most"]) fun _ _ _ _ _ _ us hl => us2 (P := fun us => bindArgs _ ⟨us, []⟩ = pure (List.zip _ us)) (fun _ _ => rfl) us hl
 have m28 := PySem.W.mg_of X GG a28
 have F29 := yS (st := cR) l29 c29 k29
 have b29 := F29.binds (ps := ["_law_cell", "_law_tables_here", "_law_pool_here", "_law_wide"]) fun _ _ _ _ _ _ us hl => us4 (P := fun us => bindArgs _ ⟨us, []⟩ = pure (List.zip _ us)) (fun _ _ _ _ => rfl) us hl
 have m29 := PySem.W.mg_of X GG a29
 have F30 := yS (st := gI) l30 c30 k30
 have b30 := F30.binds (ps := ["_law_cells", "_law_tables_here", "_law_pool_here", "_law_wide"]) fun _ _ _ _ _ _ us hl => us4 (P := fun us => bindArgs _ ⟨us, []⟩ = pure (List.zip _ us)) (fun _ _ _ _ => rfl) us hl
 have m30 := PySem.W.mg_of X GG a30
 have F31 := yS (st := wX) l31 c31 k31
 have b31 := F31.binds (ps := ["_law_tables_here", "_law_rows_here"]) fun _ _ _ _ _ _ us hl => us2 (P := fun us => bindArgs _ ⟨us, []⟩ = pure (List.zip _ us)) (fun _ _ => rfl) us hl
 have m31 := PySem.W.mg_of X GG a31
 have F32 := yS (st := gJ) l32 c32 k32
 have b32 := F32.binds (ps := ["_law_cell", "_law_tables_here"]) fun _ _ _ _ _ _ us hl => us2 (P := fun us => bindArgs _ ⟨us, []⟩ = pure (List.zip _ us)) (fun _ _ => rfl) us hl
 have m32 := PySem.W.mg_of X GG a32
 have F33 := yS (st := zJG) l33 c33 k33
 have b33 := F33.binds (ps := ["_law_script"]) fun _ _ _ _ _ _ us hl => us1 (P := fun us => bindArgs _ ⟨us, []⟩ = pure (List.zip _ us)) (fun _ => rfl) us hl
 have m33 := PySem.W.mg_of X GG a33
 refine ⟨PySem.W.fnOf "law" "law" (yB zJG) (zZ zJG) (zG zJG) .none kV33 dc33 pm33 an33 cd33 ct33, fun s v => .of_eq rfl, fun base _ _ => ?_⟩
 have G0 := zXN (P := l.prog) (w := w) (mg := mg) (base := base) F0 Z_int Z_isinstance Z_bool
 have G1 := yAM (P := l.prog) (w := w) (mg := mg) (base := base) F1 Z_str Z_isinstance Z_len M_MOST_LETTERS Z_all
 have G2 := zXP (P := l.prog) (w := w) (mg := mg) (base := base) F2 G0 m0 k0 b0 Z_abs G1 m1 k1 b1
 have G3 := yEU (P := l.prog) (w := w) (mg := mg) (base := base) F3
 have G4 := zXR (P := l.prog) (w := w) (mg := mg) (base := base) F4 Z_len
 have G5 := yEV (P := l.prog) (w := w) (mg := mg) (base := base) F5 G4 m4 k4 b4 Z_enumerate G3 m3 k3 b3 Z_list
 have G6 := zXT (P := l.prog) (w := w) (mg := mg) (base := base) F6 Z_tuple Z_isinstance Z_len
 have G7 := zKH (P := l.prog) (w := w) (mg := mg) (base := base) F7 G0 m0 k0 b0
 have G8 := zXU (P := l.prog) (w := w) (mg := mg) (base := base) F8 G6 m6 k6 b6 G0 m0 k0 b0 M_MOST_WIDE G7 m7 k7 b7
 have G9 := yAO (P := l.prog) (w := w) (mg := mg) (base := base) F9 G6 m6 k6 b6 G2 m2 k2 b2 G7 m7 k7 b7 Z_len
 have G10 := yAQ (P := l.prog) (w := w) (mg := mg) (base := base) F10 G6 m6 k6 b6 G9 m9 k9 b9 M_WORDS
 have G11 := zVD (P := l.prog) (w := w) (mg := mg) (base := base) F11 G6 m6 k6 b6 M_MOST_TESTS G10 m10 k10 b10 Z_all
 have G12 := zQF (P := l.prog) (w := w) (mg := mg) (base := base) F12 G6 m6 k6 b6 M_MOST_TIED G7 m7 k7 b7 Z_all
 have G13 := zXW (P := l.prog) (w := w) (mg := mg) (base := base) F13 Z_len G7 m7 k7 b7 G11 m11 k11 b11
 have G14 := zXY (P := l.prog) (w := w) (mg := mg) (base := base) F14 Z_len G7 m7 k7 b7 Z_all G11 m11 k11 b11
 have G15 := yEW (P := l.prog) (w := w) (mg := mg) (base := base) F15 Z_len G7 m7 k7 b7 G12 m12 k12 b12
 have G16 := yAS (P := l.prog) (w := w) (mg := mg) (base := base) F16 Z_tuple Z_isinstance Z_len G13 m13 k13 b13 G14 m14 k14 b14 G15 m15 k15 b15
 have G17 := yEX (P := l.prog) (w := w) (mg := mg) (base := base) F17 G6 m6 k6 b6 G7 m7 k7 b7 Z_len G2 m2 k2 b2 Z_all
 have G18 := zQH (P := l.prog) (w := w) (mg := mg) (base := base) F18 Z_len M_MOST_TABLES M_MOST_RULES M_MOST_ROWS
 have G19 := zNQ (P := l.prog) (w := w) (mg := mg) (base := base) F19 Z_len Z_enumerate G8 m8 k8 b8
 have G20 := zQI (P := l.prog) (w := w) (mg := mg) (base := base) F20 Z_enumerate G16 m16 k16 b16
 have G21 := zRL (P := l.prog) (w := w) (mg := mg) (base := base) F21 Z_enumerate G17 m17 k17 b17
 have G22 := yAU (P := l.prog) (w := w) (mg := mg) (base := base) F22 G18 m18 k18 b18 G19 m19 k19 b19 G20 m20 k20 b20 G21 m21 k21 b21 Z_tuple
 have G23 := zNS (P := l.prog) (w := w) (mg := mg) (base := base) F23 Z_len
 have G24 := zXZ (P := l.prog) (w := w) (mg := mg) (base := base) F24
 have G25 := zVE (P := l.prog) (w := w) (mg := mg) (base := base) F25 Z_range
 have G26 := zVF (P := l.prog) (w := w) (mg := mg) (base := base) F26 G24 m24 k24 b24 G25 m25 k25 b25 Z_len
 have G27 := zRN (P := l.prog) (w := w) (mg := mg) (base := base) F27 m27 k27 b27 Z_str Z_isinstance Z_int Z_bool Z_list Z_tuple Z_len Z_zip Z_all 8
 have G28 := zQJ (P := l.prog) (w := w) (mg := mg) (base := base) F28 G24 m24 k24 b24 Z_range Z_tuple
 have G29 := zYA (P := l.prog) (w := w) (mg := mg) (base := base) F29 G24 m24 k24 b24 Z_len Z_range Z_tuple
 have G30 := zVG (P := l.prog) (w := w) (mg := mg) (base := base) F30 G29 m29 k29 b29 Z_tuple
 have G31 := zNT (P := l.prog) (w := w) (mg := mg) (base := base) F31 Z_range Z_len
 have G32 := zVH (P := l.prog) (w := w) (mg := mg) (base := base) F32 Z_len
 have G33 := yQC (P := l.prog) (w := w) (mg := mg) (base := base) F33 G26 m26 k26 b26 G23 m23 k23 b23 G28 m28 k28 b28 G30 m30 k30 b30 G22 m22 k22 b22 G31 m31 k31 b31 G4 m4 k4 b4 G5 m5 k5 b5 G27 m27 k27 b27 Z_range G32 m32 k32 b32 Z_tuple
 exact G33.imp fun vs H Q E => yHG (g := ⟨K, mg, l.prog, w⟩) vs H Q E
theorem walk {l : PySem.W.OpenLaw} {q : Program} {loose : List Str} {XP : (Str → Option Value) → Heap → Prop} {YP : World → Heap → Prop} {d : DefRec} {K : Params → PySem.W.Frag} (hn : l.most = some 63) (hdf : d.params.defaults = [])
  (hY : ∀ (w : World) (h : Heap), YP w h → (K w.params).In h)
  (F : ∀ (w : World) (mg : Str → Option Value) (fa : Addr) (h : Heap), (K w.params).In h → h.Ns mainGlobals mg → mg d.name = some (.ref fa) →
   ∃ fd : FuncData, (∀ (s : Shared) (u : Value), BindsTo s fd ⟨[u], []⟩ [("_law_script", u)]) ∧ ∀ base : Heap, (K w.params).In base → base.Ns mainGlobals mg → FnOk l.prog w (K w.params) mg base CX0 10 fa fd ["_law_script"] (zWL (K w.params) zSX)) :
  PySem.W.WalkO q loose XP YP l.row.toRowW d [] (fun f vs => PySem.call f vs) :=
 L2.walk_of (n := 63) (k := 10) (x := "_law_script") (CX := fun _ => CX0) (sp := fun w => zWL (K w.params) zSX) hn (by decide) hdf ⟨rfl, by decide, by decide⟩ hY F
  (fun w H a ns hl hO hS => yHH hO hS (yIR ns hl)) fun _ _ _ _ _ z => z
end My
end M
end L2
noncomputable def PySem.W.Fast.tw16651063589649706569 : PySem.Params → PySem.Heap := fun P => { PySem.W.boot_heap P with objs := #[] }
theorem PySem.W.Fast.te16651063589649706569 : PySem.W.Fast.tw16651063589649706569 = PySem.W.Fast.tw16651063589649706569 := rfl
noncomputable def PySem.W.Fast.tw13258804467481342904 : PySem.Params → PySem.Heap := fun P => { PySem.W.boot_heap P with objs := #[] }
theorem PySem.W.Fast.te13258804467481342904 : PySem.W.Fast.tw13258804467481342904 = PySem.W.Fast.tw13258804467481342904 := rfl
noncomputable def zQ0 : PySem.Params → PySem.Heap := fun P => { PySem.W.boot_heap P with objs := #[] }
noncomputable def PySem.W.Fast.tw8813491352361037213 := zQ0
theorem PySem.W.Fast.te8813491352361037213 : PySem.W.Fast.tw8813491352361037213 = PySem.W.Fast.tw8813491352361037213 := rfl
noncomputable def PySem.W.Fast.tw8170523216976042995 := zQ0
theorem PySem.W.Fast.te8170523216976042995 : PySem.W.Fast.tw8170523216976042995 = PySem.W.Fast.tw8170523216976042995 := rfl
noncomputable def PySem.W.Fast.tw14356382223395127326 := zQ0
theorem PySem.W.Fast.te14356382223395127326 : PySem.W.Fast.tw14356382223395127326 = PySem.W.Fast.tw14356382223395127326 := rfl
noncomputable def PySem.W.Fast.tw4212781562960090418 := zQ0
theorem PySem.W.Fast.te4212781562960090418 : PySem.W.Fast.tw4212781562960090418 = PySem.W.Fast.tw4212781562960090418 := rfl
noncomputable def PySem.W.Fast.tw9656587902632658714 := zQ0
theorem PySem.W.Fast.te9656587902632658714 : PySem.W.Fast.tw9656587902632658714 = PySem.W.Fast.tw9656587902632658714 := rfl
noncomputable def PySem.W.Fast.tw11837078462298671768 := zQ0
theorem PySem.W.Fast.te11837078462298671768 : PySem.W.Fast.tw11837078462298671768 = PySem.W.Fast.tw11837078462298671768 := rfl
open PySem PySem.W PyProof.Rows
set_option maxRecDepth 100000 in
set_option maxHeartbeats 0 in
theorem PySem.Challenge.cw_mendsure_k50_blocks_holds : PySem.Challenge.rw_mendsure_k50_blocks.Holds := by
 w_on; o_law; k_head; (case hw => w_witness2)
 k_fill
 refine L2.M.My.walk (l := PySem.Challenge.rw_mendsure_k50_blocks) rfl rfl (fun w h Y => PySem.W.kIn_of Y) ?F
 case F =>
  intro w mg fa h KX G hmg
  refine' L2.M.My.all_mk KX G hmg ?a0 ?l0 ?c0 ?k0 ?a1 ?l1 ?c1 ?k1 ?a2 ?l2 ?c2 ?k2 ?a3 ?l3 ?c3 ?k3 ?a4 ?l4 ?c4 ?k4 ?a5 ?l5 ?c5 ?k5 ?a6 ?l6 ?c6 ?k6 ?a7 ?l7 ?c7 ?k7 ?a8 ?l8 ?c8 ?k8 ?a9 ?l9 ?c9 ?k9 ?a10 ?l10 ?c10 ?k10 ?a11 ?l11 ?c11 ?k11 ?a12 ?l12 ?c12 ?k12 ?a13 ?l13 ?c13 ?k13 ?a14 ?l14 ?c14 ?k14 ?a15 ?l15 ?c15 ?k15 ?a16 ?l16 ?c16 ?k16 ?a17 ?l17 ?c17 ?k17 ?a18 ?l18 ?c18 ?k18 ?a19 ?l19 ?c19 ?k19 ?a20 ?l20 ?c20 ?k20 ?a21 ?l21 ?c21 ?k21 ?a22 ?l22 ?c22 ?k22 ?a23 ?l23 ?c23 ?k23 ?a24 ?l24 ?c24 ?k24 ?a25 ?l25 ?c25 ?k25 ?a26 ?l26 ?c26 ?k26 ?a27 ?l27 ?c27 ?k27 ?a28 ?l28 ?c28 ?k28 ?a29 ?l29 ?c29 ?k29 ?a30 ?l30 ?c30 ?k30 ?a31 ?l31 ?c31 ?k31 ?a32 ?l32 ?c32 ?k32 ?a33 ?l33 ?c33 ?k33 ?jM ?dO ?bF ?jY ?bG ?dN ?dJ ?zME ?zVJ ?zMB ?zYG ?zBN ?zKM ?xD ?zNK ?zT ?yR ?zIB ?jR ?zNM ?xE ?zYN
  (case a0 => k_is)
  (case l0 => k_is)
  (case c0 => k_is)
  (case k0 => k_is)
  (case a1 => k_is)
  (case l1 => k_is)
  (case c1 => k_is)
  (case k1 => k_is)
  (case a2 => k_is)
  (case l2 => k_is)
  (case c2 => k_is)
  (case k2 => k_is)
  (case a3 => k_is)
  (case l3 => k_is)
  (case c3 => k_is)
  (case k3 => k_is)
  (case a4 => k_is)
  (case l4 => k_is)
  (case c4 => k_is)
  (case k4 => k_is)
  (case a5 => k_is)
  (case l5 => k_is)
  (case c5 => k_is)
  (case k5 => k_is)
  (case a6 => k_is)
  (case l6 => k_is)
  (case c6 => k_is)
  (case k6 => k_is)
  (case a7 => k_is)
  (case l7 => k_is)
  (case c7 => k_is)
  (case k7 => k_is)
  (case a8 => k_is)
  (case l8 => k_is)
  (case c8 => k_is)
  (case k8 => k_is)
  (case a9 => k_is)
  (case l9 => k_is)
  (case c9 => k_is)
  (case k9 => k_is)
  (case a10 => k_is)
  (case l10 => k_is)
  (case c10 => k_is)
  (case k10 => k_is)
  (case a11 => k_is)
  (case l11 => k_is)
  (case c11 => k_is)
  (case k11 => k_is)
  (case a12 => k_is)
  (case l12 => k_is)
  (case c12 => k_is)
  (case k12 => k_is)
  (case a13 => k_is)
  (case l13 => k_is)
  (case c13 => k_is)
  (case k13 => k_is)
  (case a14 => k_is)
  (case l14 => k_is)
  (case c14 => k_is)
  (case k14 => k_is)
  (case a15 => k_is)
  (case l15 => k_is)
  (case c15 => k_is)
  (case k15 => k_is)
  (case a16 => k_is)
  (case l16 => k_is)
  (case c16 => k_is)
  (case k16 => k_is)
  (case a17 => k_is)
  (case l17 => k_is)
  (case c17 => k_is)
  (case k17 => k_is)
  (case a18 => k_is)
  (case l18 => k_is)
  (case c18 => k_is)
  (case k18 => k_is)
  (case a19 => k_is)
  (case l19 => k_is)
  (case c19 => k_is)
  (case k19 => k_is)
  (case a20 => k_is)
  (case l20 => k_is)
  (case c20 => k_is)
  (case k20 => k_is)
  (case a21 => k_is)
  (case l21 => k_is)
  (case c21 => k_is)
  (case k21 => k_is)
  (case a22 => k_is)
  (case l22 => k_is)
  (case c22 => k_is)
  (case k22 => k_is)
  (case a23 => k_is)
  (case l23 => k_is)
  (case c23 => k_is)
  (case k23 => k_is)
  (case a24 => k_is)
  (case l24 => k_is)
  (case c24 => k_is)
  (case k24 => k_is)
  (case a25 => k_is)
  (case l25 => k_is)
  (case c25 => k_is)
  (case k25 => k_is)
  (case a26 => k_is)
  (case l26 => k_is)
  (case c26 => k_is)
  (case k26 => k_is)
  (case a27 => k_is)
  (case l27 => k_is)
  (case c27 => k_is)
  (case k27 => k_is)
  (case a28 => k_is)
  (case l28 => k_is)
  (case c28 => k_is)
  (case k28 => k_is)
  (case a29 => k_is)
  (case l29 => k_is)
  (case c29 => k_is)
  (case k29 => k_is)
  (case a30 => k_is)
  (case l30 => k_is)
  (case c30 => k_is)
  (case k30 => k_is)
  (case a31 => k_is)
  (case l31 => k_is)
  (case c31 => k_is)
  (case k31 => k_is)
  (case a32 => k_is)
  (case l32 => k_is)
  (case c32 => k_is)
  (case k32 => k_is)
  (case a33 => k_is)
  (case l33 => k_is)
  (case c33 => k_is)
  (case k33 => k_is)
  (case jM => k_is)
  (case dO => k_is)
  (case bF => k_is)
  (case jY => k_is)
  (case bG => k_is)
  (case dN => k_is)
  (case dJ => k_is)
  (case zME => k_is)
  (case zVJ => k_is)
  (case zMB => exact ⟨rfl, by decide, .cons ⟨_, rfl⟩ (.cons ⟨_, rfl⟩ (.cons ⟨_, rfl⟩ (.nil)))⟩)
  (case zYG => k_is)
  (case zBN => k_is)
  (case zKM => k_is)
  (case xD => k_is)
  (case zNK => k_is)
  (case zT => k_is)
  (case yR => k_is)
  (case zIB => k_is)
  (case jR => k_is)
  (case zNM => k_is)
  (case xE => k_is)
  (case zYN => k_is)
