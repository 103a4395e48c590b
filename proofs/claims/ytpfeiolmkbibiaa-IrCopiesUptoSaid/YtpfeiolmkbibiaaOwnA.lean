/- What a call owns: rows of cells, and for each element memory of its own in a range of blocks. -/
import Derived.Test.YtpfeiolmkbibiaaIrZ
import Derived.Deep.MidRow
namespace Go.Proofs.Ytpfeiolmkbibiaa
open Go.RowKit Go.Maps
set_option linter.unusedVariables false
set_option linter.unusedSimpArgs false

/-- The blocks from a on, ahead of b, are as they were. -/
def Stay (a b : Nat) (w w' : World) : Prop := ∀ k, a ≤ k → k < b → w'.heap[k]? = w.heap[k]?
theorem Stay.refl (a b : Nat) (w : World) : Stay a b w w := fun _ _ _ => rfl
theorem Stay.trans {a b : Nat} {u v w : World} (h : Stay a b u v) (k : Stay a b v w) : Stay a b u w := fun i x y => (k i x y).trans (h i x y)
theorem Stay.mono {a b a' b' : Nat} {w w' : World} (h : Stay a b w w') (ha : a ≤ a') (hb : b' ≤ b) : Stay a' b' w w' := fun k x y => h k (Nat.le_trans ha x) (Nat.lt_of_lt_of_le y hb)
theorem below_stay {B a b : Nat} {w w' : World} (h : Below B w w') (hb : b ≤ B) : Stay a b w w' := fun k _ y => h.block k (Nat.lt_of_lt_of_le y hb)
theorem Past.stay {B a b : Nat} {w w' : World} (h : Past B w w') (hb : b ≤ B) : Stay a b w w' := below_stay h.2 hb

/-- For each element memory of its own, one range behind the other, none of them holds g. -/
def Spread {α : Type} (Q : Nat → Nat → World → α → Prop) (g : Option Nat) : Nat → Nat → World → List α → Prop
  | lo, hi, _, [] => lo ≤ hi
  | lo, hi, w, x :: xs => ∃ a b, lo ≤ a ∧ a ≤ b ∧ (∀ k, g = some k → k < a ∨ b ≤ k) ∧ Q a b w x ∧ Spread Q g b hi w xs
section
variable {α : Type} {Q : Nat → Nat → World → α → Prop} {g : Option Nat}
theorem Spread.le : ∀ {xs : List α} {lo hi : Nat} {w : World}, Spread Q g lo hi w xs → lo ≤ hi
  | [], _, _, _, h => h
  | x :: xs, lo, hi, w, ⟨a, b, h1, h2, _, _, h⟩ => by have := Spread.le h; omega
theorem Spread.up : ∀ {xs : List α} {lo hi hi' : Nat} {w : World}, Spread Q g lo hi w xs → hi ≤ hi' → Spread Q g lo hi' w xs
  | [], _, _, _, _, h, hh => Nat.le_trans h hh
  | x :: xs, _, _, _, _, ⟨a, b, h1, h2, h3, h4, h⟩, hh => ⟨a, b, h1, h2, h3, h4, Spread.up h hh⟩
theorem Spread.down {xs : List α} {lo lo' hi : Nat} {w : World} (h : Spread Q g lo hi w xs) (hl : lo' ≤ lo) : Spread Q g lo' hi w xs := by
  cases xs with
  | nil => exact Nat.le_trans hl h
  | cons x xs =>
    obtain ⟨a, b, h1, h2, h3, h4, h⟩ := h
    exact ⟨a, b, Nat.le_trans hl h1, h2, h3, h4, h⟩
/-- Q hangs on its range alone. -/
def Local (Q : Nat → Nat → World → α → Prop) : Prop := ∀ a b w w' x, Stay a b w w' → Q a b w x → Q a b w' x
theorem Spread.stay (hQ : Local Q) : ∀ {xs : List α} {lo hi : Nat} {w w' : World}, Spread Q g lo hi w xs → (∀ k, lo ≤ k → k < hi → g ≠ some k → w'.heap[k]? = w.heap[k]?) → Spread Q g lo hi w' xs
  | [], _, _, _, _, h, _ => h
  | x :: xs, lo, hi, w, w', ⟨a, b, h1, h2, h3, h4, h⟩, hs => by
    have hle := Spread.le h
    exact ⟨a, b, h1, h2, h3, hQ a b w w' x (fun k x y => hs k (by omega) (by omega) (fun e => by have := h3 k e; omega)) h4, Spread.stay hQ h (fun k x y e => hs k (by omega) y e)⟩
theorem Spread.snoc : ∀ {xs : List α} {lo hi a b : Nat} {w : World} {x : α}, Spread Q g lo hi w xs → hi ≤ a → a ≤ b → (∀ k, g = some k → k < a ∨ b ≤ k) → Q a b w x → Spread Q g lo b w (xs ++ [x])
  | [], lo, hi, a, b, w, x, h, h1, h2, h3, h4 => ⟨a, b, Nat.le_trans h h1, h2, h3, h4, Nat.le_refl b⟩
  | y :: xs, lo, hi, a, b, w, x, ⟨a', b', k1, k2, k3, k4, h⟩, h1, h2, h3, h4 => ⟨a', b', k1, k2, k3, k4, Spread.snoc h h1 h2 h3 h4⟩
/-- Another row's block: g may be any that lies in none of the ranges; so one at or behind hi. -/
theorem Spread.row : ∀ {xs : List α} {lo hi : Nat} {w : World} {g' : Option Nat}, Spread Q g lo hi w xs → (∀ k, g' = some k → hi ≤ k ∨ k < lo) → Spread Q g' lo hi w xs
  | [], _, _, _, _, h, _ => h
  | x :: xs, lo, hi, w, g', ⟨a, b, h1, h2, h3, h4, h⟩, hg => by
    have hle := Spread.le h
    exact ⟨a, b, h1, h2, fun k e => by have := hg k e; omega, h4, Spread.row h (fun k e => by have := hg k e; omega)⟩
/-- An element's own memory; what is done within it leaves the others'. -/
theorem Spread.at (hQ : Local Q) : ∀ {xs : List α} {lo hi : Nat} {w : World} (h : Spread Q g lo hi w xs) (i : Nat) (hi' : i < xs.length),
    ∃ a b, lo ≤ a ∧ a ≤ b ∧ b ≤ hi ∧ (∀ k, g = some k → k < a ∨ b ≤ k) ∧ Q a b w xs[i] ∧
      ∀ w' y, (∀ k, lo ≤ k → k < hi → g ≠ some k → (k < a ∨ b ≤ k) → w'.heap[k]? = w.heap[k]?) → Q a b w' y → Spread Q g lo hi w' (xs.set i y)
  | [], _, _, _, _, i, hi' => absurd hi' (Nat.not_lt_zero _)
  | x :: xs, lo, hi, w, ⟨a, b, h1, h2, h3, h4, h⟩, 0, _ => by
    have hle := Spread.le h
    exact ⟨a, b, h1, h2, hle, h3, h4, fun w' y hs hy => ⟨a, b, h1, h2, h3, hy, Spread.stay hQ h (fun k p q e => hs k (by omega) q e (Or.inr p))⟩⟩
  | x :: xs, lo, hi, w, ⟨a, b, h1, h2, h3, h4, h⟩, i + 1, hi' => by
    obtain ⟨c, d, k1, k2, k3, k4, k5, k6⟩ := Spread.at hQ h i (by simpa using hi')
    exact ⟨c, d, by omega, k2, k3, k4, k5, fun w' y hs hy => ⟨a, b, h1, h2, h3, hQ a b w w' x (fun k p q => hs k (by omega) (by omega) (fun e => by have := h3 k e; omega) (Or.inl (by omega))) h4,
      k6 w' y (fun k p q e r => hs k (by omega) q e r) hy⟩⟩
theorem Spread.imp {Q' : Nat → Nat → World → α → Prop} (h : ∀ a b w x, Q a b w x → Q' a b w x) : ∀ {xs : List α} {lo hi : Nat} {w : World}, Spread Q g lo hi w xs → Spread Q' g lo hi w xs
  | [], _, _, _, k => k
  | x :: xs, _, _, _, ⟨a, b, h1, h2, h3, h4, k⟩ => ⟨a, b, h1, h2, h3, h _ _ _ _ h4, Spread.imp h k⟩
end

/-! Cells in the middle of a row of the call's own. -/
def sets (xs : List Value) (o : Nat) : List Value → List Value
  | [] => xs
  | c :: r => sets (xs.set o c) (o + 1) r
theorem sets_len : ∀ (cs : List Value) (xs : List Value) (o : Nat), (sets xs o cs).length = xs.length
  | [], _, _ => rfl
  | c :: r, xs, o => by unfold sets; rw [sets_len r, List.length_set]
theorem sets_get : ∀ (cs : List Value) (xs : List Value) (o j : Nat), o + cs.length ≤ xs.length → (sets xs o cs)[j]? = if o ≤ j ∧ j < o + cs.length then cs[j - o]? else xs[j]?
  | [], xs, o, j, _ => by
    have : ¬ (o ≤ j ∧ j < o + ([] : List Value).length) := by simp only [List.length_nil]; omega
    rw [if_neg this]
    rfl
  | c :: r, xs, o, j, h => by
    simp only [List.length_cons] at h
    unfold sets
    rw [sets_get r (xs.set o c) (o + 1) j (by rw [List.length_set]; omega)]
    by_cases h1 : o + 1 ≤ j ∧ j < o + 1 + r.length
    · rw [if_pos h1, if_pos (by simp only [List.length_cons]; omega)]
      obtain ⟨m, rfl⟩ : ∃ m, j = o + 1 + m := ⟨j - (o + 1), by omega⟩
      rw [show o + 1 + m - o = m + 1 by omega, show o + 1 + m - (o + 1) = m by omega, List.getElem?_cons_succ]
    · rw [if_neg h1, List.getElem?_set]
      by_cases h2 : o = j
      · subst h2
        rw [if_pos rfl, if_pos (by omega), if_pos (by simp only [List.length_cons]; omega), Nat.sub_self]; rfl
      · rw [if_neg h2, if_neg (by simp only [List.length_cons]; omega)]
theorem flat_len {α : Type} (f : α → List Value) (m : Nat) (hf : ∀ x, (f x).length = m) (L : List α) : (L.flatMap f).length = L.length * m := by
  induction L with
  | nil => simp
  | cons x L ih => rw [List.flatMap_cons, List.length_append, ih, hf, List.length_cons, Nat.add_mul, Nat.one_mul, Nat.add_comm]
theorem sets_flat {α : Type} (f : α → List Value) (m : Nat) (hm : 0 < m) (hf : ∀ x, (f x).length = m) (L : List α) (i : Nat) (hi : i < L.length) (y : α) : sets (L.flatMap f) (i * m) (f y) = (L.set i y).flatMap f := by
  have hle : i * m + m ≤ L.length * m := by have := Nat.mul_le_mul_right m (Nat.succ_le_of_lt hi); rw [Nat.succ_mul] at this; exact this
  apply List.ext_getElem?
  intro j
  rw [sets_get _ _ _ _ (by rw [flat_len f m hf, hf]; exact hle), hf]
  by_cases hj : j < L.length * m
  · have hq : j / m < L.length := Nat.div_lt_of_lt_mul (by rw [Nat.mul_comm]; exact hj)
    have hr : j % m < m := Nat.mod_lt _ hm
    have e : j = j / m * m + j % m := by rw [Nat.mul_comm]; exact (Nat.div_add_mod j m).symm
    have e2 : ((L.set i y).flatMap f)[j]? = (f (if i = j / m then y else L[j / m]))[j % m]? := by
      have := flat_get f m hf (L.set i y) (j / m) (by simpa using hq) (j % m) hr
      rw [← e, List.getElem_set] at this; exact this
    have e3 : (L.flatMap f)[j]? = (f L[j / m])[j % m]? := by
      have := flat_get f m hf L (j / m) hq (j % m) hr
      rw [← e] at this; exact this
    rw [e2, e3]
    by_cases hij : i = j / m
    · rw [if_pos hij]
      have h1 : i * m ≤ j := by rw [hij, Nat.mul_comm]; exact Nat.mul_div_le j m
      have h2 : j < i * m + m := by rw [e, hij]; omega
      rw [if_pos ⟨h1, h2⟩]
      congr 1
      rw [hij]; omega
    · rw [if_neg hij, if_neg]
      rintro ⟨h1, h2⟩
      apply hij
      have h3 : i ≤ j / m := (Nat.le_div_iff_mul_le hm).2 h1
      have h4 : j / m < i + 1 := (Nat.div_lt_iff_lt_mul hm).2 (by rw [Nat.add_mul, Nat.one_mul]; exact h2)
      omega
  · rw [if_neg (by omega), List.getElem?_eq_none (by rw [flat_len f m hf]; omega), List.getElem?_eq_none (by rw [flat_len f m hf, List.length_set]; omega)]
theorem setCells_own {B e m g n cap : Nat} : ∀ (cs : List Value) (o : Nat) {w : World} {xs : List Value}, w.ownsRow B e m (.slice (some ⟨g, 0, none⟩) n cap) n xs →
    (w.setCells g o cs).ownsRow B e m (.slice (some ⟨g, 0, none⟩) n cap) n (sets xs o cs)
  | [], _, _, _, h => h
  | c :: r, o, w, xs, h => by
    unfold sets World.setCells
    exact setCells_own r (o + 1) (h.stored o c).1
theorem setCells_heap (g : Nat) : ∀ (cs : List Value) (o : Nat) (w : World) (k : Nat), k ≠ g → (w.setCells g o cs).heap[k]? = w.heap[k]?
  | [], _, _, _, _ => rfl
  | c :: r, o, w, k, h => by
    unfold World.setCells
    rw [setCells_heap g r (o + 1) _ k h]
    exact Below.heap_setCell w ⟨g, o, none⟩ c k h
theorem Past.setCells {B : Nat} {W : World} {g : Nat} (hg : B ≤ g) : ∀ (cs : List Value) (o : Nat) {w : World}, Past B W w → Past B W (w.setCells g o cs)
  | [], _, _, h => h
  | c :: r, o, w, h => by
    unfold World.setCells
    exact Past.setCells hg r (o + 1) (h.set (a := ⟨g, o, none⟩) hg c)
theorem setCells_size (g : Nat) : ∀ (cs : List Value) (o : Nat) (w : World), (w.setCells g o cs).heap.size = w.heap.size
  | [], _, _ => rfl
  | c :: r, o, w => by
    unfold World.setCells
    rw [setCells_size g r (o + 1)]
    simp [World.setCell]
/-- An element of a row of the call's own. -/
theorem own_range {α : Type} {f : α → List Value} {m : Nat} (hf : ∀ x, (f x).length = m) {B e g n cap : Nat} {w : World} {L : List α} (h : w.ownsRow B e m (.slice (some ⟨g, 0, none⟩) n cap) n (L.flatMap f)) (i : Nat) (hi : i < L.length) : w.rangeAt g (i * m) (f L[i]) := by
  intro j v hv
  have hj : j < m := by have := (List.getElem?_eq_some_iff.1 hv).1; rwa [hf] at this
  have hl : L.length * m = n * m := by rw [← flat_len f m hf]; exact h.1
  have hle : i * m + m ≤ L.length * m := by have := Nat.mul_le_mul_right m (Nat.succ_le_of_lt hi); rw [Nat.succ_mul] at this; exact this
  rw [h.cellAt (i * m + j) (by omega), flat_get f m hf L i hi j hj]
  exact hv
theorem own_there {α : Type} {f : α → List Value} {m : Nat} (hf : ∀ x, (f x).length = m) {B e g n cap : Nat} {w : World} {L : List α} (h : w.ownsRow B e m (.slice (some ⟨g, 0, none⟩) n cap) n (L.flatMap f)) (i : Nat) (hi : i < L.length) : w.there g (i * m) m := by
  intro j hj
  have h1 := own_range hf h i hi j _ (List.getElem?_eq_getElem (by rw [hf]; exact hj))
  exact ⟨by rw [h1]; rfl, h.frozenAt _⟩
end Go.Proofs.Ytpfeiolmkbibiaa
