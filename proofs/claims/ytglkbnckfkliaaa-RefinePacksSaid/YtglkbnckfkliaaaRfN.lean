/- RefinePacks: what is packed and unpacked of better values, better bytes (plain). -/
import Derived.Test.YtglkbnckfkliaaaRfM
namespace Go.Proofs.Ytglkbnckfkliaaa
open Go.RowKit Go.Maps
set_option linter.unusedVariables false
set_option linter.unusedSimpArgs false
set_option maxRecDepth 100000

theorem norm_kind (t : Int) (v : Vl) : (norm t v).k = 0 ∨ ((norm t v).k = 1 ∧ isW t = true) ∨ ((norm t v).k = 2 ∧ t = 65) ∨ (norm t v).k = 3 := by
  unfold norm
  split
  · rename_i h; exact .inr (.inl ⟨rfl, h.2⟩)
  · split
    · rename_i h; exact .inr (.inr (.inl ⟨rfl, h.2⟩))
    · split
      · exact .inr (.inr (.inr rfl))
      · exact .inl rfl
theorem isW65 : isW 65 = false := by decide
theorem packAt_mono {t : Int} {v w : Vl} (h : refV (norm t v) (norm t w) = true) (i : Nat) : refY (packAt t (norm t v) i) (packAt t (norm t w) i) = true := by
  have kx := norm_kind t v
  have ky := norm_kind t w
  generalize norm t v = x at h kx
  generalize norm t w = y at h ky
  unfold refV at h
  by_cases x0 : x.k = 0
  · have e : packAt t x i = q0 := by unfold packAt; rw [if_neg (by omega), if_neg (by omega), if_neg (fun h => by omega)]
    rw [e]
    rfl
  · rw [if_neg x0] at h
    by_cases x3 : x.k = 3
    · rw [if_pos x3] at h
      have y0 : y.k ≠ 0 := by simpa using h
      cases hw : isW t
      · have e : packAt t x i = q0 := by unfold packAt; rw [if_neg (by omega), if_neg (by omega), if_neg (fun h => by rw [hw] at h; cases h.2)]
        rw [e]
        rfl
      · have e : packAt t x i = ⟨3, 0, 0, 0, 0⟩ := by unfold packAt; rw [if_neg (by omega), if_neg (by omega), if_pos ⟨x3, hw⟩]
        rw [e]
        rcases ky with k | k | k | k
        · exact absurd k y0
        · have e2 : packAt t y i = ⟨1, y.b / pw (8 * i) % 256, 0, 0, 0⟩ := by unfold packAt; rw [if_pos k.1]
          rw [e2]; rfl
        · rw [k.2, isW65] at hw; cases hw
        · have e2 : packAt t y i = ⟨3, 0, 0, 0, 0⟩ := by unfold packAt; rw [if_neg (by omega), if_neg (by omega), if_pos ⟨k, hw⟩]
          rw [e2]; rfl
    · rw [if_neg x3] at h
      have := sameV_iff.1 h
      subst this
      exact refY_self _
theorem pack_at (t : Int) (v : Vl) (i : Nat) (h : i < (pack t v).length) : (pack t v)[i] = packAt t (norm t v) i := by
  have hw : i < wd t := by rw [pack_len] at h; exact h
  have e : (pack t v)[i]? = some (packAt t (norm t v) i) := by unfold pack; rw [List.getElem?_map, List.getElem?_range hw]; rfl
  rw [List.getElem?_eq_getElem h] at e
  exact Option.some.inj e
theorem pack_mono {t : Int} {v w : Vl} (h : refV (norm t v) (norm t w) = true) (i : Nat) (h1 : i < (pack t v).length) (h2 : i < (pack t w).length) : refY (pack t v)[i] (pack t w)[i] = true := by
  rw [pack_at, pack_at]
  exact packAt_mono h i
/-- Where both rows are as long, and each byte is refined. -/
theorem unpack_mono {t : Int} {l m : List By} (hl : l.length = m.length) (h : ∀ i (h1 : i < l.length) (h2 : i < m.length), refY l[i] m[i] = true) : refV (unpack t l) (unpack t m) = true := by
  have hp : ∀ y : Vl, refV p0 y = true := fun y => rfl
  have hsame : ∀ i (h1 : i < l.length) (h2 : i < m.length), l[i].k ≠ 0 → l[i].k ≠ 3 → l[i] = m[i] := fun i h1 h2 k0 k3 => by
    have := h i h1 h2
    unfold refY at this
    rw [if_neg k0, if_neg k3] at this
    exact sameY_iff.1 this
  unfold unpack
  by_cases c0 : l.length = 0 ∨ l.length ≠ wd t
  · rw [if_pos c0]; exact hp _
  · rw [if_neg c0, if_neg (show ¬ (m.length = 0 ∨ m.length ≠ wd t) by rw [← hl]; exact c0)]
    by_cases ht : t = 65
    · rw [if_pos ht, if_pos ht]
      by_cases ha : AdOk l (l.headD q0).bk (l.headD q0).o l.length
      · have e : l = m := by
          refine List.ext_getElem hl fun i h1 h2 => ?_
          obtain ⟨y, ey, k2, _⟩ := ha i h1
          rw [List.getElem?_eq_getElem h1] at ey
          obtain rfl := Option.some.inj ey
          exact hsame i h1 h2 (by omega) (by omega)
        rw [← e]
        exact refV_self _
      · rw [if_neg ha]; exact hp _
    · rw [if_neg ht, if_neg ht]
      by_cases c1 : ∃ y ∈ l, y.k ≠ 1 ∧ y.k ≠ 3
      · rw [if_pos c1]; exact hp _
      · rw [if_neg c1]
        have hk : ∀ i (h1 : i < l.length), l[i].k = 1 ∨ l[i].k = 3 := fun i h1 => by
          by_cases a : l[i].k = 1
          · exact .inl a
          · by_cases b : l[i].k = 3
            · exact .inr b
            · exact absurd ⟨_, List.getElem_mem h1, a, b⟩ c1
        have c2 : ¬ ∃ y ∈ m, y.k ≠ 1 ∧ y.k ≠ 3 := by
          rintro ⟨y, hy, n1, n3⟩
          obtain ⟨i, h2, rfl⟩ := List.getElem_of_mem hy
          have h1 : i < l.length := by omega
          rcases hk i h1 with q | q
          · have := hsame i h1 h2 (by omega) (by omega)
            rw [this] at q
            exact n1 q
          · have := h i h1 h2
            unfold refY at this
            rw [if_neg (by omega), if_pos q] at this
            have : m[i].k = 3 ∨ m[i].k = 1 := by simpa using this
            omega
        rw [if_neg c2]
        by_cases c3 : ∃ y ∈ l, y.k = 3
        · rw [if_pos c3]
          split <;> rfl
        · have e : l = m := by
            refine List.ext_getElem hl fun i h1 h2 => ?_
            rcases hk i h1 with q | q
            · exact hsame i h1 h2 (by omega) (by omega)
            · exact absurd ⟨_, List.getElem_mem h1, q⟩ c3
          rw [← e]
          exact refV_self _
/-- Better bytes in the place of the first i. -/
def betR (a b : List By) (i : Nat) : List By := (a.zip b).mapIdx fun j p => if j < i ∧ refY p.1 p.2 = true then p.2 else p.1
theorem betR_len {a b : List By} (h : b.length = a.length) (i : Nat) : (betR a b i).length = a.length := by unfold betR; simp [h]
theorem betR_at {a b : List By} (h : b.length = a.length) (i j : Nat) (hj : j < (betR a b i).length) : (betR a b i)[j] = if j < i ∧ refY (a[j]'(by rw [betR_len h] at hj; exact hj)) (b[j]'(by rw [betR_len h] at hj; omega)) = true then b[j]'(by rw [betR_len h] at hj; omega) else a[j]'(by rw [betR_len h] at hj; exact hj) := by
  have h1 : j < a.length := by rw [betR_len h] at hj; exact hj
  have h2 : j < b.length := by omega
  have e : (betR a b i)[j]? = some (if j < i ∧ refY a[j] b[j] = true then b[j] else a[j]) := by
    unfold betR
    rw [List.getElem?_mapIdx, List.getElem?_eq_getElem (by rw [List.length_zip]; omega), List.getElem_zip]
    rfl
  rw [List.getElem?_eq_getElem hj] at e
  exact Option.some.inj e
theorem betR_0 {a b : List By} (h : b.length = a.length) : betR a b 0 = a := List.ext_getElem (betR_len h 0) fun j h1 h2 => by rw [betR_at h, if_neg (fun x => absurd x.1 (Nat.not_lt_zero _))]
theorem betR_yes {a b : List By} (h : b.length = a.length) (i : Nat) (hi : i < a.length) (hr : refY a[i] (b[i]'(by omega)) = true) : (betR a b i).set i (b[i]'(by omega)) = betR a b (i + 1) :=
  List.ext_getElem (by simp [betR_len h]) fun j h1 h2 => by
    rw [List.getElem_set, betR_at h, betR_at h]
    by_cases e : i = j
    · subst e; rw [if_pos rfl, if_pos ⟨Nat.lt_succ_self _, hr⟩]
    · rw [if_neg e]
      by_cases c : j < i
      · simp [c, show j < i + 1 by omega]
      · simp [c, show ¬ j < i + 1 by omega]
theorem betR_no {a b : List By} (h : b.length = a.length) (i : Nat) (hi : i < a.length) (hr : refY a[i] (b[i]'(by omega)) = false) : betR a b i = betR a b (i + 1) :=
  List.ext_getElem (by simp [betR_len h]) fun j h1 h2 => by
    rw [betR_at h, betR_at h]
    by_cases e : i = j
    · subst e; simp [hr]
    · by_cases c : j < i
      · simp [c, show j < i + 1 by omega]
      · simp [c, show ¬ j < i + 1 by omega]
theorem betR_ref {a b : List By} (h : b.length = a.length) (i j : Nat) (h1 : j < a.length) (h2 : j < (betR a b i).length) : refY a[j] (betR a b i)[j] = true := by
  rw [betR_at h]
  split
  · rename_i c; exact c.2
  · exact refY_self _
theorem betR_ok {a b : List By} (h : b.length = a.length) (i : Nat) (ha : ∀ y ∈ a, y.ok) (hb : ∀ y ∈ b, y.ok) : ∀ y ∈ betR a b i, y.ok := fun y hy => by
  obtain ⟨j, hj, rfl⟩ := List.getElem_of_mem hy
  rw [betR_at h]
  split
  · exact hb _ (List.getElem_mem _)
  · exact ha _ (List.getElem_mem _)
end Go.Proofs.Ytglkbnckfkliaaa
