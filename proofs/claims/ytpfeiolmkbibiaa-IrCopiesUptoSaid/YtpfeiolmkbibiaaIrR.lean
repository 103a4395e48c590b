/- The document's Def (package latheref02), of any function. -/
import Derived.Test.YtpfeiolmkbibiaaIrQ
namespace Go.Proofs.Ytpfeiolmkbibiaa
open Go.RowKit Go.Maps
set_option linter.unusedVariables false
set_option linter.unusedSimpArgs false

theorem takeF_mono (l : List (List Ins)) {a b : Nat} (h : a ≤ b) : ((l.take a).flatten).length ≤ ((l.take b).flatten).length := by
  have e : l.take b = l.take a ++ (l.take b).drop a := by
    have h1 : (l.take b).take a = l.take a := by rw [List.take_take, Nat.min_eq_left h]
    calc l.take b = (l.take b).take a ++ (l.take b).drop a := (List.take_append_drop _ _).symm
      _ = _ := by rw [h1]
  rw [e, List.flatten_append, List.length_append]
  omega
theorem ahead_len (l : List (List Ins)) (b k : Nat) (h : b < l.length) (hk : k ≤ l[b].length) : (ahead l b k).length = ((l.take b).flatten).length + k := by
  unfold ahead
  have e : l.getD b [] = l[b] := by simp [List.getD_eq_getElem?_getD, h]
  rw [e, List.length_append, List.length_take, Nat.min_eq_left hk]
theorem takeF_succ (l : List (List Ins)) (b : Nat) (h : b < l.length) : ((l.take (b + 1)).flatten).length = ((l.take b).flatten).length + l[b].length := by
  rw [List.take_succ_eq_append_getElem h, List.flatten_append, List.length_append]; simp
theorem before_lt {l : List (List Ins)} {b k b2 k2 : Nat} (h : b < l.length) (hk : k < l[b].length) (h2 : b2 < l.length) (hk2 : k2 < l[b2].length) (hb : before b2 k2 b k) : (ahead l b2 k2).length < (ahead l b k).length := by
  rw [ahead_len l b k h (Nat.le_of_lt hk), ahead_len l b2 k2 h2 (Nat.le_of_lt hk2)]
  rcases hb with hb | ⟨rfl, hb⟩
  · have h3 := takeF_mono l (show b2 + 1 ≤ b by omega)
    rw [takeF_succ l b2 h2] at h3
    omega
  · omega
theorem flatten_at {l : List (List Ins)} {b k : Nat} (h : b < l.length) (hk : k < l[b].length) : l.flatten[(ahead l b k).length]? = some l[b][k] := by
  obtain ⟨m, hm⟩ := ahead_split l b k h hk
  rw [hm, List.getElem?_append_right (Nat.le_refl _), Nat.sub_self]
  rfl
theorem place_of (l : List (List Ins)) : ∀ i, i < l.flatten.length → ∃ (b k : Nat) (h : b < l.length) (hk : k < l[b].length), (ahead l b k).length = i := by
  have key : ∀ b, b ≤ l.length → ∀ i, i < ((l.take b).flatten).length → ∃ (b k : Nat) (h : b < l.length) (hk : k < l[b].length), (ahead l b k).length = i := by
    intro b
    induction b with
    | zero => intro _ i hi; simp at hi
    | succ b ih =>
      intro hb i hi
      by_cases hi2 : i < ((l.take b).flatten).length
      · exact ih (by omega) i hi2
      · rw [takeF_succ l b hb] at hi
        exact ⟨b, i - ((l.take b).flatten).length, hb, by omega, by rw [ahead_len l b _ hb (by omega)]; omega⟩
  intro i hi
  exact key l.length (Nat.le_refl _) i (by rw [List.take_length]; exact hi)
theorem ahead_len0 (l : List (List Ins)) (b k : Nat) (h : b < l.length) (hk : k ≤ l[b].length) : (((List.range b).flatMap fun i => (List.range (l.getD i []).length).map fun k => (i, k)) ++ (List.range k).map fun k => (b, k)).length = (ahead l b k).length := by
  rw [ahead_len l b k h hk]
  have : ∀ b, b ≤ l.length → ((List.range b).flatMap fun i => (List.range (l.getD i []).length).map fun k => (i, k)).length = ((l.take b).flatten).length := by
    intro b
    induction b with
    | zero => intro _; simp
    | succ b ih =>
      intro hb
      rw [List.range_succ, List.flatMap_append, List.length_append, ih (by omega), takeF_succ l b hb]
      have hb2 : b < l.length := hb
      simp [List.getD_eq_getElem?_getD, hb2]
  rw [List.length_append, this b (by omega)]
  simp
theorem range_split {n b : Nat} (h : b < n) : List.range n = List.range b ++ ([b] ++ List.range' (b + 1) (n - b - 1)) := by
  have e : List.range' 0 b ++ List.range' (0 + b) (n - b) = List.range' 0 (b + (n - b)) := by
    first | exact List.range'_append_1 | (rw [List.range'_append_1]; congr 1; omega)
  obtain ⟨c, hc⟩ : ∃ c, n - b = c + 1 := ⟨n - b - 1, by omega⟩
  have h2 : b + (n - b) = n := by omega
  have h3 : n - b - 1 = c := by omega
  rw [h2, hc, List.range'_succ, Nat.zero_add] at e
  rw [List.range_eq_range', List.range_eq_range', h3]
  exact e.symm
theorem places_at {l : List (List Ins)} {b k : Nat} (h : b < l.length) (hk : k < l[b].length) : (places l)[(ahead l b k).length]? = some (b, k) := by
  have e1 := range_split h
  have e2 := range_split hk
  have e : l.getD b [] = l[b] := by simp [List.getD_eq_getElem?_getD, h]
  unfold places
  rw [e1, List.flatMap_append, List.flatMap_append, List.flatMap_singleton, e, e2, List.map_append, List.map_append, List.append_assoc, ← List.append_assoc, List.append_assoc, ← List.append_assoc, ← ahead_len0 l b k h (Nat.le_of_lt hk)]
  rw [List.getElem?_append_right (Nat.le_refl _), Nat.sub_self]
  rfl
/-- What is found ahead of an index of the flat list. -/
theorem defS_none {l : List (List Ins)} {r : Int} (h : ∀ i (hi : i < l.flatten.length), mk r l.flatten[i] = false) : DefS l r l.length 0 false 0 0 := by
  refine .inl ⟨rfl, rfl, rfl, fun b' k' _ hh => ?_⟩
  obtain ⟨c, d, e1, e2, e3⟩ := hh
  have hm : d ∈ l.flatten := List.mem_flatten.2 ⟨c, List.mem_of_getElem? e1, List.mem_of_getElem? e2⟩
  obtain ⟨i, hi, rfl⟩ := List.mem_iff_getElem.1 hm
  rw [h i hi] at e3
  cases e3
theorem defS_some {l : List (List Ins)} {r : Int} {i : Nat} (hi : i < l.flatten.length) (hm : mk r l.flatten[i] = true) (hn : ∀ j (hj : j < l.flatten.length), j < i → mk r l.flatten[j] = false) {y z : Nat} (hp : (places l)[i]? = some (y, z)) : DefS l r l.length 0 true y z := by
  obtain ⟨b, k, h, hk, rfl⟩ := place_of l i hi
  rw [places_at h hk] at hp
  obtain ⟨rfl, rfl⟩ : b = y ∧ k = z := by injection hp with hp; injection hp with h1 h2; exact ⟨h1, h2⟩
  have e0 := flatten_at h hk
  rw [List.getElem?_eq_getElem hi] at e0
  have e0 := Option.some.inj e0
  rw [e0] at hm
  refine .inr ⟨rfl, b, k, rfl, rfl, .inl h, ⟨l[b], l[b][k], List.getElem?_eq_getElem h, List.getElem?_eq_getElem hk, hm⟩, fun b2 k2 hb hh => ?_⟩
  obtain ⟨c, d, e1, e2, e3⟩ := hh
  obtain ⟨h2, rfl⟩ := List.getElem?_eq_some_iff.1 e1
  obtain ⟨hk2, rfl⟩ := List.getElem?_eq_some_iff.1 e2
  have hlt := before_lt h hk h2 hk2 hb
  have e4 := flatten_at h2 hk2
  rw [List.getElem?_eq_getElem (by omega)] at e4
  have e4 := Option.some.inj e4
  have := hn _ (by omega) hlt
  rw [e4, e3] at this
  cases this
theorem DefS.unique {l : List (List Ins)} {r : Int} {f f' : Bool} {y z y' z' : Int} (h : DefS l r l.length 0 f y z) (h' : DefS l r l.length 0 f' y' z') : f = f' ∧ y = y' ∧ z = z' := by
  rcases h with ⟨rfl, rfl, rfl, hn⟩ | ⟨rfl, b, k, rfl, rfl, hb, hh, hn⟩ <;> rcases h' with ⟨rfl, rfl, rfl, hn'⟩ | ⟨rfl, b', k', rfl, rfl, hb', hh', hn'⟩
  · exact ⟨rfl, rfl, rfl⟩
  · exact absurd hh' (hn _ _ hb')
  · exact absurd hh (hn' _ _ hb)
  · have h1 : ¬ before b k b' k' := fun h => hn' _ _ h hh
    have h2 : ¬ before b' k' b k := fun h => hn _ _ h hh'
    unfold before at h1 h2
    refine ⟨rfl, ?_, ?_⟩ <;> omega
end Go.Proofs.Ytpfeiolmkbibiaa
