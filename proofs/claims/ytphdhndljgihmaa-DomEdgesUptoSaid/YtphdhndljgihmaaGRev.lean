/- slices.Reverse of a row of one's own numbers. -/
import Derived.Test.YtphdhndljgihmaaGOrdB
namespace Go.Proofs.Ytphdhndljgihmaa
open Go.RowKit Go.Maps
set_option linter.unusedVariables false
set_option linter.unusedSimpArgs false

def revK (xs : List Int) (i : Nat) : List Int := (List.range xs.length).map fun k => xs.getD (if k < i ∨ xs.length - i ≤ k then xs.length - 1 - k else k) 0
theorem revK_len (xs : List Int) (i : Nat) : (revK xs i).length = xs.length := by simp [revK]
theorem revK_get (xs : List Int) (i k : Nat) (h : k < xs.length) : (revK xs i)[k]? = some (xs.getD (if k < i ∨ xs.length - i ≤ k then xs.length - 1 - k else k) 0) := by
  unfold revK
  rw [List.getElem?_map, List.getElem?_range h]; rfl
theorem revK_0 (xs : List Int) : revK xs 0 = xs := by
  apply List.ext_getElem?
  intro k
  by_cases h : k < xs.length
  · rw [revK_get xs 0 k h, if_neg (by omega), List.getD_eq_getElem?_getD, List.getElem?_eq_getElem h]; rfl
  · rw [List.getElem?_eq_none (by rw [revK_len]; omega), List.getElem?_eq_none (by omega)]
theorem revK_end (xs : List Int) (i : Nat) (h : xs.length ≤ 2 * i + 1) (hi : i ≤ xs.length) : revK xs i = xs.reverse := by
  apply List.ext_getElem?
  intro k
  by_cases hk : k < xs.length
  · rw [revK_get xs i k hk, List.getElem?_reverse hk, List.getD_eq_getElem?_getD]
    have e : (if k < i ∨ xs.length - i ≤ k then xs.length - 1 - k else k) = xs.length - 1 - k := by split <;> omega
    rw [e, List.getElem?_eq_getElem (by omega : xs.length - 1 - k < xs.length)]; rfl
  · rw [List.getElem?_eq_none (by rw [revK_len]; omega), List.getElem?_eq_none (by rw [List.length_reverse]; omega)]
theorem revK_step (xs : List Int) (i j : Nat) (h : i < j) (hj : j + i + 1 = xs.length) (a b : Int) (ha : (revK xs i)[i]? = some a) (hb : (revK xs i)[j]? = some b) : ((revK xs i).set i b).set j a = revK xs (i + 1) := by
  rw [revK_get xs i i (by omega)] at ha
  rw [revK_get xs i j (by omega)] at hb
  rw [if_neg (by omega)] at ha hb
  apply List.ext_getElem?
  intro k
  by_cases hk : k < xs.length
  · rw [revK_get xs (i + 1) k hk, List.getElem?_set, List.getElem?_set]
    simp only [List.length_set, revK_len]
    by_cases e1 : j = k
    · subst e1
      rw [if_pos rfl, if_pos hk, ← ha, if_pos (by omega)]
      congr 2; omega
    · rw [if_neg e1]
      by_cases e2 : i = k
      · subst e2
        rw [if_pos rfl, if_pos hk, ← hb, if_pos (by omega)]
        congr 2; omega
      · rw [if_neg e2, revK_get xs i k hk]
        have : (k < i ∨ xs.length - i ≤ k) ↔ (k < i + 1 ∨ xs.length - (i + 1) ≤ k) := by omega
        simp only [this]
  · rw [List.getElem?_eq_none (by simp [revK_len]; omega), List.getElem?_eq_none (by rw [revK_len]; omega)]
theorem map_set_int (l : List Int) (i : Nat) (a : Int) : (l.map (Value.int .i64)).set i (.int .i64 a) = (l.set i a).map (Value.int .i64) := by rw [List.map_set]
set_option maxRecDepth 100000 in
set_option maxHeartbeats 1000000 in
theorem Reverse_own (B : Nat) (p : Option Addr) (c : Nat) (L : List Int) (W : World) (h : W.ownsRow B 3 1 (.slice p L.length c) L.length (L.flatMap intC)) (hl : L.length ≤ 1048576) :
    Calls Try.prog 41 #[.slice p L.length c] W fun e w' => e = .returned (.tuple #[]) ∧ w'.ownsRow B 3 1 (.slice p L.length c) L.length (L.reverse.flatMap intC) ∧ W.grownBy w' (Value.slice p L.length c).ownBlock := by
  go_enter Try.func41, Try.ntmps41
  by_cases h0 : L.length = 0
  · have hL : L = [] := List.eq_nil_of_length_eq_zero h0
    subst hL
    have H := Lib.hid h
    clear h
    go_wp2_with fail
    refine wp_loop_rounds 1 ?_
    rw [rounds_succ]
    go_wp2_with fail
    go_end0
    exact ⟨rfl, H.out, World.grownBy.refl _ _⟩
  · obtain ⟨g, cap, e⟩ : ∃ g cap, Value.slice p L.length c = .slice (some ⟨g, 0, none⟩) L.length cap := by
      rcases h.2 with ⟨_, h1⟩ | ⟨g, cap, _, hv, _⟩
      · omega
      · exact ⟨g, cap, hv⟩
    injection e with e1 e2 e3
    subst e1 e3
    have hc1 : L.length ≤ c ∧ c ≤ maxLen := by
      rcases h.2 with ⟨e, _⟩ | ⟨g', cap', cur, e, _, _, k1, k2, _⟩
      · cases e
      · injection e with _ _ e3; subst e3; exact ⟨k1, k2⟩
    obtain ⟨hc1, hc2⟩ := hc1
    unfold maxLen at hc2
    rw [intC_map] at h
    have H := Lib.hid h
    clear h
    go_wp2_with fail
    go_loopw [2, 3] (fun s t wr => ∃ i j : Nat, s = .int .i64 i ∧ t = .int .i64 j ∧ j + i + 1 = L.length ∧ wr.ownsRow B 3 1 (.slice (some ⟨g, 0, none⟩) L.length c) L.length ((revK L i).map (Value.int .i64)) ∧ W.grownBy wr (some g)) (fun s t _ => (intOf t).toNat)
    case atStart => exact ⟨0, L.length - 1, rfl, by go_num, by omega, by rw [revK_0]; exact H.out, World.grownBy.refl _ _⟩
    case round =>
      obtain ⟨i, j, rfl, rfl, hij, hR, hG⟩ := hrel
      by_cases hlt : i < j
      · obtain ⟨a, ha⟩ : ∃ a, (revK L i)[i]? = some a := ⟨_, revK_get L i i (by omega)⟩
        obtain ⟨b, hb⟩ : ∃ b, (revK L i)[j]? = some b := ⟨_, revK_get L i j (by omega)⟩
        have x0 : wr.cell? ⟨g, i, none⟩ = some (.int .i64 a) := by rw [hR.cellAt i (by omega), List.getElem?_map, ha]; rfl
        have x1 : wr.cell? ⟨g, j, none⟩ = some (.int .i64 b) := by rw [hR.cellAt j (by omega), List.getElem?_map, hb]; rfl
        have x2 := hR.frozenAt i
        have x3 := hR.frozenAt j
        have s1 := hR.stored i (.int .i64 b)
        have s2 := s1.1.stored j (.int .i64 a)
        rw [map_set_int, map_set_int, revK_step L i j hlt hij a b ha hb] at s2
        have HS := Lib.hid (And.intro s2.1 ((hG.trans s1.2).trans s2.2))
        have hne : ¬ i = j := by omega
        have hne2 : ¬ j = i := by omega
        clear s1 s2 hR hG ha hb
        go_wp2_with fail
        go_region
        all_goals go_wp2_with fail
        all_goals exact ⟨⟨i + 1, j - 1, by go_num, by go_num, by omega, HS.out.1.drew, grown_drew HS.out.2⟩, by simp [intOf]; omega⟩
      · have HR := Lib.hid (And.intro hR hG)
        clear hR hG
        go_wp2_with fail
        go_end0
        have e := revK_end L i (by omega) (by omega)
        exact ⟨rfl, by rw [intC_map, ← e]; exact HR.out.1, HR.out.2⟩
end Go.Proofs.Ytphdhndljgihmaa
