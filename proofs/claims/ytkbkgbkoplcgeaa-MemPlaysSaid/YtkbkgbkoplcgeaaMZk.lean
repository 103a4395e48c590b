/- The document's memory: Free, what is turned. -/
import Derived.Test.YtkbkgbkoplcgeaaMZj
namespace Go.Proofs.Ytkbkgbkoplcgeaa
open Go.RowKit Go.Maps
set_option linter.unusedVariables false
set_option linter.unusedSimpArgs false

theorem bBl0 (w : World) : (Instr.build 85 #[]).run Try.prog w = .ok (.agg #[.bool false, .slice none 0 0]) w := run_build _ _ _ _ (by kernel_rfl)
/-- The block that is free. -/
theorem RmOwn.clear {a b : Nat} {w : World} {q : Option Addr} {d : Nat} {ys : List Rk} (h : RmOwn a b w q d ys) (i : Nat) (hi : i < ys.length) :
    ∃ g, q = some ⟨g, 0, none⟩ ∧ a ≤ g ∧ g < b ∧ w.cell? ⟨g, i * 2, none⟩ = some (.bool ys[i].a) ∧ w.cell? ⟨g, i * 2 + 1, none⟩ = some (.slice ys[i].p ys[i].l.length ys[i].c) ∧ (∀ j, w.frozen? ⟨g, j, none⟩ = false) ∧
      RmOwn a b (w.setCells g (i * 2) (rkC ⟨false, none, 0, []⟩)) q d (ys.set i ⟨false, none, 0, []⟩) := by
  obtain ⟨g, eg⟩ := ListOwn.some_row h (by omega)
  subst eg
  obtain ⟨h1, h2, h3⟩ := ListOwn.put local_Rk (by decide) rkC_len h i hi ⟨false, none, 0, []⟩ (fun a' b' w' _ => ⟨World.ownsRow_nil _ _ _ _, fun g hg => by simp [Value.ownBlock] at hg⟩)
  have hr := own_range rkC_len h.2.1 i hi
  refine ⟨g, rfl, h2, h3, hr 0 _ rfl, hr 1 _ rfl, fun j => h.2.1.frozenAt _, ?_⟩
  unfold RmOwn
  rw [List.length_set]
  exact h1
/-- The first j lists, turned. -/
def frS (k : Int) (j : Nat) (S : List (Bool × List By)) : List (Bool × List By) := (S.take j).map (fun x => (x.1, x.2.map (lostTo k))) ++ S.drop j
def frL (k : Int) (m : Nat) (l : List By) : List By := (l.take m).map (lostTo k) ++ l.drop m
theorem frL_len (k : Int) (m : Nat) (l : List By) : (frL k m l).length = l.length := by unfold frL; simp; omega
theorem frL_at (k : Int) (m : Nat) (l : List By) (j : Nat) : (frL k m l)[j]? = if j < m then l[j]?.map (lostTo k) else l[j]? := by
  unfold frL
  by_cases h : j < m
  · rw [if_pos h]
    by_cases h2 : j < l.length
    · rw [List.getElem?_append_left (by simp; omega), List.getElem?_map, List.getElem?_take, if_pos h]
    · rw [List.getElem?_eq_none (by simp; omega), List.getElem?_eq_none (by omega)]; rfl
  · rw [if_neg h]
    by_cases h2 : m ≤ l.length
    · rw [List.getElem?_append_right (by simp; omega), List.getElem?_drop]
      congr 1
      simp; omega
    · rw [List.getElem?_eq_none (by simp; omega), List.getElem?_eq_none (by omega)]
theorem frL_step (k : Int) (m : Nat) (l : List By) (hm : m < l.length) : (frL k m l).set m (lostTo k l[m]) = frL k (m + 1) l := List.ext_getElem? fun j => by
  rw [List.getElem?_set, frL_at, frL_at, frL_len]
  by_cases e : m = j
  · subst e
    rw [if_pos rfl, if_pos hm, if_pos (by omega), List.getElem?_eq_getElem hm]; rfl
  · rw [if_neg e]
    by_cases h : j < m
    · rw [if_pos h, if_pos (by omega)]
    · rw [if_neg h, if_neg (by omega)]
theorem frL_all (k : Int) (l : List By) : frL k l.length l = l.map (lostTo k) := by unfold frL; simp
theorem frL_zero (k : Int) (l : List By) : frL k 0 l = l := by unfold frL; simp
theorem frS_len (k : Int) (j : Nat) (S : List (Bool × List By)) : (frS k j S).length = S.length := by unfold frS; simp; omega
theorem frS_at (k : Int) (m : Nat) (S : List (Bool × List By)) (j : Nat) : (frS k m S)[j]? = if j < m then S[j]?.map (fun x => (x.1, x.2.map (lostTo k))) else S[j]? := by
  unfold frS
  by_cases h : j < m
  · rw [if_pos h]
    by_cases h2 : j < S.length
    · rw [List.getElem?_append_left (by simp; omega), List.getElem?_map, List.getElem?_take, if_pos h]
    · rw [List.getElem?_eq_none (by simp; omega), List.getElem?_eq_none (by omega)]; rfl
  · rw [if_neg h]
    by_cases h2 : m ≤ S.length
    · rw [List.getElem?_append_right (by simp; omega), List.getElem?_drop]
      congr 1
      simp; omega
    · rw [List.getElem?_eq_none (by simp; omega), List.getElem?_eq_none (by omega)]
theorem frS_step (k : Int) (j : Nat) (S : List (Bool × List By)) (hj : j < S.length) : (frS k j S).set j (S[j].1, S[j].2.map (lostTo k)) = frS k (j + 1) S := List.ext_getElem? fun i => by
  rw [List.getElem?_set, frS_at, frS_at, frS_len]
  by_cases e : j = i
  · subst e
    rw [if_pos rfl, if_pos hj, if_pos (by omega), List.getElem?_eq_getElem hj]; rfl
  · rw [if_neg e]
    by_cases h : i < j
    · rw [if_pos h, if_pos (by omega)]
    · rw [if_neg h, if_neg (by omega)]
theorem frS_zero (k : Int) (S : List (Bool × List By)) : frS k 0 S = S := by unfold frS; simp
theorem frS_all (k : Int) (S : List (Bool × List By)) : frS k S.length S = S.map (fun x => (x.1, x.2.map (lostTo k))) := by unfold frS; simp
def sD (x : Bool × List By) : Option (List By) := if x.1 then some x.2 else none
theorem sD_rk (xs : List Rk) : xs.map rkD = (xs.map rkS).map sD := by rw [List.map_map]; rfl
/-- Free, of the lists. -/
theorem free_shows {xs : List Rk} {D : Dm} (hD : D = xs.map rkD) (i : Nat) (hi : i < xs.length) (ha : xs[i].a = true) :
    (((xs.map rkS).set i (false, [])).map (fun x => (x.1, x.2.map (lostTo (i : Int))))).map sD = dFree D (i : Int) := by
  have hat : atD D (i : Int) = some xs[i].l := by
    unfold atD
    rw [if_pos (by omega), hD, List.getD_eq_getElem?_getD, List.getElem?_map, show ((i : Int)).toNat = i by omega, List.getElem?_eq_getElem hi]
    show (some (rkD xs[i])).getD none = _
    unfold rkD
    rw [ha]
    rfl
  unfold dFree
  rw [hat]
  simp only [Int.toNat_natCast]
  rw [hD, sD_rk, List.map_map, List.map_set, List.map_set]
  rw [List.map_map]
  congr 1
  rw [List.map_map, List.map_map]
  refine List.map_congr_left fun x _ => ?_
  show sD ((rkS x).1, (rkS x).2.map (lostTo (i : Int))) = Option.map (List.map (lostTo (i : Int))) (sD (rkS x))
  obtain ⟨b, l⟩ := rkS x
  cases b <;> rfl
end Go.Proofs.Ytkbkgbkoplcgeaa
