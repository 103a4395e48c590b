/- The laws' lives of layer 3; rows of pieces read. -/
import Derived.Test.YtombkcdoeiffiaaDoorLexE
import Derived.Deep.AppendLies
namespace Go.Proofs.YtombkcdoeiffiaaDoor
open Go.RowKit Go.Maps
set_option linter.unusedVariables false
set_option linter.unusedSimpArgs false

theorem flat_at (ts : List Tok) (i j : Nat) (hi : i < ts.length) (hj : j < 4) : (ts.flatMap tokC)[i * 4 + j]? = (tokC ts[i])[j]? := by
  induction ts generalizing i with
  | nil => simp at hi
  | cons t r ih =>
    rw [List.flatMap_cons]
    cases i with
    | zero =>
      rw [List.getElem?_append_left (by simp [tokC]; omega)]
      simp
    | succ i =>
      rw [List.getElem?_append_right (by simp [tokC]; omega)]
      have e : (i + 1) * 4 + j - (tokC t).length = i * 4 + j := by simp [tokC]; omega
      rw [e, ih i (by simpa using hi)]
      simp
/-- The row of an answer, at its elements. -/
theorem row_at {w : World} {B g cap : Nat} {ts : List Tok} (h : w.ownsRow B 33 4 (.slice (some ⟨g, 0, none⟩) ts.length cap) ts.length (ts.flatMap tokC)) (i : Nat) (hi : i < ts.length) :
    w.cell? ⟨g, i * 4, none⟩ = some (.int .i64 ts[i].kind) ∧ w.cell? ⟨g, i * 4 + 1, none⟩ = some (.string (str ts[i].body)) ∧ w.cell? ⟨g, i * 4 + 2, none⟩ = some (.int .i64 ts[i].line) ∧ w.cell? ⟨g, i * 4 + 3, none⟩ = some (.int .i64 ts[i].col) := by
  refine ⟨?_, ?_, ?_, ?_⟩
  · have := h.cellAt (i * 4) (by omega); rw [this]; exact flat_at ts i 0 hi (by omega)
  · have := h.cellAt (i * 4 + 1) (by omega); rw [this]; exact flat_at ts i 1 hi (by omega)
  · have := h.cellAt (i * 4 + 2) (by omega); rw [this]; exact flat_at ts i 2 hi (by omega)
  · have := h.cellAt (i * 4 + 3) (by omega); rw [this]; exact flat_at ts i 3 hi (by omega)

theorem lives1 : Toks [97, 35, 98, 10, 64, 120] [⟨1, [97], 1, 1⟩, ⟨6, [], 1, 4⟩, ⟨4, [120], 2, 1⟩] none :=
  .inr ⟨by decide, _, Lexed.step (k := 1) (b := [97]) (s := 1) rfl rfl (Lexed.step (k := 6) (b := []) (s := 1) rfl rfl (Lexed.step (k := 4) (b := [120]) (s := 2) rfl rfl (.done rfl))), rfl⟩
theorem lives2 : Toks [97, 45, 98] [] (some ⟨1, 1, 2⟩) :=
  .inr ⟨by decide, _, Lexed.step (k := 1) (b := [97]) (s := 1) rfl rfl (Lexed.bad (e := 1) rfl rfl), rfl⟩

/-- Three pieces. -/
theorem tok_one (W : World) (hE : Errs W) : Calls Tryd.prog 9 #[.string ⟨#[97, 35, 98, 10, 64, 120]⟩] W fun e w' => ∃ g cap, e = .returned (.tuple #[.slice (some ⟨g, 0, none⟩) 3 cap, .agg #[.int .i64 0, .int .i64 0, .int .i64 0]]) ∧ Below W.heap.size W w' ∧ g < w'.heap.size ∧
    w'.cell? ⟨g, 4, none⟩ = some (.int .i64 6) ∧ w'.cell? ⟨g, 5, none⟩ = some (.string ⟨#[]⟩) ∧ w'.cell? ⟨g, 6, none⟩ = some (.int .i64 1) ∧ w'.cell? ⟨g, 7, none⟩ = some (.int .i64 4) ∧
    w'.cell? ⟨g, 8, none⟩ = some (.int .i64 4) ∧ w'.cell? ⟨g, 9, none⟩ = some (.string ⟨#[120]⟩) ∧ w'.cell? ⟨g, 10, none⟩ = some (.int .i64 2) ∧ w'.cell? ⟨g, 11, none⟩ = some (.int .i64 1) := by
  refine (Tokens_any ⟨#[97, 35, 98, 10, 64, 120]⟩ (by decide) W hE).mono ?_
  rintro e w' ⟨ts, f, v, ht, rfl, hb, hr⟩
  obtain ⟨rfl, rfl⟩ := ht.unique lives1
  obtain ⟨g, cap, rfl, hg1, hg2⟩ := hr.form (by decide)
  have r1 := row_at hr 1 (by decide)
  have r2 := row_at hr 2 (by decide)
  exact ⟨g, cap, rfl, hb, hg2, r1.1, r1.2.1, r1.2.2.1, r1.2.2.2, r2.1, r2.2.1, r2.2.2.1, r2.2.2.2⟩
theorem tok_two (W : World) (hE : Errs W) : Calls Tryd.prog 9 #[.string ⟨#[97, 45, 98]⟩] W fun e w' => ∃ v, e = .returned (.tuple #[v, .agg #[.int .i64 1, .int .i64 1, .int .i64 2]]) ∧ Below W.heap.size W w' := by
  refine (Tokens_any ⟨#[97, 45, 98]⟩ (by decide) W hE).mono ?_
  rintro e w' ⟨ts, f, v, ht, rfl, hb, hr⟩
  obtain ⟨rfl, rfl⟩ := ht.unique lives2
  exact ⟨v, rfl, hb⟩

set_option maxHeartbeats 2000000 in
theorem lives_any (W : World) (hE : Errs W) : Calls Tryd.prog 8 #[] W fun e w' => e = .returned (.bool true) ∧ Below W.heap.size W w' := by
  have hP := Past.refl (Nat.le_refl W.heap.size)
  have c1 := tok_one W hE
  go_enter Tryd.func8, Tryd.ntmps8
  go_wp2_with ((with_reducible refine c1.mono ?_); rintro e w1 ⟨g, cap, rfl, hb1, hg, x4, x5, x6, x7, x8, x9, x10, x11⟩)
  refine (tok_two _ (hE.below (((Past.refl (Nat.le_refl _)).on hb1).alloc _).2 (Nat.le_refl _))).mono ?_
  rintro e w2 ⟨v, rfl, hb2⟩
  have hg2 : g < (w1.alloc (.cells #[.int .i64 0, .int .i64 0, .int .i64 0] 26)).heap.size := by simp; omega
  obtain ⟨z0, d0, d1, d2, _⟩ := (Three.new w1 (.int .i64 0) (.int .i64 0) (.int .i64 0) 26).below hb2 (by simp)
  have k := fun (j : Nat) (v : Value) (h : w1.cell? ⟨g, j, none⟩ = some v) => (hb2.cell (p := ⟨g, j, none⟩) hg2).trans ((((Below.refl w1.heap.size w1).alloc (Nat.le_refl _) (.cells #[.int .i64 0, .int .i64 0, .int .i64 0] 26)).cell (p := ⟨g, j, none⟩) hg).trans h)
  have k4 := k _ _ x4
  have k5 := k _ _ x5
  have k6 := k _ _ x6
  have k7 := k _ _ x7
  have k8 := k _ _ x8
  have k9 := k _ _ x9
  have k10 := k _ _ x10
  have k11 := k _ _ x11
  clear k
  have hg3 : g < w2.heap.size := Nat.lt_of_lt_of_le hg2 hb2.size
  go_wp2_with fail
  go_ret
  exact ⟨rfl, ((((hP.on hb1).alloc _).on hb2).alloc _).2⟩
end Go.Proofs.YtombkcdoeiffiaaDoor
