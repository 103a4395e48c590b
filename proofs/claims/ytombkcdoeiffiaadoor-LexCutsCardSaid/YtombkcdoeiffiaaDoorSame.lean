/- The laws' same of layer 3: of two rows of the same pieces it answers true. -/
import Derived.Test.YtombkcdoeiffiaaDoorLexF
import Derived.Test.YtombkcdoeiffiaaDoorLexN
import Derived.Deep.QuietTactic
import Derived.BigQuiet
namespace Go.Proofs.YtombkcdoeiffiaaDoor
open Go.RowKit Go.Maps
set_option linter.unusedVariables false
set_option linter.unusedSimpArgs false

theorem Past.drewN {B : Nat} {W w : World} (h : Past B W w) (n : Nat) : Past B W (w.drewN n) := ⟨h.1, ⟨h.2.os, h.2.tape, h.2.output, h.2.size, h.2.block⟩⟩
theorem row_shape {w : World} {B e s n : Nat} {v : Value} {xs : List Value} (h : w.ownsRow B e s v n xs) : ∃ (p : Option Addr) (cap : Nat), v = .slice p n cap := by
  rcases h.2 with ⟨rfl, rfl⟩ | ⟨g, cap, cur, rfl, _⟩
  · exact ⟨none, 0, rfl⟩
  · exact ⟨_, cap, rfl⟩

set_option maxHeartbeats 4000000 in
theorem same_eq (W : World) (v v' : Value) (B B' : Nat) (ts : List Tok) (h : W.ownsRow B 33 4 v ts.length (ts.flatMap tokC)) (h' : W.ownsRow B' 33 4 v' ts.length (ts.flatMap tokC)) (hn : ts.length < 9223372036854775807) :
    Calls Tryd.prog 11 #[v, v'] W fun e w' => e = .returned (.bool true) ∧ Below W.heap.size W w' := by
  have H1 := Lib.hid h
  have H2 := Lib.hid h'
  obtain ⟨p, cap, rfl⟩ := row_shape h
  obtain ⟨p', cap', rfl⟩ := row_shape h'
  obtain ⟨n, en⟩ : ∃ n, n = ts.length := ⟨_, rfl⟩
  rw [← en] at hn ⊢
  have EN := Lib.hid en
  clear h h' en
  have hP := Past.refl (Nat.le_refl W.heap.size)
  go_enter Tryd.func11, Tryd.ntmps11
  go_wp2_with fail
  go_loopw [13] (fun t wr => ∃ k : Nat, k ≤ n ∧ t = .int .i64 k ∧ Past W.heap.size W wr) (fun t _ => n - (intOf t).toNat)
  case atStart => exact ⟨0, Nat.zero_le _, rfl, hP⟩
  case round =>
    obtain ⟨k, hk, rfl, hp⟩ := hrel
    by_cases hkn : k < n
    · have r1 := ownsRow_below H1.out hp.2
      have r2 := ownsRow_below H2.out hp.2
      have hkt : k < ts.length := by rw [← EN.out]; exact hkn
      obtain ⟨g, c1, e1, _, _⟩ := r1.form (by omega)
      obtain ⟨g', c2, e2, _, _⟩ := r2.form (by omega)
      injection e1 with e1 _ e3
      injection e2 with e2 _ e4
      subst e1 e2 e3 e4
      have q1 := row_at r1 k hkt
      have q2 := row_at r2 k hkt
      generalize ts[k] = t at q1 q2
      obtain ⟨x0, x1, x2, x3⟩ := q1
      obtain ⟨y0, y1, y2, y3⟩ := q2
      clear r1 r2 hkt
      go_wp2_with fail
      go_quiet (fail)
      go_wp2_with fail
      first
        | exact ⟨⟨k + 1, by omega, by go_num, hp.drewN _⟩, by simp [intOf]; omega⟩
        | (refine ⟨?_, by simp [intOf]; omega⟩; (repeat apply Exists.intro); exact ⟨⟨k + 1, by omega, by go_num, hp.drewN _⟩, rfl⟩)
    · obtain rfl : k = n := by omega
      go_wp2_with fail
      go_ret
      exact ⟨rfl, hp.2⟩
end Go.Proofs.YtombkcdoeiffiaaDoor
