/- MemPlays: whether both memories show the same. -/
import Derived.Test.YtkbkgbkoplcgeaaMPa
namespace Go.Proofs.Ytkbkgbkoplcgeaa
open Go.RowKit Go.Maps
set_option linter.unusedVariables false
set_option linter.unusedSimpArgs false
set_option maxRecDepth 100000

set_option maxHeartbeats 2000000 in
theorem alike_any (o : Nat → Nat) (mb : Nat) (D : Dm) (q : Option Addr) (d : Nat) (ys : List Rk) (W : World) (hm : MemD o mb D W) (hr : RmIn W q d ys D) (hl : ys.length ≤ 1000) :
    Calls Try.prog 25 #[.pointer (some ⟨mb, 0, none⟩), .slice q ys.length d] W fun e w' => e = .returned (.bool true) ∧ Below W.heap.size W w' := by
  have HM := Lib.hid hm
  have HR := Lib.hid hr
  obtain ⟨n, en⟩ : ∃ n, ys.length = n := ⟨_, rfl⟩
  have c1 : ∀ (k : Int) w, wf64 k → Below W.heap.size W w → Calls Try.prog 32 #[.pointer (some ⟨mb, 0, none⟩), .int .i64 k] w fun e w' => e = .returned (.int .i64 (dSize D k)) ∧ w = w' := fun k w hk hb => SizeD o mb D w k hk (HM.out.later hb)
  have c2 : ∀ (k : Int) w, Below W.heap.size W w → Calls Try.prog 56 #[.slice q n d, .int .i64 k] w fun e w' => e = .returned (.int .i64 (dSize D k)) ∧ w = w' := fun k w hb => by rw [← en]; exact rSize_any w q d ys D k (HR.out.later hb)
  have c3 : ∀ (k : Int) w, wf64 k → Below W.heap.size W w → Calls Try.prog 26 #[.pointer (some ⟨mb, 0, none⟩), .int .i64 k] w fun e w' => ∃ p c, e = .returned (.slice p (dBytes D k).length c) ∧ BysIn w'.heap.size w' p (dBytes D k).length c (dBytes D k) ∧ Below w.heap.size w w' := fun k w hk hb => by
    refine (BytesD o mb D w k hk (HM.out.later hb)).mono ?_
    rintro e w' ⟨p, c, h1, h2, h3⟩
    exact ⟨p, c, h1, bytes_in h2 rfl, h3⟩
  have c4 : ∀ (k : Int) w, Below W.heap.size W w → Calls Try.prog 57 #[.slice q n d, .int .i64 k] w fun e w' => ∃ p c, e = .returned (.slice p (dBytes D k).length c) ∧ BysIn w'.heap.size w' p (dBytes D k).length c (dBytes D k) ∧ Below w.heap.size w w' := fun k w hb => by
    rw [← en]
    refine (rBytes_any w q d ys D k (HR.out.later hb)).mono ?_
    rintro e w' ⟨p, c, h1, h2, h3⟩
    exact ⟨p, c, h1, bytes_in h2 rfl, h3⟩
  have c5 : ∀ (l : List By) w p c p' c', BysIn w.heap.size w p l.length c l → BysIn w.heap.size w p' l.length c' l → Calls Try.prog 17 #[.slice p l.length c, .slice p' l.length c'] w fun e w' => e = .returned (.bool true) ∧ Below w.heap.size w w' := fun l w p c p' c' h h' => by
    have := Same_any w p p' c c' l l h h'
    rw [sameB_true rfl] at this
    exact this
  rw [en] at hl ⊢
  clear hm hr en
  go_enter Try.func25, Try.ntmps25
  go_wp2_with fail
  go_loopw [5] (fun u wr => ∃ k : Int, -1 ≤ k ∧ k ≤ n + 1 ∧ u = .int .i64 k ∧ Below W.heap.size W wr) (fun u _ => ((n : Int) + 1 - intOf u).toNat)
  case atStart => exact ⟨-1, Int.le_refl _, by omega, rfl, Below.refl _ _⟩
  case round =>
    obtain ⟨k, hk, hk2, rfl, hB⟩ := hrel
    have HB := Lib.hid hB
    clear hB
    by_cases t1 : k ≤ n
    · have hwk : wf64 k := ⟨by omega, by omega⟩
      have d1 := c1 k wr hwk HB.out
      have d2 := c2 k wr HB.out
      have d3 := c3 k wr hwk HB.out
      have d4 := c4 k
      obtain ⟨S, eS⟩ : ∃ S, dSize D k = S := ⟨_, rfl⟩
      obtain ⟨l, el⟩ : ∃ l, dBytes D k = l := ⟨_, rfl⟩
      rw [eS] at d1 d2
      simp only [el] at d3 d4
      have e5 := c5 l
      clear c1 c2 c3 c4 c5 eS el hwk
      go_wp2_with (first
        | ((with_reducible refine d1.mono ?_); rintro e w' ⟨rfl, rfl⟩)
        | ((with_reducible refine d2.mono ?_); rintro e w' ⟨rfl, rfl⟩)
        | ((with_reducible refine d3.mono ?_); rintro e w5 ⟨p5, k5, rfl, h5, b5⟩; have HB5 := Lib.hid (HB.out.trans (b5.mono HB.out.size)); have d4' := d4 w5 HB5.out; have H5 := Lib.hid h5; clear h5 b5)
        | ((with_reducible refine d4'.mono ?_); rintro e w6 ⟨p6, k6, rfl, h6, b6⟩; have HB6 := Lib.hid (HB5.out.trans (b6.mono HB5.out.size)); have e6 := e5 w6 p5 k5 p6 k6 (H5.out.later b6) h6; clear h6 b6)
        | ((with_reducible refine e6.mono ?_); rintro e w7 ⟨rfl, b7⟩; have HB7 := Lib.hid (HB6.out.trans (b7.mono HB6.out.size)); clear b7))
      exact ⟨⟨k + 1, by omega, by omega, by go_num, HB7.out⟩, by simp [intOf]; omega⟩
    · have t1' : ¬ k ≤ (n : Int) := t1
      go_wp2_with fail
      go_ret
      exact ⟨rfl, HB.out⟩
end Go.Proofs.Ytkbkgbkoplcgeaa
