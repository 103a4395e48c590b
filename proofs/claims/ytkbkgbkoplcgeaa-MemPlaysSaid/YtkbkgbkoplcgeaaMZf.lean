/- The document's memory: bound, filled. -/
import Derived.Test.YtkbkgbkoplcgeaaMZe
namespace Go.Proofs.Ytkbkgbkoplcgeaa
open Go.RowKit Go.Maps
set_option linter.unusedVariables false
set_option linter.unusedSimpArgs false

theorem rBound_any (n : Int) (W : World) :
    Calls Try.prog 67 #[.int .i64 n] W fun e w' => e = .returned (.int .i64 (bnd n)) ∧ W = w' := by
  by_cases q1 : 4096 < n
  · have hb : (bnd n : Int) = 4096 := by unfold bnd; rw [if_neg (by omega), if_pos q1]; rfl
    rw [hb]
    clear hb
    go_enter Try.func67, Try.ntmps67
    go_wp2_with fail
    go_ret
    exact ⟨rfl, rfl⟩
  · by_cases q2 : 0 < n
    · have hb : (bnd n : Int) = n := by unfold bnd; rw [if_neg (by omega), if_neg q1]; omega
      rw [hb]
      clear hb
      go_enter Try.func67, Try.ntmps67
      go_wp2_with fail
      go_ret
      exact ⟨rfl, rfl⟩
    · have hb : (bnd n : Int) = 0 := by unfold bnd; split <;> (try split) <;> omega
      rw [hb]
      clear hb
      go_enter Try.func67, Try.ntmps67
      go_wp2_with fail
      go_ret
      exact ⟨rfl, rfl⟩
set_option maxHeartbeats 2000000 in
theorem rFilled_any (n : Int) (b : By) (W : World) :
    Calls Try.prog 50 #[.int .i64 n, b.val] W fun e w' => ∃ p c, e = .returned (.agg #[.bool true, .slice p (bnd n) c]) ∧ w'.ownsRow W.heap.size 32 5 (.slice p (bnd n) c) (bnd n) ((List.replicate (bnd n) b).flatMap byC) ∧ Below W.heap.size W w' := by
  obtain ⟨yk, yb, ybk, yo, yi⟩ := b
  have c1 := fun w => rBound_any n w
  have hN := bnd_le n
  obtain ⟨N, eN⟩ : ∃ N, bnd n = N := ⟨_, rfl⟩
  simp only [eN] at c1 hN ⊢
  clear eN
  obtain ⟨iV, hiV, hz0, hz1, hz2⟩ := info_parts infoBy
  have HI := Lib.hid (And.intro hiV (And.intro hz0 (And.intro hz1 hz2)))
  obtain ⟨W0, eW0⟩ : ∃ W0, (W.alloc (.cells #[.int .i64 yk, .int .u8 yb, .int .i64 ybk, .int .i64 yo, .int .i64 yi] 32)).alloc (.cells #[.bool false, .slice none 0 0] 85) = W0 := ⟨_, rfl⟩
  have HW0 : Hid (Below W.heap.size W W0) := Lib.hid (by rw [← eW0]; exact below2 W _ _)
  have HZ : Hid (W0.heap.size = W.heap.size + 2) := Lib.hid (by rw [← eW0]; simp)
  have BY : Hid (Box W.heap.size (byC ⟨yk, yb, ybk, yo, yi⟩) W0) := Lib.hid (by rw [← eW0]; exact (Box.new W rfl _ _).alloc _)
  have BK : Hid (Box (W.heap.size + 1) [.bool false, .slice none 0 0] W0) := Lib.hid (by rw [← eW0]; exact Box.new _ (by simp) _ _)
  clear hiV hz0 hz1 hz2
  show Calls _ _ #[.int .i64 n, .agg #[.int .i64 yk, .int .u8 yb, .int .i64 ybk, .int .i64 yo, .int .i64 yi]] W _
  go_enter Try.func50, Try.ntmps50
  go_upto_region 3 with fail
  clear eW0
  go_loopw [5, 6] (fun vl vi wr => ∃ (k : Nat) (p : Option Addr) (c : Nat), k ≤ N ∧ vi = .int .i64 k ∧ vl = .slice p k c ∧ Hid (Below W0.heap.size W0 wr) ∧ Hid (wr.ownsRow W0.heap.size 32 5 (.slice p k c) k ((List.replicate k (⟨yk, yb, ybk, yo, yi⟩ : By)).flatMap byC))) (fun _ vi _ => N - (intOf vi).toNat)
  case atStart => exact ⟨0, none, 0, Nat.zero_le _, rfl, rfl, Lib.hid (Below.refl _ _), Lib.hid (World.ownsRow_nil _ _ _ _)⟩
  case round =>
    obtain ⟨k, p, c, hk, rfl, rfl, HP, HR⟩ := hrel
    by_cases t1 : k < N
    · have t1' : (k : Int) < (N : Int) := by omega
      have h63 : Hid (k + 1 ≤ maxLen) := Lib.hid (by unfold maxLen; omega)
      have hb1 : Hid ((k + 1) * 40 ≤ 140737488355328) := Lib.hid (by omega)
      have VB := BY.out.later HP.out
      have v0 := VB.get 0 _ rfl
      have v1 := VB.get 1 _ rfl
      have v2 := VB.get 2 _ rfl
      have v3 := VB.get 3 _ rfl
      have v4 := VB.get 4 _ rfl
      clear VB
      go_wp2_with (first
        | ((with_reducible refine (c1 _).mono ?_); rintro e w1 ⟨rfl, rfl⟩)
        | (at_builtin; refine wpList_append_at rfl (.tmp 13) (.tmp 15) 25 rfl W0.heap.size 32 iV _ 5 40 Try.underlying25 HI.out.1 HI.out.2.1 HI.out.2.2.1 HI.out.2.2.2 rfl (by decide) (.slice p k c) k _ rfl (HR.out.alloc _) (some ⟨wr.heap.size, 0, none⟩) 1 1 (byC ⟨yk, yb, ybk, yo, yi⟩) rfl rfl (lit_at' _ rfl _ _) (byC_one _) h63.out hb1.out (by have := HP.out.size; simp; omega) ?_; intro v8 w8 hown8 hgrow8 hmv8))
      obtain ⟨q8, c8, rfl⟩ := row_slice hown8
      have hb8 : Below W0.heap.size W0 w8 := ((HP.out.trans (below1 wr _ |>.mono HP.out.size))).grown hgrow8 (by have := HP.out.size; simp; omega) (fun j e => (HR.out.lt j e).1)
      refine ⟨⟨k + 1, q8, c8, t1, by go_num, rfl, Lib.hid hb8, Lib.hid ?_⟩, by simp [intOf]; omega⟩
      rw [List.replicate_succ', List.flatMap_append, List.flatMap_singleton]
      exact hown8
    · obtain rfl : k = N := by omega
      have KB := BK.out.later HP.out
      have k0 := KB.get 0 _ rfl
      have k1 := KB.get 1 _ rfl
      have kf := KB.2.1
      have hlt := KB.1
      have HK := Lib.hid KB
      clear KB
      go_wp2_with (first
        | ((with_reducible refine (c1 _).mono ?_); rintro e w1 ⟨rfl, rfl⟩))
      have P1 : Past W.heap.size W wr := ⟨Nat.le_refl _, HW0.out.trans (HP.out.mono HW0.out.size)⟩
      have hz := HZ.out
      exact bodyPost_ret (v := .agg #[.bool true, .slice p k c]) (by simp [results, Try.results50, go_sem, *]) rfl ⟨p, c, rfl, (ownsRow_set (ownsRow_set HR.out (by show W.heap.size + 1 < _; omega) _) (by show W.heap.size + 1 < _; omega) _).mono (by omega), ((P1.set (Nat.le_succ _) _).set (Nat.le_succ _) _).2⟩
end Go.Proofs.Ytkbkgbkoplcgeaa
