/- Package refine and the document's answers: Value and Byte, by shapes. -/
import Derived.Test.YtglkbnckfkliaaaRfA
namespace Go.Proofs.Ytglkbnckfkliaaa
open Go.RowKit Go.Maps
set_option linter.unusedVariables false
set_option linter.unusedSimpArgs false
set_option maxRecDepth 100000
set_option maxHeartbeats 1000000

theorem belows (W : World) (o o' : Obj) : Below W.heap.size W (W.alloc o) ∧ Below W.heap.size W ((W.alloc o).alloc o') ∧ Below W.heap.size W ((W.alloc o).alloc o').drew := ⟨below1 W o, below2 W o o', (below2 W o o').drew⟩
theorem Value_any (v w : Vl) (W : World) :
    Calls Try.prog 8 #[v.val, w.val] W fun e w' => e = .returned (.bool (refV v w)) ∧ Below W.heap.size W w' := by
  obtain ⟨vk, vb, vbk, vo⟩ := v
  obtain ⟨wk, wb, wbk, wo⟩ := w
  show Calls _ _ #[.agg #[.int .i64 vk, .int .u64 vb, .int .i64 vbk, .int .i64 vo], .agg #[.int .i64 wk, .int .u64 wb, .int .i64 wbk, .int .i64 wo]] W _
  by_cases k0 : vk = 0
  · subst k0
    have e : refV ⟨0, vb, vbk, vo⟩ ⟨wk, wb, wbk, wo⟩ = true := if_pos rfl
    rw [e]
    clear e
    go_enter Try.func8, Try.ntmps8
    go_wp2_with fail
    go_ret
    exact ⟨rfl, by first | exact (belows W _ _).2.1 | exact (belows W _ _).2.2⟩
  · by_cases k3 : vk = 3
    · subst k3
      by_cases w0 : wk = 0
      · subst w0
        have e : refV ⟨3, vb, vbk, vo⟩ ⟨0, wb, wbk, wo⟩ = false := rfl
        rw [e]
        clear e
        clear k0
        go_enter Try.func8, Try.ntmps8
        go_wp2_with fail
        go_ret
        exact ⟨rfl, by first | exact (belows W _ _).2.1 | exact (belows W _ _).2.2⟩
      · have g0 := ne_n w0
        have g1 := ne_b w0
        have e : refV ⟨3, vb, vbk, vo⟩ ⟨wk, wb, wbk, wo⟩ = true := g0
        rw [e]
        clear e
        clear k0 w0
        go_enter Try.func8, Try.ntmps8
        go_wp2_with fail
        go_ret
        exact ⟨rfl, by first | exact (belows W _ _).2.1 | exact (belows W _ _).2.2⟩
    · have g0 := ne_b k0
      have g3 := ne_b k3
      have hr : ∀ w, refV ⟨vk, vb, vbk, vo⟩ w = sameV ⟨vk, vb, vbk, vo⟩ w := fun w => by unfold refV; rw [if_neg k0, if_neg k3]
      clear k0 k3
      rcases eq_cases ⟨vk, vb, vbk, vo⟩ ⟨wk, wb, wbk, wo⟩ with he | q0 | ⟨q0, q1⟩ | ⟨q0, q1, q2⟩ | ⟨q0, q1, q2, q3⟩
      · injection he with r0 r1 r2 r3
        subst r0 r1 r2 r3
        have e : refV ⟨vk, vb, vbk, vo⟩ ⟨vk, vb, vbk, vo⟩ = true := (hr _).trans (sameV_iff.2 rfl)
        rw [e]
        clear e
        clear hr
        go_enter Try.func8, Try.ntmps8
        go_wp2_with fail
        go_ret
        exact ⟨rfl, by first | exact (belows W _ _).2.1 | exact (belows W _ _).2.2⟩
      · simp only at q0
        have gn := ne_b q0
        have gm := ne_b (fun h => q0 (Eq.symm h))
        have e : refV ⟨vk, vb, vbk, vo⟩ ⟨wk, wb, wbk, wo⟩ = false := by rw [hr]; cases e : sameV ⟨vk, vb, vbk, vo⟩ ⟨wk, wb, wbk, wo⟩ with | false => rfl | true => (have := sameV_iff.1 e; injection this with z0 z1 z2 z3; exact absurd z0 q0)
        rw [e]
        clear e
        clear hr q0
        go_enter Try.func8, Try.ntmps8
        go_wp2_with fail
        go_ret
        exact ⟨rfl, by first | exact (belows W _ _).2.1 | exact (belows W _ _).2.2⟩
      · simp only at q0 q1
        subst q0
        have gn := ne_b q1
        have gm := ne_b (fun h => q1 (Eq.symm h))
        have e : refV ⟨vk, vb, vbk, vo⟩ ⟨vk, wb, wbk, wo⟩ = false := by rw [hr]; cases e : sameV ⟨vk, vb, vbk, vo⟩ ⟨vk, wb, wbk, wo⟩ with | false => rfl | true => (have := sameV_iff.1 e; injection this with z0 z1 z2 z3; exact absurd z1 q1)
        rw [e]
        clear e
        clear hr q1
        go_enter Try.func8, Try.ntmps8
        go_wp2_with fail
        go_ret
        exact ⟨rfl, by first | exact (belows W _ _).2.1 | exact (belows W _ _).2.2⟩
      · simp only at q0 q1 q2
        subst q0 q1
        have gn := ne_b q2
        have gm := ne_b (fun h => q2 (Eq.symm h))
        have e : refV ⟨vk, vb, vbk, vo⟩ ⟨vk, vb, wbk, wo⟩ = false := by rw [hr]; cases e : sameV ⟨vk, vb, vbk, vo⟩ ⟨vk, vb, wbk, wo⟩ with | false => rfl | true => (have := sameV_iff.1 e; injection this with z0 z1 z2 z3; exact absurd z2 q2)
        rw [e]
        clear e
        clear hr q2
        go_enter Try.func8, Try.ntmps8
        go_wp2_with fail
        go_ret
        exact ⟨rfl, by first | exact (belows W _ _).2.1 | exact (belows W _ _).2.2⟩
      · simp only at q0 q1 q2 q3
        subst q0 q1 q2
        have gn := ne_b q3
        have gm := ne_b (fun h => q3 (Eq.symm h))
        have e : refV ⟨vk, vb, vbk, vo⟩ ⟨vk, vb, vbk, wo⟩ = false := by rw [hr]; cases e : sameV ⟨vk, vb, vbk, vo⟩ ⟨vk, vb, vbk, wo⟩ with | false => rfl | true => (have := sameV_iff.1 e; injection this with z0 z1 z2 z3; exact absurd z3 q3)
        rw [e]
        clear e
        clear hr q3
        go_enter Try.func8, Try.ntmps8
        go_wp2_with fail
        go_ret
        exact ⟨rfl, by first | exact (belows W _ _).2.1 | exact (belows W _ _).2.2⟩
theorem rValue_any (v w : Vl) (W : World) :
    Calls Try.prog 9 #[v.val, w.val] W fun e w' => e = .returned (.bool (refV v w)) ∧ Below W.heap.size W w' := by
  obtain ⟨vk, vb, vbk, vo⟩ := v
  obtain ⟨wk, wb, wbk, wo⟩ := w
  show Calls _ _ #[.agg #[.int .i64 vk, .int .u64 vb, .int .i64 vbk, .int .i64 vo], .agg #[.int .i64 wk, .int .u64 wb, .int .i64 wbk, .int .i64 wo]] W _
  by_cases k0 : vk = 0
  · subst k0
    have e : refV ⟨0, vb, vbk, vo⟩ ⟨wk, wb, wbk, wo⟩ = true := if_pos rfl
    rw [e]
    clear e
    go_enter Try.func9, Try.ntmps9
    go_wp2_with fail
    go_ret
    exact ⟨rfl, by first | exact (belows W _ _).2.1 | exact (belows W _ _).2.2⟩
  · by_cases k3 : vk = 3
    · subst k3
      by_cases w0 : wk = 0
      · subst w0
        have e : refV ⟨3, vb, vbk, vo⟩ ⟨0, wb, wbk, wo⟩ = false := rfl
        rw [e]
        clear e
        clear k0
        go_enter Try.func9, Try.ntmps9
        go_wp2_with fail
        go_ret
        exact ⟨rfl, by first | exact (belows W _ _).2.1 | exact (belows W _ _).2.2⟩
      · have g0 := ne_n w0
        have g1 := ne_b w0
        have e : refV ⟨3, vb, vbk, vo⟩ ⟨wk, wb, wbk, wo⟩ = true := g0
        rw [e]
        clear e
        clear k0 w0
        go_enter Try.func9, Try.ntmps9
        go_wp2_with fail
        go_ret
        exact ⟨rfl, by first | exact (belows W _ _).2.1 | exact (belows W _ _).2.2⟩
    · have g0 := ne_b k0
      have g3 := ne_b k3
      have hr : ∀ w, refV ⟨vk, vb, vbk, vo⟩ w = sameV ⟨vk, vb, vbk, vo⟩ w := fun w => by unfold refV; rw [if_neg k0, if_neg k3]
      clear k0 k3
      rcases eq_cases ⟨vk, vb, vbk, vo⟩ ⟨wk, wb, wbk, wo⟩ with he | q0 | ⟨q0, q1⟩ | ⟨q0, q1, q2⟩ | ⟨q0, q1, q2, q3⟩
      · injection he with r0 r1 r2 r3
        subst r0 r1 r2 r3
        have e : refV ⟨vk, vb, vbk, vo⟩ ⟨vk, vb, vbk, vo⟩ = true := (hr _).trans (sameV_iff.2 rfl)
        rw [e]
        clear e
        clear hr
        go_enter Try.func9, Try.ntmps9
        go_wp2_with fail
        go_ret
        exact ⟨rfl, by first | exact (belows W _ _).2.1 | exact (belows W _ _).2.2⟩
      · simp only at q0
        have gn := ne_b q0
        have gm := ne_b (fun h => q0 (Eq.symm h))
        have e : refV ⟨vk, vb, vbk, vo⟩ ⟨wk, wb, wbk, wo⟩ = false := by rw [hr]; cases e : sameV ⟨vk, vb, vbk, vo⟩ ⟨wk, wb, wbk, wo⟩ with | false => rfl | true => (have := sameV_iff.1 e; injection this with z0 z1 z2 z3; exact absurd z0 q0)
        rw [e]
        clear e
        clear hr q0
        go_enter Try.func9, Try.ntmps9
        go_wp2_with fail
        go_ret
        exact ⟨rfl, by first | exact (belows W _ _).2.1 | exact (belows W _ _).2.2⟩
      · simp only at q0 q1
        subst q0
        have gn := ne_b q1
        have gm := ne_b (fun h => q1 (Eq.symm h))
        have e : refV ⟨vk, vb, vbk, vo⟩ ⟨vk, wb, wbk, wo⟩ = false := by rw [hr]; cases e : sameV ⟨vk, vb, vbk, vo⟩ ⟨vk, wb, wbk, wo⟩ with | false => rfl | true => (have := sameV_iff.1 e; injection this with z0 z1 z2 z3; exact absurd z1 q1)
        rw [e]
        clear e
        clear hr q1
        go_enter Try.func9, Try.ntmps9
        go_wp2_with fail
        go_ret
        exact ⟨rfl, by first | exact (belows W _ _).2.1 | exact (belows W _ _).2.2⟩
      · simp only at q0 q1 q2
        subst q0 q1
        have gn := ne_b q2
        have gm := ne_b (fun h => q2 (Eq.symm h))
        have e : refV ⟨vk, vb, vbk, vo⟩ ⟨vk, vb, wbk, wo⟩ = false := by rw [hr]; cases e : sameV ⟨vk, vb, vbk, vo⟩ ⟨vk, vb, wbk, wo⟩ with | false => rfl | true => (have := sameV_iff.1 e; injection this with z0 z1 z2 z3; exact absurd z2 q2)
        rw [e]
        clear e
        clear hr q2
        go_enter Try.func9, Try.ntmps9
        go_wp2_with fail
        go_ret
        exact ⟨rfl, by first | exact (belows W _ _).2.1 | exact (belows W _ _).2.2⟩
      · simp only at q0 q1 q2 q3
        subst q0 q1 q2
        have gn := ne_b q3
        have gm := ne_b (fun h => q3 (Eq.symm h))
        have e : refV ⟨vk, vb, vbk, vo⟩ ⟨vk, vb, vbk, wo⟩ = false := by rw [hr]; cases e : sameV ⟨vk, vb, vbk, vo⟩ ⟨vk, vb, vbk, wo⟩ with | false => rfl | true => (have := sameV_iff.1 e; injection this with z0 z1 z2 z3; exact absurd z3 q3)
        rw [e]
        clear e
        clear hr q3
        go_enter Try.func9, Try.ntmps9
        go_wp2_with fail
        go_ret
        exact ⟨rfl, by first | exact (belows W _ _).2.1 | exact (belows W _ _).2.2⟩
theorem Byte_any (v w : By) (W : World) :
    Calls Try.prog 10 #[v.val, w.val] W fun e w' => e = .returned (.bool (refY v w)) ∧ Below W.heap.size W w' := by
  obtain ⟨vk, vb, vbk, vo, vi⟩ := v
  obtain ⟨wk, wb, wbk, wo, wi⟩ := w
  show Calls _ _ #[.agg #[.int .i64 vk, .int .u8 vb, .int .i64 vbk, .int .i64 vo, .int .i64 vi], .agg #[.int .i64 wk, .int .u8 wb, .int .i64 wbk, .int .i64 wo, .int .i64 wi]] W _
  by_cases k0 : vk = 0
  · subst k0
    have e : refY ⟨0, vb, vbk, vo, vi⟩ ⟨wk, wb, wbk, wo, wi⟩ = true := if_pos rfl
    rw [e]
    clear e
    go_enter Try.func10, Try.ntmps10
    go_wp2_with fail
    go_ret
    exact ⟨rfl, by first | exact (belows W _ _).2.1 | exact (belows W _ _).2.2⟩
  · by_cases k3 : vk = 3
    · subst k3
      by_cases w3 : wk = 3
      · subst w3
        have e : refY ⟨3, vb, vbk, vo, vi⟩ ⟨3, wb, wbk, wo, wi⟩ = true := rfl
        rw [e]
        clear e
        clear k0
        go_enter Try.func10, Try.ntmps10
        go_wp2_with fail
        go_ret
        exact ⟨rfl, by first | exact (belows W _ _).2.1 | exact (belows W _ _).2.2⟩
      · by_cases w1 : wk = 1
        · subst w1
          have e : refY ⟨3, vb, vbk, vo, vi⟩ ⟨1, wb, wbk, wo, wi⟩ = true := rfl
          rw [e]
          clear e
          clear k0 w3
          go_enter Try.func10, Try.ntmps10
          go_wp2_with fail
          go_ret
          exact ⟨rfl, by first | exact (belows W _ _).2.1 | exact (belows W _ _).2.2⟩
        · have g3 := ne_b w3
          have g1 := ne_b w1
          have g4 := ne_b (fun h : (3 : Int) = wk => w3 h.symm)
          have e : refY ⟨3, vb, vbk, vo, vi⟩ ⟨wk, wb, wbk, wo, wi⟩ = false := by unfold refY; rw [if_neg (by simp), if_pos rfl]; simp [w3, w1]
          rw [e]
          clear e
          clear k0 w3 w1
          go_enter Try.func10, Try.ntmps10
          go_wp2_with fail
          go_ret
          exact ⟨rfl, by first | exact (belows W _ _).2.1 | exact (belows W _ _).2.2⟩
    · have g0 := ne_b k0
      have g3 := ne_b k3
      have hr : ∀ w, refY ⟨vk, vb, vbk, vo, vi⟩ w = sameY ⟨vk, vb, vbk, vo, vi⟩ w := fun w => by unfold refY; rw [if_neg k0, if_neg k3]
      clear k0 k3
      rcases eq_casesY ⟨vk, vb, vbk, vo, vi⟩ ⟨wk, wb, wbk, wo, wi⟩ with he | q0 | ⟨q0, q1⟩ | ⟨q0, q1, q2⟩ | ⟨q0, q1, q2, q3⟩ | ⟨q0, q1, q2, q3, q4⟩
      · injection he with r0 r1 r2 r3 r4
        subst r0 r1 r2 r3 r4
        have e : refY ⟨vk, vb, vbk, vo, vi⟩ ⟨vk, vb, vbk, vo, vi⟩ = true := (hr _).trans (sameY_iff.2 rfl)
        rw [e]
        clear e
        clear hr
        go_enter Try.func10, Try.ntmps10
        go_wp2_with fail
        go_ret
        exact ⟨rfl, by first | exact (belows W _ _).2.1 | exact (belows W _ _).2.2⟩
      · simp only at q0
        have gn := ne_b q0
        have gm := ne_b (fun h => q0 (Eq.symm h))
        have e : refY ⟨vk, vb, vbk, vo, vi⟩ ⟨wk, wb, wbk, wo, wi⟩ = false := by rw [hr]; cases e : sameY ⟨vk, vb, vbk, vo, vi⟩ ⟨wk, wb, wbk, wo, wi⟩ with | false => rfl | true => (have := sameY_iff.1 e; injection this with z0 z1 z2 z3 z4; exact absurd z0 q0)
        rw [e]
        clear e
        clear hr q0
        go_enter Try.func10, Try.ntmps10
        go_wp2_with fail
        go_ret
        exact ⟨rfl, by first | exact (belows W _ _).2.1 | exact (belows W _ _).2.2⟩
      · simp only at q0 q1
        subst q0
        have gn := ne_b q1
        have gm := ne_b (fun h => q1 (Eq.symm h))
        have e : refY ⟨vk, vb, vbk, vo, vi⟩ ⟨vk, wb, wbk, wo, wi⟩ = false := by rw [hr]; cases e : sameY ⟨vk, vb, vbk, vo, vi⟩ ⟨vk, wb, wbk, wo, wi⟩ with | false => rfl | true => (have := sameY_iff.1 e; injection this with z0 z1 z2 z3 z4; exact absurd z1 q1)
        rw [e]
        clear e
        clear hr q1
        go_enter Try.func10, Try.ntmps10
        go_wp2_with fail
        go_ret
        exact ⟨rfl, by first | exact (belows W _ _).2.1 | exact (belows W _ _).2.2⟩
      · simp only at q0 q1 q2
        subst q0 q1
        have gn := ne_b q2
        have gm := ne_b (fun h => q2 (Eq.symm h))
        have e : refY ⟨vk, vb, vbk, vo, vi⟩ ⟨vk, vb, wbk, wo, wi⟩ = false := by rw [hr]; cases e : sameY ⟨vk, vb, vbk, vo, vi⟩ ⟨vk, vb, wbk, wo, wi⟩ with | false => rfl | true => (have := sameY_iff.1 e; injection this with z0 z1 z2 z3 z4; exact absurd z2 q2)
        rw [e]
        clear e
        clear hr q2
        go_enter Try.func10, Try.ntmps10
        go_wp2_with fail
        go_ret
        exact ⟨rfl, by first | exact (belows W _ _).2.1 | exact (belows W _ _).2.2⟩
      · simp only at q0 q1 q2 q3
        subst q0 q1 q2
        have gn := ne_b q3
        have gm := ne_b (fun h => q3 (Eq.symm h))
        have e : refY ⟨vk, vb, vbk, vo, vi⟩ ⟨vk, vb, vbk, wo, wi⟩ = false := by rw [hr]; cases e : sameY ⟨vk, vb, vbk, vo, vi⟩ ⟨vk, vb, vbk, wo, wi⟩ with | false => rfl | true => (have := sameY_iff.1 e; injection this with z0 z1 z2 z3 z4; exact absurd z3 q3)
        rw [e]
        clear e
        clear hr q3
        go_enter Try.func10, Try.ntmps10
        go_wp2_with fail
        go_ret
        exact ⟨rfl, by first | exact (belows W _ _).2.1 | exact (belows W _ _).2.2⟩
      · simp only at q0 q1 q2 q3 q4
        subst q0 q1 q2 q3
        have gn := ne_b q4
        have gm := ne_b (fun h => q4 (Eq.symm h))
        have e : refY ⟨vk, vb, vbk, vo, vi⟩ ⟨vk, vb, vbk, vo, wi⟩ = false := by rw [hr]; cases e : sameY ⟨vk, vb, vbk, vo, vi⟩ ⟨vk, vb, vbk, vo, wi⟩ with | false => rfl | true => (have := sameY_iff.1 e; injection this with z0 z1 z2 z3 z4; exact absurd z4 q4)
        rw [e]
        clear e
        clear hr q4
        go_enter Try.func10, Try.ntmps10
        go_wp2_with fail
        go_ret
        exact ⟨rfl, by first | exact (belows W _ _).2.1 | exact (belows W _ _).2.2⟩
theorem rByte_any (v w : By) (W : World) :
    Calls Try.prog 11 #[v.val, w.val] W fun e w' => e = .returned (.bool (refY v w)) ∧ Below W.heap.size W w' := by
  obtain ⟨vk, vb, vbk, vo, vi⟩ := v
  obtain ⟨wk, wb, wbk, wo, wi⟩ := w
  show Calls _ _ #[.agg #[.int .i64 vk, .int .u8 vb, .int .i64 vbk, .int .i64 vo, .int .i64 vi], .agg #[.int .i64 wk, .int .u8 wb, .int .i64 wbk, .int .i64 wo, .int .i64 wi]] W _
  by_cases k0 : vk = 0
  · subst k0
    have e : refY ⟨0, vb, vbk, vo, vi⟩ ⟨wk, wb, wbk, wo, wi⟩ = true := if_pos rfl
    rw [e]
    clear e
    go_enter Try.func11, Try.ntmps11
    go_wp2_with fail
    go_ret
    exact ⟨rfl, by first | exact (belows W _ _).2.1 | exact (belows W _ _).2.2⟩
  · by_cases k3 : vk = 3
    · subst k3
      by_cases w3 : wk = 3
      · subst w3
        have e : refY ⟨3, vb, vbk, vo, vi⟩ ⟨3, wb, wbk, wo, wi⟩ = true := rfl
        rw [e]
        clear e
        clear k0
        go_enter Try.func11, Try.ntmps11
        go_wp2_with fail
        go_ret
        exact ⟨rfl, by first | exact (belows W _ _).2.1 | exact (belows W _ _).2.2⟩
      · by_cases w1 : wk = 1
        · subst w1
          have e : refY ⟨3, vb, vbk, vo, vi⟩ ⟨1, wb, wbk, wo, wi⟩ = true := rfl
          rw [e]
          clear e
          clear k0 w3
          go_enter Try.func11, Try.ntmps11
          go_wp2_with fail
          go_ret
          exact ⟨rfl, by first | exact (belows W _ _).2.1 | exact (belows W _ _).2.2⟩
        · have g3 := ne_b w3
          have g1 := ne_b w1
          have g4 := ne_b (fun h : (3 : Int) = wk => w3 h.symm)
          have e : refY ⟨3, vb, vbk, vo, vi⟩ ⟨wk, wb, wbk, wo, wi⟩ = false := by unfold refY; rw [if_neg (by simp), if_pos rfl]; simp [w3, w1]
          rw [e]
          clear e
          clear k0 w3 w1
          go_enter Try.func11, Try.ntmps11
          go_wp2_with fail
          go_ret
          exact ⟨rfl, by first | exact (belows W _ _).2.1 | exact (belows W _ _).2.2⟩
    · have g0 := ne_b k0
      have g3 := ne_b k3
      have hr : ∀ w, refY ⟨vk, vb, vbk, vo, vi⟩ w = sameY ⟨vk, vb, vbk, vo, vi⟩ w := fun w => by unfold refY; rw [if_neg k0, if_neg k3]
      clear k0 k3
      rcases eq_casesY ⟨vk, vb, vbk, vo, vi⟩ ⟨wk, wb, wbk, wo, wi⟩ with he | q0 | ⟨q0, q1⟩ | ⟨q0, q1, q2⟩ | ⟨q0, q1, q2, q3⟩ | ⟨q0, q1, q2, q3, q4⟩
      · injection he with r0 r1 r2 r3 r4
        subst r0 r1 r2 r3 r4
        have e : refY ⟨vk, vb, vbk, vo, vi⟩ ⟨vk, vb, vbk, vo, vi⟩ = true := (hr _).trans (sameY_iff.2 rfl)
        rw [e]
        clear e
        clear hr
        go_enter Try.func11, Try.ntmps11
        go_wp2_with fail
        go_ret
        exact ⟨rfl, by first | exact (belows W _ _).2.1 | exact (belows W _ _).2.2⟩
      · simp only at q0
        have gn := ne_b q0
        have gm := ne_b (fun h => q0 (Eq.symm h))
        have e : refY ⟨vk, vb, vbk, vo, vi⟩ ⟨wk, wb, wbk, wo, wi⟩ = false := by rw [hr]; cases e : sameY ⟨vk, vb, vbk, vo, vi⟩ ⟨wk, wb, wbk, wo, wi⟩ with | false => rfl | true => (have := sameY_iff.1 e; injection this with z0 z1 z2 z3 z4; exact absurd z0 q0)
        rw [e]
        clear e
        clear hr q0
        go_enter Try.func11, Try.ntmps11
        go_wp2_with fail
        go_ret
        exact ⟨rfl, by first | exact (belows W _ _).2.1 | exact (belows W _ _).2.2⟩
      · simp only at q0 q1
        subst q0
        have gn := ne_b q1
        have gm := ne_b (fun h => q1 (Eq.symm h))
        have e : refY ⟨vk, vb, vbk, vo, vi⟩ ⟨vk, wb, wbk, wo, wi⟩ = false := by rw [hr]; cases e : sameY ⟨vk, vb, vbk, vo, vi⟩ ⟨vk, wb, wbk, wo, wi⟩ with | false => rfl | true => (have := sameY_iff.1 e; injection this with z0 z1 z2 z3 z4; exact absurd z1 q1)
        rw [e]
        clear e
        clear hr q1
        go_enter Try.func11, Try.ntmps11
        go_wp2_with fail
        go_ret
        exact ⟨rfl, by first | exact (belows W _ _).2.1 | exact (belows W _ _).2.2⟩
      · simp only at q0 q1 q2
        subst q0 q1
        have gn := ne_b q2
        have gm := ne_b (fun h => q2 (Eq.symm h))
        have e : refY ⟨vk, vb, vbk, vo, vi⟩ ⟨vk, vb, wbk, wo, wi⟩ = false := by rw [hr]; cases e : sameY ⟨vk, vb, vbk, vo, vi⟩ ⟨vk, vb, wbk, wo, wi⟩ with | false => rfl | true => (have := sameY_iff.1 e; injection this with z0 z1 z2 z3 z4; exact absurd z2 q2)
        rw [e]
        clear e
        clear hr q2
        go_enter Try.func11, Try.ntmps11
        go_wp2_with fail
        go_ret
        exact ⟨rfl, by first | exact (belows W _ _).2.1 | exact (belows W _ _).2.2⟩
      · simp only at q0 q1 q2 q3
        subst q0 q1 q2
        have gn := ne_b q3
        have gm := ne_b (fun h => q3 (Eq.symm h))
        have e : refY ⟨vk, vb, vbk, vo, vi⟩ ⟨vk, vb, vbk, wo, wi⟩ = false := by rw [hr]; cases e : sameY ⟨vk, vb, vbk, vo, vi⟩ ⟨vk, vb, vbk, wo, wi⟩ with | false => rfl | true => (have := sameY_iff.1 e; injection this with z0 z1 z2 z3 z4; exact absurd z3 q3)
        rw [e]
        clear e
        clear hr q3
        go_enter Try.func11, Try.ntmps11
        go_wp2_with fail
        go_ret
        exact ⟨rfl, by first | exact (belows W _ _).2.1 | exact (belows W _ _).2.2⟩
      · simp only at q0 q1 q2 q3 q4
        subst q0 q1 q2 q3
        have gn := ne_b q4
        have gm := ne_b (fun h => q4 (Eq.symm h))
        have e : refY ⟨vk, vb, vbk, vo, vi⟩ ⟨vk, vb, vbk, vo, wi⟩ = false := by rw [hr]; cases e : sameY ⟨vk, vb, vbk, vo, vi⟩ ⟨vk, vb, vbk, vo, wi⟩ with | false => rfl | true => (have := sameY_iff.1 e; injection this with z0 z1 z2 z3 z4; exact absurd z4 q4)
        rw [e]
        clear e
        clear hr q4
        go_enter Try.func11, Try.ntmps11
        go_wp2_with fail
        go_ret
        exact ⟨rfl, by first | exact (belows W _ _).2.1 | exact (belows W _ _).2.2⟩
end Go.Proofs.Ytglkbnckfkliaaa
