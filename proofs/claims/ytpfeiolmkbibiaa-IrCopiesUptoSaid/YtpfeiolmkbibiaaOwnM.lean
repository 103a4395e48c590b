/- The document's sameness (package latheref02): instructions. -/
import Derived.Test.YtpfeiolmkbibiaaOwnL
namespace Go.Proofs.Ytpfeiolmkbibiaa
open Go.RowKit Go.Maps
set_option linter.unusedVariables false
set_option linter.unusedSimpArgs false

theorem arg_ext {a b : Arg} (h0 : a.kind = b.kind) (h1 : a.n = b.n) (h2 : a.bits = b.bits) : a = b := by cases a; cases b; simp_all
set_option maxRecDepth 100000 in
set_option maxHeartbeats 4000000 in
theorem Instrs_any (W : World) (x y : LI) (h : InsIn W.heap.size W x) (h' : InsIn W.heap.size W y) :
    Calls Try.prog 60 #[.agg (liC x).toArray, .agg (liC y).toArray] W (Tells (insD x = insD y) W) := by
  obtain ⟨⟨op, rg, ty, nn, fl, ap, al, ac, tp, tl, tc, args⟩, ts⟩ := x
  obtain ⟨⟨op', rg', ty', nn', fl', ap', al', ac', tp', tl', tc', args'⟩, ts'⟩ := y
  obtain rfl : al = args.length := h.1.1
  obtain rfl : al' = args'.length := h'.1.1
  have k2 : args.length ≤ ac := h.1.2.1
  have k3 : ac ≤ maxLen := h.1.2.2.1
  have k2' : args'.length ≤ ac' := h'.1.2.1
  have k3' : ac' ≤ maxLen := h'.1.2.2.1
  unfold maxLen at k3 k3'
  have H := Lib.hid h
  have H' := Lib.hid h'
  clear h h'
  show Calls Try.prog 60 #[.agg #[.int .i64 op, .int .i64 rg, .int .i64 ty, .int .i64 nn, .int .i64 fl, .slice ap args.length ac, .slice tp tl tc], .agg #[.int .i64 op', .int .i64 rg', .int .i64 ty', .int .i64 nn', .int .i64 fl', .slice ap' args'.length ac', .slice tp' tl' tc']] W _
  have hP := (Past.refl (Nat.le_refl W.heap.size)).alloc (.cells #[.int .i64 op, .int .i64 rg, .int .i64 ty, .int .i64 nn, .int .i64 fl, .slice ap args.length ac, .slice tp tl tc] 25)
  have A1 : Box W.heap.size [.int .i64 op, .int .i64 rg, .int .i64 ty, .int .i64 nn, .int .i64 fl, .slice ap args.length ac, .slice tp tl tc] (W.alloc (.cells #[.int .i64 op, .int .i64 rg, .int .i64 ty, .int .i64 nn, .int .i64 fl, .slice ap args.length ac, .slice tp tl tc] 25)) := Box.new W rfl _ _
  have z1 : (W.alloc (.cells #[.int .i64 op, .int .i64 rg, .int .i64 ty, .int .i64 nn, .int .i64 fl, .slice ap args.length ac, .slice tp tl tc] 25)).heap.size = W.heap.size + 1 := by simp
  go_enter Try.func60, Try.ntmps60
  go_upto_region 1 with fail
  generalize (W.alloc (.cells #[.int .i64 op, .int .i64 rg, .int .i64 ty, .int .i64 nn, .int .i64 fl, .slice ap args.length ac, .slice tp tl tc] 25)) = w1 at *
  have hP2 := hP.alloc (.cells #[.int .i64 op', .int .i64 rg', .int .i64 ty', .int .i64 nn', .int .i64 fl', .slice ap' args'.length ac', .slice tp' tl' tc'] 25)
  have A2 := A1.alloc (.cells #[.int .i64 op', .int .i64 rg', .int .i64 ty', .int .i64 nn', .int .i64 fl', .slice ap' args'.length ac', .slice tp' tl' tc'] 25)
  have B2 : Box (W.heap.size + 1) [.int .i64 op', .int .i64 rg', .int .i64 ty', .int .i64 nn', .int .i64 fl', .slice ap' args'.length ac', .slice tp' tl' tc'] (w1.alloc (.cells #[.int .i64 op', .int .i64 rg', .int .i64 ty', .int .i64 nn', .int .i64 fl', .slice ap' args'.length ac', .slice tp' tl' tc'] 25)) := Box.new w1 (by omega) _ _
  generalize (w1.alloc (.cells #[.int .i64 op', .int .i64 rg', .int .i64 ty', .int .i64 nn', .int .i64 fl', .slice ap' args'.length ac', .slice tp' tl' tc'] 25)) = w2 at *
  have a0 := A2.get 0 _ rfl
  have a1 := A2.get 1 _ rfl
  have a2 := A2.get 2 _ rfl
  have a3 := A2.get 3 _ rfl
  have a4 := A2.get 4 _ rfl
  have a5 := A2.get 5 _ rfl
  have a6 := A2.get 6 _ rfl
  have b0 := B2.get 0 _ rfl
  have b1 := B2.get 1 _ rfl
  have b2 := B2.get 2 _ rfl
  have b3 := B2.get 3 _ rfl
  have b4 := B2.get 4 _ rfl
  have b5 := B2.get 5 _ rfl
  have b6 := B2.get 6 _ rfl
  clear A1 hP z1
  by_cases e0 : op = op'
  · have g0 : (op != op') = false := by simp [e0]
    have E0 := Lib.hid e0
    clear e0
    by_cases e1 : rg = rg'
    · have g1 : (rg != rg') = false := by simp [e1]
      have E1 := Lib.hid e1
      clear e1
      by_cases e2 : ty = ty'
      · have g2 : (ty != ty') = false := by simp [e2]
        have E2 := Lib.hid e2
        clear e2
        by_cases e3 : nn = nn'
        · have g3 : (nn != nn') = false := by simp [e3]
          have E3 := Lib.hid e3
          clear e3
          by_cases e4 : fl = fl'
          · have g4 : (fl != fl') = false := by simp [e4]
            have E4 := Lib.hid e4
            clear e4
            by_cases e5 : args.length = args'.length
            · have g5 : ((args.length : Int) != (args'.length : Int)) = false := by simp [e5]
              have E5 := Lib.hid e5
              clear e5
              go_wp2_with fail
              have SA := Lib.hid A2
              have SB := Lib.hid B2
              clear A2 B2 a0 a1 a2 a3 a4 a5 a6 b0 b1 b2 b3 b4 b5 b6
              go_loopw [5] (fun t wr => ∃ k : Nat, k ≤ args.length ∧ t = .int .i64 k ∧ Below w2.heap.size w2 wr ∧ Hid (∀ i (h1 : i < args.length) (h2 : i < args'.length), i < k → args[i] = args'[i])) (fun t _ => args.length - (intOf t).toNat)
              case atStart => exact ⟨0, Nat.zero_le _, rfl, Below.refl _ _, Lib.hid (fun i _ _ h => absurd h (Nat.not_lt_zero i))⟩
              case round =>
                obtain ⟨k, hk, rfl, hb, hE⟩ := hrel
                have A3 := SA.out.later hb
                have B3 := SB.out.later hb
                have P3 := hP2.trans ⟨hP2.size, hb.mono hP2.size⟩
                have a5 := A3.get 5 _ rfl
                have b5 := B3.get 5 _ rfl
                by_cases hlt : k < args.length
                · have hlt' : k < args'.length := by have := E5.out; omega
                  obtain ⟨a, rfl, ha, hc⟩ := arg_row H.out.1 k hlt
                  obtain ⟨a', rfl, ha', hc'⟩ := arg_row H'.out.1 k hlt'
                  obtain ⟨f0, f1, f2⟩ := hc.below P3.2 (by rw [add_block]; exact ha)
                  obtain ⟨f0', f1', f2'⟩ := hc'.below P3.2 (by rw [add_block]; exact ha')
                  clear hc hc'
                  by_cases q0 : args[k].kind = args'[k].kind ∧ args[k].n = args'[k].n ∧ args[k].bits = args'[k].bits
                  · have HQ : Hid (args[k] = args'[k]) := Lib.hid (arg_ext q0.1 q0.2.1 q0.2.2)
                    obtain ⟨q1, q2, q3⟩ := q0
                    rw [← q1] at f0'
                    rw [← q2] at f1'
                    rw [← q3] at f2'
                    clear q1 q2 q3
                    go_wp2_with fail
                    go_region
                    all_goals go_wp2
                    all_goals exact ⟨⟨k + 1, by omega, by go_num, by first | exact hb | exact below_drew hb, Lib.hid (fun i h1 h2 h3 => by
                      by_cases e : i = k
                      · subst e; exact HQ.out
                      · exact hE.out i h1 h2 (by omega))⟩, by simp [intOf]; omega⟩
                  · have HQ := Lib.hid q0
                    by_cases q1 : args[k].kind = args'[k].kind
                    · rw [← q1] at f0'
                      by_cases q2 : args[k].n = args'[k].n
                      · rw [← q2] at f1'
                        have q3 : ¬ args[k].bits = args'[k].bits := fun q3 => q0 ⟨q1, q2, q3⟩
                        clear q0 q1 q2
                        go_wp2_with fail
                        go_region
                        all_goals go_wp2
                        all_goals go_ret
                        all_goals exact ⟨false, rfl, by simp only [Bool.false_eq_true, false_iff]; intro e; have e2 := congrArg PIns.args e; simp only [insD] at e2; subst e2; exact HQ.out ⟨rfl, rfl, rfl⟩, by first | exact P3.2 | exact below_drew P3.2⟩
                      · clear q0 q1
                        go_wp2_with fail
                        go_region
                        all_goals go_wp2
                        all_goals go_ret
                        all_goals exact ⟨false, rfl, by simp only [Bool.false_eq_true, false_iff]; intro e; have e2 := congrArg PIns.args e; simp only [insD] at e2; subst e2; exact HQ.out ⟨rfl, rfl, rfl⟩, by first | exact P3.2 | exact below_drew P3.2⟩
                    · clear q0
                      go_wp2_with fail
                      go_region
                      all_goals go_wp2
                      all_goals go_ret
                      all_goals exact ⟨false, rfl, by simp only [Bool.false_eq_true, false_iff]; intro e; have e2 := congrArg PIns.args e; simp only [insD] at e2; subst e2; exact HQ.out ⟨rfl, rfl, rfl⟩, by first | exact P3.2 | exact below_drew P3.2⟩
                · have a6 := A3.get 6 _ rfl
                  have b6 := B3.get 6 _ rfl
                  go_wp2_with fail
                  refine (Ints_any wr tp tp' tl tl' tc tc' ts ts' (H.out.2.lasts lasts_NoMem P3.2 P3.2.size) (H'.out.2.lasts lasts_NoMem P3.2 P3.2.size)).mono ?_
                  rintro e w4 ⟨bt, rfl, hbt, hb4⟩
                  go_wp2_with fail
                  go_ret
                  refine ⟨bt, rfl, hbt.trans ?_, P3.2.trans (hb4.mono P3.size)⟩
                  have hargs : args = args' := list_ext E5.out (fun i h1 h2 => hE.out i h1 h2 (by omega))
                  constructor
                  · intro e
                    show (⟨op, rg, ty, nn, fl, args, ts⟩ : PIns) = ⟨op', rg', ty', nn', fl', args', ts'⟩
                    rw [E0.out, E1.out, E2.out, E3.out, E4.out, hargs, e]
                  · exact fun e => congrArg PIns.tg e
            · have g5 : ((args.length : Int) != (args'.length : Int)) = true := by simp; omega
              have E5 := Lib.hid e5
              clear e5
              go_wp2_with fail
              go_ret
              exact ⟨false, rfl, by simp only [Bool.false_eq_true, false_iff]; intro e; exact E5.out (congrArg (fun z : PIns => z.args.length) e), hP2.2⟩
          · have g4 : (fl != fl') = true := by simpa using e4
            have E4 := Lib.hid e4
            clear e4
            go_wp2_with fail
            go_ret
            exact ⟨false, rfl, by simp only [Bool.false_eq_true, false_iff]; intro e; exact E4.out (congrArg (fun z : PIns => z.fl) e), hP2.2⟩
        · have g3 : (nn != nn') = true := by simpa using e3
          have E3 := Lib.hid e3
          clear e3
          go_wp2_with fail
          go_ret
          exact ⟨false, rfl, by simp only [Bool.false_eq_true, false_iff]; intro e; exact E3.out (congrArg (fun z : PIns => z.n) e), hP2.2⟩
      · have g2 : (ty != ty') = true := by simpa using e2
        have E2 := Lib.hid e2
        clear e2
        go_wp2_with fail
        go_ret
        exact ⟨false, rfl, by simp only [Bool.false_eq_true, false_iff]; intro e; exact E2.out (congrArg (fun z : PIns => z.ty) e), hP2.2⟩
    · have g1 : (rg != rg') = true := by simpa using e1
      have E1 := Lib.hid e1
      clear e1
      go_wp2_with fail
      go_ret
      exact ⟨false, rfl, by simp only [Bool.false_eq_true, false_iff]; intro e; exact E1.out (congrArg (fun z : PIns => z.reg) e), hP2.2⟩
  · have g0 : (op != op') = true := by simpa using e0
    have E0 := Lib.hid e0
    clear e0
    go_wp2_with fail
    go_ret
    exact ⟨false, rfl, by simp only [Bool.false_eq_true, false_iff]; intro e; exact E0.out (congrArg (fun z : PIns => z.op) e), hP2.2⟩
end Go.Proofs.Ytpfeiolmkbibiaa
