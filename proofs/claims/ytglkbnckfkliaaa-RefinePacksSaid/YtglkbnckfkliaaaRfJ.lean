/- The document's answers for refine: Refines. -/
import Derived.Test.YtglkbnckfkliaaaRfI
namespace Go.Proofs.Ytglkbnckfkliaaa
open Go.RowKit Go.Maps
set_option linter.unusedVariables false
set_option linter.unusedSimpArgs false
set_option maxRecDepth 100000
set_option maxHeartbeats 4000000

theorem rRefines_any (o p : LOut) (W : World) (hx : OutIn W.heap.size W o) (hy : OutIn W.heap.size W p) :
    Calls Try.prog 13 #[o.val, p.val] W fun e w' => e = .returned (.bool (refO o p)) ∧ Below W.heap.size W w' := by
  have cT : ∀ w, Past W.heap.size W w → Calls Try.prog 19 #[o.val, p.val] w fun e w' => e = .returned (.bool (tog o.evs p.evs)) ∧ Below w.heap.size w w' := fun w hp => rTogether_any o p w (past_lasts lasts_Out hx hp) (past_lasts lasts_Out hy hp)
  unfold refO mayE isOp
  obtain ⟨s, ⟨rk, rb, rbk, ro⟩, ep, en, ec, evs, vp, vn, vc, vars, steps⟩ := o
  obtain ⟨s', ⟨rk', rb', rbk', ro'⟩, ep', en', ec', evs', vp', vn', vc', vars', steps'⟩ := p
  obtain rfl : en = evs.length := hx.1.1
  obtain rfl : en' = evs'.length := hy.1.1
  obtain rfl : vn = vars.length := hx.2.1
  obtain rfl : vn' = vars'.length := hy.2.1
  have k2 := hx.1.2.1
  have k3 := hx.1.2.2.1
  have k2' := hy.1.2.1
  have k3' := hy.1.2.2.1
  unfold maxLen at k3 k3'
  have hv : LLIn W.heap.size W vp vars.length vc vars := hx.2
  have hv' : LLIn W.heap.size W vp' vars'.length vc' vars' := hy.2
  have F := ((Fr.start W).push (g := W.heap.size) (by simp) [.int .i64 s, .int .i64 rk, .int .u64 rb, .int .i64 rbk, .int .i64 ro, .slice ep evs.length ec, .slice vp vars.length vc, .int .i64 steps] 30).push (g := W.heap.size + 1) (by simp) [.int .i64 s', .int .i64 rk', .int .u64 rb', .int .i64 rbk', .int .i64 ro', .slice ep' evs'.length ec', .slice vp' vars'.length vc', .int .i64 steps'] 30
  have P := F.past
  have cV : ∀ w, Calls Try.prog 9 #[.agg #[.int .i64 rk, .int .u64 rb, .int .i64 rbk, .int .i64 ro], .agg #[.int .i64 rk', .int .u64 rb', .int .i64 rbk', .int .i64 ro']] w fun e w' => e = .returned (.bool (refV ⟨rk, rb, rbk, ro⟩ ⟨rk', rb', rbk', ro'⟩)) ∧ Below w.heap.size w w' := fun w => rValue_any ⟨rk, rb, rbk, ro⟩ ⟨rk', rb', rbk', ro'⟩ w
  have c2 : ∀ w, Past W.heap.size W w → Calls Try.prog 20 #[.slice vp vars.length vc, .slice vp' vars'.length vc'] w fun e w' => e = .returned (.bool (allB refL vars vars')) ∧ Below w.heap.size w w' := fun w hp => rBytes_any vp vp' _ _ vc vc' vars vars' w (hv.lasts lasts_LBy hp.2 hp.size) (hv'.lasts lasts_LBy hp.2 hp.size)
  have c1 : Calls Try.prog 19 #[.agg #[.int .i64 s, .int .i64 rk, .int .u64 rb, .int .i64 rbk, .int .i64 ro, .slice ep evs.length ec, .slice vp vars.length vc, .int .i64 steps], .agg #[.int .i64 s', .int .i64 rk', .int .u64 rb', .int .i64 rbk', .int .i64 ro', .slice ep' evs'.length ec', .slice vp' vars'.length vc', .int .i64 steps']] ((W.alloc (.cells #[.int .i64 s, .int .i64 rk, .int .u64 rb, .int .i64 rbk, .int .i64 ro, .slice ep evs.length ec, .slice vp vars.length vc, .int .i64 steps] 30)).alloc (.cells #[.int .i64 s', .int .i64 rk', .int .u64 rb', .int .i64 rbk', .int .i64 ro', .slice ep' evs'.length ec', .slice vp' vars'.length vc', .int .i64 steps'] 30)) fun e w' => e = .returned (.bool (tog evs evs')) ∧ Fr W [(W.heap.size + 1, [.int .i64 s', .int .i64 rk', .int .u64 rb', .int .i64 rbk', .int .i64 ro', .slice ep' evs'.length ec', .slice vp' vars'.length vc', .int .i64 steps']), (W.heap.size, [.int .i64 s, .int .i64 rk, .int .u64 rb, .int .i64 rbk, .int .i64 ro, .slice ep evs.length ec, .slice vp vars.length vc, .int .i64 steps])] w' := by
    refine (cT _ P).mono ?_
    rintro e w' ⟨rfl, hb⟩
    exact ⟨rfl, F.later hb⟩
  have HF := Lib.hid F
  clear F P hv hv' hx hy cT
  show Calls _ _ #[.agg #[.int .i64 s, .int .i64 rk, .int .u64 rb, .int .i64 rbk, .int .i64 ro, .slice ep evs.length ec, .slice vp vars.length vc, .int .i64 steps], .agg #[.int .i64 s', .int .i64 rk', .int .u64 rb', .int .i64 rbk', .int .i64 ro', .slice ep' evs'.length ec', .slice vp' vars'.length vc', .int .i64 steps']] W _
  simp only
  by_cases h4 : s = 4
  · subst h4
    rw [if_pos rfl]
    go_enter Try.func13, Try.ntmps13
    go_wp2_with fail
    go_ret
    exact ⟨rfl, HF.out.1⟩
  · rw [if_neg h4]
    have g4 := ne_b h4
    clear h4
    cases ht : tog evs evs'
    · have er : ∀ x : Bool, (if s' = 4 then false else if false = true then x else false) = false := fun x => by split <;> rfl
      rw [er, ← ht]
      have HT := Lib.hid ht
      rw [ht] at c1 ⊢
      clear ht er
      go_enter Try.func13, Try.ntmps13
      go_wp2_with (first
        | ((with_reducible refine c1.mono ?_); rintro e w1 ⟨rfl, F⟩; obtain ⟨a0, a1, a2, a3, a4, a5, a6, a7⟩ := F.c8 1 rfl; obtain ⟨b0, b1, b2, b3, b4, b5, b6, b7⟩ := F.c8 0 rfl; replace HF := Lib.hid F; clear F))
      go_ret
      exact ⟨rfl, HF.out.1⟩
    · rw [ht] at c1
      clear ht
      by_cases h4' : s' = 4
      · subst h4'
        rw [if_pos rfl]
        go_enter Try.func13, Try.ntmps13
        go_wp2_with (first
          | ((with_reducible refine c1.mono ?_); rintro e w1 ⟨rfl, F⟩; obtain ⟨a0, a1, a2, a3, a4, a5, a6, a7⟩ := F.c8 1 rfl; obtain ⟨b0, b1, b2, b3, b4, b5, b6, b7⟩ := F.c8 0 rfl; replace HF := Lib.hid F; clear F))
        go_ret
        exact ⟨rfl, HF.out.1⟩
      · rw [if_neg h4', if_pos rfl]
        have g4' := ne_b h4'
        by_cases h0 : s = 0
        · subst h0
          rw [if_pos rfl]
          by_cases h2 : s' = 2
          · subst h2
            rw [if_pos (by decide)]
            clear h4'
            go_enter Try.func13, Try.ntmps13
            go_wp2_with (first
              | ((with_reducible refine c1.mono ?_); rintro e w1 ⟨rfl, F⟩; obtain ⟨a0, a1, a2, a3, a4, a5, a6, a7⟩ := F.c8 1 rfl; obtain ⟨b0, b1, b2, b3, b4, b5, b6, b7⟩ := F.c8 0 rfl; replace HF := Lib.hid F; clear F))
            go_ret
            exact ⟨rfl, HF.out.1⟩
          · have g2 := ne_b h2
            by_cases h5 : s' = 5
            · subst h5
              rw [if_pos (by decide)]
              clear h4'
              go_enter Try.func13, Try.ntmps13
              go_wp2_with (first
                | ((with_reducible refine c1.mono ?_); rintro e w1 ⟨rfl, F⟩; obtain ⟨a0, a1, a2, a3, a4, a5, a6, a7⟩ := F.c8 1 rfl; obtain ⟨b0, b1, b2, b3, b4, b5, b6, b7⟩ := F.c8 0 rfl; replace HF := Lib.hid F; clear F))
              go_ret
              exact ⟨rfl, HF.out.1⟩
            · have g5 := ne_b h5
              rw [show (s' == 2 || s' == 5) = false by simp [h2, h5], if_neg (by decide)]
              clear h2 h5 h4'
              by_cases h1 : s' = 0
              · subst h1
                rw [if_pos rfl]
                by_cases hl : evs'.length = evs.length
                · rw [if_pos hl]
                  have hl2 : ((evs'.length : Int) != (evs.length : Int)) = false := by simp [hl]
                  have HL := Lib.hid hl
                  clear hl
                  cases h3 : refV ⟨rk, rb, rbk, ro⟩ ⟨rk', rb', rbk', ro'⟩
                  · rw [if_neg (by decide)]
                    rw [h3] at cV
                    clear h3
                    go_enter Try.func13, Try.ntmps13
                    go_wp2_with (first
                      | ((with_reducible refine c1.mono ?_); rintro e w1 ⟨rfl, F⟩; obtain ⟨a0, a1, a2, a3, a4, a5, a6, a7⟩ := F.c8 1 rfl; obtain ⟨b0, b1, b2, b3, b4, b5, b6, b7⟩ := F.c8 0 rfl; replace HF := Lib.hid F; clear F)
                      | ((with_reducible refine (cV _).mono ?_); rintro e w2 ⟨rfl, hb⟩; have F := HF.out.later hb; obtain ⟨a0, a1, a2, a3, a4, a5, a6, a7⟩ := F.c8 1 rfl; obtain ⟨b0, b1, b2, b3, b4, b5, b6, b7⟩ := F.c8 0 rfl; replace HF := Lib.hid F; clear F; have c3 := c2 w2 HF.out.past)
                      | ((with_reducible refine c3.mono ?_); rintro e w3 ⟨rfl, hb⟩; have F := HF.out.later hb; obtain ⟨a0, a1, a2, a3, a4, a5, a6, a7⟩ := F.c8 1 rfl; obtain ⟨b0, b1, b2, b3, b4, b5, b6, b7⟩ := F.c8 0 rfl; replace HF := Lib.hid F; clear F))
                    go_ret
                    exact ⟨rfl, HF.out.1⟩
                  · rw [if_pos rfl]
                    rw [h3] at cV
                    clear h3
                    go_enter Try.func13, Try.ntmps13
                    go_wp2_with (first
                      | ((with_reducible refine c1.mono ?_); rintro e w1 ⟨rfl, F⟩; obtain ⟨a0, a1, a2, a3, a4, a5, a6, a7⟩ := F.c8 1 rfl; obtain ⟨b0, b1, b2, b3, b4, b5, b6, b7⟩ := F.c8 0 rfl; replace HF := Lib.hid F; clear F)
                      | ((with_reducible refine (cV _).mono ?_); rintro e w2 ⟨rfl, hb⟩; have F := HF.out.later hb; obtain ⟨a0, a1, a2, a3, a4, a5, a6, a7⟩ := F.c8 1 rfl; obtain ⟨b0, b1, b2, b3, b4, b5, b6, b7⟩ := F.c8 0 rfl; replace HF := Lib.hid F; clear F; have c3 := c2 w2 HF.out.past)
                      | ((with_reducible refine c3.mono ?_); rintro e w3 ⟨rfl, hb⟩; have F := HF.out.later hb; obtain ⟨a0, a1, a2, a3, a4, a5, a6, a7⟩ := F.c8 1 rfl; obtain ⟨b0, b1, b2, b3, b4, b5, b6, b7⟩ := F.c8 0 rfl; replace HF := Lib.hid F; clear F))
                    go_ret
                    exact ⟨rfl, HF.out.1⟩
                · rw [if_neg hl]
                  have hl2 : ((evs'.length : Int) != (evs.length : Int)) = true := by simp; omega
                  have HL := Lib.hid hl
                  clear hl
                  go_enter Try.func13, Try.ntmps13
                  go_wp2_with (first
                    | ((with_reducible refine c1.mono ?_); rintro e w1 ⟨rfl, F⟩; obtain ⟨a0, a1, a2, a3, a4, a5, a6, a7⟩ := F.c8 1 rfl; obtain ⟨b0, b1, b2, b3, b4, b5, b6, b7⟩ := F.c8 0 rfl; replace HF := Lib.hid F; clear F))
                  go_ret
                  exact ⟨rfl, HF.out.1⟩
              · rw [if_neg h1]
                have g1 := ne_n h1
                have g1' := ne_b h1
                clear h1
                go_enter Try.func13, Try.ntmps13
                go_wp2_with (first
                  | ((with_reducible refine c1.mono ?_); rintro e w1 ⟨rfl, F⟩; obtain ⟨a0, a1, a2, a3, a4, a5, a6, a7⟩ := F.c8 1 rfl; obtain ⟨b0, b1, b2, b3, b4, b5, b6, b7⟩ := F.c8 0 rfl; replace HF := Lib.hid F; clear F))
                go_ret
                exact ⟨rfl, HF.out.1⟩
        · rw [if_neg h0]
          have g0 := ne_b h0
          by_cases h1 : s = 1 ∨ s = 3 ∨ s = 5
          · rw [if_pos h1]
            clear h0 g0 g4
            rcases h1 with rfl | rfl | rfl
            all_goals
              by_cases h2 : s' = 2
              · subst h2
                rw [if_pos (by decide)]
                clear h4'
                go_enter Try.func13, Try.ntmps13
                go_wp2_with (first
                  | ((with_reducible refine c1.mono ?_); rintro e w1 ⟨rfl, F⟩; obtain ⟨a0, a1, a2, a3, a4, a5, a6, a7⟩ := F.c8 1 rfl; obtain ⟨b0, b1, b2, b3, b4, b5, b6, b7⟩ := F.c8 0 rfl; replace HF := Lib.hid F; clear F))
                go_ret
                exact ⟨rfl, HF.out.1⟩
              · by_cases h5 : s' = 5
                · subst h5
                  rw [if_pos (by decide)]
                  clear h4'
                  have g2 := ne_b h2
                  go_enter Try.func13, Try.ntmps13
                  go_wp2_with (first
                    | ((with_reducible refine c1.mono ?_); rintro e w1 ⟨rfl, F⟩; obtain ⟨a0, a1, a2, a3, a4, a5, a6, a7⟩ := F.c8 1 rfl; obtain ⟨b0, b1, b2, b3, b4, b5, b6, b7⟩ := F.c8 0 rfl; replace HF := Lib.hid F; clear F))
                  go_ret
                  exact ⟨rfl, HF.out.1⟩
                · have g2 := ne_b h2
                  have g5 := ne_b h5
                  rw [show (s' == 2 || s' == 5) = false by simp [h2, h5], if_neg (by decide)]
                  clear h2 h5 h4'
                  go_enter Try.func13, Try.ntmps13
                  go_wp2_with (first
                    | ((with_reducible refine c1.mono ?_); rintro e w1 ⟨rfl, F⟩; obtain ⟨a0, a1, a2, a3, a4, a5, a6, a7⟩ := F.c8 1 rfl; obtain ⟨b0, b1, b2, b3, b4, b5, b6, b7⟩ := F.c8 0 rfl; replace HF := Lib.hid F; clear F))
                  go_ret
                  exact ⟨rfl, HF.out.1⟩
          · rw [if_neg h1]
            have e1 := ne_b (fun h : s = 1 => h1 (.inl h))
            have e3 := ne_b (fun h : s = 3 => h1 (.inr (.inl h)))
            have e5 := ne_b (fun h : s = 5 => h1 (.inr (.inr h)))
            clear h0 h1 h4'
            go_enter Try.func13, Try.ntmps13
            go_wp2_with (first
              | ((with_reducible refine c1.mono ?_); rintro e w1 ⟨rfl, F⟩; obtain ⟨a0, a1, a2, a3, a4, a5, a6, a7⟩ := F.c8 1 rfl; obtain ⟨b0, b1, b2, b3, b4, b5, b6, b7⟩ := F.c8 0 rfl; replace HF := Lib.hid F; clear F))
            go_ret
            exact ⟨rfl, HF.out.1⟩
end Go.Proofs.Ytglkbnckfkliaaa
