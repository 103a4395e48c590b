/- Package refine: isOpen, mayEnd, Refines. -/
import Derived.Test.YtglkbnckfkliaaaRfE
namespace Go.Proofs.Ytglkbnckfkliaaa
open Go.RowKit Go.Maps
set_option linter.unusedVariables false
set_option linter.unusedSimpArgs false
set_option maxRecDepth 100000
set_option maxHeartbeats 2000000

theorem Fr.c8 {W w : World} {bs : List (Nat × List Value)} (F : Fr W bs w) (i : Nat) {g : Nat} {v0 v1 v2 v3 v4 v5 v6 v7 : Value} (h : bs[i]? = some (g, [v0, v1, v2, v3, v4, v5, v6, v7])) :
    w.cell? ⟨g, 0, none⟩ = some v0 ∧ w.cell? ⟨g, 1, none⟩ = some v1 ∧ w.cell? ⟨g, 2, none⟩ = some v2 ∧ w.cell? ⟨g, 3, none⟩ = some v3 ∧ w.cell? ⟨g, 4, none⟩ = some v4 ∧ w.cell? ⟨g, 5, none⟩ = some v5 ∧ w.cell? ⟨g, 6, none⟩ = some v6 ∧ w.cell? ⟨g, 7, none⟩ = some v7 :=
  ⟨(F.at i h).2.get 0 _ rfl, (F.at i h).2.get 1 _ rfl, (F.at i h).2.get 2 _ rfl, (F.at i h).2.get 3 _ rfl, (F.at i h).2.get 4 _ rfl, (F.at i h).2.get 5 _ rfl, (F.at i h).2.get 6 _ rfl, (F.at i h).2.get 7 _ rfl⟩
theorem isOpen_any (o : LOut) (W : World) : Calls Try.prog 30 #[o.val] W fun e w' => e = .returned (.bool (isOp o)) ∧ Below W.heap.size W w' := by
  obtain ⟨st, ⟨rk, rb, rbk, ro⟩, ep, en, ec, evs, vp, vn, vc, vars, steps⟩ := o
  show Calls _ _ #[.agg #[.int .i64 st, .int .i64 rk, .int .u64 rb, .int .i64 rbk, .int .i64 ro, .slice ep en ec, .slice vp vn vc, .int .i64 steps]] W fun e w' => e = .returned (.bool (st == 2 || st == 5)) ∧ _
  by_cases h2 : st = 2
  · subst h2
    go_enter Try.func30, Try.ntmps30
    go_wp2_with fail
    go_ret
    exact ⟨rfl, below1 W _⟩
  · have g2 := ne_b h2
    clear h2
    rw [g2, Bool.false_or]
    go_enter Try.func30, Try.ntmps30
    go_wp2_with fail
    go_ret
    exact ⟨rfl, below1 W _⟩
theorem mayEnd_any (o p : LOut) (W : World) (hx : OutIn W.heap.size W o) (hy : OutIn W.heap.size W p) :
    Calls Try.prog 18 #[o.val, p.val] W fun e w' => e = .returned (.bool (mayE o p)) ∧ Below W.heap.size W w' := by
  have cO := fun w => isOpen_any p w
  obtain ⟨s, ⟨rk, rb, rbk, ro⟩, ep, en, ec, evs, vp, vn, vc, vars, steps⟩ := o
  obtain ⟨s', ⟨rk', rb', rbk', ro'⟩, ep', en', ec', evs', vp', vn', vc', vars', steps'⟩ := p
  obtain rfl : en = evs.length := hx.1.1
  obtain rfl : en' = evs'.length := hy.1.1
  obtain rfl : vn = vars.length := hx.2.1
  obtain rfl : vn' = vars'.length := hy.2.1
  have k2 := hx.1.2.1
  have k3 := hx.1.2.2.1
  have k2' := hy.1.2.1
  have k3' := hy.1.2.2.1
  unfold maxLen at k3 k3'
  have hv : LLIn W.heap.size W vp vars.length vc vars := hx.2
  have hv' : LLIn W.heap.size W vp' vars'.length vc' vars' := hy.2
  have F := ((Fr.start W).push (g := W.heap.size) (by simp) [.int .i64 s, .int .i64 rk, .int .u64 rb, .int .i64 rbk, .int .i64 ro, .slice ep evs.length ec, .slice vp vars.length vc, .int .i64 steps] 30).push (g := W.heap.size + 1) (by simp) [.int .i64 s', .int .i64 rk', .int .u64 rb', .int .i64 rbk', .int .i64 ro', .slice ep' evs'.length ec', .slice vp' vars'.length vc', .int .i64 steps'] 30
  have HF := Lib.hid F
  have cV : ∀ w, Calls Try.prog 8 #[.agg #[.int .i64 rk, .int .u64 rb, .int .i64 rbk, .int .i64 ro], .agg #[.int .i64 rk', .int .u64 rb', .int .i64 rbk', .int .i64 ro']] w fun e w' => e = .returned (.bool (refV ⟨rk, rb, rbk, ro⟩ ⟨rk', rb', rbk', ro'⟩)) ∧ Below w.heap.size w w' := fun w => Value_any ⟨rk, rb, rbk, ro⟩ ⟨rk', rb', rbk', ro'⟩ w
  have c2 : ∀ w, Past W.heap.size W w → Calls Try.prog 31 #[.slice vp vars.length vc, .slice vp' vars'.length vc'] w fun e w' => e = .returned (.bool (allB refL vars vars')) ∧ Below w.heap.size w w' := fun w hp => Vars_any vp vp' _ _ vc vc' vars vars' w (hv.lasts lasts_LBy hp.2 hp.size) (hv'.lasts lasts_LBy hp.2 hp.size)
  clear F hv hv' hx hy
  show Calls _ _ #[.agg #[.int .i64 s, .int .i64 rk, .int .u64 rb, .int .i64 rbk, .int .i64 ro, .slice ep evs.length ec, .slice vp vars.length vc, .int .i64 steps], .agg #[.int .i64 s', .int .i64 rk', .int .u64 rb', .int .i64 rbk', .int .i64 ro', .slice ep' evs'.length ec', .slice vp' vars'.length vc', .int .i64 steps']] W _
  have cO : ∀ w, Calls Try.prog 30 #[.agg #[.int .i64 s', .int .i64 rk', .int .u64 rb', .int .i64 rbk', .int .i64 ro', .slice ep' evs'.length ec', .slice vp' vars'.length vc', .int .i64 steps']] w fun e w' => e = .returned (.bool (s' == 2 || s' == 5)) ∧ Below w.heap.size w w' := cO
  unfold mayE isOp
  simp only
  generalize hop : (s' == 2 || s' == 5) = op at cO ⊢
  have HOP := Lib.hid hop
  clear hop
  by_cases h0 : s = 0
  · subst h0
    rw [if_pos rfl]
    cases op
    · rw [if_neg (by decide)]
      by_cases h1 : s' = 0
      · subst h1
        rw [if_pos rfl]
        by_cases h2 : evs'.length = evs.length
        · rw [if_pos h2]
          have hl : ((evs'.length : Int) == (evs.length : Int)) = true := by simp [h2]
          have HL := Lib.hid h2
          clear h2
          cases h3 : refV ⟨rk, rb, rbk, ro⟩ ⟨rk', rb', rbk', ro'⟩
          · rw [if_neg (by decide)]
            rw [h3] at cV
            clear h3
            go_enter Try.func18, Try.ntmps18
            go_wp2_with fail
            go_region
            all_goals
              go_wp2_with (first
                | ((with_reducible refine (cO _).mono ?_); rintro e w1 ⟨rfl, hb⟩; have F := HF.out.drew.later hb; obtain ⟨a0, a1, a2, a3, a4, a5, a6, a7⟩ := F.c8 1 rfl; obtain ⟨b0, b1, b2, b3, b4, b5, b6, b7⟩ := F.c8 0 rfl; replace HF := Lib.hid F; clear F)
                | ((with_reducible refine (cV _).mono ?_); rintro e w2 ⟨rfl, hb⟩; have F := HF.out.later hb; obtain ⟨a0, a1, a2, a3, a4, a5, a6, a7⟩ := F.c8 1 rfl; obtain ⟨b0, b1, b2, b3, b4, b5, b6, b7⟩ := F.c8 0 rfl; replace HF := Lib.hid F; clear F; have c3 := c2 w2 HF.out.past))
              go_ret
              exact ⟨rfl, by first | exact HF.out.1 | exact HF.out.drew.1⟩
          · rw [if_pos rfl]
            rw [h3] at cV
            clear h3
            go_enter Try.func18, Try.ntmps18
            go_wp2_with fail
            go_region
            all_goals
              go_wp2_with (first
                | ((with_reducible refine (cO _).mono ?_); rintro e w1 ⟨rfl, hb⟩; have F := HF.out.drew.later hb; obtain ⟨a0, a1, a2, a3, a4, a5, a6, a7⟩ := F.c8 1 rfl; obtain ⟨b0, b1, b2, b3, b4, b5, b6, b7⟩ := F.c8 0 rfl; replace HF := Lib.hid F; clear F)
                | ((with_reducible refine (cV _).mono ?_); rintro e w2 ⟨rfl, hb⟩; have F := HF.out.later hb; obtain ⟨a0, a1, a2, a3, a4, a5, a6, a7⟩ := F.c8 1 rfl; obtain ⟨b0, b1, b2, b3, b4, b5, b6, b7⟩ := F.c8 0 rfl; replace HF := Lib.hid F; clear F; have c3 := c2 w2 HF.out.past)
                | ((with_reducible refine c3.mono ?_); rintro e w3 ⟨rfl, hb⟩; have F := HF.out.later hb; obtain ⟨a0, a1, a2, a3, a4, a5, a6, a7⟩ := F.c8 1 rfl; obtain ⟨b0, b1, b2, b3, b4, b5, b6, b7⟩ := F.c8 0 rfl; replace HF := Lib.hid F; clear F))
              go_ret
              exact ⟨rfl, by first | exact HF.out.1 | exact HF.out.drew.1⟩
        · rw [if_neg h2]
          have hl : ((evs'.length : Int) == (evs.length : Int)) = false := by simp; omega
          have HL := Lib.hid h2
          clear h2
          go_enter Try.func18, Try.ntmps18
          go_wp2_with fail
          go_region
          all_goals
            go_wp2_with (first
              | ((with_reducible refine (cO _).mono ?_); rintro e w1 ⟨rfl, hb⟩; have F := HF.out.drew.later hb; obtain ⟨a0, a1, a2, a3, a4, a5, a6, a7⟩ := F.c8 1 rfl; obtain ⟨b0, b1, b2, b3, b4, b5, b6, b7⟩ := F.c8 0 rfl; replace HF := Lib.hid F; clear F))
            go_ret
            exact ⟨rfl, by first | exact HF.out.1 | exact HF.out.drew.1⟩
      · rw [if_neg h1]
        have g1 := ne_b h1
        clear h1
        go_enter Try.func18, Try.ntmps18
        go_wp2_with fail
        go_region
        all_goals
          go_wp2_with (first
            | ((with_reducible refine (cO _).mono ?_); rintro e w1 ⟨rfl, hb⟩; have F := HF.out.drew.later hb; obtain ⟨a0, a1, a2, a3, a4, a5, a6, a7⟩ := F.c8 1 rfl; obtain ⟨b0, b1, b2, b3, b4, b5, b6, b7⟩ := F.c8 0 rfl; replace HF := Lib.hid F; clear F))
          go_ret
          exact ⟨rfl, by first | exact HF.out.1 | exact HF.out.drew.1⟩
    · rw [if_pos rfl]
      go_enter Try.func18, Try.ntmps18
      go_wp2_with fail
      go_region
      all_goals
        go_wp2_with (first
          | ((with_reducible refine (cO _).mono ?_); rintro e w1 ⟨rfl, hb⟩; have F := HF.out.drew.later hb; obtain ⟨a0, a1, a2, a3, a4, a5, a6, a7⟩ := F.c8 1 rfl; obtain ⟨b0, b1, b2, b3, b4, b5, b6, b7⟩ := F.c8 0 rfl; replace HF := Lib.hid F; clear F))
        go_ret
        exact ⟨rfl, by first | exact HF.out.1 | exact HF.out.drew.1⟩
  · rw [if_neg h0]
    have g0 := ne_b h0
    have HS : Hid (s = s) := Lib.hid rfl
    by_cases h1 : s = 1 ∨ s = 3 ∨ s = 5
    · rw [if_pos h1]
      clear h0 g0
      rcases h1 with rfl | rfl | rfl
      all_goals
        cases op
        · rw [if_neg (by decide)]
          go_enter Try.func18, Try.ntmps18
          go_wp2_with fail
          go_region
          all_goals
            go_wp2_with (first
              | ((with_reducible refine (cO _).mono ?_); rintro e w1 ⟨rfl, hb⟩; have F := HF.out.drew.later hb; obtain ⟨a0, a1, a2, a3, a4, a5, a6, a7⟩ := F.c8 1 rfl; obtain ⟨b0, b1, b2, b3, b4, b5, b6, b7⟩ := F.c8 0 rfl; replace HF := Lib.hid F; clear F))
            go_ret
            exact ⟨rfl, by first | exact HF.out.1 | exact HF.out.drew.1⟩
        · rw [if_pos rfl]
          go_enter Try.func18, Try.ntmps18
          go_wp2_with fail
          go_region
          all_goals
            go_wp2_with (first
              | ((with_reducible refine (cO _).mono ?_); rintro e w1 ⟨rfl, hb⟩; have F := HF.out.drew.later hb; obtain ⟨a0, a1, a2, a3, a4, a5, a6, a7⟩ := F.c8 1 rfl; obtain ⟨b0, b1, b2, b3, b4, b5, b6, b7⟩ := F.c8 0 rfl; replace HF := Lib.hid F; clear F))
            go_ret
            exact ⟨rfl, by first | exact HF.out.1 | exact HF.out.drew.1⟩
    · rw [if_neg h1]
      have e1 := ne_b (fun h : s = 1 => h1 (.inl h))
      have e3 := ne_b (fun h : s = 3 => h1 (.inr (.inl h)))
      have e5 := ne_b (fun h : s = 5 => h1 (.inr (.inr h)))
      clear h0 h1
      go_enter Try.func18, Try.ntmps18
      go_wp2_with fail
      go_region
      all_goals
        go_wp2_with fail
        go_ret
        exact ⟨rfl, by first | exact HF.out.1 | exact HF.out.drew.1⟩
theorem Refines_any (o p : LOut) (W : World) (hx : OutIn W.heap.size W o) (hy : OutIn W.heap.size W p) :
    Calls Try.prog 12 #[o.val, p.val] W fun e w' => e = .returned (.bool (refO o p)) ∧ Below W.heap.size W w' := by
  have cM : ∀ w, Past W.heap.size W w → Calls Try.prog 18 #[o.val, p.val] w fun e w' => e = .returned (.bool (mayE o p)) ∧ Below w.heap.size w w' := fun w hp => mayEnd_any o p w (past_lasts lasts_Out hx hp) (past_lasts lasts_Out hy hp)
  have er : refO o p = if o.st = 4 then true else if p.st = 4 then false else if tog o.evs p.evs = true then mayE o p else false := rfl
  rw [er]
  clear er
  generalize hm : mayE o p = m at cM ⊢
  clear hm
  obtain ⟨s, ⟨rk, rb, rbk, ro⟩, ep, en, ec, evs, vp, vn, vc, vars, steps⟩ := o
  obtain ⟨s', ⟨rk', rb', rbk', ro'⟩, ep', en', ec', evs', vp', vn', vc', vars', steps'⟩ := p
  obtain rfl : en = evs.length := hx.1.1
  obtain rfl : en' = evs'.length := hy.1.1
  obtain rfl : vn = vars.length := hx.2.1
  obtain rfl : vn' = vars'.length := hy.2.1
  have F := ((Fr.start W).push (g := W.heap.size) (by simp) [.int .i64 s, .int .i64 rk, .int .u64 rb, .int .i64 rbk, .int .i64 ro, .slice ep evs.length ec, .slice vp vars.length vc, .int .i64 steps] 30).push (g := W.heap.size + 1) (by simp) [.int .i64 s', .int .i64 rk', .int .u64 rb', .int .i64 rbk', .int .i64 ro', .slice ep' evs'.length ec', .slice vp' vars'.length vc', .int .i64 steps'] 30
  have P := F.past
  have hv : EvsIn W.heap.size W ep evs.length ec evs := hx.1
  have hv' : EvsIn W.heap.size W ep' evs'.length ec' evs' := hy.1
  have c1 : Calls Try.prog 17 #[.slice ep evs.length ec, .slice ep' evs'.length ec'] ((W.alloc (.cells #[.int .i64 s, .int .i64 rk, .int .u64 rb, .int .i64 rbk, .int .i64 ro, .slice ep evs.length ec, .slice vp vars.length vc, .int .i64 steps] 30)).alloc (.cells #[.int .i64 s', .int .i64 rk', .int .u64 rb', .int .i64 rbk', .int .i64 ro', .slice ep' evs'.length ec', .slice vp' vars'.length vc', .int .i64 steps'] 30)) fun e w' => e = .returned (.bool (tog evs evs')) ∧ Fr W [(W.heap.size + 1, [.int .i64 s', .int .i64 rk', .int .u64 rb', .int .i64 rbk', .int .i64 ro', .slice ep' evs'.length ec', .slice vp' vars'.length vc', .int .i64 steps']), (W.heap.size, [.int .i64 s, .int .i64 rk, .int .u64 rb, .int .i64 rbk, .int .i64 ro, .slice ep evs.length ec, .slice vp vars.length vc, .int .i64 steps])] w' := by
    refine (Together_any ep ep' _ _ ec ec' evs evs' _ (hv.lasts lasts_Ev P.2 P.size) (hv'.lasts lasts_Ev P.2 P.size)).mono ?_
    rintro e w' ⟨rfl, hb⟩
    exact ⟨rfl, F.later hb⟩
  have HF := Lib.hid F
  clear F P hv hv' hx hy
  show Calls _ _ #[.agg #[.int .i64 s, .int .i64 rk, .int .u64 rb, .int .i64 rbk, .int .i64 ro, .slice ep evs.length ec, .slice vp vars.length vc, .int .i64 steps], .agg #[.int .i64 s', .int .i64 rk', .int .u64 rb', .int .i64 rbk', .int .i64 ro', .slice ep' evs'.length ec', .slice vp' vars'.length vc', .int .i64 steps']] W _
  have cM : ∀ w, Past W.heap.size W w → Calls Try.prog 18 #[.agg #[.int .i64 s, .int .i64 rk, .int .u64 rb, .int .i64 rbk, .int .i64 ro, .slice ep evs.length ec, .slice vp vars.length vc, .int .i64 steps], .agg #[.int .i64 s', .int .i64 rk', .int .u64 rb', .int .i64 rbk', .int .i64 ro', .slice ep' evs'.length ec', .slice vp' vars'.length vc', .int .i64 steps']] w fun e w' => e = .returned (.bool m) ∧ Below w.heap.size w w' := cM
  simp only
  by_cases h0 : s = 4
  · subst h0
    rw [if_pos rfl]
    go_enter Try.func12, Try.ntmps12
    go_wp2_with fail
    go_ret
    exact ⟨rfl, HF.out.1⟩
  · rw [if_neg h0]
    have g0 := ne_b h0
    clear h0
    by_cases h1 : s' = 4
    · subst h1
      rw [if_pos rfl]
      go_enter Try.func12, Try.ntmps12
      go_wp2_with fail
      go_ret
      exact ⟨rfl, HF.out.1⟩
    · rw [if_neg h1]
      have g1 := ne_b h1
      have g2 := ne_n h1
      clear h1
      cases h2 : tog evs evs'
      · rw [if_neg (by decide)]
        rw [h2] at c1
        clear h2
        go_enter Try.func12, Try.ntmps12
        go_wp2_with (first
          | ((with_reducible refine c1.mono ?_); rintro e w1 ⟨rfl, F⟩; obtain ⟨a0, a1, a2, a3, a4, a5, a6, a7⟩ := F.c8 1 rfl; obtain ⟨b0, b1, b2, b3, b4, b5, b6, b7⟩ := F.c8 0 rfl; replace HF := Lib.hid F; clear F; have c3 := cM w1 HF.out.past))
        go_ret
        exact ⟨rfl, HF.out.1⟩
      · rw [if_pos rfl]
        rw [h2] at c1
        clear h2
        go_enter Try.func12, Try.ntmps12
        go_wp2_with (first
          | ((with_reducible refine c1.mono ?_); rintro e w1 ⟨rfl, F⟩; obtain ⟨a0, a1, a2, a3, a4, a5, a6, a7⟩ := F.c8 1 rfl; obtain ⟨b0, b1, b2, b3, b4, b5, b6, b7⟩ := F.c8 0 rfl; replace HF := Lib.hid F; clear F; have c3 := cM w1 HF.out.past)
          | ((with_reducible refine c3.mono ?_); rintro e w3 ⟨rfl, hb⟩; have F := HF.out.later hb; obtain ⟨a0, a1, a2, a3, a4, a5, a6, a7⟩ := F.c8 1 rfl; obtain ⟨b0, b1, b2, b3, b4, b5, b6, b7⟩ := F.c8 0 rfl; replace HF := Lib.hid F; clear F))
        go_ret
        exact ⟨rfl, HF.out.1⟩
end Go.Proofs.Ytglkbnckfkliaaa
