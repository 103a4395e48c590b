/- The document's answers for refine: Together. -/
import Derived.Test.YtglkbnckfkliaaaRfH
import Derived.Test.YtglkbnckfkliaaaRfF
namespace Go.Proofs.Ytglkbnckfkliaaa
open Go.RowKit Go.Maps
set_option linter.unusedVariables false
set_option linter.unusedSimpArgs false
set_option maxRecDepth 100000
set_option maxHeartbeats 4000000

theorem tog_at {l l' : List LEv} {k : Nat} (h1 : k < l.length) (h2 : k < l'.length) (h : refE l[k] l'[k] = false) : tog l l' = false := by
  unfold tog
  refine allB_not k (by rw [List.length_take]; omega) (by rw [List.length_take]; omega) ?_
  rw [List.getElem_take, List.getElem_take]
  exact h
theorem tog_all {l l' : List LEv} {k : Nat} (hk : min l.length l'.length ≤ k) (h : ∀ i (h1 : i < l.length) (h2 : i < l'.length), i < k → refE l[i] l'[i] = true) : tog l l' = true := by
  unfold tog
  refine allB_all (by rw [List.length_take, List.length_take]; omega) fun i h1 h2 => ?_
  rw [List.length_take] at h1 h2
  rw [List.getElem_take, List.getElem_take]
  exact h i (by omega) (by omega) (by omega)
theorem rTogether_any (o p : LOut) (W : World) (hx : OutIn W.heap.size W o) (hy : OutIn W.heap.size W p) :
    Calls Try.prog 19 #[o.val, p.val] W fun e w' => e = .returned (.bool (tog o.evs p.evs)) ∧ Below W.heap.size W w' := by
  obtain ⟨s, ⟨rk, rb, rbk, ro⟩, ep, en, ec, evs, vp, vn, vc, vars, steps⟩ := o
  obtain ⟨s', ⟨rk', rb', rbk', ro'⟩, ep', en', ec', evs', vp', vn', vc', vars', steps'⟩ := p
  have hv : EvsIn W.heap.size W ep en ec evs := hx.1
  have hv' : EvsIn W.heap.size W ep' en' ec' evs' := hy.1
  obtain rfl : en = evs.length := hv.1
  obtain rfl : en' = evs'.length := hv'.1
  have F := ((Fr.start W).push (g := W.heap.size) (by simp) [.int .i64 s, .int .i64 rk, .int .u64 rb, .int .i64 rbk, .int .i64 ro, .slice ep evs.length ec, .slice vp vn vc, .int .i64 steps] 30).push (g := W.heap.size + 1) (by simp) [.int .i64 s', .int .i64 rk', .int .u64 rb', .int .i64 rbk', .int .i64 ro', .slice ep' evs'.length ec', .slice vp' vn' vc', .int .i64 steps'] 30
  have k2 := hv.2.1
  have k3 := hv.2.2.1
  have k2' := hv'.2.1
  have k3' := hv'.2.2.1
  unfold maxLen at k3 k3'
  have H := Lib.hid hv
  have H' := Lib.hid hv'
  have HF := Lib.hid F
  clear hv hv' hx hy F
  show Calls _ _ #[.agg #[.int .i64 s, .int .i64 rk, .int .u64 rb, .int .i64 rbk, .int .i64 ro, .slice ep evs.length ec, .slice vp vn vc, .int .i64 steps], .agg #[.int .i64 s', .int .i64 rk', .int .u64 rb', .int .i64 rbk', .int .i64 ro', .slice ep' evs'.length ec', .slice vp' vn' vc', .int .i64 steps']] W fun e w' => e = .returned (.bool (tog evs evs')) ∧ Below W.heap.size W w'
  go_enter Try.func19, Try.ntmps19
  go_wp2_with fail
  go_loopw [5] (fun ti wr => ∃ (i : Nat), i ≤ evs.length ∧ ti = .int .i64 i ∧ Hid (Fr W [(W.heap.size + 1, [.int .i64 s', .int .i64 rk', .int .u64 rb', .int .i64 rbk', .int .i64 ro', .slice ep' evs'.length ec', .slice vp' vn' vc', .int .i64 steps']), (W.heap.size, [.int .i64 s, .int .i64 rk, .int .u64 rb, .int .i64 rbk, .int .i64 ro, .slice ep evs.length ec, .slice vp vn vc, .int .i64 steps])] wr) ∧ Hid (∀ j (h1 : j < evs.length) (h2 : j < evs'.length), j < i → refE evs[j] evs'[j] = true)) (fun ti _ => evs.length - (intOf ti).toNat)
  case atStart => exact ⟨0, Nat.zero_le _, rfl, HF, Lib.hid fun i _ _ hi => absurd hi (Nat.not_lt_zero _)⟩
  case round =>
    obtain ⟨i, hi, rfl, hF, hE⟩ := hrel
    obtain ⟨a0, a1, a2, a3, a4, a5, a6, a7⟩ := hF.out.c8 1 rfl
    obtain ⟨b0, b1, b2, b3, b4, b5, b6, b7⟩ := hF.out.c8 0 rfl
    by_cases hlt : i < evs.length
    · by_cases hlt' : i < evs'.length
      · have hb := hF.out.past
        obtain ⟨ax, rfl, hax, u0, u1, u2⟩ := ev_row H.out i hlt
        obtain ⟨ay, rfl, hay, v0, v1, v2⟩ := ev_row H'.out i hlt'
        have hax2 : (ax.add (i * 3)).block < W.heap.size := by rw [add_block]; exact hax
        have hay2 : (ay.add (i * 3)).block < W.heap.size := by rw [add_block]; exact hay
        have u0 := (hb.2.cell (p := ax.add (i * 3)) hax2).trans u0
        have u1 := (hb.2.cell (p := ⟨(ax.add (i * 3)).block, (ax.add (i * 3)).off + 1, none⟩) hax2).trans u1
        have u2 := (hb.2.cell (p := ⟨(ax.add (i * 3)).block, (ax.add (i * 3)).off + 2, none⟩) hax2).trans u2
        have v0 := (hb.2.cell (p := ay.add (i * 3)) hay2).trans v0
        have v1 := (hb.2.cell (p := ⟨(ay.add (i * 3)).block, (ay.add (i * 3)).off + 1, none⟩) hay2).trans v1
        have v2 := (hb.2.cell (p := ⟨(ay.add (i * 3)).block, (ay.add (i * 3)).off + 2, none⟩) hay2).trans v2
        have e1 := Lib.hid (H.out.2.2.2.2 _ (List.getElem_mem hlt))
        have e2 := Lib.hid (H'.out.2.2.2.2 _ (List.getElem_mem hlt'))
        have cB : ∀ w, Past W.heap.size W w → Calls Try.prog 32 #[.agg #[.int .i64 evs[i].ext, .slice evs[i].ap evs[i].an evs[i].ac, .slice evs[i].vp evs[i].vn evs[i].vc], .agg #[.int .i64 evs'[i].ext, .slice evs'[i].ap evs'[i].an evs'[i].ac, .slice evs'[i].vp evs'[i].vn evs'[i].vc]] w fun e w' => e = .returned (.bool (refE evs[i] evs'[i])) ∧ Below w.heap.size w w' := fun w hp => rEvent_any evs[i] evs'[i] w (past_lasts lasts_Ev e1.out hp) (past_lasts lasts_Ev e2.out hp)
        have cB0 := cB _ hb
        have cB1 := cB _ hb.drew
        clear cB hb
        cases hz : refE evs[i] evs'[i]
        · have hr := tog_at hlt hlt' hz
          have HR := Lib.hid hr
          simp only [hz] at cB0 cB1
          clear hr hz
          go_wp2_with fail
          go_region_law (go_simp; first | ((with_reducible refine cB0.mono ?_); rintro e w5 ⟨rfl, hb5⟩) | ((with_reducible refine cB1.mono ?_); rintro e w5 ⟨rfl, hb5⟩))
          all_goals
            go_wp2_with fail
            go_ret
            rw [HR.out]
            exact ⟨rfl, by first | exact (hF.out.later hb5).1 | exact (hF.out.drew.later hb5).1⟩
        · have IS := Lib.hid (show ∀ j (h1 : j < evs.length) (h2 : j < evs'.length), j < i + 1 → refE evs[j] evs'[j] = true from fun j h1 h2 hj => by
            by_cases q : j = i
            · subst q; exact hz
            · exact hE.out j h1 h2 (by omega))
          simp only [hz] at cB0 cB1
          clear hz
          go_wp2_with fail
          go_region_law (go_simp; first | ((with_reducible refine cB0.mono ?_); rintro e w5 ⟨rfl, hb5⟩) | ((with_reducible refine cB1.mono ?_); rintro e w5 ⟨rfl, hb5⟩))
          all_goals
            go_wp2_with fail
            exact ⟨⟨i + 1, by omega, by go_num, Lib.hid (by first | exact hF.out.later hb5 | exact hF.out.drew.later hb5), IS⟩, by simp [intOf]; omega⟩
      · have hr := tog_all (k := i) (by omega) hE.out
        have HR := Lib.hid hr
        clear hr
        go_wp2_with fail
        go_ret
        rw [HR.out]
        exact ⟨rfl, hF.out.1⟩
    · have hr := tog_all (k := i) (by omega) hE.out
      have HR := Lib.hid hr
      clear hr
      go_wp2_with fail
      go_ret
      rw [HR.out]
      exact ⟨rfl, hF.out.1⟩
end Go.Proofs.Ytglkbnckfkliaaa
