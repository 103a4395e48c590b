/- The document's Def (package latheref02), of any function. -/
import Derived.Test.YtpfeiolmkbibiaaIrR
namespace Go.Proofs.Ytpfeiolmkbibiaa
open Go.RowKit Go.Maps
set_option linter.unusedVariables false
set_option linter.unusedSimpArgs false

theorem plAt_flat {w : World} {B : Nat} {vp : Value} {l : List (List Ins)} (hlen : (places l).length = l.flatten.length) (h : w.ownsRow B 47 3 vp l.flatten.length (placesC l l.length 0)) : PlAt w.heap.size w vp (places l) := by
  rw [placesC_eq, ← hlen] at h
  exact plAt_own h
theorem places_len (l : List (List Ins)) : (places l).length = l.flatten.length := by
  have h : ∀ b, b ≤ l.length → ((List.range b).flatMap fun i => (List.range (l.getD i []).length).map fun k => (i, k)).length = ((l.take b).flatten).length := by
    intro b
    induction b with
    | zero => intro _; simp
    | succ b ih =>
      intro hb
      have hb2 : b < l.length := hb
      rw [List.range_succ, List.flatMap_append, List.length_append, ih (by omega), takeF_succ l b hb]
      simp [List.getD_eq_getElem?_getD, hb2]
  have := h l.length (Nat.le_refl _)
  rw [List.take_length] at this
  exact this

set_option maxRecDepth 100000 in
set_option maxHeartbeats 2000000 in
theorem rDef_any (W : World) (s0 : ByteArray) (p1 : Option Addr) (n1 c1 : Nat) (rt reg : Int) (p2 : Option Addr) (n2 c2 : Nat) (l : List (List Ins)) (hl : BlocksAt W.heap.size W (.slice p2 n2 c2) l) (hc : l.flatten.length ≤ 1048576) :
    Calls Try.prog 27 #[.agg #[.string s0, .slice p1 n1 c1, .int .i64 rt, .slice p2 n2 c2], .int .i64 reg] W (DefEnds W.heap.size l reg W) := by
  have hP := ((Past.refl (Nat.le_refl W.heap.size)).alloc (.cells #[.string s0, .slice p1 n1 c1, .int .i64 rt, .slice p2 n2 c2] 41)).alloc (.cells #[.int .i64 0, .int .i64 0, .int .i64 0] 47)
  have T0 : Tri W.heap.size (W.heap.size + 1) (.int .i64 0) (.int .i64 0) (.int .i64 0) ((W.alloc (.cells #[.string s0, .slice p1 n1 c1, .int .i64 rt, .slice p2 n2 c2] 41)).alloc (.cells #[.int .i64 0, .int .i64 0, .int .i64 0] 47)) := Tri.newAt _ (by omega) (by simp) _ _ _ _
  have cC := Code_any ((W.alloc (.cells #[.string s0, .slice p1 n1 c1, .int .i64 rt, .slice p2 n2 c2] 41)).alloc (.cells #[.int .i64 0, .int .i64 0, .int .i64 0] 47)) s0 p1 n1 c1 rt p2 n2 c2 l ((hl.below hP.2).mono hP.size) hc
  obtain ⟨L, eL⟩ : ∃ L, l.flatten = L := ⟨_, rfl⟩
  obtain ⟨ps, eps⟩ : ∃ ps, places l = ps := ⟨_, rfl⟩
  have hlen : ps.length = L.length := by rw [← eps, ← eL]; exact places_len l
  have hc' : L.length ≤ 1048576 := by rw [← eL]; exact hc
  have DN : Hid ((∀ i (hi : i < L.length), mk reg L[i] = false) → DefS l reg l.length 0 false 0 0) := Lib.hid (by subst eL; exact defS_none)
  have DS : Hid (∀ i (hi : i < L.length), mk reg L[i] = true → (∀ j (hj : j < L.length), j < i → mk reg L[j] = false) → ∀ (hp : i < ps.length), DefS l reg l.length 0 true (ps[i]).1 (ps[i]).2) :=
    Lib.hid (by subst eL eps; exact fun i hi hm hn hp => defS_some hi hm hn (List.getElem?_eq_getElem hp))
  have PL : Hid (∀ (w : World) (B : Nat) (vp : Value), w.ownsRow B 47 3 vp l.flatten.length (placesC l l.length 0) → PlAt w.heap.size w vp ps) := Lib.hid (by subst eps; exact fun w B vp h => plAt_flat (places_len l) h)
  clear eps
  go_enter Try.func27, Try.ntmps27
  go_wp2_with fail
  refine cC.mono ?_
  rintro e w1 ⟨vl, vp, rfl, hb1, hr1, hr2⟩
  have T1 := T0.below hb1 (by simp)
  have hP1 := hP.trans ⟨hP.size, hb1.mono hP.size⟩
  have HC := Lib.hid (codeAt_flat eL hr1)
  have HPL := Lib.hid (PL.out _ _ _ hr2)
  clear cC hl hr1 hr2 hb1 hP PL T0
  clear eL hc
  obtain ⟨q, cap, rfl, hd1, hd2, hcd⟩ := HC.out
  obtain ⟨q2, cap2, rfl, hcp⟩ := HPL.out
  unfold maxLen at hd2
  have HCD := Lib.hid hcd
  have HCP := Lib.hid hcp
  clear hcd hcp HC HPL
  have hz := hP1.size
  have HDN := DN
  go_wp2_with fail
  go_loopw [8] (fun t wr => ∃ i : Nat, i ≤ L.length ∧ t = .int .i64 i ∧ Past w1.heap.size w1 wr ∧ Hid (∀ j (hj : j < L.length), j < i → mk reg L[j] = false)) (fun t _ => L.length - (intOf t).toNat)
  case atStart => exact ⟨0, Nat.zero_le _, rfl, Past.refl (Nat.le_refl _), Lib.hid (fun j _ h => absurd h (Nat.not_lt_zero _))⟩
  case round =>
    obtain ⟨i, hi, rfl, hbe, HN⟩ := hrel
    have T2 := T1.below hbe.2 T1.2.1
    by_cases hlt : i < L.length
    · obtain ⟨a, rfl, hab, hins⟩ := HCD.out i hlt
      obtain ⟨f0, f1, f2, f3, f4, f5, f6⟩ := hins.below hbe.2 (by rw [add_block]; exact hab)
      clear hins
      by_cases hR : L[i].reg = reg
      · rw [hR] at f1
        have cR := fun w => rResult_any L[i].op reg L[i].ty L[i].n L[i].fl L[i].ap L[i].tp L[i].al L[i].ac L[i].tl L[i].tc w
        obtain ⟨rv, erv⟩ : ∃ rv, resV L[i].op L[i].ty = rv := ⟨_, rfl⟩
        simp only [erv] at cR
        have hmk : mk reg L[i] = (rv != 0) := by unfold mk; rw [hR, erv]; simp
        clear erv
        by_cases hz0 : rv = 0
        · subst hz0
          have HM : Hid (mk reg L[i] = false) := Lib.hid (by rw [hmk]; rfl)
          clear hmk
          go_wp2_with ((with_reducible refine (cR _).mono ?_); rintro e w' ⟨rfl, rfl⟩)
          refine ⟨⟨i + 1, by omega, by go_num, hbe.alloc _, Lib.hid fun j hj hji => ?_⟩, by simp [intOf]; omega⟩
          by_cases hje : j = i
          · subst hje; exact HM.out
          · exact HN.out j hj (by omega)
        · have HM : Hid (mk reg L[i] = true) := Lib.hid (by rw [hmk]; simpa using hz0)
          have hz1 : (rv == 0) = false := by simpa using hz0
          clear hmk
          have hip : i < ps.length := by omega
          obtain ⟨a2, rfl, hab2, p0, p1', p2'⟩ := HCP.out i hip
          have q0 := (hbe.2.cell (p := a2.add (i * 3)) (by rw [add_block]; exact hab2)).trans p0
          have q1 := (hbe.2.cell (p := ⟨(a2.add (i * 3)).block, (a2.add (i * 3)).off + 1, none⟩) (by rw [add_block]; exact hab2)).trans p1'
          have q2' := (hbe.2.cell (p := ⟨(a2.add (i * 3)).block, (a2.add (i * 3)).off + 2, none⟩) (by rw [add_block]; exact hab2)).trans p2'
          have HD := Lib.hid (DS.out i hlt HM.out HN.out hip)
          clear p0 p1' p2'
          go_wp2_with fail
          refine (cR _).mono ?_
          rintro e w3 ⟨rfl, ew3⟩
          have hb3 : Past wr.heap.size wr w3 := by rw [ew3]; exact (Past.refl (Nat.le_refl _)).alloc _
          have hwr := hbe.size
          have k0 := (hb3.2.cell (p := a2.add (i * 3)) (by rw [add_block]; omega)).trans q0
          have k1 := (hb3.2.cell (p := ⟨(a2.add (i * 3)).block, (a2.add (i * 3)).off + 1, none⟩) (by rw [add_block]; omega)).trans q1
          have k2 := (hb3.2.cell (p := ⟨(a2.add (i * 3)).block, (a2.add (i * 3)).off + 2, none⟩) (by rw [add_block]; omega)).trans q2'
          have T3 := T2.below hb3.2 T2.2.1
          have P3 : Past W.heap.size W w3 := Past.trans hP1 (Past.trans (b := wr) ⟨hP1.size, hbe.2.mono hP1.size⟩ ⟨Nat.le_trans hP1.size hwr, hb3.2.mono (Nat.le_trans hP1.size hwr)⟩)
          clear ew3 q0 q1 q2' f0 f1 f2 f3 f4 f5 f6 cR
          obtain ⟨t0, t1, t2, t3, t4, t5⟩ := id T3
          have hR3 := T3.set (.int .i64 0) (.int .i64 (ps[i]).1) (.int .i64 (ps[i]).2)
          obtain ⟨v0, v1, v2, v3, v4, v5⟩ := id hR3
          go_wp2
          all_goals
            refine bodyPost_ret (v := .tuple #[.agg #[.int .i64 0, .int .i64 (ps[i]).1, .int .i64 (ps[i]).2], .bool true]) (by simp [results, Try.results27, go_sem, v2, v3, v4]) rfl ⟨true, _, _, HD.out, rfl, Past.below ?_⟩
            repeat (first | (with_reducible assumption) | (with_reducible apply Past.drew) | (with_reducible apply Past.set (ha := (by dsimp only; omega))))
      · have hR2 : (L[i].reg == reg) = false := by simpa using hR
        have HM : Hid (mk reg L[i] = false) := Lib.hid (by unfold mk; rw [hR2]; rfl)
        go_wp2_with fail
        refine ⟨⟨i + 1, by omega, by go_num, hbe, Lib.hid fun j hj hji => ?_⟩, by simp [intOf]; omega⟩
        by_cases hje : j = i
        · subst hje; exact HM.out
        · exact HN.out j hj (by omega)
    · obtain rfl : i = L.length := by omega
      have HD := Lib.hid (HDN.out fun j hj => HN.out j hj hj)
      obtain ⟨t0, t1, t2, t3, t4, t5⟩ := id T2
      have P3 : Past W.heap.size W wr := hP1.trans ⟨hP1.size, hbe.2.mono hP1.size⟩
      have hR3 := T2.set (.int .i64 0) (.int .i64 0) (.int .i64 0)
      obtain ⟨v0, v1, v2, v3, v4, v5⟩ := id hR3
      go_wp2
      all_goals
        refine bodyPost_ret (v := .tuple #[.agg #[.int .i64 0, .int .i64 0, .int .i64 0], .bool false]) (by simp [results, Try.results27, go_sem, v2, v3, v4]) rfl ⟨false, _, _, HD.out, rfl, Past.below ?_⟩
        repeat (first | (with_reducible assumption) | (with_reducible apply Past.drew) | (with_reducible apply Past.set (ha := (by dsimp only; omega))))
end Go.Proofs.Ytpfeiolmkbibiaa
