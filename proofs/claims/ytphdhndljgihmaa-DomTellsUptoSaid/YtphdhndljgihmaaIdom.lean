/- Package dom: Idom. -/
import Derived.Test.YtphdhndljgihmaaNeB
import Derived.Test.YtphdhndljgihmaaWkB
namespace Go.Proofs.Ytphdhndljgihmaa
open Go.RowKit Go.Maps
set_option linter.unusedVariables false
set_option linter.unusedSimpArgs false

/-- What Idom answers. -/
def OwnUp (S : Nat → List Nat) (n : Nat) (W : World) (e : Ending) (w' : World) : Prop :=
  ∃ R, e = .returned (.slice (some ⟨R, 0, none⟩) n n) ∧ Past W.heap.size W w' ∧ W.heap.size ≤ R ∧ w'.rowIs R 3 n (fun b => .int .i64 (upI S b))
/-- The nearest dominators of a walk's first i blocks. -/
noncomputable def upL (S : Nat → List Nat) (bl : List Nat) (i b : Nat) : Int := if b ∈ (bl.take i).drop 1 then upI S b else -1
theorem upL_step {S : Nat → List Nat} {bl : List Nat} {i : Nat} (hi : i < bl.length) (h1 : 1 ≤ i) (b : Nat) : upL S bl (i + 1) b = if b = bl[i] then upI S b else upL S bl i b := by
  unfold upL
  have e : (bl.take (i + 1)).drop 1 = (bl.take i).drop 1 ++ [bl[i]] := by
    rw [List.take_succ_eq_append_getElem hi, List.drop_append_of_le_length (by rw [List.length_take]; omega)]
  rw [e]
  by_cases h : b = bl[i]
  · rw [if_pos (by rw [h]; simp), if_pos h]
  · rw [if_neg h]
    simp only [List.mem_append, List.mem_singleton, h, or_false]
theorem upL_end {S : Nat → List Nat} {n : Nat} {bl : List Nat} {pr : List Int} (hn : 0 < n) (h : Walked S n bl pr) {i : Nat} (hi : bl.length ≤ i) (b : Nat) : upL S bl i b = upI S b := by
  unfold upL
  rw [List.take_of_length_le hi]
  by_cases hb : b ∈ bl.drop 1
  · rw [if_pos hb]
  · rw [if_neg hb]
    refine (upI_none fun u hu => ?_).symm
    have hbb := (h.rch b hn).2 hu.rch
    obtain ⟨j, hj, rfl⟩ := List.getElem_of_mem hbb
    by_cases e : j = 0
    · subst e
      rw [h.fst hj] at hu
      exact hu.not_zero
    · apply hb
      rw [List.mem_drop_iff_getElem]
      exact ⟨j - 1, by omega, by congr 1; omega⟩
set_option maxRecDepth 100000 in
set_option maxHeartbeats 4000000 in
theorem Idom_own (f : LFn) (W : World) (hf : FnIn W.heap.size W f) (hs : FnSm f) (hbs : f.bs.length ≤ 1048576) :
    Calls Try.prog 18 #[.agg (fnC f).toArray] W (OwnUp (succP (fnD f).bs) f.bs.length W) := by
  have hmk := run_make_row' (P := Try.prog) 22 3 _ _ Try.underlying22 infoInt rfl .i64 .i64 f.bs.length (by omega) (by omega)
  have hP := (Past.refl (Nat.le_refl W.heap.size)).alloc (.cells (fnC f).toArray 25)
  have A1 : Box W.heap.size (fnC f) (W.alloc (.cells (fnC f).toArray 25)) := Box.new W rfl _ _
  have HN : Hid (∀ b, (succP (fnD f).bs b).Nodup ∧ ∀ t ∈ succP (fnD f).bs b, t < f.bs.length) := Lib.hid (fun b => ⟨succP_nodup _ b, fun t ht => by
    have := succP_lt _ _ t ht
    simpa [fnD] using this⟩)
  have cW : ∀ w, Past W.heap.size W w → Calls Try.prog 36 #[.agg (fnC f).toArray] w (WkEnds (succP (fnD f).bs) f.bs.length w) := fun w h => walkOf_any f w (past_lasts lasts_Fn hf h) hs hbs
  have cP : ∀ w, Past W.heap.size W w → Calls Try.prog 27 #[.agg (fnC f).toArray] w (OwnLL f.bs.length (fun t => ints (predUpto (succP (fnD f).bs) f.bs.length t)) w) := fun w h => Preds_own f w (past_lasts lasts_Fn hf h) hs hbs
  obtain ⟨S, eS⟩ : ∃ S, succP (fnD f).bs = S := ⟨_, rfl⟩
  simp only [eS] at cW cP HN ⊢
  obtain ⟨nm, pp, pn, pc, ps, rt, bp, bn, bc, bs⟩ := f
  obtain rfl : bn = bs.length := hf.2.1
  show Calls Try.prog 18 #[.agg #[.string nm, .slice pp pn pc, .int .i64 rt, .slice bp bs.length bc]] W _
  have hfc : fnC ⟨nm, pp, pn, pc, ps, rt, bp, bs.length, bc, bs⟩ = [.string nm, .slice pp pn pc, .int .i64 rt, .slice bp bs.length bc] := rfl
  rw [hfc] at A1 hP
  simp only [hfc] at cW cP
  obtain ⟨n, en⟩ : ∃ n, bs.length = n := ⟨_, rfl⟩
  simp only [en] at cW cP A1 hP hbs HN hmk ⊢
  have r1 := World.rowIs_made (W.alloc (.cells #[.string nm, .slice pp pn pc, .int .i64 rt, .slice bp n bc] 25)) (.int .i64 0) n 3
  rw [World.size_alloc] at r1
  have P1 := hP.alloc (.cells (madeCells #[.int .i64 0] n) 3)
  have A2 := A1.alloc (.cells (madeCells #[.int .i64 0] n) 3)
  have a3 := A1.get 3 _ rfl
  have b3 := A2.get 3 _ rfl
  have HB := Lib.hid (And.intro P1 (And.intro A2 r1))
  have HC := Lib.hid (And.intro cW cP)
  clear cW cP hP A1 A2 P1 r1 hf hs eS hfc en
  go_enter Try.func18, Try.ntmps18
  go_wp2_with fail
  clear hmk a3 b3
  generalize hw0 : ((W.alloc (.cells #[.string nm, .slice pp pn pc, .int .i64 rt, .slice bp n bc] 25)).alloc (.cells (madeCells #[.int .i64 0] n) 3)) = w0 at *
  clear hw0
  go_loopw [15] (fun t wr => ∃ i : Nat, i ≤ n ∧ t = .int .i64 i ∧ Past W.heap.size W wr ∧ Box W.heap.size [.string nm, .slice pp pn pc, .int .i64 rt, .slice bp n bc] wr ∧ wr.rowIs (W.heap.size + 1) 3 n (fun j => .int .i64 (if j < i then -1 else 0))) (fun t _ => n - (intOf t).toNat)
  case atStart => exact ⟨0, Nat.zero_le _, rfl, HB.out.1, HB.out.2.1, HB.out.2.2.congr (fun i _ => by simp)⟩
  case round =>
    obtain ⟨i, hin, rfl, hP, hA, hr⟩ := hrel
    clear HB
    by_cases hlt : i < n
    · have r0 := hr.cell hlt
      have rf := hr.frozen i
      have HI := Lib.hid (And.intro hP (And.intro hA hr))
      clear hP hA hr
      go_wp2_with fail
      exact ⟨⟨i + 1, by omega, by go_num, HI.out.1.set (by dsimp only; omega) _, HI.out.2.1.other (by omega) _ _, (HI.out.2.2.set i _).congr (fun j hj => by by_cases e : j = i <;> by_cases e2 : j < i <;> simp [e, e2] <;> omega)⟩, by simp [intOf]; omega⟩
    · obtain rfl : i = n := by omega
      replace hr := hr.congr (g := fun _ => .int .i64 (-1)) (fun j hj => by rw [if_pos hj])
      have a0 := hA.get 0 _ rfl
      have a1 := hA.get 1 _ rfl
      have a2 := hA.get 2 _ rfl
      have a3 := hA.get 3 _ rfl
      have cW := HC.out.1 wr hP
      have hz := hr.lt
      have HI := Lib.hid (And.intro hP (And.intro hA hr))
      clear hP hA hr
      go_wp2_with fail
      refine cW.mono ?_
      rintro e w2 ⟨vb, vp, bl, pr, rfl, hK, hp2, hn2, hb2, hq2⟩
      obtain ⟨pb, cb, rfl⟩ := row_slice hb2
      obtain ⟨pq, cq, rfl⟩ := row_slice hq2
      have HI2 : Hid (Past W.heap.size W w2 ∧ Box W.heap.size [.string nm, .slice pp pn pc, .int .i64 rt, .slice bp i bc] w2 ∧ w2.rowIs (W.heap.size + 1) 3 i (fun _ => .int .i64 (-1))) := Lib.hid ⟨HI.out.1.trans ⟨HI.out.1.size, hp2.2.mono HI.out.1.size⟩, HI.out.2.1.later hp2.2, rowIs_kept HI.out.2.2 (below_grown hp2.2) (by simp)⟩
      have HK := Lib.hid (And.intro hK (And.intro hn2 (And.intro hb2 hq2)))
      clear cW a0 a1 a2 a3 hK hp2 hn2 hb2 hq2 HI
      generalize wr.heap.size = z at *
      go_upto_region 8 with fail
      have hbT := Box.new w2 rfl [.slice pb bl.length cb, .slice pq pr.length cq, .slice (some ⟨z + 2, 0, none⟩) i i] 56
      have hA3 := HI2.out.2.1.alloc (.cells #[.slice pb bl.length cb, .slice pq pr.length cq, .slice (some ⟨z + 2, 0, none⟩) i i] 56)
      have hP3 := HI2.out.1.alloc (.cells #[.slice pb bl.length cb, .slice pq pr.length cq, .slice (some ⟨z + 2, 0, none⟩) i i] 56)
      generalize hw3 : w2.alloc (.cells #[.slice pb bl.length cb, .slice pq pr.length cq, .slice (some ⟨z + 2, 0, none⟩) i i] 56) = w3 at *
      have hB3 : Below w2.heap.size w2 w3 := by rw [← hw3]; exact (Below.refl _ _).alloc (Nat.le_refl _) _
      clear hw3
      have x0 := hbT.get 0 _ rfl
      have x1 := hbT.get 1 _ rfl
      have x2 := hbT.get 2 _ rfl
      have a0 := hA3.get 0 _ rfl
      have a1 := hA3.get 1 _ rfl
      have a2 := hA3.get 2 _ rfl
      have a3 := hA3.get 3 _ rfl
      have cP := HC.out.2 w3.drew hP3.drew
      refine wp_region_noPanic ?_
      refine wp_region_held_drew (S := fun w' => w'.cell? ⟨w2.heap.size, 0, none⟩ = some (.slice pb bl.length cb) ∧ w'.cell? ⟨w2.heap.size, 1, none⟩ = some (.slice pq pr.length cq) ∧ w'.cell? ⟨w2.heap.size, 2, none⟩ = some (.slice (some ⟨z + 2, 0, none⟩) i i) ∧ w'.cell? ⟨W.heap.size, 0, none⟩ = some (.string nm) ∧ w'.cell? ⟨W.heap.size, 1, none⟩ = some (.slice pp pn pc) ∧ w'.cell? ⟨W.heap.size, 2, none⟩ = some (.int .i64 rt) ∧ w'.cell? ⟨W.heap.size, 3, none⟩ = some (.slice bp i bc)) (by kernel_rfl) ⟨x0, x1, x2, a0, a1, a2, a3⟩ (fun hHeld => ?_)
      refine wpAnyH_take (i := 0) (v := ?_) rfl (by kernel_rfl) (by kernel_rfl) (by kernel_rfl) (fun _ _ _ h => h) (Or.inl ⟨by rfl, ?_⟩) (by assumption) ?_
      rotate_left
      · intro w hSw
        obtain ⟨hSw0, hSw1, hSw2, hSw3, hSw4, hSw5, hSw6⟩ := hSw
        go_simp
        try (with_reducible rfl)
      try simp only [Act.put, List.setIfInBounds_toArray, List.set_cons_zero, List.set_cons_succ]
      refine wpAnyH_take (i := 1) (v := ?_) rfl (by kernel_rfl) (by kernel_rfl) (by kernel_rfl) (fun _ _ _ h => h) (Or.inl ⟨by rfl, ?_⟩) (by assumption) ?_
      rotate_left
      · intro w hSw
        obtain ⟨hSw0, hSw1, hSw2, hSw3, hSw4, hSw5, hSw6⟩ := hSw
        go_simp
        try (with_reducible rfl)
      try simp only [Act.put, List.setIfInBounds_toArray, List.set_cons_zero, List.set_cons_succ]
      refine wpAnyH_ready (rs := [2]) (by kernel_rfl) (by simp) ?_
      refine AllReadyH.cons rfl (fun K hK => ?_) ?_
      · go_simp
        (with_reducible refine cP.mono ?_)
        rintro ee w5 ⟨Rp, vsp, rfl, hp5, hR5, hl5⟩
        have hbT5 := hbT.later ((below_drew (Below.refl _ _)).trans hp5.2)
        have hA5 := hA3.later ((below_drew (Below.refl _ _)).trans hp5.2)
        have hB5 := hB3.trans (((below_drew (Below.refl _ _)).trans hp5.2).mono hB3.size)
        have cN := nearest_any w5 HK.out.1 hbs HN.out (ownsRow_below HK.out.2.2.1 hB5) (ownsRow_below HK.out.2.2.2 hB5) (rowIs_kept HK.out.2.1 (below_grown hB5) (by simp)) hl5
        try dsimp only
        refine hK.out _ _ ⟨hbT5.get 0 _ rfl, hbT5.get 1 _ rfl, hbT5.get 2 _ rfl, hA5.get 0 _ rfl, hA5.get 1 _ rfl, hA5.get 2 _ rfl, hA5.get 3 _ rfl⟩ (fun hHeld => ?_)
        clear hK K
        try simp only [Act.put, List.setIfInBounds_toArray, List.set_cons_zero, List.set_cons_succ]
        refine wpAnyH_ready (rs := [3]) (by kernel_rfl) (by simp) ?_
        refine AllReadyH.cons rfl (fun K hK => ?_) ?_
        · go_simp
          (with_reducible refine cN.mono ?_)
          rintro ee w6 ⟨R6, nr, rfl, hp6, hR6, hr6, hu6⟩
          have hbT6 := hbT5.later hp6.2
          have hA6 := hA5.later hp6.2
          try dsimp only
          refine hK.out _ _ ⟨hbT6.get 0 _ rfl, hbT6.get 1 _ rfl, hbT6.get 2 _ rfl, hA6.get 0 _ rfl, hA6.get 1 _ rfl, hA6.get 2 _ rfl, hA6.get 3 _ rfl⟩ (fun hHeld => ?_)
          clear hK K
          try simp only [Act.put, List.setIfInBounds_toArray, List.set_cons_zero, List.set_cons_succ]
          refine wpAnyH_ready (rs := [4]) (by kernel_rfl) (by simp) ?_
          refine AllReadyH.cons rfl (fun K hK => ?_) ?_
          · go_simp
            refine hK.out _ _ hHeld (fun hHeld => ?_)
            clear hK K
            try simp only [Act.put, List.setIfInBounds_toArray, List.set_cons_zero, List.set_cons_succ]
            refine wpAnyH_done (by kernel_rfl) ?_ _
            refine NoPanic.normal ?_
            have hB6 := hB5.trans (hp6.2.mono hB5.size)
            have HY : Hid (Past W.heap.size W w6 ∧ Box w2.heap.size [.slice pb bl.length cb, .slice pq pr.length cq, .slice (some ⟨z + 2, 0, none⟩) i i] w6 ∧ w6.rowIs (W.heap.size + 1) 3 i (fun b => .int .i64 (upL S bl 1 b)) ∧ w6.ownsRow (z + 4) 3 1 (.slice pb bl.length cb) bl.length ((ints bl).flatMap intC) ∧ w6.rowIs R6 3 bl.length (fun i => .int .i64 (nr i : Nat))) := Lib.hid ⟨HI2.out.1.trans ⟨HI2.out.1.size, hB6.mono HI2.out.1.size⟩, hbT6, (rowIs_kept HI2.out.2.2 (below_grown hB6) (by simp)).congr (fun b _ => by unfold upL; rw [if_neg (by cases bl <;> simp)]), ownsRow_below HK.out.2.2.1 hB6, hr6⟩
            have HU := Lib.hid hu6
            have hR6z : W.heap.size + 1 < R6 := by have h1 := HI2.out.2.2.lt; have h2 := hB5.size; omega
            have h2z : W.heap.size + 1 < w2.heap.size := HI2.out.2.2.lt
            have hlb : bl.length ≤ 1048576 := by
              rcases HK.out.1 with ⟨_, h, _⟩ | ⟨_, h⟩
              · rw [h]; simp
              · have := nodup_lt i bl h.nd h.ltn; omega
            clear hHeld hbT6 hbT5 hbT hA6 hA5 hA3 hB6 hB5 hB3 hp6 hp5 hr6 hu6 hl5 cN cP x0 x1 x2 a0 a1 a2 a3 hP3 HI2
            go_wp2_with fail
            go_loopw [7] (fun t wr => ∃ j : Nat, 1 ≤ j ∧ j ≤ bl.length + 1 ∧ t = .int .i64 j ∧ Past W.heap.size W wr ∧ Box w2.heap.size [.slice pb bl.length cb, .slice pq pr.length cq, .slice (some ⟨z + 2, 0, none⟩) i i] wr ∧ wr.rowIs (W.heap.size + 1) 3 i (fun b => .int .i64 (upL S bl j b)) ∧ wr.ownsRow (z + 4) 3 1 (.slice pb bl.length cb) bl.length ((ints bl).flatMap intC) ∧ wr.rowIs R6 3 bl.length (fun i => .int .i64 (nr i : Nat))) (fun t _ => bl.length + 1 - (intOf t).toNat)
            case atStart => exact ⟨1, Nat.le_refl _, by omega, rfl, HY.out.1, HY.out.2.1, HY.out.2.2.1, HY.out.2.2.2.1, HY.out.2.2.2.2⟩
            case round =>
              obtain ⟨j, hj1, hj2, rfl, hP, hT, hr, hb, hnr⟩ := hrel
              clear HY
              by_cases hlt2 : j < bl.length
              · obtain ⟨hpos, hWk⟩ : 0 < i ∧ Walked S i bl pr := by
                  rcases HK.out.1 with ⟨_, h, _⟩ | h
                  · rw [h] at hlt2; simp at hlt2
                  · exact h
                obtain ⟨hnj, hup⟩ := hWk.up hpos (HU.out j (by omega) hlt2) hlt2
                obtain ⟨ad, had, had1, had2⟩ := own_nat hb hlt2
                subst had
                obtain ⟨ad', had', had3, had4⟩ := own_nat hb hnj
                injection had' with had'
                subst had'
                have y0 := hT.get 0 _ rfl
                have y1 := hnr.cell hlt2
                have hbn := hWk.ltn _ (List.getElem_mem hlt2)
                have k0 := hr.cell hbn
                have kf := hr.frozen bl[j]
                have hst := upL_step (S := S) hlt2 hj1
                have hadb : z + 4 ≤ ad.block := (hb.lt _ rfl).1
                obtain ⟨u, eu⟩ : ∃ u, nr j = u := ⟨_, rfl⟩
                simp only [eu] at had4 y1 hup hnj
                obtain ⟨bj, ebj⟩ : ∃ x, bl[j] = x := ⟨_, rfl⟩
                obtain ⟨bu, ebu⟩ : ∃ x, bl[u] = x := ⟨_, rfl⟩
                have hupI : upI S bj = (bu : Int) := by rw [← ebj, ← ebu]; exact upI_some hup
                simp only [ebj] at had2 hbn k0 kf hst
                simp only [ebu] at had4
                have HZ := Lib.hid (And.intro hP (And.intro hT (And.intro hr (And.intro hb (And.intro hnr (And.intro hst hupI))))))
                clear hP hT hr hb hnr hst hup hupI ebj ebu eu
                go_wp2_with fail
                refine wp_region_noPanic ?_
                refine wp_region_held_drew (S := fun w' => w'.cell? ⟨w2.heap.size, 0, none⟩ = some (.slice (some ad) bl.length cb) ∧ w'.cell? (ad.add j) = some (.int .i64 (bj : Nat)) ∧ w'.cell? ⟨R6, j, none⟩ = some (.int .i64 (u : Nat)) ∧ w'.cell? (ad.add u) = some (.int .i64 (bu : Nat))) (by kernel_rfl) ⟨y0, had2, y1, had4⟩ (fun hHeld => ?_)
                refine wpAnyH_take (i := 0) (v := ?_) rfl (by kernel_rfl) (by kernel_rfl) (by kernel_rfl) (fun _ _ _ h => h) (Or.inl ⟨by rfl, ?_⟩) (by assumption) ?_
                rotate_left
                · intro w hSw
                  obtain ⟨hSw0, hSw1, hSw2, hSw3⟩ := hSw
                  go_simp
                  try (with_reducible rfl)
                try simp only [Act.put, List.setIfInBounds_toArray, List.set_cons_zero, List.set_cons_succ]
                refine wpAnyH_take (i := 1) (v := ?_) rfl (by kernel_rfl) (by kernel_rfl) (by kernel_rfl) (fun _ _ _ h => h) (Or.inl ⟨by rfl, ?_⟩) (by assumption) ?_
                rotate_left
                · intro w hSw
                  obtain ⟨hSw0, hSw1, hSw2, hSw3⟩ := hSw
                  go_simp
                  try (with_reducible rfl)
                try simp only [Act.put, List.setIfInBounds_toArray, List.set_cons_zero, List.set_cons_succ]
                refine wpAnyH_take (i := 2) (v := ?_) rfl (by kernel_rfl) (by kernel_rfl) (by kernel_rfl) (fun _ _ _ h => h) (Or.inl ⟨by rfl, ?_⟩) (by assumption) ?_
                rotate_left
                · intro w hSw
                  obtain ⟨hSw0, hSw1, hSw2, hSw3⟩ := hSw
                  go_simp
                  try (with_reducible rfl)
                try simp only [Act.put, List.setIfInBounds_toArray, List.set_cons_zero, List.set_cons_succ]
                refine wpAnyH_take (i := 3) (v := ?_) rfl (by kernel_rfl) (by kernel_rfl) (by kernel_rfl) (fun _ _ _ h => h) (Or.inl ⟨by rfl, ?_⟩) (by assumption) ?_
                rotate_left
                · intro w hSw
                  obtain ⟨hSw0, hSw1, hSw2, hSw3⟩ := hSw
                  go_simp
                  try (with_reducible rfl)
                try simp only [Act.put, List.setIfInBounds_toArray, List.set_cons_zero, List.set_cons_succ]
                refine wpAnyH_take (i := 4) (v := ?_) rfl (by kernel_rfl) (by kernel_rfl) (by kernel_rfl) (fun _ _ _ h => h) (Or.inl ⟨by rfl, ?_⟩) (by assumption) ?_
                rotate_left
                · intro w hSw
                  obtain ⟨hSw0, hSw1, hSw2, hSw3⟩ := hSw
                  go_simp
                  try (with_reducible rfl)
                try simp only [Act.put, List.setIfInBounds_toArray, List.set_cons_zero, List.set_cons_succ]
                refine wpAnyH_take (i := 5) (v := ?_) rfl (by kernel_rfl) (by kernel_rfl) (by kernel_rfl) (fun _ _ _ h => h) (Or.inl ⟨by rfl, ?_⟩) (by assumption) ?_
                rotate_left
                · intro w hSw
                  obtain ⟨hSw0, hSw1, hSw2, hSw3⟩ := hSw
                  go_simp
                  try (with_reducible rfl)
                try simp only [Act.put, List.setIfInBounds_toArray, List.set_cons_zero, List.set_cons_succ]
                refine wpAnyH_take (i := 6) (v := ?_) rfl (by kernel_rfl) (by kernel_rfl) (by kernel_rfl) (fun _ _ _ h => h) (Or.inl ⟨by rfl, ?_⟩) (by assumption) ?_
                rotate_left
                · intro w hSw
                  obtain ⟨hSw0, hSw1, hSw2, hSw3⟩ := hSw
                  go_simp
                  try (with_reducible rfl)
                try simp only [Act.put, List.setIfInBounds_toArray, List.set_cons_zero, List.set_cons_succ]
                refine wpAnyH_take (i := 7) (v := ?_) rfl (by kernel_rfl) (by kernel_rfl) (by kernel_rfl) (fun _ _ _ h => h) (Or.inl ⟨by rfl, ?_⟩) (by assumption) ?_
                rotate_left
                · intro w hSw
                  obtain ⟨hSw0, hSw1, hSw2, hSw3⟩ := hSw
                  go_simp
                  try (with_reducible rfl)
                try simp only [Act.put, List.setIfInBounds_toArray, List.set_cons_zero, List.set_cons_succ]
                refine wpAnyH_take (i := 8) (v := ?_) rfl (by kernel_rfl) (by kernel_rfl) (by kernel_rfl) (fun _ _ _ h => h) (Or.inl ⟨by rfl, ?_⟩) (by assumption) ?_
                rotate_left
                · intro w hSw
                  obtain ⟨hSw0, hSw1, hSw2, hSw3⟩ := hSw
                  go_simp
                  try (with_reducible rfl)
                try simp only [Act.put, List.setIfInBounds_toArray, List.set_cons_zero, List.set_cons_succ]
                refine wpAnyH_take (i := 9) (v := ?_) rfl (by kernel_rfl) (by kernel_rfl) (by kernel_rfl) (fun _ _ _ h => h) (Or.inl ⟨by rfl, ?_⟩) (by assumption) ?_
                rotate_left
                · intro w hSw
                  obtain ⟨hSw0, hSw1, hSw2, hSw3⟩ := hSw
                  go_simp
                  try (with_reducible rfl)
                try simp only [Act.put, List.setIfInBounds_toArray, List.set_cons_zero, List.set_cons_succ]
                refine wpAnyH_take (i := 10) (v := ?_) rfl (by kernel_rfl) (by kernel_rfl) (by kernel_rfl) (fun _ _ _ h => h) (Or.inl ⟨by rfl, ?_⟩) (by assumption) ?_
                rotate_left
                · intro w hSw
                  obtain ⟨hSw0, hSw1, hSw2, hSw3⟩ := hSw
                  go_simp
                  try (with_reducible rfl)
                try simp only [Act.put, List.setIfInBounds_toArray, List.set_cons_zero, List.set_cons_succ]
                refine wpAnyH_take (i := 11) (v := ?_) rfl (by kernel_rfl) (by kernel_rfl) (by kernel_rfl) (fun _ _ _ h => h) (Or.inl ⟨by rfl, ?_⟩) (by assumption) ?_
                rotate_left
                · intro w hSw
                  obtain ⟨hSw0, hSw1, hSw2, hSw3⟩ := hSw
                  go_simp
                  try (with_reducible rfl)
                try simp only [Act.put, List.setIfInBounds_toArray, List.set_cons_zero, List.set_cons_succ]
                refine wpAnyH_take (i := 12) (v := ?_) rfl (by kernel_rfl) (by kernel_rfl) (by kernel_rfl) (fun _ _ _ h => h) (Or.inl ⟨by rfl, ?_⟩) (by assumption) ?_
                rotate_left
                · intro w hSw
                  obtain ⟨hSw0, hSw1, hSw2, hSw3⟩ := hSw
                  go_simp
                  try (with_reducible rfl)
                try simp only [Act.put, List.setIfInBounds_toArray, List.set_cons_zero, List.set_cons_succ]
                refine wpAnyH_take (i := 13) (v := ?_) rfl (by kernel_rfl) (by kernel_rfl) (by kernel_rfl) (fun _ _ _ h => h) (Or.inl ⟨by rfl, ?_⟩) (by assumption) ?_
                rotate_left
                · intro w hSw
                  obtain ⟨hSw0, hSw1, hSw2, hSw3⟩ := hSw
                  go_simp
                  try (with_reducible rfl)
                try simp only [Act.put, List.setIfInBounds_toArray, List.set_cons_zero, List.set_cons_succ]
                refine wpAnyH_take (i := 14) (v := ?_) rfl (by kernel_rfl) (by kernel_rfl) (by kernel_rfl) (fun _ _ _ h => h) (Or.inl ⟨by rfl, ?_⟩) (by assumption) ?_
                rotate_left
                · intro w hSw
                  obtain ⟨hSw0, hSw1, hSw2, hSw3⟩ := hSw
                  go_simp
                  try (with_reducible rfl)
                try simp only [Act.put, List.setIfInBounds_toArray, List.set_cons_zero, List.set_cons_succ]
                refine wpAnyH_ready (rs := [15]) (by kernel_rfl) (by simp) ?_
                refine AllReadyH.cons rfl (fun K hK => ?_) ?_
                · go_simp
                  refine hK.out _ _ ⟨(World.cell?_setCell_far _ _ _ _ (by first | (dsimp only; omega) | (rw [add_block]; omega) | (rw [add_block]; dsimp only; omega))).trans hHeld.1, (World.cell?_setCell_far _ _ _ _ (by first | (dsimp only; omega) | (rw [add_block]; omega) | (rw [add_block]; dsimp only; omega))).trans hHeld.2.1, (World.cell?_setCell_far _ _ _ _ (by first | (dsimp only; omega) | (rw [add_block]; omega) | (rw [add_block]; dsimp only; omega))).trans hHeld.2.2.1, (World.cell?_setCell_far _ _ _ _ (by first | (dsimp only; omega) | (rw [add_block]; omega) | (rw [add_block]; dsimp only; omega))).trans hHeld.2.2.2⟩ (fun hHeld => ?_)
                  clear hK K
                  try simp only [Act.put, List.setIfInBounds_toArray, List.set_cons_zero, List.set_cons_succ]
                  refine wpAnyH_done (by kernel_rfl) ?_ _
                  refine NoPanic.normal ?_
                  go_wp2_with fail
                  have hadu : ad.block < z + 4 ∨ z + 4 ≤ ad.block := by omega
                  exact ⟨⟨j + 1, by omega, by omega, by go_num, HZ.out.1.drew.set (by dsimp only; omega) _, (HZ.out.2.1.drew).other (by omega) _ _, ((rowIs_kept HZ.out.2.2.1 (below_grown (below_drew (Below.refl _ _))) (by simp)).set bj _).congr (fun b hb => by rw [HZ.out.2.2.2.2.2.1 b]; by_cases e : b = bj <;> simp [e, HZ.out.2.2.2.2.2.2]), ownsRow_setCell_below (ownsRow_below HZ.out.2.2.2.1 (below_drew (Below.refl _ _))) (by dsimp only; omega) _, (rowIs_kept HZ.out.2.2.2.2.1 (below_grown (below_drew (Below.refl _ _))) (by simp)).setOther (by dsimp only; omega) _⟩, by simp [intOf]; omega⟩
                exact AllReadyH.nil
              · have HZ := Lib.hid (And.intro hP hr)
                clear hP hr hT hb hnr
                go_wp2_with fail
                go_ret
                refine ⟨W.heap.size + 1, rfl, HZ.out.1, Nat.le_succ _, HZ.out.2.congr (fun b hb => ?_)⟩
                rcases HK.out.1 with ⟨h, _⟩ | ⟨h1, h2⟩
                · omega
                · rw [upL_end h1 h2 (by omega) b]
          exact AllReadyH.nil
        exact AllReadyH.nil
      exact AllReadyH.nil
end Go.Proofs.Ytphdhndljgihmaa
