/- The law's package: Few, of any module. -/
import Derived.Test.YtpfeiolmkbibiaaOwnW
import Derived.Test.YtpfeiolmkbibiaaIrM
namespace Go.Proofs.Ytpfeiolmkbibiaa
open Go.RowKit Go.Maps
set_option linter.unusedVariables false
set_option linter.unusedSimpArgs false

set_option maxRecDepth 100000 in
set_option maxHeartbeats 4000000 in
theorem Few_any (m : LMod) (most : Int) (W : World) (h : ModIn W.heap.size W m) :
    Calls Try.prog 19 #[.agg (modC m).toArray, .int .i64 most] W (SomeBool W) := by
  obtain ⟨vp, vn, vc, vs, xp, xn, xc, xs, fp, fn, fc, fs⟩ := m
  obtain ⟨h1, h2, h3⟩ := h
  simp only at h1 h2 h3
  obtain rfl : xn = xs.length := h2.1
  obtain rfl : fn = fs.length := h3.1
  have k2 := h2.2.1
  have k3 := h2.2.2.1
  have k2' := h3.2.1
  have k3' := h3.2.2.1
  unfold maxLen at k3 k3'
  have H2 := Lib.hid h2
  have H3 := Lib.hid h3
  clear h1 h2 h3
  show Calls Try.prog 19 #[.agg #[.slice vp vn vc, .slice xp xs.length xc, .slice fp fs.length fc], .int .i64 most] W (SomeBool W)
  have hP : Past W.heap.size W (W.alloc (.cells #[.slice vp vn vc, .slice xp xs.length xc, .slice fp fs.length fc] 34)) := (Past.refl (Nat.le_refl _)).alloc _
  have A1 : Box W.heap.size [.slice vp vn vc, .slice xp xs.length xc, .slice fp fs.length fc] (W.alloc (.cells #[.slice vp vn vc, .slice xp xs.length xc, .slice fp fs.length fc] 34)) := Box.new W rfl _ _
  go_enter Try.func19, Try.ntmps19
  go_wp2_with fail
  generalize W.alloc (.cells #[.slice vp vn vc, .slice xp xs.length xc, .slice fp fs.length fc] 34) = w1 at *
  go_loopw [5, 28] (fun m t wr => ∃ (v : Int) (b : Nat), b ≤ xs.length ∧ m = .int .i64 v ∧ t = .int .i64 b ∧ Past W.heap.size W wr ∧ Box W.heap.size [.slice vp vn vc, .slice xp xs.length xc, .slice fp fs.length fc] wr) (fun _ t _ => xs.length - (intOf t).toNat)
  case atStart => exact ⟨_, 0, Nat.zero_le _, rfl, rfl, hP, A1⟩
  case round =>
    obtain ⟨v, b, hb, rfl, rfl, hbe, hB⟩ := hrel
    by_cases hlt : b < xs.length
    · obtain ⟨a, rfl, ha, c0, c1, c2⟩ := ext_row H2.out b hlt
      have d0 := (hbe.2.cell (p := a.add (b * 3)) (blk_add a _ ha)).trans c0
      have d1 := (hbe.2.cell (p := ⟨(a.add (b * 3)).block, (a.add (b * 3)).off + 1, none⟩) (blk_add a _ ha)).trans c1
      have d2 := (hbe.2.cell (p := ⟨(a.add (b * 3)).block, (a.add (b * 3)).off + 2, none⟩) (blk_add a _ ha)).trans c2
      clear c0 c1 c2
      go_wp2_with fail
      exact ⟨⟨_, b + 1, by omega, rfl, by go_num, hbe.alloc _, hB.alloc _⟩, by simp [intOf]; omega⟩
    · obtain rfl : b = xs.length := by omega
      have a2 := hB.get 2 _ rfl
      clear hP A1
      rename_i wq
      have hP := hbe
      have A1 := hB
      clear hbe hB
      go_wp2_with fail
      clear a2
      go_loopw [5, 41] (fun m t wr => ∃ (v : Int) (b : Nat), b ≤ fs.length ∧ m = .int .i64 v ∧ t = .int .i64 b ∧ Past W.heap.size W wr) (fun _ t _ => fs.length - (intOf t).toNat)
      case atStart => exact ⟨_, 0, Nat.zero_le _, rfl, rfl, hP⟩
      case round =>
        obtain ⟨v, b, hb, rfl, rfl, hbe⟩ := hrel
        by_cases hlt : b < fs.length
        · obtain ⟨a, rfl, ha, c0, c1, c2, c3⟩ := fn_row H3.out b hlt
          have d0 := (hbe.2.cell (p := a.add (b * 4)) (blk_add a _ ha)).trans c0
          have d1 := (hbe.2.cell (p := ⟨(a.add (b * 4)).block, (a.add (b * 4)).off + 1, none⟩) (blk_add a _ ha)).trans c1
          have d2 := (hbe.2.cell (p := ⟨(a.add (b * 4)).block, (a.add (b * 4)).off + 2, none⟩) (blk_add a _ ha)).trans c2
          have d3 := (hbe.2.cell (p := ⟨(a.add (b * 4)).block, (a.add (b * 4)).off + 3, none⟩) (blk_add a _ ha)).trans c3
          clear c0 c1 c2 c3
          have hin := H3.out.2.2.2.2 fs[b] (List.getElem_mem hlt)
          obtain ⟨p, cap, he, hc1, hc2, hbl⟩ := blocksAt_in hin.2
          obtain ⟨l, el⟩ : ∃ l, located fs[b].bs = l := ⟨_, rfl⟩
          rw [el] at he hc1 hbl
          injection he with he1 he2 he3
          unfold maxLen at hc2
          rw [he1, he2, he3] at d3
          have HBL := Lib.hid hbl
          have hx := hbe.alloc (.cells #[.string fs[b].nm, .slice fs[b].pp fs[b].pn fs[b].pc, .int .i64 fs[b].rt, .slice p l.length cap] 41)
          clear hbl hin el he1 he2 he3
          go_wp2_with fail
          go_loopw [5, 57] (fun m t wr => ∃ (v : Int) (b : Nat), b ≤ l.length ∧ m = .int .i64 v ∧ t = .int .i64 b ∧ Past W.heap.size W wr) (fun _ t _ => l.length - (intOf t).toNat)
          case atStart => exact ⟨_, 0, Nat.zero_le _, rfl, rfl, hx⟩
          case round =>
            obtain ⟨v3, b3, hb3, rfl, rfl, hbe3⟩ := hrel
            by_cases hlt3 : b3 < l.length
            · obtain ⟨a3, x3, rfl, hab, hcell, hcode⟩ := HBL.out b3 hlt3
              obtain ⟨q2, cap2, rfl, hd1, hd2, hcd⟩ := hcode
              unfold maxLen at hd2
              have k1 : wr.cell? (a3.add b3) = some (.slice q2 l[b3].length cap2) := (hbe3.2.cell (p := a3.add b3) (by rw [add_block]; exact hab)).trans hcell
              have HCD := Lib.hid hcd
              have b1 := hbe3.alloc (.cells #[.slice q2 l[b3].length cap2] 67)
              clear hcd hcell
              go_wp2_with fail
              go_loopw [5, 69] (fun m t wi => ∃ (v : Int) (k : Nat), k ≤ l[b3].length ∧ m = .int .i64 v ∧ t = .int .i64 k ∧ Past W.heap.size W wi) (fun _ t _ => l[b3].length - (intOf t).toNat)
              case atStart => exact ⟨_, 0, Nat.zero_le _, rfl, rfl, b1⟩
              case round =>
                obtain ⟨v2, k, hk, rfl, rfl, hbi⟩ := hrel
                by_cases hkl : k < l[b3].length
                · obtain ⟨a2, rfl, ha2, hins⟩ := HCD.out k hkl
                  obtain ⟨z0, z1, z2, z3, z4, z5, z6⟩ := hins.below hbi.2 (by rw [add_block]; exact ha2)
                  clear hins
                  go_wp2_with fail
                  · go_ret
                    exact ⟨false, rfl, (hbi.alloc _).2⟩
                  · exact ⟨⟨_, k + 1, by omega, rfl, by go_num, hbi.alloc _⟩, by simp [intOf]; omega⟩
                · obtain rfl : k = l[b3].length := by omega
                  go_wp2_with fail
                  exact ⟨⟨_, b3 + 1, by omega, rfl, by go_num, hbi⟩, by simp [intOf]; omega⟩
            · obtain rfl : b3 = l.length := by omega
              go_wp2_with fail
              exact ⟨⟨_, b + 1, by omega, rfl, by go_num, hbe3⟩, by simp [intOf]; omega⟩
        · obtain rfl : b = fs.length := by omega
          go_wp2_with fail
          go_ret
          exact ⟨_, rfl, hbe.2⟩
end Go.Proofs.Ytpfeiolmkbibiaa
