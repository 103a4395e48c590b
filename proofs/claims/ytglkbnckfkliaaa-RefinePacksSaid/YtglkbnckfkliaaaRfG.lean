/- The document's answers for refine: Bytes. -/
import Derived.Test.YtglkbnckfkliaaaRfD
namespace Go.Proofs.Ytglkbnckfkliaaa
open Go.RowKit Go.Maps
set_option linter.unusedVariables false
set_option linter.unusedSimpArgs false
set_option maxRecDepth 100000
set_option maxHeartbeats 4000000

/-- How far the rows are known to be refined: ok so far, or found not to be. -/
def InY (l l' : List By) (k : Nat) (b : Bool) : Prop := (b = true → l.length = l'.length ∧ ∀ i (h1 : i < l.length) (h2 : i < l'.length), i < k → refY l[i] l'[i] = true) ∧ (b = false → allB refY l l' = false)
def InL (xs ys : List LBy) (k : Nat) (b : Bool) : Prop := (b = true → xs.length = ys.length ∧ ∀ i (h1 : i < xs.length) (h2 : i < ys.length), i < k → refL xs[i] ys[i] = true) ∧ (b = false → allB refL xs ys = false)
theorem InY.start (l l' : List By) {b : Bool} (h : ((l.length : Int) == (l'.length : Int)) = b) : InY l l' 0 b := by
  subst h
  refine ⟨fun h => ⟨by have : (l.length : Int) = l'.length := by simpa using h
                       omega, fun i _ _ hi => absurd hi (Nat.not_lt_zero _)⟩, fun h => allB_len (fun e => by rw [e] at h; simp at h)⟩
theorem InL.start (l l' : List LBy) {b : Bool} (h : ((l.length : Int) == (l'.length : Int)) = b) : InL l l' 0 b := by
  subst h
  refine ⟨fun h => ⟨by have : (l.length : Int) = l'.length := by simpa using h
                       omega, fun i _ _ hi => absurd hi (Nat.not_lt_zero _)⟩, fun h => allB_len (fun e => by rw [e] at h; simp at h)⟩
theorem InY.step {l l' : List By} {k : Nat} (h : InY l l' k true) (h1 : k < l.length) (h2 : k < l'.length) : InY l l' (k + 1) (refY l[k] l'[k]) :=
  ⟨fun e => ⟨(h.1 rfl).1, fun i g1 g2 hi => by
    by_cases q : i = k
    · subst q; exact e
    · exact (h.1 rfl).2 i g1 g2 (by omega)⟩, fun e => allB_not k h1 h2 e⟩
theorem InL.step {l l' : List LBy} {k : Nat} (h : InL l l' k true) (h1 : k < l.length) (h2 : k < l'.length) {b : Bool} (e : refL l[k] l'[k] = b) : InL l l' (k + 1) b := by
  subst e
  exact ⟨fun e => ⟨(h.1 rfl).1, fun i g1 g2 hi => by
    by_cases q : i = k
    · subst q; exact e
    · exact (h.1 rfl).2 i g1 g2 (by omega)⟩, fun e => allB_not k h1 h2 e⟩
theorem InY.ends {l l' : List By} {k : Nat} (h : InY l l' k true) (hk : l.length ≤ k) : allB refY l l' = true := allB_all (h.1 rfl).1 fun i h1 h2 => (h.1 rfl).2 i h1 h2 (by omega)
theorem InL.ends {l l' : List LBy} {k : Nat} (h : InL l l' k true) (hk : l.length ≤ k) : allB refL l l' = true := allB_all (h.1 rfl).1 fun i h1 h2 => (h.1 rfl).2 i h1 h2 (by omega)
theorem rBytes_any (p p' : Option Addr) (n n' c c' : Nat) (xs ys : List LBy) (W : World) (hx : LLIn W.heap.size W p n c xs) (hy : LLIn W.heap.size W p' n' c' ys) :
    Calls Try.prog 20 #[.slice p n c, .slice p' n' c'] W fun e w' => e = .returned (.bool (allB refL xs ys)) ∧ Below W.heap.size W w' := by
  obtain rfl : n = xs.length := hx.1
  obtain rfl : n' = ys.length := hy.1
  have k2 := hx.2.1
  have k3 := hx.2.2.1
  have k2' := hy.2.1
  have k3' := hy.2.2.1
  unfold maxLen at k3 k3'
  have H := Lib.hid hx
  have H' := Lib.hid hy
  clear hx hy
  obtain ⟨b0, eb0⟩ : ∃ b0, ((xs.length : Int) == (ys.length : Int)) = b0 := ⟨_, rfl⟩
  have I0 := Lib.hid (InL.start xs ys eb0)
  go_enter Try.func20, Try.ntmps20
  go_wp2_with fail
  clear eb0
  go_loopw [5, 6] (fun tb ti wr => ∃ (b : Bool) (i : Nat), i ≤ xs.length ∧ ti = .int .i64 i ∧ tb = .bool b ∧ Past W.heap.size W wr ∧ Hid (InL xs ys i b)) (fun _ ti _ => xs.length - (intOf ti).toNat)
  case atStart => exact ⟨b0, 0, Nat.zero_le _, rfl, rfl, Past.refl (Nat.le_refl _), I0⟩
  case round =>
    obtain ⟨b, i, hi, rfl, rfl, hb, hE⟩ := hrel
    cases b
    · go_wp2_with fail
      go_ret
      rw [hE.out.2 rfl]
      exact ⟨rfl, hb.2⟩
    · by_cases hlt : i < xs.length
      · have hlt' : i < ys.length := by have := (hE.out.1 rfl).1; omega
        obtain ⟨a, rfl, ha, zc⟩ := lb_row H.out i hlt
        obtain ⟨a', rfl, ha', yc⟩ := lb_row H'.out i hlt'
        have e1 := H.out.2.2.2.2 _ (List.getElem_mem hlt)
        have e2 := H'.out.2.2.2.2 _ (List.getElem_mem hlt')
        have hn1 : xs[i].n = xs[i].l.length := e1.1
        have hn2 : ys[i].n = ys[i].l.length := e2.1
        have E1 := Lib.hid e1
        have E2 := Lib.hid e2
        have z0 := (hb.2.cell (p := a.add i) (by rw [add_block]; exact ha)).trans zc
        have y0 := (hb.2.cell (p := a'.add i) (by rw [add_block]; exact ha')).trans yc
        have kx := e1.2.1
        have kx2 := e1.2.2.1
        unfold maxLen at kx2
        have HStep : Hid (∀ b, allB refY xs[i].l ys[i].l = b → InL xs ys (i + 1) b) := Lib.hid fun b e => hE.out.step hlt hlt' e
        obtain ⟨⟨px, nx, cx, lx⟩, ex⟩ : ∃ x, xs[i] = x := ⟨_, rfl⟩
        obtain ⟨⟨py, ny, cy, ly⟩, ey⟩ : ∃ y, ys[i] = y := ⟨_, rfl⟩
        rw [ex] at z0 hn1 kx
        rw [ey] at y0 hn2
        simp only [ex] at E1 HStep kx2
        simp only [ey] at E2 HStep
        simp only at z0 y0 hn1 hn2 kx kx2
        subst hn1
        subst hn2
        clear ex ey e1 e2 zc yc
        obtain ⟨b1, eb1⟩ : ∃ b1, ((lx.length : Int) == (ly.length : Int)) = b1 := ⟨_, rfl⟩
        have I1 := Lib.hid (InY.start lx ly eb1)
        go_wp2_with fail
        go_region
        all_goals
          go_wp2_with fail
          clear eb1
          generalize wr = wo at *
          go_loopw [5, 7] (fun tb tk wr => ∃ (b : Bool) (k : Nat), k ≤ lx.length ∧ tk = .int .i64 k ∧ tb = .bool b ∧ Past W.heap.size W wr ∧ Hid (InY lx ly k b)) (fun _ tk _ => lx.length - (intOf tk).toNat)
          case atStart => exact ⟨b1, 0, Nat.zero_le _, rfl, rfl, (by first | exact hb | exact hb.drew), I1⟩
          case round =>
            obtain ⟨b, k, hk, rfl, rfl, hb2, hE2⟩ := hrel
            cases b
            · have z0 := (hb2.2.cell (p := a.add i) (by rw [add_block]; exact ha)).trans ((hb.2.cell (p := a.add i) (by rw [add_block]; exact ha)).symm.trans z0)
              go_wp2_with fail
              exact ⟨⟨false, i + 1, by omega, by go_num, rfl, hb2, Lib.hid (HStep.out false (hE2.out.2 rfl))⟩, by simp [intOf]; omega⟩
            · have z0 := (hb2.2.cell (p := a.add i) (by rw [add_block]; exact ha)).trans ((hb.2.cell (p := a.add i) (by rw [add_block]; exact ha)).symm.trans z0)
              have y0 := (hb2.2.cell (p := a'.add i) (by rw [add_block]; exact ha')).trans ((hb.2.cell (p := a'.add i) (by rw [add_block]; exact ha')).symm.trans y0)
              by_cases klt : k < lx.length
              · have klt' : k < ly.length := by have := (hE2.out.1 rfl).1; omega
                obtain ⟨ax, rfl, hax, u0, u1, u2, u3, u4⟩ := yy_row E1.out k klt
                obtain ⟨ay, rfl, hay, v0, v1, v2, v3, v4⟩ := yy_row E2.out k klt'
                have hax2 : (ax.add (k * 5)).block < W.heap.size := by rw [add_block]; exact hax
                have hay2 : (ay.add (k * 5)).block < W.heap.size := by rw [add_block]; exact hay
                have u0 := (hb2.2.cell (p := ax.add (k * 5)) hax2).trans u0
                have u1 := (hb2.2.cell (p := ⟨(ax.add (k * 5)).block, (ax.add (k * 5)).off + 1, none⟩) hax2).trans u1
                have u2 := (hb2.2.cell (p := ⟨(ax.add (k * 5)).block, (ax.add (k * 5)).off + 2, none⟩) hax2).trans u2
                have u3 := (hb2.2.cell (p := ⟨(ax.add (k * 5)).block, (ax.add (k * 5)).off + 3, none⟩) hax2).trans u3
                have u4 := (hb2.2.cell (p := ⟨(ax.add (k * 5)).block, (ax.add (k * 5)).off + 4, none⟩) hax2).trans u4
                have v0 := (hb2.2.cell (p := ay.add (k * 5)) hay2).trans v0
                have v1 := (hb2.2.cell (p := ⟨(ay.add (k * 5)).block, (ay.add (k * 5)).off + 1, none⟩) hay2).trans v1
                have v2 := (hb2.2.cell (p := ⟨(ay.add (k * 5)).block, (ay.add (k * 5)).off + 2, none⟩) hay2).trans v2
                have v3 := (hb2.2.cell (p := ⟨(ay.add (k * 5)).block, (ay.add (k * 5)).off + 3, none⟩) hay2).trans v3
                have v4 := (hb2.2.cell (p := ⟨(ay.add (k * 5)).block, (ay.add (k * 5)).off + 4, none⟩) hay2).trans v4
                have IS := Lib.hid (hE2.out.step klt klt')
                have cB : ∀ w, Calls Try.prog 11 #[.agg #[.int .i64 lx[k].k, .int .u8 lx[k].b, .int .i64 lx[k].bk, .int .i64 lx[k].o, .int .i64 lx[k].i], .agg #[.int .i64 ly[k].k, .int .u8 ly[k].b, .int .i64 ly[k].bk, .int .i64 ly[k].o, .int .i64 ly[k].i]] w fun e w' => e = .returned (.bool (refY lx[k] ly[k])) ∧ Below w.heap.size w w' := fun w => rByte_any lx[k] ly[k] w
                generalize refY lx[k] ly[k] = bb at IS cB
                go_wp2_with fail
                go_region_law (go_simp; (with_reducible refine (cB _).mono ?_); rintro e w5 ⟨rfl, hb5⟩)
                all_goals
                  go_wp2_with fail
                  exact ⟨⟨bb, k + 1, by omega, by go_num, rfl, hb2.trans ⟨hb2.size, (by first | exact hb5.mono hb2.size | exact ((below_drew (Below.refl _ _)).trans (hb5.mono (Nat.le_refl _))).mono hb2.size)⟩, IS⟩, by simp [intOf]; omega⟩
              · go_wp2_with fail
                exact ⟨⟨true, i + 1, by omega, by go_num, rfl, hb2, Lib.hid (HStep.out true (hE2.out.ends (by omega)))⟩, by simp [intOf]; omega⟩
      · go_wp2_with fail
        go_ret
        rw [hE.out.ends (by omega)]
        exact ⟨rfl, hb.2⟩
end Go.Proofs.Ytglkbnckfkliaaa
