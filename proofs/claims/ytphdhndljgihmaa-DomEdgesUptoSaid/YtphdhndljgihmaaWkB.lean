/- Package dom: walkOf. -/
import Derived.Test.YtphdhndljgihmaaWkA
namespace Go.Proofs.Ytphdhndljgihmaa
open Go.RowKit Go.Maps
set_option linter.unusedVariables false
set_option linter.unusedSimpArgs false

theorem infoStep : (Try.prog.info? 76).map (fun i => (i.zero, i.size, i.bytes)) = some (some (.agg #[.int .i64 0, .int .i64 0]), 2, 16) := by kernel_rfl
theorem build_wk (w : World) (p : Option Addr) (n c : Nat) : (Instr.build 56 #[(2, .slice p n c)]).run Try.prog w = .ok (.agg #[.slice none 0 0, .slice none 0 0, .slice p n c]) w := run_build _ _ _ _ (by kernel_rfl)
theorem build_st (w : World) (a b : Int) : (Instr.build 76 #[(0, .int .i64 a), (1, .int .i64 b)]).run Try.prog w = .ok (.agg #[.int .i64 a, .int .i64 b]) w := run_build _ _ _ _ (by kernel_rfl)
theorem WkI.start (W : World) (cs : List Value) (n : Nat) : WkI W cs n (fun _ => 0) [] [] [] (.slice none 0 0) (.slice none 0 0) (.slice none 0 0) ((((W.alloc (.cells cs.toArray 25)).alloc (.cells #[.slice none 0 0, .slice none 0 0, .slice none 0 0] 56)).alloc (.cells (madeCells #[.int .i64 0] n) 3)).alloc (.cells #[.slice none 0 0, .slice none 0 0, .slice (some ⟨W.heap.size + 2, 0, none⟩) n n] 56)) := by
  have b0 : Box W.heap.size cs (W.alloc (.cells cs.toArray 25)) := Box.new W rfl _ _
  have b1 := Box.new (W.alloc (.cells cs.toArray 25)) (g := W.heap.size + 1) (by simp) [.slice none 0 0, .slice none 0 0, .slice none 0 0] 56
  have r1 := World.rowIs_made ((W.alloc (.cells cs.toArray 25)).alloc (.cells #[.slice none 0 0, .slice none 0 0, .slice none 0 0] 56)) (.int .i64 0) n 3
  have b3 := Box.new (((W.alloc (.cells cs.toArray 25)).alloc (.cells #[.slice none 0 0, .slice none 0 0, .slice none 0 0] 56)).alloc (.cells (madeCells #[.int .i64 0] n) 3)) (g := W.heap.size + 3) (by simp) [.slice none 0 0, .slice none 0 0, .slice (some ⟨W.heap.size + 2, 0, none⟩) n n] 56
  simp only [World.size_alloc] at r1
  exact ⟨(((((Past.refl (Nat.le_refl _)).alloc _).alloc _).alloc _).alloc _), ((b0.alloc _).alloc _).alloc _, r1.alloc _, b3, World.ownsRow_nil _ _ _ _, World.ownsRow_nil _ _ _ _, World.ownsRow_nil _ _ _ _, sep_none, sep_none, sep_none, by simp, (b1.alloc _).alloc _⟩
/-- What walkOf answers. -/
def WkEnds (S : Nat → List Nat) (n : Nat) (W : World) (e : Ending) (w' : World) : Prop :=
  ∃ vb vp bl pr, e = .returned (.agg #[vb, vp, .slice (some ⟨W.heap.size + 2, 0, none⟩) n n]) ∧ ((n = 0 ∧ bl = [] ∧ pr = []) ∨ (0 < n ∧ Walked S n bl pr)) ∧ Past W.heap.size W w' ∧
    w'.rowIs (W.heap.size + 2) 3 n (fun i => .int .i64 (nuI bl i)) ∧ w'.ownsRow (W.heap.size + 4) 3 1 vb bl.length ((ints bl).flatMap intC) ∧ w'.ownsRow (W.heap.size + 4) 3 1 vp pr.length (pr.flatMap intC)
theorem grow_stay {w w' : World} {lo hi : Nat} {v : Value} (hg : w.grownBy w' v.ownBlock) (hh : hi ≤ w.heap.size) (hv : ∀ g, v.ownBlock = some g → g < lo ∨ hi ≤ g) : Stay lo hi w w' := fun k h1 h2 => hg.block k (by omega) (fun e => by have := hv k e.symm; omega)
theorem Wst.take_lt {S : Nat → List Nat} {n : Nat} {st : List Stp} {bl : List Nat} {pr : List Int} {b : Nat} {f : Int} (h : Wst S n ((b, f) :: st) bl pr) (hb : b ∉ bl) (hn : 0 < n) (hS : ∀ b, ∀ t ∈ S b, t < n) : b < n := (h.take hb hn hS).ltn b (by simp)
theorem WkI.ret {W w : World} {cs : List Value} {n : Nat} {nf : Nat → Int} {bl : List Nat} {pr : List Int} {sa : List Stp} {vb vp va : Value} (h : WkI W cs n nf bl pr sa vb vp va w) (x y z : Value) :
    WkI W cs n nf bl pr sa vb vp va w ∧ Box (W.heap.size + 1) [x, y, z] (((w.setCell ⟨W.heap.size + 1, 0, none⟩ x).setCell ⟨W.heap.size + 1, 1, none⟩ y).setCell ⟨W.heap.size + 1, 2, none⟩ z) ∧ Past W.heap.size W (((w.setCell ⟨W.heap.size + 1, 0, none⟩ x).setCell ⟨W.heap.size + 1, 1, none⟩ y).setCell ⟨W.heap.size + 1, 2, none⟩ z) ∧
    (((w.setCell ⟨W.heap.size + 1, 0, none⟩ x).setCell ⟨W.heap.size + 1, 1, none⟩ y).setCell ⟨W.heap.size + 1, 2, none⟩ z).rowIs (W.heap.size + 2) 3 n (fun i => .int .i64 (nf i)) ∧
    (((w.setCell ⟨W.heap.size + 1, 0, none⟩ x).setCell ⟨W.heap.size + 1, 1, none⟩ y).setCell ⟨W.heap.size + 1, 2, none⟩ z).ownsRow (W.heap.size + 4) 3 1 vb bl.length ((ints bl).flatMap intC) ∧
    (((w.setCell ⟨W.heap.size + 1, 0, none⟩ x).setCell ⟨W.heap.size + 1, 1, none⟩ y).setCell ⟨W.heap.size + 1, 2, none⟩ z).ownsRow (W.heap.size + 4) 3 1 vp pr.length (pr.flatMap intC) := by
  refine ⟨h, ((h.rbox.set 0 x).set 1 y).set 2 z, ((h.past.set (a := ⟨W.heap.size + 1, 0, none⟩) (by dsimp only; omega) x).set (a := ⟨W.heap.size + 1, 1, none⟩) (by dsimp only; omega) y).set (a := ⟨W.heap.size + 1, 2, none⟩) (by dsimp only; omega) z, ((h.num.setOther (by dsimp only; omega) _).setOther (by dsimp only; omega) _).setOther (by dsimp only; omega) _, ?_, ?_⟩
  · exact ownsRow_setCell_below (ownsRow_setCell_below (ownsRow_setCell_below h.rb (by dsimp only; omega) _) (by dsimp only; omega) _) (by dsimp only; omega) _
  · exact ownsRow_setCell_below (ownsRow_setCell_below (ownsRow_setCell_below h.rp (by dsimp only; omega) _) (by dsimp only; omega) _) (by dsimp only; omega) _
set_option maxRecDepth 100000 in
set_option maxHeartbeats 2000000 in
theorem walkOf_any (f : LFn) (W : World) (hf : FnIn W.heap.size W f) (hs : FnSm f) (hbs : f.bs.length ≤ 1048576) :
    Calls Try.prog 36 #[.agg (fnC f).toArray] W (WkEnds (succP (fnD f).bs) f.bs.length W) := by
  have hmk := run_make_row' (P := Try.prog) 22 3 _ _ Try.underlying22 infoInt rfl .i64 .i64 f.bs.length (by omega) (by omega)
  have hP := (Past.refl (Nat.le_refl W.heap.size)).alloc (.cells (fnC f).toArray 25)
  have A1 : Box W.heap.size (fnC f) (W.alloc (.cells (fnC f).toArray 25)) := Box.new W rfl _ _
  have HN : Hid (∀ b, (succP (fnD f).bs b).Nodup ∧ ∀ t ∈ succP (fnD f).bs b, t < f.bs.length) := Lib.hid (fun b => ⟨succP_nodup _ b, fun t ht => by
    have := succP_lt _ _ t ht
    simpa [fnD] using this⟩)
  have cS : ∀ (b : Nat) (w : World), Past W.heap.size W w → Calls Try.prog 40 #[.agg (fnC f).toArray, .int .i64 b] w (OwnInts (succP (fnD f).bs b) w) := fun b w h => by
    have := Succs_own f b w (past_lasts lasts_Fn hf h) hs
    rw [succI_nat] at this
    exact this
  obtain ⟨S, eS⟩ : ∃ S, succP (fnD f).bs = S := ⟨_, rfl⟩
  simp only [eS] at cS HN ⊢
  obtain ⟨nm, pp, pn, pc, ps, rt, bp, bn, bc, bs⟩ := f
  obtain rfl : bn = bs.length := hf.2.1
  show Calls Try.prog 36 #[.agg #[.string nm, .slice pp pn pc, .int .i64 rt, .slice bp bs.length bc]] W _
  have hfc : fnC ⟨nm, pp, pn, pc, ps, rt, bp, bs.length, bc, bs⟩ = [.string nm, .slice pp pn pc, .int .i64 rt, .slice bp bs.length bc] := rfl
  rw [hfc] at A1 hP
  simp only [hfc] at cS
  obtain ⟨n, en⟩ : ∃ n, bs.length = n := ⟨_, rfl⟩
  simp only [en] at cS A1 hP hbs HN hmk ⊢
  have HC := Lib.hid cS
  have a3 := (A1.alloc (.cells #[.slice none 0 0, .slice none 0 0, .slice none 0 0] 56)).get 3 _ rfl
  have HB := Lib.hid (And.intro hP A1)
  clear cS hP A1 hf hs eS hfc en
  have hb1 := build_wk
  have hb2 := build_st
  go_enter Try.func36, Try.ntmps36
  go_wp2_with fail
  have HI0 : Hid (WkI W [.string nm, .slice pp pn pc, .int .i64 rt, .slice bp n bc] n (fun _ => 0) [] [] [] (.slice none 0 0) (.slice none 0 0) (.slice none 0 0) ((((W.alloc (.cells #[.string nm, .slice pp pn pc, .int .i64 rt, .slice bp n bc] 25)).alloc (.cells #[.slice none 0 0, .slice none 0 0, .slice none 0 0] 56)).alloc (.cells (madeCells #[.int .i64 0] n) 3)).alloc (.cells #[.slice none 0 0, .slice none 0 0, .slice (some ⟨W.heap.size + 2, 0, none⟩) n n] 56))) := Lib.hid (WkI.start W _ n)
  clear a3 hmk
  go_loopw [18] (fun t wr => ∃ i : Nat, i ≤ n ∧ t = .int .i64 i ∧ WkI W [.string nm, .slice pp pn pc, .int .i64 rt, .slice bp n bc] n (fun j => if j < i then -1 else 0) [] [] [] (.slice none 0 0) (.slice none 0 0) (.slice none 0 0) wr) (fun t _ => n - (intOf t).toNat)
  case atStart => exact ⟨0, Nat.zero_le _, rfl, HI0.out.congr (fun i _ => by simp)⟩
  case round =>
    obtain ⟨i, hin, rfl, hI⟩ := hrel
    clear HI0
    by_cases hlt : i < n
    · have x2 := hI.wbox.get 2 _ rfl
      have r0 := hI.num.cell hlt
      have rf := hI.num.frozen i
      have HI := Lib.hid hI
      clear hI
      go_wp2_with fail
      have h := HI.out.setNum i (-1)
      exact ⟨⟨i + 1, by omega, by go_num, h.congr (fun j hj => by by_cases e : j = i <;> by_cases e2 : j < i <;> simp [e, e2] <;> omega)⟩, by simp [intOf]; omega⟩
    · obtain rfl : i = n := by omega
      replace hI := hI.congr (nf' := nuI []) (fun j hj => by rw [if_pos hj]; exact (nuI_out (by simp)).symm)
      have a3 := hI.fbox.get 3 _ rfl
      have HI := Lib.hid hI
      clear hI
      by_cases h0 : i = 0
      · subst h0
        go_wp2_with fail
        go_loopg [5] 0 (fun k vo w => vo = .slice none 0 0 ∧ w = wr ∧ k = 0)
        case atStart => exact ⟨rfl, rfl, rfl⟩
        case round =>
          obtain ⟨rfl, rfl, rfl⟩ := hrel
          have x0 : wr.cell? ⟨W.heap.size + 1 + 1 + 1, 0, none⟩ = some (.slice none 0 0) := HI.out.wbox.get 0 _ rfl
          have x1 : wr.cell? ⟨W.heap.size + 1 + 1 + 1, 1, none⟩ = some (.slice none 0 0) := HI.out.wbox.get 1 _ rfl
          have x2 : wr.cell? ⟨W.heap.size + 1 + 1 + 1, 2, none⟩ = some (.slice (some ⟨W.heap.size + 2, 0, none⟩) 0 0) := HI.out.wbox.get 2 _ rfl
          have y0 := HI.out.rbox.get 0 _ rfl
          have y1 := HI.out.rbox.get 1 _ rfl
          have y2 := HI.out.rbox.get 2 _ rfl
          have yf := HI.out.rbox.2.1
          go_wp2_with fail
          obtain ⟨_, h2, h3, h4, h5, h6⟩ := HI.out.ret (.slice none 0 0) (.slice none 0 0) (.slice (some ⟨W.heap.size + 2, 0, none⟩) 0 0)
          have z0 := h2.get 0 _ rfl
          have z1 := h2.get 1 _ rfl
          have z2 := h2.get 2 _ rfl
          refine bodyPost_ret (v := .agg #[.slice none 0 0, .slice none 0 0, .slice (some ⟨W.heap.size + 2, 0, none⟩) 0 0]) (by simp [results, Try.results36, go_sem, z0, z1, z2]) rfl ?_
          exact ⟨_, _, [], [], rfl, .inl ⟨rfl, rfl, rfl⟩, h3, h4, h5, h6⟩
      · have hpos : 0 < i := by omega
        obtain ⟨i0, hi, hz0, hz1, hz2⟩ := info_parts infoStep
        have hbig := HI.out.big
        clear h0
        go_wp2_with (at_builtin; refine wpList_append_at rfl (.tmp 30) (.tmp 32) 74 rfl (W.heap.size + 4) 76 i0 _ 2 16 Try.underlying74 hi hz0 hz1 hz2 rfl (by decide) (.slice none 0 0) 0 [] rfl (World.ownsRow_nil _ _ _ _) (some ⟨wr.heap.size, 0, none⟩) 1 1 [.int .i64 0, .int .i64 (-1)] rfl rfl (lit_at' wr rfl [.int .i64 0, .int .i64 (-1)] _) (by intro u hu; simp at hu; rcases hu with rfl | rfl <;> rfl) (by unfold maxLen; omega) (by omega) (by simp; omega) ?_; intro v6 w6 hown6 hgrow6 hmv6)
        obtain ⟨q6, c6, rfl⟩ := row_slice hown6
        have hst := pot_top S i (fun b => nodup_lt i (S b) (HN.out b).1 (HN.out b).2) i
        have hI6 := (HI.out.alloc (.cells #[.int .i64 0, .int .i64 (-1)] 76)).growA (x := (0, -1)) hown6 hgrow6 hmv6
        have hmx : mwk S i [(0, -1)] [] ≤ 1099512676353 := by
          have h2 : i * (1 + i) ≤ 1048576 * 1048577 := Nat.mul_le_mul hbs (by omega)
          unfold mwk
          simp only [List.length_singleton]
          omega
        have HI6 := Lib.hid (And.intro hI6 hmx)
        clear hown6 hgrow6 hmv6 hI6 hst hmx hi hz0 hz1 hz2 hbig a3
        generalize wr = wo at *
        go_loopg [5] (mwk S i [(0, -1)] []) (fun k va wr => ∃ (bl : List Nat) (pr : List Int) (sa : List Stp) (vb vp : Value), WkI W [.string nm, .slice pp pn pc, .int .i64 rt, .slice bp i bc] i (nuI bl) bl pr sa vb vp va wr ∧ Wst S i sa.reverse bl pr ∧ mwk S i sa.reverse bl ≤ 1099512676353 ∧ k = mwk S i sa.reverse bl)
        case atStart => exact ⟨[], [], _, _, _, HI6.out.1, Wst.start S i, HI6.out.2, rfl⟩
        case round =>
          obtain ⟨bl, pr, sa, vb, vp, hI, hV, hmx, rfl⟩ := hrel
          clear HI6 HI
          obtain ⟨pb, cb, rfl⟩ := row_slice hI.rb
          obtain ⟨pq, cq, rfl⟩ := row_slice hI.rp
          obtain ⟨q, c, rfl⟩ := row_slice hI.ra
          have HI := Lib.hid (And.intro hI (And.intro hV hmx))
          clear hI hV hmx
          rcases snoc_cases sa with rfl | ⟨sa, x, rfl⟩
          · have x0 : wr.cell? ⟨W.heap.size + 1 + 1 + 1, 0, none⟩ = some (.slice pb bl.length cb) := HI.out.1.wbox.get 0 _ rfl
            have x1 : wr.cell? ⟨W.heap.size + 1 + 1 + 1, 1, none⟩ = some (.slice pq pr.length cq) := HI.out.1.wbox.get 1 _ rfl
            have x2 : wr.cell? ⟨W.heap.size + 1 + 1 + 1, 2, none⟩ = some (.slice (some ⟨W.heap.size + 2, 0, none⟩) i i) := HI.out.1.wbox.get 2 _ rfl
            have y0 := HI.out.1.rbox.get 0 _ rfl
            have y1 := HI.out.1.rbox.get 1 _ rfl
            have y2 := HI.out.1.rbox.get 2 _ rfl
            have yf := HI.out.1.rbox.2.1
            go_wp2_with fail
            obtain ⟨_, h2, h3, h4, h5, h6⟩ := HI.out.1.ret (.slice pb bl.length cb) (.slice pq pr.length cq) (.slice (some ⟨W.heap.size + 2, 0, none⟩) i i)
            have z0 := h2.get 0 _ rfl
            have z1 := h2.get 1 _ rfl
            have z2 := h2.get 2 _ rfl
            refine bodyPost_ret (v := .agg #[.slice pb bl.length cb, .slice pq pr.length cq, .slice (some ⟨W.heap.size + 2, 0, none⟩) i i]) (by simp [results, Try.results36, go_sem, z0, z1, z2]) rfl ?_
            exact ⟨_, _, bl, pr, rfl, .inr ⟨hpos, HI.out.2.1.walked⟩, h3, h4, h5, h6⟩
          · obtain ⟨m, em⟩ : ∃ m, sa.length = m := ⟨_, rfl⟩
            have hI := HI.out.1
            have el : (sa ++ [x]).length = m + 1 := by simp [em]
            rw [el] at hI ⊢
            obtain ⟨g, rfl⟩ : ∃ g, q = some ⟨g, 0, none⟩ := by
              rcases hI.ra.2 with ⟨_, h1⟩ | ⟨g, cap, _, hv, _⟩
              · rw [el] at h1; omega
              · injection hv with h1 h2 h3
                exact ⟨g, h1⟩
            have hcap : m + 1 ≤ c := by
              rcases hI.ra.2 with ⟨_, h1⟩ | ⟨g', cap', cur, e, _, _, k1, k2, _⟩
              · rw [el] at h1; omega
              · injection e with _ _ e3; subst e3; rw [el] at k1; exact k1
            have hra := hI.ra
            rw [el] at hra
            have c0 := hra.cellAt (m * 2) (by omega)
            have c1 := hra.cellAt (m * 2 + 1) (by omega)
            have hfl : ((sa ++ [x]).flatMap stC) = (sa.flatMap stC) ++ stC x := by simp
            have hfn : (sa.flatMap stC).length = m * 2 := by rw [← em]; exact stC_len sa
            rw [hfl, List.getElem?_append_right (by omega), hfn, Nat.sub_self] at c0
            rw [hfl, List.getElem?_append_right (by omega), hfn, Nat.add_sub_cancel_left] at c1
            obtain ⟨b, fr⟩ := x
            replace c0 : wr.cell? ⟨g, m * 2, none⟩ = some (.int .i64 b) := c0
            replace c1 : wr.cell? ⟨g, m * 2 + 1, none⟩ = some (.int .i64 fr) := c1
            have hcast : ((m + 1 : Nat) : Int) - 1 = m := by omega
            have hpos1 : decide ((0 : Int) < ((m + 1 : Nat) : Int)) = true := by simp
            have hmb : m ≤ 1099512676353 := by
              have h1 := HI.out.2.2
              unfold mwk at h1
              simp at h1
              omega
            have hgl : g < wr.heap.size := (hra.lt g rfl).2
            have hIA := (hI.popA em).alloc (.cells #[.int .i64 b, .int .i64 fr] 76)
            have hLB := Box.new wr rfl [.int .i64 b, .int .i64 fr] 76
            have x0 : (wr.alloc (.cells #[.int .i64 b, .int .i64 fr] 76)).cell? ⟨W.heap.size + 1 + 1 + 1, 0, none⟩ = some (.slice pb bl.length cb) := hIA.wbox.get 0 _ rfl
            have x1 : (wr.alloc (.cells #[.int .i64 b, .int .i64 fr] 76)).cell? ⟨W.heap.size + 1 + 1 + 1, 1, none⟩ = some (.slice pq pr.length cq) := hIA.wbox.get 1 _ rfl
            have x2 : (wr.alloc (.cells #[.int .i64 b, .int .i64 fr] 76)).cell? ⟨W.heap.size + 1 + 1 + 1, 2, none⟩ = some (.slice (some ⟨W.heap.size + 2, 0, none⟩) i i) := hIA.wbox.get 2 _ rfl
            have HIA := Lib.hid (And.intro hIA (And.intro hLB em))
            clear hI hIA hLB hra el hfl hfn em
            by_cases hb : b ∈ bl
            · have hbi : b < i := HI.out.2.1.ltn b hb
              have r0 := HIA.out.1.num.cell hbi
              rw [nuI_in hb] at r0
              have hne : (((nuL bl b : Nat) : Int) != -1) = true := bne_iff_ne.2 (by omega)
              have hwf : (nuL bl b : Int) ≤ 1048576 := by have := nuL_lt hb; have := nodup_lt i bl HI.out.2.1.nd HI.out.2.1.ltn; omega
              have hrv : (sa ++ [(b, fr)]).reverse = ((b, fr) : Stp) :: sa.reverse := by simp
              have HW := HI.out.2
              rw [hrv] at HW
              have HWH := Lib.hid HW
              have HRV := Lib.hid hrv
              clear HW hrv
              go_wp2_with fail
              go_roundg (mwk S i sa.reverse bl)
              case rel => exact ⟨bl, pr, sa, _, _, HIA.out.1, HWH.out.1.skip hb, by have h1 := HWH.out.2; have h2 := @mwk_skip S i sa.reverse bl (b, fr); omega, rfl⟩
              case measure => rw [HRV.out]; exact mwk_skip S
            · have hrv : (sa ++ [(b, fr)]).reverse = ((b, fr) : Stp) :: sa.reverse := by simp
              have HW := HI.out.2
              rw [hrv] at HW
              have hbi : b < i := HW.1.take_lt hb hpos (fun b => (HN.out b).2)
              have htk := HW.1.take hb hpos (fun b => (HN.out b).2)
              have hmt := mwk_take S (st := sa.reverse) (x := (b, fr)) hbi hb (bl.length : Int)
              have hm0 := HW.2
              have HRV := Lib.hid hrv
              have HWH := Lib.hid (And.intro htk (And.intro hmt hm0))
              have hbl : bl.length ≤ 1048576 := by have := nodup_lt i bl HW.1.nd HW.1.ltn; omega
              have hpl : pr.length ≤ 1048576 := by have := HW.1.plen; omega
              have HLT := Lib.hid (And.intro (fun g e => (HI.out.1.rb.lt g e).2) (fun g e => (HI.out.1.rp.lt g e).2))
              clear HW hrv htk hmt hm0 HI
              have r0 := HIA.out.1.num.cell hbi
              have rf := HIA.out.1.num.frozen b
              rw [nuI_out hb] at r0
              have hsn := nuI_snoc hb
              have HSN := Lib.hid hsn
              have l0 := HIA.out.2.1.get 0 _ rfl
              have l1 := HIA.out.2.1.get 1 _ rfl
              clear hb hsn
              go_upto_region 16 with fail
              obtain ⟨wB, ewB⟩ : ∃ wB, (wr.alloc (.cells #[.int .i64 b, .int .i64 fr] 76)).setCell ⟨W.heap.size + 2, b, none⟩ (.int .i64 bl.length) = wB := ⟨_, rfl⟩
              have hIB : WkI W [.string nm, .slice pp pn pc, .int .i64 rt, .slice bp i bc] i (nuI (bl ++ [b])) bl pr sa (.slice pb bl.length cb) (.slice pq pr.length cq) (.slice (some ⟨g, 0, none⟩) m c) wB := by
                rw [← ewB]
                exact (HIA.out.1.setNum b (bl.length : Int)).congr (fun j _ => (HSN.out j).symm)
              have hLB : Box wr.heap.size [.int .i64 b, .int .i64 fr] wB := by
                have := HIA.out.1.big
                have h4 : W.heap.size + 4 ≤ g := by
                  have := (HIA.out.1.ra.lt g rfl).1
                  exact this
                rw [← ewB]
                exact HIA.out.2.1.other (by omega) _ _
              simp only [ewB]
              clear x0 x1 x2 r0 rf l0 l1 c0 c1 ewB
              have x0 : wB.cell? ⟨W.heap.size + 1 + 1 + 1, 0, none⟩ = some (.slice pb bl.length cb) := hIB.wbox.get 0 _ rfl
              have l0 := hLB.get 0 _ rfl
              have HIB := Lib.hid (hIB.alloc (.cells #[.int .i64 b] 3))
              have HLB := Lib.hid (hLB.alloc (.cells #[.int .i64 b] 3))
              obtain ⟨i0, hi, hz0, hz1, hz2⟩ := info_parts infoInt
              have HIN := Lib.hid (And.intro hi (And.intro hz0 (And.intro hz1 hz2)))
              have hbig := hIB.big
              clear hIB hLB hi hz0 hz1 hz2
              go_upto_region 17 with (at_builtin; refine wpList_append_at rfl (.tmp 65) (.tmp 68) 22 rfl (W.heap.size + 4) 3 i0 _ 1 8 Try.underlying22 HIN.out.1 HIN.out.2.1 HIN.out.2.2.1 HIN.out.2.2.2 rfl (by decide) (.slice pb bl.length cb) bl.length ((ints bl).flatMap intC) rfl HIB.out.rb (some ⟨wB.heap.size, 0, none⟩) 1 1 [.int .i64 b] rfl rfl (lit_one _ _ _) (by intro u hu; simp at hu; subst hu; rfl) (by unfold maxLen; omega) (by omega) (by simp; omega) ?_; intro v6 w6 hown6 hgrow6 hmv6; have hw6 := HIB.out.wbox.kept hgrow6 (fun e => by have := (HIB.out.rb.lt _ e.symm).1; omega); have k0 : w6.cell? ⟨W.heap.size + 1 + 1 + 1, 0, none⟩ = some (.slice pb bl.length cb) := hw6.get 0 _ rfl; have kf : w6.frozen? ⟨W.heap.size + 1 + 1 + 1, 0, none⟩ = false := hw6.2.1 0; have H6 := Lib.hid (And.intro hown6 (And.intro hgrow6 hmv6)); obtain ⟨q6, c6, rfl⟩ := row_slice hown6; clear hw6 hown6 hgrow6 hmv6)
              obtain ⟨wC, ewC⟩ : ∃ wC, w6.setCell ⟨W.heap.size + 1 + 1 + 1, 0, none⟩ (.slice q6 (bl.length + 1) c6) = wC := ⟨_, rfl⟩
              have hIC : WkI W [.string nm, .slice pp pn pc, .int .i64 rt, .slice bp i bc] i (nuI (bl ++ [b])) (bl ++ [b]) pr sa (.slice q6 (bl.length + 1) c6) (.slice pq pr.length cq) (.slice (some ⟨g, 0, none⟩) m c) wC := by
                rw [← ewC]
                exact HIB.out.growB H6.out.1 H6.out.2.1 H6.out.2.2
              have hLC : Box wr.heap.size [.int .i64 b, .int .i64 fr] wC := by
                have := HIA.out.1.big
                rw [World.size_alloc] at this
                rw [← ewC]
                exact (HLB.out.kept H6.out.2.1 (fun e => by have := HLT.out.1 _ e.symm; omega)).other (by have := HLB.out.1; have := HIA.out.1.ra.lt g rfl; omega) _ _
              simp only [ewC]
              clear x0 l0 ewC k0 kf
              have x1 : wC.cell? ⟨W.heap.size + 1 + 1 + 1, 1, none⟩ = some (.slice pq pr.length cq) := hIC.wbox.get 1 _ rfl
              have l1 := hLC.get 1 _ rfl
              have HIC := Lib.hid (hIC.alloc (.cells #[.int .i64 fr] 3))
              have HLC := Lib.hid (hLC.alloc (.cells #[.int .i64 fr] 3))
              replace hbig := hIC.big
              clear hIC hLC
              go_upto_region 18 with (at_builtin; refine wpList_append_at rfl (.tmp 72) (.tmp 75) 22 rfl (W.heap.size + 4) 3 i0 _ 1 8 Try.underlying22 HIN.out.1 HIN.out.2.1 HIN.out.2.2.1 HIN.out.2.2.2 rfl (by decide) (.slice pq pr.length cq) pr.length (pr.flatMap intC) rfl HIC.out.rp (some ⟨wC.heap.size, 0, none⟩) 1 1 [.int .i64 fr] rfl rfl (lit_one _ _ _) (by intro u hu; simp at hu; subst hu; rfl) (by unfold maxLen; omega) (by omega) (by simp; omega) ?_; intro v7 w7 hown7 hgrow7 hmv7; have hw7 := HIC.out.wbox.kept hgrow7 (fun e => by have := (HIC.out.rp.lt _ e.symm).1; omega); have k0 : w7.cell? ⟨W.heap.size + 1 + 1 + 1, 1, none⟩ = some (.slice pq pr.length cq) := hw7.get 1 _ rfl; have kf : w7.frozen? ⟨W.heap.size + 1 + 1 + 1, 1, none⟩ = false := hw7.2.1 1; have H7 := Lib.hid (And.intro hown7 (And.intro hgrow7 hmv7)); obtain ⟨q7, c7, rfl⟩ := row_slice hown7; clear hw7 hown7 hgrow7 hmv7)
              obtain ⟨wD, ewD⟩ : ∃ wD, w7.setCell ⟨W.heap.size + 1 + 1 + 1, 1, none⟩ (.slice q7 (pr.length + 1) c7) = wD := ⟨_, rfl⟩
              have hID : WkI W [.string nm, .slice pp pn pc, .int .i64 rt, .slice bp i bc] i (nuI (bl ++ [b])) (bl ++ [b]) (pr ++ [fr]) sa (.slice q6 (bl.length + 1) c6) (.slice q7 (pr.length + 1) c7) (.slice (some ⟨g, 0, none⟩) m c) wD := by
                rw [← ewD]
                exact HIC.out.growP H7.out.1 H7.out.2.1 H7.out.2.2
              have hLD : Box wr.heap.size [.int .i64 b, .int .i64 fr] wD := by
                have := HIA.out.1.big
                rw [World.size_alloc] at this
                rw [← ewD]
                exact (HLC.out.kept H7.out.2.1 (fun e => by have := HLT.out.2 _ e.symm; omega)).other (by have := HLB.out.1; have := HIA.out.1.ra.lt g rfl; omega) _ _
              simp only [ewD]
              clear x1 l1 ewD k0 kf
              have f0 := hID.fbox.get 0 _ rfl
              have f1 := hID.fbox.get 1 _ rfl
              have f2 := hID.fbox.get 2 _ rfl
              have f3 := hID.fbox.get 3 _ rfl
              have l0 := hLD.get 0 _ rfl
              have cS := HC.out b wD hID.past
              have HID := Lib.hid hID
              clear hID hLD HIC HLC HIB HLB H6 H7 HIA HSN
              obtain ⟨T, eT⟩ : ∃ T, S b = T := ⟨_, rfl⟩
              have HT := Lib.hid eT
              have hTn : T.length ≤ 1048576 := by
                have := nodup_lt i (S b) (HN.out b).1 (HN.out b).2
                rw [eT] at this; omega
              rw [eT] at cS
              clear eT
              go_wp2_with fail
              refine cS.mono ?_
              rintro e w8 ⟨p, cc, rfl, hp8, ho8⟩
              clear f0 f1 f2 f3 l0 cS
              have hI8 := HID.out.later hp8.2
              have HX := Lib.hid (And.intro hI8 (And.intro ho8 hp8))
              clear hI8 ho8 hp8
              go_wp2_with fail
              have hrv2 : (sa ++ T.map fun t => ((t, (bl.length : Int)) : Stp)).reverse = (T.map fun t => ((t, (bl.length : Int)) : Stp)).reverse ++ sa.reverse := List.reverse_append
              have HRV2 := Lib.hid hrv2
              have hmk : ∀ j, j ≤ T.length → (sa ++ (T.take j).map fun t => ((t, (bl.length : Int)) : Stp)).length ≤ 1099512676353 := fun j hj => by
                rw [List.length_append, List.length_map, List.length_take, Nat.min_eq_left hj]
                have h1 := HWH.out.2.1
                have h2 := HWH.out.2.2
                rw [HT.out] at h1
                unfold mwk at h1 h2
                simp at h1 h2
                omega
              have HMK := Lib.hid hmk
              have hgl2 : ∀ g', (Value.slice (some ⟨g, 0, none⟩) m c).ownBlock = some g' → g' < wD.heap.size := fun g' e => (HID.out.ra.lt g' e).2
              have HGL := Lib.hid hgl2
              clear hrv2 hmk hgl2
              obtain ⟨i1, hi1, hy0, hy1, hy2⟩ := info_parts infoStep
              have HIS := Lib.hid (And.intro hi1 (And.intro hy0 (And.intro hy1 hy2)))
              clear hi1 hy0 hy1 hy2
              generalize wr = wq at *
              go_loopw [5, 83] (fun va t wl => ∃ (j : Nat), j ≤ T.length ∧ t = .int .i64 j ∧ WkI W [.string nm, .slice pp pn pc, .int .i64 rt, .slice bp i bc] i (nuI (bl ++ [b])) (bl ++ [b]) (pr ++ [fr]) (sa ++ (T.take j).map fun t => ((t, (bl.length : Int)) : Stp)) (.slice q6 (bl.length + 1) c6) (.slice q7 (pr.length + 1) c7) va wl ∧ ListOwn 3 1 intC NoOwn wD.heap.size w8.heap.size wl p T.length cc (ints T) ∧ (∀ g', va.ownBlock = some g' → g' < wD.heap.size ∨ w8.heap.size ≤ g') ∧ w8.heap.size ≤ wl.heap.size) (fun _ t _ => T.length - (intOf t).toNat)
              case atStart => exact ⟨0, Nat.zero_le _, rfl, by simpa using HX.out.1, HX.out.2.1, fun g' e => .inl (HGL.out g' e), Nat.le_refl _⟩
              case round =>
                obtain ⟨j, hj, rfl, hI, ho, hsp, hsz⟩ := hrel
                obtain ⟨qa, ca, rfl⟩ := row_slice hI.ra
                by_cases hlt : j < T.length
                · obtain ⟨at_, rfl, ha, hc⟩ := int_row (ints_in ho hsz) j (by rw [ints_len]; exact hlt)
                  rw [ints_get T j hlt] at hc
                  have hml := HMK.out j hj
                  have htk : T.take (j + 1) = T.take j ++ [T[j]] := List.take_succ_eq_append_getElem hlt
                  obtain ⟨t, et⟩ : ∃ t, T[j] = t := ⟨_, rfl⟩
                  rw [et] at hc htk
                  obtain ⟨sb, esb⟩ : ∃ sb, (sa ++ (T.take j).map fun t => ((t, (bl.length : Int)) : Stp)) = sb := ⟨_, rfl⟩
                  have hsb : (sa ++ (T.take (j + 1)).map fun t => ((t, (bl.length : Int)) : Stp)) = sb ++ [(t, (bl.length : Int))] := by
                    rw [htk, List.map_append, ← List.append_assoc, esb]; rfl
                  rw [esb] at hI hml hsp ⊢
                  have HSB := Lib.hid hsb
                  have hbig := hI.big
                  have HI2 := Lib.hid (hI.alloc (.cells #[.int .i64 t, .int .i64 bl.length] 76))
                  have HO := Lib.hid (And.intro ho hsp)
                  clear hI ho hsp et htk esb hsb
                  go_wp2_with (at_builtin; refine wpList_append_at rfl (.tmp 87) (.tmp 91) 74 rfl (W.heap.size + 4) 76 i1 _ 2 16 Try.underlying74 HIS.out.1 HIS.out.2.1 HIS.out.2.2.1 HIS.out.2.2.2 rfl (by decide) (.slice qa sb.length ca) sb.length (sb.flatMap stC) rfl HI2.out.ra (some ⟨wr.heap.size, 0, none⟩) 1 1 [.int .i64 t, .int .i64 bl.length] rfl rfl (lit_at' wr rfl [.int .i64 t, .int .i64 bl.length] _) (by intro u hu; simp at hu; rcases hu with rfl | rfl <;> rfl) (by unfold maxLen; omega) (by omega) (by simp; omega) ?_; intro v9 w9 hown9 hgrow9 hmv9; have H9 := Lib.hid (And.intro hown9 (And.intro hgrow9 hmv9)); clear hown9 hgrow9 hmv9)
                  have hI9 := HI2.out.growA (x := (t, (bl.length : Int))) H9.out.1 H9.out.2.1 H9.out.2.2
                  rw [← HSB.out] at hI9
                  refine ⟨⟨j + 1, by omega, by go_num, hI9, ?_, fun g' e => ?_, ?_⟩, by simp [intOf]; omega⟩
                  · exact (HO.out.1.stay local_NoOwn (below_stay ((Below.refl _ _).alloc (Nat.le_refl _) _) hsz)).stay local_NoOwn (grow_stay H9.out.2.1 (by simp; omega) HO.out.2)
                  · rcases H9.out.2.2 with e2 | e2
                    · rw [e2] at e
                      exact HO.out.2 g' e
                    · rw [e2] at e
                      injection e with e
                      simp at e
                      omega
                  · have := H9.out.2.1.size
                    simp at this
                    omega
                · obtain rfl : j = T.length := by omega
                  have HI2 := Lib.hid hI
                  clear hI ho hsp
                  go_wp2_with fail
                  go_roundg (mwk S i ((T.map fun t => ((t, (bl.length : Int)) : Stp)).reverse ++ sa.reverse) (bl ++ [b]))
                  case rel =>
                    have h1 := HWH.out.1
                    have h2 := HWH.out.2.1
                    have h3 := HWH.out.2.2
                    rw [HT.out] at h1 h2
                    exact ⟨_, _, _, _, _, HI2.out, by rw [List.take_length, HRV2.out]; exact h1, by rw [List.take_length, HRV2.out]; omega, by rw [List.take_length, HRV2.out]⟩
                  case measure =>
                    have h2 := HWH.out.2.1
                    rw [HT.out] at h2
                    rw [HRV.out]
                    exact h2
end Go.Proofs.Ytphdhndljgihmaa
