/- The document's copy of a function (package latheref02). -/
import Derived.Test.YtpfeiolmkbibiaaOwnO
namespace Go.Proofs.Ytpfeiolmkbibiaa
open Go.RowKit Go.Maps
set_option linter.unusedVariables false
set_option linter.unusedSimpArgs false

theorem Spread.grow {α : Type} {Q : Nat → Nat → World → α → Prop} (hQ : Local Q) {v v' : Value} {lo : Nat} {w0 w w' : World} {xs : List α} (h : Spread Q v.ownBlock lo w0.heap.size w0 xs) (h0 : Below w0.heap.size w0 w) (hg : w.grownBy w' v.ownBlock) (hm : Moved w v v') (hv : ∀ g, v.ownBlock = some g → g < w.heap.size) :
    Spread Q v'.ownBlock lo w0.heap.size w' xs := by
  have h1 : Spread Q v.ownBlock lo w0.heap.size w' xs := h.stay hQ (fun k h1 h2 h3 => (hg.block k (Nat.lt_of_lt_of_le h2 h0.size) (fun e => h3 e.symm)).trans (h0.block k h2))
  rcases hm with e | e
  · rw [e]; exact h1
  · exact h1.row (fun k hk => by rw [e] at hk; injection hk with hk; have := h0.size; omega)
theorem cells_of_row {B : Nat} {w : World} {p : Option Addr} {cs : List Value} (h : RowAt B w p cs) : ∀ j u, cs[j]? = some u → ∃ a, p = some a ∧ w.cell? (a.add j) = some u := fun j u hu => by
  obtain ⟨a, e, _, hc⟩ := h j u hu
  exact ⟨a, e, hc⟩
theorem flat_one {α : Type} {cel : α → List Value} (h : ∀ x, ∀ u ∈ cel x, u.oneCell' = true) (xs : List α) : ∀ u ∈ xs.flatMap cel, u.oneCell' = true := fun u hu => by
  obtain ⟨x, _, hx⟩ := List.mem_flatMap.1 hu
  exact h x u hx
theorem lit_at (w : World) (cs : List Value) (ty : TypeId) : ∀ j u, cs[j]? = some u → ∃ ad, (some ⟨w.heap.size, 0, none⟩ : Option Addr) = some ad ∧ (w.alloc (.cells cs.toArray ty)).cell? (ad.add j) = some u := fun j u h => ⟨_, rfl, lit_cells w cs.toArray ty j u (by simpa using h)⟩

theorem ownsRow_ne {w : World} {B e m n : Nat} {v : Value} {xs : List Value} (h : w.ownsRow B e m v n xs) {a : Addr} (ha : v.ownBlock ≠ some a.block) (u : Value) : (w.setCell a u).ownsRow B e m v n xs := by
  refine ⟨h.1, ?_⟩
  rcases h.2 with hn | ⟨g, cap, cur, hv, hB, hg, r⟩
  · exact .inl hn
  · exact .inr ⟨g, cap, cur, hv, hB, (Go.Deep.blk_setCell_other w a u g (fun e => ha (by rw [hv]; simp [Value.ownBlock, e]))).trans hg, r⟩
theorem lit_at' (w : World) {B : Nat} (hB : B = w.heap.size) (cs : List Value) (ty : TypeId) : ∀ j u, cs[j]? = some u → ∃ ad, (some ⟨B, 0, none⟩ : Option Addr) = some ad ∧ (w.alloc (.cells cs.toArray ty)).cell? (ad.add j) = some u := by subst hB; exact lit_at w cs ty
theorem cells_grow {w w' : World} {p : Option Addr} {cs : List Value} (h : ∀ j u, cs[j]? = some u → ∃ a, p = some a ∧ w.cell? (a.add j) = some u) (hg : w.grownBy w' none) : ∀ j u, cs[j]? = some u → ∃ a, p = some a ∧ w'.cell? (a.add j) = some u := fun j u hu => by
  obtain ⟨a, e, hc⟩ := h j u hu
  exact ⟨a, e, hg.cell hc (by simp)⟩
theorem kept_none {B e m n : Nat} {v : Value} {xs : List Value} {w w' : World} (h : w.ownsRow B e m v n xs) (hg : w.grownBy w' none) : w'.ownsRow B e m v n xs := h.kept hg (by cases v.ownBlock <;> simp)
theorem below_none {B : Nat} {w w' : World} (hg : w.grownBy w' none) (hB : B ≤ w.heap.size) : Below B w w' := ⟨hg.os, hg.tape, hg.output, hg.size, fun k hk => hg.block k (Nat.lt_of_lt_of_le hk hB) (by simp)⟩

set_option maxRecDepth 100000 in
set_option maxHeartbeats 4000000 in
theorem rCopyFunc_own (f : LFn) (W : World) (h : FnIn W.heap.size W f) (hz : fnZ (fnD f) ≤ 1048576) :
    Calls Try.prog 33 #[.agg (fnC f).toArray] W fun e w' => ∃ y, e = .returned (.agg (fnC y).toArray) ∧ fnD y = fnD f ∧ Past W.heap.size W w' ∧ FnOwn W.heap.size w'.heap.size w' y := by
  obtain ⟨iN, hiN, n0, n1, n2⟩ := info_parts infoOf_N
  obtain ⟨iV, hiV, v0, v1, v2⟩ := info_parts infoOf_V
  obtain ⟨iC, hiC, c0, c1, c2⟩ := info_parts infoOf_C
  obtain ⟨iB, hiB, b0, b1, b2⟩ := info_parts infoOf_B
  have HN := Lib.hid (And.intro hiN (And.intro n0 (And.intro n1 n2)))
  have HV := Lib.hid (And.intro hiV (And.intro v0 (And.intro v1 v2)))
  have HC := Lib.hid (And.intro hiC (And.intro c0 (And.intro c1 c2)))
  have HB := Lib.hid (And.intro hiB (And.intro b0 (And.intro b1 b2)))
  clear hiN n0 n1 n2 hiV v0 v1 v2 hiC c0 c1 c2 hiB b0 b1 b2
  obtain ⟨nm, pp, pn, pc, ps, rt, bp, bn, bc, bs⟩ := f
  obtain rfl : pn = ps.length := h.1.1
  obtain rfl : bn = bs.length := h.2.1
  have k2 : bs.length ≤ bc := h.2.2.1
  have k3 : bc ≤ maxLen := h.2.2.2.1
  unfold maxLen at k3
  have hzz : 1 + ps.length + blksZ (bs.map blkD) ≤ 1048576 := hz
  have H := Lib.hid h
  have HZ := Lib.hid hzz
  clear h hz hzz
  show Calls Try.prog 33 #[.agg #[.string nm, .slice pp ps.length pc, .int .i64 rt, .slice bp bs.length bc]] W _
  have P1 := (Past.refl (Nat.le_refl W.heap.size)).alloc (.cells #[.string nm, .slice pp ps.length pc, .int .i64 rt, .slice bp bs.length bc] 41)
  have F1 : Box W.heap.size [.string nm, .slice pp ps.length pc, .int .i64 rt, .slice bp bs.length bc] (W.alloc (.cells #[.string nm, .slice pp ps.length pc, .int .i64 rt, .slice bp bs.length bc] 41)) := Box.new W rfl _ _
  have z1 : (W.alloc (.cells #[.string nm, .slice pp ps.length pc, .int .i64 rt, .slice bp bs.length bc] 41)).heap.size = W.heap.size + 1 := by simp
  go_enter Try.func33, Try.ntmps33
  go_upto_region 1 with fail
  generalize (W.alloc (.cells #[.string nm, .slice pp ps.length pc, .int .i64 rt, .slice bp bs.length bc] 41)) = w1 at *
  have P2 := P1.alloc (.cells #[.string { data := #[] }, .slice none 0 0, .int .i64 0, .slice none 0 0] 41)
  have F2 := F1.alloc (.cells #[.string { data := #[] }, .slice none 0 0, .int .i64 0, .slice none 0 0] 41)
  have R2 : Box (W.heap.size + 1) [.string { data := #[] }, .slice none 0 0, .int .i64 0, .slice none 0 0] (w1.alloc (.cells #[.string { data := #[] }, .slice none 0 0, .int .i64 0, .slice none 0 0] 41)) := Box.new w1 (by omega) _ _
  have z2 : (w1.alloc (.cells #[.string { data := #[] }, .slice none 0 0, .int .i64 0, .slice none 0 0] 41)).heap.size = W.heap.size + 2 := by simp; omega
  generalize (w1.alloc (.cells #[.string { data := #[] }, .slice none 0 0, .int .i64 0, .slice none 0 0] 41)) = w2 at *
  have a0 := F2.get 0 _ rfl
  have a2 := F2.get 2 _ rfl
  have G3 : Box (W.heap.size + 2) [.string nm, .slice none 0 0, .int .i64 rt, .slice none 0 0] (w2.alloc (.cells #[.string nm, .slice none 0 0, .int .i64 rt, .slice none 0 0] 41)) := Box.new w2 (by omega) _ _
  have F3 := F2.alloc (.cells #[.string nm, .slice none 0 0, .int .i64 rt, .slice none 0 0] 41)
  have R3 := R2.alloc (.cells #[.string nm, .slice none 0 0, .int .i64 rt, .slice none 0 0] 41)
  have P3 := P2.alloc (.cells #[.string nm, .slice none 0 0, .int .i64 rt, .slice none 0 0] 41)
  have z3 : (w2.alloc (.cells #[.string nm, .slice none 0 0, .int .i64 rt, .slice none 0 0] 41)).heap.size = W.heap.size + 3 := by simp; omega
  have hpc := cells_of_row ((H.out.1.lasts lasts_NoMem P3.2 P3.2.size).2.2.2.1)
  have hps : ps.length ≤ 1048576 := by have := HZ.out; omega
  have y1 := F3.get 1 _ rfl
  have x1 := G3.get 1 _ rfl
  clear F1 F2 R2 P1 P2 z1
  go_wp2_with (first
    | (at_builtin; refine wpList_append_at rfl (.tmp 16) (.tmp 18) 23 rfl (W.heap.size + 3) 3 iN _ 1 8 Try.underlying23 HN.out.1 HN.out.2.1 HN.out.2.2.1 HN.out.2.2.2 rfl (by decide) (.slice none 0 0) 0 [] rfl (World.ownsRow_nil _ _ _ _) pp ps.length pc (ps.flatMap intC) rfl (flat_len intC 1 (fun _ => rfl) ps) hpc (flat_one intC_one ps) (by unfold maxLen; omega) (by omega) (by omega) ?_; intro vp w4 hown4 hgrow4 hmv4; obtain ⟨q4, c4, rfl⟩ := row_slice hown4; have F4 := F3.kept hgrow4 (by simp [Value.ownBlock]); have R4 := R3.kept hgrow4 (by simp [Value.ownBlock]); have G4 := G3.kept hgrow4 (by simp [Value.ownBlock]); have x0 := G4.get 0 _ rfl; have x1 := G4.get 1 _ rfl; have x2 := G4.get 2 _ rfl; have x3 := G4.get 3 _ rfl; have xf := G4.2.1))
  have P4 := P3.grownRow hgrow4 (fun g e => by simp [Value.ownBlock] at e)
  have hz4 := hgrow4.size
  have z43 : W.heap.size + 3 ≤ w4.heap.size := by omega
  rw [Nat.zero_add, List.nil_append] at hown4
  have G5 := G4.set 1 (.slice q4 (0 + ps.length) c4)
  have F5 := F4.other (d := W.heap.size + 2) (by omega) 1 (.slice q4 (0 + ps.length) c4)
  have R5 := R4.other (d := W.heap.size + 2) (by omega) 1 (.slice q4 (0 + ps.length) c4)
  have P5 := P4.set (a := ⟨W.heap.size + 2, 1, none⟩) (by dsimp only; omega) (.slice q4 (0 + ps.length) c4)
  have o5 := ownsRow_set hown4 (a := ⟨W.heap.size + 2, 1, none⟩) (by dsimp only; omega) (.slice q4 (0 + ps.length) c4)
  have l5 : (w4.setCell ⟨W.heap.size + 2, 1, none⟩ (.slice q4 (0 + ps.length) c4)).heap.size = w4.heap.size := by simp [World.setCell]
  rw [Nat.zero_add] at G5 F5 R5 P5 o5 l5
  clear F3 R3 G3 P3 F4 R4 G4 P4 hown4 hgrow4 hmv4 y1 x0 x1 x2 x3 xf hpc a0 a2 z2 z3 hz4
  try simp only [Nat.zero_add]
  generalize w4.setCell ⟨W.heap.size + 2, 1, none⟩ (.slice q4 ps.length c4) = w5 at *
  obtain ⟨d, hd⟩ : ∃ d, w5.heap.size = d := ⟨_, rfl⟩
  have hd3 : W.heap.size + 3 ≤ d := by omega
  have LP : ListOwn 3 1 intC NoOwn (W.heap.size + 3) d w5 q4 ps.length c4 ps := own_intro rfl o5 hd.symm (spread_NoOwn hd3 _)
  have HI0 := Lib.hid (And.intro P5 (And.intro F5 (And.intro R5 (And.intro G5 LP))))
  have HD := Lib.hid hd
  clear o5 LP G5 F5 R5 P5 l5 z43 hd
  go_loopw [4] (fun t wr => ∃ (i : Nat) (ys : List LB) (q : Option Addr) (c : Nat), i ≤ bs.length ∧ t = .int .i64 i ∧ ys.length = i ∧ ys.map blkD = (bs.take i).map blkD ∧ Past W.heap.size W wr ∧ Box W.heap.size [.string nm, .slice pp ps.length pc, .int .i64 rt, .slice bp bs.length bc] wr ∧ Box (W.heap.size + 1) [.string { data := #[] }, .slice none 0 0, .int .i64 0, .slice none 0 0] wr ∧ Box (W.heap.size + 2) [.string nm, .slice q4 ps.length c4, .int .i64 rt, .slice q i c] wr ∧
    ListOwn 3 1 intC NoOwn (W.heap.size + 3) d wr q4 ps.length c4 ps ∧ d ≤ wr.heap.size ∧ wr.ownsRow d 67 1 (.slice q i c) i (ys.flatMap blkC) ∧ Spread BlkOwn (Value.slice q i c).ownBlock d wr.heap.size wr ys) (fun t _ => bs.length - (intOf t).toNat)
  case atStart => exact ⟨0, [], none, 0, Nat.zero_le _, rfl, rfl, rfl, HI0.out.1, HI0.out.2.1, HI0.out.2.2.1, HI0.out.2.2.2.1, HI0.out.2.2.2.2, by rw [HD.out]; exact Nat.le_refl _, World.ownsRow_nil _ _ _ _, by rw [HD.out]; exact Nat.le_refl d⟩
  case round =>
    obtain ⟨i, ys, q, c, hi, rfl, hyl, hyd, P6, F6, R6, G6, L6, hdw, ho6, hs6⟩ := hrel
    have f3 := F6.get 3 _ rfl
    by_cases hlt : i < bs.length
    · obtain ⟨a, rfl, ha, hc⟩ := blk_row H.out.2 i hlt
      have hcd : ListIn liC InsIn W.heap.size W bs[i].p bs[i].n bs[i].k bs[i].code := H.out.2.2.2.2.2 bs[i] (List.getElem_mem hlt)
      have d1 := hcd.1
      have d2 := hcd.2.1
      have d3 := hcd.2.2.1
      rw [d1] at hc d2
      unfold maxLen at d3
      have HCD := Lib.hid hcd
      have HC1 := Lib.hid hc
      have hcz : bs[i].code.length ≤ 1048576 := by
        have h1 := blksZ_mem (List.mem_map_of_mem (f := blkD) (List.getElem_mem hlt))
        have h2 := codeZ_len (blkD bs[i])
        have h3 : (blkD bs[i]).length = bs[i].code.length := by unfold blkD; rw [List.length_map]
        have := HZ.out
        omega
      have hbz : codeZ (blkD bs[i]) ≤ 1048576 := by
        have h1 := blksZ_mem (List.mem_map_of_mem (f := blkD) (List.getElem_mem hlt))
        have := HZ.out
        omega
      have HBZ := Lib.hid hbz
      have HO6 := Lib.hid (And.intro ho6 hs6)
      have HL6 := Lib.hid L6
      have hyd := Lib.hid hyd
      clear hc hcd d1 hbz ho6 hs6 L6
      go_wp2_with fail
      clear f3
      generalize wr = wo at *
      go_loopw [5, 6] (fun vc t wi => ∃ (k : Nat) (zs : List LI) (qc : Option Addr) (cc : Nat), k ≤ bs[i].code.length ∧ t = .int .i64 k ∧ vc = .slice qc k cc ∧ zs.length = k ∧ Hid (zs.map insD = (bs[i].code.take k).map insD) ∧ Past wo.heap.size wo wi ∧ wi.ownsRow wo.heap.size 25 7 (.slice qc k cc) k (zs.flatMap liC) ∧ Spread InsOwn (Value.slice qc k cc).ownBlock wo.heap.size wi.heap.size wi zs) (fun _ t _ => bs[i].code.length - (intOf t).toNat)
      case atStart => exact ⟨0, [], none, 0, Nat.zero_le _, rfl, rfl, rfl, Lib.hid rfl, Past.refl (Nat.le_refl _), World.ownsRow_nil _ _ _ _, Nat.le_refl _⟩
      case round =>
        obtain ⟨k, zs, qc, cc, hk, rfl, rfl, hzl, hzd, Pi, hoi, hsi⟩ := hrel
        have PW := P6.trans ⟨P6.size, Pi.2.mono P6.size⟩
        have Fi := F6.later Pi.2
        have f3 := Fi.get 3 _ rfl
        have c1 := (PW.2.cell (p := a.add i) (by rw [add_block]; exact ha)).trans HC1.out
        by_cases hkl : k < bs[i].code.length
        · obtain ⟨v, hv, hv2, hins⟩ := li_row HCD.out k hkl
          have hxin := HCD.out.2.2.2.2 _ (List.getElem_mem hkl)
          have hxz := codeZ_mem (List.mem_map_of_mem (f := insD) (List.getElem_mem hkl))
          have hxd : insD bs[i].code[k] = insD bs[i].code[k] := rfl
          obtain ⟨x, ex⟩ : ∃ x, bs[i].code[k] = x := ⟨_, rfl⟩
          have EX := Lib.hid ex
          rw [ex] at hins hxin hxz
          have hxal := hxin.1.1
          have hxtl := hxin.2.1
          have hxac := hxin.1.2.1
          have hxtc := hxin.2.2.1
          have hxam := hxin.1.2.2.1
          have hxtm := hxin.2.2.2.1
          obtain ⟨y0, y1, y2, y3, y4, y5, y6⟩ := hins.below PW.2 (by rw [add_block]; exact hv2)
          rw [hxal] at y5 hxac
          rw [hxtl] at y6 hxtc
          unfold maxLen at hxam hxtm
          rw [hv] at c1
          have hxz2 : x.1.args.length + x.2.length ≤ 1048576 := by
            have h1 := HBZ.out
            unfold blkD at h1
            have h2 : 1 + x.1.args.length + x.2.length ≤ codeZ (bs[i].code.map insD) := hxz
            omega
          have hoz := Pi.2.size
          have Pj := Pi.alloc (.cells #[.int .i64 x.1.op, .int .i64 x.1.reg, .int .i64 x.1.ty, .int .i64 x.1.n, .int .i64 x.1.fl, .slice x.1.ap x.1.args.length x.1.ac, .slice x.1.tp x.2.length x.1.tc] 25)
          have PWj := PW.alloc (.cells #[.int .i64 x.1.op, .int .i64 x.1.reg, .int .i64 x.1.ty, .int .i64 x.1.n, .int .i64 x.1.fl, .slice x.1.ap x.1.args.length x.1.ac, .slice x.1.tp x.2.length x.1.tc] 25)
          have Ij : Box wr.heap.size [.int .i64 x.1.op, .int .i64 x.1.reg, .int .i64 x.1.ty, .int .i64 x.1.n, .int .i64 x.1.fl, .slice x.1.ap x.1.args.length x.1.ac, .slice x.1.tp x.2.length x.1.tc] (wr.alloc (.cells #[.int .i64 x.1.op, .int .i64 x.1.reg, .int .i64 x.1.ty, .int .i64 x.1.n, .int .i64 x.1.fl, .slice x.1.ap x.1.args.length x.1.ac, .slice x.1.tp x.2.length x.1.tc] 25)) := Box.new wr rfl _ _
          have zj : (wr.alloc (.cells #[.int .i64 x.1.op, .int .i64 x.1.reg, .int .i64 x.1.ty, .int .i64 x.1.n, .int .i64 x.1.fl, .slice x.1.ap x.1.args.length x.1.ac, .slice x.1.tp x.2.length x.1.tc] 25)).heap.size = wr.heap.size + 1 := by simp
          have hoj := hoi.alloc (.cells #[.int .i64 x.1.op, .int .i64 x.1.reg, .int .i64 x.1.ty, .int .i64 x.1.n, .int .i64 x.1.fl, .slice x.1.ap x.1.args.length x.1.ac, .slice x.1.tp x.2.length x.1.tc] 25)
          have HXI := Lib.hid hxin
          have HSI := Lib.hid hsi
          have hclt := hoi.lt
          have HCLT := Lib.hid hclt
          have HXZ := Lib.hid hxz2
          have HEX := Lib.hid hv
          have hbelow : Below wr.heap.size wr (wr.alloc (.cells #[.int .i64 x.1.op, .int .i64 x.1.reg, .int .i64 x.1.ty, .int .i64 x.1.n, .int .i64 x.1.fl, .slice x.1.ap x.1.args.length x.1.ac, .slice x.1.tp x.2.length x.1.tc] 25)) := (Below.refl _ _).alloc (Nat.le_refl _) _
          clear hins hxin hxz hxal hxtl hv hsi hoi ex hclt hxd
          have hxw : InsIn (wr.alloc (.cells #[.int .i64 x.1.op, .int .i64 x.1.reg, .int .i64 x.1.ty, .int .i64 x.1.n, .int .i64 x.1.fl, .slice x.1.ap x.1.args.length x.1.ac, .slice x.1.tp x.2.length x.1.tc] 25)).heap.size (wr.alloc (.cells #[.int .i64 x.1.op, .int .i64 x.1.reg, .int .i64 x.1.ty, .int .i64 x.1.n, .int .i64 x.1.fl, .slice x.1.ap x.1.args.length x.1.ac, .slice x.1.tp x.2.length x.1.tc] 25)) x := past_lasts lasts_Ins HXI.out PWj
          have HCA := Lib.hid hxw.1.cells
          have HCT := Lib.hid hxw.2.cells
          have i5 := Ij.get 5 _ rfl
          have i6 := Ij.get 6 _ rfl
          clear hxw
          go_wp2_with (first
            | (at_builtin; refine wpList_append_at rfl (.tmp 48) (.tmp 50) 22 rfl (wr.heap.size + 1) 55 iV _ 3 24 Try.underlying22 HV.out.1 HV.out.2.1 HV.out.2.2.1 HV.out.2.2.2 rfl (by decide) (.slice none 0 0) 0 [] rfl (World.ownsRow_nil _ _ _ _) x.1.ap x.1.args.length x.1.ac (x.1.args.flatMap argC) rfl (argC_len _) HCA.out (argC_one _) (by have := HXZ.out; unfold maxLen; omega) (by have := HXZ.out; omega) (by omega) ?_; intro va wa howna hgrowa hmva; obtain ⟨qa, ca, rfl⟩ := row_slice howna; have Ia := Ij.kept hgrowa (by simp [Value.ownBlock]); have i5 := Ia.get 5 _ rfl; have i6 := Ia.get 6 _ rfl)
            | (at_builtin; refine wpList_append_at rfl (.tmp 52) (.tmp 54) 23 rfl (wr.heap.size + 1) 3 iN _ 1 8 Try.underlying23 HN.out.1 HN.out.2.1 HN.out.2.2.1 HN.out.2.2.2 rfl (by decide) (.slice none 0 0) 0 [] rfl (World.ownsRow_nil _ _ _ _) x.1.tp x.2.length x.1.tc (x.2.flatMap intC) rfl (flat_len intC 1 (fun _ => rfl) _) (cells_grow HCT.out hgrowa) (flat_one intC_one _) (by have := HXZ.out; unfold maxLen; omega) (by have := HXZ.out; omega) (by have := hgrowa.size; omega) ?_; intro vt wt hownt hgrowt hmvt; obtain ⟨qt, ct, rfl⟩ := row_slice hownt; have It := Ia.kept hgrowt (by simp [Value.ownBlock]); have i0 := It.get 0 _ rfl; have i1 := It.get 1 _ rfl; have i2 := It.get 2 _ rfl; have i3 := It.get 3 _ rfl; have i4 := It.get 4 _ rfl; have i5 := It.get 5 _ rfl; have i6 := It.get 6 _ rfl; have xf := It.2.1; have hta := hgrowa.size; have htt := hgrowt.size; have hoa := kept_none hoj hgrowa; have hot := kept_none hoa hgrowt)
            | (at_builtin; refine wpList_append_at rfl (.tmp 60) (.tmp 62) 42 rfl wo.heap.size 25 iC _ 7 88 Try.underlying42 HC.out.1 HC.out.2.1 HC.out.2.2.1 HC.out.2.2.2 rfl (by decide) (.slice qc k cc) k (zs.flatMap liC) rfl ((ownsRow_ne (ownsRow_ne hot (fun e => Nat.lt_irrefl _ (HCLT.out _ e).2) _) (fun e => Nat.lt_irrefl _ (HCLT.out _ e).2) _).alloc _) (some ⟨wt.heap.size, 0, none⟩) 1 1 [.int .i64 x.1.op, .int .i64 x.1.reg, .int .i64 x.1.ty, .int .i64 x.1.n, .int .i64 x.1.fl, .slice qa x.1.args.length ca, .slice qt x.2.length ct] rfl rfl (lit_at' _ (by simp [World.setCell]) [.int .i64 x.1.op, .int .i64 x.1.reg, .int .i64 x.1.ty, .int .i64 x.1.n, .int .i64 x.1.fl, .slice qa x.1.args.length ca, .slice qt x.2.length ct] _) (by intro u hu; simp at hu; rcases hu with rfl | rfl | rfl | rfl | rfl | rfl | rfl <;> rfl) (by unfold maxLen; omega) (by omega) (by simp [World.setCell]; omega) ?_; intro v6 w6 hown6 hgrow6 hmv6; obtain ⟨q6, c6, rfl⟩ := row_slice hown6))
          have hg6 : (((wt.setCell ⟨wr.heap.size, 5, none⟩ (.slice qa x.1.args.length ca)).setCell ⟨wr.heap.size, 6, none⟩ (.slice qt x.2.length ct)).alloc (.cells #[.int .i64 x.1.op, .int .i64 x.1.reg, .int .i64 x.1.ty, .int .i64 x.1.n, .int .i64 x.1.fl, .slice qa x.1.args.length ca, .slice qt x.2.length ct] 25)).grownBy w6 (Value.slice qc k cc).ownBlock := hgrow6
          have hm6 : Moved (((wt.setCell ⟨wr.heap.size, 5, none⟩ (.slice qa x.1.args.length ca)).setCell ⟨wr.heap.size, 6, none⟩ (.slice qt x.2.length ct)).alloc (.cells #[.int .i64 x.1.op, .int .i64 x.1.reg, .int .i64 x.1.ty, .int .i64 x.1.n, .int .i64 x.1.fl, .slice qa x.1.args.length ca, .slice qt x.2.length ct] 25)) (Value.slice qc k cc) (Value.slice q6 (k + 1) c6) := hmv6
          have hb5 : Below wr.heap.size wr (((wt.setCell ⟨wr.heap.size, 5, none⟩ (.slice qa x.1.args.length ca)).setCell ⟨wr.heap.size, 6, none⟩ (.slice qt x.2.length ct)).alloc (.cells #[.int .i64 x.1.op, .int .i64 x.1.reg, .int .i64 x.1.ty, .int .i64 x.1.n, .int .i64 x.1.fl, .slice qa x.1.args.length ca, .slice qt x.2.length ct] 25)) := ((((hbelow.trans (below_none hgrowa (by omega))).trans (below_none hgrowt (by omega))).setCell (p := ⟨wr.heap.size, 5, none⟩) (Nat.le_refl _) _).setCell (p := ⟨wr.heap.size, 6, none⟩) (Nat.le_refl _) _).alloc (by simp [World.setCell]; omega) _
          have P5 : Past wo.heap.size wo (((wt.setCell ⟨wr.heap.size, 5, none⟩ (.slice qa x.1.args.length ca)).setCell ⟨wr.heap.size, 6, none⟩ (.slice qt x.2.length ct)).alloc (.cells #[.int .i64 x.1.op, .int .i64 x.1.reg, .int .i64 x.1.ty, .int .i64 x.1.n, .int .i64 x.1.fl, .slice qa x.1.args.length ca, .slice qt x.2.length ct] 25)) := ⟨Pi.1, Pi.2.trans (hb5.mono hoz)⟩
          have P6 := P5.grownRow hg6 (fun g e => (HCLT.out g e).1)
          have l5 : ((((wt.setCell ⟨wr.heap.size, 5, none⟩ (.slice qa x.1.args.length ca)).setCell ⟨wr.heap.size, 6, none⟩ (.slice qt x.2.length ct)).alloc (.cells #[.int .i64 x.1.op, .int .i64 x.1.reg, .int .i64 x.1.ty, .int .i64 x.1.n, .int .i64 x.1.fl, .slice qa x.1.args.length ca, .slice qt x.2.length ct] 25))).heap.size = wt.heap.size + 1 := by simp [World.setCell]
          have hK : ∀ {B e m n : Nat} {v : Value} {xs : List Value}, wt.ownsRow B e m v n xs → wr.heap.size + 1 ≤ B → w6.ownsRow B e m v n xs := fun {B e m n v xs} h hB => by
            refine (((ownsRow_set (ownsRow_set h (a := ⟨wr.heap.size, 5, none⟩) (by dsimp only; omega) _) (a := ⟨wr.heap.size, 6, none⟩) (by dsimp only; omega) _).alloc _).kept hgrow6 ?_)
            cases hv : v.ownBlock with
            | none => exact .inl rfl
            | some g => exact .inr (fun e => by have h1 := (h.lt g hv).1; have h2 := (HCLT.out g e.symm).2; omega)
          have S6 := Spread.grow local_Ins HSI.out hb5 hg6 hm6 (fun g e => by have h2 := (HCLT.out g e).2; omega)
          simp only [Nat.zero_add, List.nil_append] at howna hownt
          have ra := hK (kept_none howna hgrowt) (Nat.le_refl _)
          have rt := hK hownt (Nat.le_refl _)
          have la := howna.lt
          have lt := hownt.lt
          obtain ⟨y, ey⟩ : ∃ y : LI, y = ({ x.1 with ap := qa, al := x.1.args.length, ac := ca, tp := qt, tl := x.2.length, tc := ct }, x.2) := ⟨_, rfl⟩
          have hIO : InsOwn (wr.heap.size + 1) wt.heap.size w6 y := by
            subst ey
            exact ⟨⟨rfl, ra, fun g e => by have := (la g e).2; omega, spread_NoOwn (by omega) _⟩, ⟨rfl, rt, fun g e => (lt g e).2, spread_NoOwn (by omega) _⟩⟩
          have hcy : liC y = [.int .i64 x.1.op, .int .i64 x.1.reg, .int .i64 x.1.ty, .int .i64 x.1.n, .int .i64 x.1.fl, .slice qa x.1.args.length ca, .slice qt x.2.length ct] := by rw [ey]; rfl
          have hyx : insD y = insD x := by rw [ey]; rfl
          have S7 := (S6.snoc (a := wr.heap.size + 1) (b := wt.heap.size) (by omega) (by omega) (fun g e => by
            rcases hm6 with e2 | e2
            · rw [e2] at e; have := (HCLT.out g e).2; omega
            · rw [e2] at e; injection e with e; omega) hIO).up (show wt.heap.size ≤ w6.heap.size by have := hg6.size; omega)
          refine ⟨⟨k + 1, zs ++ [y], q6, c6, by omega, by go_num, rfl, by simp [hzl], Lib.hid ?_, P6, ?_, S7⟩, by simp [intOf]; omega⟩
          · rw [List.map_append, hzd.out, List.take_succ_eq_append_getElem hkl, List.map_append, List.map_singleton, List.map_singleton, hyx, EX.out]
          · have e : (zs ++ [y]).flatMap liC = zs.flatMap liC ++ [.int .i64 x.1.op, .int .i64 x.1.reg, .int .i64 x.1.ty, .int .i64 x.1.n, .int .i64 x.1.fl, .slice qa x.1.args.length ca, .slice qt x.2.length ct] := by rw [List.flatMap_append, ← hcy]; simp
            rw [e]
            exact hown6
        · obtain rfl : k = bs[i].code.length := by omega
          rw [List.take_length] at hzd
          have Gi := G6.later Pi.2
          have g3 := Gi.get 3 _ rfl
          have hob := ownsRow_below HO6.out.1 Pi.2
          have hobl := HO6.out.1.lt
          have HOBL := Lib.hid hobl
          have hbl : bs.length ≤ 1048576 := by have h1 := blksZ_len (bs.map blkD); rw [List.length_map] at h1; have := HZ.out; omega
          have hps := Pi.2.size
          have z7 : W.heap.size + 2 < wr.heap.size := by omega
          clear hobl
          go_wp2_with (first
            | (at_builtin; refine wpList_append_at rfl (.tmp 65) (.tmp 68) 39 rfl d 67 iB _ 1 24 Try.underlying39 HB.out.1 HB.out.2.1 HB.out.2.2.1 HB.out.2.2.2 rfl (by decide) (.slice q i c) i (ys.flatMap blkC) rfl (hob.alloc _) (some ⟨wr.heap.size, 0, none⟩) 1 1 [.slice qc bs[i].code.length cc] rfl rfl (lit_at' wr rfl [.slice qc bs[i].code.length cc] _) (by intro u hu; simp at hu; rw [hu]; rfl) (by unfold maxLen; omega) (by omega) (by simp; omega) ?_; intro v8 w8 hown8 hgrow8 hmv8; obtain ⟨q8, c8, rfl⟩ := row_slice hown8; have G8 := (Gi.alloc (.cells #[.slice qc bs[i].code.length cc] 67)).kept hgrow8 (fun e => by have := (HOBL.out _ e.symm).1; omega); have x0 := G8.get 0 _ rfl; have x1 := G8.get 1 _ rfl; have x2 := G8.get 2 _ rfl; have x3 := G8.get 3 _ rfl; have xf := G8.2.1))
          have hg8 : (wr.alloc (.cells #[.slice qc bs[i].code.length cc] 67)).grownBy w8 (Value.slice q i c).ownBlock := hgrow8
          have hm8 : Moved (wr.alloc (.cells #[.slice qc bs[i].code.length cc] 67)) (Value.slice q i c) (Value.slice q8 (i + 1) c8) := hmv8
          have l7 : ((wr.alloc (.cells #[.slice qc bs[i].code.length cc] 67))).heap.size = wr.heap.size + 1 := by simp
          have hb7 : Below wo.heap.size wo (wr.alloc (.cells #[.slice qc bs[i].code.length cc] 67)) := Pi.2.alloc hps _
          have S8 := Spread.grow local_Blk HO6.out.2 hb7 hg8 hm8 (fun g e => by have h2 := (HOBL.out g e).2; omega)
          have hBO : BlkOwn wo.heap.size wr.heap.size wr ⟨qc, bs[i].code.length, cc, zs⟩ := own_intro hzl.symm hoi rfl hsi
          have st8 : Stay wo.heap.size wr.heap.size wr w8 := fun m h1 h2 => (hg8.block m (by omega) (fun e => by have h3 := (HOBL.out m e.symm).2; omega)).trans (Below.heap_alloc _ _ _ h2)
          have st8p : Stay (W.heap.size + 3) d wo w8 := fun m h1 h2 => (hg8.block m (by omega) (fun e => by have h3 := (HOBL.out m e.symm).1; omega)).trans (hb7.block m (by omega))
          have hg89 := hg8.size
          have P7 := (P6.trans ⟨P6.size, Pi.2.mono P6.size⟩).alloc (.cells #[.slice qc bs[i].code.length cc] 67)
          have P8 := P7.grownRow hg8 (fun g e => by have h3 := (HOBL.out g e).1; omega)
          have P9 := P8.set (a := ⟨W.heap.size + 2, 3, none⟩) (by dsimp only; omega) (.slice q8 (i + 1) c8)
          have F8 := (((F6.later Pi.2).alloc (.cells #[.slice qc bs[i].code.length cc] 67)).kept hg8 (fun e => by have := (HOBL.out _ e.symm).1; omega)).other (d := W.heap.size + 2) (by omega) 3 (.slice q8 (i + 1) c8)
          have R8 := (((R6.later Pi.2).alloc (.cells #[.slice qc bs[i].code.length cc] 67)).kept hg8 (fun e => by have := (HOBL.out _ e.symm).1; omega)).other (d := W.heap.size + 2) (by omega) 3 (.slice q8 (i + 1) c8)
          have G9 := G8.set 3 (.slice q8 (i + 1) c8)
          have l9 : (w8.setCell ⟨W.heap.size + 2, 3, none⟩ (.slice q8 (i + 1) c8)).heap.size = w8.heap.size := by simp [World.setCell]
          have st9 : ∀ a b, W.heap.size + 3 ≤ a → Stay a b w8 (w8.setCell ⟨W.heap.size + 2, 3, none⟩ (.slice q8 (i + 1) c8)) := fun a b hab m h1 h2 => Below.heap_setCell _ _ _ _ (by dsimp only; omega)
          have S9 : Spread BlkOwn (Value.slice q8 (i + 1) c8).ownBlock d (w8.setCell ⟨W.heap.size + 2, 3, none⟩ (.slice q8 (i + 1) c8)).heap.size (w8.setCell ⟨W.heap.size + 2, 3, none⟩ (.slice q8 (i + 1) c8)) (ys ++ [⟨qc, bs[i].code.length, cc, zs⟩]) := by
            rw [l9]
            refine (((S8.stay local_Blk (w' := w8.setCell ⟨W.heap.size + 2, 3, none⟩ (.slice q8 (i + 1) c8)) (fun m h1 h2 _ => st9 d wo.heap.size (by omega) m h1 h2)).snoc (a := wo.heap.size) (b := wr.heap.size) (Nat.le_refl _) hps (fun g e => ?_) (local_Blk _ _ _ _ _ (st8.trans (st9 _ _ (by omega))) hBO))).up (by omega)
            rcases hm8 with e2 | e2
            · rw [e2] at e; have := (HOBL.out g e).2; omega
            · rw [e2] at e; injection e with e; omega
          have hf8 : (ys ++ [(⟨qc, bs[i].code.length, cc, zs⟩ : LB)]).flatMap blkC = ys.flatMap blkC ++ [.slice qc bs[i].code.length cc] := by rw [List.flatMap_append]; rfl
          refine ⟨⟨i + 1, ys ++ [⟨qc, bs[i].code.length, cc, zs⟩], q8, c8, by omega, by go_num, by simp [hyl], ?_, P9, F8, R8, G9, (HL6.out.stay local_NoOwn st8p).stay local_NoOwn (st9 _ _ (Nat.le_refl _)), by omega, ?_, S9⟩, by simp [intOf]; omega⟩
          · rw [List.map_append, hyd.out, List.take_succ_eq_append_getElem hlt, List.map_append, List.map_singleton, List.map_singleton]
            congr 2 <;> exact hzd.out
          · rw [hf8]
            exact ownsRow_set hown8 (by dsimp only; omega) _
    · obtain rfl : i = bs.length := by omega
      rw [List.take_length] at hyd
      have x0 := G6.get 0 _ rfl
      have x1 := G6.get 1 _ rfl
      have x2 := G6.get 2 _ rfl
      have x3 := G6.get 3 _ rfl
      have r0 := R6.get 0 _ rfl
      have r1 := R6.get 1 _ rfl
      have r2 := R6.get 2 _ rfl
      have r3 := R6.get 3 _ rfl
      have rf := R6.2.1
      go_wp2_with fail
      have R7 := (((R6.set 0 (.string nm)).set 1 (.slice q4 ps.length c4)).set 2 (.int .i64 rt)).set 3 (.slice q bs.length c)
      have e0 := R7.get 0 _ rfl
      have e1 := R7.get 1 _ rfl
      have e2 := R7.get 2 _ rfl
      have e3 := R7.get 3 _ rfl
      have st : ∀ b, Stay (W.heap.size + 3) b wr ((((wr.setCell ⟨W.heap.size + 1, 0, none⟩ (.string nm)).setCell ⟨W.heap.size + 1, 1, none⟩ (.slice q4 ps.length c4)).setCell ⟨W.heap.size + 1, 2, none⟩ (.int .i64 rt)).setCell ⟨W.heap.size + 1, 3, none⟩ (.slice q bs.length c)) :=
        fun b k h1 h2 => (Below.heap_setCell _ _ _ _ (by dsimp only; omega)).trans ((Below.heap_setCell _ _ _ _ (by dsimp only; omega)).trans ((Below.heap_setCell _ _ _ _ (by dsimp only; omega)).trans (Below.heap_setCell _ _ _ _ (by dsimp only; omega))))
      have l7 : ((((wr.setCell ⟨W.heap.size + 1, 0, none⟩ (.string nm)).setCell ⟨W.heap.size + 1, 1, none⟩ (.slice q4 ps.length c4)).setCell ⟨W.heap.size + 1, 2, none⟩ (.int .i64 rt)).setCell ⟨W.heap.size + 1, 3, none⟩ (.slice q bs.length c)).heap.size = wr.heap.size := by simp [World.setCell]
      have P7 := (((P6.set (a := ⟨W.heap.size + 1, 0, none⟩) (by dsimp only; omega) (.string nm)).set (a := ⟨W.heap.size + 1, 1, none⟩) (by dsimp only; omega) (.slice q4 ps.length c4)).set (a := ⟨W.heap.size + 1, 2, none⟩) (by dsimp only; omega) (.int .i64 rt)).set (a := ⟨W.heap.size + 1, 3, none⟩) (by dsimp only; omega) (.slice q bs.length c)
      have LB6 : ListOwn 67 1 blkC BlkOwn d wr.heap.size wr q bs.length c ys := own_intro hyl.symm ho6 rfl hs6
      refine bodyPost_ret (v := .agg #[.string nm, .slice q4 ps.length c4, .int .i64 rt, .slice q bs.length c]) (by simp [results, Try.results33, go_sem, e0, e1, e2, e3]) rfl ⟨⟨nm, q4, ps.length, c4, ps, rt, q, bs.length, c, ys⟩, rfl, by unfold fnD; rw [hyd], P7, d, ?_, ?_⟩
      · obtain ⟨o1, o2, o3, o4⟩ := L6.stay local_NoOwn (st d)
        exact ⟨o1, o2.mono (by omega), o3, o4.down (by omega)⟩
      · rw [l7]
        exact LB6.stay local_Blk ((st wr.heap.size).mono (by omega) (Nat.le_refl _))
end Go.Proofs.Ytpfeiolmkbibiaa
