/- The law's package: Spoil, of a function that the law owns. -/
import Derived.Test.YtpfeiolmkbibiaaOwnS
namespace Go.Proofs.Ytpfeiolmkbibiaa
open Go.RowKit Go.Maps
set_option linter.unusedVariables false
set_option linter.unusedSimpArgs false

/-- Of what was there only the blocks from lo on, ahead of hi, may have turned. -/
structure Out (lo hi : Nat) (w w' : World) : Prop where
  os : w'.os = w.os
  tape : w'.tape = w.tape
  output : w'.output = w.output
  size : w.heap.size ≤ w'.heap.size
  block : ∀ k, k < w.heap.size → (k < lo ∨ hi ≤ k) → w'.heap[k]? = w.heap[k]?
theorem Out.refl (lo hi : Nat) (w : World) : Out lo hi w w := ⟨rfl, rfl, rfl, Nat.le_refl _, fun _ _ _ => rfl⟩
theorem Out.trans {lo hi : Nat} {a b c : World} (h : Out lo hi a b) (k : Out lo hi b c) : Out lo hi a c :=
  ⟨k.os.trans h.os, k.tape.trans h.tape, k.output.trans h.output, Nat.le_trans h.size k.size, fun i hi ho => (k.block i (Nat.lt_of_lt_of_le hi h.size) ho).trans (h.block i hi ho)⟩
theorem Out.mono {lo hi lo' hi' : Nat} {w w' : World} (h : Out lo hi w w') (hl : lo' ≤ lo) (hh : hi ≤ hi') : Out lo' hi' w w' := ⟨h.os, h.tape, h.output, h.size, fun k hk ho => h.block k hk (by omega)⟩
theorem Out.grown {lo hi : Nat} {w w' : World} {row : Option Nat} (h : w.grownBy w' row) (hr : ∀ g, row = some g → lo ≤ g ∧ g < hi) : Out lo hi w w' := ⟨h.os, h.tape, h.output, h.size, fun k hk ho => h.block k hk (fun e => by have := hr k e.symm; omega)⟩
theorem Out.alloc {lo hi : Nat} {w w' : World} (h : Out lo hi w w') (o : Obj) : Out lo hi w (w'.alloc o) := h.trans (Out.grown (World.grownBy_alloc w' o none) (fun g e => by cases e))
theorem Out.box {lo hi g : Nat} {cs : List Value} {w w' : World} (h : Box g cs w) (ho : Out lo hi w w') (hg : g < lo ∨ hi ≤ g) : Box g cs w' :=
  ⟨Nat.lt_of_lt_of_le h.1 ho.size, fun i => (World.frozen?_of_block (w := w) (ho.block g h.1 hg)).trans (h.2.1 i), fun i u e => (World.cell?_of_block (w := w) (ho.block g h.1 hg)).trans (h.2.2 i u e)⟩
theorem Out.stay {lo hi a b : Nat} {w w' : World} (h : Out lo hi w w') (hb : b ≤ w.heap.size) (hab : b ≤ lo ∨ hi ≤ a) : Stay a b w w' := fun k h1 h2 => h.block k (by omega) (by omega)
theorem Out.below {lo hi B : Nat} {w w' : World} (h : Out lo hi w w') (hB : B ≤ lo) (hw : B ≤ w.heap.size) : Below B w w' := ⟨h.os, h.tape, h.output, h.size, fun k hk => h.block k (by omega) (by omega)⟩
theorem ListOwn.put {α : Type} {ty m : Nat} {cel : α → List Value} {Q : Nat → Nat → World → α → Prop} (hQ : Local Q) (hm : 0 < m) (hc : ∀ x, (cel x).length = m) {a b g : Nat} {w : World} {n c : Nat} {xs : List α} (h : ListOwn ty m cel Q a b w (some ⟨g, 0, none⟩) n c xs) (i : Nat) (hi : i < xs.length) (y : α) (hy : ∀ a' b' w', a' ≤ b' → Q a' b' w' y) :
    ListOwn ty m cel Q a b (w.setCells g (i * m) (cel y)) (some ⟨g, 0, none⟩) n c (xs.set i y) ∧ a ≤ g ∧ g < b := by
  obtain ⟨h1, h2, h3, h4⟩ := h
  obtain ⟨a', b', k1, k2, k3, k4, k5, k6⟩ := h4.at hQ i hi
  have hset := setCells_own (cel y) (i * m) h2
  rw [sets_flat cel m hm hc xs i hi y] at hset
  exact ⟨⟨by rw [List.length_set]; exact h1, hset, h3, k6 _ y (fun k _ _ e _ => setCells_heap g (cel y) (i * m) w k (fun e2 => e (by rw [e2]; rfl))) (hy _ _ _ k2)⟩, (h2.lt g rfl).1, h3 g rfl⟩
theorem ListOwn.some_row {α : Type} {ty m : Nat} {cel : α → List Value} {Q : Nat → Nat → World → α → Prop} {a b : Nat} {w : World} {p : Option Addr} {n c : Nat} {xs : List α} (h : ListOwn ty m cel Q a b w p n c xs) (hp : 0 < xs.length) : ∃ g, p = some ⟨g, 0, none⟩ := by
  rcases h.2.1.2 with ⟨_, h0⟩ | ⟨g, cap, cur, e, _⟩
  · have := h.1; omega
  · injection e with e1 e2 e3; exact ⟨g, e1⟩
theorem ListOwn.caps {α : Type} {ty m : Nat} {cel : α → List Value} {Q : Nat → Nat → World → α → Prop} {a b : Nat} {w : World} {p : Option Addr} {n c : Nat} {xs : List α} (h : ListOwn ty m cel Q a b w p n c xs) : xs.length ≤ c ∧ c ≤ 9223372036854775807 := by
  have h1 := h.1
  rcases h.2.1.2 with ⟨e, h0⟩ | ⟨g, cap, cur, e, _, _, k1, k2, _⟩
  · injection e with e1 e2 e3; omega
  · injection e with e1 e2 e3; unfold maxLen at k2; omega
theorem out_setCells {lo hi g : Nat} (h1 : lo ≤ g) (h2 : g < hi) (cs : List Value) (o : Nat) (w : World) : Out lo hi w (w.setCells g o cs) := Out.grown (grown_setCells cs o (World.grownBy.refl w (some g))) (fun k e => by cases e; exact ⟨h1, h2⟩)
def badI : LI := (⟨-7, 0, 0, 0, 0, none, 0, 0, none, 0, 0, []⟩, [])
def badB : LB := ⟨none, 0, 0, []⟩
def badC : List Value := [.int .i64 (-7), .int .i64 0, .int .i64 0, .int .i64 0, .int .i64 0, .slice none 0 0, .slice none 0 0]
theorem badC_eq : liC badI = badC := rfl
theorem badAll : badC.toArray.all (·.oneCell') = true := by simp [badC, Value.oneCell']
theorem own_nil {α : Type} {ty m : Nat} {cel : α → List Value} {Q : Nat → Nat → World → α → Prop} {a b : Nat} (w : World) (h : a ≤ b) : ListOwn ty m cel Q a b w none 0 0 [] := ⟨rfl, World.ownsRow_nil w a ty m, fun g e => by simp [Value.ownBlock] at e, h⟩
theorem badI_own (a b : Nat) (w : World) (h : a ≤ b) : InsOwn a b w badI := ⟨own_nil w h, own_nil w h⟩
theorem badB_own (a b : Nat) (w : World) (h : a ≤ b) : BlkOwn a b w badB := own_nil w h

set_option maxRecDepth 100000 in
set_option maxHeartbeats 8000000 in
theorem Spoil_own (f : LFn) (lo hi : Nat) (W : World) (hh : hi ≤ W.heap.size) (h : FnOwn lo hi W f) :
    Calls Try.prog 39 #[.agg (fnC f).toArray] W fun e w' => e = .returned (.tuple #[]) ∧ Out lo hi W w' := by
  have HIV : Hid ((Try.prog.info? 55).map (·.size) = some 3) := Lib.hid (by kernel_rfl)
  have HIC : Hid ((Try.prog.info? 25).map (·.size) = some 7) := Lib.hid (by kernel_rfl)
  obtain ⟨nm, pp, pn, pc, ps, rt, bp, bn, bc, bs⟩ := f
  obtain ⟨d, h1, h2⟩ := h
  simp only at h1 h2
  obtain rfl : pn = ps.length := h1.1
  obtain rfl : bn = bs.length := h2.1
  obtain ⟨kp1, kp2⟩ := h1.caps
  obtain ⟨kb1, kb2⟩ := h2.caps
  have l1 := h1.le
  have l2 := h2.le
  show Calls Try.prog 39 #[.agg #[.string nm, .slice pp ps.length pc, .int .i64 rt, .slice bp bs.length bc]] W _
  have F1 : Box W.heap.size [.string nm, .slice pp ps.length pc, .int .i64 rt, .slice bp bs.length bc] (W.alloc (.cells #[.string nm, .slice pp ps.length pc, .int .i64 rt, .slice bp bs.length bc] 41)) := Box.new W rfl _ _
  have O1 : Out lo hi W (W.alloc (.cells #[.string nm, .slice pp ps.length pc, .int .i64 rt, .slice bp bs.length bc] 41)) := (Out.refl _ _ _).alloc _
  have o1 := h1.stay local_NoOwn (((Past.refl (Nat.le_refl W.heap.size)).alloc (.cells #[.string nm, .slice pp ps.length pc, .int .i64 rt, .slice bp bs.length bc] 41)).stay (by omega))
  have o2 := h2.stay local_Blk (((Past.refl (Nat.le_refl W.heap.size)).alloc (.cells #[.string nm, .slice pp ps.length pc, .int .i64 rt, .slice bp bs.length bc] 41)).stay (by omega))
  have z1 : W.heap.size < (W.alloc (.cells #[.string nm, .slice pp ps.length pc, .int .i64 rt, .slice bp bs.length bc] 41)).heap.size := by simp
  have a1 := F1.get 1 _ rfl
  go_enter Try.func39, Try.ntmps39
  go_wp2_with fail
  generalize (W.alloc (.cells #[.string nm, .slice pp ps.length pc, .int .i64 rt, .slice bp bs.length bc] 41)) = w1 at *
  have HO2 := Lib.hid o2
  have HI := Lib.hid (And.intro F1 (And.intro O1 (And.intro o1 z1)))
  have HBS : Hid (∀ w, Out lo d w1 w → ListOwn 67 1 blkC BlkOwn d hi w bp bs.length bc bs) := Lib.hid (fun w ho => HO2.out.stay local_Blk (ho.stay (by omega) (.inr (Nat.le_refl _))))
  clear F1 O1 o1 o2 h1 h2 a1
  go_loopw [11] (fun t wr => ∃ (i : Nat) (qs : List Int), i ≤ ps.length ∧ t = .int .i64 i ∧ qs.length = ps.length ∧ Out lo d w1 wr ∧ ListOwn 3 1 intC NoOwn lo d wr pp ps.length pc qs) (fun t _ => ps.length - (intOf t).toNat)
  case atStart => exact ⟨0, ps, Nat.zero_le _, rfl, rfl, Out.refl _ _ _, HI.out.2.2.1⟩
  case round =>
    obtain ⟨i, qs, hi2, rfl, hql, hO, hP⟩ := hrel
    have F2 := Out.box HI.out.1 hO (.inr (by omega))
    have a1 := F2.get 1 _ rfl
    by_cases hlt : i < ps.length
    · obtain ⟨g, rfl⟩ := hP.some_row (by omega)
      have hil : i < qs.length := by omega
      have hr := own_range (f := intC) (m := 1) (fun _ => rfl) hP.2.1 i hil
      have hth := own_there (f := intC) (m := 1) (fun _ => rfl) hP.2.1 i hil
      have c0 := hr 0 _ rfl
      have fz := (hth 0 (by decide)).2
      simp only [Nat.mul_one, Nat.add_zero] at c0 fz
      obtain ⟨hput, hg1, hg2⟩ := hP.put (m := 1) local_NoOwn (by decide) (fun _ => rfl) i hil (-9) (fun _ _ _ _ => trivial)
      rw [Nat.mul_one] at hput
      have ho2 := out_setCells hg1 hg2 (intC (-9)) i wr
      have HP := Lib.hid (And.intro hput ho2)
      clear hr hth hP hput ho2
      go_wp2_with fail
      exact ⟨⟨i + 1, qs.set i (-9), by omega, by go_num, by rw [List.length_set]; exact hql, hO.trans HP.out.2, HP.out.1⟩, by simp [intOf]; omega⟩
    · have hB := HBS.out wr hO
      have HB := Lib.hid hB
      have HOW := Lib.hid (HI.out.2.1.trans (hO.mono (Nat.le_refl _) l2))
      have a3 := F2.get 3 _ rfl
      have hsz := hO.size
      have hz := HI.out.2.2.2
      have F2' := Lib.hid F2
      clear hB hP F2
      go_wp2_with fail
      clear a1 a3
      generalize wr = w2 at *
      go_loopw [22] (fun t wr => ∃ (i : Nat) (cs : List LB), i ≤ bs.length ∧ t = .int .i64 i ∧ cs.length = bs.length ∧ Hid (∀ j, i ≤ j → cs[j]? = bs[j]?) ∧ Out d hi w2 wr ∧ ListOwn 67 1 blkC BlkOwn d hi wr bp bs.length bc cs) (fun t _ => bs.length - (intOf t).toNat)
      case atStart => exact ⟨0, bs, Nat.zero_le _, rfl, rfl, Lib.hid (fun _ _ => rfl), Out.refl _ _ _, HB.out⟩
      case round =>
        obtain ⟨i, cs, hi3, rfl, hcl, hsame, hO3, hB3⟩ := hrel
        have F3 := Out.box F2'.out hO3 (.inr (by omega))
        have a3 := F3.get 3 _ rfl
        have hz3 := hO3.size
        by_cases hlt3 : i < bs.length
        · have hcs : cs[i]? = some bs[i] := by rw [hsame.out i (Nat.le_refl _), List.getElem?_eq_getElem hlt3]
          have hic : i < cs.length := by omega
          have hcs2 : cs[i] = bs[i] := by rw [List.getElem?_eq_getElem hic] at hcs; exact Option.some.inj hcs
          have hd1 : d ≤ wr.heap.size := by omega
          obtain ⟨gb, rfl⟩ := hB3.some_row (by omega)
          have hc := own_range (f := blkC) (m := 1) (fun _ => rfl) hB3.2.1 i hic 0 _ rfl
          simp only [Nat.mul_one, Nat.add_zero] at hc
          obtain ⟨ca, cb, i1, i2, i3, hq, up⟩ := hB3.upd local_Blk i hic
          rw [hcs2] at hq hc up
          unfold BlkOwn at hq
          have hq1 := hq.1
          obtain ⟨q2, q3⟩ := hq.caps
          rw [hq1] at hc
          have HQ := Lib.hid hq
          have HUP := Lib.hid up
          have HSAME := Lib.hid hsame
          have HN := Lib.hid hq1
          have HC := Lib.hid hc
          have HB3 := Lib.hid hB3
          have HCS2 := Lib.hid hcs2
          clear hq up hq1 hcs hB3 hcs2
          obtain ⟨PP, hPP⟩ : ∃ PP, bs[i].p = PP := ⟨_, rfl⟩
          rw [hPP] at HQ HC hc
          have HPP := Lib.hid hPP
          clear hPP
          go_wp2_with fail
          clear a3 hc
          generalize wr = w3 at *
          go_loopw [32] (fun t wr => ∃ (k : Nat) (L : List LI), k ≤ bs[i].code.length ∧ t = .int .i64 k ∧ L.length = bs[i].code.length ∧ Hid (∀ j, k ≤ j → L[j]? = bs[i].code[j]?) ∧ Out ca cb w3 wr ∧ ListOwn 25 7 liC InsOwn ca cb wr PP bs[i].code.length bs[i].k L) (fun t _ => bs[i].code.length - (intOf t).toNat)
          case atStart => exact ⟨0, bs[i].code, Nat.zero_le _, rfl, rfl, Lib.hid (fun _ _ => rfl), Out.refl _ _ _, by rw [← HN.out]; exact HQ.out⟩
          case round =>
            obtain ⟨k, L, hk, rfl, hLl, hLs, hO4, hC4⟩ := hrel
            have F4 := Out.box F3 hO4 (.inr (by omega))
            have a3 := F4.get 3 _ rfl
            have hz4 := hO4.size
            have hBC : ∀ (w : World) (M : List LI), Out ca cb w3 w → ListOwn 25 7 liC InsOwn ca cb w PP bs[i].code.length bs[i].k M → ListOwn 67 1 blkC BlkOwn d hi w (some ⟨gb, 0, none⟩) bs.length bc (cs.set i ⟨PP, bs[i].code.length, bs[i].k, M⟩) ∧ w.cell? ⟨gb, i, none⟩ = some (.slice PP bs[i].code.length bs[i].k) := fun w M ho hm => by
              have h1 := HUP.out w ⟨PP, bs[i].code.length, bs[i].k, M⟩ (by unfold blkC; rw [HN.out, HPP.out]) (fun m h1 h2 h3 => ho.block m (by omega) h3) hm
              refine ⟨h1, ?_⟩
              have h2 := own_range (f := blkC) (m := 1) (fun _ => rfl) h1.2.1 i (by rw [List.length_set]; exact hic) 0 _ rfl
              simp only [Nat.mul_one, Nat.add_zero, List.getElem_set_self] at h2
              exact h2
            have HBC := Lib.hid hBC
            clear hBC
            have c1 := (HBC.out wr L hO4 hC4).2
            by_cases hkl : k < bs[i].code.length
            · have hkL : k < L.length := by omega
              have hLk : L[k] = bs[i].code[k] := by
                have h := hLs.out k (Nat.le_refl _)
                rw [List.getElem?_eq_getElem hkL, List.getElem?_eq_getElem hkl] at h
                exact Option.some.inj h
              obtain ⟨gc, rfl⟩ := hC4.some_row (by omega)
              obtain ⟨a2, c2, j1, j2, j3, hI, upI⟩ := hC4.upd local_Ins k hkL
              have hr := own_range (f := liC) (m := 7) (fun _ => rfl) hC4.2.1 k hkL
              rw [hLk] at hr hI upI
              obtain ⟨x, ex⟩ : ∃ x, bs[i].code[k] = x := ⟨_, rfl⟩
              rw [ex] at hr hI upI
              obtain ⟨⟨op, rg, ty, nn, fl, ap, al, ac, tp, tl, tc, args⟩, ts0⟩ := x
              try simp only at hr hI upI
              obtain ⟨hA, hT⟩ := hI
              obtain rfl : al = args.length := hA.1
              obtain rfl : tl = ts0.length := hT.1
              try simp only at hA hT
              obtain ⟨ka1, ka2⟩ := hA.caps
              obtain ⟨kt1, kt2⟩ := hT.caps
              have y0 := hr 0 _ rfl
              have y1 := hr 1 _ rfl
              have y2 := hr 2 _ rfl
              have y3 := hr 3 _ rfl
              have y4 := hr 4 _ rfl
              have y5 := hr 5 _ rfl
              have y6 := hr 6 _ rfl
              simp only [Nat.add_zero] at y0
              have I1 : Box wr.heap.size [.int .i64 op, .int .i64 rg, .int .i64 ty, .int .i64 nn, .int .i64 fl, .slice ap args.length ac, .slice tp ts0.length tc] (wr.alloc (.cells #[.int .i64 op, .int .i64 rg, .int .i64 ty, .int .i64 nn, .int .i64 fl, .slice ap args.length ac, .slice tp ts0.length tc] 25)) := Box.new wr rfl _ _
              have st1 : ∀ b, b ≤ wr.heap.size → ∀ a, Stay a b wr (wr.alloc (.cells #[.int .i64 op, .int .i64 rg, .int .i64 ty, .int .i64 nn, .int .i64 fl, .slice ap args.length ac, .slice tp ts0.length tc] 25)) := fun b hb a => ((Past.refl (Nat.le_refl wr.heap.size)).alloc _).stay hb
              have A1 := hA.stay local_NoOwn (st1 c2 (by omega) a2)
              have T1 := hT.stay local_NoOwn (st1 c2 (by omega) a2)
              have O5 : Out ca cb w3 (wr.alloc (.cells #[.int .i64 op, .int .i64 rg, .int .i64 ty, .int .i64 nn, .int .i64 fl, .slice ap args.length ac, .slice tp ts0.length tc] 25)) := hO4.alloc _
              have z5 : wr.heap.size < (wr.alloc (.cells #[.int .i64 op, .int .i64 rg, .int .i64 ty, .int .i64 nn, .int .i64 fl, .slice ap args.length ac, .slice tp ts0.length tc] 25)).heap.size := by simp
              have C5 := hC4.stay local_Ins (st1 cb (by omega) ca)
              have i5 := I1.get 5 _ rfl
              have HUPI := Lib.hid upI
              have HC4 := Lib.hid hC4
              have HF4 := Lib.hid F4
              have HLK := Lib.hid hLk
              have HXX := Lib.hid ex
              have HAT := Lib.hid (And.intro A1 (And.intro T1 (And.intro I1 (And.intro O5 C5))))
              clear hr hA hT upI hC4 F4 hLk ex A1 T1 I1 O5 C5 st1
              go_wp2_with fail
              clear y0 y1 y2 y3 y4 y5 y6 a3 c1 i5
              have hcb : cb ≤ wr.heap.size := by omega
              generalize hw4 : wr.alloc (.cells #[.int .i64 op, .int .i64 rg, .int .i64 ty, .int .i64 nn, .int .i64 fl, .slice ap args.length ac, .slice tp ts0.length tc] 25) = w4 at *
              have HWW := Lib.hid hw4
              clear hw4
              generalize wr = w3k at *
              go_loopw [47] (fun t wr => ∃ (j : Nat) (es : List Arg), j ≤ args.length ∧ t = .int .i64 j ∧ es.length = args.length ∧ w4.grownBy wr (Value.slice ap args.length ac).ownBlock ∧ ListOwn 55 3 argC NoOwn a2 c2 wr ap args.length ac es) (fun t _ => args.length - (intOf t).toNat)
              case atStart => exact ⟨0, args, Nat.zero_le _, rfl, rfl, World.grownBy.refl _ _, HAT.out.1⟩
              case round =>
                obtain ⟨j, es, hj, rfl, hasl, hg, hAs⟩ := hrel
                have HAt := HAT.out
                have hIb := HAt.2.2.1.kept hg (fun e => by have h5 := HAt.1.2.1.lt _ e.symm; have h6 := HAt.1.2.2.1 _ e.symm; omega)
                have i5 := hIb.get 5 _ rfl
                have i6 := hIb.get 6 _ rfl
                by_cases hjl : j < args.length
                · obtain ⟨ga, rfl⟩ := hAs.some_row (by omega)
                  have hjl2 : j < es.length := by omega
                  have hth := own_there (f := argC) (m := 3) (fun _ => rfl) hAs.2.1 j hjl2
                  obtain ⟨hput, hg1, hg2⟩ := hAs.put (m := 3) local_NoOwn (by decide) (fun _ => rfl) j hjl2 ⟨77, j, 0⟩ (fun _ _ _ _ => trivial)
                  have HTH := Lib.hid hth
                  have HPUT := Lib.hid hput
                  have HG := Lib.hid hg
                  clear hth hput hAs hg hIb HAt
                  go_wp2_with (first
                    | (refine wpList_store_mid rfl 55 (.tmp 55) (.tmp 54) rfl ga (j * 3) (argC ⟨77, j, 0⟩).toArray (by simp [go_sem]) (by simp [go_sem, argC]) HTH.out HIV.out (all_oneCell_toArray (argC_one1 _)) ?_))
                  exact ⟨⟨j + 1, es.set j ⟨77, j, 0⟩, by omega, by go_num, by rw [List.length_set]; exact hasl, grown_setCells _ _ HG.out, HPUT.out⟩, by simp [intOf]; omega⟩
                · have hTs : ListOwn 3 1 intC NoOwn a2 c2 wr tp ts0.length tc ts0 := ⟨HAt.2.1.1, HAt.2.1.2.1.kept hg (rows_apart HAt.2.1.2.1 HAt.1.2.1 (by decide)), HAt.2.1.2.2.1, spread_NoOwn HAt.2.1.le _⟩
                  have HAS := Lib.hid (And.intro hasl (And.intro hg (And.intro hAs (And.intro hTs hIb))))
                  clear hAs hTs hg HAt hIb i5
                  go_wp2_with fail
                  clear i6
                  generalize wr = w5 at *
                  go_loopw [60] (fun t wr => ∃ (j : Nat) (es : List Int), j ≤ ts0.length ∧ t = .int .i64 j ∧ es.length = ts0.length ∧ w5.grownBy wr (Value.slice tp ts0.length tc).ownBlock ∧ ListOwn 3 1 intC NoOwn a2 c2 wr tp ts0.length tc es) (fun t _ => ts0.length - (intOf t).toNat)
                  case atStart => exact ⟨0, ts0, Nat.zero_le _, rfl, rfl, World.grownBy.refl _ _, HAS.out.2.2.2.1⟩
                  case round =>
                    obtain ⟨m, ts, hm, rfl, htl, hg, hTs⟩ := hrel
                    have hIb := HAS.out.2.2.2.2.kept hg (fun e => by have h5 := HAT.out.2.1.2.1.lt _ e.symm; have h6 := HAT.out.2.1.2.2.1 _ e.symm; omega)
                    have i6 := hIb.get 6 _ rfl
                    by_cases hml : m < ts0.length
                    · obtain ⟨ga, rfl⟩ := hTs.some_row (by omega)
                      have hml2 : m < ts.length := by omega
                      have hr := own_range (f := intC) (m := 1) (fun _ => rfl) hTs.2.1 m hml2
                      have hth := own_there (f := intC) (m := 1) (fun _ => rfl) hTs.2.1 m hml2
                      have q0 := hr 0 _ rfl
                      have fz := (hth 0 (by decide)).2
                      simp only [Nat.mul_one, Nat.add_zero] at q0 fz
                      obtain ⟨hput, hg1, hg2⟩ := hTs.put (m := 1) local_NoOwn (by decide) (fun _ => rfl) m hml2 (-77) (fun _ _ _ _ => trivial)
                      rw [Nat.mul_one] at hput
                      have HPUT := Lib.hid hput
                      have HG := Lib.hid hg
                      clear hr hth hput hTs hg hIb
                      go_wp2_with fail
                      exact ⟨⟨m + 1, ts.set m (-77), by omega, by go_num, by rw [List.length_set]; exact htl, grown_setCells (intC (-77)) m HG.out, HPUT.out⟩, by simp [intOf]; omega⟩
                    · have gA := HAS.out.2.1
                      have oA := Out.grown (lo := a2) (hi := c2) gA (fun g e => ⟨(HAT.out.1.2.1.lt g e).1, HAT.out.1.2.2.1 g e⟩)
                      have oT := Out.grown (lo := a2) (hi := c2) hg (fun g e => ⟨(HAT.out.2.1.2.1.lt g e).1, HAT.out.2.1.2.2.1 g e⟩)
                      have oAT := oA.trans oT
                      have O6 : Out ca cb w3 wr := HAT.out.2.2.2.1.trans (oAT.mono j1 j3)
                      have hAw : ListOwn 55 3 argC NoOwn a2 c2 wr ap args.length ac es := ⟨HAS.out.2.2.1.1, HAS.out.2.2.1.2.1.kept hg (rows_apart HAS.out.2.2.1.2.1 HAS.out.2.2.2.1.2.1 (by decide)), HAS.out.2.2.1.2.2.1, spread_NoOwn HAS.out.2.2.1.le _⟩
                      have hC6 := HUPI.out wr (⟨op, rg, ty, nn, fl, ap, args.length, ac, tp, ts0.length, tc, es⟩, ts) rfl (fun m h1 h2 h3 => (oAT.block m (Nat.lt_of_lt_of_le (Nat.lt_of_lt_of_le h2 hcb) (by rw [← HWW.out]; simp)) h3).trans (by rw [← HWW.out]; exact Below.heap_alloc _ _ _ (Nat.lt_of_lt_of_le h2 hcb))) ⟨hAw, hTs⟩
                      have F6 := Out.box F3 O6 (.inr (by omega))
                      have a3 := F6.get 3 _ rfl
                      have c1 := (HBC.out wr _ O6 hC6).2
                      have hkL2 : k < (L.set k ((⟨op, rg, ty, nn, fl, ap, args.length, ac, tp, ts0.length, tc, es⟩, ts) : LI)).length := by rw [List.length_set]; omega
                      have hth := own_there (f := liC) (m := 7) (fun _ => rfl) hC6.2.1 k hkL2
                      obtain ⟨hput, hg1, hg2⟩ := hC6.put (m := 7) local_Ins (by decide) (fun _ => rfl) k hkL2 badI (fun a' b' w' h => badI_own a' b' w' h)
                      have HTH := Lib.hid hth
                      have ho7 := O6.trans (out_setCells hg1 hg2 (liC badI) (k * 7) wr)
                      rw [badC_eq] at hput ho7
                      have HPUT := Lib.hid hput
                      have HO6 := Lib.hid ho7
                      have HTH2 : wr.there gc (k * 7) badC.toArray.size := HTH.out
                      have HIC2 : (Try.prog.info? 25).map (·.size) = some badC.toArray.size := HIC.out
                      clear hth hput ho7 hC6 hAw hTs hg gA oA oT oAT O6 F6 hIb i6
                      go_wp2_with (first
                        | (with_reducible refine wpList_store_mid rfl 25 (.tmp 76) (.tmp 75) rfl gc (k * 7) badC.toArray (by simp [go_sem]) (by simp [go_sem, badC]) HTH2 HIC2 badAll ?_))
                      refine ⟨⟨k + 1, _, by omega, by go_num, ?_, Lib.hid (fun j hj => ?_), HO6.out, HPUT.out⟩, by simp [intOf]; omega⟩
                      · rw [List.length_set, List.length_set]; exact hLl
                      · rw [List.getElem?_set_ne (by omega), List.getElem?_set_ne (by omega)]
                        exact hLs.out j (by omega)
            · obtain rfl : k = bs[i].code.length := by omega
              have hBw := (HBC.out wr L hO4 hC4).1
              have hil2 : i < (cs.set i ⟨PP, bs[i].code.length, bs[i].k, L⟩).length := by rw [List.length_set]; exact hic
              have hth := own_there (f := blkC) (m := 1) (fun _ => rfl) hBw.2.1 i hil2
              have fz := (hth 0 (by decide)).2
              simp only [Nat.mul_one, Nat.add_zero] at fz
              obtain ⟨hput, hg1, hg2⟩ := hBw.put (m := 1) local_Blk (by decide) (fun _ => rfl) i hil2 badB (fun a' b' w' h => badB_own a' b' w' h)
              rw [Nat.mul_one] at hput
              have HPUT := Lib.hid hput
              have HO6 := Lib.hid ((hO3.trans (hO4.mono i1 i3)).trans (out_setCells hg1 hg2 (blkC badB) i wr))
              clear hth hput hBw hC4 F4
              go_wp2_with fail
              refine ⟨⟨i + 1, _, by omega, by go_num, ?_, Lib.hid (fun j hj => ?_), HO6.out, HPUT.out⟩, by simp [intOf]; omega⟩
              · rw [List.length_set, List.length_set]; exact hcl
              · rw [List.getElem?_set_ne (by omega), List.getElem?_set_ne (by omega)]
                exact hsame.out j (by omega)
        · go_wp2_with fail
          go_end0
          exact ⟨rfl, HOW.out.trans (hO3.mono l1 (Nat.le_refl _))⟩
end Go.Proofs.Ytpfeiolmkbibiaa
