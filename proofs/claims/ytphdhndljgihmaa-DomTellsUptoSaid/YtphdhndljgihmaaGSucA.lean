/- Package graph: isBlock, targets. -/
import Derived.Test.YtphdhndljgihmaaBaseF
import Derived.Test.YtphdhndljgihmaaGPure
namespace Go.Proofs.Ytphdhndljgihmaa
open Go.RowKit Go.Maps
set_option linter.unusedVariables false
set_option linter.unusedSimpArgs false

theorem ins_row {B : Nat} {w : World} {p : Option Addr} {n c : Nat} {L : List LI} (h : ListIn liC InsIn B w p n c L) (i : Nat) (hi : i < L.length) :
    ∃ a, p = some a ∧ a.block < B ∧ InsAt w (a.add (i * 7)) L[i].1 := by
  obtain ⟨p', cap, e, h1, h2, h3⟩ := codeAt_in h
  injection e with e1 e2 e3
  obtain ⟨a, ea, hb, hI⟩ := h3 i (by simpa using hi)
  rw [List.getElem_map] at hI
  exact ⟨a, by rw [e1]; exact ea, hb, hI⟩
set_option maxRecDepth 100000 in
set_option maxHeartbeats 1000000 in
theorem isBlock_any (f : LFn) (b : Int) (W : World) (h : FnIn W.heap.size W f) :
    Calls Try.prog 49 #[.agg (fnC f).toArray, .int .i64 b] W fun e w' => e = .returned (.bool (decide (0 ≤ b ∧ b < (f.bs.length : Int)))) ∧ Below W.heap.size W w' := by
  obtain ⟨nm, pp, pn, pc, ps, rt, bp, bn, bc, bs⟩ := f
  obtain rfl : bn = bs.length := h.2.1
  show Calls Try.prog 49 #[.agg #[.string nm, .slice pp pn pc, .int .i64 rt, .slice bp bs.length bc], .int .i64 b] W _
  have hP := (Past.refl (Nat.le_refl W.heap.size)).alloc (.cells #[.string nm, .slice pp pn pc, .int .i64 rt, .slice bp bs.length bc] 25)
  have A1 : Box W.heap.size [.string nm, .slice pp pn pc, .int .i64 rt, .slice bp bs.length bc] (W.alloc (.cells #[.string nm, .slice pp pn pc, .int .i64 rt, .slice bp bs.length bc] 25)) := Box.new W rfl _ _
  have a3 := A1.get 3 _ rfl
  have HP := Lib.hid hP
  clear h hP A1
  go_enter Try.func49, Try.ntmps49
  by_cases h0 : 0 ≤ b
  · by_cases h1 : b < (bs.length : Int)
    · have hd : decide (0 ≤ b ∧ b < (bs.length : Int)) = true := decide_eq_true ⟨h0, h1⟩
      simp only [hd]
      clear hd
      go_wp2_with fail
      go_ret
      exact ⟨rfl, HP.out.2⟩
    · have hd : decide (0 ≤ b ∧ b < (bs.length : Int)) = false := decide_eq_false (fun h => h1 h.2)
      simp only [hd]
      clear hd
      go_wp2_with fail
      go_ret
      exact ⟨rfl, HP.out.2⟩
  · have hd : decide (0 ≤ b ∧ b < (bs.length : Int)) = false := decide_eq_false (fun h => h0 h.1)
    simp only [hd]
    clear hd
    go_wp2_with fail
    go_ret
    exact ⟨rfl, HP.out.2⟩

theorem in_nilG {α : Type} {cel : α → List Value} {E : Nat → World → α → Prop} (B : Nat) (w : World) : ListIn cel E B w none 0 0 [] :=
  ⟨rfl, Nat.le_refl _, Nat.zero_le _, fun j u hj => by simp at hj, fun x hx => absurd hx (by simp)⟩
theorem tgtP_last (c : List LI) (h : 0 < c.length) : tgtP (c.map insD) = if (c[c.length - 1]).1.op = 31 ∨ (c[c.length - 1]).1.op = 32 then (c[c.length - 1]).2 else [] := by
  unfold tgtP
  rw [List.getLast?_eq_getElem?, List.length_map, List.getElem?_map, List.getElem?_eq_getElem (by omega : c.length - 1 < c.length)]
  rfl
/-- What targets answers. -/
def TgtEnds (B : Nat) (c : LB) (W : World) (e : Ending) (w' : World) : Prop :=
  ∃ p k, e = .returned (.slice p (tgtP (blkD c)).length k) ∧ ListIn intC NoMem B W p (tgtP (blkD c)).length k (tgtP (blkD c)) ∧ Below W.heap.size W w'
set_option maxRecDepth 100000 in
set_option maxHeartbeats 1000000 in
theorem targets_any (B : Nat) (c : LB) (W : World) (hB : B ≤ W.heap.size) (h : BlkIn B W c) :
    Calls Try.prog 50 #[.agg #[.slice c.p c.n c.k]] W (TgtEnds B c W) := by
  obtain ⟨p, n, k, code⟩ := c
  obtain rfl : n = code.length := h.1
  have k2 := h.2.1
  have k3 := h.2.2.1
  unfold maxLen at k3
  simp only at k2 k3
  have H := Lib.hid h
  have hP := (Past.refl (Nat.le_refl W.heap.size)).alloc (.cells #[.slice p code.length k] 47)
  have A1 : Box W.heap.size [.slice p code.length k] (W.alloc (.cells #[.slice p code.length k] 47)) := Box.new W rfl _ _
  have a0 := A1.get 0 _ rfl
  clear h
  show Calls Try.prog 50 #[.agg #[.slice p code.length k]] W _
  go_enter Try.func50, Try.ntmps50
  by_cases h0 : code.length = 0
  · have hc : code = [] := List.eq_nil_of_length_eq_zero h0
    subst hc
    have HP := Lib.hid hP
    clear hP A1
    go_wp2_with fail
    go_ret
    exact ⟨none, 0, rfl, in_nilG _ _, HP.out.2⟩
  · have hpos : 0 < code.length := by omega
    obtain ⟨m, em⟩ : ∃ m, code.length = m + 1 := ⟨code.length - 1, by omega⟩
    have hm : m < code.length := by omega
    obtain ⟨a, rfl, ha, hI⟩ := ins_row H.out m hm
    have ha : a.block < W.heap.size := Nat.lt_of_lt_of_le ha hB
    obtain ⟨f0, f1, f2, f3, f4, f5, f6⟩ := hI.below hP.2 (by rw [add_block]; exact ha)
    have hT := tgtP_last code hpos
    have e1 : code.length - 1 = m := by omega
    simp only [e1] at hT
    have HL := (H.out.2.2.2.2 code[m] (List.getElem_mem hm)).2
    obtain ⟨x, ex⟩ : ∃ x, code[m] = x := ⟨_, rfl⟩
    rw [ex] at f0 f1 f2 f3 f4 f5 f6 hT HL
    obtain ⟨⟨op, rg, ty, nn, fl, ap, al, ac, tp, tl, tc, args⟩, tg⟩ := x
    obtain rfl : tl = tg.length := HL.1
    simp only at f0 f1 f2 f3 f4 f5 f6 hT HL
    have HT := Lib.hid hT
    have HL2 := Lib.hid HL
    have HP := Lib.hid hP
    clear hT HL hI H hP A1 ex e1
    simp only [em] at a0 k2 f0 f1 f2 f3 f4 f5 f6 HP ⊢
    clear em
    have hcast : ((m + 1 : Nat) : Int) - 1 = m := by omega
    have hz : (((m + 1 : Nat) : Int) == 0) = false := by simp; omega
    by_cases o1 : op = 31
    · subst o1
      have HT : Hid (tgtP (code.map insD) = tg) := Lib.hid (HT.out.trans (if_pos (.inl rfl)))
      clear h0 hpos
      go_wp2_with fail
      go_ret
      refine ⟨tp, tc, ?_, ?_, ((HP.out.alloc _).2)⟩
      · show _ = Ending.returned (.slice tp (tgtP (code.map insD)).length tc)
        rw [HT.out]
        rfl
      · show ListIn intC NoMem B W tp (tgtP (code.map insD)).length tc (tgtP (code.map insD))
        rw [HT.out]
        exact HL2.out
    · by_cases o2 : op = 32
      · subst o2
        have HT : Hid (tgtP (code.map insD) = tg) := Lib.hid (HT.out.trans (if_pos (.inr rfl)))
        clear h0 hpos
        go_wp2_with fail
        go_ret
        refine ⟨tp, tc, ?_, ?_, ((HP.out.alloc _).2)⟩
        · show _ = Ending.returned (.slice tp (tgtP (code.map insD)).length tc)
          rw [HT.out]
          rfl
        · show ListIn intC NoMem B W tp (tgtP (code.map insD)).length tc (tgtP (code.map insD))
          rw [HT.out]
          exact HL2.out
      · have HT : Hid (tgtP (code.map insD) = []) := Lib.hid (HT.out.trans (if_neg (fun h => h.elim o1 o2)))
        have g1 : (op == 31) = false := by simpa using o1
        have g2 : (op == 32) = false := by simpa using o2
        clear o1 o2 h0 hpos
        go_wp2_with fail
        go_ret
        refine ⟨none, 0, ?_, ?_, ((HP.out.alloc _).2)⟩
        · show _ = Ending.returned (.slice none (tgtP (code.map insD)).length 0)
          rw [HT.out]
          rfl
        · show ListIn intC NoMem B W none (tgtP (code.map insD)).length 0 (tgtP (code.map insD))
          rw [HT.out]
          exact in_nilG _ _
end Go.Proofs.Ytphdhndljgihmaa
