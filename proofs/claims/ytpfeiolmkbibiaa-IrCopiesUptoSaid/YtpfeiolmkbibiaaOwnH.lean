/- Package ir: Replace, of any function: its walk. -/
import Derived.Test.YtpfeiolmkbibiaaOwnG
namespace Go.Proofs.Ytpfeiolmkbibiaa
open Go.RowKit Go.Maps
set_option linter.unusedVariables false
set_option linter.unusedSimpArgs false

theorem Past.kept {B : Nat} {W w w' : World} {row : Option Nat} (h : Past B W w) (hg : w.grownBy w' row) (hr : ∀ g, row = some g → B ≤ g) : Past B W w' := h.grownRow hg hr
theorem grown_stay {a b : Nat} {w w' : World} {row : Option Nat} (hg : w.grownBy w' row) (hb : b ≤ w.heap.size) (hr : ∀ g, row = some g → b ≤ g ∨ g < a) : Stay a b w w' := fun k h1 h2 => hg.block k (by omega) (fun e => by have := hr k e.symm; omega)
set_option maxRecDepth 100000 in
set_option maxHeartbeats 2000000 in
theorem Replace_own (f : LFn) (reg : Int) (v : Arg) (W : World) (h : FnIn W.heap.size W f) (hz : fnZ (fnD f) ≤ 1048576) :
    Calls Try.prog 34 #[.agg (fnC f).toArray, .int .i64 reg, .agg (argC v).toArray] W fun e w' => ∃ y, e = .returned (.agg (fnC y).toArray) ∧ fnD y = repF reg v (fnD f) ∧ Past W.heap.size W w' ∧ FnOwn W.heap.size w'.heap.size w' y := by
  have hmf : ∀ (fn : Fn) (first cap : Array Value) (w : World), (Instr.makeFunc fn first cap).run Try.prog w = .ok (.func fn first cap) w := fun _ _ _ _ => rfl
  obtain ⟨nm, pp, pn, pc, ps, rt, bp, bn, bc, bs⟩ := f
  obtain ⟨vk, vn, vb⟩ := v
  show Calls Try.prog 34 #[.agg #[.string nm, .slice pp pn pc, .int .i64 rt, .slice bp bn bc], .int .i64 reg, .agg #[.int .i64 vk, .int .i64 vn, .int .u64 vb]] W _
  have P1 := (Past.refl (Nat.le_refl W.heap.size)).alloc (.cells #[.string nm, .slice pp pn pc, .int .i64 rt, .slice bp bn bc] 41)
  have F1 : Box W.heap.size [.string nm, .slice pp pn pc, .int .i64 rt, .slice bp bn bc] (W.alloc (.cells #[.string nm, .slice pp pn pc, .int .i64 rt, .slice bp bn bc] 41)) := Box.new W rfl _ _
  have z1 : (W.alloc (.cells #[.string nm, .slice pp pn pc, .int .i64 rt, .slice bp bn bc] 41)).heap.size = W.heap.size + 1 := by simp
  go_enter Try.func34, Try.ntmps34
  go_wp2_with fail
  generalize (W.alloc (.cells #[.string nm, .slice pp pn pc, .int .i64 rt, .slice bp bn bc] 41)) = w1 at *
  have P2 := P1.alloc (.cells #[.int .i64 reg] 3)
  have F2 := F1.alloc (.cells #[.int .i64 reg] 3)
  have R2 : Box (W.heap.size + 1) [.int .i64 reg] (w1.alloc (.cells #[.int .i64 reg] 3)) := Box.new w1 (by omega) _ _
  have z2 : (w1.alloc (.cells #[.int .i64 reg] 3)).heap.size = W.heap.size + 2 := by simp; omega
  generalize (w1.alloc (.cells #[.int .i64 reg] 3)) = w2 at *
  have P3 := P2.alloc (.cells #[.int .i64 vk, .int .i64 vn, .int .u64 vb] 55)
  have F3 := F2.alloc (.cells #[.int .i64 vk, .int .i64 vn, .int .u64 vb] 55)
  have R3 := R2.alloc (.cells #[.int .i64 vk, .int .i64 vn, .int .u64 vb] 55)
  have V3 : Box (W.heap.size + 1 + 1) (argC ⟨vk, vn, vb⟩) (w2.alloc (.cells #[.int .i64 vk, .int .i64 vn, .int .u64 vb] 55)) := Box.new w2 (by omega) _ _
  have z3 : (w2.alloc (.cells #[.int .i64 vk, .int .i64 vn, .int .u64 vb] 55)).heap.size = W.heap.size + 3 := by simp; omega
  generalize (w2.alloc (.cells #[.int .i64 vk, .int .i64 vn, .int .u64 vb] 55)) = w3 at *
  have P4 := P3.alloc (.cells #[.string { data := #[] }, .slice none 0 0, .int .i64 0, .slice none 0 0] 41)
  have F4 := F3.alloc (.cells #[.string { data := #[] }, .slice none 0 0, .int .i64 0, .slice none 0 0] 41)
  have R4 := R3.alloc (.cells #[.string { data := #[] }, .slice none 0 0, .int .i64 0, .slice none 0 0] 41)
  have V4 := V3.alloc (.cells #[.string { data := #[] }, .slice none 0 0, .int .i64 0, .slice none 0 0] 41)
  have Z4 : Box (W.heap.size + 1 + 1 + 1) [.string { data := #[] }, .slice none 0 0, .int .i64 0, .slice none 0 0] (w3.alloc (.cells #[.string { data := #[] }, .slice none 0 0, .int .i64 0, .slice none 0 0] 41)) := Box.new w3 (by omega) _ _
  have z4 : (w3.alloc (.cells #[.string { data := #[] }, .slice none 0 0, .int .i64 0, .slice none 0 0] 41)).heap.size = W.heap.size + 4 := by simp; omega
  generalize (w3.alloc (.cells #[.string { data := #[] }, .slice none 0 0, .int .i64 0, .slice none 0 0] 41)) = w4 at *
  clear P1 P2 P3 F1 F2 F3 R2 R3 V3 z1 z2 z3
  refine (CopyFunc_own ⟨nm, pp, pn, pc, ps, rt, bp, bn, bc, bs⟩ w4 (past_lasts lasts_Fn h P4) hz).mono ?_
  rintro e w5 ⟨y, he5, hdy, hp5, d, ho1, ho2⟩
  obtain ⟨nm', pp', pn', pc', ps', rt', bp', bn', bc', bs'⟩ := y
  simp only at ho1 ho2
  obtain rfl : e = .returned (.agg #[.string nm', .slice pp' pn' pc', .int .i64 rt', .slice bp' bn' bc']) := he5
  have l1 := ho1.le
  have l2 := ho2.le
  have l5 := hp5.2.size
  have F5 := F4.later hp5.2
  have R5 := R4.later hp5.2
  have V5 := V4.later hp5.2
  have Z5 := Z4.later hp5.2
  have P5 := P4.trans ⟨P4.size, hp5.2.mono P4.size⟩
  have a0 := F5.get 0 _ rfl
  have a1 := F5.get 1 _ rfl
  have a2 := F5.get 2 _ rfl
  have a3 := F5.get 3 _ rfl
  have af := F5.2.1
  have F6 := (((F5.set 0 (.string nm')).set 1 (.slice pp' pn' pc')).set 2 (.int .i64 rt')).set 3 (.slice bp' bn' bc')
  have R6 := (((R5.other (d := W.heap.size) (by omega) 0 (.string nm')).other (d := W.heap.size) (by omega) 1 (.slice pp' pn' pc')).other (d := W.heap.size) (by omega) 2 (.int .i64 rt')).other (d := W.heap.size) (by omega) 3 (.slice bp' bn' bc')
  have V6 := (((V5.other (d := W.heap.size) (by omega) 0 (.string nm')).other (d := W.heap.size) (by omega) 1 (.slice pp' pn' pc')).other (d := W.heap.size) (by omega) 2 (.int .i64 rt')).other (d := W.heap.size) (by omega) 3 (.slice bp' bn' bc')
  have Z6 := (((Z5.other (d := W.heap.size) (by omega) 0 (.string nm')).other (d := W.heap.size) (by omega) 1 (.slice pp' pn' pc')).other (d := W.heap.size) (by omega) 2 (.int .i64 rt')).other (d := W.heap.size) (by omega) 3 (.slice bp' bn' bc')
  have P6 := (((P5.set (a := ⟨W.heap.size, 0, none⟩) (Nat.le_refl _) (.string nm')).set (a := ⟨W.heap.size, 1, none⟩) (Nat.le_refl _) (.slice pp' pn' pc')).set (a := ⟨W.heap.size, 2, none⟩) (Nat.le_refl _) (.int .i64 rt')).set (a := ⟨W.heap.size, 3, none⟩) (Nat.le_refl _) (.slice bp' bn' bc')
  have st6 : Stay w4.heap.size w5.heap.size w5 ((((w5.setCell ⟨W.heap.size, 0, none⟩ (.string nm')).setCell ⟨W.heap.size, 1, none⟩ (.slice pp' pn' pc')).setCell ⟨W.heap.size, 2, none⟩ (.int .i64 rt')).setCell ⟨W.heap.size, 3, none⟩ (.slice bp' bn' bc')) :=
    fun k h1 h2 => (Below.heap_setCell _ _ _ _ (by dsimp only; omega)).trans ((Below.heap_setCell _ _ _ _ (by dsimp only; omega)).trans ((Below.heap_setCell _ _ _ _ (by dsimp only; omega)).trans (Below.heap_setCell _ _ _ _ (by dsimp only; omega))))
  have l6 : ((((w5.setCell ⟨W.heap.size, 0, none⟩ (.string nm')).setCell ⟨W.heap.size, 1, none⟩ (.slice pp' pn' pc')).setCell ⟨W.heap.size, 2, none⟩ (.int .i64 rt')).setCell ⟨W.heap.size, 3, none⟩ (.slice bp' bn' bc')).heap.size = w5.heap.size := by simp [World.setCell]
  have ho6 := ho1.stay local_NoOwn (st6.mono (Nat.le_refl _) l2)
  have ho7 := ho2.stay local_Blk (st6.mono l1 (Nat.le_refl _))
  have b0 := F6.get 0 _ rfl
  have b1 := F6.get 1 _ rfl
  have b2 := F6.get 2 _ rfl
  have b3 := F6.get 3 _ rfl
  go_wp2_with fail
  clear a0 a1 a2 a3 af b0 b1 b2 b3 F5 R5 V5 Z5 P5 ho1 ho2
  generalize ((((w5.setCell ⟨W.heap.size, 0, none⟩ (.string nm')).setCell ⟨W.heap.size, 1, none⟩ (.slice pp' pn' pc')).setCell ⟨W.heap.size, 2, none⟩ (.int .i64 rt')).setCell ⟨W.heap.size, 3, none⟩ (.slice bp' bn' bc')) = w6 at *
  have hK : ∀ w w' row, (∀ g, row = some g → d ≤ g) → w.grownBy w' row → (d ≤ w.heap.size ∧ Past W.heap.size W w ∧ Box W.heap.size [.string nm', .slice pp' pn' pc', .int .i64 rt', .slice bp' bn' bc'] w ∧ Box (W.heap.size + 1) [.int .i64 reg] w ∧ Box (W.heap.size + 1 + 1) (argC ⟨vk, vn, vb⟩) w ∧ Box (W.heap.size + 1 + 1 + 1) [.string { data := #[] }, .slice none 0 0, .int .i64 0, .slice none 0 0] w ∧ ListOwn 3 1 intC NoOwn w4.heap.size d w pp' pn' pc' ps') →
      (d ≤ w'.heap.size ∧ Past W.heap.size W w' ∧ Box W.heap.size [.string nm', .slice pp' pn' pc', .int .i64 rt', .slice bp' bn' bc'] w' ∧ Box (W.heap.size + 1) [.int .i64 reg] w' ∧ Box (W.heap.size + 1 + 1) (argC ⟨vk, vn, vb⟩) w' ∧ Box (W.heap.size + 1 + 1 + 1) [.string { data := #[] }, .slice none 0 0, .int .i64 0, .slice none 0 0] w' ∧ ListOwn 3 1 intC NoOwn w4.heap.size d w' pp' pn' pc' ps') := by
    rintro w w' row hrow hg ⟨i0, i1, i2, i3, i4, i5, i6⟩
    have hs := hg.size
    exact ⟨by omega, i1.kept hg (fun g e => by have := hrow g e; omega), i2.kept hg (fun e => by have := hrow _ e.symm; omega), i3.kept hg (fun e => by have := hrow _ e.symm; omega), i4.kept hg (fun e => by have := hrow _ e.symm; omega), i5.kept hg (fun e => by have := hrow _ e.symm; omega),
      i6.stay local_NoOwn (grown_stay hg i0 (fun g e => by have := hrow g e; omega))⟩
  refine (each_own (lrep reg ⟨vk, vn, vb⟩) (fun _ => rfl) bs' w6 (.string nm') (.slice pp' pn' pc') (.int .i64 rt') bp' bn' bc' 59 _ d w5.heap.size (by omega) _ enters_r1 ho7 ⟨by omega, P6, F6, R6, V6, Z6, ho6⟩
    (fun w c t hh hE => hK w _ none (fun g e => by cases e) (World.grownBy_alloc w _ none) hE)
    (fun x a b p0 p1 p2 w hh hla hbh hx hE => rep1_own d w5.heap.size a (W.heap.size + 1) (W.heap.size + 1 + 1) (by omega) (by omega) reg ⟨vk, vn, vb⟩ W _ (fun w hE => ⟨hE.2.2.2.1, hE.2.2.2.2.1⟩) hK x a b p0 p1 p2 w hh hla hbh hx hE)).mono ?_
  rintro e w7 ⟨rfl, hh7, ⟨j0, P7, F7, R7, V7, Z7, ho8⟩, ho9⟩
  have b0 := F7.get 0 _ rfl
  have b1 := F7.get 1 _ rfl
  have b2 := F7.get 2 _ rfl
  have b3 := F7.get 3 _ rfl
  have c0 := Z7.get 0 _ rfl
  have c1 := Z7.get 1 _ rfl
  have c2 := Z7.get 2 _ rfl
  have c3 := Z7.get 3 _ rfl
  have cf := Z7.2.1
  go_wp2_with fail
  have Z8 := (((Z7.set 0 (.string nm')).set 1 (.slice pp' pn' pc')).set 2 (.int .i64 rt')).set 3 (.slice bp' bn' bc')
  have f0 := Z8.get 0 _ rfl
  have f1 := Z8.get 1 _ rfl
  have f2 := Z8.get 2 _ rfl
  have f3 := Z8.get 3 _ rfl
  have st8 : Stay w4.heap.size w5.heap.size w7 ((((w7.setCell ⟨W.heap.size + 1 + 1 + 1, 0, none⟩ (.string nm')).setCell ⟨W.heap.size + 1 + 1 + 1, 1, none⟩ (.slice pp' pn' pc')).setCell ⟨W.heap.size + 1 + 1 + 1, 2, none⟩ (.int .i64 rt')).setCell ⟨W.heap.size + 1 + 1 + 1, 3, none⟩ (.slice bp' bn' bc')) :=
    fun k h1 h2 => (Below.heap_setCell _ _ _ _ (by dsimp only; omega)).trans ((Below.heap_setCell _ _ _ _ (by dsimp only; omega)).trans ((Below.heap_setCell _ _ _ _ (by dsimp only; omega)).trans (Below.heap_setCell _ _ _ _ (by dsimp only; omega))))
  have l8 : ((((w7.setCell ⟨W.heap.size + 1 + 1 + 1, 0, none⟩ (.string nm')).setCell ⟨W.heap.size + 1 + 1 + 1, 1, none⟩ (.slice pp' pn' pc')).setCell ⟨W.heap.size + 1 + 1 + 1, 2, none⟩ (.int .i64 rt')).setCell ⟨W.heap.size + 1 + 1 + 1, 3, none⟩ (.slice bp' bn' bc')).heap.size = w7.heap.size := by simp [World.setCell]
  have P8 := (((P7.set (a := ⟨W.heap.size + 1 + 1 + 1, 0, none⟩) (by dsimp only; omega) (.string nm')).set (a := ⟨W.heap.size + 1 + 1 + 1, 1, none⟩) (by dsimp only; omega) (.slice pp' pn' pc')).set (a := ⟨W.heap.size + 1 + 1 + 1, 2, none⟩) (by dsimp only; omega) (.int .i64 rt')).set (a := ⟨W.heap.size + 1 + 1 + 1, 3, none⟩) (by dsimp only; omega) (.slice bp' bn' bc')
  refine bodyPost_ret (v := .agg #[.string nm', .slice pp' pn' pc', .int .i64 rt', .slice bp' bn' bc']) (by simp [results, Try.results34, go_sem, f0, f1, f2, f3]) rfl ⟨⟨nm', pp', pn', pc', ps', rt', bp', bn', bc', bs'.map fun c => { c with code := c.code.map (lrep reg ⟨vk, vn, vb⟩) }⟩, rfl, ?_, P8, d, ?_, ?_⟩
  · have e := hdy
    unfold fnD at e ⊢
    simp only [PFn.mk.injEq] at e
    obtain ⟨e1, e2, e3, e4⟩ := e
    unfold repF
    simp only [rep_data, e1, e2, e3, e4]
  · obtain ⟨o1, o2, o3, o4⟩ := ho8.stay local_NoOwn (st8.mono (Nat.le_refl _) (by omega))
    exact ⟨o1, o2.mono (by omega), o3, o4.down (by omega)⟩
  · rw [l8]
    obtain ⟨o1, o2, o3, o4⟩ := ho9.stay local_Blk (st8.mono (by omega) (Nat.le_refl _))
    exact ⟨o1, o2, fun g hg => by have := o3 g hg; omega, o4.up hh7⟩
end Go.Proofs.Ytpfeiolmkbibiaa
