/- How the modules of the program lie in memory; package ir's walk over all instructions. -/
import Derived.Test.YtpfeiolmkbibiaaProg
import Derived.WalkKit
import Derived.Below
import Derived.Lib.Hide
import Derived.Deep.LoopGhost
namespace Go.Proofs.Ytpfeiolmkbibiaa
open Go.RowKit
set_option linter.unusedVariables false
set_option linter.unusedSimpArgs false

/-- An operand. -/
structure Arg where
  kind : Int
  n : Int
  bits : Int
/-- An instruction: its five numbers, the values of its two lists, and its operands. -/
structure Ins where
  op : Int
  reg : Int
  ty : Int
  n : Int
  fl : Int
  ap : Option Addr
  al : Nat
  ac : Nat
  tp : Option Addr
  tl : Nat
  tc : Nat
  args : List Arg
def Ins.val (d : Ins) : Value := .agg #[.int .i64 d.op, .int .i64 d.reg, .int .i64 d.ty, .int .i64 d.n, .int .i64 d.fl, .slice d.ap d.al d.ac, .slice d.tp d.tl d.tc]
theorem add_block (a : Addr) (n : Nat) : (a.add n).block = a.block := by unfold Addr.add; split <;> rfl
/-- Its seven cells. -/
def InsAt (w : World) (a : Addr) (d : Ins) : Prop :=
  w.cell? a = some (.int .i64 d.op) ∧ w.cell? ⟨a.block, a.off + 1, none⟩ = some (.int .i64 d.reg) ∧ w.cell? ⟨a.block, a.off + 2, none⟩ = some (.int .i64 d.ty) ∧ w.cell? ⟨a.block, a.off + 3, none⟩ = some (.int .i64 d.n) ∧
  w.cell? ⟨a.block, a.off + 4, none⟩ = some (.int .i64 d.fl) ∧ w.cell? ⟨a.block, a.off + 5, none⟩ = some (.slice d.ap d.al d.ac) ∧ w.cell? ⟨a.block, a.off + 6, none⟩ = some (.slice d.tp d.tl d.tc)
theorem InsAt.below {B : Nat} {W w : World} {a : Addr} {d : Ins} (h : InsAt W a d) (hb : Below B W w) (ha : a.block < B) : InsAt w a d := by
  obtain ⟨h0, h1, h2, h3, h4, h5, h6⟩ := h
  exact ⟨(hb.cell ha).trans h0, (hb.cell (p := ⟨a.block, a.off + 1, none⟩) ha).trans h1, (hb.cell (p := ⟨a.block, a.off + 2, none⟩) ha).trans h2, (hb.cell (p := ⟨a.block, a.off + 3, none⟩) ha).trans h3,
    (hb.cell (p := ⟨a.block, a.off + 4, none⟩) ha).trans h4, (hb.cell (p := ⟨a.block, a.off + 5, none⟩) ha).trans h5, (hb.cell (p := ⟨a.block, a.off + 6, none⟩) ha).trans h6⟩
/-- A list of instructions, in blocks below B. -/
def CodeAt (B : Nat) (w : World) (s : Value) (l : List Ins) : Prop :=
  ∃ (p : Option Addr) (cap : Nat), s = .slice p l.length cap ∧ l.length ≤ cap ∧ cap ≤ maxLen ∧ ∀ i (h : i < l.length), ∃ a, p = some a ∧ a.block < B ∧ InsAt w (a.add (i * 7)) l[i]
def BlocksAt (B : Nat) (w : World) (s : Value) (l : List (List Ins)) : Prop :=
  ∃ (p : Option Addr) (cap : Nat), s = .slice p l.length cap ∧ l.length ≤ cap ∧ cap ≤ maxLen ∧ ∀ i (h : i < l.length), ∃ a v, p = some a ∧ a.block < B ∧ w.cell? (a.add i) = some v ∧ CodeAt B w v l[i]

set_option maxHeartbeats 1000000 in
theorem each_any (B : Nat) (l : List (List Ins)) (W : World) (nm pa rt bl : Value) (hB : B ≤ W.heap.size) (hl : BlocksAt B W bl l) (g : FuncId) (caps : Array Value) (Inv : Nat → Nat → World → Prop)
    (hen : ∀ (args : Array Value) (w : World), (callFunc g args).run Try.prog w = .ok (.enter g args) w)
    (h0 : Inv 0 0 W) (hnext : ∀ b (h : b < l.length) w, Inv b l[b].length w → Inv (b + 1) 0 w) (halloc : ∀ b k w c t, B ≤ w.heap.size → Inv b k w → Inv b k (w.alloc (.cells c t)))
    (hstep : ∀ b k (hb : b < l.length) (hk : k < l[b].length) w, B ≤ w.heap.size → Inv b k w → Calls Try.prog g (#[.agg #[.int .i64 0, .int .i64 b, .int .i64 k], l[b][k].val] ++ caps) w fun e w' => e = .returned (.tuple #[]) ∧ Below B w w' ∧ Inv b (k + 1) w') :
    Calls Try.prog 51 #[.agg #[nm, pa, rt, bl], .func (.func g) #[] caps] W fun e w' => e = .returned (.tuple #[]) ∧ Below B W w' ∧ Inv l.length 0 w' := by
  obtain ⟨p, cap, rfl, hc1, hc2, hbl⟩ := hl
  unfold maxLen at hc2
  have HBL := Lib.hid hbl
  have HS := Lib.hid hstep
  have HN := Lib.hid hnext
  have HA := Lib.hid halloc
  have H0 := Lib.hid h0
  clear hbl hstep hnext halloc h0
  go_enter Try.func51, Try.ntmps51
  go_wp2_with fail
  have b0 : Below B W (W.alloc (.cells #[nm, pa, rt, .slice p l.length cap] 41)) := (Below.refl _ _).alloc hB _
  have i0 : Inv 0 0 (W.alloc (.cells #[nm, pa, rt, .slice p l.length cap] 41)) := HA.out 0 0 W _ _ hB H0.out
  go_loopw [11] (fun t wr => ∃ b : Nat, b ≤ l.length ∧ t = .int .i64 b ∧ Below B W wr ∧ Inv b 0 wr) (fun t _ => l.length - (intOf t).toNat)
  case atStart => exact ⟨0, Nat.zero_le _, rfl, b0, i0⟩
  case round =>
    obtain ⟨b, hb, rfl, hbe, hI⟩ := hrel
    have hBr : B ≤ wr.heap.size := Nat.le_trans hB hbe.size
    by_cases hlt : b < l.length
    · obtain ⟨a, v, rfl, hab, hcell, hcode⟩ := HBL.out b hlt
      obtain ⟨p2, cap2, rfl, hd1, hd2, hcd⟩ := hcode
      unfold maxLen at hd2
      have c1 : wr.cell? (a.add b) = some (.slice p2 l[b].length cap2) := (hbe.cell (p := a.add b) (by rw [add_block]; exact hab)).trans hcell
      have HCD := Lib.hid hcd
      have b1 := hbe.alloc hBr (.cells #[.slice p2 l[b].length cap2] 67)
      have i1 := HA.out b 0 wr #[.slice p2 l[b].length cap2] 67 hBr hI
      clear hcd hcell
      go_wp2_with fail
      go_loopw [19] (fun t wi => ∃ k : Nat, k ≤ l[b].length ∧ t = .int .i64 k ∧ Below B W wi ∧ Inv b k wi) (fun t _ => l[b].length - (intOf t).toNat)
      case atStart => exact ⟨0, Nat.zero_le _, rfl, b1, i1⟩
      case round =>
        obtain ⟨k, hk, rfl, hbi, hJ⟩ := hrel
        have hBi : B ≤ wr.heap.size := Nat.le_trans hB hbi.size
        by_cases hkl : k < l[b].length
        · obtain ⟨a2, rfl, ha2, hins⟩ := HCD.out k hkl
          obtain ⟨f0, f1, f2, f3, f4, f5, f6⟩ := hins.below hbi (by rw [add_block]; exact ha2)
          clear hins
          have hst := HS.out b k hlt hkl
          have i2 := HA.out b k wr #[.int .i64 l[b][k].op, .int .i64 l[b][k].reg, .int .i64 l[b][k].ty, .int .i64 l[b][k].n, .int .i64 l[b][k].fl, .slice l[b][k].ap l[b][k].al l[b][k].ac, .slice l[b][k].tp l[b][k].tl l[b][k].tc] 25 hBi hJ
          have b2 := hbi.alloc hBi (.cells #[.int .i64 l[b][k].op, .int .i64 l[b][k].reg, .int .i64 l[b][k].ty, .int .i64 l[b][k].n, .int .i64 l[b][k].fl, .slice l[b][k].ap l[b][k].al l[b][k].ac, .slice l[b][k].tp l[b][k].tl l[b][k].tc] 25)
          have HST := Lib.hid hst
          clear hst
          have hB2 : B ≤ (wr.alloc (.cells #[.int .i64 l[b][k].op, .int .i64 l[b][k].reg, .int .i64 l[b][k].ty, .int .i64 l[b][k].n, .int .i64 l[b][k].fl, .slice l[b][k].ap l[b][k].al l[b][k].ac, .slice l[b][k].tp l[b][k].tl l[b][k].tc] 25)).heap.size := Nat.le_trans hB b2.size
          go_wp2_with fail
          refine (HST.out _ hB2 i2).mono ?_
          rintro e w2 ⟨rfl, hb2, hI2⟩
          go_wp2
          exact ⟨⟨k + 1, by omega, by go_num, b2.trans hb2, hI2⟩, by simp [intOf]; omega⟩
        · go_wp2_with fail
          obtain rfl : k = l[b].length := by omega
          have i3 := HN.out b hlt wr hJ
          refine ⟨⟨b + 1, by omega, by go_num, hbi, i3⟩, by simp [intOf]; omega⟩
    · go_wp2_with fail
      obtain rfl : b = l.length := by omega
      go_end0
      exact ⟨rfl, hbe, hI⟩
end Go.Proofs.Ytpfeiolmkbibiaa
