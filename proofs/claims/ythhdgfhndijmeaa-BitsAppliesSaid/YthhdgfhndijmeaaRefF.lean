/- Contract of the document's answers (package latheref01): Times. -/
import Derived.Test.YthhdgfhndijmeaaRefE
namespace Go.Proofs.Ythhdgfhndijmeaa
open Go.RowKit
set_option linter.unusedVariables false
set_option linter.unusedSimpArgs false

theorem Plus_pos (a b c d : Int) (W : World) (ha : 0 ≤ a) (hb : 0 ≤ b) (hc : 0 ≤ c) (hd : 0 ≤ d) (hb' : b ≤ 18446744073709551615) (hd' : d ≤ 18446744073709551615) (Z hi lo : Int)
    (hZ : a * 18446744073709551616 + b + (c * 18446744073709551616 + d) = Z) (h : Z < 340282366920938463463374607431768211456) (hh : Z / 18446744073709551616 = hi) (hl : Z % 18446744073709551616 = lo) :
    Calls Try.prog 51 #[.agg #[.int .u64 a, .int .u64 b, .bool false], .agg #[.int .u64 c, .int .u64 d, .bool false]] W fun e w' =>
      e = .returned (.agg #[.int .u64 hi, .int .u64 lo, .bool false]) ∧ Kept W w' := by
  refine (Plus_same a b c d false W ha hb hc hd hb' hd' (by omega)).mono fun e w' ⟨he, hw⟩ => ⟨?_, hw⟩
  rw [he]
  refine congrArg Ending.returned (agg3 ?_ ?_ rfl)
  · split <;> omega
  · split <;> omega
theorem build_h (w : World) (hi : Int) : (Instr.build 46 #[(0, .int .u64 hi)]).run Try.prog w = .ok (.agg #[.int .u64 hi, .int .u64 0, .bool false]) w := run_build _ _ _ _ (by kernel_rfl)
theorem build_hl (w : World) (hi lo : Int) : (Instr.build 46 #[(0, .int .u64 hi), (1, .int .u64 lo)]).run Try.prog w = .ok (.agg #[.int .u64 hi, .int .u64 lo, .bool false]) w := run_build _ _ _ _ (by kernel_rfl)

/-- As met2, with no draw. -/
theorem met2n {L w1 : World} {n : Nat} (Z0 Z1 Z2 A B C : Value) (hn : n = L.heap.size) (h : Kept (L.alloc (.cells #[Z0, Z1, Z2] 46)) w1) :
    n < (((w1.setCell ⟨n, 0, none⟩ A).setCell ⟨n, 1, none⟩ B).setCell ⟨n, 2, none⟩ C).heap.size ∧ (((w1.setCell ⟨n, 0, none⟩ A).setCell ⟨n, 1, none⟩ B).setCell ⟨n, 2, none⟩ C).cell? ⟨n, 0, none⟩ = some A ∧
      (((w1.setCell ⟨n, 0, none⟩ A).setCell ⟨n, 1, none⟩ B).setCell ⟨n, 2, none⟩ C).cell? ⟨n, 1, none⟩ = some B ∧ (((w1.setCell ⟨n, 0, none⟩ A).setCell ⟨n, 1, none⟩ B).setCell ⟨n, 2, none⟩ C).cell? ⟨n, 2, none⟩ = some C ∧
      Kept L (((w1.setCell ⟨n, 0, none⟩ A).setCell ⟨n, 1, none⟩ B).setCell ⟨n, 2, none⟩ C) :=
  met2 Z0 Z1 Z2 A B C hn ⟨⟨h.1.os, h.1.tape, h.1.output, h.1.size, h.1.block⟩, h.2⟩
theorem met1f {w1 : World} (c : Array Value) (i : Nat) : (w1.alloc (.cells c 46)).frozen? ⟨w1.heap.size, i, none⟩ = false := World.frozen?_alloc_at _ _ _ _ rfl
theorem met2f {L w1 : World} {n : Nat} (c : Array Value) (A B C : Value) (hn : n = L.heap.size) (h : Kept (L.alloc (.cells c 46)) w1) (i : Nat) :
    (((w1.setCell ⟨n, 0, none⟩ A).setCell ⟨n, 1, none⟩ B).setCell ⟨n, 2, none⟩ C).frozen? ⟨n, i, none⟩ = false := by
  simp only [World.frozen?_setCell]
  rw [(bcell h).2 _ _ (by simp; omega)]
  exact World.frozen?_alloc_at _ _ _ _ hn

theorem prod_bd {a b : Int} (ha : 0 ≤ a) (ha' : a ≤ 4294967295) (hb : 0 ≤ b) (hb' : b ≤ 4294967295) : 0 ≤ a * b ∧ a * b ≤ 18446744065119617025 := by
  refine ⟨Int.mul_nonneg ha hb, ?_⟩
  have h1 := Int.mul_le_mul_of_nonneg_left hb' ha
  omega

set_option maxHeartbeats 3200000 in
theorem Times_raw (a x c y p q r s H1 L1 mh ml T U z' : Int) (b1 b2 z : Bool) (W : World) (hx : 0 ≤ x) (hx' : x ≤ 18446744073709551615) (hy : 0 ≤ y) (hy' : y ≤ 18446744073709551615)
    (ep : x / 4294967296 = p) (eq : x % 4294967296 = q) (er : y / 4294967296 = r) (es : y % 4294967296 = s)
    (k1 : 0 ≤ q * s) (k1' : q * s ≤ 18446744073709551615) (k2 : 0 ≤ p * s) (k2' : p * s ≤ 18446744073709551615) (k3 : 0 ≤ q * r) (k3' : q * r ≤ 18446744073709551615) (k4 : 0 ≤ p * r) (k4' : p * r ≤ 18446744073709551615)
    (m0 : 0 ≤ mh) (m1 : mh ≤ 1) (m2 : 0 ≤ ml) (m3 : ml ≤ 18446744073709551615) (eH : mh * 4294967296 + ml / 4294967296 = H1) (eL : ml % 4294967296 * 4294967296 = L1)
    (c1 : ∀ W, Calls Try.prog 51 #[.agg #[.int .u64 0, .int .u64 (p * s), .bool false], .agg #[.int .u64 0, .int .u64 (q * r), .bool false]] W fun e w' => e = .returned (.agg #[.int .u64 mh, .int .u64 ml, .bool false]) ∧ Kept W w')
    (c2 : ∀ W, Calls Try.prog 51 #[.agg #[.int .u64 0, .int .u64 (q * s), .bool false], .agg #[.int .u64 H1, .int .u64 L1, .bool false]] W fun e w' => e = .returned (.agg #[.int .u64 T, .int .u64 U, .bool false]) ∧ Kept W w')
    (c3 : ∀ W, Calls Try.prog 51 #[.agg #[.int .u64 T, .int .u64 U, .bool false], .agg #[.int .u64 (p * r), .int .u64 0, .bool false]] W fun e w' => e = .returned (.agg #[.int .u64 (x * y / 18446744073709551616), .int .u64 (x * y % 18446744073709551616), .bool false]) ∧ Kept W w')
    (c4 : ∀ W, Calls Try.prog 59 #[.agg #[.int .u64 (x * y / 18446744073709551616), .int .u64 (x * y % 18446744073709551616), .bool (b1 != b2)]] W fun e w' => e = .returned (.agg #[.int .u64 (x * y / 18446744073709551616), .int .u64 (x * y % 18446744073709551616), .bool z]) ∧ Kept W w') :
    Calls Try.prog 58 #[.agg #[.int .u64 a, .int .u64 x, .bool b1], .agg #[.int .u64 c, .int .u64 y, .bool b2]] W fun e w' =>
      e = .returned (.agg #[.int .u64 (x * y / 18446744073709551616), .int .u64 (x * y % 18446744073709551616), .bool z]) ∧ Kept W w' := by
  generalize x * y / 18446744073709551616 = XH at *
  generalize x * y % 18446744073709551616 = XL at *
  have hbl := build_lo
  have hbh := build_h
  have hbhl := build_hl
  go_enter Try.func58, Try.ntmps58
  go_upto_region 9 with ((with_reducible refine (c1 _).mono ?_); rintro e w1 ⟨rfl, hb1⟩; have hz1 := hb1.1.size; simp at hz1; obtain ⟨hc1, hf1⟩ := bcell hb1)
  have past : ∀ b o, b < w1.heap.size → (((w1.alloc (.cells #[.int .u64 mh, .int .u64 ml, .bool false] 46)).alloc (.cells #[.int .u64 (p * r), .int .u64 0, .bool false] 46)).alloc (.cells #[.int .u64 H1, .int .u64 L1, .bool false] 46)).cell? ⟨b, o, none⟩ = w1.cell? ⟨b, o, none⟩ := fun b o h => by
    rw [World.cell?_alloc_past _ _ _ (by simp <;> omega), World.cell?_alloc_past _ _ _ (by simp <;> omega), World.cell?_alloc_past _ _ _ h]
  have pastf : ∀ b o, b < w1.heap.size → (((w1.alloc (.cells #[.int .u64 mh, .int .u64 ml, .bool false] 46)).alloc (.cells #[.int .u64 (p * r), .int .u64 0, .bool false] 46)).alloc (.cells #[.int .u64 H1, .int .u64 L1, .bool false] 46)).frozen? ⟨b, o, none⟩ = w1.frozen? ⟨b, o, none⟩ := fun b o h => by
    exact ((((Kept.refl w1).alloc _ _).alloc _ _).alloc _ _).1.frozen (p := ⟨b, o, none⟩) h
  have i0 : (((w1.alloc (.cells #[.int .u64 mh, .int .u64 ml, .bool false] 46)).alloc (.cells #[.int .u64 (p * r), .int .u64 0, .bool false] 46)).alloc (.cells #[.int .u64 H1, .int .u64 L1, .bool false] 46)).cell? ⟨W.heap.size + 1 + 1 + 1, 0, none⟩ = some (.int .u64 0) := by rw [past _ _ (by omega), hc1 _ _ (by simp <;> omega)]; go_simp
  have i1 : (((w1.alloc (.cells #[.int .u64 mh, .int .u64 ml, .bool false] 46)).alloc (.cells #[.int .u64 (p * r), .int .u64 0, .bool false] 46)).alloc (.cells #[.int .u64 H1, .int .u64 L1, .bool false] 46)).cell? ⟨W.heap.size + 1 + 1 + 1, 1, none⟩ = some (.int .u64 (q * s)) := by rw [past _ _ (by omega), hc1 _ _ (by simp <;> omega)]; go_simp
  have i2 : (((w1.alloc (.cells #[.int .u64 mh, .int .u64 ml, .bool false] 46)).alloc (.cells #[.int .u64 (p * r), .int .u64 0, .bool false] 46)).alloc (.cells #[.int .u64 H1, .int .u64 L1, .bool false] 46)).cell? ⟨W.heap.size + 1 + 1 + 1, 2, none⟩ = some (.bool false) := by rw [past _ _ (by omega), hc1 _ _ (by simp <;> omega)]; go_simp
  have i3 : (((w1.alloc (.cells #[.int .u64 mh, .int .u64 ml, .bool false] 46)).alloc (.cells #[.int .u64 (p * r), .int .u64 0, .bool false] 46)).alloc (.cells #[.int .u64 H1, .int .u64 L1, .bool false] 46)).cell? ⟨W.heap.size, 2, none⟩ = some (.bool b1) := by rw [past _ _ (by omega), hc1 _ _ (by simp <;> omega)]; go_simp
  have i4 : (((w1.alloc (.cells #[.int .u64 mh, .int .u64 ml, .bool false] 46)).alloc (.cells #[.int .u64 (p * r), .int .u64 0, .bool false] 46)).alloc (.cells #[.int .u64 H1, .int .u64 L1, .bool false] 46)).cell? ⟨W.heap.size + 1, 2, none⟩ = some (.bool b2) := by rw [past _ _ (by omega), hc1 _ _ (by simp <;> omega)]; go_simp
  have i5 : (((w1.alloc (.cells #[.int .u64 mh, .int .u64 ml, .bool false] 46)).alloc (.cells #[.int .u64 (p * r), .int .u64 0, .bool false] 46)).alloc (.cells #[.int .u64 H1, .int .u64 L1, .bool false] 46)).cell? ⟨W.heap.size + 1 + 1, 0, none⟩ = some (.int .u64 0) := by rw [past _ _ (by omega), hc1 _ _ (by simp <;> omega)]; go_simp
  have i6 : (((w1.alloc (.cells #[.int .u64 mh, .int .u64 ml, .bool false] 46)).alloc (.cells #[.int .u64 (p * r), .int .u64 0, .bool false] 46)).alloc (.cells #[.int .u64 H1, .int .u64 L1, .bool false] 46)).cell? ⟨W.heap.size + 1 + 1, 1, none⟩ = some (.int .u64 0) := by rw [past _ _ (by omega), hc1 _ _ (by simp <;> omega)]; go_simp
  have i7 : (((w1.alloc (.cells #[.int .u64 mh, .int .u64 ml, .bool false] 46)).alloc (.cells #[.int .u64 (p * r), .int .u64 0, .bool false] 46)).alloc (.cells #[.int .u64 H1, .int .u64 L1, .bool false] 46)).cell? ⟨W.heap.size + 1 + 1, 2, none⟩ = some (.bool false) := by rw [past _ _ (by omega), hc1 _ _ (by simp <;> omega)]; go_simp
  have j0 : (((w1.alloc (.cells #[.int .u64 mh, .int .u64 ml, .bool false] 46)).alloc (.cells #[.int .u64 (p * r), .int .u64 0, .bool false] 46)).alloc (.cells #[.int .u64 H1, .int .u64 L1, .bool false] 46)).cell? ⟨w1.heap.size + 1, 0, none⟩ = some (.int .u64 (p * r)) := by go_simp
  have j1 : (((w1.alloc (.cells #[.int .u64 mh, .int .u64 ml, .bool false] 46)).alloc (.cells #[.int .u64 (p * r), .int .u64 0, .bool false] 46)).alloc (.cells #[.int .u64 H1, .int .u64 L1, .bool false] 46)).cell? ⟨w1.heap.size + 1, 1, none⟩ = some (.int .u64 0) := by go_simp
  have j2 : (((w1.alloc (.cells #[.int .u64 mh, .int .u64 ml, .bool false] 46)).alloc (.cells #[.int .u64 (p * r), .int .u64 0, .bool false] 46)).alloc (.cells #[.int .u64 H1, .int .u64 L1, .bool false] 46)).cell? ⟨w1.heap.size + 1, 2, none⟩ = some (.bool false) := by go_simp
  have j3 : (((w1.alloc (.cells #[.int .u64 mh, .int .u64 ml, .bool false] 46)).alloc (.cells #[.int .u64 (p * r), .int .u64 0, .bool false] 46)).alloc (.cells #[.int .u64 H1, .int .u64 L1, .bool false] 46)).cell? ⟨w1.heap.size + 1 + 1, 0, none⟩ = some (.int .u64 H1) := by go_simp
  have j4 : (((w1.alloc (.cells #[.int .u64 mh, .int .u64 ml, .bool false] 46)).alloc (.cells #[.int .u64 (p * r), .int .u64 0, .bool false] 46)).alloc (.cells #[.int .u64 H1, .int .u64 L1, .bool false] 46)).cell? ⟨w1.heap.size + 1 + 1, 1, none⟩ = some (.int .u64 L1) := by go_simp
  have j5 : (((w1.alloc (.cells #[.int .u64 mh, .int .u64 ml, .bool false] 46)).alloc (.cells #[.int .u64 (p * r), .int .u64 0, .bool false] 46)).alloc (.cells #[.int .u64 H1, .int .u64 L1, .bool false] 46)).cell? ⟨w1.heap.size + 1 + 1, 2, none⟩ = some (.bool false) := by go_simp
  have y0 : ∀ i, (((w1.alloc (.cells #[.int .u64 mh, .int .u64 ml, .bool false] 46)).alloc (.cells #[.int .u64 (p * r), .int .u64 0, .bool false] 46)).alloc (.cells #[.int .u64 H1, .int .u64 L1, .bool false] 46)).frozen? ⟨W.heap.size + 1 + 1, i, none⟩ = false := fun i => by rw [pastf _ _ (by omega), hf1 _ _ (by simp <;> omega)]; go_simp
  have kL : Kept W (((w1.alloc (.cells #[.int .u64 mh, .int .u64 ml, .bool false] 46)).alloc (.cells #[.int .u64 (p * r), .int .u64 0, .bool false] 46)).alloc (.cells #[.int .u64 H1, .int .u64 L1, .bool false] 46)) := (((((((Kept.refl W).alloc _ _).alloc _ _).alloc _ _).alloc _ _).trans hb1).alloc _ _).alloc _ _ |>.alloc _ _
  have sL1 : (((w1.alloc (.cells #[.int .u64 mh, .int .u64 ml, .bool false] 46)).alloc (.cells #[.int .u64 (p * r), .int .u64 0, .bool false] 46)).alloc (.cells #[.int .u64 H1, .int .u64 L1, .bool false] 46)).heap.size ≤ w1.heap.size + 3 := by simp
  have sL2 : w1.heap.size + 3 ≤ (((w1.alloc (.cells #[.int .u64 mh, .int .u64 ml, .bool false] 46)).alloc (.cells #[.int .u64 (p * r), .int .u64 0, .bool false] 46)).alloc (.cells #[.int .u64 H1, .int .u64 L1, .bool false] 46)).heap.size := by simp
  clear past pastf hc1 hf1
  generalize hL : (((w1.alloc (.cells #[.int .u64 mh, .int .u64 ml, .bool false] 46)).alloc (.cells #[.int .u64 (p * r), .int .u64 0, .bool false] 46)).alloc (.cells #[.int .u64 H1, .int .u64 L1, .bool false] 46)) = wl at *
  clear hL
  have dr : ∀ a, wl.drew.cell? a = wl.cell? a := fun _ => rfl
  go_cut [13] (fun s13 wx => ∃ g : Nat, s13 = .pointer (some ⟨g, 0, none⟩) ∧ w1.heap.size < g ∧ (∀ i, wx.frozen? ⟨g, i, none⟩ = false) ∧ g < wx.heap.size ∧ wx.cell? ⟨g, 0, none⟩ = some (.int .u64 XH) ∧ wx.cell? ⟨g, 1, none⟩ = some (.int .u64 XL) ∧ wx.cell? ⟨g, 2, none⟩ = some (.bool false) ∧ Kept wl wx)
  case first =>
    go_region_held3 (fun w' => w'.cell? ⟨W.heap.size + 1 + 1 + 1, 0, none⟩ = some (.int .u64 0) ∧ w'.cell? ⟨W.heap.size + 1 + 1 + 1, 1, none⟩ = some (.int .u64 (q * s)) ∧ w'.cell? ⟨W.heap.size + 1 + 1 + 1, 2, none⟩ = some (.bool false) ∧ w'.cell? ⟨w1.heap.size + 1 + 1, 0, none⟩ = some (.int .u64 H1) ∧ w'.cell? ⟨w1.heap.size + 1 + 1, 1, none⟩ = some (.int .u64 L1) ∧ w'.cell? ⟨w1.heap.size + 1 + 1, 2, none⟩ = some (.bool false) ∧ w'.cell? ⟨w1.heap.size + 1, 0, none⟩ = some (.int .u64 (p * r)) ∧ w'.cell? ⟨w1.heap.size + 1, 1, none⟩ = some (.int .u64 0) ∧ w'.cell? ⟨w1.heap.size + 1, 2, none⟩ = some (.bool false))
      (((try dsimp only); (repeat' apply And.intro) <;> (first | (with_reducible assumption) | (rw [dr]; with_reducible assumption) | (rw [World.cell?_drew, World.cell?_alloc_past _ _ _ (by omega)]; with_reducible assumption) | (rw [World.cell?_alloc_past _ _ _ (by omega)]; with_reducible assumption) | (rw [World.cell?_setCell_far _ _ _ _ (by dsimp only; omega), World.cell?_setCell_far _ _ _ _ (by dsimp only; omega), World.cell?_setCell_far _ _ _ _ (by dsimp only; omega)]; with_reducible assumption))))
      (first
        | (go_at_call 51; (with_reducible refine (c2 _).mono ?_); rintro e w2 ⟨rfl, hb2⟩
           have hz2 := hb2.1.size
           (try simp at hz2)
           obtain ⟨hc2, hf2⟩ := bcell hb2
           try (have z0 : w2.cell? ⟨wl.heap.size, 0, none⟩ = some (.int .u64 0) := by rw [hc2 _ _ (by simp <;> omega), World.cell?_drew, World.cell?_alloc_at _ _ _ _ rfl]; rfl)
           try (have z1 : w2.cell? ⟨wl.heap.size, 1, none⟩ = some (.int .u64 0) := by rw [hc2 _ _ (by simp <;> omega), World.cell?_drew, World.cell?_alloc_at _ _ _ _ rfl]; rfl)
           try (have z2 : w2.cell? ⟨wl.heap.size, 2, none⟩ = some (.bool false) := by rw [hc2 _ _ (by simp <;> omega), World.cell?_drew, World.cell?_alloc_at _ _ _ _ rfl]; rfl)
           try (have zf : ∀ i, w2.frozen? ⟨wl.heap.size, i, none⟩ = false := fun i => by rw [hf2 _ _ (by simp <;> omega)]; exact World.frozen?_alloc_at _ _ _ _ rfl)
           have f0 : w2.cell? ⟨W.heap.size + 1 + 1 + 1, 0, none⟩ = some (.int .u64 0) := by rw [hc2 _ _ (by first | omega | (simp <;> omega))]; first | (with_reducible assumption) | (rw [dr]; with_reducible assumption) | (rw [World.cell?_drew, World.cell?_alloc_past _ _ _ (by omega)]; with_reducible assumption) | (rw [World.cell?_alloc_past _ _ _ (by omega)]; with_reducible assumption)
           have f1 : w2.cell? ⟨W.heap.size + 1 + 1 + 1, 1, none⟩ = some (.int .u64 (q * s)) := by rw [hc2 _ _ (by first | omega | (simp <;> omega))]; first | (with_reducible assumption) | (rw [dr]; with_reducible assumption) | (rw [World.cell?_drew, World.cell?_alloc_past _ _ _ (by omega)]; with_reducible assumption) | (rw [World.cell?_alloc_past _ _ _ (by omega)]; with_reducible assumption)
           have f2 : w2.cell? ⟨W.heap.size + 1 + 1 + 1, 2, none⟩ = some (.bool false) := by rw [hc2 _ _ (by first | omega | (simp <;> omega))]; first | (with_reducible assumption) | (rw [dr]; with_reducible assumption) | (rw [World.cell?_drew, World.cell?_alloc_past _ _ _ (by omega)]; with_reducible assumption) | (rw [World.cell?_alloc_past _ _ _ (by omega)]; with_reducible assumption)
           have f3 : w2.cell? ⟨w1.heap.size + 1 + 1, 0, none⟩ = some (.int .u64 H1) := by rw [hc2 _ _ (by first | omega | (simp <;> omega))]; first | (with_reducible assumption) | (rw [dr]; with_reducible assumption) | (rw [World.cell?_drew, World.cell?_alloc_past _ _ _ (by omega)]; with_reducible assumption) | (rw [World.cell?_alloc_past _ _ _ (by omega)]; with_reducible assumption)
           have f4 : w2.cell? ⟨w1.heap.size + 1 + 1, 1, none⟩ = some (.int .u64 L1) := by rw [hc2 _ _ (by first | omega | (simp <;> omega))]; first | (with_reducible assumption) | (rw [dr]; with_reducible assumption) | (rw [World.cell?_drew, World.cell?_alloc_past _ _ _ (by omega)]; with_reducible assumption) | (rw [World.cell?_alloc_past _ _ _ (by omega)]; with_reducible assumption)
           have f5 : w2.cell? ⟨w1.heap.size + 1 + 1, 2, none⟩ = some (.bool false) := by rw [hc2 _ _ (by first | omega | (simp <;> omega))]; first | (with_reducible assumption) | (rw [dr]; with_reducible assumption) | (rw [World.cell?_drew, World.cell?_alloc_past _ _ _ (by omega)]; with_reducible assumption) | (rw [World.cell?_alloc_past _ _ _ (by omega)]; with_reducible assumption)
           have f6 : w2.cell? ⟨w1.heap.size + 1, 0, none⟩ = some (.int .u64 (p * r)) := by rw [hc2 _ _ (by first | omega | (simp <;> omega))]; first | (with_reducible assumption) | (rw [dr]; with_reducible assumption) | (rw [World.cell?_drew, World.cell?_alloc_past _ _ _ (by omega)]; with_reducible assumption) | (rw [World.cell?_alloc_past _ _ _ (by omega)]; with_reducible assumption)
           have f7 : w2.cell? ⟨w1.heap.size + 1, 1, none⟩ = some (.int .u64 0) := by rw [hc2 _ _ (by first | omega | (simp <;> omega))]; first | (with_reducible assumption) | (rw [dr]; with_reducible assumption) | (rw [World.cell?_drew, World.cell?_alloc_past _ _ _ (by omega)]; with_reducible assumption) | (rw [World.cell?_alloc_past _ _ _ (by omega)]; with_reducible assumption)
           have f8 : w2.cell? ⟨w1.heap.size + 1, 2, none⟩ = some (.bool false) := by rw [hc2 _ _ (by first | omega | (simp <;> omega))]; first | (with_reducible assumption) | (rw [dr]; with_reducible assumption) | (rw [World.cell?_drew, World.cell?_alloc_past _ _ _ (by omega)]; with_reducible assumption) | (rw [World.cell?_alloc_past _ _ _ (by omega)]; with_reducible assumption)
)
        | (go_at_call 51; (with_reducible refine (c3 _).mono ?_); rintro e w3 ⟨rfl, hb3⟩
           have hz3 := hb3.1.size
           (try simp at hz3)
           obtain ⟨hc3, hf3⟩ := bcell hb3
           try (have zz0 : w3.cell? ⟨wl.heap.size, 0, none⟩ = some (.int .u64 0) := by rw [hc3 _ _ (by omega)]; exact z0)
           try (have zz1 : w3.cell? ⟨wl.heap.size, 1, none⟩ = some (.int .u64 0) := by rw [hc3 _ _ (by omega)]; exact z1)
           try (have zz2 : w3.cell? ⟨wl.heap.size, 2, none⟩ = some (.bool false) := by rw [hc3 _ _ (by omega)]; exact z2)
           try (have zzf : ∀ i, w3.frozen? ⟨wl.heap.size, i, none⟩ = false := fun i => by rw [hf3 _ _ (by omega)]; exact zf i)
           try (have zy0 : w3.cell? ⟨w2.heap.size, 0, none⟩ = some (.int .u64 0) := by rw [hc3 _ _ (by simp <;> omega), World.cell?_alloc_at _ _ _ _ rfl]; rfl)
           try (have zy1 : w3.cell? ⟨w2.heap.size, 1, none⟩ = some (.int .u64 0) := by rw [hc3 _ _ (by simp <;> omega), World.cell?_alloc_at _ _ _ _ rfl]; rfl)
           try (have zy2 : w3.cell? ⟨w2.heap.size, 2, none⟩ = some (.bool false) := by rw [hc3 _ _ (by simp <;> omega), World.cell?_alloc_at _ _ _ _ rfl]; rfl)
           try (have zyf : ∀ i, w3.frozen? ⟨w2.heap.size, i, none⟩ = false := fun i => by rw [hf3 _ _ (by simp <;> omega)]; exact World.frozen?_alloc_at _ _ _ _ rfl)
           have f0 : w3.cell? ⟨W.heap.size + 1 + 1 + 1, 0, none⟩ = some (.int .u64 0) := by rw [hc3 _ _ (by first | omega | (simp <;> omega))]; first | (with_reducible assumption) | (rw [dr]; with_reducible assumption) | (rw [World.cell?_drew, World.cell?_alloc_past _ _ _ (by omega)]; with_reducible assumption) | (rw [World.cell?_alloc_past _ _ _ (by omega)]; with_reducible assumption)
           have f1 : w3.cell? ⟨W.heap.size + 1 + 1 + 1, 1, none⟩ = some (.int .u64 (q * s)) := by rw [hc3 _ _ (by first | omega | (simp <;> omega))]; first | (with_reducible assumption) | (rw [dr]; with_reducible assumption) | (rw [World.cell?_drew, World.cell?_alloc_past _ _ _ (by omega)]; with_reducible assumption) | (rw [World.cell?_alloc_past _ _ _ (by omega)]; with_reducible assumption)
           have f2 : w3.cell? ⟨W.heap.size + 1 + 1 + 1, 2, none⟩ = some (.bool false) := by rw [hc3 _ _ (by first | omega | (simp <;> omega))]; first | (with_reducible assumption) | (rw [dr]; with_reducible assumption) | (rw [World.cell?_drew, World.cell?_alloc_past _ _ _ (by omega)]; with_reducible assumption) | (rw [World.cell?_alloc_past _ _ _ (by omega)]; with_reducible assumption)
           have f3 : w3.cell? ⟨w1.heap.size + 1 + 1, 0, none⟩ = some (.int .u64 H1) := by rw [hc3 _ _ (by first | omega | (simp <;> omega))]; first | (with_reducible assumption) | (rw [dr]; with_reducible assumption) | (rw [World.cell?_drew, World.cell?_alloc_past _ _ _ (by omega)]; with_reducible assumption) | (rw [World.cell?_alloc_past _ _ _ (by omega)]; with_reducible assumption)
           have f4 : w3.cell? ⟨w1.heap.size + 1 + 1, 1, none⟩ = some (.int .u64 L1) := by rw [hc3 _ _ (by first | omega | (simp <;> omega))]; first | (with_reducible assumption) | (rw [dr]; with_reducible assumption) | (rw [World.cell?_drew, World.cell?_alloc_past _ _ _ (by omega)]; with_reducible assumption) | (rw [World.cell?_alloc_past _ _ _ (by omega)]; with_reducible assumption)
           have f5 : w3.cell? ⟨w1.heap.size + 1 + 1, 2, none⟩ = some (.bool false) := by rw [hc3 _ _ (by first | omega | (simp <;> omega))]; first | (with_reducible assumption) | (rw [dr]; with_reducible assumption) | (rw [World.cell?_drew, World.cell?_alloc_past _ _ _ (by omega)]; with_reducible assumption) | (rw [World.cell?_alloc_past _ _ _ (by omega)]; with_reducible assumption)
           have f6 : w3.cell? ⟨w1.heap.size + 1, 0, none⟩ = some (.int .u64 (p * r)) := by rw [hc3 _ _ (by first | omega | (simp <;> omega))]; first | (with_reducible assumption) | (rw [dr]; with_reducible assumption) | (rw [World.cell?_drew, World.cell?_alloc_past _ _ _ (by omega)]; with_reducible assumption) | (rw [World.cell?_alloc_past _ _ _ (by omega)]; with_reducible assumption)
           have f7 : w3.cell? ⟨w1.heap.size + 1, 1, none⟩ = some (.int .u64 0) := by rw [hc3 _ _ (by first | omega | (simp <;> omega))]; first | (with_reducible assumption) | (rw [dr]; with_reducible assumption) | (rw [World.cell?_drew, World.cell?_alloc_past _ _ _ (by omega)]; with_reducible assumption) | (rw [World.cell?_alloc_past _ _ _ (by omega)]; with_reducible assumption)
           have f8 : w3.cell? ⟨w1.heap.size + 1, 2, none⟩ = some (.bool false) := by rw [hc3 _ _ (by first | omega | (simp <;> omega))]; first | (with_reducible assumption) | (rw [dr]; with_reducible assumption) | (rw [World.cell?_drew, World.cell?_alloc_past _ _ _ (by omega)]; with_reducible assumption) | (rw [World.cell?_alloc_past _ _ _ (by omega)]; with_reducible assumption)
))
    all_goals (go_wp2_with fail; go_meet)
    · exact ⟨_, rfl, by omega, fun i => met1f _ i, met1 _ _ _ ((Kept.of_drew hb2).trans hb3)⟩
    · have m := met2n (.int .u64 0) (.int .u64 0) (.bool false) (.int .u64 XH) (.int .u64 XL) (.bool false) rfl hb3
      exact ⟨_, rfl, by omega, fun i => met2f _ _ _ _ rfl hb3 i, m.1, m.2.1, m.2.2.1, m.2.2.2.1, (Kept.of_drew hb2).trans m.2.2.2.2⟩
    · exact ⟨_, rfl, by omega, fun i => met2f _ _ _ _ rfl (Kept.of_drew (hb2.trans hb3)) i, met2 (.int .u64 0) (.int .u64 0) (.bool false) (.int .u64 XH) (.int .u64 XL) (.bool false) rfl (hb2.trans hb3)⟩
  case rest =>
    obtain ⟨g, rfl, hg1, gf, hg2, q0, q1, q2, hk⟩ := hcut
    have kw := kL.trans hk
    obtain ⟨hc, hf⟩ := bcell hk
    have f3 : wc.cell? ⟨W.heap.size, 2, none⟩ = some (.bool b1) := by rw [hc _ _ (by omega)]; exact i3
    have f4 : wc.cell? ⟨W.heap.size + 1, 2, none⟩ = some (.bool b2) := by rw [hc _ _ (by omega)]; exact i4
    have f5 : wc.cell? ⟨W.heap.size + 1 + 1, 0, none⟩ = some (.int .u64 0) := by rw [hc _ _ (by omega)]; exact i5
    have f6 : wc.cell? ⟨W.heap.size + 1 + 1, 1, none⟩ = some (.int .u64 0) := by rw [hc _ _ (by omega)]; exact i6
    have f7 : wc.cell? ⟨W.heap.size + 1 + 1, 2, none⟩ = some (.bool false) := by rw [hc _ _ (by omega)]; exact i7
    have f8 : ∀ i, wc.frozen? ⟨W.heap.size + 1 + 1, i, none⟩ = false := fun i => by rw [hf _ _ (by omega)]; exact y0 i
    clear hc hf i0 i1 i2 i3 i4 i5 i6 i7 j0 j1 j2 j3 j4 j5 y0 dr c1 c2 c3 hbl hbh hbhl
    have hgz : W.heap.size + 1 + 1 < wc.heap.size := by omega
    have hgg : g ≠ W.heap.size + 1 + 1 := by omega
    have far : ∀ (v : Value) (w5 : World), Kept (wc.setCell ⟨g, 2, none⟩ v) w5 → (∀ i, w5.cell? ⟨W.heap.size + 1 + 1, i, none⟩ = wc.cell? ⟨W.heap.size + 1 + 1, i, none⟩) ∧ ∀ i, w5.frozen? ⟨W.heap.size + 1 + 1, i, none⟩ = wc.frozen? ⟨W.heap.size + 1 + 1, i, none⟩ := fun v w5 h =>
      ⟨fun i => by rw [(bcell h).1 _ _ (by simpa [World.setCell] using hgz), World.cell?_setCell_far _ _ _ _ hgg], fun i => by rw [(bcell h).2 _ _ (by simpa [World.setCell] using hgz), World.frozen?_setCell]⟩
    have FAR := Lib.hid far
    clear far
    go_wp2_with (refine (c4 _).mono ?_; rintro e w5 ⟨rfl, hb5⟩
                 have g5 : w5.cell? ⟨W.heap.size + 1 + 1, 0, none⟩ = some (.int .u64 0) := by rw [(FAR.out _ _ hb5).1]; exact f5
                 have g6 : w5.cell? ⟨W.heap.size + 1 + 1, 1, none⟩ = some (.int .u64 0) := by rw [(FAR.out _ _ hb5).1]; exact f6
                 have g7 : w5.cell? ⟨W.heap.size + 1 + 1, 2, none⟩ = some (.bool false) := by rw [(FAR.out _ _ hb5).1]; exact f7
                 have g8 : ∀ i, w5.frozen? ⟨W.heap.size + 1 + 1, i, none⟩ = false := fun i => by rw [(FAR.out _ _ hb5).2]; exact f8 i)
    refine bodyPost_ret (v := .agg #[.int .u64 XH, .int .u64 XL, .bool z]) (by simp [results, Try.results58, go_sem, g5, g6, g7]) rfl ⟨rfl, ?_⟩
    exact (((((kw.setCell (by dsimp only; omega) _).trans hb5).setCell (by dsimp only; omega) _).setCell (by dsimp only; omega) _).setCell (by dsimp only; omega) _)
end Go.Proofs.Ythhdgfhndijmeaa
