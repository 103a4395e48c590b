/- Contract of the document's answers (package latheref01): quotient. -/
import Derived.Test.YthhdgfhndijmeaaRefD
import Derived.Deep.RegionHeld3
import Derived.Deep.DeepCutAuto
namespace Go.Proofs.Ythhdgfhndijmeaa
open Go.RowKit
set_option linter.unusedVariables false
set_option linter.unusedSimpArgs false

theorem Kept.of_drew {L w : World} (h : Kept L.drew w) : Kept L w := ((Kept.refl L).drewN 1).trans h
/-- A new block of three cells behind a call. -/
theorem met1 {L w1 : World} (A B C : Value) (h : Kept L w1) :
    w1.heap.size < (w1.alloc (.cells #[A, B, C] 46)).heap.size ∧ (w1.alloc (.cells #[A, B, C] 46)).cell? ⟨w1.heap.size, 0, none⟩ = some A ∧
      (w1.alloc (.cells #[A, B, C] 46)).cell? ⟨w1.heap.size, 1, none⟩ = some B ∧ (w1.alloc (.cells #[A, B, C] 46)).cell? ⟨w1.heap.size, 2, none⟩ = some C ∧ Kept L (w1.alloc (.cells #[A, B, C] 46)) := by
  refine ⟨by simp, ?_, ?_, ?_, h.alloc _ _⟩ <;> (rw [World.cell?_alloc_at _ _ _ _ rfl]; rfl)
/-- A block of three cells made ahead of a call, written behind it. -/
theorem met2 {L w1 : World} {n : Nat} (Z0 Z1 Z2 A B C : Value) (hn : n = L.heap.size) (h : Kept (L.alloc (.cells #[Z0, Z1, Z2] 46)).drew w1) :
    n < (((w1.setCell ⟨n, 0, none⟩ A).setCell ⟨n, 1, none⟩ B).setCell ⟨n, 2, none⟩ C).heap.size ∧ (((w1.setCell ⟨n, 0, none⟩ A).setCell ⟨n, 1, none⟩ B).setCell ⟨n, 2, none⟩ C).cell? ⟨n, 0, none⟩ = some A ∧
      (((w1.setCell ⟨n, 0, none⟩ A).setCell ⟨n, 1, none⟩ B).setCell ⟨n, 2, none⟩ C).cell? ⟨n, 1, none⟩ = some B ∧ (((w1.setCell ⟨n, 0, none⟩ A).setCell ⟨n, 1, none⟩ B).setCell ⟨n, 2, none⟩ C).cell? ⟨n, 2, none⟩ = some C ∧
      Kept L (((w1.setCell ⟨n, 0, none⟩ A).setCell ⟨n, 1, none⟩ B).setCell ⟨n, 2, none⟩ C) := by
  have h' := Kept.of_drew h
  have hs : n < w1.heap.size := by have := h'.1.size; simp at this; omega
  have e : ∀ i, w1.cell? ⟨n, i, none⟩ = (#[Z0, Z1, Z2] : Array Value)[i]? := fun i => by
    rw [(bcell h').1 _ _ (by simp; omega), World.cell?_alloc_at _ _ _ _ hn]
  have k : Kept L w1 := ((Kept.refl L).alloc _ _).trans h'
  have ne : ∀ i j : Nat, i ≠ j → (⟨n, i, none⟩ : Addr) ≠ ⟨n, j, none⟩ := fun i j h h2 => h (by injection h2)
  refine ⟨by simpa [World.setCell] using hs, ?_, ?_, ?_, ((k.setCell (by dsimp only; omega) _).setCell (by dsimp only; omega) _).setCell (by dsimp only; omega) _⟩
  · rw [World.cell?_setCell_other (h := ne 2 0 (by decide)), World.cell?_setCell_other (h := ne 1 0 (by decide)), World.cell?_setCell_same' _ _ _ (by rw [e]; rfl)]
  · rw [World.cell?_setCell_other (h := ne 2 1 (by decide)), World.cell?_setCell_same' _ _ _ (by rw [World.cell?_setCell_other (h := ne 0 1 (by decide)), e]; rfl)]
  · rw [World.cell?_setCell_same' _ _ _ (by rw [World.cell?_setCell_other (h := ne 1 2 (by decide)), World.cell?_setCell_other (h := ne 0 2 (by decide)), e]; rfl)]

set_option maxHeartbeats 3200000 in
theorem quotient_raw (a x c y : Int) (p q z1 z2 : Bool) (W : World) (hx : 0 ≤ x) (hx' : x ≤ 18446744073709551615) (hy : 1 ≤ y) (hy' : y ≤ 18446744073709551615)
    (c1 : ∀ W, Calls Try.prog 59 #[.agg #[.int .u64 0, .int .u64 (x / y), .bool (p != q)]] W fun e w' => e = .returned (.agg #[.int .u64 0, .int .u64 (x / y), .bool z1]) ∧ Kept W w')
    (c2 : ∀ W, Calls Try.prog 59 #[.agg #[.int .u64 0, .int .u64 (x % y), .bool p]] W fun e w' => e = .returned (.agg #[.int .u64 0, .int .u64 (x % y), .bool z2]) ∧ Kept W w') :
    Calls Try.prog 48 #[.agg #[.int .u64 a, .int .u64 x, .bool p], .agg #[.int .u64 c, .int .u64 y, .bool q]] W fun e w' =>
      e = .returned (.tuple #[.agg #[.int .u64 0, .int .u64 (x / y), .bool z1], .agg #[.int .u64 0, .int .u64 (x % y), .bool z2]]) ∧ Kept W w' := by
  have hbu := build_lb
  have hy0 : ¬ y = 0 := by omega
  go_enter Try.func48, Try.ntmps48
  go_upto_region 1 with fail
  go_cut [6] (fun s6 wx => ∃ g : Nat, s6 = .pointer (some ⟨g, 0, none⟩) ∧ W.heap.size + 1 + 1 + 1 < g ∧ g < wx.heap.size ∧ wx.cell? ⟨g, 0, none⟩ = some (.int .u64 0) ∧ wx.cell? ⟨g, 1, none⟩ = some (.int .u64 (x / y)) ∧ wx.cell? ⟨g, 2, none⟩ = some (.bool z1) ∧
    Kept ((((W.alloc (.cells #[.int .u64 a, .int .u64 x, .bool p] 46)).alloc (.cells #[.int .u64 c, .int .u64 y, .bool q] 46)).alloc (.cells #[.int .u64 0, .int .u64 0, .bool false] 46)).alloc (.cells #[.int .u64 0, .int .u64 0, .bool false] 46)) wx)
  case first =>
    have hq1 : IntKind.u64.wrap (x.tdiv y) = x / y := IntWalk.u64_quo x y ⟨hx, by omega, hy⟩
    go_region_held3 (fun w' => w'.cell? ⟨W.heap.size, 1, none⟩ = some (.int .u64 x) ∧ w'.cell? ⟨W.heap.size, 2, none⟩ = some (.bool p) ∧ w'.cell? ⟨W.heap.size + 1, 1, none⟩ = some (.int .u64 y) ∧ w'.cell? ⟨W.heap.size + 1, 2, none⟩ = some (.bool q))
      (((try dsimp only); (repeat' apply And.intro) <;> (first | assumption | (rw [World.cell?_alloc_past _ _ _ (by omega)]; assumption) | (rw [World.cell?_setCell_far _ _ _ _ (by simp <;> omega)]; assumption) | (go_simp; done) | go_keep)))
      (first | (go_at_call 59; refine (c1 _).mono ?_; rintro e w1 ⟨rfl, hb1⟩
                have hz := hb1.1.size
                simp at hz
                obtain ⟨hc0, hf0⟩ := bcell hb1
                have f1 : w1.cell? ⟨W.heap.size, 1, none⟩ = some (.int .u64 x) := by rw [hc0 _ _ (by simp <;> omega)]; go_simp
                have f2 : w1.cell? ⟨W.heap.size, 2, none⟩ = some (.bool p) := by rw [hc0 _ _ (by simp <;> omega)]; go_simp
                have f3 : w1.cell? ⟨W.heap.size + 1, 1, none⟩ = some (.int .u64 y) := by rw [hc0 _ _ (by simp <;> omega)]; go_simp
                have f4 : w1.cell? ⟨W.heap.size + 1, 2, none⟩ = some (.bool q) := by rw [hc0 _ _ (by simp <;> omega)]; go_simp))
    all_goals (go_wp2_with fail; go_meet)
    · exact ⟨_, rfl, by omega, met1 _ _ _ (Kept.of_drew hb1)⟩
    · exact ⟨_, rfl, by omega, met2 _ _ _ _ _ _ (by simp) hb1⟩
  case rest =>
    obtain ⟨g, rfl, hg1, hg2, q0, q1, q2, hk⟩ := hcut
    obtain ⟨wo, rfl⟩ : ∃ wo : World, wo = wc := ⟨_, rfl⟩
    obtain ⟨hc, hf⟩ := bcell hk
    have f1 : wo.cell? ⟨W.heap.size, 1, none⟩ = some (.int .u64 x) := by rw [hc _ _ (by simp <;> omega)]; go_simp
    have f2 : wo.cell? ⟨W.heap.size, 2, none⟩ = some (.bool p) := by rw [hc _ _ (by simp <;> omega)]; go_simp
    have f3 : wo.cell? ⟨W.heap.size + 1, 1, none⟩ = some (.int .u64 y) := by rw [hc _ _ (by simp <;> omega)]; go_simp
    have sz := hk.1.size
    simp at sz
    clear hc hf
    go_upto_region 2 with fail
    go_cut [7] (fun s7 wx => ∃ g2 : Nat, s7 = .pointer (some ⟨g2, 0, none⟩) ∧ wo.heap.size ≤ g2 ∧ g2 < wx.heap.size ∧ wx.cell? ⟨g2, 0, none⟩ = some (.int .u64 0) ∧ wx.cell? ⟨g2, 1, none⟩ = some (.int .u64 (x % y)) ∧ wx.cell? ⟨g2, 2, none⟩ = some (.bool z2) ∧ Kept wo wx)
    case first =>
      have hq1 : x.tmod y = x % y := Int.tmod_eq_emod_of_nonneg hx
      go_region_held3 (fun w' => w'.cell? ⟨W.heap.size, 1, none⟩ = some (.int .u64 x) ∧ w'.cell? ⟨W.heap.size, 2, none⟩ = some (.bool p) ∧ w'.cell? ⟨W.heap.size + 1, 1, none⟩ = some (.int .u64 y))
        (((try dsimp only); (repeat' apply And.intro) <;> (first | assumption | (rw [World.cell?_alloc_past _ _ _ (by omega)]; assumption) | (rw [World.cell?_setCell_far _ _ _ _ (by simp <;> omega)]; assumption) | (go_simp; done) | go_keep)))
        (first | (go_at_call 59; refine (c2 _).mono ?_; rintro e w1 ⟨rfl, hb1⟩
                  have hz := hb1.1.size
                  simp at hz
                  obtain ⟨hc0, hf0⟩ := bcell hb1
                  have f1 : w1.cell? ⟨W.heap.size, 1, none⟩ = some (.int .u64 x) := by rw [hc0 _ _ (by simp <;> omega)]; go_simp
                  have f2 : w1.cell? ⟨W.heap.size, 2, none⟩ = some (.bool p) := by rw [hc0 _ _ (by simp <;> omega)]; go_simp
                  have f3 : w1.cell? ⟨W.heap.size + 1, 1, none⟩ = some (.int .u64 y) := by rw [hc0 _ _ (by simp <;> omega)]; go_simp))
      all_goals (go_wp2_with fail; go_meet)
      · exact ⟨_, rfl, by omega, met1 _ _ _ (Kept.of_drew hb1)⟩
      · exact ⟨_, rfl, by omega, met2 _ _ _ _ _ _ (by simp) hb1⟩
    case rest =>
      obtain ⟨g2, rfl, hg3, hg4, r0, r1, r2, hk2⟩ := hcut
      have t0 : wc.cell? ⟨g, 0, none⟩ = some (.int .u64 0) := by rw [(bcell hk2).1 _ _ hg2]; exact q0
      have t1 : wc.cell? ⟨g, 1, none⟩ = some (.int .u64 (x / y)) := by rw [(bcell hk2).1 _ _ hg2]; exact q1
      have t2 : wc.cell? ⟨g, 2, none⟩ = some (.bool z1) := by rw [(bcell hk2).1 _ _ hg2]; exact q2
      have hk3 := hk.trans hk2
      obtain ⟨hc, hf⟩ := bcell hk3
      have u0 : wc.cell? ⟨W.heap.size + 1 + 1, 0, none⟩ = some (.int .u64 0) := by rw [hc _ _ (by simp <;> omega)]; go_simp
      have u1 : wc.cell? ⟨W.heap.size + 1 + 1, 1, none⟩ = some (.int .u64 0) := by rw [hc _ _ (by simp <;> omega)]; go_simp
      have u2 : wc.cell? ⟨W.heap.size + 1 + 1, 2, none⟩ = some (.bool false) := by rw [hc _ _ (by simp <;> omega)]; go_simp
      have v0 : wc.cell? ⟨W.heap.size + 1 + 1 + 1, 0, none⟩ = some (.int .u64 0) := by rw [hc _ _ (by simp <;> omega)]; go_simp
      have v1 : wc.cell? ⟨W.heap.size + 1 + 1 + 1, 1, none⟩ = some (.int .u64 0) := by rw [hc _ _ (by simp <;> omega)]; go_simp
      have v2 : wc.cell? ⟨W.heap.size + 1 + 1 + 1, 2, none⟩ = some (.bool false) := by rw [hc _ _ (by simp <;> omega)]; go_simp
      have y0 : ∀ i, wc.frozen? ⟨W.heap.size + 1 + 1, i, none⟩ = false := fun i => by rw [hf _ _ (by simp <;> omega)]; go_simp
      have y1 : ∀ i, wc.frozen? ⟨W.heap.size + 1 + 1 + 1, i, none⟩ = false := fun i => by rw [hf _ _ (by simp <;> omega)]; go_simp
      clear hc hf
      go_wp2
      go_region
      all_goals (try go_wp2)
      have kw : Kept W wc := (((((Kept.refl W).alloc _ _).alloc _ _).alloc _ _).alloc _ _).trans hk3
      refine bodyPost_ret (v := .tuple #[.agg #[.int .u64 0, .int .u64 (x / y), .bool z1], .agg #[.int .u64 0, .int .u64 (x % y), .bool z2]]) (by simp [results, Try.results48, go_sem, u0, u1, u2, v0, v1, v2]) rfl ⟨rfl, ?_⟩
      exact ((((((kw.setCell (by dsimp only; omega) _).setCell (by dsimp only; omega) _).setCell (by dsimp only; omega) _).setCell (by dsimp only; omega) _).setCell (by dsimp only; omega) _).setCell (by dsimp only; omega) _).drewN 1

theorem quotient_any (a x c y : Int) (p q : Bool) (W : World) (hx : 0 ≤ x) (hx' : x ≤ 18446744073709551615) (hy : 1 ≤ y) (hy' : y ≤ 18446744073709551615) :
    Calls Try.prog 48 #[.agg #[.int .u64 a, .int .u64 x, .bool p], .agg #[.int .u64 c, .int .u64 y, .bool q]] W fun e w' =>
      e = .returned (.tuple #[.agg #[.int .u64 0, .int .u64 (x / y), .bool ((p != q) && !((0 : Int) == 0 && x / y == 0))], .agg #[.int .u64 0, .int .u64 (x % y), .bool (p && !((0 : Int) == 0 && x % y == 0))]]) ∧ Kept W w' :=
  quotient_raw a x c y p q _ _ W hx hx' hy hy' (fun W => fixed_any 0 (x / y) (p != q) W) (fun W => fixed_any 0 (x % y) p W)
end Go.Proofs.Ythhdgfhndijmeaa
