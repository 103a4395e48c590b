/- The document's Dominates. -/
import Derived.Test.YtphdhndljgihmaaTab
import Derived.Test.YtphdhndljgihmaaDmA
namespace Go.Proofs.Ytphdhndljgihmaa
open Go.RowKit Go.Maps
set_option linter.unusedVariables false
set_option linter.unusedSimpArgs false

theorem dmI_dmB {S : Nat → List Nat} {n a b : Nat} (hb : b < n) : dmI S n a b = dmB S a b := by
  rw [Bool.eq_iff_iff, dmI_nat hb, dmB_iff]
theorem dmI_out {S : Nat → List Nat} {n : Nat} (hS : ∀ b, ∀ t ∈ S b, t < n) {a b : Int} (h : a < 0 ∨ b < 0 ∨ (n : Int) ≤ a ∨ (n : Int) ≤ b) : dmI S n a b = false := dmI_false (by
  rintro ⟨x, y, rfl, rfl, hy, hd⟩
  have hx : x < n := rch_lt (show 0 < n by omega) hS hd.1
  omega)
set_option maxRecDepth 100000 in
set_option maxHeartbeats 4000000 in
theorem rDominates_any (f : LFn) (a b : Int) (W : World) (hf : FnIn W.heap.size W f) (hs : FnSm f) (hbs : f.bs.length ≤ 1048576) :
    Calls Try.prog 24 #[.agg (fnC f).toArray, .int .i64 a, .int .i64 b] W fun e w' => e = .returned (.bool (dmI (succP (fnD f).bs) f.bs.length a b)) ∧ Past W.heap.size W w' := by
  have hP := (Past.refl (Nat.le_refl W.heap.size)).alloc (.cells (fnC f).toArray 25)
  have A1 : Box W.heap.size (fnC f) (W.alloc (.cells (fnC f).toArray 25)) := Box.new W rfl _ _
  have HN : Hid (∀ b, ∀ t ∈ succP (fnD f).bs b, t < f.bs.length) := Lib.hid (fun b t ht => by
    have := succP_lt _ _ t ht
    simpa [fnD] using this)
  have c1 := rTable_own f (W.alloc (.cells (fnC f).toArray 25)) (past_lasts lasts_Fn hf hP) hs hbs
  obtain ⟨S, eS⟩ : ∃ S, succP (fnD f).bs = S := ⟨_, rfl⟩
  simp only [eS] at c1 HN ⊢
  obtain ⟨nm, pp, pn, pc, ps, rt, bp, bn, bc, bs⟩ := f
  obtain rfl : bn = bs.length := hf.2.1
  show Calls Try.prog 24 #[.agg #[.string nm, .slice pp pn pc, .int .i64 rt, .slice bp bs.length bc], .int .i64 a, .int .i64 b] W _
  have hfc : fnC ⟨nm, pp, pn, pc, ps, rt, bp, bs.length, bc, bs⟩ = [.string nm, .slice pp pn pc, .int .i64 rt, .slice bp bs.length bc] := rfl
  rw [hfc] at A1 hP
  simp only [hfc] at c1
  obtain ⟨n, en⟩ : ∃ n, bs.length = n := ⟨_, rfl⟩
  simp only [en] at c1 A1 hP hbs HN ⊢
  have a0 := A1.get 0 _ rfl
  have a1 := A1.get 1 _ rfl
  have a2 := A1.get 2 _ rfl
  have a3 := A1.get 3 _ rfl
  have HB := Lib.hid (And.intro hP A1)
  clear hP A1 hf hs eS hfc en
  go_enter Try.func24, Try.ntmps24
  by_cases h1 : a < 0
  · have hd1 : decide (a < 0) = true := by simp [h1]
    have hz := dmI_out (a := a) (b := b) HN.out (.inl h1)
    rw [hz]
    clear hz h1
    go_wp2_with fail
    go_ret
    exact ⟨rfl, HB.out.1⟩
  have hd1 : decide (a < 0) = false := by simp; omega
  by_cases h2 : b < 0
  · have hd2 : decide (b < 0) = true := by simp [h2]
    have hz := dmI_out (a := a) (b := b) HN.out (.inr (.inl h2))
    rw [hz]
    clear hz h2
    go_wp2_with fail
    go_ret
    exact ⟨rfl, HB.out.1⟩
  have hd2 : decide (b < 0) = false := by simp; omega
  by_cases h3 : (n : Int) ≤ a
  · have hd3 : decide ((n : Int) ≤ a) = true := by simp [h3]
    have hz := dmI_out (a := a) (b := b) HN.out (.inr (.inr (.inl h3)))
    rw [hz]
    clear hz
    go_wp2_with fail
    go_ret
    exact ⟨rfl, HB.out.1⟩
  have hd3 : decide ((n : Int) ≤ a) = false := by simp; omega
  by_cases h4 : (n : Int) ≤ b
  · have hd4 : decide ((n : Int) ≤ b) = true := by simp [h4]
    have hz := dmI_out (a := a) (b := b) HN.out (.inr (.inr (.inr h4)))
    rw [hz]
    clear hz
    go_wp2_with fail
    go_ret
    exact ⟨rfl, HB.out.1⟩
  have hd4 : decide ((n : Int) ≤ b) = false := by simp; omega
  obtain ⟨x, rfl⟩ : ∃ x : Nat, a = (x : Int) := ⟨a.toNat, by omega⟩
  obtain ⟨y, rfl⟩ : ∃ y : Nat, b = (y : Int) := ⟨b.toNat, by omega⟩
  have hx : x < n := by omega
  have hy : y < n := by omega
  rw [dmI_dmB hy]
  clear h1 h2 h3 h4
  go_wp2_with fail
  refine c1.mono ?_
  rintro e w1 ⟨R, Bk, rfl, hp, hR, hB⟩
  have k0 := hB.row.cell hx
  simp only [hx, if_true] at k0
  have k1 := (hB.each x hx).cell hy
  have HX := Lib.hid (HB.out.1.trans ⟨HB.out.1.size, hp.2.mono HB.out.1.size⟩)
  obtain ⟨g, eg⟩ : ∃ g, Bk x = g := ⟨_, rfl⟩
  rw [eg] at k0 k1
  clear a0 a1 a2 a3 c1 hp hR hB eg HB hd1 hd2 hd3 hd4
  go_wp2_with fail
  go_ret
  exact ⟨rfl, HX.out⟩
end Go.Proofs.Ytphdhndljgihmaa
