/- Package dom: isReached, Dominates. -/
import Derived.Test.YtphdhndljgihmaaIdom
namespace Go.Proofs.Ytphdhndljgihmaa
open Go.RowKit Go.Maps
set_option linter.unusedVariables false
set_option linter.unusedSimpArgs false

open Classical in
noncomputable def rchB (S : Nat → List Nat) (b : Nat) : Bool := decide (Rch S b)
theorem rchB_iff {S : Nat → List Nat} {b : Nat} : rchB S b = true ↔ Rch S b := by unfold rchB; simp
theorem rchB_not {S : Nat → List Nat} {b : Nat} : rchB S b = false ↔ ¬ Rch S b := by unfold rchB; simp
set_option maxRecDepth 100000 in
set_option maxHeartbeats 1000000 in
theorem isReached_any {S : Nat → List Nat} {n R b : Nat} (W : World) (hn : 0 < n) (hS : ∀ b, ∀ t ∈ S b, t < n) (hr : W.rowIs R 3 n (fun i => .int .i64 (upI S i))) (hb : b < n) (hnn : n ≤ 1048576) :
    Calls Try.prog 32 #[.slice (some ⟨R, 0, none⟩) n n, .int .i64 b] W fun e w' => e = .returned (.bool (rchB S b)) ∧ Below W.heap.size W w' := by
  have c := hr.cell hb
  have hun := upI_nat hn hS b
  have hul := upI_lt hn hS b
  by_cases h0 : b = 0
  · subst h0
    have hz : rchB S 0 = true := rchB_iff.2 Rch.zero
    rw [hz]
    clear hun hul
    go_enter Try.func32, Try.ntmps32
    go_wp2_with fail
    go_ret
    exact ⟨rfl, Below.refl _ _⟩
  · have he : ((b : Int) == 0) = false := by simp; omega
    by_cases hR : Rch S b
    · rw [rchB_iff.2 hR]
      have h1 := hun.2 ⟨hR, h0⟩
      obtain ⟨u, eu⟩ := Int.eq_ofNat_of_zero_le h1
      rw [eu] at c
      have hne := nat_ne u
      clear hun hul h1 eu
      go_enter Try.func32, Try.ntmps32
      go_wp2_with fail
      go_ret
      exact ⟨rfl, Below.refl _ _⟩
    · rw [rchB_not.2 hR]
      have h1 : upI S b = -1 := by
        have : ¬ 0 ≤ upI S b := fun h => hR (hun.1 h).1
        omega
      rw [h1] at c
      clear hun hul h1
      go_enter Try.func32, Try.ntmps32
      go_wp2_with fail
      go_ret
      exact ⟨rfl, Below.refl _ _⟩
open Classical in
/-- Whether a dominates b, of any two numbers and n blocks. -/
noncomputable def dmI (S : Nat → List Nat) (n : Nat) (a b : Int) : Bool := decide (∃ x y : Nat, a = (x : Int) ∧ b = (y : Int) ∧ y < n ∧ Dm S x y)
theorem dmI_iff {S : Nat → List Nat} {n : Nat} {a b : Int} : dmI S n a b = true ↔ ∃ x y : Nat, a = (x : Int) ∧ b = (y : Int) ∧ y < n ∧ Dm S x y := by unfold dmI; simp
theorem dmI_nat {S : Nat → List Nat} {n a b : Nat} (hb : b < n) : dmI S n a b = true ↔ Dm S a b := by
  rw [dmI_iff]
  constructor
  · rintro ⟨x, y, h1, h2, _, h3⟩
    obtain rfl : a = x := by omega
    obtain rfl : b = y := by omega
    exact h3
  · exact fun h => ⟨a, b, rfl, rfl, hb, h⟩
theorem dmI_false {S : Nat → List Nat} {n : Nat} {a b : Int} (h : ¬ ∃ x y : Nat, a = (x : Int) ∧ b = (y : Int) ∧ y < n ∧ Dm S x y) : dmI S n a b = false := by
  cases e : dmI S n a b with
  | false => rfl
  | true => exact absurd (dmI_iff.1 e) h
/-- The block that a number is, or none (n). -/
def blkOf (n : Nat) (a : Int) : Nat := if 0 ≤ a ∧ a < (n : Int) then a.toNat else n
theorem blkOf_eq {n x : Nat} {a : Int} (hx : x < n) : (x : Int) = a ↔ x = blkOf n a := by
  unfold blkOf
  by_cases h : 0 ≤ a ∧ a < (n : Int)
  · rw [if_pos h]; omega
  · rw [if_neg h]; omega
theorem dmI_blk {S : Nat → List Nat} {n : Nat} (hn : 0 < n) (hS : ∀ b, ∀ t ∈ S b, t < n) {a : Int} {b : Nat} (hb : b < n) : dmI S n a b = true ↔ Dm S (blkOf n a) b := by
  rw [dmI_iff]
  constructor
  · rintro ⟨x, y, h1, h2, _, h3⟩
    obtain rfl : b = y := by omega
    have hx := rch_lt hn hS h3.1
    have := (blkOf_eq (a := a) hx).1 h1.symm
    rw [← this]; exact h3
  · intro h
    have hx := rch_lt hn hS h.1
    exact ⟨blkOf n a, b, ((blkOf_eq (a := a) hx).2 rfl).symm, rfl, hb, h⟩
set_option maxRecDepth 100000 in
set_option maxHeartbeats 4000000 in
theorem Dominates_any (f : LFn) (a b : Int) (W : World) (hf : FnIn W.heap.size W f) (hs : FnSm f) (hbs : f.bs.length ≤ 1048576) :
    Calls Try.prog 23 #[.agg (fnC f).toArray, .int .i64 a, .int .i64 b] W fun e w' => e = .returned (.bool (dmI (succP (fnD f).bs) f.bs.length a b)) ∧ Past W.heap.size W w' := by
  have hP := (Past.refl (Nat.le_refl W.heap.size)).alloc (.cells (fnC f).toArray 25)
  have A1 : Box W.heap.size (fnC f) (W.alloc (.cells (fnC f).toArray 25)) := Box.new W rfl _ _
  have HN : Hid (∀ b, ∀ t ∈ succP (fnD f).bs b, t < f.bs.length) := Lib.hid (fun b t ht => by
    have := succP_lt _ _ t ht
    simpa [fnD] using this)
  have cI := Idom_own f (W.alloc (.cells (fnC f).toArray 25)) (past_lasts lasts_Fn hf hP) hs hbs
  obtain ⟨S, eS⟩ : ∃ S, succP (fnD f).bs = S := ⟨_, rfl⟩
  simp only [eS] at cI HN ⊢
  obtain ⟨nm, pp, pn, pc, ps, rt, bp, bn, bc, bs⟩ := f
  obtain rfl : bn = bs.length := hf.2.1
  show Calls Try.prog 23 #[.agg #[.string nm, .slice pp pn pc, .int .i64 rt, .slice bp bs.length bc], .int .i64 a, .int .i64 b] W _
  have hfc : fnC ⟨nm, pp, pn, pc, ps, rt, bp, bs.length, bc, bs⟩ = [.string nm, .slice pp pn pc, .int .i64 rt, .slice bp bs.length bc] := rfl
  rw [hfc] at A1 hP
  simp only [hfc] at cI
  obtain ⟨n, en⟩ : ∃ n, bs.length = n := ⟨_, rfl⟩
  simp only [en] at cI A1 hP hbs HN ⊢
  have a0 := A1.get 0 _ rfl
  have a1 := A1.get 1 _ rfl
  have a2 := A1.get 2 _ rfl
  have a3 := A1.get 3 _ rfl
  have HB := Lib.hid (And.intro hP A1)
  clear hP A1 hf hs eS hfc en
  go_enter Try.func23, Try.ntmps23
  go_wp2_with fail
  refine cI.mono ?_
  rintro e w2 ⟨R, rfl, hp2, hR, hr2⟩
  have hA2 := HB.out.2.later hp2.2
  have hP2 := HB.out.1.trans ⟨HB.out.1.size, hp2.2.mono HB.out.1.size⟩
  clear a0 a1 a2 a3 cI
  have b3 := hA2.get 3 _ rfl
  have HI := Lib.hid (And.intro hP2 hr2)
  clear hA2 hP2 hp2 hr2 HB hR
  by_cases hb : 0 ≤ b ∧ b < (n : Int)
  · obtain ⟨y, rfl⟩ := Int.eq_ofNat_of_zero_le hb.1
    have hyn : y < n := by omega
    have hn : 0 < n := by omega
    have hd1 : decide (((y : Nat) : Int) < 0) = false := decide_eq_false (by omega)
    have hd2 : decide ((n : Int) ≤ ((y : Nat) : Int)) = false := decide_eq_false (by omega)
    have cR := isReached_any w2 hn HN.out HI.out.2 hyn hbs
    clear hb
    go_wp2_with fail
    refine cR.mono ?_
    rintro e w3 ⟨rfl, hb3⟩
    have HI3 := Lib.hid (And.intro (HI.out.1.trans ⟨HI.out.1.size, hb3.mono HI.out.1.size⟩) (rowIs_kept HI.out.2 (below_grown hb3) (by simp)))
    clear cR b3 hb3 HI
    by_cases hR : Rch S y
    · rw [rchB_iff.2 hR]
      have HRY := Lib.hid hR
      clear hR
      go_wp2_with fail
      go_loopg [8] (n + 1) (fun k t wr => ∃ (i : Nat) (x : Int), t = .int .i64 x ∧ Climb S n (blkOf n a) y i x ∧ wr = w3 ∧ k = n + 1 - i)
      case atStart => exact ⟨0, (y : Int), rfl, Climb.start HRY.out, rfl, rfl⟩
      case round =>
        obtain ⟨i, x, rfl, hC, rfl, rfl⟩ := hrel
        have hfin := hC.fin
        rcases (by omega : x < 0 ∨ 0 ≤ x) with hx | hx
        · have hl := hC.low
          obtain rfl : x = -1 := by omega
          have hend := hC.ends (.inl (by omega))
          have hres : dmI S n a (y : Int) = false := by
            cases e : dmI S n a (y : Int) with
            | false => rfl
            | true =>
              have h1 := hend.2 ((dmI_blk hn HN.out hyn).1 e)
              omega
          clear hC hend
          go_wp2_with fail
          go_ret
          rw [hres]
          exact ⟨rfl, HI3.out.1⟩
        · obtain ⟨z, rfl⟩ := Int.eq_ofNat_of_zero_le hx
          have hzn := rch_lt hn HN.out (hC.dom z rfl).1
          have hne := nat_ne z
          have hq := blkOf_eq (a := a) hzn
          by_cases he : (z : Int) = a
          · have hres : dmI S n a (y : Int) = true := by
              rw [dmI_blk hn HN.out hyn]
              have h1 := (hC.ends (.inr (by rw [hq.1 he]))).1 (by rw [hq.1 he])
              exact h1
            subst he
            clear hC hq
            go_wp2_with fail
            go_ret
            rw [hres]
            exact ⟨rfl, HI3.out.1⟩
          · have hst := hC.step hn HN.out (fun e => he (hq.2 e))
            have hf2 := hst.fin
            have heq : (((z : Nat) : Int) == a) = false := by simpa using he
            have k0 := HI3.out.2.cell hzn
            have HS := Lib.hid hst
            clear hC hq hst
            go_wp2_with fail
            go_roundg (n + 1 - (i + 1))
            case rel => exact ⟨i + 1, _, rfl, HS.out, rfl, rfl⟩
            case measure => omega
    · rw [rchB_not.2 hR]
      have hdf : dmI S n a (y : Int) = false := dmI_false (by
        rintro ⟨x, y', _, h2, _, h3⟩
        obtain rfl : y = y' := by omega
        exact hR h3.2.1)
      clear hR
      go_wp2_with fail
      go_ret
      rw [hdf]
      exact ⟨rfl, HI3.out.1⟩
  · have hdf : dmI S n a b = false := dmI_false (by
      rintro ⟨x, y', _, h2, h4, h3⟩
      omega)
    by_cases hb0 : b < 0
    · have hd1 : decide (b < 0) = true := decide_eq_true hb0
      go_wp2_with fail
      go_ret
      rw [hdf]
      exact ⟨rfl, HI.out.1⟩
    · have hd1 : decide (b < 0) = false := decide_eq_false hb0
      have hd2 : decide ((n : Int) ≤ b) = true := decide_eq_true (by omega)
      go_wp2_with fail
      go_ret
      rw [hdf]
      exact ⟨rfl, HI.out.1⟩
end Go.Proofs.Ytphdhndljgihmaa
