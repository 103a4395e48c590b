/- Package ir: copyList, of each element type. -/
import Derived.Test.YtpfeiolmkbibiaaIrV
import Derived.Lib.BufferMore
namespace Go.Proofs.Ytpfeiolmkbibiaa
open Go.RowKit Go.Maps
set_option linter.unusedVariables false
set_option linter.unusedSimpArgs false

theorem infoOf_V : (Try.prog.info? 55).map (fun i => (i.zero, i.size, i.bytes)) = some (some (.agg #[.int .i64 0, .int .i64 0, .int .u64 0]), 3, 24) := by kernel_rfl

set_option maxRecDepth 100000 in
set_option maxHeartbeats 2000000 in
theorem copyList_V (p : Option Addr) (n cap : Nat) (cs : List Value) (W : World) (hn : cs.length = n * 3) (hs : ∀ j u, cs[j]? = some u → ∃ a, p = some a ∧ W.cell? (a.add j) = some u) (h1 : ∀ u ∈ cs, u.oneCell' = true) (hl : n ≤ 1048576) :
    Calls Try.prog 76 #[.slice p n cap] W fun e w' => ∃ v', e = .returned v' ∧ Past W.heap.size W w' ∧ w'.ownsRow W.heap.size 55 3 v' n cs := by
  obtain ⟨iV, hiV, hz0, hz1, hz2⟩ := info_parts infoOf_V
  cases p with
  | none =>
    have e0 : cs = [] := by
      cases cs with
      | nil => rfl
      | cons u r => obtain ⟨a, e, _⟩ := hs 0 u rfl; cases e
    subst e0
    obtain rfl : n = 0 := by simp at hn; omega
    have heq := fun w => Go.Lib.run_eql_slice_nil_nil (P := Try.prog) w (t := 22) 0 cap Try.underlying22
    go_enter Try.func76, Try.ntmps76
    go_wp2_with fail
    go_ret
    exact ⟨_, rfl, Past.refl (Nat.le_refl _), World.ownsRow_nil _ _ _ _⟩
  | some a =>
    have hsrc : ∀ j u, cs[j]? = some u → W.cell? (a.add j) = some u := fun j u h => by obtain ⟨a', e, h⟩ := hs j u h; cases e; exact h
    have hlow : ∀ j u, cs[j]? = some u → a.block < W.heap.size := fun j u h => by
      have h2 := hsrc j u h
      by_cases h3 : (a.add j).block < W.heap.size
      · rw [add_block] at h3; exact h3
      · unfold World.cell? at h2
        rw [Array.getElem?_eq_none (Nat.le_of_not_lt h3)] at h2
        cases h2
    have HSRC := Lib.hid hsrc
    have HLOW := Lib.hid hlow
    have HI := Lib.hid (And.intro hiV (And.intro hz0 (And.intro hz1 hz2)))
    clear hsrc hlow hs hiV hz0 hz1 hz2
    have b2 : iV.bytes * n ≤ 281474976710656 := by rw [HI.out.2.2.2]; omega
    have b3 : n ≤ maxLen := by unfold maxLen; omega
    have B2 := Lib.hid b2
    have B3 := Lib.hid b3
    have HS3 : Hid ((Try.prog.info? 55).map (·.size) = some 3) := Lib.hid (by rw [HI.out.1]; simp [HI.out.2.2.1])
    have HB : Hid (∀ w1, W.grownBy w1 none → Past W.heap.size W w1 ∧ ∀ j u, cs[j]? = some u → w1.cell? (a.add j) = some u) := Lib.hid fun w1 g => by
      have P1 := (Past.refl (Nat.le_refl W.heap.size)).grownRow g (fun j e => by cases e)
      exact ⟨P1, fun j u h => (P1.2.cell (p := a.add j) (by rw [add_block]; exact HLOW.out j u h)).trans (HSRC.out j u h)⟩
    clear b2 b3
    have heq := fun w => Go.Lib.run_eql_slice_some_nil (P := Try.prog) w (t := 22) a n cap Try.underlying22
    go_enter Try.func76, Try.ntmps76
    go_wp2_with (first
      | (at_make; refine wpList_make_full _ rfl _ _ 22 rfl W.heap.size 55 iV _ 3 Try.underlying22 HI.out.1 HI.out.2.1 HI.out.2.2.1 _ _ _ _ n rfl rfl rfl rfl B2.out B3.out (Nat.le_refl _) ?_; intro w1 hown1 hgrow1)
      | (with_reducible have _g := hgrow1; refine wpList_copy_wide rfl (.tmp 9) (.tmp 10) 22 22 rfl 55 3 Try.underlying22 HS3.out W.heap.size W.heap.size n n a cap rfl rfl _ hown1 cs hn (HB.out _ hgrow1).2 h1 ?_; intro w2 hown2 hgrow2))
    go_ret
    exact ⟨_, rfl, (HB.out _ hgrow1).1.grownRow hgrow2 (fun j e => by cases e; exact Nat.le_refl _), hown2⟩
theorem infoOf_N : (Try.prog.info? 3).map (fun i => (i.zero, i.size, i.bytes)) = some (some (.int .i64 0), 1, 8) := by kernel_rfl

set_option maxRecDepth 100000 in
set_option maxHeartbeats 2000000 in
theorem copyList_N (p : Option Addr) (n cap : Nat) (cs : List Value) (W : World) (hn : cs.length = n * 1) (hs : ∀ j u, cs[j]? = some u → ∃ a, p = some a ∧ W.cell? (a.add j) = some u) (h1 : ∀ u ∈ cs, u.oneCell' = true) (hl : n ≤ 1048576) :
    Calls Try.prog 64 #[.slice p n cap] W fun e w' => ∃ v', e = .returned v' ∧ Past W.heap.size W w' ∧ w'.ownsRow W.heap.size 3 1 v' n cs := by
  obtain ⟨iV, hiV, hz0, hz1, hz2⟩ := info_parts infoOf_N
  cases p with
  | none =>
    have e0 : cs = [] := by
      cases cs with
      | nil => rfl
      | cons u r => obtain ⟨a, e, _⟩ := hs 0 u rfl; cases e
    subst e0
    obtain rfl : n = 0 := by simp at hn; omega
    have heq := fun w => Go.Lib.run_eql_slice_nil_nil (P := Try.prog) w (t := 23) 0 cap Try.underlying23
    go_enter Try.func64, Try.ntmps64
    go_wp2_with fail
    go_ret
    exact ⟨_, rfl, Past.refl (Nat.le_refl _), World.ownsRow_nil _ _ _ _⟩
  | some a =>
    have hsrc : ∀ j u, cs[j]? = some u → W.cell? (a.add j) = some u := fun j u h => by obtain ⟨a', e, h⟩ := hs j u h; cases e; exact h
    have hlow : ∀ j u, cs[j]? = some u → a.block < W.heap.size := fun j u h => by
      have h2 := hsrc j u h
      by_cases h3 : (a.add j).block < W.heap.size
      · rw [add_block] at h3; exact h3
      · unfold World.cell? at h2
        rw [Array.getElem?_eq_none (Nat.le_of_not_lt h3)] at h2
        cases h2
    have HSRC := Lib.hid hsrc
    have HLOW := Lib.hid hlow
    have HI := Lib.hid (And.intro hiV (And.intro hz0 (And.intro hz1 hz2)))
    clear hsrc hlow hs hiV hz0 hz1 hz2
    have b2 : iV.bytes * n ≤ 281474976710656 := by rw [HI.out.2.2.2]; omega
    have b3 : n ≤ maxLen := by unfold maxLen; omega
    have B2 := Lib.hid b2
    have B3 := Lib.hid b3
    have HS3 : Hid ((Try.prog.info? 3).map (·.size) = some 1) := Lib.hid (by rw [HI.out.1]; simp [HI.out.2.2.1])
    have HB : Hid (∀ w1, W.grownBy w1 none → Past W.heap.size W w1 ∧ ∀ j u, cs[j]? = some u → w1.cell? (a.add j) = some u) := Lib.hid fun w1 g => by
      have P1 := (Past.refl (Nat.le_refl W.heap.size)).grownRow g (fun j e => by cases e)
      exact ⟨P1, fun j u h => (P1.2.cell (p := a.add j) (by rw [add_block]; exact HLOW.out j u h)).trans (HSRC.out j u h)⟩
    clear b2 b3
    have heq := fun w => Go.Lib.run_eql_slice_some_nil (P := Try.prog) w (t := 23) a n cap Try.underlying23
    go_enter Try.func64, Try.ntmps64
    go_wp2_with (first
      | (at_make; refine wpList_make_full _ rfl _ _ 23 rfl W.heap.size 3 iV _ 1 Try.underlying23 HI.out.1 HI.out.2.1 HI.out.2.2.1 _ _ _ _ n rfl rfl rfl rfl B2.out B3.out (Nat.le_refl _) ?_; intro w1 hown1 hgrow1)
      | (with_reducible have _g := hgrow1; refine wpList_copy_wide rfl (.tmp 9) (.tmp 10) 23 23 rfl 3 1 Try.underlying23 HS3.out W.heap.size W.heap.size n n a cap rfl rfl _ hown1 cs hn (HB.out _ hgrow1).2 h1 ?_; intro w2 hown2 hgrow2))
    go_ret
    exact ⟨_, rfl, (HB.out _ hgrow1).1.grownRow hgrow2 (fun j e => by cases e; exact Nat.le_refl _), hown2⟩
theorem infoOf_C : (Try.prog.info? 25).map (fun i => (i.zero, i.size, i.bytes)) = some (some (.agg #[.int .i64 0, .int .i64 0, .int .i64 0, .int .i64 0, .int .i64 0, .slice none 0 0, .slice none 0 0]), 7, 88) := by kernel_rfl

set_option maxRecDepth 100000 in
set_option maxHeartbeats 2000000 in
theorem copyList_C (p : Option Addr) (n cap : Nat) (cs : List Value) (W : World) (hn : cs.length = n * 7) (hs : ∀ j u, cs[j]? = some u → ∃ a, p = some a ∧ W.cell? (a.add j) = some u) (h1 : ∀ u ∈ cs, u.oneCell' = true) (hl : n ≤ 1048576) :
    Calls Try.prog 75 #[.slice p n cap] W fun e w' => ∃ v', e = .returned v' ∧ Past W.heap.size W w' ∧ w'.ownsRow W.heap.size 25 7 v' n cs := by
  obtain ⟨iV, hiV, hz0, hz1, hz2⟩ := info_parts infoOf_C
  cases p with
  | none =>
    have e0 : cs = [] := by
      cases cs with
      | nil => rfl
      | cons u r => obtain ⟨a, e, _⟩ := hs 0 u rfl; cases e
    subst e0
    obtain rfl : n = 0 := by simp at hn; omega
    have heq := fun w => Go.Lib.run_eql_slice_nil_nil (P := Try.prog) w (t := 42) 0 cap Try.underlying42
    go_enter Try.func75, Try.ntmps75
    go_wp2_with fail
    go_ret
    exact ⟨_, rfl, Past.refl (Nat.le_refl _), World.ownsRow_nil _ _ _ _⟩
  | some a =>
    have hsrc : ∀ j u, cs[j]? = some u → W.cell? (a.add j) = some u := fun j u h => by obtain ⟨a', e, h⟩ := hs j u h; cases e; exact h
    have hlow : ∀ j u, cs[j]? = some u → a.block < W.heap.size := fun j u h => by
      have h2 := hsrc j u h
      by_cases h3 : (a.add j).block < W.heap.size
      · rw [add_block] at h3; exact h3
      · unfold World.cell? at h2
        rw [Array.getElem?_eq_none (Nat.le_of_not_lt h3)] at h2
        cases h2
    have HSRC := Lib.hid hsrc
    have HLOW := Lib.hid hlow
    have HI := Lib.hid (And.intro hiV (And.intro hz0 (And.intro hz1 hz2)))
    clear hsrc hlow hs hiV hz0 hz1 hz2
    have b2 : iV.bytes * n ≤ 281474976710656 := by rw [HI.out.2.2.2]; omega
    have b3 : n ≤ maxLen := by unfold maxLen; omega
    have B2 := Lib.hid b2
    have B3 := Lib.hid b3
    have HS3 : Hid ((Try.prog.info? 25).map (·.size) = some 7) := Lib.hid (by rw [HI.out.1]; simp [HI.out.2.2.1])
    have HB : Hid (∀ w1, W.grownBy w1 none → Past W.heap.size W w1 ∧ ∀ j u, cs[j]? = some u → w1.cell? (a.add j) = some u) := Lib.hid fun w1 g => by
      have P1 := (Past.refl (Nat.le_refl W.heap.size)).grownRow g (fun j e => by cases e)
      exact ⟨P1, fun j u h => (P1.2.cell (p := a.add j) (by rw [add_block]; exact HLOW.out j u h)).trans (HSRC.out j u h)⟩
    clear b2 b3
    have heq := fun w => Go.Lib.run_eql_slice_some_nil (P := Try.prog) w (t := 42) a n cap Try.underlying42
    go_enter Try.func75, Try.ntmps75
    go_wp2_with (first
      | (at_make; refine wpList_make_full _ rfl _ _ 42 rfl W.heap.size 25 iV _ 7 Try.underlying42 HI.out.1 HI.out.2.1 HI.out.2.2.1 _ _ _ _ n rfl rfl rfl rfl B2.out B3.out (Nat.le_refl _) ?_; intro w1 hown1 hgrow1)
      | (with_reducible have _g := hgrow1; refine wpList_copy_wide rfl (.tmp 9) (.tmp 10) 42 42 rfl 25 7 Try.underlying42 HS3.out W.heap.size W.heap.size n n a cap rfl rfl _ hown1 cs hn (HB.out _ hgrow1).2 h1 ?_; intro w2 hown2 hgrow2))
    go_ret
    exact ⟨_, rfl, (HB.out _ hgrow1).1.grownRow hgrow2 (fun j e => by cases e; exact Nat.le_refl _), hown2⟩
theorem infoOf_B : (Try.prog.info? 67).map (fun i => (i.zero, i.size, i.bytes)) = some (some (.agg #[.slice none 0 0]), 1, 24) := by kernel_rfl

set_option maxRecDepth 100000 in
set_option maxHeartbeats 2000000 in
theorem copyList_B (p : Option Addr) (n cap : Nat) (cs : List Value) (W : World) (hn : cs.length = n * 1) (hs : ∀ j u, cs[j]? = some u → ∃ a, p = some a ∧ W.cell? (a.add j) = some u) (h1 : ∀ u ∈ cs, u.oneCell' = true) (hl : n ≤ 1048576) :
    Calls Try.prog 71 #[.slice p n cap] W fun e w' => ∃ v', e = .returned v' ∧ Past W.heap.size W w' ∧ w'.ownsRow W.heap.size 67 1 v' n cs := by
  obtain ⟨iV, hiV, hz0, hz1, hz2⟩ := info_parts infoOf_B
  cases p with
  | none =>
    have e0 : cs = [] := by
      cases cs with
      | nil => rfl
      | cons u r => obtain ⟨a, e, _⟩ := hs 0 u rfl; cases e
    subst e0
    obtain rfl : n = 0 := by simp at hn; omega
    have heq := fun w => Go.Lib.run_eql_slice_nil_nil (P := Try.prog) w (t := 39) 0 cap Try.underlying39
    go_enter Try.func71, Try.ntmps71
    go_wp2_with fail
    go_ret
    exact ⟨_, rfl, Past.refl (Nat.le_refl _), World.ownsRow_nil _ _ _ _⟩
  | some a =>
    have hsrc : ∀ j u, cs[j]? = some u → W.cell? (a.add j) = some u := fun j u h => by obtain ⟨a', e, h⟩ := hs j u h; cases e; exact h
    have hlow : ∀ j u, cs[j]? = some u → a.block < W.heap.size := fun j u h => by
      have h2 := hsrc j u h
      by_cases h3 : (a.add j).block < W.heap.size
      · rw [add_block] at h3; exact h3
      · unfold World.cell? at h2
        rw [Array.getElem?_eq_none (Nat.le_of_not_lt h3)] at h2
        cases h2
    have HSRC := Lib.hid hsrc
    have HLOW := Lib.hid hlow
    have HI := Lib.hid (And.intro hiV (And.intro hz0 (And.intro hz1 hz2)))
    clear hsrc hlow hs hiV hz0 hz1 hz2
    have b2 : iV.bytes * n ≤ 281474976710656 := by rw [HI.out.2.2.2]; omega
    have b3 : n ≤ maxLen := by unfold maxLen; omega
    have B2 := Lib.hid b2
    have B3 := Lib.hid b3
    have HS3 : Hid ((Try.prog.info? 67).map (·.size) = some 1) := Lib.hid (by rw [HI.out.1]; simp [HI.out.2.2.1])
    have HB : Hid (∀ w1, W.grownBy w1 none → Past W.heap.size W w1 ∧ ∀ j u, cs[j]? = some u → w1.cell? (a.add j) = some u) := Lib.hid fun w1 g => by
      have P1 := (Past.refl (Nat.le_refl W.heap.size)).grownRow g (fun j e => by cases e)
      exact ⟨P1, fun j u h => (P1.2.cell (p := a.add j) (by rw [add_block]; exact HLOW.out j u h)).trans (HSRC.out j u h)⟩
    clear b2 b3
    have heq := fun w => Go.Lib.run_eql_slice_some_nil (P := Try.prog) w (t := 39) a n cap Try.underlying39
    go_enter Try.func71, Try.ntmps71
    go_wp2_with (first
      | (at_make; refine wpList_make_full _ rfl _ _ 39 rfl W.heap.size 67 iV _ 1 Try.underlying39 HI.out.1 HI.out.2.1 HI.out.2.2.1 _ _ _ _ n rfl rfl rfl rfl B2.out B3.out (Nat.le_refl _) ?_; intro w1 hown1 hgrow1)
      | (with_reducible have _g := hgrow1; refine wpList_copy_wide rfl (.tmp 9) (.tmp 10) 39 39 rfl 67 1 Try.underlying39 HS3.out W.heap.size W.heap.size n n a cap rfl rfl _ hown1 cs hn (HB.out _ hgrow1).2 h1 ?_; intro w2 hown2 hgrow2))
    go_ret
    exact ⟨_, rfl, (HB.out _ hgrow1).1.grownRow hgrow2 (fun j e => by cases e; exact Nat.le_refl _), hown2⟩
end Go.Proofs.Ytpfeiolmkbibiaa
