/- Package ir: copyList and copyEach of the parts of a module. -/
import Derived.Test.YtpfeiolmkbibiaaOwnB
import Derived.Lib.BufferMore
namespace Go.Proofs.Ytpfeiolmkbibiaa
open Go.RowKit Go.Maps
set_option linter.unusedVariables false
set_option linter.unusedSimpArgs false

theorem infoOf_G : (Try.prog.info? 73).map (fun i => (i.zero, i.size, i.bytes)) = some (some (.agg #[.string ByteArray.empty, .int .i64 0]), 2, 24) := by kernel_rfl

set_option maxRecDepth 100000 in
set_option maxHeartbeats 2000000 in
theorem copyList_G (p : Option Addr) (n cap : Nat) (cs : List Value) (W : World) (hn : cs.length = n * 2) (hs : ∀ j u, cs[j]? = some u → ∃ a, p = some a ∧ W.cell? (a.add j) = some u) (h1 : ∀ u ∈ cs, u.oneCell' = true) (hl : n ≤ 1048576) :
    Calls Try.prog 47 #[.slice p n cap] W fun e w' => ∃ v', e = .returned v' ∧ Past W.heap.size W w' ∧ w'.ownsRow W.heap.size 73 2 v' n cs := by
  obtain ⟨iV, hiV, hz0, hz1, hz2⟩ := info_parts infoOf_G
  cases p with
  | none =>
    have e0 : cs = [] := by
      cases cs with
      | nil => rfl
      | cons u r => obtain ⟨a, e, _⟩ := hs 0 u rfl; cases e
    subst e0
    obtain rfl : n = 0 := by simp at hn; omega
    have heq := fun w => Go.Lib.run_eql_slice_nil_nil (P := Try.prog) w (t := 30) 0 cap Try.underlying30
    go_enter Try.func47, Try.ntmps47
    go_wp2_with fail
    go_ret
    exact ⟨_, rfl, Past.refl (Nat.le_refl _), World.ownsRow_nil _ _ _ _⟩
  | some a =>
    have hsrc : ∀ j u, cs[j]? = some u → W.cell? (a.add j) = some u := fun j u h => by obtain ⟨a', e, h⟩ := hs j u h; cases e; exact h
    have hlow : ∀ j u, cs[j]? = some u → a.block < W.heap.size := fun j u h => by
      have h2 := hsrc j u h
      by_cases h3 : (a.add j).block < W.heap.size
      · rw [add_block] at h3; exact h3
      · unfold World.cell? at h2
        rw [Array.getElem?_eq_none (Nat.le_of_not_lt h3)] at h2
        cases h2
    have HSRC := Lib.hid hsrc
    have HLOW := Lib.hid hlow
    have HI := Lib.hid (And.intro hiV (And.intro hz0 (And.intro hz1 hz2)))
    clear hsrc hlow hs hiV hz0 hz1 hz2
    have b2 : iV.bytes * n ≤ 281474976710656 := by rw [HI.out.2.2.2]; omega
    have b3 : n ≤ maxLen := by unfold maxLen; omega
    have B2 := Lib.hid b2
    have B3 := Lib.hid b3
    have HS3 : Hid ((Try.prog.info? 73).map (·.size) = some 2) := Lib.hid (by rw [HI.out.1]; simp [HI.out.2.2.1])
    have HB : Hid (∀ w1, W.grownBy w1 none → Past W.heap.size W w1 ∧ ∀ j u, cs[j]? = some u → w1.cell? (a.add j) = some u) := Lib.hid fun w1 g => by
      have P1 := (Past.refl (Nat.le_refl W.heap.size)).grownRow g (fun j e => by cases e)
      exact ⟨P1, fun j u h => (P1.2.cell (p := a.add j) (by rw [add_block]; exact HLOW.out j u h)).trans (HSRC.out j u h)⟩
    clear b2 b3
    have heq := fun w => Go.Lib.run_eql_slice_some_nil (P := Try.prog) w (t := 30) a n cap Try.underlying30
    go_enter Try.func47, Try.ntmps47
    go_wp2_with (first
      | (at_make; refine wpList_make_full _ rfl _ _ 30 rfl W.heap.size 73 iV _ 2 Try.underlying30 HI.out.1 HI.out.2.1 HI.out.2.2.1 _ _ _ _ n rfl rfl rfl rfl B2.out B3.out (Nat.le_refl _) ?_; intro w1 hown1 hgrow1)
      | (with_reducible have _g := hgrow1; refine wpList_copy_wide rfl (.tmp 9) (.tmp 10) 30 30 rfl 73 2 Try.underlying30 HS3.out W.heap.size W.heap.size n n a cap rfl rfl _ hown1 cs hn (HB.out _ hgrow1).2 h1 ?_; intro w2 hown2 hgrow2))
    go_ret
    exact ⟨_, rfl, (HB.out _ hgrow1).1.grownRow hgrow2 (fun j e => by cases e; exact Nat.le_refl _), hown2⟩

theorem infoOf_X : (Try.prog.info? 70).map (fun i => (i.zero, i.size, i.bytes)) = some (some (.agg #[.string ByteArray.empty, .slice none 0 0, .int .i64 0]), 3, 48) := by kernel_rfl

set_option maxRecDepth 100000 in
set_option maxHeartbeats 2000000 in
theorem copyList_X (p : Option Addr) (n cap : Nat) (cs : List Value) (W : World) (hn : cs.length = n * 3) (hs : ∀ j u, cs[j]? = some u → ∃ a, p = some a ∧ W.cell? (a.add j) = some u) (h1 : ∀ u ∈ cs, u.oneCell' = true) (hl : n ≤ 1048576) :
    Calls Try.prog 67 #[.slice p n cap] W fun e w' => ∃ v', e = .returned v' ∧ Past W.heap.size W w' ∧ w'.ownsRow W.heap.size 70 3 v' n cs := by
  obtain ⟨iV, hiV, hz0, hz1, hz2⟩ := info_parts infoOf_X
  cases p with
  | none =>
    have e0 : cs = [] := by
      cases cs with
      | nil => rfl
      | cons u r => obtain ⟨a, e, _⟩ := hs 0 u rfl; cases e
    subst e0
    obtain rfl : n = 0 := by simp at hn; omega
    have heq := fun w => Go.Lib.run_eql_slice_nil_nil (P := Try.prog) w (t := 31) 0 cap Try.underlying31
    go_enter Try.func67, Try.ntmps67
    go_wp2_with fail
    go_ret
    exact ⟨_, rfl, Past.refl (Nat.le_refl _), World.ownsRow_nil _ _ _ _⟩
  | some a =>
    have hsrc : ∀ j u, cs[j]? = some u → W.cell? (a.add j) = some u := fun j u h => by obtain ⟨a', e, h⟩ := hs j u h; cases e; exact h
    have hlow : ∀ j u, cs[j]? = some u → a.block < W.heap.size := fun j u h => by
      have h2 := hsrc j u h
      by_cases h3 : (a.add j).block < W.heap.size
      · rw [add_block] at h3; exact h3
      · unfold World.cell? at h2
        rw [Array.getElem?_eq_none (Nat.le_of_not_lt h3)] at h2
        cases h2
    have HSRC := Lib.hid hsrc
    have HLOW := Lib.hid hlow
    have HI := Lib.hid (And.intro hiV (And.intro hz0 (And.intro hz1 hz2)))
    clear hsrc hlow hs hiV hz0 hz1 hz2
    have b2 : iV.bytes * n ≤ 281474976710656 := by rw [HI.out.2.2.2]; omega
    have b3 : n ≤ maxLen := by unfold maxLen; omega
    have B2 := Lib.hid b2
    have B3 := Lib.hid b3
    have HS3 : Hid ((Try.prog.info? 70).map (·.size) = some 3) := Lib.hid (by rw [HI.out.1]; simp [HI.out.2.2.1])
    have HB : Hid (∀ w1, W.grownBy w1 none → Past W.heap.size W w1 ∧ ∀ j u, cs[j]? = some u → w1.cell? (a.add j) = some u) := Lib.hid fun w1 g => by
      have P1 := (Past.refl (Nat.le_refl W.heap.size)).grownRow g (fun j e => by cases e)
      exact ⟨P1, fun j u h => (P1.2.cell (p := a.add j) (by rw [add_block]; exact HLOW.out j u h)).trans (HSRC.out j u h)⟩
    clear b2 b3
    have heq := fun w => Go.Lib.run_eql_slice_some_nil (P := Try.prog) w (t := 31) a n cap Try.underlying31
    go_enter Try.func67, Try.ntmps67
    go_wp2_with (first
      | (at_make; refine wpList_make_full _ rfl _ _ 31 rfl W.heap.size 70 iV _ 3 Try.underlying31 HI.out.1 HI.out.2.1 HI.out.2.2.1 _ _ _ _ n rfl rfl rfl rfl B2.out B3.out (Nat.le_refl _) ?_; intro w1 hown1 hgrow1)
      | (with_reducible have _g := hgrow1; refine wpList_copy_wide rfl (.tmp 9) (.tmp 10) 31 31 rfl 70 3 Try.underlying31 HS3.out W.heap.size W.heap.size n n a cap rfl rfl _ hown1 cs hn (HB.out _ hgrow1).2 h1 ?_; intro w2 hown2 hgrow2))
    go_ret
    exact ⟨_, rfl, (HB.out _ hgrow1).1.grownRow hgrow2 (fun j e => by cases e; exact Nat.le_refl _), hown2⟩

theorem infoOf_F : (Try.prog.info? 41).map (fun i => (i.zero, i.size, i.bytes)) = some (some (.agg #[.string ByteArray.empty, .slice none 0 0, .int .i64 0, .slice none 0 0]), 4, 72) := by kernel_rfl

set_option maxRecDepth 100000 in
set_option maxHeartbeats 2000000 in
theorem copyList_F (p : Option Addr) (n cap : Nat) (cs : List Value) (W : World) (hn : cs.length = n * 4) (hs : ∀ j u, cs[j]? = some u → ∃ a, p = some a ∧ W.cell? (a.add j) = some u) (h1 : ∀ u ∈ cs, u.oneCell' = true) (hl : n ≤ 1048576) :
    Calls Try.prog 68 #[.slice p n cap] W fun e w' => ∃ v', e = .returned v' ∧ Past W.heap.size W w' ∧ w'.ownsRow W.heap.size 41 4 v' n cs := by
  obtain ⟨iV, hiV, hz0, hz1, hz2⟩ := info_parts infoOf_F
  cases p with
  | none =>
    have e0 : cs = [] := by
      cases cs with
      | nil => rfl
      | cons u r => obtain ⟨a, e, _⟩ := hs 0 u rfl; cases e
    subst e0
    obtain rfl : n = 0 := by simp at hn; omega
    have heq := fun w => Go.Lib.run_eql_slice_nil_nil (P := Try.prog) w (t := 32) 0 cap Try.underlying32
    go_enter Try.func68, Try.ntmps68
    go_wp2_with fail
    go_ret
    exact ⟨_, rfl, Past.refl (Nat.le_refl _), World.ownsRow_nil _ _ _ _⟩
  | some a =>
    have hsrc : ∀ j u, cs[j]? = some u → W.cell? (a.add j) = some u := fun j u h => by obtain ⟨a', e, h⟩ := hs j u h; cases e; exact h
    have hlow : ∀ j u, cs[j]? = some u → a.block < W.heap.size := fun j u h => by
      have h2 := hsrc j u h
      by_cases h3 : (a.add j).block < W.heap.size
      · rw [add_block] at h3; exact h3
      · unfold World.cell? at h2
        rw [Array.getElem?_eq_none (Nat.le_of_not_lt h3)] at h2
        cases h2
    have HSRC := Lib.hid hsrc
    have HLOW := Lib.hid hlow
    have HI := Lib.hid (And.intro hiV (And.intro hz0 (And.intro hz1 hz2)))
    clear hsrc hlow hs hiV hz0 hz1 hz2
    have b2 : iV.bytes * n ≤ 281474976710656 := by rw [HI.out.2.2.2]; omega
    have b3 : n ≤ maxLen := by unfold maxLen; omega
    have B2 := Lib.hid b2
    have B3 := Lib.hid b3
    have HS3 : Hid ((Try.prog.info? 41).map (·.size) = some 4) := Lib.hid (by rw [HI.out.1]; simp [HI.out.2.2.1])
    have HB : Hid (∀ w1, W.grownBy w1 none → Past W.heap.size W w1 ∧ ∀ j u, cs[j]? = some u → w1.cell? (a.add j) = some u) := Lib.hid fun w1 g => by
      have P1 := (Past.refl (Nat.le_refl W.heap.size)).grownRow g (fun j e => by cases e)
      exact ⟨P1, fun j u h => (P1.2.cell (p := a.add j) (by rw [add_block]; exact HLOW.out j u h)).trans (HSRC.out j u h)⟩
    clear b2 b3
    have heq := fun w => Go.Lib.run_eql_slice_some_nil (P := Try.prog) w (t := 32) a n cap Try.underlying32
    go_enter Try.func68, Try.ntmps68
    go_wp2_with (first
      | (at_make; refine wpList_make_full _ rfl _ _ 32 rfl W.heap.size 41 iV _ 4 Try.underlying32 HI.out.1 HI.out.2.1 HI.out.2.2.1 _ _ _ _ n rfl rfl rfl rfl B2.out B3.out (Nat.le_refl _) ?_; intro w1 hown1 hgrow1)
      | (with_reducible have _g := hgrow1; refine wpList_copy_wide rfl (.tmp 9) (.tmp 10) 32 32 rfl 41 4 Try.underlying32 HS3.out W.heap.size W.heap.size n n a cap rfl rfl _ hown1 cs hn (HB.out _ hgrow1).2 h1 ?_; intro w2 hown2 hgrow2))
    go_ret
    exact ⟨_, rfl, (HB.out _ hgrow1).1.grownRow hgrow2 (fun j e => by cases e; exact Nat.le_refl _), hown2⟩


set_option maxRecDepth 100000 in
set_option maxHeartbeats 2000000 in
theorem copyEach_X {α δ : Type} (cel : α → List Value) (hcel : ∀ x, (cel x).length = 3) (hone : ∀ x, ∀ u ∈ cel x, u.oneCell' = true) (dat : α → δ) (Q : Nat → Nat → World → α → Prop) (hQ : Local Q) (h : FuncId) (hen : ∀ (args : Array Value) (w : World), (callFunc h args).run Try.prog w = .ok (.enter h args) w)
    (xs : List α) (p : Option Addr) (cap : Nat) (W : World) (hs : ∀ j u, (xs.flatMap cel)[j]? = some u → ∃ a, p = some a ∧ W.cell? (a.add j) = some u) (hl : xs.length ≤ 1048576)
    (hcopy : ∀ i (hi : i < xs.length) w, Past W.heap.size W w → Calls Try.prog h #[.agg (cel xs[i]).toArray] w fun e w' => ∃ y, e = .returned (.agg (cel y).toArray) ∧ dat y = dat xs[i] ∧ Past w.heap.size w w' ∧ Q w.heap.size w'.heap.size w' y) :
    Calls Try.prog 48 #[.slice p xs.length cap, .func (.func h) #[] #[]] W fun e w' => ∃ v' ys, e = .returned v' ∧ ys.map dat = xs.map dat ∧ Past W.heap.size W w' ∧ w'.ownsRow W.heap.size 70 3 v' ys.length (ys.flatMap cel) ∧ Spread Q v'.ownBlock W.heap.size w'.heap.size w' ys := by
  have HC := Lib.hid hcopy
  have HI : Hid ((Try.prog.info? 70).map (·.size) = some 3) := Lib.hid (by kernel_rfl)
  clear hcopy
  go_enter Try.func48, Try.ntmps48
  go_wp2_with fail
  refine (copyList_X p xs.length cap (xs.flatMap cel) W (flat_len cel 3 hcel xs) hs (fun u hu => by obtain ⟨x, _, hx⟩ := List.mem_flatMap.1 hu; exact hone x u hx) hl).mono ?_
  rintro e w1 ⟨v1, rfl, hp1, hr1⟩
  obtain ⟨q1, c1, rfl⟩ := row_slice hr1
  go_wp2_with fail
  go_loopw [10] (fun t wr => ∃ ys : List α, ys.length ≤ xs.length ∧ t = .int .i64 ys.length ∧ ys.map dat = (xs.take ys.length).map dat ∧ Past W.heap.size W wr ∧ wr.ownsRow W.heap.size 70 3 (.slice q1 xs.length c1) xs.length ((ys ++ xs.drop ys.length).flatMap cel) ∧ Spread Q (Value.slice q1 xs.length c1).ownBlock W.heap.size wr.heap.size wr ys) (fun t _ => xs.length - (intOf t).toNat)
  case atStart => exact ⟨[], Nat.zero_le _, rfl, rfl, hp1, by simpa using hr1, hp1.size⟩
  case round =>
    obtain ⟨ys, hy, rfl, hd, hp, hr, hsp⟩ := hrel
    by_cases hlt : ys.length < xs.length
    · obtain ⟨g, rfl⟩ : ∃ g, q1 = some ⟨g, 0, none⟩ := by
        rcases id hr.2 with ⟨_, h0⟩ | ⟨g, cap, cur, e, _⟩
        · omega
        · injection e with e1 e2 e3; exact ⟨g, e1⟩
      have hg := hr.lt g rfl
      have hil : ys.length < (ys ++ xs.drop ys.length).length := by rw [List.length_append, List.length_drop]; omega
      have eel : (ys ++ xs.drop ys.length)[ys.length]'hil = xs[ys.length] := by rw [List.getElem_append_right (Nat.le_refl _)]; simp
      have hrange := own_range hcel hr ys.length hil
      rw [eel] at hrange
      have hcap : xs.length ≤ c1 ∧ c1 ≤ maxLen := by
        rcases id hr.2 with ⟨h0, _⟩ | ⟨g, cap, cur, e, _, _, h1, h2, _⟩
        · cases h0
        · injection e with e1 e2 e3; subst e3; exact ⟨h1, h2⟩
      obtain ⟨hcap1, hcap2⟩ := hcap
      unfold maxLen at hcap2
      have HRG := Lib.hid hrange
      have HEEL := Lib.hid eel
      have HR := Lib.hid hr
      have HSP := Lib.hid hsp
      clear hrange eel hr hsp
      go_wp2_with (first
        | (refine wpList_load_mid rfl 70 (.tmp 18) rfl g (ys.length * 3) (by simp [go_sem]) (cel xs[ys.length]) _ HRG.out Try.underlying70 rfl (by rw [hcel]; exact HI.out) ?_))
      refine (HC.out ys.length hlt wr hp).mono ?_
      rintro e w2 ⟨y, rfl, hdy, hp2, hq2⟩
      have hr2 := ownsRow_below HR.out hp2.2
      have hth := own_there hcel hr2 ys.length hil
      have HTH := Lib.hid hth
      clear hth
      go_wp2_with (first
        | (refine wpList_store_mid rfl 70 (.tmp 21) (.tmp 20) rfl g (ys.length * 3) (cel y).toArray (by simp [go_sem]) (by simp [go_sem]) (by simpa [hcel] using HTH.out) (by simpa [hcel] using HI.out) (all_oneCell_toArray (hone y)) ?_))
      have hset := setCells_own (cel y) (ys.length * 3) hr2
      rw [sets_flat cel 3 (by decide) hcel _ ys.length hil y] at hset
      have el : (ys ++ xs.drop ys.length).set ys.length y = (ys ++ [y]) ++ xs.drop (ys ++ [y]).length := by
        rw [List.set_append_right _ _ (Nat.le_refl _), Nat.sub_self, List.drop_eq_getElem_cons hlt, List.set_cons_zero, List.append_assoc]
        simp
      rw [el] at hset
      have hheap := setCells_heap g (cel y) (ys.length * 3) w2
      have hs1 := (HSP.out).stay hQ (w' := w2.setCells g (ys.length * 3) (cel y)) (fun k h1 h2 h3 => (hheap k (fun e => h3 (by rw [e]; rfl))).trans (hp2.2.block k h2))
      have hs2 := hs1.snoc (Nat.le_refl _) hp2.2.size (fun k e => by have e2 : g = k := by simpa [Value.ownBlock] using e
                                                                     omega) (hQ _ _ _ _ _ (fun k h1 h2 => hheap k (by omega)) hq2)
      rw [← setCells_size g (cel y) (ys.length * 3) w2] at hs2
      try simp only [Nat.mul_one] at hset hs2
      refine ⟨⟨ys ++ [y], by simp; omega, by simp, ?_, Past.setCells hg.1 _ _ (hp.trans ⟨hp.size, hp2.2.mono hp.size⟩), hset, hs2⟩, by simp [intOf]; omega⟩
      rw [List.map_append, hd, List.length_append, List.length_singleton, List.take_succ_eq_append_getElem hlt, List.map_append, List.map_singleton, hdy]
      rfl
    · obtain e : ys.length = xs.length := by omega
      rw [e, List.drop_length, List.append_nil] at hr
      rw [e, List.take_length] at hd
      go_wp2_with fail
      go_ret
      exact ⟨_, ys, rfl, hd, hp, by rw [e]; exact hr, hsp⟩


set_option maxRecDepth 100000 in
set_option maxHeartbeats 2000000 in
theorem copyEach_F {α δ : Type} (cel : α → List Value) (hcel : ∀ x, (cel x).length = 4) (hone : ∀ x, ∀ u ∈ cel x, u.oneCell' = true) (dat : α → δ) (Q : Nat → Nat → World → α → Prop) (hQ : Local Q) (h : FuncId) (hen : ∀ (args : Array Value) (w : World), (callFunc h args).run Try.prog w = .ok (.enter h args) w)
    (xs : List α) (p : Option Addr) (cap : Nat) (W : World) (hs : ∀ j u, (xs.flatMap cel)[j]? = some u → ∃ a, p = some a ∧ W.cell? (a.add j) = some u) (hl : xs.length ≤ 1048576)
    (hcopy : ∀ i (hi : i < xs.length) w, Past W.heap.size W w → Calls Try.prog h #[.agg (cel xs[i]).toArray] w fun e w' => ∃ y, e = .returned (.agg (cel y).toArray) ∧ dat y = dat xs[i] ∧ Past w.heap.size w w' ∧ Q w.heap.size w'.heap.size w' y) :
    Calls Try.prog 50 #[.slice p xs.length cap, .func (.func h) #[] #[]] W fun e w' => ∃ v' ys, e = .returned v' ∧ ys.map dat = xs.map dat ∧ Past W.heap.size W w' ∧ w'.ownsRow W.heap.size 41 4 v' ys.length (ys.flatMap cel) ∧ Spread Q v'.ownBlock W.heap.size w'.heap.size w' ys := by
  have HC := Lib.hid hcopy
  have HI : Hid ((Try.prog.info? 41).map (·.size) = some 4) := Lib.hid (by kernel_rfl)
  clear hcopy
  go_enter Try.func50, Try.ntmps50
  go_wp2_with fail
  refine (copyList_F p xs.length cap (xs.flatMap cel) W (flat_len cel 4 hcel xs) hs (fun u hu => by obtain ⟨x, _, hx⟩ := List.mem_flatMap.1 hu; exact hone x u hx) hl).mono ?_
  rintro e w1 ⟨v1, rfl, hp1, hr1⟩
  obtain ⟨q1, c1, rfl⟩ := row_slice hr1
  go_wp2_with fail
  go_loopw [10] (fun t wr => ∃ ys : List α, ys.length ≤ xs.length ∧ t = .int .i64 ys.length ∧ ys.map dat = (xs.take ys.length).map dat ∧ Past W.heap.size W wr ∧ wr.ownsRow W.heap.size 41 4 (.slice q1 xs.length c1) xs.length ((ys ++ xs.drop ys.length).flatMap cel) ∧ Spread Q (Value.slice q1 xs.length c1).ownBlock W.heap.size wr.heap.size wr ys) (fun t _ => xs.length - (intOf t).toNat)
  case atStart => exact ⟨[], Nat.zero_le _, rfl, rfl, hp1, by simpa using hr1, hp1.size⟩
  case round =>
    obtain ⟨ys, hy, rfl, hd, hp, hr, hsp⟩ := hrel
    by_cases hlt : ys.length < xs.length
    · obtain ⟨g, rfl⟩ : ∃ g, q1 = some ⟨g, 0, none⟩ := by
        rcases id hr.2 with ⟨_, h0⟩ | ⟨g, cap, cur, e, _⟩
        · omega
        · injection e with e1 e2 e3; exact ⟨g, e1⟩
      have hg := hr.lt g rfl
      have hil : ys.length < (ys ++ xs.drop ys.length).length := by rw [List.length_append, List.length_drop]; omega
      have eel : (ys ++ xs.drop ys.length)[ys.length]'hil = xs[ys.length] := by rw [List.getElem_append_right (Nat.le_refl _)]; simp
      have hrange := own_range hcel hr ys.length hil
      rw [eel] at hrange
      have hcap : xs.length ≤ c1 ∧ c1 ≤ maxLen := by
        rcases id hr.2 with ⟨h0, _⟩ | ⟨g, cap, cur, e, _, _, h1, h2, _⟩
        · cases h0
        · injection e with e1 e2 e3; subst e3; exact ⟨h1, h2⟩
      obtain ⟨hcap1, hcap2⟩ := hcap
      unfold maxLen at hcap2
      have HRG := Lib.hid hrange
      have HEEL := Lib.hid eel
      have HR := Lib.hid hr
      have HSP := Lib.hid hsp
      clear hrange eel hr hsp
      go_wp2_with (first
        | (refine wpList_load_mid rfl 41 (.tmp 18) rfl g (ys.length * 4) (by simp [go_sem]) (cel xs[ys.length]) _ HRG.out Try.underlying41 rfl (by rw [hcel]; exact HI.out) ?_))
      refine (HC.out ys.length hlt wr hp).mono ?_
      rintro e w2 ⟨y, rfl, hdy, hp2, hq2⟩
      have hr2 := ownsRow_below HR.out hp2.2
      have hth := own_there hcel hr2 ys.length hil
      have HTH := Lib.hid hth
      clear hth
      go_wp2_with (first
        | (refine wpList_store_mid rfl 41 (.tmp 21) (.tmp 20) rfl g (ys.length * 4) (cel y).toArray (by simp [go_sem]) (by simp [go_sem]) (by simpa [hcel] using HTH.out) (by simpa [hcel] using HI.out) (all_oneCell_toArray (hone y)) ?_))
      have hset := setCells_own (cel y) (ys.length * 4) hr2
      rw [sets_flat cel 4 (by decide) hcel _ ys.length hil y] at hset
      have el : (ys ++ xs.drop ys.length).set ys.length y = (ys ++ [y]) ++ xs.drop (ys ++ [y]).length := by
        rw [List.set_append_right _ _ (Nat.le_refl _), Nat.sub_self, List.drop_eq_getElem_cons hlt, List.set_cons_zero, List.append_assoc]
        simp
      rw [el] at hset
      have hheap := setCells_heap g (cel y) (ys.length * 4) w2
      have hs1 := (HSP.out).stay hQ (w' := w2.setCells g (ys.length * 4) (cel y)) (fun k h1 h2 h3 => (hheap k (fun e => h3 (by rw [e]; rfl))).trans (hp2.2.block k h2))
      have hs2 := hs1.snoc (Nat.le_refl _) hp2.2.size (fun k e => by have e2 : g = k := by simpa [Value.ownBlock] using e
                                                                     omega) (hQ _ _ _ _ _ (fun k h1 h2 => hheap k (by omega)) hq2)
      rw [← setCells_size g (cel y) (ys.length * 4) w2] at hs2
      try simp only [Nat.mul_one] at hset hs2
      refine ⟨⟨ys ++ [y], by simp; omega, by simp, ?_, Past.setCells hg.1 _ _ (hp.trans ⟨hp.size, hp2.2.mono hp.size⟩), hset, hs2⟩, by simp [intOf]; omega⟩
      rw [List.map_append, hd, List.length_append, List.length_singleton, List.take_succ_eq_append_getElem hlt, List.map_append, List.map_singleton, hdy]
      rfl
    · obtain e : ys.length = xs.length := by omega
      rw [e, List.drop_length, List.append_nil] at hr
      rw [e, List.take_length] at hd
      go_wp2_with fail
      go_ret
      exact ⟨_, ys, rfl, hd, hp, by rw [e]; exact hr, hsp⟩

end Go.Proofs.Ytpfeiolmkbibiaa

