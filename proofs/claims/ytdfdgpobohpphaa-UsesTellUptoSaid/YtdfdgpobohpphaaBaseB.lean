/- What this seat takes of layer 2's texts (BaseB) -/
import Derived.Test.YtdfdgpobohpphaaBaseA
import Derived.OwnWalk
import Derived.Laws.CopyOwn
import Derived.Lib.BufferMore
import Derived.Deep.Heap
import Derived.Deep.Onto
import Derived.Deep.MidRow
namespace Go.Proofs.Ytdfdgpobohpphaa
open Go.RowKit Go.Maps Go.ChangeShapes Go.WideShapes Go.Deep
set_option linter.unusedVariables false
set_option linter.unusedSimpArgs false

/-- copy, of elements of m cells, into a row that is known whole. -/
theorem run_copy_wide (P : Program) (w : World) (dT sT ty elem : TypeId) (m : Nat) (g o dLen dCap : Nat) (a : Addr) (sLen sCap : Nat) (cur : Array Value) (t : TypeId) (n : Nat) (cs : List Value)
    (hu : P.underlying dT = some (.slice elem)) (hs : (P.info? elem).map (·.size) = some m)
    (hg : w.heap[g]? = some (.cells cur t (0, 0))) (hn : Nat.min sLen dLen = n) (hcs : cs.length = n * m)
    (hsrc : ∀ j v, cs[j]? = some v → w.cell? (a.add j) = some v) (hfit : o + cs.length ≤ cur.size) (h1 : ∀ v ∈ cs, v.oneCell' = true) :
    (Builtin.copy_ #[dT, sT] ty #[.slice (some ⟨g, o, none⟩) dLen dCap, .slice (some a) sLen sCap]).run P w =
      .ok (goInt n) (w.setRow g (cur.toList.take o ++ (cs ++ cur.toList.drop (o + cs.length))).toArray) := by
  have hl := run_loadCells_list (P := P) w a cs hsrc
  have hst := run_storeCells_at P g o t cs 0 cur w hg (by simpa using hfit) h1
  rw [hcs] at hl
  cases hq : P.info? elem with
  | none => simp [hq] at hs
  | some i =>
    have hi : i.size = m := by simpa [hq] using hs
    simp [Builtin.copy_, run_underlying hu, Builtin.lenOf, Builtin.firstCells, sizeOf, typeInfo, hq, hi, hn, hl, hst]
theorem wpList_copy_wide {P : Program} {w : World} {ops : Array Oper} {rest : List Oper} {o : Oper} {a : Act} {Q : Exit → Act → World → Prop} (hgd : o.guard = none) (d s : Operand) (dT sT : TypeId)
    (ho : o.op = .call { callee := .builtin .copy, args := #[d, s], argTypes := #[dT, sT] }) (elem : TypeId) (m : Nat) (hu : P.underlying dT = some (.slice elem)) (hsz : (P.info? elem).map (·.size) = some m)
    (B g n dCap : Nat) (ad : Addr) (sCap : Nat) (hd : a.eval d = .slice (some ⟨g, 0, none⟩) n dCap) (hs : a.eval s = .slice (some ad) n sCap)
    (zs : List Value) (hown : w.ownsRow B elem m (.slice (some ⟨g, 0, none⟩) n n) n zs) (cs : List Value) (hn : cs.length = n * m)
    (hsrc : ∀ j v, cs[j]? = some v → w.cell? (ad.add j) = some v) (h1 : ∀ v ∈ cs, v.oneCell' = true)
    (h : ∀ w', w'.ownsRow B elem m (.slice (some ⟨g, 0, none⟩) n n) n cs → w.grownBy w' (some g) → wpList P ops Q rest (a.put o.dst (goInt n)) w') : wpList P ops Q (o :: rest) a w := by
  refine wpList_plain hgd fun K hK => ?_
  obtain ⟨hz, h0 | ⟨g', cap, cur, e, hB, hg, hc1, hc2, hsize, htake⟩⟩ := hown
  · exact absurd h0.1 (by simp)
  · injection e with e1 e2 e3
    injection e1 with e1
    injection e1 with e1
    subst e1 e3
    have hrun := run_copy_wide P w dT sT o.type elem m g 0 n dCap ad n sCap cur elem n cs hu hsz hg (Nat.min_self n) hn hsrc (by rw [hn, hsize]; omega) h1
    unfold Oper.wp
    simp [execOp, ho, resolve, invoke, builtin, hd, hs, hrun, Result.andThen]
    have e0 : cs ++ cur.toList.drop cs.length = cs := by
      rw [List.drop_eq_nil_of_le (by rw [Array.length_toList, hn, hsize]; exact Nat.le_refl _), List.append_nil]
    refine hK _ _ (h _ ⟨hn, .inr ⟨g, n, cs.toArray, rfl, hB, ?_, Nat.le_refl _, hc2, by simpa using hn, by rw [← hn]; simp⟩⟩ ⟨rfl, rfl, rfl, by simp [World.setRow], fun k hk hne => setRow_other w g k _ (fun e => hne (by rw [e]))⟩)
    have := setRow_heap w g cur cs.toArray elem (0, 0) hg
    simpa [e0] using this
theorem infoOf_V : (Try.prog.info? 49).map (fun i => (i.zero, i.size, i.bytes)) = some (some (.agg #[.int .i64 0, .int .i64 0, .int .u64 0]), 3, 24) := by kernel_rfl
set_option maxRecDepth 100000 in
set_option maxHeartbeats 2000000 in
theorem copyList_V (p : Option Addr) (n cap : Nat) (cs : List Value) (W : World) (hn : cs.length = n * 3) (hs : ∀ j u, cs[j]? = some u → ∃ a, p = some a ∧ W.cell? (a.add j) = some u) (h1 : ∀ u ∈ cs, u.oneCell' = true) (hl : n ≤ 1048576) :
    Calls Try.prog 47 #[.slice p n cap] W fun e w' => ∃ v', e = .returned v' ∧ Past W.heap.size W w' ∧ w'.ownsRow W.heap.size 49 3 v' n cs := by
  obtain ⟨iV, hiV, hz0, hz1, hz2⟩ := info_parts infoOf_V
  cases p with
  | none =>
    have e0 : cs = [] := by
      cases cs with
      | nil => rfl
      | cons u r => obtain ⟨a, e, _⟩ := hs 0 u rfl; cases e
    subst e0
    obtain rfl : n = 0 := by simp at hn; omega
    have heq := fun w => Go.Lib.run_eql_slice_nil_nil (P := Try.prog) w (t := 44) 0 cap Try.underlying44
    go_enter Try.func47, Try.ntmps47
    go_wp2_with fail
    go_ret
    exact ⟨_, rfl, Past.refl (Nat.le_refl _), World.ownsRow_nil _ _ _ _⟩
  | some a =>
    have hsrc : ∀ j u, cs[j]? = some u → W.cell? (a.add j) = some u := fun j u h => by obtain ⟨a', e, h⟩ := hs j u h; cases e; exact h
    have hlow : ∀ j u, cs[j]? = some u → a.block < W.heap.size := fun j u h => by
      have h2 := hsrc j u h
      by_cases h3 : (a.add j).block < W.heap.size
      · rw [add_block] at h3; exact h3
      · unfold World.cell? at h2
        rw [Array.getElem?_eq_none (Nat.le_of_not_lt h3)] at h2
        cases h2
    have HSRC := Lib.hid hsrc
    have HLOW := Lib.hid hlow
    have HI := Lib.hid (And.intro hiV (And.intro hz0 (And.intro hz1 hz2)))
    clear hsrc hlow hs hiV hz0 hz1 hz2
    have b2 : iV.bytes * n ≤ 281474976710656 := by rw [HI.out.2.2.2]; omega
    have b3 : n ≤ maxLen := by unfold maxLen; omega
    have B2 := Lib.hid b2
    have B3 := Lib.hid b3
    have HS3 : Hid ((Try.prog.info? 49).map (·.size) = some 3) := Lib.hid (by rw [HI.out.1]; simp [HI.out.2.2.1])
    have HB : Hid (∀ w1, W.grownBy w1 none → Past W.heap.size W w1 ∧ ∀ j u, cs[j]? = some u → w1.cell? (a.add j) = some u) := Lib.hid fun w1 g => by
      have P1 := (Past.refl (Nat.le_refl W.heap.size)).grownRow g (fun j e => by cases e)
      exact ⟨P1, fun j u h => (P1.2.cell (p := a.add j) (by rw [add_block]; exact HLOW.out j u h)).trans (HSRC.out j u h)⟩
    clear b2 b3
    have heq := fun w => Go.Lib.run_eql_slice_some_nil (P := Try.prog) w (t := 44) a n cap Try.underlying44
    go_enter Try.func47, Try.ntmps47
    go_wp2_with (first
      | (at_make; refine wpList_make_full _ rfl _ _ 44 rfl W.heap.size 49 iV _ 3 Try.underlying44 HI.out.1 HI.out.2.1 HI.out.2.2.1 _ _ _ _ n rfl rfl rfl rfl B2.out B3.out (Nat.le_refl _) ?_; intro w1 hown1 hgrow1)
      | (with_reducible have _g := hgrow1; refine wpList_copy_wide rfl (.tmp 9) (.tmp 10) 44 44 rfl 49 3 Try.underlying44 HS3.out W.heap.size W.heap.size n n a cap rfl rfl _ hown1 cs hn (HB.out _ hgrow1).2 h1 ?_; intro w2 hown2 hgrow2))
    go_ret
    exact ⟨_, rfl, (HB.out _ hgrow1).1.grownRow hgrow2 (fun j e => by cases e; exact Nat.le_refl _), hown2⟩
theorem infoOf_N : (Try.prog.info? 3).map (fun i => (i.zero, i.size, i.bytes)) = some (some (.int .i64 0), 1, 8) := by kernel_rfl
set_option maxRecDepth 100000 in
set_option maxHeartbeats 2000000 in
theorem copyList_N (p : Option Addr) (n cap : Nat) (cs : List Value) (W : World) (hn : cs.length = n * 1) (hs : ∀ j u, cs[j]? = some u → ∃ a, p = some a ∧ W.cell? (a.add j) = some u) (h1 : ∀ u ∈ cs, u.oneCell' = true) (hl : n ≤ 1048576) :
    Calls Try.prog 36 #[.slice p n cap] W fun e w' => ∃ v', e = .returned v' ∧ Past W.heap.size W w' ∧ w'.ownsRow W.heap.size 3 1 v' n cs := by
  obtain ⟨iV, hiV, hz0, hz1, hz2⟩ := info_parts infoOf_N
  cases p with
  | none =>
    have e0 : cs = [] := by
      cases cs with
      | nil => rfl
      | cons u r => obtain ⟨a, e, _⟩ := hs 0 u rfl; cases e
    subst e0
    obtain rfl : n = 0 := by simp at hn; omega
    have heq := fun w => Go.Lib.run_eql_slice_nil_nil (P := Try.prog) w (t := 22) 0 cap Try.underlying22
    go_enter Try.func36, Try.ntmps36
    go_wp2_with fail
    go_ret
    exact ⟨_, rfl, Past.refl (Nat.le_refl _), World.ownsRow_nil _ _ _ _⟩
  | some a =>
    have hsrc : ∀ j u, cs[j]? = some u → W.cell? (a.add j) = some u := fun j u h => by obtain ⟨a', e, h⟩ := hs j u h; cases e; exact h
    have hlow : ∀ j u, cs[j]? = some u → a.block < W.heap.size := fun j u h => by
      have h2 := hsrc j u h
      by_cases h3 : (a.add j).block < W.heap.size
      · rw [add_block] at h3; exact h3
      · unfold World.cell? at h2
        rw [Array.getElem?_eq_none (Nat.le_of_not_lt h3)] at h2
        cases h2
    have HSRC := Lib.hid hsrc
    have HLOW := Lib.hid hlow
    have HI := Lib.hid (And.intro hiV (And.intro hz0 (And.intro hz1 hz2)))
    clear hsrc hlow hs hiV hz0 hz1 hz2
    have b2 : iV.bytes * n ≤ 281474976710656 := by rw [HI.out.2.2.2]; omega
    have b3 : n ≤ maxLen := by unfold maxLen; omega
    have B2 := Lib.hid b2
    have B3 := Lib.hid b3
    have HS3 : Hid ((Try.prog.info? 3).map (·.size) = some 1) := Lib.hid (by rw [HI.out.1]; simp [HI.out.2.2.1])
    have HB : Hid (∀ w1, W.grownBy w1 none → Past W.heap.size W w1 ∧ ∀ j u, cs[j]? = some u → w1.cell? (a.add j) = some u) := Lib.hid fun w1 g => by
      have P1 := (Past.refl (Nat.le_refl W.heap.size)).grownRow g (fun j e => by cases e)
      exact ⟨P1, fun j u h => (P1.2.cell (p := a.add j) (by rw [add_block]; exact HLOW.out j u h)).trans (HSRC.out j u h)⟩
    clear b2 b3
    have heq := fun w => Go.Lib.run_eql_slice_some_nil (P := Try.prog) w (t := 22) a n cap Try.underlying22
    go_enter Try.func36, Try.ntmps36
    go_wp2_with (first
      | (at_make; refine wpList_make_full _ rfl _ _ 22 rfl W.heap.size 3 iV _ 1 Try.underlying22 HI.out.1 HI.out.2.1 HI.out.2.2.1 _ _ _ _ n rfl rfl rfl rfl B2.out B3.out (Nat.le_refl _) ?_; intro w1 hown1 hgrow1)
      | (with_reducible have _g := hgrow1; refine wpList_copy_wide rfl (.tmp 9) (.tmp 10) 22 22 rfl 3 1 Try.underlying22 HS3.out W.heap.size W.heap.size n n a cap rfl rfl _ hown1 cs hn (HB.out _ hgrow1).2 h1 ?_; intro w2 hown2 hgrow2))
    go_ret
    exact ⟨_, rfl, (HB.out _ hgrow1).1.grownRow hgrow2 (fun j e => by cases e; exact Nat.le_refl _), hown2⟩
theorem infoOf_C : (Try.prog.info? 46).map (fun i => (i.zero, i.size, i.bytes)) = some (some (.agg #[.int .i64 0, .int .i64 0, .int .i64 0, .int .i64 0, .int .i64 0, .slice none 0 0, .slice none 0 0]), 7, 88) := by kernel_rfl
set_option maxRecDepth 100000 in
set_option maxHeartbeats 2000000 in
theorem copyList_C (p : Option Addr) (n cap : Nat) (cs : List Value) (W : World) (hn : cs.length = n * 7) (hs : ∀ j u, cs[j]? = some u → ∃ a, p = some a ∧ W.cell? (a.add j) = some u) (h1 : ∀ u ∈ cs, u.oneCell' = true) (hl : n ≤ 1048576) :
    Calls Try.prog 46 #[.slice p n cap] W fun e w' => ∃ v', e = .returned v' ∧ Past W.heap.size W w' ∧ w'.ownsRow W.heap.size 46 7 v' n cs := by
  obtain ⟨iV, hiV, hz0, hz1, hz2⟩ := info_parts infoOf_C
  cases p with
  | none =>
    have e0 : cs = [] := by
      cases cs with
      | nil => rfl
      | cons u r => obtain ⟨a, e, _⟩ := hs 0 u rfl; cases e
    subst e0
    obtain rfl : n = 0 := by simp at hn; omega
    have heq := fun w => Go.Lib.run_eql_slice_nil_nil (P := Try.prog) w (t := 41) 0 cap Try.underlying41
    go_enter Try.func46, Try.ntmps46
    go_wp2_with fail
    go_ret
    exact ⟨_, rfl, Past.refl (Nat.le_refl _), World.ownsRow_nil _ _ _ _⟩
  | some a =>
    have hsrc : ∀ j u, cs[j]? = some u → W.cell? (a.add j) = some u := fun j u h => by obtain ⟨a', e, h⟩ := hs j u h; cases e; exact h
    have hlow : ∀ j u, cs[j]? = some u → a.block < W.heap.size := fun j u h => by
      have h2 := hsrc j u h
      by_cases h3 : (a.add j).block < W.heap.size
      · rw [add_block] at h3; exact h3
      · unfold World.cell? at h2
        rw [Array.getElem?_eq_none (Nat.le_of_not_lt h3)] at h2
        cases h2
    have HSRC := Lib.hid hsrc
    have HLOW := Lib.hid hlow
    have HI := Lib.hid (And.intro hiV (And.intro hz0 (And.intro hz1 hz2)))
    clear hsrc hlow hs hiV hz0 hz1 hz2
    have b2 : iV.bytes * n ≤ 281474976710656 := by rw [HI.out.2.2.2]; omega
    have b3 : n ≤ maxLen := by unfold maxLen; omega
    have B2 := Lib.hid b2
    have B3 := Lib.hid b3
    have HS3 : Hid ((Try.prog.info? 46).map (·.size) = some 7) := Lib.hid (by rw [HI.out.1]; simp [HI.out.2.2.1])
    have HB : Hid (∀ w1, W.grownBy w1 none → Past W.heap.size W w1 ∧ ∀ j u, cs[j]? = some u → w1.cell? (a.add j) = some u) := Lib.hid fun w1 g => by
      have P1 := (Past.refl (Nat.le_refl W.heap.size)).grownRow g (fun j e => by cases e)
      exact ⟨P1, fun j u h => (P1.2.cell (p := a.add j) (by rw [add_block]; exact HLOW.out j u h)).trans (HSRC.out j u h)⟩
    clear b2 b3
    have heq := fun w => Go.Lib.run_eql_slice_some_nil (P := Try.prog) w (t := 41) a n cap Try.underlying41
    go_enter Try.func46, Try.ntmps46
    go_wp2_with (first
      | (at_make; refine wpList_make_full _ rfl _ _ 41 rfl W.heap.size 46 iV _ 7 Try.underlying41 HI.out.1 HI.out.2.1 HI.out.2.2.1 _ _ _ _ n rfl rfl rfl rfl B2.out B3.out (Nat.le_refl _) ?_; intro w1 hown1 hgrow1)
      | (with_reducible have _g := hgrow1; refine wpList_copy_wide rfl (.tmp 9) (.tmp 10) 41 41 rfl 46 7 Try.underlying41 HS3.out W.heap.size W.heap.size n n a cap rfl rfl _ hown1 cs hn (HB.out _ hgrow1).2 h1 ?_; intro w2 hown2 hgrow2))
    go_ret
    exact ⟨_, rfl, (HB.out _ hgrow1).1.grownRow hgrow2 (fun j e => by cases e; exact Nat.le_refl _), hown2⟩
theorem infoOf_B : (Try.prog.info? 43).map (fun i => (i.zero, i.size, i.bytes)) = some (some (.agg #[.slice none 0 0]), 1, 24) := by kernel_rfl
set_option maxRecDepth 100000 in
set_option maxHeartbeats 2000000 in
theorem copyList_B (p : Option Addr) (n cap : Nat) (cs : List Value) (W : World) (hn : cs.length = n * 1) (hs : ∀ j u, cs[j]? = some u → ∃ a, p = some a ∧ W.cell? (a.add j) = some u) (h1 : ∀ u ∈ cs, u.oneCell' = true) (hl : n ≤ 1048576) :
    Calls Try.prog 42 #[.slice p n cap] W fun e w' => ∃ v', e = .returned v' ∧ Past W.heap.size W w' ∧ w'.ownsRow W.heap.size 43 1 v' n cs := by
  obtain ⟨iV, hiV, hz0, hz1, hz2⟩ := info_parts infoOf_B
  cases p with
  | none =>
    have e0 : cs = [] := by
      cases cs with
      | nil => rfl
      | cons u r => obtain ⟨a, e, _⟩ := hs 0 u rfl; cases e
    subst e0
    obtain rfl : n = 0 := by simp at hn; omega
    have heq := fun w => Go.Lib.run_eql_slice_nil_nil (P := Try.prog) w (t := 23) 0 cap Try.underlying23
    go_enter Try.func42, Try.ntmps42
    go_wp2_with fail
    go_ret
    exact ⟨_, rfl, Past.refl (Nat.le_refl _), World.ownsRow_nil _ _ _ _⟩
  | some a =>
    have hsrc : ∀ j u, cs[j]? = some u → W.cell? (a.add j) = some u := fun j u h => by obtain ⟨a', e, h⟩ := hs j u h; cases e; exact h
    have hlow : ∀ j u, cs[j]? = some u → a.block < W.heap.size := fun j u h => by
      have h2 := hsrc j u h
      by_cases h3 : (a.add j).block < W.heap.size
      · rw [add_block] at h3; exact h3
      · unfold World.cell? at h2
        rw [Array.getElem?_eq_none (Nat.le_of_not_lt h3)] at h2
        cases h2
    have HSRC := Lib.hid hsrc
    have HLOW := Lib.hid hlow
    have HI := Lib.hid (And.intro hiV (And.intro hz0 (And.intro hz1 hz2)))
    clear hsrc hlow hs hiV hz0 hz1 hz2
    have b2 : iV.bytes * n ≤ 281474976710656 := by rw [HI.out.2.2.2]; omega
    have b3 : n ≤ maxLen := by unfold maxLen; omega
    have B2 := Lib.hid b2
    have B3 := Lib.hid b3
    have HS3 : Hid ((Try.prog.info? 43).map (·.size) = some 1) := Lib.hid (by rw [HI.out.1]; simp [HI.out.2.2.1])
    have HB : Hid (∀ w1, W.grownBy w1 none → Past W.heap.size W w1 ∧ ∀ j u, cs[j]? = some u → w1.cell? (a.add j) = some u) := Lib.hid fun w1 g => by
      have P1 := (Past.refl (Nat.le_refl W.heap.size)).grownRow g (fun j e => by cases e)
      exact ⟨P1, fun j u h => (P1.2.cell (p := a.add j) (by rw [add_block]; exact HLOW.out j u h)).trans (HSRC.out j u h)⟩
    clear b2 b3
    have heq := fun w => Go.Lib.run_eql_slice_some_nil (P := Try.prog) w (t := 23) a n cap Try.underlying23
    go_enter Try.func42, Try.ntmps42
    go_wp2_with (first
      | (at_make; refine wpList_make_full _ rfl _ _ 23 rfl W.heap.size 43 iV _ 1 Try.underlying23 HI.out.1 HI.out.2.1 HI.out.2.2.1 _ _ _ _ n rfl rfl rfl rfl B2.out B3.out (Nat.le_refl _) ?_; intro w1 hown1 hgrow1)
      | (with_reducible have _g := hgrow1; refine wpList_copy_wide rfl (.tmp 9) (.tmp 10) 23 23 rfl 43 1 Try.underlying23 HS3.out W.heap.size W.heap.size n n a cap rfl rfl _ hown1 cs hn (HB.out _ hgrow1).2 h1 ?_; intro w2 hown2 hgrow2))
    go_ret
    exact ⟨_, rfl, (HB.out _ hgrow1).1.grownRow hgrow2 (fun j e => by cases e; exact Nat.le_refl _), hown2⟩
/-- A list of ints, below B. -/
def IntsAt (B : Nat) (w : World) (p : Option Addr) (n c : Nat) (ts : List Int) : Prop :=
  ts.length = n ∧ n ≤ c ∧ c ≤ maxLen ∧ ∀ i (h : i < ts.length), ∃ a, p = some a ∧ a.block < B ∧ w.cell? (a.add i) = some (.int .i64 ts[i])
theorem IntsAt.below {B : Nat} {W w : World} {p : Option Addr} {n c : Nat} {ts : List Int} (h : IntsAt B W p n c ts) (hb : Below B W w) : IntsAt B w p n c ts := by
  obtain ⟨h1, h2, h3, h4⟩ := h
  refine ⟨h1, h2, h3, fun i hi => ?_⟩
  obtain ⟨a, e, ha, hI⟩ := h4 i hi
  exact ⟨a, e, ha, (hb.cell (p := a.add i) (by rw [add_block]; exact ha)).trans hI⟩
def cntT (l : List Ins) : Nat := (l.map fun d => 1 + d.args.length + d.tl).sum
theorem cnt_le (l : List Ins) : cnt l ≤ cntT l := by
  unfold cnt cntT argsNum
  induction l with
  | nil => exact Nat.le_refl _
  | cons d l ih => simp only [List.map_cons, List.sum_cons, List.length_cons]; omega
/-- What an instruction's reading gives. -/
def InsOk2 (W : World) (d : Ins) : Prop := InsOk W d ∧ ∃ ts : List Int, IntsAt W.heap.size W d.tp d.tl d.tc ts
section
variable {H : Type} {enc : TypeId × Value → H} {W : World} {sp : Nat → Bool} {held : Bool}
theorem open_ints {n : Nat} {c : Value} {y : DataW H × List MemPlace} (h : DataW.trod enc Try.prog W 0 sp held n 22 [c] = some y) :
    ∃ (p : Option Addr) (k : Nat) (ts : List Int), c = .slice p ts.length k ∧ IntsAt W.heap.size W p ts.length k ts ∧ ts.length ≤ Rows.uptoBulk y.1 := by
  rcases open_slice Try.underlying22 h with ⟨hc, hx⟩ | ⟨a, len, cap, m, n', D, Pl, hc, hb, hl, hm, hmm, hx, hi⟩
  · exact ⟨none, 0, [], (List.cons.inj hc).1, ⟨rfl, Nat.le_refl _, Nat.zero_le _, fun i h => absurd h (Nat.not_lt_zero i)⟩, Nat.zero_le _⟩
  · have lm : len ≤ m := by rw [hmm]; split <;> omega
    rw [cellsInt] at hi
    obtain ⟨f, hf⟩ := choose_lt (α := Int) (p := fun i v => W.cell? (a.add i) = some (.int .i64 v)) (n := len) (fun i hi2 => by
      obtain ⟨cs', h1, h2⟩ := hi i (by omega)
      obtain ⟨_, hlen, hcell⟩ := World.cells?_some h1
      match cs', hlen with
      | [v0], _ =>
        obtain ⟨k, rfl, _⟩ := tr_int h2
        have := hcell 0 (by decide)
        rw [add_zero, Nat.mul_one] at this
        exact ⟨k, this⟩)
    refine ⟨some a, cap, (List.range len).map f, by simp [(List.cons.inj hc).1], ⟨rfl, by simpa using hl, hm, fun i h => ?_⟩, ?_⟩
    · have hi2 : i < len := by simpa using h
      refine ⟨a, rfl, ?_, by simpa using hf i hi2⟩
      have := block_lt (hf i hi2); rwa [add_block] at this
    · subst hx
      have h1 := bulk_sum D (fun _ => 1) len (fun i _ => bulk_pos _)
      have h2 := bulk_slice ((List.range len).map D) ((List.range (m - len)).map fun j => D (len + j))
      have e := sum_ones len
      simp only [List.length_map, List.length_range]
      omega
set_option maxRecDepth 100000 in
theorem open_ins2 {n : Nat} {a : Addr} {i : Nat} {cs : List Value} {y : DataW H × List MemPlace} (h1 : W.cells? 0 (a.add (i * 7)) 7 = some cs) (h2 : DataW.trod enc Try.prog W 0 sp held n 46 cs = some y) :
    ∃ d : Ins, InsAt W (a.add (i * 7)) d ∧ InsOk2 W d ∧ 1 + d.args.length + d.tl ≤ Rows.uptoBulk y.1 := by
  obtain ⟨_, hlen, hcell⟩ := World.cells?_some h1
  obtain ⟨xs, k, _, hx, _, hxl, hg⟩ := DataW.trod_struct Try.underlying46 h2
  have c3 := cellsInt
  have c22 := cellsVals
  have c23 := cellsInts
  match cs, hlen with
  | [v0, v1, v2, v3, v4, v5, v6], _ =>
    match xs, hxl with
    | [y0, y1, y2, y3, y4, y5, y6], _ =>
      have g0 := hg 0 _ rfl
      have g1 := hg 1 _ rfl
      have g2 := hg 2 _ rfl
      have g3 := hg 3 _ rfl
      have g4 := hg 4 _ rfl
      have g5 := hg 5 _ rfl
      have g6 := hg 6 _ rfl
      simp [c3, c22, c23] at g0 g1 g2 g3 g4 g5 g6
      obtain ⟨k0, rfl, _⟩ := tr_int g0
      obtain ⟨k1, rfl, w1⟩ := tr_int g1
      obtain ⟨k2, rfl, _⟩ := tr_int g2
      obtain ⟨k3, rfl, _⟩ := tr_int g3
      obtain ⟨k4, rfl, _⟩ := tr_int g4
      obtain ⟨ap, ac, args, rfl, a1, a2, a3, a4, a5⟩ := open_args g5
      obtain ⟨tp, tc, ts, rfl, t1, t2⟩ := open_ints g6
      refine ⟨⟨k0, k1, k2, k3, k4, ap, args.length, ac, tp, ts.length, tc, args⟩, ⟨?_, ?_, ?_, ?_, ?_, ?_, ?_⟩, ⟨⟨⟨rfl, a1, a2, a3⟩, w1, a4⟩, ts, t1⟩, ?_⟩
      · have := hcell 0 (by decide); rw [add_zero] at this; exact this
      · have := hcell 1 (by decide); rw [add_pos _ 1 (by decide)] at this; exact this
      · have := hcell 2 (by decide); rw [add_pos _ 2 (by decide)] at this; exact this
      · have := hcell 3 (by decide); rw [add_pos _ 3 (by decide)] at this; exact this
      · have := hcell 4 (by decide); rw [add_pos _ 4 (by decide)] at this; exact this
      · have := hcell 5 (by decide); rw [add_pos _ 5 (by decide)] at this; exact this
      · have := hcell 6 (by decide); rw [add_pos _ 6 (by decide)] at this; exact this
      · rw [hx]
        simp only [List.map_cons, List.map_nil, Rows.uptoBulk, Rows.uptoBulkAll]
        show 1 + args.length + ts.length ≤ _
        omega
theorem cntT_map (f : Nat → Ins) (n : Nat) : cntT ((List.range n).map f) = ((List.range n).map fun i => 1 + (f i).args.length + (f i).tl).sum := by unfold cntT; rw [List.map_map]; rfl
theorem open_code2 {n : Nat} {c : Value} {y : DataW H × List MemPlace} (h : DataW.trod enc Try.prog W 0 sp held n 41 [c] = some y) :
    ∃ l : List Ins, CodeAt W.heap.size W c l ∧ (∀ i (h : i < l.length), InsOk2 W l[i]) ∧ cntT l ≤ Rows.uptoBulk y.1 := by
  rcases open_slice Try.underlying41 h with ⟨hc, hx⟩ | ⟨a, len, cap, m, n', D, Pl, hc, hb, hl, hm, hmm, hx, hi⟩
  · exact ⟨[], ⟨none, 0, (List.cons.inj hc).1, Nat.le_refl _, Nat.zero_le _, fun i h => absurd h (Nat.not_lt_zero i)⟩, fun i h => absurd h (Nat.not_lt_zero i), Nat.zero_le _⟩
  · have lm : len ≤ m := by rw [hmm]; split <;> omega
    rw [cellsInstr] at hi
    obtain ⟨f, hf⟩ := choose_lt (α := Ins) (p := fun i d => InsAt W (a.add (i * 7)) d ∧ InsOk2 W d ∧ 1 + d.args.length + d.tl ≤ Rows.uptoBulk (D i)) (n := len) (fun i hi2 => by
      obtain ⟨cs', h1, h2⟩ := hi i (by omega)
      exact open_ins2 h1 h2)
    refine ⟨(List.range len).map f, ⟨some a, cap, by simp [(List.cons.inj hc).1], by simpa using hl, hm, fun i h => ?_⟩, fun i h => ?_, ?_⟩
    · have hi2 : i < len := by simpa using h
      refine ⟨a, rfl, ?_, ?_⟩
      · have := block_lt (hf i hi2).1.1; rwa [add_block] at this
      · simpa using (hf i hi2).1
    · have hi2 : i < len := by simpa using h
      simpa using (hf i hi2).2.1
    · subst hx
      have h1 := bulk_sum D (fun i => 1 + (f i).args.length + (f i).tl) len (fun i hi => (hf i hi).2.2)
      have h2 := bulk_slice ((List.range len).map D) ((List.range (m - len)).map fun j => D (len + j))
      rw [cntT_map]
      exact Nat.le_trans h1 h2
theorem cntT_app (l m : List Ins) : cntT (l ++ m) = cntT l + cntT m := by unfold cntT; rw [List.map_append, List.sum_append]
theorem cntT_flat (f : Nat → List Ins) : ∀ n : Nat, cntT ((List.range n).map f).flatten = ((List.range n).map fun i => cntT (f i)).sum
  | 0 => rfl
  | n + 1 => by rw [List.range_succ, List.map_append, List.map_append, List.sum_append, List.flatten_append, cntT_app, cntT_flat f n]; simp
set_option maxRecDepth 100000 in
theorem open_blocks2 {n : Nat} {c : Value} {y : DataW H × List MemPlace} (h : DataW.trod enc Try.prog W 0 sp held n 23 [c] = some y) :
    ∃ l : List (List Ins), BlocksAt W.heap.size W c l ∧ (∀ b (h : b < l.length) k (hk : k < l[b].length), InsOk2 W l[b][k]) ∧ cntT l.flatten ≤ Rows.uptoBulk y.1 := by
  rcases open_slice Try.underlying23 h with ⟨hc, hx⟩ | ⟨a, len, cap, m, n', D, Pl, hc, hb, hl, hm, hmm, hx, hi⟩
  · exact ⟨[], ⟨none, 0, (List.cons.inj hc).1, Nat.le_refl _, Nat.zero_le _, fun i h => absurd h (Nat.not_lt_zero i)⟩, fun i h => absurd h (Nat.not_lt_zero i), Nat.zero_le _⟩
  · have lm : len ≤ m := by rw [hmm]; split <;> omega
    rw [cellsBlock] at hi
    obtain ⟨f, hf⟩ := choose_lt (α := Value × List Ins) (p := fun i x => W.cell? (a.add i) = some x.1 ∧ CodeAt W.heap.size W x.1 x.2 ∧ (∀ k (h : k < x.2.length), InsOk2 W x.2[k]) ∧ cntT x.2 ≤ Rows.uptoBulk (D i)) (n := len) (fun i hi2 => by
      obtain ⟨cs', h1, h2⟩ := hi i (by omega)
      obtain ⟨_, hlen, hcell⟩ := World.cells?_some h1
      obtain ⟨xs, k, _, hx1, _, hxl, hg⟩ := DataW.trod_struct Try.underlying43 h2
      have cc := cellsCode
      match cs', hlen with
      | [v0], _ =>
        match xs, hxl with
        | [y0], _ =>
          have g0 := hg 0 _ rfl
          simp [cc] at g0
          obtain ⟨l, l1, l2, l3⟩ := open_code2 g0
          refine ⟨(v0, l), ?_, l1, l2, ?_⟩
          · have := hcell 0 (by decide); rw [add_zero, Nat.mul_one] at this; exact this
          · have e : D i = .agg [y0.1] := by have := congrArg Prod.fst hx1; simpa using this
            rw [e]
            simp only [Rows.uptoBulk, Rows.uptoBulkAll]
            exact Nat.le_trans l3 (by omega))
    refine ⟨(List.range len).map fun i => (f i).2, ⟨some a, cap, by simp [(List.cons.inj hc).1], by simpa using hl, hm, fun i h => ?_⟩, fun i h k hk => ?_, ?_⟩
    · have hi2 : i < len := by simpa using h
      refine ⟨a, (f i).1, rfl, ?_, (hf i hi2).1, ?_⟩
      · have := block_lt (hf i hi2).1; rwa [add_block] at this
      · simpa using (hf i hi2).2.1
    · have hi2 : i < len := by simpa using h
      have e : ((List.range len).map fun i => (f i).2)[i] = (f i).2 := by simp
      have hk2 : k < (f i).2.length := by rw [← e]; exact hk
      have := (hf i hi2).2.2.1 k hk2
      simpa using this
    · subst hx
      have h1 := bulk_sum D (fun i => cntT (f i).2) len (fun i hi => (hf i hi).2.2.2)
      have h2 := bulk_slice ((List.range len).map D) ((List.range (m - len)).map fun j => D (len + j))
      rw [cntT_flat]
      exact Nat.le_trans h1 h2
/-- What an argument's reading as a function gives. -/
structure FuncOk2 (W : World) (s0 : ByteArray) (p1 : Option Addr) (n1 c1 : Nat) (rt : Int) (p2 : Option Addr) (n2 c2 : Nat) (l : List (List Ins)) : Prop where
  blocks : BlocksAt W.heap.size W (.slice p2 n2 c2) l
  ins : ∀ b (h : b < l.length) k (hk : k < l[b].length), InsOk2 W l[b][k]
  params : ∃ ts : List Int, IntsAt W.heap.size W p1 n1 c1 ts
theorem FuncOk2.ok {W : World} {s0 : ByteArray} {p1 : Option Addr} {n1 c1 : Nat} {rt : Int} {p2 : Option Addr} {n2 c2 : Nat} {l : List (List Ins)} (h : FuncOk2 W s0 p1 n1 c1 rt p2 n2 c2 l) : FuncOk W s0 p1 n1 c1 rt p2 n2 c2 l := ⟨h.blocks, fun b x k y => (h.ins b x k y).1⟩
set_option maxRecDepth 100000 in
theorem open_func2 {r : Reach} {b0 : Nat} {v : Value} {d : DataW H} {p : List MemPlace} (hv : Value.okWide Try.prog W r b0 25 v) (h : DataW.Trod enc Try.prog W 0 sp held 25 v d p) :
    ∃ (s0 : ByteArray) (p1 : Option Addr) (n1 c1 : Nat) (rt : Int) (p2 : Option Addr) (n2 c2 : Nat) (l : List (List Ins)), v = .agg #[.string s0, .slice p1 n1 c1, .int .i64 rt, .slice p2 n2 c2] ∧ FuncOk2 W s0 p1 n1 c1 rt p2 n2 c2 l ∧ cntT l.flatten + n1 ≤ Rows.uptoBulk d := by
  obtain ⟨cs, rfl, hsz⟩ := okWide_struct Try.underlying25 hv
  have hC := cellsFunc
  have c3 := cellsInt
  have c22 := cellsBlocks
  have c23 := cellsInts
  have c9 := cellsString
  obtain ⟨ls⟩ := cs
  match ls, hsz.trans hC with
  | [v0, v1, v2, v3], _ =>
    obtain ⟨fuel, hf⟩ := h
    obtain ⟨xs, n, _, hx, _, hlen, hg⟩ := DataW.trod_struct Try.underlying25 hf
    match xs, hlen with
    | [y0, y1, y2, y3], _ =>
      have g0 := hg 0 _ rfl
      have g1 := hg 1 _ rfl
      have g2 := hg 2 _ rfl
      have g3 := hg 3 _ rfl
      simp [Value.cells, c3, c22, c23, c9] at g0 g1 g2 g3
      obtain ⟨s0, rfl⟩ : ∃ s0 : ByteArray, v0 = .string s0 := by
        obtain ⟨s0, h1, _⟩ := DataW.trod_string Try.underlying9 g0
        exact ⟨s0, (List.cons.inj h1).1⟩
      obtain ⟨k2, rfl, _⟩ := tr_int g2
      obtain ⟨p1, c1, us, rfl, u1, u2⟩ := open_ints g1
      obtain ⟨l, l1, l2, l3⟩ := open_blocks2 g3
      obtain ⟨p2, c2, rfl, _⟩ := id l1
      refine ⟨s0, p1, us.length, c1, k2, p2, l.length, c2, l, rfl, ⟨l1, l2, us, u1⟩, ?_⟩
      have e : d = .agg [y0.1, y1.1, y2.1, y3.1] := by have := congrArg Prod.fst hx; simpa using this
      rw [e]
      simp only [Rows.uptoBulk, Rows.uptoBulkAll]
      omega
end
def argC (v : Arg) : List Value := [.int .i64 v.kind, .int .i64 v.n, .int .u64 v.bits]
theorem argC_one (l : List Arg) : ∀ u ∈ l.flatMap argC, u.oneCell' = true := by
  intro u hu
  obtain ⟨v, _, h⟩ := List.mem_flatMap.1 hu
  unfold argC at h
  simp at h
  rcases h with rfl | rfl | rfl <;> rfl
theorem argC_len (l : List Arg) : (l.flatMap argC).length = l.length * 3 := by
  induction l with
  | nil => rfl
  | cons v l ih => rw [List.flatMap_cons, List.length_append, ih, List.length_cons]; simp [argC]; omega
theorem add_add (a : Addr) (m r : Nat) (hr : r ≠ 0) : a.add (m + r) = ⟨(a.add m).block, (a.add m).off + r, none⟩ := by
  rw [add_pos a (m + r) (by omega)]
  by_cases hm : m = 0
  · subst hm; rw [add_zero, Nat.zero_add]
  · rw [add_pos a m hm]; simp [Nat.add_assoc]
theorem args_cells {B : Nat} {W : World} {d : Ins} (h : ArgsAt B W d) : ∀ j u, (d.args.flatMap argC)[j]? = some u → ∃ a, d.ap = some a ∧ W.cell? (a.add j) = some u := by
  intro j u hu
  have hj : j < d.args.length * 3 := by rw [← argC_len]; exact (List.getElem?_eq_some_iff.1 hu).1
  obtain ⟨i, r, rfl, hr⟩ : ∃ i r, j = i * 3 + r ∧ r < 3 := ⟨j / 3, j % 3, by omega, by omega⟩
  have hi : i < d.args.length := by omega
  rw [flat_get argC 3 (fun _ => rfl) d.args i hi r hr] at hu
  obtain ⟨a, e, ha, h0, h1, h2⟩ := h.2.2.2 i hi
  refine ⟨a, e, ?_⟩
  rcases (show r = 0 ∨ r = 1 ∨ r = 2 by omega) with rfl | rfl | rfl
  · rw [Nat.add_zero, h0]; exact hu
  · rw [add_add a _ 1 (by decide), h1]; exact hu
  · rw [add_add a _ 2 (by decide), h2]; exact hu
theorem ints_cells {B : Nat} {W : World} {p : Option Addr} {n c : Nat} {ts : List Int} (h : IntsAt B W p n c ts) : ∀ j u, (ts.map (Value.int .i64))[j]? = some u → ∃ a, p = some a ∧ W.cell? (a.add j) = some u := by
  intro j u hu
  have hj : j < ts.length := by have := (List.getElem?_eq_some_iff.1 hu).1; simpa using this
  obtain ⟨a, e, ha, h0⟩ := h.2.2.2 j hj
  refine ⟨a, e, ?_⟩
  rw [h0, ← hu]
  simp [hj]
/-- The numbers of an instruction, with other lists. -/
def Ins.with (d : Ins) (ap : Option Addr) (ac : Nat) (tp : Option Addr) (tc : Nat) : Ins := { d with ap := ap, ac := ac, tp := tp, tc := tc }
/-- A block of seven cells of the call's own, that may be written. -/
def Sev (g : Nat) (x0 x1 x2 x3 x4 x5 x6 : Value) (w : World) : Prop :=
  g < w.heap.size ∧ (∀ i, w.frozen? ⟨g, i, none⟩ = false) ∧ w.cell? ⟨g, 0, none⟩ = some x0 ∧ w.cell? ⟨g, 1, none⟩ = some x1 ∧ w.cell? ⟨g, 2, none⟩ = some x2 ∧ w.cell? ⟨g, 3, none⟩ = some x3 ∧ w.cell? ⟨g, 4, none⟩ = some x4 ∧ w.cell? ⟨g, 5, none⟩ = some x5 ∧ w.cell? ⟨g, 6, none⟩ = some x6
theorem Sev.below {B g : Nat} {x0 x1 x2 x3 x4 x5 x6 : Value} {W w : World} (h : Sev g x0 x1 x2 x3 x4 x5 x6 W) (hb : Below B W w) (hg : g < B) : Sev g x0 x1 x2 x3 x4 x5 x6 w := by
  obtain ⟨h0, hf, h1, h2, h3, h4, h5, h6, h7⟩ := h
  exact ⟨Nat.lt_of_lt_of_le h0 hb.size, fun i => (hb.frozen (p := ⟨g, i, none⟩) hg).trans (hf i), (hb.cell (p := ⟨g, 0, none⟩) hg).trans h1, (hb.cell (p := ⟨g, 1, none⟩) hg).trans h2, (hb.cell (p := ⟨g, 2, none⟩) hg).trans h3, (hb.cell (p := ⟨g, 3, none⟩) hg).trans h4, (hb.cell (p := ⟨g, 4, none⟩) hg).trans h5, (hb.cell (p := ⟨g, 5, none⟩) hg).trans h6, (hb.cell (p := ⟨g, 6, none⟩) hg).trans h7⟩
theorem Sev.new (w : World) {g : Nat} (hg : g = w.heap.size) (x0 x1 x2 x3 x4 x5 x6 : Value) (t : TypeId) : Sev g x0 x1 x2 x3 x4 x5 x6 (w.alloc (.cells #[x0, x1, x2, x3, x4, x5, x6] t)) := by
  subst hg
  exact ⟨by simp, fun i => World.frozen?_alloc_at _ _ _ _ rfl, by rw [World.cell?_alloc_at _ _ _ _ rfl]; rfl, by rw [World.cell?_alloc_at _ _ _ _ rfl]; rfl, by rw [World.cell?_alloc_at _ _ _ _ rfl]; rfl, by rw [World.cell?_alloc_at _ _ _ _ rfl]; rfl, by rw [World.cell?_alloc_at _ _ _ _ rfl]; rfl, by rw [World.cell?_alloc_at _ _ _ _ rfl]; rfl, by rw [World.cell?_alloc_at _ _ _ _ rfl]; rfl⟩
theorem Sev.other {g : Nat} {x0 x1 x2 x3 x4 x5 x6 : Value} {w : World} (h : Sev g x0 x1 x2 x3 x4 x5 x6 w) {d : Nat} (hd : d ≠ g) (i : Nat) (v : Value) : Sev g x0 x1 x2 x3 x4 x5 x6 (w.setCell ⟨d, i, none⟩ v) := by
  obtain ⟨h0, hf, h1, h2, h3, h4, h5, h6, h7⟩ := h
  exact ⟨by simpa [World.setCell] using h0, fun i => by rw [World.frozen?_setCell]; exact hf i, by rw [World.cell?_setCell_other (h := fun e => hd (by injection e))]; exact h1, by rw [World.cell?_setCell_other (h := fun e => hd (by injection e))]; exact h2, by rw [World.cell?_setCell_other (h := fun e => hd (by injection e))]; exact h3, by rw [World.cell?_setCell_other (h := fun e => hd (by injection e))]; exact h4, by rw [World.cell?_setCell_other (h := fun e => hd (by injection e))]; exact h5, by rw [World.cell?_setCell_other (h := fun e => hd (by injection e))]; exact h6, by rw [World.cell?_setCell_other (h := fun e => hd (by injection e))]; exact h7⟩
theorem Sev.set0 {g : Nat} {x0 x1 x2 x3 x4 x5 x6 : Value} {w : World} (h : Sev g x0 x1 x2 x3 x4 x5 x6 w) (y : Value) : Sev g y x1 x2 x3 x4 x5 x6 (w.setCell ⟨g, 0, none⟩ y) := by
  obtain ⟨h0, hf, h1, h2, h3, h4, h5, h6, h7⟩ := h
  exact ⟨by simpa [World.setCell] using h0, fun i => by rw [World.frozen?_setCell]; exact hf i, by rw [World.cell?_setCell_same' _ _ _ (by rw [h1]; rfl)], by rw [World.cell?_setCell_other (h := fun e => absurd (congrArg Addr.off e) (show ¬ (0 : Nat) = 1 by decide))]; exact h2, by rw [World.cell?_setCell_other (h := fun e => absurd (congrArg Addr.off e) (show ¬ (0 : Nat) = 2 by decide))]; exact h3, by rw [World.cell?_setCell_other (h := fun e => absurd (congrArg Addr.off e) (show ¬ (0 : Nat) = 3 by decide))]; exact h4, by rw [World.cell?_setCell_other (h := fun e => absurd (congrArg Addr.off e) (show ¬ (0 : Nat) = 4 by decide))]; exact h5, by rw [World.cell?_setCell_other (h := fun e => absurd (congrArg Addr.off e) (show ¬ (0 : Nat) = 5 by decide))]; exact h6, by rw [World.cell?_setCell_other (h := fun e => absurd (congrArg Addr.off e) (show ¬ (0 : Nat) = 6 by decide))]; exact h7⟩
theorem Sev.set1 {g : Nat} {x0 x1 x2 x3 x4 x5 x6 : Value} {w : World} (h : Sev g x0 x1 x2 x3 x4 x5 x6 w) (y : Value) : Sev g x0 y x2 x3 x4 x5 x6 (w.setCell ⟨g, 1, none⟩ y) := by
  obtain ⟨h0, hf, h1, h2, h3, h4, h5, h6, h7⟩ := h
  exact ⟨by simpa [World.setCell] using h0, fun i => by rw [World.frozen?_setCell]; exact hf i, by rw [World.cell?_setCell_other (h := fun e => absurd (congrArg Addr.off e) (show ¬ (1 : Nat) = 0 by decide))]; exact h1, by rw [World.cell?_setCell_same' _ _ _ (by rw [h2]; rfl)], by rw [World.cell?_setCell_other (h := fun e => absurd (congrArg Addr.off e) (show ¬ (1 : Nat) = 2 by decide))]; exact h3, by rw [World.cell?_setCell_other (h := fun e => absurd (congrArg Addr.off e) (show ¬ (1 : Nat) = 3 by decide))]; exact h4, by rw [World.cell?_setCell_other (h := fun e => absurd (congrArg Addr.off e) (show ¬ (1 : Nat) = 4 by decide))]; exact h5, by rw [World.cell?_setCell_other (h := fun e => absurd (congrArg Addr.off e) (show ¬ (1 : Nat) = 5 by decide))]; exact h6, by rw [World.cell?_setCell_other (h := fun e => absurd (congrArg Addr.off e) (show ¬ (1 : Nat) = 6 by decide))]; exact h7⟩
theorem Sev.set2 {g : Nat} {x0 x1 x2 x3 x4 x5 x6 : Value} {w : World} (h : Sev g x0 x1 x2 x3 x4 x5 x6 w) (y : Value) : Sev g x0 x1 y x3 x4 x5 x6 (w.setCell ⟨g, 2, none⟩ y) := by
  obtain ⟨h0, hf, h1, h2, h3, h4, h5, h6, h7⟩ := h
  exact ⟨by simpa [World.setCell] using h0, fun i => by rw [World.frozen?_setCell]; exact hf i, by rw [World.cell?_setCell_other (h := fun e => absurd (congrArg Addr.off e) (show ¬ (2 : Nat) = 0 by decide))]; exact h1, by rw [World.cell?_setCell_other (h := fun e => absurd (congrArg Addr.off e) (show ¬ (2 : Nat) = 1 by decide))]; exact h2, by rw [World.cell?_setCell_same' _ _ _ (by rw [h3]; rfl)], by rw [World.cell?_setCell_other (h := fun e => absurd (congrArg Addr.off e) (show ¬ (2 : Nat) = 3 by decide))]; exact h4, by rw [World.cell?_setCell_other (h := fun e => absurd (congrArg Addr.off e) (show ¬ (2 : Nat) = 4 by decide))]; exact h5, by rw [World.cell?_setCell_other (h := fun e => absurd (congrArg Addr.off e) (show ¬ (2 : Nat) = 5 by decide))]; exact h6, by rw [World.cell?_setCell_other (h := fun e => absurd (congrArg Addr.off e) (show ¬ (2 : Nat) = 6 by decide))]; exact h7⟩
theorem Sev.set3 {g : Nat} {x0 x1 x2 x3 x4 x5 x6 : Value} {w : World} (h : Sev g x0 x1 x2 x3 x4 x5 x6 w) (y : Value) : Sev g x0 x1 x2 y x4 x5 x6 (w.setCell ⟨g, 3, none⟩ y) := by
  obtain ⟨h0, hf, h1, h2, h3, h4, h5, h6, h7⟩ := h
  exact ⟨by simpa [World.setCell] using h0, fun i => by rw [World.frozen?_setCell]; exact hf i, by rw [World.cell?_setCell_other (h := fun e => absurd (congrArg Addr.off e) (show ¬ (3 : Nat) = 0 by decide))]; exact h1, by rw [World.cell?_setCell_other (h := fun e => absurd (congrArg Addr.off e) (show ¬ (3 : Nat) = 1 by decide))]; exact h2, by rw [World.cell?_setCell_other (h := fun e => absurd (congrArg Addr.off e) (show ¬ (3 : Nat) = 2 by decide))]; exact h3, by rw [World.cell?_setCell_same' _ _ _ (by rw [h4]; rfl)], by rw [World.cell?_setCell_other (h := fun e => absurd (congrArg Addr.off e) (show ¬ (3 : Nat) = 4 by decide))]; exact h5, by rw [World.cell?_setCell_other (h := fun e => absurd (congrArg Addr.off e) (show ¬ (3 : Nat) = 5 by decide))]; exact h6, by rw [World.cell?_setCell_other (h := fun e => absurd (congrArg Addr.off e) (show ¬ (3 : Nat) = 6 by decide))]; exact h7⟩
theorem Sev.set4 {g : Nat} {x0 x1 x2 x3 x4 x5 x6 : Value} {w : World} (h : Sev g x0 x1 x2 x3 x4 x5 x6 w) (y : Value) : Sev g x0 x1 x2 x3 y x5 x6 (w.setCell ⟨g, 4, none⟩ y) := by
  obtain ⟨h0, hf, h1, h2, h3, h4, h5, h6, h7⟩ := h
  exact ⟨by simpa [World.setCell] using h0, fun i => by rw [World.frozen?_setCell]; exact hf i, by rw [World.cell?_setCell_other (h := fun e => absurd (congrArg Addr.off e) (show ¬ (4 : Nat) = 0 by decide))]; exact h1, by rw [World.cell?_setCell_other (h := fun e => absurd (congrArg Addr.off e) (show ¬ (4 : Nat) = 1 by decide))]; exact h2, by rw [World.cell?_setCell_other (h := fun e => absurd (congrArg Addr.off e) (show ¬ (4 : Nat) = 2 by decide))]; exact h3, by rw [World.cell?_setCell_other (h := fun e => absurd (congrArg Addr.off e) (show ¬ (4 : Nat) = 3 by decide))]; exact h4, by rw [World.cell?_setCell_same' _ _ _ (by rw [h5]; rfl)], by rw [World.cell?_setCell_other (h := fun e => absurd (congrArg Addr.off e) (show ¬ (4 : Nat) = 5 by decide))]; exact h6, by rw [World.cell?_setCell_other (h := fun e => absurd (congrArg Addr.off e) (show ¬ (4 : Nat) = 6 by decide))]; exact h7⟩
theorem Sev.set5 {g : Nat} {x0 x1 x2 x3 x4 x5 x6 : Value} {w : World} (h : Sev g x0 x1 x2 x3 x4 x5 x6 w) (y : Value) : Sev g x0 x1 x2 x3 x4 y x6 (w.setCell ⟨g, 5, none⟩ y) := by
  obtain ⟨h0, hf, h1, h2, h3, h4, h5, h6, h7⟩ := h
  exact ⟨by simpa [World.setCell] using h0, fun i => by rw [World.frozen?_setCell]; exact hf i, by rw [World.cell?_setCell_other (h := fun e => absurd (congrArg Addr.off e) (show ¬ (5 : Nat) = 0 by decide))]; exact h1, by rw [World.cell?_setCell_other (h := fun e => absurd (congrArg Addr.off e) (show ¬ (5 : Nat) = 1 by decide))]; exact h2, by rw [World.cell?_setCell_other (h := fun e => absurd (congrArg Addr.off e) (show ¬ (5 : Nat) = 2 by decide))]; exact h3, by rw [World.cell?_setCell_other (h := fun e => absurd (congrArg Addr.off e) (show ¬ (5 : Nat) = 3 by decide))]; exact h4, by rw [World.cell?_setCell_other (h := fun e => absurd (congrArg Addr.off e) (show ¬ (5 : Nat) = 4 by decide))]; exact h5, by rw [World.cell?_setCell_same' _ _ _ (by rw [h6]; rfl)], by rw [World.cell?_setCell_other (h := fun e => absurd (congrArg Addr.off e) (show ¬ (5 : Nat) = 6 by decide))]; exact h7⟩
theorem Sev.set6 {g : Nat} {x0 x1 x2 x3 x4 x5 x6 : Value} {w : World} (h : Sev g x0 x1 x2 x3 x4 x5 x6 w) (y : Value) : Sev g x0 x1 x2 x3 x4 x5 y (w.setCell ⟨g, 6, none⟩ y) := by
  obtain ⟨h0, hf, h1, h2, h3, h4, h5, h6, h7⟩ := h
  exact ⟨by simpa [World.setCell] using h0, fun i => by rw [World.frozen?_setCell]; exact hf i, by rw [World.cell?_setCell_other (h := fun e => absurd (congrArg Addr.off e) (show ¬ (6 : Nat) = 0 by decide))]; exact h1, by rw [World.cell?_setCell_other (h := fun e => absurd (congrArg Addr.off e) (show ¬ (6 : Nat) = 1 by decide))]; exact h2, by rw [World.cell?_setCell_other (h := fun e => absurd (congrArg Addr.off e) (show ¬ (6 : Nat) = 2 by decide))]; exact h3, by rw [World.cell?_setCell_other (h := fun e => absurd (congrArg Addr.off e) (show ¬ (6 : Nat) = 3 by decide))]; exact h4, by rw [World.cell?_setCell_other (h := fun e => absurd (congrArg Addr.off e) (show ¬ (6 : Nat) = 4 by decide))]; exact h5, by rw [World.cell?_setCell_other (h := fun e => absurd (congrArg Addr.off e) (show ¬ (6 : Nat) = 5 by decide))]; exact h6, by rw [World.cell?_setCell_same' _ _ _ (by rw [h7]; rfl)]⟩
theorem ownsRow_set {w : World} {B e s n : Nat} {v : Value} {xs : List Value} (h : w.ownsRow B e s v n xs) {a : Addr} (ha : a.block < B) (u : Value) : (w.setCell a u).ownsRow B e s v n xs := by
  refine ⟨h.1, ?_⟩
  rcases h.2 with hn | ⟨g, cap, cur, hv, hB, hg, h1, h2, h3, h4⟩
  · exact .inl hn
  · exact .inr ⟨g, cap, cur, hv, hB, (Go.Deep.blk_setCell_other w a u g (by omega)).trans hg, h1, h2, h3, h4⟩
theorem ownsRow_below {w w2 : World} {B e s n : Nat} {v : Value} {xs : List Value} (h : w.ownsRow B e s v n xs) (hb : Below w.heap.size w w2) : w2.ownsRow B e s v n xs := by
  have hlt := h.lt
  refine ⟨h.1, ?_⟩
  rcases h.2 with hn | ⟨g, cap, cur, hv, hB, hg, h1, h2, h3, h4⟩
  · exact .inl hn
  · have h5 : g < w.heap.size := (hlt g (by rw [hv]; rfl)).2
    exact .inr ⟨g, cap, cur, hv, hB, (hb.block g h5).trans hg, h1, h2, h3, h4⟩
theorem cells_later {W w : World} {p : Option Addr} {cs : List Value} (hx : ∀ j u, cs[j]? = some u → ∃ a, p = some a ∧ W.cell? (a.add j) = some u) (hb : Below W.heap.size W w) : ∀ j u, cs[j]? = some u → ∃ a, p = some a ∧ w.cell? (a.add j) = some u := fun j u h => by
  obtain ⟨a, e, hc⟩ := hx j u h
  exact ⟨a, e, (hb.cell (p := a.add j) (block_lt hc)).trans hc⟩
theorem mapC_one (l : List Int) : ∀ u ∈ l.map (Value.int .i64), u.oneCell' = true := by
  intro u hu
  obtain ⟨v, _, rfl⟩ := List.mem_map.1 hu
  rfl
theorem row_slice {w : World} {B : Nat} {e : TypeId} {m n : Nat} {v : Value} {xs : List Value} (h : w.ownsRow B e m v n xs) : ∃ (p : Option Addr) (c : Nat), v = .slice p n c := by
  rcases h.2 with ⟨rfl, rfl⟩ | ⟨g, cap, cur, rfl, _⟩
  · exact ⟨none, 0, rfl⟩
  · exact ⟨_, cap, rfl⟩
set_option maxRecDepth 100000 in
set_option maxHeartbeats 2000000 in
theorem copyInstr_any (B : Nat) (d : Ins) (ts : List Int) (W : World) (hB : B ≤ W.heap.size) (hd : ArgsAt B W d) (ht : IntsAt B W d.tp d.tl d.tc ts) (ha : d.args.length ≤ 1048576) (hl : ts.length ≤ 1048576) :
    Calls Try.prog 44 #[d.val] W fun e w' => ∃ ap ac tp tc, e = .returned (d.with ap ac tp tc).val ∧ Past W.heap.size W w' ∧
      w'.ownsRow W.heap.size 49 3 (.slice ap d.args.length ac) d.args.length (d.args.flatMap argC) ∧ w'.ownsRow W.heap.size 3 1 (.slice tp ts.length tc) ts.length (ts.map (Value.int .i64)) := by
  have hx1 := args_cells hd
  have hx2 := ints_cells ht
  obtain ⟨e1, -, -, -⟩ := id hd
  obtain ⟨e2, -, -, -⟩ := id ht
  obtain ⟨op, rg, ty, nn, fl, ap, al, ac, tp, tl, tc, args⟩ := d
  simp only [] at *
  subst e1 e2
  unfold Ins.with Ins.val
  simp only []
  have P0 := (Past.refl (Nat.le_refl W.heap.size)).alloc (.cells #[.int .i64 op, .int .i64 rg, .int .i64 ty, .int .i64 nn, .int .i64 fl, .slice ap args.length ac, .slice tp ts.length tc] 46)
  go_enter Try.func44, Try.ntmps44
  go_wp2_with fail
  have S0 : Sev W.heap.size (.int .i64 op) (.int .i64 rg) (.int .i64 ty) (.int .i64 nn) (.int .i64 fl) (.slice ap args.length ac) (.slice tp ts.length tc) ((W.alloc (.cells #[.int .i64 op, .int .i64 rg, .int .i64 ty, .int .i64 nn, .int .i64 fl, .slice ap args.length ac, .slice tp ts.length tc] 46)).alloc (.cells #[.int .i64 0, .int .i64 0, .int .i64 0, .int .i64 0, .int .i64 0, .slice none 0 0, .slice none 0 0] 46)) :=
    (Sev.new W rfl _ _ _ _ _ _ _ _).below ((Below.refl (W.heap.size + 1) _).alloc (by simp) _) (Nat.lt_succ_self _)
  have R0 : Sev (W.heap.size + 1) (.int .i64 0) (.int .i64 0) (.int .i64 0) (.int .i64 0) (.int .i64 0) (.slice none 0 0) (.slice none 0 0) ((W.alloc (.cells #[.int .i64 op, .int .i64 rg, .int .i64 ty, .int .i64 nn, .int .i64 fl, .slice ap args.length ac, .slice tp ts.length tc] 46)).alloc (.cells #[.int .i64 0, .int .i64 0, .int .i64 0, .int .i64 0, .int .i64 0, .slice none 0 0, .slice none 0 0] 46)) :=
    Sev.new _ (by simp) _ _ _ _ _ _ _ _
  have P1 := P0.alloc (.cells #[.int .i64 0, .int .i64 0, .int .i64 0, .int .i64 0, .int .i64 0, .slice none 0 0, .slice none 0 0] 46)
  have z2 : ((W.alloc (.cells #[.int .i64 op, .int .i64 rg, .int .i64 ty, .int .i64 nn, .int .i64 fl, .slice ap args.length ac, .slice tp ts.length tc] 46)).alloc (.cells #[.int .i64 0, .int .i64 0, .int .i64 0, .int .i64 0, .int .i64 0, .slice none 0 0, .slice none 0 0] 46)).heap.size = W.heap.size + 2 := by simp
  generalize ((W.alloc (.cells #[.int .i64 op, .int .i64 rg, .int .i64 ty, .int .i64 nn, .int .i64 fl, .slice ap args.length ac, .slice tp ts.length tc] 46)).alloc (.cells #[.int .i64 0, .int .i64 0, .int .i64 0, .int .i64 0, .int .i64 0, .slice none 0 0, .slice none 0 0] 46)) = W2 at *
  refine (copyList_V ap args.length ac (args.flatMap argC) W2 (argC_len _) (cells_later hx1 P1.2) (argC_one _) ha).mono ?_
  rintro e w3 ⟨v3, rfl, hb3, hrow3⟩
  obtain ⟨q3, c3, rfl⟩ := row_slice hrow3
  rw [z2] at hrow3
  have S3 := S0.below hb3.2 (by omega)
  have R3 := R0.below hb3.2 (by omega)
  have P3 := P1.trans ⟨P1.size, hb3.2.mono P1.size⟩
  have z3 := hb3.size
  have S4 := S3.set5 (.slice q3 args.length c3)
  have R4 := R3.other (d := W.heap.size) (by omega) 5 (.slice q3 args.length c3)
  have P4 := P3.set (a := ⟨W.heap.size, 5, none⟩) (Nat.le_refl _) (.slice q3 args.length c3)
  have hrow4 := ownsRow_set hrow3 (a := ⟨W.heap.size, 5, none⟩) (by dsimp only; omega) (.slice q3 args.length c3)
  have z4 : (w3.setCell ⟨W.heap.size, 5, none⟩ (.slice q3 args.length c3)).heap.size = w3.heap.size := by simp [World.setCell]
  obtain ⟨s0, sf, s1, s2, s3, s4, s5, s6, s7⟩ := id S3
  obtain ⟨t0, tf, t1, t2, t3, t4, t5, t6, t7⟩ := id S4
  clear S0 R0 S3 R3 P1 P3 P0
  go_wp2_with fail
  generalize w3.setCell ⟨W.heap.size, 5, none⟩ (.slice q3 args.length c3) = W4 at *
  refine (copyList_N tp ts.length tc (ts.map (Value.int .i64)) W4 (by rw [List.length_map, Nat.mul_one]) (cells_later hx2 P4.2) (mapC_one _) hl).mono ?_
  rintro e w5 ⟨v5, rfl, hb5, hrow5⟩
  obtain ⟨q5, c5, rfl⟩ := row_slice hrow5
  have S5 := S4.below hb5.2 (by omega)
  have R5 := R4.below hb5.2 (by omega)
  have P5 := P4.trans ⟨P4.size, hb5.2.mono P4.size⟩
  have hrow4' := ownsRow_below hrow4 hb5.2
  have S6 := S5.set6 (.slice q5 ts.length c5)
  have R6 := R5.other (d := W.heap.size) (by omega) 6 (.slice q5 ts.length c5)
  have P6 := P5.set (a := ⟨W.heap.size, 6, none⟩) (Nat.le_refl _) (.slice q5 ts.length c5)
  have hrow6 := ownsRow_set hrow4' (a := ⟨W.heap.size, 6, none⟩) (by dsimp only; omega) (.slice q5 ts.length c5)
  have hrow7 := ownsRow_set hrow5 (a := ⟨W.heap.size, 6, none⟩) (by dsimp only; omega) (.slice q5 ts.length c5)
  obtain ⟨a0, af, a1, a2, a3, a4, a5, a6, a7⟩ := id S5
  obtain ⟨b0, bf, b1, b2, b3, b4, b5, b6, b7⟩ := id S6
  obtain ⟨r0, rf, r1, r2, r3, r4, r5, r6, r7⟩ := id R6
  clear s0 sf s1 s2 s3 s4 s5 s6 s7 t0 tf t1 t2 t3 t4 t5 t6 t7 S4 R4 P4 S5 R5 P5 hrow3 hrow4 hrow4' hrow5 hx1 hx2
  go_wp2_with fail
  generalize w5.setCell ⟨W.heap.size, 6, none⟩ (.slice q5 ts.length c5) = w6 at *
  have RF := (((((((R6.set0 (.int .i64 op)).set1 (.int .i64 rg)).set2 (.int .i64 ty)).set3 (.int .i64 nn)).set4 (.int .i64 fl)).set5 (.slice q3 args.length c3)).set6 (.slice q5 ts.length c5))
  obtain ⟨f0, ff, f1, f2, f3, f4, f5, f6, f7⟩ := RF
  refine bodyPost_ret (v := .agg #[.int .i64 op, .int .i64 rg, .int .i64 ty, .int .i64 nn, .int .i64 fl, .slice q3 args.length c3, .slice q5 ts.length c5]) (by simp [results, Try.results44, go_sem, f1, f2, f3, f4, f5, f6, f7]) rfl ⟨q3, c3, q5, c5, rfl, (((((((P6.set (a := ⟨W.heap.size + 1, 0, none⟩) (by dsimp only; omega) (.int .i64 op)).set (a := ⟨W.heap.size + 1, 1, none⟩) (by dsimp only; omega) (.int .i64 rg)).set (a := ⟨W.heap.size + 1, 2, none⟩) (by dsimp only; omega) (.int .i64 ty)).set (a := ⟨W.heap.size + 1, 3, none⟩) (by dsimp only; omega) (.int .i64 nn)).set (a := ⟨W.heap.size + 1, 4, none⟩) (by dsimp only; omega) (.int .i64 fl)).set (a := ⟨W.heap.size + 1, 5, none⟩) (by dsimp only; omega) (.slice q3 args.length c3)).set (a := ⟨W.heap.size + 1, 6, none⟩) (by dsimp only; omega) (.slice q5 ts.length c5)), ?_, ?_⟩
  · exact World.ownsRow.mono (ownsRow_set (ownsRow_set (ownsRow_set (ownsRow_set (ownsRow_set (ownsRow_set (ownsRow_set hrow6 (a := ⟨W.heap.size + 1, 0, none⟩) (by dsimp only; omega) (.int .i64 op)) (a := ⟨W.heap.size + 1, 1, none⟩) (by dsimp only; omega) (.int .i64 rg)) (a := ⟨W.heap.size + 1, 2, none⟩) (by dsimp only; omega) (.int .i64 ty)) (a := ⟨W.heap.size + 1, 3, none⟩) (by dsimp only; omega) (.int .i64 nn)) (a := ⟨W.heap.size + 1, 4, none⟩) (by dsimp only; omega) (.int .i64 fl)) (a := ⟨W.heap.size + 1, 5, none⟩) (by dsimp only; omega) (.slice q3 args.length c3)) (a := ⟨W.heap.size + 1, 6, none⟩) (by dsimp only; omega) (.slice q5 ts.length c5)) (by omega)
  · exact World.ownsRow.mono (ownsRow_set (ownsRow_set (ownsRow_set (ownsRow_set (ownsRow_set (ownsRow_set (ownsRow_set hrow7 (a := ⟨W.heap.size + 1, 0, none⟩) (by dsimp only; omega) (.int .i64 op)) (a := ⟨W.heap.size + 1, 1, none⟩) (by dsimp only; omega) (.int .i64 rg)) (a := ⟨W.heap.size + 1, 2, none⟩) (by dsimp only; omega) (.int .i64 ty)) (a := ⟨W.heap.size + 1, 3, none⟩) (by dsimp only; omega) (.int .i64 nn)) (a := ⟨W.heap.size + 1, 4, none⟩) (by dsimp only; omega) (.int .i64 fl)) (a := ⟨W.heap.size + 1, 5, none⟩) (by dsimp only; omega) (.slice q3 args.length c3)) (a := ⟨W.heap.size + 1, 6, none⟩) (by dsimp only; omega) (.slice q5 ts.length c5)) (by omega)
/-- The blocks from a on, ahead of b, are as they were. -/
def Stay (a b : Nat) (w w' : World) : Prop := ∀ k, a ≤ k → k < b → w'.heap[k]? = w.heap[k]?
theorem Stay.refl (a b : Nat) (w : World) : Stay a b w w := fun _ _ _ => rfl
theorem Stay.trans {a b : Nat} {u v w : World} (h : Stay a b u v) (k : Stay a b v w) : Stay a b u w := fun i x y => (k i x y).trans (h i x y)
theorem Stay.mono {a b a' b' : Nat} {w w' : World} (h : Stay a b w w') (ha : a ≤ a') (hb : b' ≤ b) : Stay a' b' w w' := fun k x y => h k (Nat.le_trans ha x) (Nat.lt_of_lt_of_le y hb)
theorem below_stay {B a b : Nat} {w w' : World} (h : Below B w w') (hb : b ≤ B) : Stay a b w w' := fun k _ y => h.block k (Nat.lt_of_lt_of_le y hb)
theorem Past.stay {B a b : Nat} {w w' : World} (h : Past B w w') (hb : b ≤ B) : Stay a b w w' := below_stay h.2 hb
/-- For each element memory of its own, one range behind the other, none of them holds g. -/
def Spread {α : Type} (Q : Nat → Nat → World → α → Prop) (g : Option Nat) : Nat → Nat → World → List α → Prop
  | lo, hi, _, [] => lo ≤ hi
  | lo, hi, w, x :: xs => ∃ a b, lo ≤ a ∧ a ≤ b ∧ (∀ k, g = some k → k < a ∨ b ≤ k) ∧ Q a b w x ∧ Spread Q g b hi w xs
section
variable {α : Type} {Q : Nat → Nat → World → α → Prop} {g : Option Nat}
theorem Spread.le : ∀ {xs : List α} {lo hi : Nat} {w : World}, Spread Q g lo hi w xs → lo ≤ hi
  | [], _, _, _, h => h
  | x :: xs, lo, hi, w, ⟨a, b, h1, h2, _, _, h⟩ => by have := Spread.le h; omega
theorem Spread.up : ∀ {xs : List α} {lo hi hi' : Nat} {w : World}, Spread Q g lo hi w xs → hi ≤ hi' → Spread Q g lo hi' w xs
  | [], _, _, _, _, h, hh => Nat.le_trans h hh
  | x :: xs, _, _, _, _, ⟨a, b, h1, h2, h3, h4, h⟩, hh => ⟨a, b, h1, h2, h3, h4, Spread.up h hh⟩
theorem Spread.down {xs : List α} {lo lo' hi : Nat} {w : World} (h : Spread Q g lo hi w xs) (hl : lo' ≤ lo) : Spread Q g lo' hi w xs := by
  cases xs with
  | nil => exact Nat.le_trans hl h
  | cons x xs =>
    obtain ⟨a, b, h1, h2, h3, h4, h⟩ := h
    exact ⟨a, b, Nat.le_trans hl h1, h2, h3, h4, h⟩
/-- Q hangs on its range alone. -/
def Local (Q : Nat → Nat → World → α → Prop) : Prop := ∀ a b w w' x, Stay a b w w' → Q a b w x → Q a b w' x
theorem Spread.stay (hQ : Local Q) : ∀ {xs : List α} {lo hi : Nat} {w w' : World}, Spread Q g lo hi w xs → (∀ k, lo ≤ k → k < hi → g ≠ some k → w'.heap[k]? = w.heap[k]?) → Spread Q g lo hi w' xs
  | [], _, _, _, _, h, _ => h
  | x :: xs, lo, hi, w, w', ⟨a, b, h1, h2, h3, h4, h⟩, hs => by
    have hle := Spread.le h
    exact ⟨a, b, h1, h2, h3, hQ a b w w' x (fun k x y => hs k (by omega) (by omega) (fun e => by have := h3 k e; omega)) h4, Spread.stay hQ h (fun k x y e => hs k (by omega) y e)⟩
theorem Spread.snoc : ∀ {xs : List α} {lo hi a b : Nat} {w : World} {x : α}, Spread Q g lo hi w xs → hi ≤ a → a ≤ b → (∀ k, g = some k → k < a ∨ b ≤ k) → Q a b w x → Spread Q g lo b w (xs ++ [x])
  | [], lo, hi, a, b, w, x, h, h1, h2, h3, h4 => ⟨a, b, Nat.le_trans h h1, h2, h3, h4, Nat.le_refl b⟩
  | y :: xs, lo, hi, a, b, w, x, ⟨a', b', k1, k2, k3, k4, h⟩, h1, h2, h3, h4 => ⟨a', b', k1, k2, k3, k4, Spread.snoc h h1 h2 h3 h4⟩
/-- Another row's block: g may be any that lies in none of the ranges; so one at or behind hi. -/
theorem Spread.row : ∀ {xs : List α} {lo hi : Nat} {w : World} {g' : Option Nat}, Spread Q g lo hi w xs → (∀ k, g' = some k → hi ≤ k ∨ k < lo) → Spread Q g' lo hi w xs
  | [], _, _, _, _, h, _ => h
  | x :: xs, lo, hi, w, g', ⟨a, b, h1, h2, h3, h4, h⟩, hg => by
    have hle := Spread.le h
    exact ⟨a, b, h1, h2, fun k e => by have := hg k e; omega, h4, Spread.row h (fun k e => by have := hg k e; omega)⟩
/-- An element's own memory; what is done within it leaves the others'. -/
theorem Spread.at (hQ : Local Q) : ∀ {xs : List α} {lo hi : Nat} {w : World} (h : Spread Q g lo hi w xs) (i : Nat) (hi' : i < xs.length),
    ∃ a b, lo ≤ a ∧ a ≤ b ∧ b ≤ hi ∧ (∀ k, g = some k → k < a ∨ b ≤ k) ∧ Q a b w xs[i] ∧
      ∀ w' y, (∀ k, lo ≤ k → k < hi → g ≠ some k → (k < a ∨ b ≤ k) → w'.heap[k]? = w.heap[k]?) → Q a b w' y → Spread Q g lo hi w' (xs.set i y)
  | [], _, _, _, _, i, hi' => absurd hi' (Nat.not_lt_zero _)
  | x :: xs, lo, hi, w, ⟨a, b, h1, h2, h3, h4, h⟩, 0, _ => by
    have hle := Spread.le h
    exact ⟨a, b, h1, h2, hle, h3, h4, fun w' y hs hy => ⟨a, b, h1, h2, h3, hy, Spread.stay hQ h (fun k p q e => hs k (by omega) q e (Or.inr p))⟩⟩
  | x :: xs, lo, hi, w, ⟨a, b, h1, h2, h3, h4, h⟩, i + 1, hi' => by
    obtain ⟨c, d, k1, k2, k3, k4, k5, k6⟩ := Spread.at hQ h i (by simpa using hi')
    exact ⟨c, d, by omega, k2, k3, k4, k5, fun w' y hs hy => ⟨a, b, h1, h2, h3, hQ a b w w' x (fun k p q => hs k (by omega) (by omega) (fun e => by have := h3 k e; omega) (Or.inl (by omega))) h4,
      k6 w' y (fun k p q e r => hs k (by omega) q e r) hy⟩⟩
theorem Spread.imp {Q' : Nat → Nat → World → α → Prop} (h : ∀ a b w x, Q a b w x → Q' a b w x) : ∀ {xs : List α} {lo hi : Nat} {w : World}, Spread Q g lo hi w xs → Spread Q' g lo hi w xs
  | [], _, _, _, k => k
  | x :: xs, _, _, _, ⟨a, b, h1, h2, h3, h4, k⟩ => ⟨a, b, h1, h2, h3, h _ _ _ _ h4, Spread.imp h k⟩
end
def sets (xs : List Value) (o : Nat) : List Value → List Value
  | [] => xs
  | c :: r => sets (xs.set o c) (o + 1) r
theorem sets_len : ∀ (cs : List Value) (xs : List Value) (o : Nat), (sets xs o cs).length = xs.length
  | [], _, _ => rfl
  | c :: r, xs, o => by unfold sets; rw [sets_len r, List.length_set]
theorem sets_get : ∀ (cs : List Value) (xs : List Value) (o j : Nat), o + cs.length ≤ xs.length → (sets xs o cs)[j]? = if o ≤ j ∧ j < o + cs.length then cs[j - o]? else xs[j]?
  | [], xs, o, j, _ => by
    have : ¬ (o ≤ j ∧ j < o + ([] : List Value).length) := by simp only [List.length_nil]; omega
    rw [if_neg this]
    rfl
  | c :: r, xs, o, j, h => by
    simp only [List.length_cons] at h
    unfold sets
    rw [sets_get r (xs.set o c) (o + 1) j (by rw [List.length_set]; omega)]
    by_cases h1 : o + 1 ≤ j ∧ j < o + 1 + r.length
    · rw [if_pos h1, if_pos (by simp only [List.length_cons]; omega)]
      obtain ⟨m, rfl⟩ : ∃ m, j = o + 1 + m := ⟨j - (o + 1), by omega⟩
      rw [show o + 1 + m - o = m + 1 by omega, show o + 1 + m - (o + 1) = m by omega, List.getElem?_cons_succ]
    · rw [if_neg h1, List.getElem?_set]
      by_cases h2 : o = j
      · subst h2
        rw [if_pos rfl, if_pos (by omega), if_pos (by simp only [List.length_cons]; omega), Nat.sub_self]; rfl
      · rw [if_neg h2, if_neg (by simp only [List.length_cons]; omega)]
theorem flat_len {α : Type} (f : α → List Value) (m : Nat) (hf : ∀ x, (f x).length = m) (L : List α) : (L.flatMap f).length = L.length * m := by
  induction L with
  | nil => simp
  | cons x L ih => rw [List.flatMap_cons, List.length_append, ih, hf, List.length_cons, Nat.add_mul, Nat.one_mul, Nat.add_comm]
theorem sets_flat {α : Type} (f : α → List Value) (m : Nat) (hm : 0 < m) (hf : ∀ x, (f x).length = m) (L : List α) (i : Nat) (hi : i < L.length) (y : α) : sets (L.flatMap f) (i * m) (f y) = (L.set i y).flatMap f := by
  have hle : i * m + m ≤ L.length * m := by have := Nat.mul_le_mul_right m (Nat.succ_le_of_lt hi); rw [Nat.succ_mul] at this; exact this
  apply List.ext_getElem?
  intro j
  rw [sets_get _ _ _ _ (by rw [flat_len f m hf, hf]; exact hle), hf]
  by_cases hj : j < L.length * m
  · have hq : j / m < L.length := Nat.div_lt_of_lt_mul (by rw [Nat.mul_comm]; exact hj)
    have hr : j % m < m := Nat.mod_lt _ hm
    have e : j = j / m * m + j % m := by rw [Nat.mul_comm]; exact (Nat.div_add_mod j m).symm
    have e2 : ((L.set i y).flatMap f)[j]? = (f (if i = j / m then y else L[j / m]))[j % m]? := by
      have := flat_get f m hf (L.set i y) (j / m) (by simpa using hq) (j % m) hr
      rw [← e, List.getElem_set] at this; exact this
    have e3 : (L.flatMap f)[j]? = (f L[j / m])[j % m]? := by
      have := flat_get f m hf L (j / m) hq (j % m) hr
      rw [← e] at this; exact this
    rw [e2, e3]
    by_cases hij : i = j / m
    · rw [if_pos hij]
      have h1 : i * m ≤ j := by rw [hij, Nat.mul_comm]; exact Nat.mul_div_le j m
      have h2 : j < i * m + m := by rw [e, hij]; omega
      rw [if_pos ⟨h1, h2⟩]
      congr 1
      rw [hij]; omega
    · rw [if_neg hij, if_neg]
      rintro ⟨h1, h2⟩
      apply hij
      have h3 : i ≤ j / m := (Nat.le_div_iff_mul_le hm).2 h1
      have h4 : j / m < i + 1 := (Nat.div_lt_iff_lt_mul hm).2 (by rw [Nat.add_mul, Nat.one_mul]; exact h2)
      omega
  · rw [if_neg (by omega), List.getElem?_eq_none (by rw [flat_len f m hf]; omega), List.getElem?_eq_none (by rw [flat_len f m hf, List.length_set]; omega)]
theorem setCells_own {B e m g n cap : Nat} : ∀ (cs : List Value) (o : Nat) {w : World} {xs : List Value}, w.ownsRow B e m (.slice (some ⟨g, 0, none⟩) n cap) n xs →
    (w.setCells g o cs).ownsRow B e m (.slice (some ⟨g, 0, none⟩) n cap) n (sets xs o cs)
  | [], _, _, _, h => h
  | c :: r, o, w, xs, h => by
    unfold sets World.setCells
    exact setCells_own r (o + 1) (h.stored o c).1
theorem setCells_heap (g : Nat) : ∀ (cs : List Value) (o : Nat) (w : World) (k : Nat), k ≠ g → (w.setCells g o cs).heap[k]? = w.heap[k]?
  | [], _, _, _, _ => rfl
  | c :: r, o, w, k, h => by
    unfold World.setCells
    rw [setCells_heap g r (o + 1) _ k h]
    exact Below.heap_setCell w ⟨g, o, none⟩ c k h
theorem Past.setCells {B : Nat} {W : World} {g : Nat} (hg : B ≤ g) : ∀ (cs : List Value) (o : Nat) {w : World}, Past B W w → Past B W (w.setCells g o cs)
  | [], _, _, h => h
  | c :: r, o, w, h => by
    unfold World.setCells
    exact Past.setCells hg r (o + 1) (h.set (a := ⟨g, o, none⟩) hg c)
theorem setCells_size (g : Nat) : ∀ (cs : List Value) (o : Nat) (w : World), (w.setCells g o cs).heap.size = w.heap.size
  | [], _, _ => rfl
  | c :: r, o, w => by
    unfold World.setCells
    rw [setCells_size g r (o + 1)]
    simp [World.setCell]
/-- An element of a row of the call's own. -/
theorem own_range {α : Type} {f : α → List Value} {m : Nat} (hf : ∀ x, (f x).length = m) {B e g n cap : Nat} {w : World} {L : List α} (h : w.ownsRow B e m (.slice (some ⟨g, 0, none⟩) n cap) n (L.flatMap f)) (i : Nat) (hi : i < L.length) : w.rangeAt g (i * m) (f L[i]) := by
  intro j v hv
  have hj : j < m := by have := (List.getElem?_eq_some_iff.1 hv).1; rwa [hf] at this
  have hl : L.length * m = n * m := by rw [← flat_len f m hf]; exact h.1
  have hle : i * m + m ≤ L.length * m := by have := Nat.mul_le_mul_right m (Nat.succ_le_of_lt hi); rw [Nat.succ_mul] at this; exact this
  rw [h.cellAt (i * m + j) (by omega), flat_get f m hf L i hi j hj]
  exact hv
theorem own_there {α : Type} {f : α → List Value} {m : Nat} (hf : ∀ x, (f x).length = m) {B e g n cap : Nat} {w : World} {L : List α} (h : w.ownsRow B e m (.slice (some ⟨g, 0, none⟩) n cap) n (L.flatMap f)) (i : Nat) (hi : i < L.length) : w.there g (i * m) m := by
  intro j hj
  have h1 := own_range hf h i hi j _ (List.getElem?_eq_getElem (by rw [hf]; exact hj))
  exact ⟨by rw [h1]; rfl, h.frozenAt _⟩
set_option maxRecDepth 100000 in
set_option maxHeartbeats 2000000 in
theorem copyEach_C {α δ : Type} (cel : α → List Value) (hcel : ∀ x, (cel x).length = 7) (hone : ∀ x, ∀ u ∈ cel x, u.oneCell' = true) (dat : α → δ) (Q : Nat → Nat → World → α → Prop) (hQ : Local Q) (h : FuncId) (hen : ∀ (args : Array Value) (w : World), (callFunc h args).run Try.prog w = .ok (.enter h args) w)
    (xs : List α) (p : Option Addr) (cap : Nat) (W : World) (hs : ∀ j u, (xs.flatMap cel)[j]? = some u → ∃ a, p = some a ∧ W.cell? (a.add j) = some u) (hl : xs.length ≤ 1048576)
    (hcopy : ∀ i (hi : i < xs.length) w, Past W.heap.size W w → Calls Try.prog h #[.agg (cel xs[i]).toArray] w fun e w' => ∃ y, e = .returned (.agg (cel y).toArray) ∧ dat y = dat xs[i] ∧ Past w.heap.size w w' ∧ Q w.heap.size w'.heap.size w' y) :
    Calls Try.prog 43 #[.slice p xs.length cap, .func (.func h) #[] #[]] W fun e w' => ∃ v' ys, e = .returned v' ∧ ys.map dat = xs.map dat ∧ Past W.heap.size W w' ∧ w'.ownsRow W.heap.size 46 7 v' ys.length (ys.flatMap cel) ∧ Spread Q v'.ownBlock W.heap.size w'.heap.size w' ys := by
  have HC := Lib.hid hcopy
  have HI : Hid ((Try.prog.info? 46).map (·.size) = some 7) := Lib.hid (by kernel_rfl)
  clear hcopy
  go_enter Try.func43, Try.ntmps43
  go_wp2_with fail
  refine (copyList_C p xs.length cap (xs.flatMap cel) W (flat_len cel 7 hcel xs) hs (fun u hu => by obtain ⟨x, _, hx⟩ := List.mem_flatMap.1 hu; exact hone x u hx) hl).mono ?_
  rintro e w1 ⟨v1, rfl, hp1, hr1⟩
  obtain ⟨q1, c1, rfl⟩ := row_slice hr1
  go_wp2_with fail
  go_loopw [10] (fun t wr => ∃ ys : List α, ys.length ≤ xs.length ∧ t = .int .i64 ys.length ∧ ys.map dat = (xs.take ys.length).map dat ∧ Past W.heap.size W wr ∧ wr.ownsRow W.heap.size 46 7 (.slice q1 xs.length c1) xs.length ((ys ++ xs.drop ys.length).flatMap cel) ∧ Spread Q (Value.slice q1 xs.length c1).ownBlock W.heap.size wr.heap.size wr ys) (fun t _ => xs.length - (intOf t).toNat)
  case atStart => exact ⟨[], Nat.zero_le _, rfl, rfl, hp1, by simpa using hr1, hp1.size⟩
  case round =>
    obtain ⟨ys, hy, rfl, hd, hp, hr, hsp⟩ := hrel
    by_cases hlt : ys.length < xs.length
    · obtain ⟨g, rfl⟩ : ∃ g, q1 = some ⟨g, 0, none⟩ := by
        rcases id hr.2 with ⟨_, h0⟩ | ⟨g, cap, cur, e, _⟩
        · omega
        · injection e with e1 e2 e3; exact ⟨g, e1⟩
      have hg := hr.lt g rfl
      have hil : ys.length < (ys ++ xs.drop ys.length).length := by rw [List.length_append, List.length_drop]; omega
      have eel : (ys ++ xs.drop ys.length)[ys.length]'hil = xs[ys.length] := by rw [List.getElem_append_right (Nat.le_refl _)]; simp
      have hrange := own_range hcel hr ys.length hil
      rw [eel] at hrange
      have hcap : xs.length ≤ c1 ∧ c1 ≤ maxLen := by
        rcases id hr.2 with ⟨h0, _⟩ | ⟨g, cap, cur, e, _, _, h1, h2, _⟩
        · cases h0
        · injection e with e1 e2 e3; subst e3; exact ⟨h1, h2⟩
      obtain ⟨hcap1, hcap2⟩ := hcap
      unfold maxLen at hcap2
      have HRG := Lib.hid hrange
      have HEEL := Lib.hid eel
      have HR := Lib.hid hr
      have HSP := Lib.hid hsp
      clear hrange eel hr hsp
      go_wp2_with (first
        | (refine wpList_load_mid rfl 46 (.tmp 18) rfl g (ys.length * 7) (by simp [go_sem]) (cel xs[ys.length]) _ HRG.out Try.underlying46 rfl (by rw [hcel]; exact HI.out) ?_))
      refine (HC.out ys.length hlt wr hp).mono ?_
      rintro e w2 ⟨y, rfl, hdy, hp2, hq2⟩
      have hr2 := ownsRow_below HR.out hp2.2
      have hth := own_there hcel hr2 ys.length hil
      have HTH := Lib.hid hth
      clear hth
      go_wp2_with (first
        | (refine wpList_store_mid rfl 46 (.tmp 21) (.tmp 20) rfl g (ys.length * 7) (cel y).toArray (by simp [go_sem]) (by simp [go_sem]) (by simpa [hcel] using HTH.out) (by simpa [hcel] using HI.out) (all_oneCell_toArray (hone y)) ?_))
      have hset := setCells_own (cel y) (ys.length * 7) hr2
      rw [sets_flat cel 7 (by decide) hcel _ ys.length hil y] at hset
      have el : (ys ++ xs.drop ys.length).set ys.length y = (ys ++ [y]) ++ xs.drop (ys ++ [y]).length := by
        rw [List.set_append_right _ _ (Nat.le_refl _), Nat.sub_self, List.drop_eq_getElem_cons hlt, List.set_cons_zero, List.append_assoc]
        simp
      rw [el] at hset
      have hheap := setCells_heap g (cel y) (ys.length * 7) w2
      have hs1 := (HSP.out).stay hQ (w' := w2.setCells g (ys.length * 7) (cel y)) (fun k h1 h2 h3 => (hheap k (fun e => h3 (by rw [e]; rfl))).trans (hp2.2.block k h2))
      have hs2 := hs1.snoc (Nat.le_refl _) hp2.2.size (fun k e => by have e2 : g = k := by simpa [Value.ownBlock] using e
                                                                     omega) (hQ _ _ _ _ _ (fun k h1 h2 => hheap k (by omega)) hq2)
      rw [← setCells_size g (cel y) (ys.length * 7) w2] at hs2
      try simp only [Nat.mul_one] at hset hs2
      refine ⟨⟨ys ++ [y], by simp; omega, by simp, ?_, Past.setCells hg.1 _ _ (hp.trans ⟨hp.size, hp2.2.mono hp.size⟩), hset, hs2⟩, by simp [intOf]; omega⟩
      rw [List.map_append, hd, List.length_append, List.length_singleton, List.take_succ_eq_append_getElem hlt, List.map_append, List.map_singleton, hdy]
      rfl
    · obtain e : ys.length = xs.length := by omega
      rw [e, List.drop_length, List.append_nil] at hr
      rw [e, List.take_length] at hd
      go_wp2_with fail
      go_ret
      exact ⟨_, ys, rfl, hd, hp, by rw [e]; exact hr, hsp⟩
set_option maxRecDepth 100000 in
set_option maxHeartbeats 2000000 in
theorem copyEach_B {α δ : Type} (cel : α → List Value) (hcel : ∀ x, (cel x).length = 1) (hone : ∀ x, ∀ u ∈ cel x, u.oneCell' = true) (dat : α → δ) (Q : Nat → Nat → World → α → Prop) (hQ : Local Q) (h : FuncId) (hen : ∀ (args : Array Value) (w : World), (callFunc h args).run Try.prog w = .ok (.enter h args) w)
    (xs : List α) (p : Option Addr) (cap : Nat) (W : World) (hs : ∀ j u, (xs.flatMap cel)[j]? = some u → ∃ a, p = some a ∧ W.cell? (a.add j) = some u) (hl : xs.length ≤ 1048576)
    (hcopy : ∀ i (hi : i < xs.length) w, Past W.heap.size W w → Calls Try.prog h #[.agg (cel xs[i]).toArray] w fun e w' => ∃ y, e = .returned (.agg (cel y).toArray) ∧ dat y = dat xs[i] ∧ Past w.heap.size w w' ∧ Q w.heap.size w'.heap.size w' y) :
    Calls Try.prog 37 #[.slice p xs.length cap, .func (.func h) #[] #[]] W fun e w' => ∃ v' ys, e = .returned v' ∧ ys.map dat = xs.map dat ∧ Past W.heap.size W w' ∧ w'.ownsRow W.heap.size 43 1 v' ys.length (ys.flatMap cel) ∧ Spread Q v'.ownBlock W.heap.size w'.heap.size w' ys := by
  have HC := Lib.hid hcopy
  have HI : Hid ((Try.prog.info? 43).map (·.size) = some 1) := Lib.hid (by kernel_rfl)
  clear hcopy
  go_enter Try.func37, Try.ntmps37
  go_wp2_with fail
  refine (copyList_B p xs.length cap (xs.flatMap cel) W (flat_len cel 1 hcel xs) hs (fun u hu => by obtain ⟨x, _, hx⟩ := List.mem_flatMap.1 hu; exact hone x u hx) hl).mono ?_
  rintro e w1 ⟨v1, rfl, hp1, hr1⟩
  obtain ⟨q1, c1, rfl⟩ := row_slice hr1
  go_wp2_with fail
  go_loopw [10] (fun t wr => ∃ ys : List α, ys.length ≤ xs.length ∧ t = .int .i64 ys.length ∧ ys.map dat = (xs.take ys.length).map dat ∧ Past W.heap.size W wr ∧ wr.ownsRow W.heap.size 43 1 (.slice q1 xs.length c1) xs.length ((ys ++ xs.drop ys.length).flatMap cel) ∧ Spread Q (Value.slice q1 xs.length c1).ownBlock W.heap.size wr.heap.size wr ys) (fun t _ => xs.length - (intOf t).toNat)
  case atStart => exact ⟨[], Nat.zero_le _, rfl, rfl, hp1, by simpa using hr1, hp1.size⟩
  case round =>
    obtain ⟨ys, hy, rfl, hd, hp, hr, hsp⟩ := hrel
    by_cases hlt : ys.length < xs.length
    · obtain ⟨g, rfl⟩ : ∃ g, q1 = some ⟨g, 0, none⟩ := by
        rcases id hr.2 with ⟨_, h0⟩ | ⟨g, cap, cur, e, _⟩
        · omega
        · injection e with e1 e2 e3; exact ⟨g, e1⟩
      have hg := hr.lt g rfl
      have hil : ys.length < (ys ++ xs.drop ys.length).length := by rw [List.length_append, List.length_drop]; omega
      have eel : (ys ++ xs.drop ys.length)[ys.length]'hil = xs[ys.length] := by rw [List.getElem_append_right (Nat.le_refl _)]; simp
      have hrange := own_range hcel hr ys.length hil
      rw [eel] at hrange
      have hcap : xs.length ≤ c1 ∧ c1 ≤ maxLen := by
        rcases id hr.2 with ⟨h0, _⟩ | ⟨g, cap, cur, e, _, _, h1, h2, _⟩
        · cases h0
        · injection e with e1 e2 e3; subst e3; exact ⟨h1, h2⟩
      obtain ⟨hcap1, hcap2⟩ := hcap
      unfold maxLen at hcap2
      have HRG := Lib.hid hrange
      have HEEL := Lib.hid eel
      have HR := Lib.hid hr
      have HSP := Lib.hid hsp
      clear hrange eel hr hsp
      go_wp2_with (first
        | (refine wpList_load_mid rfl 43 (.tmp 18) rfl g (ys.length * 1) (by simp [go_sem]) (cel xs[ys.length]) _ HRG.out Try.underlying43 rfl (by rw [hcel]; exact HI.out) ?_))
      refine (HC.out ys.length hlt wr hp).mono ?_
      rintro e w2 ⟨y, rfl, hdy, hp2, hq2⟩
      have hr2 := ownsRow_below HR.out hp2.2
      have hth := own_there hcel hr2 ys.length hil
      have HTH := Lib.hid hth
      clear hth
      go_wp2_with (first
        | (refine wpList_store_mid rfl 43 (.tmp 21) (.tmp 20) rfl g (ys.length * 1) (cel y).toArray (by simp [go_sem]) (by simp [go_sem]) (by simpa [hcel] using HTH.out) (by simpa [hcel] using HI.out) (all_oneCell_toArray (hone y)) ?_))
      have hset := setCells_own (cel y) (ys.length * 1) hr2
      rw [sets_flat cel 1 (by decide) hcel _ ys.length hil y] at hset
      have el : (ys ++ xs.drop ys.length).set ys.length y = (ys ++ [y]) ++ xs.drop (ys ++ [y]).length := by
        rw [List.set_append_right _ _ (Nat.le_refl _), Nat.sub_self, List.drop_eq_getElem_cons hlt, List.set_cons_zero, List.append_assoc]
        simp
      rw [el] at hset
      have hheap := setCells_heap g (cel y) (ys.length * 1) w2
      have hs1 := (HSP.out).stay hQ (w' := w2.setCells g (ys.length * 1) (cel y)) (fun k h1 h2 h3 => (hheap k (fun e => h3 (by rw [e]; rfl))).trans (hp2.2.block k h2))
      have hs2 := hs1.snoc (Nat.le_refl _) hp2.2.size (fun k e => by have e2 : g = k := by simpa [Value.ownBlock] using e
                                                                     omega) (hQ _ _ _ _ _ (fun k h1 h2 => hheap k (by omega)) hq2)
      rw [← setCells_size g (cel y) (ys.length * 1) w2] at hs2
      try simp only [Nat.mul_one] at hset hs2
      refine ⟨⟨ys ++ [y], by simp; omega, by simp, ?_, Past.setCells hg.1 _ _ (hp.trans ⟨hp.size, hp2.2.mono hp.size⟩), hset, hs2⟩, by simp [intOf]; omega⟩
      rw [List.map_append, hd, List.length_append, List.length_singleton, List.take_succ_eq_append_getElem hlt, List.map_append, List.map_singleton, hdy]
      rfl
    · obtain e : ys.length = xs.length := by omega
      rw [e, List.drop_length, List.append_nil] at hr
      rw [e, List.take_length] at hd
      go_wp2_with fail
      go_ret
      exact ⟨_, ys, rfl, hd, hp, by rw [e]; exact hr, hsp⟩
theorem infoOf_G : (Try.prog.info? 103).map (fun i => (i.zero, i.size, i.bytes)) = some (some (.agg #[.string ByteArray.empty, .int .i64 0]), 2, 24) := by kernel_rfl
theorem infoOf_X : (Try.prog.info? 55).map (fun i => (i.zero, i.size, i.bytes)) = some (some (.agg #[.string ByteArray.empty, .slice none 0 0, .int .i64 0]), 3, 48) := by kernel_rfl
theorem infoOf_F : (Try.prog.info? 25).map (fun i => (i.zero, i.size, i.bytes)) = some (some (.agg #[.string ByteArray.empty, .slice none 0 0, .int .i64 0, .slice none 0 0]), 4, 72) := by kernel_rfl
structure PIns where
  op : Int
  reg : Int
  ty : Int
  n : Int
  fl : Int
  args : List Arg
  tg : List Int
structure PFn where
  nm : ByteArray
  ps : List Int
  rt : Int
  bs : List (List PIns)
structure PExt where
  nm : ByteArray
  ps : List Int
  rt : Int
structure PVar where
  nm : ByteArray
  size : Int
structure PMod where
  vs : List PVar
  xs : List PExt
  fs : List PFn
abbrev LI := Ins × List Int
structure LB where
  p : Option Addr
  n : Nat
  k : Nat
  code : List LI
structure LFn where
  nm : ByteArray
  pp : Option Addr
  pn : Nat
  pc : Nat
  ps : List Int
  rt : Int
  bp : Option Addr
  bn : Nat
  bc : Nat
  bs : List LB
structure LExt where
  nm : ByteArray
  pp : Option Addr
  pn : Nat
  pc : Nat
  ps : List Int
  rt : Int
structure LMod where
  vp : Option Addr
  vn : Nat
  vc : Nat
  vs : List PVar
  xp : Option Addr
  xn : Nat
  xc : Nat
  xs : List LExt
  fp : Option Addr
  fn : Nat
  fc : Nat
  fs : List LFn
def insD (x : LI) : PIns := ⟨x.1.op, x.1.reg, x.1.ty, x.1.n, x.1.fl, x.1.args, x.2⟩
def blkD (c : LB) : List PIns := c.code.map insD
def fnD (f : LFn) : PFn := ⟨f.nm, f.ps, f.rt, f.bs.map blkD⟩
def extD (f : LExt) : PExt := ⟨f.nm, f.ps, f.rt⟩
def modD (m : LMod) : PMod := ⟨m.vs, m.xs.map extD, m.fs.map fnD⟩
def intC (i : Int) : List Value := [.int .i64 i]
def liC (x : LI) : List Value := insC x.1
def blkC (c : LB) : List Value := [.slice c.p c.n c.k]
def fnC (f : LFn) : List Value := [.string f.nm, .slice f.pp f.pn f.pc, .int .i64 f.rt, .slice f.bp f.bn f.bc]
def extC (f : LExt) : List Value := [.string f.nm, .slice f.pp f.pn f.pc, .int .i64 f.rt]
def varC (v : PVar) : List Value := [.string v.nm, .int .i64 v.size]
def modC (m : LMod) : List Value := [.slice m.vp m.vn m.vc, .slice m.xp m.xn m.xc, .slice m.fp m.fn m.fc]
theorem liC_one (x : LI) : ∀ u ∈ liC x, u.oneCell' = true := insC_one x.1
theorem blkC_one (x : LB) : ∀ u ∈ blkC x, u.oneCell' = true := by intro u hu; unfold blkC at hu; simp at hu; rw [hu]; rfl
theorem fnC_one (x : LFn) : ∀ u ∈ fnC x, u.oneCell' = true := by intro u hu; unfold fnC at hu; simp at hu; rcases hu with rfl | rfl | rfl | rfl <;> rfl
theorem extC_one (x : LExt) : ∀ u ∈ extC x, u.oneCell' = true := by intro u hu; unfold extC at hu; simp at hu; rcases hu with rfl | rfl | rfl <;> rfl
theorem varC_one (x : PVar) : ∀ u ∈ varC x, u.oneCell' = true := by intro u hu; unfold varC at hu; simp at hu; rcases hu with rfl | rfl <;> rfl
theorem intC_one (x : Int) : ∀ u ∈ intC x, u.oneCell' = true := by intro u hu; unfold intC at hu; simp at hu; rw [hu]; rfl
theorem intC_map (l : List Int) : l.flatMap intC = l.map (Value.int .i64) := by induction l with | nil => rfl | cons x l ih => rw [List.flatMap_cons, ih]; rfl
def RowAt (B : Nat) (w : World) (p : Option Addr) (cs : List Value) : Prop := ∀ j u, cs[j]? = some u → ∃ a, p = some a ∧ a.block < B ∧ w.cell? (a.add j) = some u
def ListIn {α : Type} (cel : α → List Value) (E : Nat → World → α → Prop) (B : Nat) (w : World) (p : Option Addr) (n c : Nat) (xs : List α) : Prop :=
  n = xs.length ∧ n ≤ c ∧ c ≤ maxLen ∧ RowAt B w p (xs.flatMap cel) ∧ ∀ x ∈ xs, E B w x
def NoMem {α : Type} : Nat → World → α → Prop := fun _ _ _ => True
def InsIn (B : Nat) (w : World) (x : LI) : Prop := ListIn argC NoMem B w x.1.ap x.1.al x.1.ac x.1.args ∧ ListIn intC NoMem B w x.1.tp x.1.tl x.1.tc x.2
def BlkIn (B : Nat) (w : World) (c : LB) : Prop := ListIn liC InsIn B w c.p c.n c.k c.code
def FnIn (B : Nat) (w : World) (f : LFn) : Prop := ListIn intC NoMem B w f.pp f.pn f.pc f.ps ∧ ListIn blkC BlkIn B w f.bp f.bn f.bc f.bs
def ExtIn (B : Nat) (w : World) (f : LExt) : Prop := ListIn intC NoMem B w f.pp f.pn f.pc f.ps
def ModIn (B : Nat) (w : World) (m : LMod) : Prop := ListIn varC NoMem B w m.vp m.vn m.vc m.vs ∧ ListIn extC ExtIn B w m.xp m.xn m.xc m.xs ∧ ListIn fnC FnIn B w m.fp m.fn m.fc m.fs
theorem RowAt.below {B : Nat} {W w : World} {p : Option Addr} {cs : List Value} (h : RowAt B W p cs) (hb : Below B W w) : RowAt B w p cs := fun j u hu => by
  obtain ⟨a, e, ha, hc⟩ := h j u hu
  exact ⟨a, e, ha, (hb.cell (p := a.add j) (by rw [add_block]; exact ha)).trans hc⟩
theorem RowAt.mono {B B' : Nat} {w : World} {p : Option Addr} {cs : List Value} (h : RowAt B w p cs) (hB : B ≤ B') : RowAt B' w p cs := fun j u hu => by
  obtain ⟨a, e, ha, hc⟩ := h j u hu
  exact ⟨a, e, Nat.lt_of_lt_of_le ha hB, hc⟩
/-- What lies below B stays, when all below B stays; and lies below each greater number. -/
def Lasts {α : Type} (E : Nat → World → α → Prop) : Prop := ∀ B B' W w x, Below B W w → B ≤ B' → E B W x → E B' w x
theorem lasts_NoMem {α : Type} : Lasts (NoMem (α := α)) := fun _ _ _ _ _ _ _ _ => trivial
theorem ListIn.lasts {α : Type} {cel : α → List Value} {E : Nat → World → α → Prop} (hE : Lasts E) {B B' : Nat} {W w : World} {p : Option Addr} {n c : Nat} {xs : List α} (h : ListIn cel E B W p n c xs) (hb : Below B W w) (hB : B ≤ B') : ListIn cel E B' w p n c xs :=
  ⟨h.1, h.2.1, h.2.2.1, (h.2.2.2.1.below hb).mono hB, fun x hx => hE _ _ _ _ _ hb hB (h.2.2.2.2 x hx)⟩
theorem lasts_Ins : Lasts InsIn := fun _ _ _ _ _ hb hB h => ⟨h.1.lasts lasts_NoMem hb hB, h.2.lasts lasts_NoMem hb hB⟩
theorem lasts_Blk : Lasts BlkIn := fun _ _ _ _ _ hb hB h => ListIn.lasts lasts_Ins h hb hB
theorem lasts_Fn : Lasts FnIn := fun _ _ _ _ _ hb hB h => ⟨h.1.lasts lasts_NoMem hb hB, h.2.lasts lasts_Blk hb hB⟩
theorem lasts_Ext : Lasts ExtIn := fun _ _ _ _ _ hb hB h => ListIn.lasts lasts_NoMem h hb hB
theorem lasts_Mod : Lasts ModIn := fun _ _ _ _ _ hb hB h => ⟨h.1.lasts lasts_NoMem hb hB, h.2.1.lasts lasts_Ext hb hB, h.2.2.lasts lasts_Fn hb hB⟩
theorem RowAt.at {α : Type} {cel : α → List Value} {m : Nat} (hc : ∀ x, (cel x).length = m) {B : Nat} {w : World} {p : Option Addr} {xs : List α} (h : RowAt B w p (xs.flatMap cel)) (i : Nat) (hi : i < xs.length) (hm : 0 < m) :
    ∃ a, p = some a ∧ a.block < B ∧ ∀ r, r < m → w.cell? (a.add (i * m + r)) = (cel xs[i])[r]? := by
  have key : ∀ r, r < m → ∃ a, p = some a ∧ a.block < B ∧ w.cell? (a.add (i * m + r)) = (cel xs[i])[r]? := fun r hr => by
    have e := flat_get cel m hc xs i hi r hr
    have hs : (cel xs[i])[r]? = some ((cel xs[i])[r]'(by rw [hc]; exact hr)) := List.getElem?_eq_getElem _
    rw [hs] at e ⊢
    exact h _ _ e
  obtain ⟨a, e, ha, _⟩ := key 0 hm
  refine ⟨a, e, ha, fun r hr => ?_⟩
  obtain ⟨a', e', _, h'⟩ := key r hr
  rw [e] at e'
  cases e'
  exact h'
theorem rowAt_of {α : Type} {cel : α → List Value} {m : Nat} (hc : ∀ x, (cel x).length = m) {B : Nat} {w : World} {p : Option Addr} {xs : List α} (hm : 0 < m)
    (h : ∀ i (hi : i < xs.length), ∃ a, p = some a ∧ a.block < B ∧ ∀ r, r < m → w.cell? (a.add (i * m + r)) = (cel xs[i])[r]?) : RowAt B w p (xs.flatMap cel) := fun j u hu => by
  have hj : j < xs.length * m := by rw [← flat_len cel m hc]; exact (List.getElem?_eq_some_iff.1 hu).1
  have hq : j / m < xs.length := Nat.div_lt_of_lt_mul (by rw [Nat.mul_comm]; exact hj)
  have hr : j % m < m := Nat.mod_lt _ hm
  have e : j = j / m * m + j % m := by rw [Nat.mul_comm]; exact (Nat.div_add_mod j m).symm
  obtain ⟨a, e1, ha, hcell⟩ := h (j / m) hq
  refine ⟨a, e1, ha, ?_⟩
  have h1 := hcell (j % m) hr
  rw [← e] at h1
  rw [h1, ← flat_get cel m hc xs (j / m) hq (j % m) hr, ← e]
  exact hu
theorem ListIn.cells {α : Type} {cel : α → List Value} {E : Nat → World → α → Prop} {B : Nat} {w : World} {p : Option Addr} {n c : Nat} {xs : List α} (h : ListIn cel E B w p n c xs) : ∀ j u, (xs.flatMap cel)[j]? = some u → ∃ a, p = some a ∧ w.cell? (a.add j) = some u := fun j u hu => by
  obtain ⟨a, e, _, hc⟩ := h.2.2.2.1 j u hu
  exact ⟨a, e, hc⟩
def NoOwn {α : Type} : Nat → Nat → World → α → Prop := fun _ _ _ _ => True
def ListOwn {α : Type} (ty : TypeId) (m : Nat) (cel : α → List Value) (Q : Nat → Nat → World → α → Prop) (a b : Nat) (w : World) (p : Option Addr) (n c : Nat) (xs : List α) : Prop :=
  n = xs.length ∧ w.ownsRow a ty m (.slice p n c) n (xs.flatMap cel) ∧ (∀ g, (Value.slice p n c).ownBlock = some g → g < b) ∧ Spread Q (Value.slice p n c).ownBlock a b w xs
theorem spread_NoOwn {α : Type} {g : Option Nat} {lo hi : Nat} {w : World} (h : lo ≤ hi) : ∀ xs : List α, Spread NoOwn g lo hi w xs
  | [] => h
  | x :: xs => ⟨lo, lo, Nat.le_refl _, Nat.le_refl _, fun k _ => by omega, trivial, spread_NoOwn h xs⟩
theorem local_NoOwn {α : Type} : Local (NoOwn (α := α)) := fun _ _ _ _ _ _ _ => trivial
theorem ownsRow_stay {w w' : World} {B e m n b : Nat} {v : Value} {xs : List Value} (h : w.ownsRow B e m v n xs) (hb : ∀ g, v.ownBlock = some g → g < b) (hs : Stay B b w w') : w'.ownsRow B e m v n xs := by
  refine ⟨h.1, ?_⟩
  rcases h.2 with hn | ⟨g, cap, cur, hv, hB, hg, h1, h2, h3, h4⟩
  · exact .inl hn
  · exact .inr ⟨g, cap, cur, hv, hB, (hs g hB (hb g (by rw [hv]; rfl))).trans hg, h1, h2, h3, h4⟩
theorem ListOwn.stay {α : Type} {ty m : Nat} {cel : α → List Value} {Q : Nat → Nat → World → α → Prop} (hQ : Local Q) {a b : Nat} {w w' : World} {p : Option Addr} {n c : Nat} {xs : List α} (h : ListOwn ty m cel Q a b w p n c xs) (hs : Stay a b w w') : ListOwn ty m cel Q a b w' p n c xs :=
  ⟨h.1, ownsRow_stay h.2.1 h.2.2.1 hs, h.2.2.1, h.2.2.2.stay hQ (fun k x y _ => hs k x y)⟩
theorem ListOwn.le {α : Type} {ty m : Nat} {cel : α → List Value} {Q : Nat → Nat → World → α → Prop} {a b : Nat} {w : World} {p : Option Addr} {n c : Nat} {xs : List α} (h : ListOwn ty m cel Q a b w p n c xs) : a ≤ b := h.2.2.2.le
def InsOwn (a b : Nat) (w : World) (x : LI) : Prop := ListOwn 49 3 argC NoOwn a b w x.1.ap x.1.al x.1.ac x.1.args ∧ ListOwn 3 1 intC NoOwn a b w x.1.tp x.1.tl x.1.tc x.2
def BlkOwn (a b : Nat) (w : World) (c : LB) : Prop := ListOwn 46 7 liC InsOwn a b w c.p c.n c.k c.code
def FnOwn (a b : Nat) (w : World) (f : LFn) : Prop := ∃ d, ListOwn 3 1 intC NoOwn a d w f.pp f.pn f.pc f.ps ∧ ListOwn 43 1 blkC BlkOwn d b w f.bp f.bn f.bc f.bs
def ExtOwn (a b : Nat) (w : World) (f : LExt) : Prop := ListOwn 3 1 intC NoOwn a b w f.pp f.pn f.pc f.ps
def ModOwn (a b : Nat) (w : World) (m : LMod) : Prop := ∃ d e, ListOwn 103 2 varC NoOwn a d w m.vp m.vn m.vc m.vs ∧ ListOwn 55 3 extC ExtOwn d e w m.xp m.xn m.xc m.xs ∧ ListOwn 25 4 fnC FnOwn e b w m.fp m.fn m.fc m.fs
theorem local_Ins : Local InsOwn := fun a b w w' x hs ⟨h, k⟩ => ⟨h.stay local_NoOwn hs, k.stay local_NoOwn hs⟩
theorem local_Blk : Local BlkOwn := fun a b w w' x hs h => ListOwn.stay local_Ins h hs
theorem local_Fn : Local FnOwn := fun a b w w' x hs ⟨d, h, k⟩ => ⟨d, h.stay local_NoOwn (hs.mono (Nat.le_refl _) k.le), k.stay local_Blk (hs.mono h.le (Nat.le_refl _))⟩
theorem local_Ext : Local ExtOwn := fun a b w w' x hs h => ListOwn.stay local_NoOwn h hs
theorem local_Mod : Local ModOwn := fun a b w w' x hs ⟨d, e, h, k, l⟩ => by
  have h1 := h.le
  have h2 := k.le
  have h3 := l.le
  exact ⟨d, e, h.stay local_NoOwn (hs.mono (by omega) (by omega)), k.stay local_Ext (hs.mono (by omega) (by omega)), l.stay local_Fn (hs.mono (by omega) (by omega))⟩
/-- What is owned lies in memory. -/
theorem Spread.mem {α : Type} {Q : Nat → Nat → World → α → Prop} {g : Option Nat} : ∀ {xs : List α} {lo hi : Nat} {w : World}, Spread Q g lo hi w xs → ∀ x ∈ xs, ∃ a b, b ≤ hi ∧ Q a b w x
  | [], _, _, _, _, _, hx => absurd hx (by simp)
  | y :: xs, lo, hi, w, ⟨a, b, h1, h2, h3, h4, h⟩, x, hx => by
    rcases List.mem_cons.1 hx with rfl | hx
    · exact ⟨a, b, h.le, h4⟩
    · exact Spread.mem h x hx
theorem ListOwn.lies {α : Type} {ty m : Nat} {cel : α → List Value} {Q : Nat → Nat → World → α → Prop} {E : Nat → World → α → Prop} (hm : 0 < m) (hc : ∀ x, (cel x).length = m) (hQE : ∀ a b w x, b ≤ w.heap.size → Q a b w x → E w.heap.size w x) {a b : Nat} {w : World} {p : Option Addr} {n c : Nat} {xs : List α}
    (h : ListOwn ty m cel Q a b w p n c xs) (hb : b ≤ w.heap.size) : ListIn cel E w.heap.size w p n c xs := by
  obtain ⟨h1, h2, h3, h4⟩ := h
  have hE : ∀ x ∈ xs, E w.heap.size w x := fun x hx => by
    obtain ⟨a', b', hb', hq⟩ := h4.mem x hx
    exact hQE a' b' w x (by omega) hq
  rcases id h2.2 with ⟨e, h0⟩ | ⟨g, cap, cur, e, hg, hh, k1, k2, k3, k4⟩
  · injection e with e1 e2 e3
    subst e1 e2 e3
    have : xs = [] := List.eq_nil_of_length_eq_zero h1.symm
    subst this
    exact ⟨h1, Nat.le_refl _, Nat.zero_le _, fun j u hu => by simp at hu, hE⟩
  · injection e with e1 e2 e3
    subst e1 e3
    refine ⟨h1, k1, k2, fun j u hu => ⟨⟨g, 0, none⟩, rfl, (Array.getElem?_eq_some_iff.1 hh).1, ?_⟩, hE⟩
    have hj : j < n * m := by rw [h1, ← flat_len cel m hc]; exact (List.getElem?_eq_some_iff.1 hu).1
    rw [add0, h2.cellAt j hj]
    exact hu
theorem InsOwn.lies {a b : Nat} {w : World} {x : LI} (hb : b ≤ w.heap.size) (h : InsOwn a b w x) : InsIn w.heap.size w x := by
  obtain ⟨h, k⟩ := h
  exact ⟨h.lies (m := 3) (by decide) (fun _ => rfl) (fun _ _ _ _ _ _ => trivial) hb, k.lies (m := 1) (by decide) (fun _ => rfl) (fun _ _ _ _ _ _ => trivial) hb⟩
theorem BlkOwn.lies {a b : Nat} {w : World} {x : LB} (hb : b ≤ w.heap.size) (h : BlkOwn a b w x) : BlkIn w.heap.size w x := by
  unfold BlkOwn at h
  exact h.lies (m := 7) (by decide) (fun _ => rfl) (fun _ _ _ _ hb hq => InsOwn.lies hb hq) hb
theorem FnOwn.lies {a b : Nat} {w : World} {x : LFn} (hb : b ≤ w.heap.size) (h : FnOwn a b w x) : FnIn w.heap.size w x := by
  obtain ⟨d, h, k⟩ := h
  exact ⟨h.lies (m := 1) (by decide) (fun _ => rfl) (fun _ _ _ _ _ _ => trivial) (by have := k.le; omega), k.lies (m := 1) (by decide) (fun _ => rfl) (fun _ _ _ _ hb hq => BlkOwn.lies hb hq) hb⟩
theorem ExtOwn.lies {a b : Nat} {w : World} {x : LExt} (hb : b ≤ w.heap.size) (h : ExtOwn a b w x) : ExtIn w.heap.size w x := by
  unfold ExtOwn at h
  exact h.lies (m := 1) (by decide) (fun _ => rfl) (fun _ _ _ _ _ _ => trivial) hb
theorem ModOwn.lies {a b : Nat} {w : World} {x : LMod} (hb : b ≤ w.heap.size) (h : ModOwn a b w x) : ModIn w.heap.size w x := by
  obtain ⟨d, e, h, k, l⟩ := h
  have h1 := k.le
  have h2 := l.le
  exact ⟨h.lies (m := 2) (by decide) (fun _ => rfl) (fun _ _ _ _ _ _ => trivial) (by omega), k.lies (m := 3) (by decide) (fun _ => rfl) (fun _ _ _ _ hb hq => ExtOwn.lies hb hq) (by omega), l.lies (m := 4) (by decide) (fun _ => rfl) (fun _ _ _ _ hb hq => FnOwn.lies hb hq) hb⟩
theorem InsIn.args {B : Nat} {w : World} {x : LI} (h : InsIn B w x) : ArgsAt B w x.1 := by
  obtain ⟨h1, h2, h3, h4, -⟩ := h.1
  refine ⟨h1, by omega, h3, fun i hi => ?_⟩
  obtain ⟨a, e, ha, hc⟩ := h4.at (m := 3) (fun _ => rfl) i hi (by decide)
  refine ⟨a, e, ha, hc 0 (by decide), ?_, ?_⟩
  · have := hc 1 (by decide); rw [add_add a _ 1 (by decide)] at this; exact this
  · have := hc 2 (by decide); rw [add_add a _ 2 (by decide)] at this; exact this
theorem InsIn.ints {B : Nat} {w : World} {x : LI} (h : InsIn B w x) : IntsAt B w x.1.tp x.1.tl x.1.tc x.2 := by
  obtain ⟨h1, h2, h3, h4, -⟩ := h.2
  refine ⟨h1.symm, h2, h3, fun i hi => ?_⟩
  obtain ⟨a, e, ha, hc⟩ := h4.at (m := 1) (fun _ => rfl) i hi (by decide)
  refine ⟨a, e, ha, ?_⟩
  have := hc 0 (by decide)
  rw [Nat.mul_one, Nat.add_zero] at this
  exact this
theorem codeAt_in {B : Nat} {w : World} {p : Option Addr} {n c : Nat} {L : List LI} (h : ListIn liC InsIn B w p n c L) : CodeAt B w (.slice p n c) (L.map Prod.fst) := by
  obtain ⟨h1, h2, h3, h4, -⟩ := h
  refine ⟨p, c, by rw [List.length_map, h1], by rw [List.length_map]; omega, h3, fun i hi => ?_⟩
  have hi' : i < L.length := by simpa using hi
  obtain ⟨a, e, ha, hc⟩ := h4.at (m := 7) (fun _ => rfl) i hi' (by decide)
  refine ⟨a, e, ha, ?_⟩
  rw [List.getElem_map]
  refine ⟨hc 0 (by decide), ?_, ?_, ?_, ?_, ?_, ?_⟩
  · have := hc 1 (by decide); rw [add_add a _ 1 (by decide)] at this; exact this
  · have := hc 2 (by decide); rw [add_add a _ 2 (by decide)] at this; exact this
  · have := hc 3 (by decide); rw [add_add a _ 3 (by decide)] at this; exact this
  · have := hc 4 (by decide); rw [add_add a _ 4 (by decide)] at this; exact this
  · have := hc 5 (by decide); rw [add_add a _ 5 (by decide)] at this; exact this
  · have := hc 6 (by decide); rw [add_add a _ 6 (by decide)] at this; exact this
def located (bs : List LB) : List (List Ins) := bs.map fun c => c.code.map Prod.fst
theorem blocksAt_in {B : Nat} {w : World} {p : Option Addr} {n c : Nat} {bs : List LB} (h : ListIn blkC BlkIn B w p n c bs) : BlocksAt B w (.slice p n c) (located bs) := by
  obtain ⟨h1, h2, h3, h4, h5⟩ := h
  refine ⟨p, c, by unfold located; rw [List.length_map, h1], by unfold located; rw [List.length_map]; omega, h3, fun i hi => ?_⟩
  have hi' : i < bs.length := by simpa [located] using hi
  obtain ⟨a, e, ha, hc⟩ := h4.at (m := 1) (fun _ => rfl) i hi' (by decide)
  have hx := codeAt_in (h5 bs[i] (List.getElem_mem hi'))
  refine ⟨a, .slice bs[i].p bs[i].n bs[i].k, e, ha, ?_, by simpa [located] using hx⟩
  have := hc 0 (by decide)
  rw [Nat.mul_one, Nat.add_zero] at this
  exact this
theorem allArgs_in {B : Nat} {w : World} {p : Option Addr} {n c : Nat} {bs : List LB} (h : ListIn blkC BlkIn B w p n c bs) : AllArgs B w (located bs) := fun b hb k hk => by
  have hb' : b < bs.length := by simpa [located] using hb
  have h' := h.2.2.2.2 bs[b] (List.getElem_mem hb')
  have hk' : k < bs[b].code.length := by simpa [located] using hk
  have := (h'.2.2.2.2 (bs[b].code[k]) (List.getElem_mem hk')).args
  simpa [located] using this
def insZ (x : PIns) : Nat := 1 + x.args.length + x.tg.length
def codeZ (c : List PIns) : Nat := (c.map insZ).sum
def blksZ (b : List (List PIns)) : Nat := (b.map fun c => 1 + codeZ c).sum
def fnZ (f : PFn) : Nat := 1 + f.ps.length + blksZ f.bs
def extZ (f : PExt) : Nat := 1 + f.ps.length
def modZ (m : PMod) : Nat := m.vs.length + (m.xs.map extZ).sum + (m.fs.map fnZ).sum
theorem sum_mem {α : Type} (f : α → Nat) : ∀ {xs : List α} {x : α}, x ∈ xs → f x ≤ (xs.map f).sum
  | y :: xs, x, h => by
    simp only [List.map_cons, List.sum_cons]
    rcases List.mem_cons.1 h with rfl | h
    · omega
    · have := sum_mem f h; omega
theorem len_sum {α : Type} (f : α → Nat) (hf : ∀ x, 1 ≤ f x) : ∀ xs : List α, xs.length ≤ (xs.map f).sum
  | [] => Nat.le_refl _
  | x :: xs => by simp only [List.map_cons, List.sum_cons, List.length_cons]; have := len_sum f hf xs; have := hf x; omega
theorem codeZ_len (c : List PIns) : c.length ≤ codeZ c := len_sum insZ (fun x => by unfold insZ; omega) c
theorem codeZ_mem {c : List PIns} {x : PIns} (h : x ∈ c) : insZ x ≤ codeZ c := sum_mem insZ h
theorem blksZ_len (b : List (List PIns)) : b.length ≤ blksZ b := len_sum _ (fun x => by omega) b
theorem blksZ_mem {b : List (List PIns)} {x : List PIns} (h : x ∈ b) : 1 + codeZ x ≤ blksZ b := sum_mem (fun c => 1 + codeZ c) h
theorem own_intro {α : Type} {ty m : Nat} {cel : α → List Value} {Q : Nat → Nat → World → α → Prop} {a b : Nat} {w : World} {p : Option Addr} {n c : Nat} {xs : List α} (hn : n = xs.length) (h : w.ownsRow a ty m (.slice p n c) n (xs.flatMap cel)) (hb : b = w.heap.size) (hs : Spread Q (Value.slice p n c).ownBlock a b w xs) : ListOwn ty m cel Q a b w p n c xs :=
  ⟨hn, h, fun g hg => by rw [hb]; exact (h.lt g hg).2, hs⟩
theorem copyIns_own (x : LI) (W : World) (h : InsIn W.heap.size W x) (hz : insZ (insD x) ≤ 1048576) :
    Calls Try.prog 44 #[.agg (liC x).toArray] W fun e w' => ∃ y, e = .returned (.agg (liC y).toArray) ∧ insD y = insD x ∧ Past W.heap.size W w' ∧ InsOwn W.heap.size w'.heap.size w' y := by
  have h1 : x.1.args.length ≤ 1048576 := by have : 1 + x.1.args.length + x.2.length ≤ 1048576 := hz; omega
  have h2 : x.2.length ≤ 1048576 := by have : 1 + x.1.args.length + x.2.length ≤ 1048576 := hz; omega
  have e1 := h.1.1
  have e2 := h.2.1
  refine (copyInstr_any W.heap.size x.1 x.2 W (Nat.le_refl _) h.args h.ints h1 h2).mono ?_
  rintro e w' ⟨ap, ac, tp, tc, rfl, hp, r1, r2⟩
  refine ⟨(x.1.with ap ac tp tc, x.2), rfl, rfl, hp, own_intro e1 ?_ rfl (spread_NoOwn hp.2.size _), own_intro e2 ?_ rfl (spread_NoOwn hp.2.size _)⟩
  · show w'.ownsRow W.heap.size 49 3 (.slice ap x.1.al ac) x.1.al (x.1.args.flatMap argC)
    rw [e1]; exact r1
  · show w'.ownsRow W.heap.size 3 1 (.slice tp x.1.tl tc) x.1.tl (x.2.flatMap intC)
    rw [e2, intC_map]; exact r2
theorem enters_ci : ∀ (args : Array Value) (w : World), (callFunc 44 args).run Try.prog w = .ok (.enter 44 args) w := fun _ _ => rfl
theorem enters_cb : ∀ (args : Array Value) (w : World), (callFunc 38 args).run Try.prog w = .ok (.enter 38 args) w := fun _ _ => rfl
theorem past_lasts {α : Type} {E : Nat → World → α → Prop} (hE : Lasts E) {W w : World} {x : α} (h : E W.heap.size W x) (hp : Past W.heap.size W w) : E w.heap.size w x := hE _ _ _ _ _ hp.2 hp.2.size h
theorem copyCode_own (W : World) (p : Option Addr) (n c : Nat) (L : List LI) (h : ListIn liC InsIn W.heap.size W p n c L) (hz : codeZ (L.map insD) ≤ 1048576) :
    Calls Try.prog 43 #[.slice p n c, .func (.func 44) #[] #[]] W fun e w' => ∃ p' n' c' L', e = .returned (.slice p' n' c') ∧ L'.map insD = L.map insD ∧ Past W.heap.size W w' ∧ ListOwn 46 7 liC InsOwn W.heap.size w'.heap.size w' p' n' c' L' := by
  have hn := h.1
  subst hn
  have hlen : L.length ≤ 1048576 := by have := codeZ_len (L.map insD); rw [List.length_map] at this; omega
  refine (copyEach_C liC (fun _ => rfl) liC_one insD InsOwn local_Ins _ enters_ci L p c W h.cells hlen (fun i hi w hp => ?_)).mono ?_
  · refine copyIns_own L[i] w (past_lasts lasts_Ins (h.2.2.2.2 _ (List.getElem_mem hi)) hp) ?_
    have := codeZ_mem (List.mem_map_of_mem (f := insD) (List.getElem_mem hi)); omega
  · rintro e w' ⟨v', ys, rfl, hd, hp, hr, hs⟩
    obtain ⟨p', c', rfl⟩ := row_slice hr
    exact ⟨p', _, c', ys, rfl, hd, hp, own_intro rfl hr rfl hs⟩
/-- Own blocks of few cells. -/
def Box (g : Nat) (cs : List Value) (w : World) : Prop := g < w.heap.size ∧ (∀ i, w.frozen? ⟨g, i, none⟩ = false) ∧ ∀ i u, cs[i]? = some u → w.cell? ⟨g, i, none⟩ = some u
theorem Box.new (w : World) {g : Nat} (hg : g = w.heap.size) (cs : List Value) (t : TypeId) : Box g cs (w.alloc (.cells cs.toArray t)) := by
  subst hg
  refine ⟨by simp, fun i => World.frozen?_alloc_at _ _ _ _ rfl, fun i u h => ?_⟩
  rw [World.cell?_alloc_at _ _ _ _ rfl]
  simpa using h
theorem Box.below {B g : Nat} {cs : List Value} {W w : World} (h : Box g cs W) (hb : Below B W w) (hg : g < B) : Box g cs w :=
  ⟨Nat.lt_of_lt_of_le h.1 hb.size, fun i => (hb.frozen (p := ⟨g, i, none⟩) hg).trans (h.2.1 i), fun i u e => (hb.cell (p := ⟨g, i, none⟩) hg).trans (h.2.2 i u e)⟩
theorem Box.later {g : Nat} {cs : List Value} {W w : World} (h : Box g cs W) (hb : Below W.heap.size W w) : Box g cs w := h.below hb h.1
theorem Box.alloc {g : Nat} {cs : List Value} {W : World} (h : Box g cs W) (o : Obj) : Box g cs (W.alloc o) := h.later ((Below.refl _ _).alloc (Nat.le_refl _) o)
theorem Box.other {g d : Nat} {cs : List Value} {w : World} (h : Box g cs w) (hd : d ≠ g) (i : Nat) (v : Value) : Box g cs (w.setCell ⟨d, i, none⟩ v) :=
  ⟨by simpa [World.setCell] using h.1, fun i => by rw [World.frozen?_setCell]; exact h.2.1 i, fun j u e => by rw [World.cell?_setCell_other (h := fun e => hd (by injection e))]; exact h.2.2 j u e⟩
theorem Box.set {g : Nat} {cs : List Value} {w : World} (h : Box g cs w) (i : Nat) (v : Value) : Box g (cs.set i v) (w.setCell ⟨g, i, none⟩ v) := by
  refine ⟨by simpa [World.setCell] using h.1, fun i => by rw [World.frozen?_setCell]; exact h.2.1 i, fun j u e => ?_⟩
  rw [List.getElem?_set] at e
  by_cases hij : i = j
  · subst hij
    rw [if_pos rfl] at e
    by_cases hl : i < cs.length
    · rw [if_pos hl] at e
      obtain ⟨u0, hu0⟩ : ∃ u0, cs[i]? = some u0 := ⟨_, List.getElem?_eq_getElem hl⟩
      rw [World.cell?_setCell_same' _ _ _ (by rw [h.2.2 i u0 hu0]; rfl)]
      exact e
    · rw [if_neg hl] at e; cases e
  · rw [if_neg hij] at e
    rw [World.cell?_setCell_other (h := fun e => hij (by injection e))]
    exact h.2.2 j u e
theorem Box.get {g : Nat} {cs : List Value} {w : World} (h : Box g cs w) (i : Nat) (u : Value) (e : cs[i]? = some u) : w.cell? ⟨g, i, none⟩ = some u := h.2.2 i u e
set_option maxRecDepth 100000 in
set_option maxHeartbeats 2000000 in
theorem copyBlock_own (x : LB) (W : World) (h : BlkIn W.heap.size W x) (hz : 1 + codeZ (blkD x) ≤ 1048576) :
    Calls Try.prog 38 #[.agg (blkC x).toArray] W fun e w' => ∃ y, e = .returned (.agg (blkC y).toArray) ∧ blkD y = blkD x ∧ Past W.heap.size W w' ∧ BlkOwn W.heap.size w'.heap.size w' y := by
  obtain ⟨p, n, c, L⟩ := x
  have hL : ListIn liC InsIn W.heap.size W p n c L := h
  show Calls Try.prog 38 #[.agg #[.slice p n c]] W _
  have P0 := ((Past.refl (Nat.le_refl W.heap.size)).alloc (.cells #[.slice p n c] 43)).alloc (.cells #[.slice none 0 0] 43)
  have S0 : Box W.heap.size [.slice p n c] ((W.alloc (.cells #[.slice p n c] 43)).alloc (.cells #[.slice none 0 0] 43)) := (Box.new W rfl _ _).alloc _
  have R0 : Box (W.heap.size + 1) [.slice none 0 0] ((W.alloc (.cells #[.slice p n c] 43)).alloc (.cells #[.slice none 0 0] 43)) := Box.new _ (by simp) _ _
  have z0 : ((W.alloc (.cells #[.slice p n c] 43)).alloc (.cells #[.slice none 0 0] 43)).heap.size = W.heap.size + 2 := by simp
  go_enter Try.func38, Try.ntmps38
  go_wp2_with fail
  generalize ((W.alloc (.cells #[.slice p n c] 43)).alloc (.cells #[.slice none 0 0] 43)) = W2 at *
  refine (copyCode_own W2 p n c L (hL.lasts lasts_Ins P0.2 P0.2.size) (by have : 1 + codeZ (L.map insD) ≤ 1048576 := hz; omega)).mono ?_
  rintro e w3 ⟨p3, n3, c3, L3, rfl, hd3, hp3, ho3⟩
  have S3 := S0.later hp3.2
  have R3 := R0.later hp3.2
  have a0 := S3.get 0 _ rfl
  have af := S3.2.1
  have S4 := S3.set 0 (.slice p3 n3 c3)
  have R4 := R3.other (d := W.heap.size) (by omega) 0 (.slice p3 n3 c3)
  have a1 := S4.get 0 _ rfl
  have b1 := R4.get 0 _ rfl
  have bf := R4.2.1
  have l1 := S3.1
  have l2 := R3.1
  have l3 : (w3.setCell ⟨W.heap.size, 0, none⟩ (.slice p3 n3 c3)).heap.size = w3.heap.size := by simp [World.setCell]
  have P4 := (P0.trans ⟨P0.size, hp3.2.mono P0.size⟩).set (a := ⟨W.heap.size, 0, none⟩) (Nat.le_refl _) (.slice p3 n3 c3)
  have st4 : Stay W2.heap.size w3.heap.size w3 (w3.setCell ⟨W.heap.size, 0, none⟩ (.slice p3 n3 c3)) := fun k h1 h2 => Below.heap_setCell _ _ _ _ (by dsimp only; omega)
  have ho4 := ho3.stay local_Ins st4
  go_wp2_with fail
  generalize (w3.setCell ⟨W.heap.size, 0, none⟩ (.slice p3 n3 c3)) = w4 at *
  have R5 := R4.set 0 (.slice p3 n3 c3)
  have b2 := R5.get 0 _ rfl
  have st5 : Stay W2.heap.size w3.heap.size w4 (w4.setCell ⟨W.heap.size + 1, 0, none⟩ (.slice p3 n3 c3)) := fun k h1 h2 => Below.heap_setCell _ _ _ _ (by dsimp only; omega)
  have ho5 := ho4.stay local_Ins st5
  have l5 : (w4.setCell ⟨W.heap.size + 1, 0, none⟩ (.slice p3 n3 c3)).heap.size = w3.heap.size := by simp [World.setCell]; omega
  refine bodyPost_ret (v := .agg #[.slice p3 n3 c3]) (by simp [results, Try.results38, go_sem, b2]) rfl ⟨⟨p3, n3, c3, L3⟩, rfl, hd3, P4.set (a := ⟨W.heap.size + 1, 0, none⟩) (by dsimp only; omega) _, ?_⟩
  rw [l5]
  obtain ⟨o1, o2, o3, o4⟩ := ho5
  exact ⟨o1, o2.mono (by omega), o3, o4.down (by omega)⟩
theorem copyBlks_own (W : World) (p : Option Addr) (n c : Nat) (L : List LB) (h : ListIn blkC BlkIn W.heap.size W p n c L) (hz : blksZ (L.map blkD) ≤ 1048576) :
    Calls Try.prog 37 #[.slice p n c, .func (.func 38) #[] #[]] W fun e w' => ∃ p' n' c' L', e = .returned (.slice p' n' c') ∧ L'.map blkD = L.map blkD ∧ Past W.heap.size W w' ∧ ListOwn 43 1 blkC BlkOwn W.heap.size w'.heap.size w' p' n' c' L' := by
  have hn := h.1
  subst hn
  have hlen : L.length ≤ 1048576 := by have := blksZ_len (L.map blkD); rw [List.length_map] at this; omega
  refine (copyEach_B blkC (fun _ => rfl) blkC_one blkD BlkOwn local_Blk _ enters_cb L p c W h.cells hlen (fun i hi w hp => ?_)).mono ?_
  · refine copyBlock_own L[i] w (past_lasts lasts_Blk (h.2.2.2.2 _ (List.getElem_mem hi)) hp) ?_
    have := blksZ_mem (List.mem_map_of_mem (f := blkD) (List.getElem_mem hi)); omega
  · rintro e w' ⟨v', ys, rfl, hd, hp, hr, hs⟩
    obtain ⟨p', c', rfl⟩ := row_slice hr
    exact ⟨p', _, c', ys, rfl, hd, hp, own_intro rfl hr rfl hs⟩
theorem copyInts_own (W : World) (p : Option Addr) (n c : Nat) (L : List Int) (h : ListIn intC NoMem W.heap.size W p n c L) (hz : L.length ≤ 1048576) :
    Calls Try.prog 36 #[.slice p n c] W fun e w' => ∃ p' c', e = .returned (.slice p' n c') ∧ Past W.heap.size W w' ∧ ListOwn 3 1 intC NoOwn W.heap.size w'.heap.size w' p' n c' L := by
  have hn := h.1
  subst hn
  refine (copyList_N p L.length c (L.flatMap intC) W (flat_len intC 1 (fun _ => rfl) L) h.cells (fun u hu => by obtain ⟨x, _, hx⟩ := List.mem_flatMap.1 hu; exact intC_one x u hx) hz).mono ?_
  rintro e w' ⟨v', rfl, hp, hr⟩
  obtain ⟨p', c', rfl⟩ := row_slice hr
  exact ⟨p', c', rfl, hp, own_intro rfl hr rfl (spread_NoOwn hp.2.size _)⟩
set_option maxRecDepth 100000 in
set_option maxHeartbeats 2000000 in
theorem CopyFunc_own (f : LFn) (W : World) (h : FnIn W.heap.size W f) (hz : fnZ (fnD f) ≤ 1048576) :
    Calls Try.prog 22 #[.agg (fnC f).toArray] W fun e w' => ∃ y, e = .returned (.agg (fnC y).toArray) ∧ fnD y = fnD f ∧ Past W.heap.size W w' ∧ FnOwn W.heap.size w'.heap.size w' y := by
  obtain ⟨nm, pp, pn, pc, ps, rt, bp, bn, bc, bs⟩ := f
  obtain ⟨h1, h2⟩ := h
  simp only at h1 h2
  have hz : 1 + ps.length + blksZ (bs.map blkD) ≤ 1048576 := hz
  show Calls Try.prog 22 #[.agg #[.string nm, .slice pp pn pc, .int .i64 rt, .slice bp bn bc]] W _
  have P0 := ((Past.refl (Nat.le_refl W.heap.size)).alloc (.cells #[.string nm, .slice pp pn pc, .int .i64 rt, .slice bp bn bc] 25)).alloc (.cells #[.string { data := #[] }, .slice none 0 0, .int .i64 0, .slice none 0 0] 25)
  have S0 : Box W.heap.size [.string nm, .slice pp pn pc, .int .i64 rt, .slice bp bn bc] ((W.alloc (.cells #[.string nm, .slice pp pn pc, .int .i64 rt, .slice bp bn bc] 25)).alloc (.cells #[.string { data := #[] }, .slice none 0 0, .int .i64 0, .slice none 0 0] 25)) := (Box.new W rfl _ _).alloc _
  have R0 : Box (W.heap.size + 1) [.string { data := #[] }, .slice none 0 0, .int .i64 0, .slice none 0 0] ((W.alloc (.cells #[.string nm, .slice pp pn pc, .int .i64 rt, .slice bp bn bc] 25)).alloc (.cells #[.string { data := #[] }, .slice none 0 0, .int .i64 0, .slice none 0 0] 25)) := Box.new _ (by simp) _ _
  have z0 : ((W.alloc (.cells #[.string nm, .slice pp pn pc, .int .i64 rt, .slice bp bn bc] 25)).alloc (.cells #[.string { data := #[] }, .slice none 0 0, .int .i64 0, .slice none 0 0] 25)).heap.size = W.heap.size + 2 := by simp
  go_enter Try.func22, Try.ntmps22
  go_wp2_with fail
  generalize ((W.alloc (.cells #[.string nm, .slice pp pn pc, .int .i64 rt, .slice bp bn bc] 25)).alloc (.cells #[.string { data := #[] }, .slice none 0 0, .int .i64 0, .slice none 0 0] 25)) = W2 at *
  refine (copyInts_own W2 pp pn pc ps (h1.lasts lasts_NoMem P0.2 P0.2.size) (by omega)).mono ?_
  rintro e w3 ⟨p3, c3, rfl, hp3, ho3⟩
  have S3 := S0.later hp3.2
  have R3 := R0.later hp3.2
  have af := S3.2.1
  have S4 := S3.set 1 (.slice p3 pn c3)
  have R4 := R3.other (d := W.heap.size) (by omega) 1 (.slice p3 pn c3)
  have P3 := P0.trans ⟨P0.size, hp3.2.mono P0.size⟩
  have P4 := P3.set (a := ⟨W.heap.size, 1, none⟩) (Nat.le_refl _) (.slice p3 pn c3)
  have st4 : Stay W2.heap.size w3.heap.size w3 (w3.setCell ⟨W.heap.size, 1, none⟩ (.slice p3 pn c3)) := fun k h1 h2 => Below.heap_setCell _ _ _ _ (by dsimp only; omega)
  have ho4 := ho3.stay local_NoOwn st4
  have l4 : (w3.setCell ⟨W.heap.size, 1, none⟩ (.slice p3 pn c3)).heap.size = w3.heap.size := by simp [World.setCell]
  have l3 := hp3.2.size
  have a0 := S3.get 0 _ rfl
  have a1 := S3.get 1 _ rfl
  have a2 := S3.get 2 _ rfl
  have a3 := S3.get 3 _ rfl
  have d0 := S4.get 0 _ rfl
  have d1 := S4.get 1 _ rfl
  have d2 := S4.get 2 _ rfl
  have d3 := S4.get 3 _ rfl
  go_wp2_with fail
  generalize (w3.setCell ⟨W.heap.size, 1, none⟩ (.slice p3 pn c3)) = w4 at *
  refine (copyBlks_own w4 bp bn bc bs (h2.lasts lasts_Blk P4.2 P4.2.size) (by omega)).mono ?_
  rintro e w5 ⟨p5, n5, c5, L5, rfl, hd5, hp5, ho5⟩
  have ho4' := ho4.stay local_NoOwn (hp5.stay (b := w3.heap.size) (by omega))
  have S5 := S4.later hp5.2
  have R5 := R4.later hp5.2
  have l5 := hp5.2.size
  clear a0 a1 a2 a3 af d0 d1 d2 d3
  have af := S5.2.1
  have a0 := S5.get 0 _ rfl
  have a1 := S5.get 1 _ rfl
  have a2 := S5.get 2 _ rfl
  have a3 := S5.get 3 _ rfl
  have S6 := S5.set 3 (.slice p5 n5 c5)
  have R6 := R5.other (d := W.heap.size) (by omega) 3 (.slice p5 n5 c5)
  have P5 := P4.trans ⟨P4.size, hp5.2.mono P4.size⟩
  have P6 := P5.set (a := ⟨W.heap.size, 3, none⟩) (Nat.le_refl _) (.slice p5 n5 c5)
  have st6 : Stay W2.heap.size w5.heap.size w5 (w5.setCell ⟨W.heap.size, 3, none⟩ (.slice p5 n5 c5)) := fun k h1 h2 => Below.heap_setCell _ _ _ _ (by dsimp only; omega)
  have ho6 := ho4'.stay local_NoOwn (st6.mono (Nat.le_refl _) (by omega))
  have ho7 := ho5.stay local_Blk (st6.mono (by omega) (Nat.le_refl _))
  have l6 : (w5.setCell ⟨W.heap.size, 3, none⟩ (.slice p5 n5 c5)).heap.size = w5.heap.size := by simp [World.setCell]
  have d0 := S6.get 0 _ rfl
  have d1 := S6.get 1 _ rfl
  have d2 := S6.get 2 _ rfl
  have d3 := S6.get 3 _ rfl
  have b0 := R6.get 0 _ rfl
  have b1 := R6.get 1 _ rfl
  have b2 := R6.get 2 _ rfl
  have b3 := R6.get 3 _ rfl
  have bf := R6.2.1
  go_wp2_with fail
  generalize (w5.setCell ⟨W.heap.size, 3, none⟩ (.slice p5 n5 c5)) = w6 at *
  have R7 := (((R6.set 0 (.string nm)).set 1 (.slice p3 pn c3)).set 2 (.int .i64 rt)).set 3 (.slice p5 n5 c5)
  have f0 := R7.get 0 _ rfl
  have f1 := R7.get 1 _ rfl
  have f2 := R7.get 2 _ rfl
  have f3 := R7.get 3 _ rfl
  have st7 : Stay W2.heap.size w5.heap.size w6 ((((w6.setCell ⟨W.heap.size + 1, 0, none⟩ (.string nm)).setCell ⟨W.heap.size + 1, 1, none⟩ (.slice p3 pn c3)).setCell ⟨W.heap.size + 1, 2, none⟩ (.int .i64 rt)).setCell ⟨W.heap.size + 1, 3, none⟩ (.slice p5 n5 c5)) :=
    fun k h1 h2 => (Below.heap_setCell _ _ _ _ (by dsimp only; omega)).trans ((Below.heap_setCell _ _ _ _ (by dsimp only; omega)).trans ((Below.heap_setCell _ _ _ _ (by dsimp only; omega)).trans (Below.heap_setCell _ _ _ _ (by dsimp only; omega))))
  have l7 : ((((w6.setCell ⟨W.heap.size + 1, 0, none⟩ (.string nm)).setCell ⟨W.heap.size + 1, 1, none⟩ (.slice p3 pn c3)).setCell ⟨W.heap.size + 1, 2, none⟩ (.int .i64 rt)).setCell ⟨W.heap.size + 1, 3, none⟩ (.slice p5 n5 c5)).heap.size = w5.heap.size := by simp [World.setCell]; omega
  have P7 := (((P6.set (a := ⟨W.heap.size + 1, 0, none⟩) (by dsimp only; omega) (.string nm)).set (a := ⟨W.heap.size + 1, 1, none⟩) (by dsimp only; omega) (.slice p3 pn c3)).set (a := ⟨W.heap.size + 1, 2, none⟩) (by dsimp only; omega) (.int .i64 rt)).set (a := ⟨W.heap.size + 1, 3, none⟩) (by dsimp only; omega) (.slice p5 n5 c5)
  refine bodyPost_ret (v := .agg #[.string nm, .slice p3 pn c3, .int .i64 rt, .slice p5 n5 c5]) (by simp [results, Try.results22, go_sem, f0, f1, f2, f3]) rfl ⟨⟨nm, p3, pn, c3, ps, rt, p5, n5, c5, L5⟩, rfl, by unfold fnD; rw [hd5], P7, w3.heap.size, ?_, ?_⟩
  · obtain ⟨o1, o2, o3, o4⟩ := ho6.stay local_NoOwn (st7.mono (Nat.le_refl _) (by omega))
    exact ⟨o1, o2.mono (by omega), o3, o4.down (by omega)⟩
  · rw [l7]
    obtain ⟨o1, o2, o3, o4⟩ := ho7.stay local_Blk (st7.mono (by omega) (Nat.le_refl _))
    exact ⟨o1, o2.mono (by omega), o3, o4.down (by omega)⟩
end Go.Proofs.Ytdfdgpobohpphaa
