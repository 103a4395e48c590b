/- Package ir: copyEach, of each element type. -/
import Derived.Test.YtpfeiolmkbibiaaOwnA
namespace Go.Proofs.Ytpfeiolmkbibiaa
open Go.RowKit Go.Maps
set_option linter.unusedVariables false
set_option linter.unusedSimpArgs false

set_option maxRecDepth 100000 in
set_option maxHeartbeats 2000000 in
theorem copyEach_C {α δ : Type} (cel : α → List Value) (hcel : ∀ x, (cel x).length = 7) (hone : ∀ x, ∀ u ∈ cel x, u.oneCell' = true) (dat : α → δ) (Q : Nat → Nat → World → α → Prop) (hQ : Local Q) (h : FuncId) (hen : ∀ (args : Array Value) (w : World), (callFunc h args).run Try.prog w = .ok (.enter h args) w)
    (xs : List α) (p : Option Addr) (cap : Nat) (W : World) (hs : ∀ j u, (xs.flatMap cel)[j]? = some u → ∃ a, p = some a ∧ W.cell? (a.add j) = some u) (hl : xs.length ≤ 1048576)
    (hcopy : ∀ i (hi : i < xs.length) w, Past W.heap.size W w → Calls Try.prog h #[.agg (cel xs[i]).toArray] w fun e w' => ∃ y, e = .returned (.agg (cel y).toArray) ∧ dat y = dat xs[i] ∧ Past w.heap.size w w' ∧ Q w.heap.size w'.heap.size w' y) :
    Calls Try.prog 72 #[.slice p xs.length cap, .func (.func h) #[] #[]] W fun e w' => ∃ v' ys, e = .returned v' ∧ ys.map dat = xs.map dat ∧ Past W.heap.size W w' ∧ w'.ownsRow W.heap.size 25 7 v' ys.length (ys.flatMap cel) ∧ Spread Q v'.ownBlock W.heap.size w'.heap.size w' ys := by
  have HC := Lib.hid hcopy
  have HI : Hid ((Try.prog.info? 25).map (·.size) = some 7) := Lib.hid (by kernel_rfl)
  clear hcopy
  go_enter Try.func72, Try.ntmps72
  go_wp2_with fail
  refine (copyList_C p xs.length cap (xs.flatMap cel) W (flat_len cel 7 hcel xs) hs (fun u hu => by obtain ⟨x, _, hx⟩ := List.mem_flatMap.1 hu; exact hone x u hx) hl).mono ?_
  rintro e w1 ⟨v1, rfl, hp1, hr1⟩
  obtain ⟨q1, c1, rfl⟩ := row_slice hr1
  go_wp2_with fail
  go_loopw [10] (fun t wr => ∃ ys : List α, ys.length ≤ xs.length ∧ t = .int .i64 ys.length ∧ ys.map dat = (xs.take ys.length).map dat ∧ Past W.heap.size W wr ∧ wr.ownsRow W.heap.size 25 7 (.slice q1 xs.length c1) xs.length ((ys ++ xs.drop ys.length).flatMap cel) ∧ Spread Q (Value.slice q1 xs.length c1).ownBlock W.heap.size wr.heap.size wr ys) (fun t _ => xs.length - (intOf t).toNat)
  case atStart => exact ⟨[], Nat.zero_le _, rfl, rfl, hp1, by simpa using hr1, hp1.size⟩
  case round =>
    obtain ⟨ys, hy, rfl, hd, hp, hr, hsp⟩ := hrel
    by_cases hlt : ys.length < xs.length
    · obtain ⟨g, rfl⟩ : ∃ g, q1 = some ⟨g, 0, none⟩ := by
        rcases id hr.2 with ⟨_, h0⟩ | ⟨g, cap, cur, e, _⟩
        · omega
        · injection e with e1 e2 e3; exact ⟨g, e1⟩
      have hg := hr.lt g rfl
      have hil : ys.length < (ys ++ xs.drop ys.length).length := by rw [List.length_append, List.length_drop]; omega
      have eel : (ys ++ xs.drop ys.length)[ys.length]'hil = xs[ys.length] := by rw [List.getElem_append_right (Nat.le_refl _)]; simp
      have hrange := own_range hcel hr ys.length hil
      rw [eel] at hrange
      have hcap : xs.length ≤ c1 ∧ c1 ≤ maxLen := by
        rcases id hr.2 with ⟨h0, _⟩ | ⟨g, cap, cur, e, _, _, h1, h2, _⟩
        · cases h0
        · injection e with e1 e2 e3; subst e3; exact ⟨h1, h2⟩
      obtain ⟨hcap1, hcap2⟩ := hcap
      unfold maxLen at hcap2
      have HRG := Lib.hid hrange
      have HEEL := Lib.hid eel
      have HR := Lib.hid hr
      have HSP := Lib.hid hsp
      clear hrange eel hr hsp
      go_wp2_with (first
        | (refine wpList_load_mid rfl 25 (.tmp 18) rfl g (ys.length * 7) (by simp [go_sem]) (cel xs[ys.length]) _ HRG.out Try.underlying25 rfl (by rw [hcel]; exact HI.out) ?_))
      refine (HC.out ys.length hlt wr hp).mono ?_
      rintro e w2 ⟨y, rfl, hdy, hp2, hq2⟩
      have hr2 := ownsRow_below HR.out hp2.2
      have hth := own_there hcel hr2 ys.length hil
      have HTH := Lib.hid hth
      clear hth
      go_wp2_with (first
        | (refine wpList_store_mid rfl 25 (.tmp 21) (.tmp 20) rfl g (ys.length * 7) (cel y).toArray (by simp [go_sem]) (by simp [go_sem]) (by simpa [hcel] using HTH.out) (by simpa [hcel] using HI.out) (all_oneCell_toArray (hone y)) ?_))
      have hset := setCells_own (cel y) (ys.length * 7) hr2
      rw [sets_flat cel 7 (by decide) hcel _ ys.length hil y] at hset
      have el : (ys ++ xs.drop ys.length).set ys.length y = (ys ++ [y]) ++ xs.drop (ys ++ [y]).length := by
        rw [List.set_append_right _ _ (Nat.le_refl _), Nat.sub_self, List.drop_eq_getElem_cons hlt, List.set_cons_zero, List.append_assoc]
        simp
      rw [el] at hset
      have hheap := setCells_heap g (cel y) (ys.length * 7) w2
      have hs1 := (HSP.out).stay hQ (w' := w2.setCells g (ys.length * 7) (cel y)) (fun k h1 h2 h3 => (hheap k (fun e => h3 (by rw [e]; rfl))).trans (hp2.2.block k h2))
      have hs2 := hs1.snoc (Nat.le_refl _) hp2.2.size (fun k e => by have e2 : g = k := by simpa [Value.ownBlock] using e
                                                                     omega) (hQ _ _ _ _ _ (fun k h1 h2 => hheap k (by omega)) hq2)
      rw [← setCells_size g (cel y) (ys.length * 7) w2] at hs2
      try simp only [Nat.mul_one] at hset hs2
      refine ⟨⟨ys ++ [y], by simp; omega, by simp, ?_, Past.setCells hg.1 _ _ (hp.trans ⟨hp.size, hp2.2.mono hp.size⟩), hset, hs2⟩, by simp [intOf]; omega⟩
      rw [List.map_append, hd, List.length_append, List.length_singleton, List.take_succ_eq_append_getElem hlt, List.map_append, List.map_singleton, hdy]
      rfl
    · obtain e : ys.length = xs.length := by omega
      rw [e, List.drop_length, List.append_nil] at hr
      rw [e, List.take_length] at hd
      go_wp2_with fail
      go_ret
      exact ⟨_, ys, rfl, hd, hp, by rw [e]; exact hr, hsp⟩


set_option maxRecDepth 100000 in
set_option maxHeartbeats 2000000 in
theorem copyEach_B {α δ : Type} (cel : α → List Value) (hcel : ∀ x, (cel x).length = 1) (hone : ∀ x, ∀ u ∈ cel x, u.oneCell' = true) (dat : α → δ) (Q : Nat → Nat → World → α → Prop) (hQ : Local Q) (h : FuncId) (hen : ∀ (args : Array Value) (w : World), (callFunc h args).run Try.prog w = .ok (.enter h args) w)
    (xs : List α) (p : Option Addr) (cap : Nat) (W : World) (hs : ∀ j u, (xs.flatMap cel)[j]? = some u → ∃ a, p = some a ∧ W.cell? (a.add j) = some u) (hl : xs.length ≤ 1048576)
    (hcopy : ∀ i (hi : i < xs.length) w, Past W.heap.size W w → Calls Try.prog h #[.agg (cel xs[i]).toArray] w fun e w' => ∃ y, e = .returned (.agg (cel y).toArray) ∧ dat y = dat xs[i] ∧ Past w.heap.size w w' ∧ Q w.heap.size w'.heap.size w' y) :
    Calls Try.prog 65 #[.slice p xs.length cap, .func (.func h) #[] #[]] W fun e w' => ∃ v' ys, e = .returned v' ∧ ys.map dat = xs.map dat ∧ Past W.heap.size W w' ∧ w'.ownsRow W.heap.size 67 1 v' ys.length (ys.flatMap cel) ∧ Spread Q v'.ownBlock W.heap.size w'.heap.size w' ys := by
  have HC := Lib.hid hcopy
  have HI : Hid ((Try.prog.info? 67).map (·.size) = some 1) := Lib.hid (by kernel_rfl)
  clear hcopy
  go_enter Try.func65, Try.ntmps65
  go_wp2_with fail
  refine (copyList_B p xs.length cap (xs.flatMap cel) W (flat_len cel 1 hcel xs) hs (fun u hu => by obtain ⟨x, _, hx⟩ := List.mem_flatMap.1 hu; exact hone x u hx) hl).mono ?_
  rintro e w1 ⟨v1, rfl, hp1, hr1⟩
  obtain ⟨q1, c1, rfl⟩ := row_slice hr1
  go_wp2_with fail
  go_loopw [10] (fun t wr => ∃ ys : List α, ys.length ≤ xs.length ∧ t = .int .i64 ys.length ∧ ys.map dat = (xs.take ys.length).map dat ∧ Past W.heap.size W wr ∧ wr.ownsRow W.heap.size 67 1 (.slice q1 xs.length c1) xs.length ((ys ++ xs.drop ys.length).flatMap cel) ∧ Spread Q (Value.slice q1 xs.length c1).ownBlock W.heap.size wr.heap.size wr ys) (fun t _ => xs.length - (intOf t).toNat)
  case atStart => exact ⟨[], Nat.zero_le _, rfl, rfl, hp1, by simpa using hr1, hp1.size⟩
  case round =>
    obtain ⟨ys, hy, rfl, hd, hp, hr, hsp⟩ := hrel
    by_cases hlt : ys.length < xs.length
    · obtain ⟨g, rfl⟩ : ∃ g, q1 = some ⟨g, 0, none⟩ := by
        rcases id hr.2 with ⟨_, h0⟩ | ⟨g, cap, cur, e, _⟩
        · omega
        · injection e with e1 e2 e3; exact ⟨g, e1⟩
      have hg := hr.lt g rfl
      have hil : ys.length < (ys ++ xs.drop ys.length).length := by rw [List.length_append, List.length_drop]; omega
      have eel : (ys ++ xs.drop ys.length)[ys.length]'hil = xs[ys.length] := by rw [List.getElem_append_right (Nat.le_refl _)]; simp
      have hrange := own_range hcel hr ys.length hil
      rw [eel] at hrange
      have hcap : xs.length ≤ c1 ∧ c1 ≤ maxLen := by
        rcases id hr.2 with ⟨h0, _⟩ | ⟨g, cap, cur, e, _, _, h1, h2, _⟩
        · cases h0
        · injection e with e1 e2 e3; subst e3; exact ⟨h1, h2⟩
      obtain ⟨hcap1, hcap2⟩ := hcap
      unfold maxLen at hcap2
      have HRG := Lib.hid hrange
      have HEEL := Lib.hid eel
      have HR := Lib.hid hr
      have HSP := Lib.hid hsp
      clear hrange eel hr hsp
      go_wp2_with (first
        | (refine wpList_load_mid rfl 67 (.tmp 18) rfl g (ys.length * 1) (by simp [go_sem]) (cel xs[ys.length]) _ HRG.out Try.underlying67 rfl (by rw [hcel]; exact HI.out) ?_))
      refine (HC.out ys.length hlt wr hp).mono ?_
      rintro e w2 ⟨y, rfl, hdy, hp2, hq2⟩
      have hr2 := ownsRow_below HR.out hp2.2
      have hth := own_there hcel hr2 ys.length hil
      have HTH := Lib.hid hth
      clear hth
      go_wp2_with (first
        | (refine wpList_store_mid rfl 67 (.tmp 21) (.tmp 20) rfl g (ys.length * 1) (cel y).toArray (by simp [go_sem]) (by simp [go_sem]) (by simpa [hcel] using HTH.out) (by simpa [hcel] using HI.out) (all_oneCell_toArray (hone y)) ?_))
      have hset := setCells_own (cel y) (ys.length * 1) hr2
      rw [sets_flat cel 1 (by decide) hcel _ ys.length hil y] at hset
      have el : (ys ++ xs.drop ys.length).set ys.length y = (ys ++ [y]) ++ xs.drop (ys ++ [y]).length := by
        rw [List.set_append_right _ _ (Nat.le_refl _), Nat.sub_self, List.drop_eq_getElem_cons hlt, List.set_cons_zero, List.append_assoc]
        simp
      rw [el] at hset
      have hheap := setCells_heap g (cel y) (ys.length * 1) w2
      have hs1 := (HSP.out).stay hQ (w' := w2.setCells g (ys.length * 1) (cel y)) (fun k h1 h2 h3 => (hheap k (fun e => h3 (by rw [e]; rfl))).trans (hp2.2.block k h2))
      have hs2 := hs1.snoc (Nat.le_refl _) hp2.2.size (fun k e => by have e2 : g = k := by simpa [Value.ownBlock] using e
                                                                     omega) (hQ _ _ _ _ _ (fun k h1 h2 => hheap k (by omega)) hq2)
      rw [← setCells_size g (cel y) (ys.length * 1) w2] at hs2
      try simp only [Nat.mul_one] at hset hs2
      refine ⟨⟨ys ++ [y], by simp; omega, by simp, ?_, Past.setCells hg.1 _ _ (hp.trans ⟨hp.size, hp2.2.mono hp.size⟩), hset, hs2⟩, by simp [intOf]; omega⟩
      rw [List.map_append, hd, List.length_append, List.length_singleton, List.take_succ_eq_append_getElem hlt, List.map_append, List.map_singleton, hdy]
      rfl
    · obtain e : ys.length = xs.length := by omega
      rw [e, List.drop_length, List.append_nil] at hr
      rw [e, List.take_length] at hd
      go_wp2_with fail
      go_ret
      exact ⟨_, ys, rfl, hd, hp, by rw [e]; exact hr, hsp⟩

end Go.Proofs.Ytpfeiolmkbibiaa
