/- Package mem: New. -/
import Derived.Test.YtkbkgbkoplcgeaaMS
namespace Go.Proofs.Ytkbkgbkoplcgeaa
open Go.RowKit Go.Maps
set_option linter.unusedVariables false
set_option linter.unusedSimpArgs false

def dNews (xs : List Int) : Dm := xs.map fun n => some (List.replicate (bnd n) (nB 0))
theorem dNews_snoc (xs : List Int) (n : Int) : dNews (xs ++ [n]) = dNew (dNews xs) n (nB 0) := by unfold dNews dNew; rw [List.map_append]; rfl
theorem bM (w : World) (ab : Nat) : (Instr.build 82 #[(1, .map (some ab))]).run Try.prog w = .ok (.agg #[.int .i64 0, .map (some ab)]) w := run_build _ _ _ _ (by kernel_rfl)
theorem mem_new (W : World) : MemD (fun k => if k = W.heap.size + 1 then 1 else if k = W.heap.size then 2 else 0) (W.heap.size + 1) (dNews []) ((W.alloc (.map #[] 0)).alloc (.cells #[.int .i64 0, .map (some W.heap.size)] 82)) := by
  refine ⟨W.heap.size, [], ?_, rfl, fun i b h => by cases h⟩
  constructor
  · intro k hk
    by_cases e : k = W.heap.size + 1
    · subst e; simp
    · by_cases e2 : k = W.heap.size
      · subst e2; simp; omega
      · simp [e, e2] at hk
  · simp
  · simp
  · exact Box.new _ (by simp) [.int .i64 0, .map (some W.heap.size)] _
  · refine ⟨.map [], (World.ownsMap_made (H := Unit) W Try.prog 3 ptrR).alloc _, fun k hk => ?_⟩
    have : atS [] k = none := atS_out (by simp; omega)
    rw [this]; rfl
  · exact Nat.zero_le _
  · intro i b h; cases h
  · intro i b h; cases h
set_option maxHeartbeats 2000000 in
theorem NewD (W : World) (p : Option Addr) (c : Nat) (xs : List Int) (hx : ListIn intC NoMem W.heap.size W p xs.length c xs) (hw : ∀ x ∈ xs, wf64 x) (hl : xs.length ≤ 1000) :
    Calls Try.prog 22 #[.slice p xs.length c] W fun e w' => ∃ o mb, e = .returned (.pointer (some ⟨mb, 0, none⟩)) ∧ MemD o mb (dNews xs) w' ∧ Below W.heap.size W w' ∧ (∀ k, k < W.heap.size → o k = 0) := by
  have hcap := hx.2.1
  have hmx := hx.2.2.1
  unfold maxLen at hmx
  have b1 := bM
  have hmm := @run_makeMap Try.prog
  have HX := Lib.hid hx
  have HW := Lib.hid hw
  have HB := Lib.hid (below2 W (.map #[] 0) (.cells #[.int .i64 0, .map (some W.heap.size)] 82))
  have HN := Lib.hid (mem_new W)
  have c1 : ∀ w, Calls Try.prog 41 #[.int .u8 0] w fun e w' => e = .returned (.agg #[.int .i64 1, .int .u8 0, .int .i64 0, .int .i64 0, .int .i64 0]) ∧ Below w.heap.size w w' := fun w => number_any 0 w
  clear hx hw
  go_enter Try.func22, Try.ntmps22
  go_wp2_with fail
  go_loopw [11] (fun u wr => ∃ (k : Nat) (o : Nat → Nat), k ≤ xs.length ∧ u = .int .i64 k ∧ MemD o (W.heap.size + 1) (dNews (xs.take k)) wr ∧ Below W.heap.size W wr ∧ ∀ k, k < W.heap.size → o k = 0) (fun u _ => xs.length - (intOf u).toNat)
  case atStart => exact ⟨0, _, Nat.zero_le _, rfl, HN.out, HB.out, fun k hk => by
    show (if k = W.heap.size + 1 then 1 else if k = W.heap.size then 2 else 0) = 0
    rw [if_neg (by omega), if_neg (by omega)]⟩
  case round =>
    obtain ⟨k, o, hk, rfl, hM, hb, ho⟩ := hrel
    have HM := Lib.hid hM
    have HB1 := Lib.hid hb
    have HO := Lib.hid ho
    clear hM hb ho
    by_cases hlt : k < xs.length
    · obtain ⟨a, ea, ha, hc⟩ := (HX.out.2.2.2.1) (k * 1 + 0) _ ((flat_get intC 1 (fun _ => rfl) xs k hlt 0 (by decide)).trans rfl)
      subst ea
      have hcell : wr.cell? (a.add k) = some (.int .i64 xs[k]) := by
        have h1 := (HB1.out.cell (p := a.add k) (by rw [add_block]; exact ha))
        rw [h1]
        simpa using hc
      have hwf := HW.out _ (List.getElem_mem hlt)
      have hs : xs.take (k + 1) = xs.take k ++ [xs[k]] := List.take_succ_eq_append_getElem hlt
      obtain ⟨x, ex⟩ : ∃ x, xs[k] = x := ⟨_, rfl⟩
      rw [ex] at hcell hwf hs
      have hdl : (dNews (xs.take k)).length < 1000000 := by unfold dNews; rw [List.length_map, List.length_take]; omega
      have c2 : ∀ w, Below wr.heap.size wr w → Calls Try.prog 49 #[.pointer (some ⟨W.heap.size + 1, 0, none⟩), .int .i64 x, .agg #[.int .i64 1, .int .u8 0, .int .i64 0, .int .i64 0, .int .i64 0]] w fun e w' => e = .returned (.int .i64 (dNews (xs.take k)).length) ∧ GoesD o (W.heap.size + 1) (dNews (xs.take (k + 1))) w w' := fun w hb => by
        rw [hs, dNews_snoc]
        exact addD o _ _ w x (nB 0) ⟨by decide, by decide⟩ (by decide) wf0 hwf hdl (HM.out.later hb)
      clear hs hwf hdl ex hc
      go_wp2_with (first
        | ((with_reducible refine (c1 _).mono ?_); rintro e w5 ⟨rfl, hb5⟩; have c3 := c2 _ hb5; have HB5 := Lib.hid hb5; clear hb5)
        | ((with_reducible refine c3.mono ?_); rintro e w6 ⟨rfl, hG⟩))
      obtain ⟨o2, m1, m2, m3⟩ := hG
      have hs5 := HB5.out.size
      have hs1 := HB1.out.size
      refine ⟨⟨k + 1, o2, hlt, by go_num, m1, ?_, fun j hj => (m3 j (by omega)).trans (HO.out j hj)⟩, by simp [intOf]; omega⟩
      have B5 := HB1.out.trans (HB5.out.mono hs1)
      exact ⟨m2.os.trans B5.os, m2.tape.trans B5.tape, m2.output.trans B5.output, Nat.le_trans B5.size m2.size, fun j hj => (m2.block j (by omega) (HO.out j hj)).trans (B5.block j hj)⟩
    · obtain rfl : k = xs.length := by omega
      go_wp2_with fail
      go_ret
      exact ⟨o, _, rfl, by rw [← List.take_length (l := xs)]; exact HM.out, HB1.out, HO.out⟩
end Go.Proofs.Ytkbkgbkoplcgeaa
