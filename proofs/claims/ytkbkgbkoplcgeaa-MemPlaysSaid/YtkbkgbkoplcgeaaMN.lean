/- Package mem: cells. -/
import Derived.Test.YtkbkgbkoplcgeaaML
namespace Go.Proofs.Ytkbkgbkoplcgeaa
open Go.RowKit Go.Maps
set_option linter.unusedVariables false
set_option linter.unusedSimpArgs false

theorem infoCl : (Try.prog.info? 102).map (fun i => (i.zero, i.size, i.bytes)) = some (some (.agg #[.int .i64 0, .int .u8 0, .int .i64 0, .int .i64 0, .int .i64 0, .bool false]), 6, 48) := by kernel_rfl
def z0c : Cl := ⟨q0, false⟩
theorem flat_rep6 (n : Nat) (y : Cl) : (List.replicate n y).flatMap celC = (List.replicate n (celC y)).flatten := by
  induction n with
  | zero => rfl
  | succ n ih => rw [List.replicate_succ, List.flatMap_cons, ih, List.replicate_succ, List.flatten_cons]
theorem made_zero6 (n : Nat) : (madeCells (#[.int .i64 0, .int .u8 0, .int .i64 0, .int .i64 0, .int .i64 0, .bool false] : Array Value) (n * 6)).toList = (List.replicate n z0c).flatMap celC := by
  rw [made_rep _ 6 rfl (by decide), flat_rep6]
  rfl
theorem own_cel {w : World} {B g n c : Nat} {L : List Cl} (h : w.ownsRow B 102 6 (.slice (some ⟨g, 0, none⟩) n c) n (L.flatMap celC)) (k : Nat) (hk : k < L.length) :
    w.cell? ⟨g, k * 6, none⟩ = some (.int .i64 L[k].y.k) ∧ w.cell? ⟨g, k * 6 + 1, none⟩ = some (.int .u8 L[k].y.b) ∧ w.cell? ⟨g, k * 6 + 2, none⟩ = some (.int .i64 L[k].y.bk) ∧ w.cell? ⟨g, k * 6 + 3, none⟩ = some (.int .i64 L[k].y.o) ∧ w.cell? ⟨g, k * 6 + 4, none⟩ = some (.int .i64 L[k].y.i) ∧ w.cell? ⟨g, k * 6 + 5, none⟩ = some (.bool L[k].late) ∧ ∀ i, w.frozen? ⟨g, i, none⟩ = false := by
  have hr := own_range celC_len h k hk
  exact ⟨hr 0 _ rfl, hr 1 _ rfl, hr 2 _ rfl, hr 3 _ rfl, hr 4 _ rfl, hr 5 _ rfl, fun i => h.frozenAt _⟩
theorem cel_store {w : World} {B g n c k : Nat} {L : List Cl} (h : w.ownsRow B 102 6 (.slice (some ⟨g, 0, none⟩) n c) n (L.flatMap celC)) (hk : k < L.length) (y : Cl) :
    (w.setCells g (k * 6) (celC y)).ownsRow B 102 6 (.slice (some ⟨g, 0, none⟩) n c) n ((L.set k y).flatMap celC) := by
  have := setCells_own (celC y) (k * 6) h
  rwa [sets_flat celC 6 (by decide) celC_len _ k hk y] at this
theorem row_drew {w : World} {B e m n : Nat} {v : Value} {xs : List Value} (h : w.ownsRow B e m v n xs) : w.drew.ownsRow B e m v n xs := row_same h (fun _ _ => rfl)
/-- A byte as it is laid now. -/
def layC (st : Ms) (y : By) : Cl := ⟨y, y.k == 2 && gone st y.bk⟩
def clTo (st : Ms) (l : List By) (k : Nat) : List Cl := (l.take k).map (layC st) ++ List.replicate (l.length - k) z0c
theorem clTo_0 (st : Ms) (l : List By) : clTo st l 0 = List.replicate l.length z0c := rfl
theorem clTo_len (st : Ms) (l : List By) (k : Nat) (hk : k ≤ l.length) : (clTo st l k).length = l.length := by unfold clTo; rw [List.length_append, List.length_map, List.length_take, List.length_replicate]; omega
theorem clTo_succ (st : Ms) (l : List By) (k : Nat) (hk : k < l.length) : (clTo st l k).set k (layC st l[k]) = clTo st l (k + 1) := by
  unfold clTo
  rw [List.set_append_right _ _ (by simp; omega), show k - ((l.take k).map (layC st)).length = 0 by simp; omega, show l.length - k = (l.length - (k + 1)) + 1 by omega, List.replicate_succ, List.set_cons_zero, List.take_succ_eq_append_getElem hk, List.map_append, List.append_assoc]
  rfl
theorem clTo_all (st : Ms) (l : List By) : clTo st l l.length = l.map (layC st) := by unfold clTo; simp
theorem bCl (w : World) (a b c d e : Int) (f : Bool) : (Instr.build 102 #[(0, .agg #[.int .i64 a, .int .u8 b, .int .i64 c, .int .i64 d, .int .i64 e]), (1, .bool f)]).run Try.prog w = .ok (.agg #[.int .i64 a, .int .u8 b, .int .i64 c, .int .i64 d, .int .i64 e, .bool f]) w := run_build _ _ _ _ (by kernel_rfl)
set_option maxHeartbeats 2000000 in
theorem cells_any (o : Nat → Nat) (mb ab : Nat) (st : Ms) (W : World) (p : Option Addr) (c : Nat) (l : List By) (hl : BysIn W.heap.size W p l.length c l) (hw : ∀ y ∈ l, wf64 y.bk) (h4 : l.length ≤ 4096) (h : MemIs o mb ab st W) :
    Calls Try.prog 61 #[.pointer (some ⟨mb, 0, none⟩), .slice p l.length c] W fun e w' => ∃ p c, e = .returned (.slice p l.length c) ∧ w'.ownsRow W.heap.size 102 6 (.slice p l.length c) l.length ((l.map (layC st)).flatMap celC) ∧ Below W.heap.size W w' := by
  obtain ⟨iV, hiV, hz0, hz1, hz2⟩ := info_parts infoCl
  have HI := Lib.hid (And.intro hiV (And.intro hz0 (And.intro hz1 hz2)))
  clear hiV hz0 hz1 hz2
  have B2 : Hid (iV.bytes * l.length ≤ 281474976710656) := Lib.hid (by rw [HI.out.2.2.2]; omega)
  have B3 : Hid (l.length ≤ maxLen) := Lib.hid (by unfold maxLen; omega)
  have HH := Lib.hid h
  have HL := Lib.hid hl
  have HW := Lib.hid hw
  have hb := bCl
  have hcap := hl.2.1
  have hmx := hl.2.2.1
  unfold maxLen at hmx
  clear h hl hw
  go_enter Try.func61, Try.ntmps61
  go_wp2_with (first
    | (at_make; refine wpList_make_full _ rfl _ _ 95 rfl W.heap.size 102 iV _ 6 Try.underlying95 HI.out.1 HI.out.2.1 HI.out.2.2.1 _ _ _ _ l.length rfl rfl rfl rfl B2.out B3.out (by simp) ?_; intro w1 hown1 hgrow1))
  have hb1 := below_none hgrow1 (Nat.le_refl W.heap.size)
  have hown1 := Lib.hid hown1
  have hgrow1 := Lib.hid hgrow1
  have hb1 := Lib.hid hb1
  go_loopw [13] (fun u wr => ∃ k : Nat, k ≤ l.length ∧ u = .int .i64 k ∧ Past W.heap.size W wr ∧ wr.ownsRow W.heap.size 102 6 (.slice (some ⟨W.heap.size, 0, none⟩) l.length l.length) l.length ((clTo st l k).flatMap celC)) (fun u _ => l.length - (intOf u).toNat)
  case atStart => exact ⟨0, Nat.zero_le _, rfl, ⟨Nat.le_refl _, hb1.out⟩, by rw [clTo_0, ← made_zero6]; exact hown1.out⟩
  case round =>
    obtain ⟨k, hk, rfl, hp, hr⟩ := hrel
    have HP := Lib.hid hp
    have HR := Lib.hid hr
    clear hp hr
    by_cases hlt : k < l.length
    · obtain ⟨a, rfl, ha, hy⟩ := by_row HL.out k hlt
      have hil : k < (clTo st l k).length := by rw [clTo_len st l k hk]; exact hlt
      have hwf := HW.out l[k] (List.getElem_mem hlt)
      have hS := clTo_succ st l k hlt
      obtain ⟨⟨yk, yb, ybk, yo, yi⟩, ek⟩ : ∃ x, l[k] = x := ⟨_, rfl⟩
      rw [ek] at hy hS hwf
      have hab : (a.add (k * 5)).block < W.heap.size := by rw [add_block]; exact ha
      obtain ⟨f0, f1, f2, f3, f4⟩ : ByAt wr (a.add (k * 5)) ⟨yk, yb, ybk, yo, yi⟩ := by
        obtain ⟨h0, h1, h2, h3, h4⟩ := hy
        exact ⟨(HP.out.2.cell hab).trans h0, (HP.out.2.cell (p := ⟨(a.add (k * 5)).block, (a.add (k * 5)).off + 1, none⟩) hab).trans h1, (HP.out.2.cell (p := ⟨(a.add (k * 5)).block, (a.add (k * 5)).off + 2, none⟩) hab).trans h2, (HP.out.2.cell (p := ⟨(a.add (k * 5)).block, (a.add (k * 5)).off + 3, none⟩) hab).trans h3, (HP.out.2.cell (p := ⟨(a.add (k * 5)).block, (a.add (k * 5)).off + 4, none⟩) hab).trans h4⟩
      simp only at f0 f1 f2 f3 f4
      have HS := Lib.hid hS
      obtain ⟨q0, q1, q2, q3, q4, q5, qf⟩ := own_cel HR.out k hil
      have glt : W.heap.size < wr.heap.size := block_lt q0
      have M2 : MemIs o mb ab st (wr.alloc (.cells #[.int .i64 yk, .int .u8 yb, .int .i64 ybk, .int .i64 yo, .int .i64 yi] 32)).drew := (HH.out.later HP.out.2).later (below1 wr (.cells #[.int .i64 yk, .int .u8 yb, .int .i64 ybk, .int .i64 yo, .int .i64 yi] 32)).drew
      have c6 := isGone_any o mb ab st _ ybk hwf M2
      have P1 := Lib.hid (HP.out.alloc (.cells #[.int .i64 yk, .int .u8 yb, .int .i64 ybk, .int .i64 yo, .int .i64 yi] 32))
      have R1 := Lib.hid (row_drew (HR.out.alloc (.cells #[.int .i64 yk, .int .u8 yb, .int .i64 ybk, .int .i64 yo, .int .i64 yi] 32)))
      clear hy ek hS M2 hwf
      by_cases e2 : yk = 2
      · have hd : (yk == 2) = true := by rw [e2]; rfl
        have HY : Hid (layC st ⟨yk, yb, ybk, yo, yi⟩ = ⟨⟨yk, yb, ybk, yo, yi⟩, gone st ybk⟩) := Lib.hid (by unfold layC; simp [e2])
        obtain ⟨G, eG⟩ : ∃ G, gone st ybk = G := ⟨_, rfl⟩
        rw [eG] at HY c6
        clear e2 eG
        go_wp2_with fail
        go_region_with ((with_reducible refine c6.mono ?_); rintro e w' ⟨rfl, rfl⟩)
        all_goals
          go_wp2_with fail
          have hset := cel_store HR.out hil (layC st ⟨yk, yb, ybk, yo, yi⟩)
          rw [HS.out, HY.out] at hset
          exact ⟨⟨_, hlt, by go_num, ((Past.setCells (Nat.le_refl _) (celC ⟨⟨yk, yb, ybk, yo, yi⟩, G⟩) (k * 6) HP.out).alloc _).drew, row_drew (hset.alloc _)⟩, by simp [intOf]; omega⟩
      · have hd : (yk == 2) = false := by simpa using e2
        have HY : Hid (layC st ⟨yk, yb, ybk, yo, yi⟩ = ⟨⟨yk, yb, ybk, yo, yi⟩, false⟩) := Lib.hid (by unfold layC; simp [e2])
        clear e2 c6
        go_wp2_with fail
        go_region
        all_goals
          go_wp2_with fail
          have hset := cel_store HR.out hil (layC st ⟨yk, yb, ybk, yo, yi⟩)
          rw [HS.out, HY.out] at hset
          exact ⟨⟨_, hlt, by go_num, ((Past.setCells (Nat.le_refl _) (celC ⟨⟨yk, yb, ybk, yo, yi⟩, false⟩) (k * 6) HP.out).alloc _).drew, row_drew (hset.alloc _)⟩, by simp [intOf]; omega⟩
    · obtain rfl : k = l.length := by omega
      go_wp2_with fail
      go_ret
      exact ⟨_, _, rfl, by rw [← clTo_all]; exact HR.out, HP.out.2⟩
end Go.Proofs.Ytkbkgbkoplcgeaa
