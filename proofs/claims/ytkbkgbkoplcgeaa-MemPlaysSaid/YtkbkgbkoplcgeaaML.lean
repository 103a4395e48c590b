/- Package mem: isLost, seen. -/
import Derived.Test.YtkbkgbkoplcgeaaMK
namespace Go.Proofs.Ytkbkgbkoplcgeaa
open Go.RowKit Go.Maps
set_option linter.unusedVariables false
set_option linter.unusedSimpArgs false

def lostB (st : Ms) (x : Cl) : Bool := x.y.k == 2 && !x.late && gone st x.y.bk
theorem isLost_any (o : Nat → Nat) (mb ab : Nat) (st : Ms) (W : World) (x : Cl) (hk : wf64 x.y.bk) (h : MemIs o mb ab st W) :
    Calls Try.prog 71 #[.pointer (some ⟨mb, 0, none⟩), .agg #[.int .i64 x.y.k, .int .u8 x.y.b, .int .i64 x.y.bk, .int .i64 x.y.o, .int .i64 x.y.i, .bool x.late]] W fun e w' => e = .returned (.bool (lostB st x)) ∧ Below W.heap.size W w' := by
  obtain ⟨⟨k, b, bk, oo, i⟩, late⟩ := x
  have c1 : ∀ w, Below W.heap.size W w → Calls Try.prog 72 #[.pointer (some ⟨mb, 0, none⟩), .int .i64 bk] w fun e w' => e = .returned (.bool (gone st bk)) ∧ w = w' := fun w hb => isGone_any o mb ab st w bk hk (h.later hb)
  have c2 := c1 _ (below1 W (.cells #[.int .i64 k, .int .u8 b, .int .i64 bk, .int .i64 oo, .int .i64 i, .bool late] 102))
  have HB := Lib.hid (below1 W (.cells #[.int .i64 k, .int .u8 b, .int .i64 bk, .int .i64 oo, .int .i64 i, .bool late] 102))
  clear h c1
  by_cases h1 : k = 2
  · have e1 : (k == 2) = true := by rw [h1]; rfl
    cases late with
    | true =>
      have HL : Hid (lostB st ⟨⟨k, b, bk, oo, i⟩, true⟩ = false) := Lib.hid (by unfold lostB; simp)
      clear h1
      go_enter Try.func71, Try.ntmps71
      go_wp2_with fail
      go_ret
      exact ⟨by rw [HL.out]; rfl, HB.out⟩
    | false =>
      have HL : Hid (lostB st ⟨⟨k, b, bk, oo, i⟩, false⟩ = gone st bk) := Lib.hid (by unfold lostB; simp [h1])
      clear h1
      go_enter Try.func71, Try.ntmps71
      go_wp2_with (first
        | ((with_reducible refine c2.mono ?_); rintro e w' ⟨rfl, rfl⟩))
      go_ret
      exact ⟨by rw [HL.out]; rfl, HB.out⟩
  · have e1 : (k == 2) = false := by simpa using h1
    have HL : Hid (lostB st ⟨⟨k, b, bk, oo, i⟩, late⟩ = false) := Lib.hid (by unfold lostB; simp [h1])
    clear h1
    go_enter Try.func71, Try.ntmps71
    go_wp2_with fail
    go_ret
    exact ⟨by rw [HL.out]; rfl, HB.out⟩
/-- A byte of a block as it is now. -/
def seenO (st : Ms) (y : By) : Option Cl → By
  | none => y
  | some x => if lostB st x then q0 else x.y
def seenAt (st : Ms) (b : Bk) (j : Nat) : By := seenO st b.all b.cs[j]?
theorem seenAt_none (st : Ms) (b : Bk) (j : Nat) (h : b.cs.length ≤ j) : seenAt st b j = b.all := by unfold seenAt; rw [List.getElem?_eq_none h]; rfl
theorem seenAt_some (st : Ms) (b : Bk) (j : Nat) (h : j < b.cs.length) : seenAt st b j = if lostB st b.cs[j] then q0 else b.cs[j].y := by unfold seenAt; rw [List.getElem?_eq_getElem h]; rfl
def seenL (st : Ms) (b : Bk) (f n : Nat) : List By := (List.range n).map fun i => seenAt st b (f + i)
theorem seenL_len (st : Ms) (b : Bk) (f n : Nat) : (seenL st b f n).length = n := by unfold seenL; simp
/-- The first k of them. -/
def snTo (st : Ms) (b : Bk) (f n k : Nat) : List By := (List.range n).map fun i => if i < k then seenAt st b (f + i) else q0
theorem snTo_0 (st : Ms) (b : Bk) (f n : Nat) : snTo st b f n 0 = List.replicate n q0 := by
  unfold snTo
  rw [List.map_congr_left (g := fun _ => q0) (fun i _ => if_neg (Nat.not_lt_zero _)), List.map_const', List.length_range]
theorem snTo_len (st : Ms) (b : Bk) (f n k : Nat) : (snTo st b f n k).length = n := by unfold snTo; simp
theorem snTo_at (st : Ms) (b : Bk) (f n k i : Nat) (h : i < (snTo st b f n k).length) : (snTo st b f n k)[i] = if i < k then seenAt st b (f + i) else q0 := by
  simp only [snTo, List.getElem_map, List.getElem_range]
theorem snTo_succ (st : Ms) (b : Bk) (f n k : Nat) (hk : k < n) : (snTo st b f n k).set k (seenAt st b (f + k)) = snTo st b f n (k + 1) := by
  refine List.ext_getElem (by rw [List.length_set, snTo_len, snTo_len]) (fun i h1 h2 => ?_)
  rw [List.getElem_set, snTo_at, snTo_at]
  by_cases e : k = i
  · subst e; rw [if_pos rfl, if_pos (Nat.lt_succ_self _)]
  · rw [if_neg e]
    by_cases h : i < k
    · rw [if_pos h, if_pos (by omega)]
    · rw [if_neg h, if_neg (by omega)]
theorem snTo_same (st : Ms) (b : Bk) (f n k : Nat) (hk : k < n) (h : seenAt st b (f + k) = q0) : snTo st b f n k = snTo st b f n (k + 1) := by
  rw [← snTo_succ st b f n k hk, h]
  have : (snTo st b f n k)[k]'(by rw [snTo_len]; exact hk) = q0 := by rw [snTo_at, if_neg (Nat.lt_irrefl _)]
  conv => rhs; rw [← this]
  rw [List.set_getElem_self]
theorem snTo_all (st : Ms) (b : Bk) (f n : Nat) : snTo st b f n n = seenL st b f n := List.map_congr_left fun i hi => if_pos (List.mem_range.1 hi)
/-- The cells of a block's row. -/
theorem cel_row {w : World} {p : Option Addr} {c : Nat} {cs : List Cl} (h : w.ownsRow 0 102 6 (.slice p cs.length c) cs.length (cs.flatMap celC)) (j : Nat) (hj : j < cs.length) :
    ∃ g, p = some ⟨g, 0, none⟩ ∧ g < w.heap.size ∧ w.cell? ⟨g, j * 6, none⟩ = some (.int .i64 cs[j].y.k) ∧ w.cell? ⟨g, j * 6 + 1, none⟩ = some (.int .u8 cs[j].y.b) ∧ w.cell? ⟨g, j * 6 + 2, none⟩ = some (.int .i64 cs[j].y.bk) ∧ w.cell? ⟨g, j * 6 + 3, none⟩ = some (.int .i64 cs[j].y.o) ∧ w.cell? ⟨g, j * 6 + 4, none⟩ = some (.int .i64 cs[j].y.i) ∧ w.cell? ⟨g, j * 6 + 5, none⟩ = some (.bool cs[j].late) := by
  have hp : ∃ g, p = some ⟨g, 0, none⟩ := by
    rcases h.2 with ⟨e, h0⟩ | ⟨g, cap, cur, e, _⟩
    · omega
    · injection e with e1 e2 e3; exact ⟨g, e1⟩
  obtain ⟨g, rfl⟩ := hp
  have hr := own_range celC_len h j hj
  exact ⟨g, rfl, (h.lt g rfl).2, hr 0 _ rfl, hr 1 _ rfl, hr 2 _ rfl, hr 3 _ rfl, hr 4 _ rfl, hr 5 _ rfl⟩
theorem cel_cap {w : World} {p : Option Addr} {c : Nat} {cs : List Cl} (h : w.ownsRow 0 102 6 (.slice p cs.length c) cs.length (cs.flatMap celC)) : cs.length ≤ c ∧ c ≤ maxLen := by
  rcases h.2 with ⟨e, h0⟩ | ⟨g, cap, cur, e, _, _, h1, h2, _⟩
  · injection e with e1 e2 e3; exact ⟨by omega, by rw [e3]; unfold maxLen; omega⟩
  · injection e with e1 e2 e3; subst e3; exact ⟨h1, h2⟩
set_option maxHeartbeats 2000000 in
theorem seen_any (o : Nat → Nat) (mb ab : Nat) (st : Ms) (W : World) (i : Nat) (b : Bk) (f n : Nat) (hf : f ≤ 4096) (hn : n ≤ 4096) (hi : st[i]? = some (some b)) (h : MemIs o mb ab st W) :
    Calls Try.prog 58 #[.pointer (some ⟨mb, 0, none⟩), .pointer (some ⟨b.pb, 0, none⟩), .int .i64 f, .int .i64 n] W fun e w' => ∃ p c, e = .returned (.slice p n c) ∧ w'.ownsRow W.heap.size 32 5 (.slice p n c) n ((seenL st b f n).flatMap byC) ∧ Below W.heap.size W w' := by
  obtain ⟨iV, hiV, hz0, hz1, hz2⟩ := info_parts infoBy
  have HI := Lib.hid (And.intro hiV (And.intro hz0 (And.intro hz1 hz2)))
  clear hiV hz0 hz1 hz2
  have B2 : Hid (iV.bytes * n ≤ 281474976710656) := Lib.hid (by rw [HI.out.2.2.2]; omega)
  have B3 : Hid (n ≤ maxLen) := Lib.hid (by unfold maxLen; omega)
  have HH := Lib.hid h
  have HI2 := Lib.hid hi
  have HF := Lib.hid (h.fit i b hi)
  obtain ⟨hc1, hc2⟩ := cel_cap (h.blk i b hi).2.2.1
  unfold maxLen at hc2
  have hcs := (h.fit i b hi).2.1
  have h4 := (h.fit i b hi).1
  clear h hi
  go_enter Try.func58, Try.ntmps58
  go_wp2_with (first
    | (at_make; refine wpList_make_full _ rfl _ _ 25 rfl W.heap.size 32 iV _ 5 Try.underlying25 HI.out.1 HI.out.2.1 HI.out.2.2.1 _ _ _ _ n rfl rfl rfl rfl B2.out B3.out (by simp) ?_; intro w1 hown1 hgrow1))
  have hb1 := below_none hgrow1 (Nat.le_refl W.heap.size)
  have hown1 := Lib.hid hown1
  have hgrow1 := Lib.hid hgrow1
  have hb1 := Lib.hid hb1
  go_loopw [16] (fun u wr => ∃ k : Nat, k ≤ n ∧ u = .int .i64 k ∧ Past W.heap.size W wr ∧ wr.ownsRow W.heap.size 32 5 (.slice (some ⟨W.heap.size, 0, none⟩) n n) n ((snTo st b f n k).flatMap byC)) (fun u _ => n - (intOf u).toNat)
  case atStart => exact ⟨0, Nat.zero_le _, rfl, ⟨Nat.le_refl _, hb1.out⟩, by rw [snTo_0, ← made_zero]; exact hown1.out⟩
  case round =>
    obtain ⟨k, hk, rfl, hp, hr⟩ := hrel
    have HM := Lib.hid (HH.out.later hp.2)
    have hblk := (HM.out.blk i b HI2.out)
    have hbx := hblk.2.1
    have s0 := hbx.get 0 _ rfl
    have s1 := hbx.get 1 _ rfl
    have s2 := hbx.get 2 _ rfl
    have s3 := hbx.get 3 _ rfl
    have s4 := hbx.get 4 _ rfl
    have s5 := hbx.get 5 _ rfl
    have s6 := hbx.get 6 _ rfl
    have blt := hbx.1
    have HB := Lib.hid hblk
    have HP := Lib.hid hp
    have HR := Lib.hid hr
    clear hp hr hblk hbx
    by_cases hlt : k < n
    · have hil : k < (snTo st b f n k).length := by rw [snTo_len]; exact hlt
      by_cases hge : b.cs.length ≤ f + k
      · have hy := seenAt_none st b (f + k) hge
        have HS := Lib.hid (snTo_succ st b f n k hlt)
        have HY := Lib.hid hy
        obtain ⟨q0, q1, q2, q3, q4, qf⟩ := own_by HR.out k hil
        have hge2 : (b.cs.length : Int) ≤ (f : Int) + (k : Int) := by omega
        clear hy
        go_wp2_with fail
        have hset := wr_store HR.out hil (seenAt st b (f + k))
        rw [HS.out, HY.out] at hset
        exact ⟨⟨_, hlt, by go_num, Past.setCells (Nat.le_refl _) (byC b.all) (k * 5) HP.out, hset⟩, by simp [intOf]; omega⟩
      · have hj : f + k < b.cs.length := by omega
        have hge2 : ¬ (b.cs.length : Int) ≤ (f : Int) + (k : Int) := by omega
        have hy := seenAt_some st b (f + k) hj
        have HS := Lib.hid (snTo_succ st b f n k hlt)
        obtain ⟨g, eg, glt, z0, z1, z2, z3, z4, z5⟩ := cel_row HB.out.2.2.1 (f + k) hj
        have hfit := HF.out.2.2.2.2 b.cs[f + k] (List.getElem_mem hj)
        have c5 := fun w (hb : MemIs o mb ab st w) => isLost_any o mb ab st w b.cs[f + k] hfit.1.2 hb
        obtain ⟨⟨⟨yk, yb, ybk, yo, yi⟩, late⟩, ex⟩ : ∃ x, b.cs[f + k] = x := ⟨_, rfl⟩
        simp only [ex] at z0 z1 z2 z3 z4 z5 c5 hy
        have HY := Lib.hid hy
        rw [eg] at s6
        have C1 : Box wr.heap.size [.int .i64 yk, .int .u8 yb, .int .i64 ybk, .int .i64 yo, .int .i64 yi, .bool late] (wr.alloc (.cells #[.int .i64 yk, .int .u8 yb, .int .i64 ybk, .int .i64 yo, .int .i64 yi, .bool late] 102)) := Box.new wr rfl _ _
        have M1 := HM.out.later (below1 wr (.cells #[.int .i64 yk, .int .u8 yb, .int .i64 ybk, .int .i64 yo, .int .i64 yi, .bool late] 102))
        have c6 := c5 _ M1
        have C1 := Lib.hid C1
        clear c5 M1 ex hfit hy eg
        cases hL : lostB st ⟨⟨yk, yb, ybk, yo, yi⟩, late⟩ with
        | true =>
          rw [hL] at c6
          have HS2 := Lib.hid (snTo_same st b f n k hlt (HY.out.trans (if_pos hL)))
          clear hL
          go_wp2_with (first
            | ((with_reducible refine c6.mono ?_); rintro e w5 ⟨rfl, hb5⟩))
          have P1 := HP.out.alloc (.cells #[.int .i64 yk, .int .u8 yb, .int .i64 ybk, .int .i64 yo, .int .i64 yi, .bool late] 102)
          exact ⟨⟨_, hlt, by go_num, P1.trans ⟨P1.size, hb5.mono P1.size⟩, by rw [← HS2.out]; exact ownsRow_below (HR.out.alloc _) hb5⟩, by simp [intOf]; omega⟩
        | false =>
          rw [hL] at c6
          have HY2 := Lib.hid (HY.out.trans (if_neg (by rw [hL]; decide)))
          clear hL
          go_wp2_with (first
            | ((with_reducible refine c6.mono ?_); rintro e w5 ⟨rfl, hb5⟩; have HB5 := Lib.hid hb5; obtain ⟨q0, q1, q2, q3, q4, qf⟩ := own_by (ownsRow_below (HR.out.alloc (.cells #[.int .i64 yk, .int .u8 yb, .int .i64 ybk, .int .i64 yo, .int .i64 yi, .bool late] 102)) hb5) k hil; have C2 := C1.out.later hb5; have x0 := C2.get 0 _ rfl; have x1 := C2.get 1 _ rfl; have x2 := C2.get 2 _ rfl; have x3 := C2.get 3 _ rfl; have x4 := C2.get 4 _ rfl; clear hb5 C2))
          have hset := wr_store (ownsRow_below (HR.out.alloc _) HB5.out) hil (seenAt st b (f + k))
          rw [HS.out, HY2.out] at hset
          have P1 := HP.out.alloc (.cells #[.int .i64 yk, .int .u8 yb, .int .i64 ybk, .int .i64 yo, .int .i64 yi, .bool late] 102)
          exact ⟨⟨_, hlt, by go_num, Past.setCells (Nat.le_refl _) (byC ⟨yk, yb, ybk, yo, yi⟩) (k * 5) (P1.trans ⟨P1.size, HB5.out.mono P1.size⟩), hset⟩, by simp [intOf]; omega⟩
    · obtain rfl : k = n := by omega
      go_wp2_with fail
      go_ret
      exact ⟨_, _, rfl, by rw [← snTo_all]; exact HR.out, HP.out.2⟩
end Go.Proofs.Ytkbkgbkoplcgeaa
