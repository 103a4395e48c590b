/- Package mem: address. -/
import Derived.Test.YtglkbnckfkliaaaMA
namespace Go.Proofs.Ytglkbnckfkliaaa
open Go.RowKit Go.Maps
set_option linter.unusedVariables false
set_option linter.unusedSimpArgs false

/-- A byte's five cells. -/
def ByAt (w : World) (a : Addr) (y : By) : Prop :=
  w.cell? a = some (.int .i64 y.k) ∧ w.cell? ⟨a.block, a.off + 1, none⟩ = some (.int .u8 y.b) ∧ w.cell? ⟨a.block, a.off + 2, none⟩ = some (.int .i64 y.bk) ∧ w.cell? ⟨a.block, a.off + 3, none⟩ = some (.int .i64 y.o) ∧ w.cell? ⟨a.block, a.off + 4, none⟩ = some (.int .i64 y.i)
/-- A row of bytes. -/
abbrev BysIn (B : Nat) (w : World) (p : Option Addr) (n c : Nat) (l : List By) : Prop := ListIn byC NoMem B w p n c l
theorem by_row {B : Nat} {w : World} {p : Option Addr} {n c : Nat} {l : List By} (h : BysIn B w p n c l) (i : Nat) (hi : i < l.length) :
    ∃ a, p = some a ∧ a.block < B ∧ ByAt w (a.add (i * 5)) l[i] := by
  have hr := h.2.2.2.1
  have hx : ∀ r u, (byC l[i])[r]? = some u → ∃ a, p = some a ∧ a.block < B ∧ w.cell? (a.add (i * 5 + r)) = some u := fun r u hu => by
    refine hr (i * 5 + r) u ?_
    rw [flat_get byC 5 byC_len l i hi r (by
      have := (List.getElem?_eq_some_iff.1 hu).1
      rwa [byC_len] at this)]
    exact hu
  obtain ⟨a, e, hb, h0⟩ := hx 0 _ rfl
  obtain ⟨a1, e1, _, h1⟩ := hx 1 _ rfl
  obtain ⟨a2, e2, _, h2⟩ := hx 2 _ rfl
  obtain ⟨a3, e3, _, h3⟩ := hx 3 _ rfl
  obtain ⟨a4, e4, _, h4⟩ := hx 4 _ rfl
  subst e
  cases e1; cases e2; cases e3; cases e4
  rw [add_add _ _ _ (by decide)] at h1 h2 h3 h4
  exact ⟨a, rfl, hb, h0, h1, h2, h3, h4⟩
theorem AdOk.step {l : List By} {bk o : Int} {n : Nat} (h : AdOk l bk o n) (hn : n < l.length) (h1 : l[n].k = 2) (h2 : l[n].bk = bk) (h3 : l[n].o = o) (h4 : l[n].i = n) : AdOk l bk o (n + 1) := fun j hj => by
  by_cases e : j = n
  · subst e; exact ⟨l[j], List.getElem?_eq_getElem hn, h1, h2, h3, h4⟩
  · exact h j (by omega)
theorem AdOk.not {l : List By} {bk o : Int} {m n : Nat} (hn : n < l.length) (hm : n < m) (h : l[n].k ≠ 2 ∨ l[n].bk ≠ bk ∨ l[n].o ≠ o ∨ l[n].i ≠ n) : ¬ AdOk l bk o m := fun x => by
  obtain ⟨y, e, h1, h2, h3, h4⟩ := x n hm
  rw [List.getElem?_eq_getElem hn] at e
  injection e with e
  subst e
  rcases h with h | h | h | h
  · exact h h1
  · exact h h2
  · exact h h3
  · exact h h4
open Classical in
noncomputable def addrV (l : List By) : Vl := if AdOk l (l.headD q0).bk (l.headD q0).o l.length then ⟨2, 0, (l.headD q0).bk, (l.headD q0).o⟩ else p0
set_option maxHeartbeats 2000000 in
theorem address_any (W : World) (p : Option Addr) (c : Nat) (l : List By) (h : BysIn W.heap.size W p l.length c l) (hl : 0 < l.length) :
    Calls Try.prog 26 #[.slice p l.length c] W fun e w' => e = .returned (addrV l).val ∧ Below W.heap.size W w' := by
  have b0 := bV0
  have b3 := bV3
  have hcap := h.2.1
  have hmx := h.2.2.1
  unfold maxLen at hmx
  have H := Lib.hid h
  obtain ⟨a, rfl, ha, hy0⟩ := by_row h 0 hl
  have eh : l.headD q0 = l[0] := by
    cases l with
    | nil => exact absurd hl (by simp)
    | cons x l => rfl
  obtain ⟨⟨xk, xn, xb, xo, xi⟩, e0⟩ : ∃ x, l[0] = x := ⟨_, rfl⟩
  have HA : Hid ((AdOk l xb xo l.length → addrV l = ⟨2, 0, xb, xo⟩) ∧ (¬ AdOk l xb xo l.length → addrV l = p0)) := Lib.hid (by
    unfold addrV
    rw [eh, e0]
    exact ⟨fun h => if_pos h, fun h => if_neg h⟩)
  have hy0' : ByAt W a ⟨xk, xn, xb, xo, xi⟩ := by
    have : a.add (0 * 5) = a := by rw [Nat.zero_mul]; exact add_zero a
    rwa [this, e0] at hy0
  have HY := Lib.hid hy0'
  have hP : Past (W.heap.size + 1) (W.alloc (.cells #[.int .i64 0, .int .u64 0, .int .i64 0, .int .i64 0] 24)) (W.alloc (.cells #[.int .i64 0, .int .u64 0, .int .i64 0, .int .i64 0] 24)) := Past.refl (by simp)
  have R0 : Box W.heap.size [.int .i64 0, .int .u64 0, .int .i64 0, .int .i64 0] (W.alloc (.cells #[.int .i64 0, .int .u64 0, .int .i64 0, .int .i64 0] 24)) := Box.new W rfl _ _
  have HR := Lib.hid R0
  clear h hy0 hy0' eh R0 e0
  go_enter Try.func26, Try.ntmps26
  go_wp2_with fail
  go_loopw [7] (fun t wr => ∃ k : Nat, k ≤ l.length ∧ t = .int .i64 k ∧ Past (W.heap.size + 1) (W.alloc (.cells #[.int .i64 0, .int .u64 0, .int .i64 0, .int .i64 0] 24)) wr ∧ AdOk l xb xo k) (fun t _ => l.length - (intOf t).toNat)
  case atStart => exact ⟨0, Nat.zero_le _, rfl, hP, fun j hj => absurd hj (Nat.not_lt_zero _)⟩
  case round =>
    obtain ⟨k, hk, rfl, hb, ho⟩ := hrel
    have hW : Past W.heap.size W wr := ((Past.refl (Nat.le_refl _)).alloc _).trans ⟨by simp, hb.2.mono (Nat.le_succ _)⟩
    obtain ⟨z0, z1, z2, z3, z4⟩ : ByAt wr a ⟨xk, xn, xb, xo, xi⟩ := by
      obtain ⟨h0, h1, h2, h3, h4⟩ := HY.out
      exact ⟨(hW.2.cell ha).trans h0, (hW.2.cell (p := ⟨a.block, a.off + 1, none⟩) ha).trans h1, (hW.2.cell (p := ⟨a.block, a.off + 2, none⟩) ha).trans h2, (hW.2.cell (p := ⟨a.block, a.off + 3, none⟩) ha).trans h3, (hW.2.cell (p := ⟨a.block, a.off + 4, none⟩) ha).trans h4⟩
    have hR := HR.out.below hb.2 (Nat.lt_succ_self _)
    have r0 := hR.get 0 _ rfl
    have r1 := hR.get 1 _ rfl
    have r2 := hR.get 2 _ rfl
    have r3 := hR.get 3 _ rfl
    have rf := hR.2.1
    have HP := Lib.hid hW
    have HB := Lib.hid hb
    have lt : a.block < wr.heap.size := Nat.lt_of_lt_of_le ha HP.out.2.size
    have lt2 : W.heap.size < wr.heap.size := by have := HP.out.2.size; have := HB.out.1; have := HB.out.2.size; simp at *; omega
    simp only at z2 z3
    clear hW hR hb z0 z1 z4
    by_cases hlt : k < l.length
    · obtain ⟨a', ea, _, hy⟩ := by_row H.out k hlt
      injection ea with ea
      subst ea
      obtain ⟨⟨yk, yb, ybk, yo, yi⟩, ek⟩ : ∃ x, l[k] = x := ⟨_, rfl⟩
      rw [ek] at hy
      obtain ⟨f0, f1, f2, f3, f4⟩ : ByAt wr (a.add (k * 5)) ⟨yk, yb, ybk, yo, yi⟩ := by
        obtain ⟨h0, h1, h2, h3, h4⟩ := hy
        have hab : (a.add (k * 5)).block < W.heap.size := by rw [add_block]; exact ha
        exact ⟨(HP.out.2.cell hab).trans h0, (HP.out.2.cell (p := ⟨(a.add (k * 5)).block, (a.add (k * 5)).off + 1, none⟩) hab).trans h1, (HP.out.2.cell (p := ⟨(a.add (k * 5)).block, (a.add (k * 5)).off + 2, none⟩) hab).trans h2, (HP.out.2.cell (p := ⟨(a.add (k * 5)).block, (a.add (k * 5)).off + 3, none⟩) hab).trans h3, (HP.out.2.cell (p := ⟨(a.add (k * 5)).block, (a.add (k * 5)).off + 4, none⟩) hab).trans h4⟩
      simp only at f0 f1 f2 f3 f4
      have HO : Hid (yk = 2 → ybk = xb → yo = xo → yi = k → AdOk l xb xo (k + 1)) := Lib.hid (fun h1 h2 h3 h4 => AdOk.step ho hlt (by rw [ek]; exact h1) (by rw [ek]; exact h2) (by rw [ek]; exact h3) (by rw [ek]; exact h4))
      have HN : Hid ((yk ≠ 2 ∨ ybk ≠ xb ∨ yo ≠ xo ∨ yi ≠ k) → ¬ AdOk l xb xo l.length) := Lib.hid (fun h => AdOk.not hlt hlt (by rw [ek]; exact h))
      clear hy ho ek
      by_cases hall : yk = 2 ∧ ybk = xb ∧ yo = xo ∧ yi = k
      · have HO2 : Hid (AdOk l xb xo (k + 1)) := Lib.hid (HO.out hall.1 hall.2.1 hall.2.2.1 hall.2.2.2)
        clear HN HO
        obtain ⟨rfl, rfl, rfl, rfl⟩ := hall
        go_wp2_with fail
        go_region
        go_wp2_with fail
        exact ⟨⟨_, hlt, by go_num, (HB.out.alloc _).drew, HO2.out⟩, by simp [intOf]; omega⟩
      · by_cases e1 : yk = 2
        · by_cases e2 : ybk = xb
          · by_cases e3 : yo = xo
            · have e4 : ¬ yi = k := fun x => hall ⟨e1, e2, e3, x⟩
              have HZ := Lib.hid (HA.out.2 (HN.out (.inr (.inr (.inr e4)))))
              have g4 : (yi != (k : Int)) = true := by simpa using e4
              subst e1 e2 e3
              clear hall e4 HO HN
              go_wp2_with fail
              go_region
              go_wp2_with fail
              rw [HZ.out]
              exact bodyPost_ret (v := .agg #[.int .i64 0, .int .u64 0, .int .i64 0, .int .i64 0]) (by simp [results, Try.results26, go_sem, *]) rfl ⟨rfl, (((((HP.out.set (Nat.le_refl _) _).set (Nat.le_refl _) _).set (Nat.le_refl _) _).set (Nat.le_refl _) _).alloc _).drew.2⟩
            · have HZ := Lib.hid (HA.out.2 (HN.out (.inr (.inr (.inl e3)))))
              have g4 : (yo != xo) = true := by simpa using e3
              subst e1 e2
              clear hall e3 HO HN
              go_wp2_with fail
              go_region
              go_wp2_with fail
              rw [HZ.out]
              exact bodyPost_ret (v := .agg #[.int .i64 0, .int .u64 0, .int .i64 0, .int .i64 0]) (by simp [results, Try.results26, go_sem, *]) rfl ⟨rfl, (((((HP.out.set (Nat.le_refl _) _).set (Nat.le_refl _) _).set (Nat.le_refl _) _).set (Nat.le_refl _) _).alloc _).drew.2⟩
          · have HZ := Lib.hid (HA.out.2 (HN.out (.inr (.inl e2))))
            have g4 : (ybk != xb) = true := by simpa using e2
            subst e1
            clear hall e2 HO HN
            go_wp2_with fail
            go_region
            go_wp2_with fail
            rw [HZ.out]
            exact bodyPost_ret (v := .agg #[.int .i64 0, .int .u64 0, .int .i64 0, .int .i64 0]) (by simp [results, Try.results26, go_sem, *]) rfl ⟨rfl, (((((HP.out.set (Nat.le_refl _) _).set (Nat.le_refl _) _).set (Nat.le_refl _) _).set (Nat.le_refl _) _).alloc _).drew.2⟩
        · have HZ := Lib.hid (HA.out.2 (HN.out (.inl e1)))
          have g4 : (yk != 2) = true := by simpa using e1
          clear hall e1 HO HN
          go_wp2_with fail
          go_region
          go_wp2_with fail
          rw [HZ.out]
          exact bodyPost_ret (v := .agg #[.int .i64 0, .int .u64 0, .int .i64 0, .int .i64 0]) (by simp [results, Try.results26, go_sem, *]) rfl ⟨rfl, (((((HP.out.set (Nat.le_refl _) _).set (Nat.le_refl _) _).set (Nat.le_refl _) _).set (Nat.le_refl _) _).alloc _).drew.2⟩
    · obtain rfl : k = l.length := by omega
      have HZ := Lib.hid (HA.out.1 ho)
      clear ho
      go_wp2_with fail
      go_region_law fail
      all_goals
        go_wp2_with fail
        rw [HZ.out]
        exact bodyPost_ret (v := .agg #[.int .i64 2, .int .u64 0, .int .i64 xb, .int .i64 xo]) (by simp [results, Try.results26, go_sem, *]) rfl ⟨rfl, ((((HP.out.drew.set (Nat.le_refl _) _).set (Nat.le_refl _) _).set (Nat.le_refl _) _).set (Nat.le_refl _) _).2⟩
end Go.Proofs.Ytglkbnckfkliaaa
