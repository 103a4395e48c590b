/- The document's Unpack. -/
import Derived.Test.YtkbkgbkoplcgeaaME
namespace Go.Proofs.Ytkbkgbkoplcgeaa
open Go.RowKit Go.Maps
set_option linter.unusedVariables false
set_option linter.unusedSimpArgs false

theorem hd_eq {l : List By} (h : 0 < l.length) : l.headD q0 = l[0] := by
  cases l with
  | nil => exact absurd h (by simp)
  | cons x l => rfl
theorem num_drop {l : List By} {m : Nat} (h : m < l.length) : num (l.drop m) = l[m].b + 256 * num (l.drop (m + 1)) := by rw [List.drop_eq_getElem_cons h]; rfl
theorem drop_ok {l : List By} (h : ∀ y ∈ l, y.ok) (m : Nat) : ∀ y ∈ l.drop m, y.ok := fun y hy => h y (List.mem_of_mem_drop hy)
theorem num_small {l : List By} (h : ∀ y ∈ l, y.ok) (hl : l.length ≤ 8) : 0 ≤ num l ∧ num l ≤ 18446744073709551615 := by
  have h1 := num_nonneg l h
  have h2 := num_lt l h
  have h3 := pw_le64 (n := 8 * l.length) (by omega)
  omega
theorem by_at {B : Nat} {W wr : World} {a : Addr} {y : By} (h : ByAt W a y) (hb : Below B W wr) (ha : a.block < B) : ByAt wr a y := by
  obtain ⟨h0, h1, h2, h3, h4⟩ := h
  exact ⟨(hb.cell ha).trans h0, (hb.cell (p := ⟨a.block, a.off + 1, none⟩) ha).trans h1, (hb.cell (p := ⟨a.block, a.off + 2, none⟩) ha).trans h2, (hb.cell (p := ⟨a.block, a.off + 3, none⟩) ha).trans h3, (hb.cell (p := ⟨a.block, a.off + 4, none⟩) ha).trans h4⟩
set_option maxHeartbeats 2000000 in
theorem rUnpack_addr (W : World) (p : Option Addr) (c : Nat) (l : List By) (h : BysIn W.heap.size W p l.length c l) (hl : l.length = 8) :
    Calls Try.prog 19 #[.int .i64 65, .slice p l.length c] W fun e w' => e = .returned (addrV l).val ∧ Below W.heap.size W w' := by
  have b0 := bV0
  have b3 := bV3
  have b5 := bB5
  have hcap := h.2.1
  have hmx := h.2.2.1
  unfold maxLen at hmx
  have H := Lib.hid h
  have hlen : Hid (0 < l.length) := Lib.hid (by omega)
  obtain ⟨a, rfl, ha, hy0⟩ := by_row h 0 hlen.out
  have eh := hd_eq hlen.out
  obtain ⟨⟨xk, xn, xb, xo, xi⟩, e0⟩ : ∃ x, l[0]'hlen.out = x := ⟨_, rfl⟩
  have HA : Hid ((AdOk l xb xo l.length → addrV l = ⟨2, 0, xb, xo⟩) ∧ (¬ AdOk l xb xo l.length → addrV l = p0)) := Lib.hid (by
    unfold addrV
    rw [eh, e0]
    exact ⟨fun h => if_pos h, fun h => if_neg h⟩)
  have hy0' : ByAt W a ⟨xk, xn, xb, xo, xi⟩ := by
    have : a.add (0 * 5) = a := by rw [Nat.zero_mul]; exact add_zero a
    rwa [this, e0] at hy0
  have HY := Lib.hid hy0'
  have hP : Past (W.heap.size + 1) (W.alloc (.cells #[.int .i64 0, .int .u64 0, .int .i64 0, .int .i64 0] 24)) (W.alloc (.cells #[.int .i64 0, .int .u64 0, .int .i64 0, .int .i64 0] 24)) := Past.refl (by simp)
  have R0 : Box W.heap.size [.int .i64 0, .int .u64 0, .int .i64 0, .int .i64 0] (W.alloc (.cells #[.int .i64 0, .int .u64 0, .int .i64 0, .int .i64 0] 24)) := Box.new W rfl _ _
  have HR := Lib.hid R0
  have c1 : ∀ w, Calls Try.prog 44 #[.int .i64 65] w fun e w' => e = .returned (.int .i64 8) ∧ w = w' := fun w => rCount_any 65 w
  have hl8 : (l.length : Int) = 8 := by omega
  have HL := Lib.hid hl
  have hd : ((8 : Int) != (l.length : Int)) = false := by rw [hl8]; rfl
  clear h hy0 hy0' eh R0 e0 hl
  go_enter Try.func19, Try.ntmps19
  go_wp2_with (first
    | ((with_reducible refine (c1 _).mono ?_); rintro e w' ⟨rfl, rfl⟩))
  go_loopw [6] (fun t wr => ∃ k : Nat, k ≤ l.length ∧ t = .int .i64 k ∧ Past (W.heap.size + 1) (W.alloc (.cells #[.int .i64 0, .int .u64 0, .int .i64 0, .int .i64 0] 24)) wr ∧ AdOk l xb xo k) (fun t _ => l.length - (intOf t).toNat)
  case atStart => exact ⟨0, Nat.zero_le _, rfl, hP, fun j hj => absurd hj (Nat.not_lt_zero _)⟩
  case round =>
    obtain ⟨k, hk, rfl, hb, ho⟩ := hrel
    have hW : Past W.heap.size W wr := ((Past.refl (Nat.le_refl _)).alloc _).trans ⟨by simp, hb.2.mono (Nat.le_succ _)⟩
    obtain ⟨z0, z1, z2, z3, z4⟩ : ByAt wr a ⟨xk, xn, xb, xo, xi⟩ := by_at HY.out hW.2 ha
    have hR := HR.out.below hb.2 (Nat.lt_succ_self _)
    have r0 := hR.get 0 _ rfl
    have r1 := hR.get 1 _ rfl
    have r2 := hR.get 2 _ rfl
    have r3 := hR.get 3 _ rfl
    have rf := hR.2.1
    have HP := Lib.hid hW
    have HB := Lib.hid hb
    simp only at z2 z3
    clear hW hR hb z0 z1 z4
    by_cases hlt : k < l.length
    · obtain ⟨a', ea, _, hy⟩ := by_row H.out k hlt
      injection ea with ea
      subst ea
      obtain ⟨⟨yk, yb, ybk, yo, yi⟩, ek⟩ : ∃ x, l[k] = x := ⟨_, rfl⟩
      rw [ek] at hy
      obtain ⟨f0, f1, f2, f3, f4⟩ : ByAt wr (a.add (k * 5)) ⟨yk, yb, ybk, yo, yi⟩ := by_at hy HP.out.2 (by rw [add_block]; exact ha)
      simp only at f0 f1 f2 f3 f4
      have HO : Hid (yk = 2 → ybk = xb → yo = xo → yi = k → AdOk l xb xo (k + 1)) := Lib.hid (fun h1 h2 h3 h4 => AdOk.step ho hlt (by rw [ek]; exact h1) (by rw [ek]; exact h2) (by rw [ek]; exact h3) (by rw [ek]; exact h4))
      have HN : Hid ((yk ≠ 2 ∨ ybk ≠ xb ∨ yo ≠ xo ∨ yi ≠ k) → ¬ AdOk l xb xo l.length) := Lib.hid (fun h => AdOk.not hlt hlt (by rw [ek]; exact h))
      have hlt8 : (k : Int) < 8 := by omega
      clear hy ho ek
      by_cases e1 : yk = 2
      · by_cases e2 : ybk = xb
        · by_cases e3 : yo = xo
          · by_cases e4 : yi = k
            · have HO2 : Hid (AdOk l xb xo (k + 1)) := Lib.hid (HO.out e1 e2 e3 e4)
              clear HN HO
              subst e1 e2 e3 e4
              go_wp2_with fail
              go_region
              go_wp2_with fail
              exact ⟨⟨_, hlt, by go_num, HB.out.drew, HO2.out⟩, by simp [intOf]; omega⟩
            · have HZ := Lib.hid (HA.out.2 (HN.out (.inr (.inr (.inr e4)))))
              subst e1 e2 e3
              clear HO HN
              go_wp2_with fail
              go_region
              go_wp2_with fail
              rw [HZ.out]
              exact bodyPost_ret (v := .agg #[.int .i64 0, .int .u64 0, .int .i64 0, .int .i64 0]) (by simp [results, Try.results19, go_sem, *]) rfl ⟨rfl, ((((HP.out.drew.set (Nat.le_refl _) _).set (Nat.le_refl _) _).set (Nat.le_refl _) _).set (Nat.le_refl _) _).2⟩
          · have HZ := Lib.hid (HA.out.2 (HN.out (.inr (.inr (.inl e3)))))
            subst e1 e2
            clear HO HN
            go_wp2_with fail
            go_region
            go_wp2_with fail
            rw [HZ.out]
            exact bodyPost_ret (v := .agg #[.int .i64 0, .int .u64 0, .int .i64 0, .int .i64 0]) (by simp [results, Try.results19, go_sem, *]) rfl ⟨rfl, ((((HP.out.drew.set (Nat.le_refl _) _).set (Nat.le_refl _) _).set (Nat.le_refl _) _).set (Nat.le_refl _) _).2⟩
        · have HZ := Lib.hid (HA.out.2 (HN.out (.inr (.inl e2))))
          subst e1
          clear HO HN
          go_wp2_with fail
          go_region
          go_wp2_with fail
          rw [HZ.out]
          exact bodyPost_ret (v := .agg #[.int .i64 0, .int .u64 0, .int .i64 0, .int .i64 0]) (by simp [results, Try.results19, go_sem, *]) rfl ⟨rfl, ((((HP.out.drew.set (Nat.le_refl _) _).set (Nat.le_refl _) _).set (Nat.le_refl _) _).set (Nat.le_refl _) _).2⟩
      · have HZ := Lib.hid (HA.out.2 (HN.out (.inl e1)))
        clear HO HN
        go_wp2_with fail
        go_region
        go_wp2_with fail
        rw [HZ.out]
        exact bodyPost_ret (v := .agg #[.int .i64 0, .int .u64 0, .int .i64 0, .int .i64 0]) (by simp [results, Try.results19, go_sem, *]) rfl ⟨rfl, ((((HP.out.drew.set (Nat.le_refl _) _).set (Nat.le_refl _) _).set (Nat.le_refl _) _).set (Nat.le_refl _) _).2⟩
    · obtain rfl : k = l.length := by omega
      have HZ := Lib.hid (HA.out.1 ho)
      clear ho
      go_wp2_with fail
      go_region_law fail
      all_goals
        go_wp2_with fail
        rw [HZ.out]
        exact bodyPost_ret (v := .agg #[.int .i64 2, .int .u64 0, .int .i64 xb, .int .i64 xo]) (by simp [results, Try.results19, go_sem, *]) rfl ⟨rfl, ((((HP.out.drew.set (Nat.le_refl _) _).set (Nat.le_refl _) _).set (Nat.le_refl _) _).set (Nat.le_refl _) _).2⟩
end Go.Proofs.Ytkbkgbkoplcgeaa
