/- The document's eval (latheref10): Eval: of conversions. -/
import Derived.Test.YtpjfkmaceaikbaaReKM
namespace Go.Proofs.Ytpjfkmaceaikbaa
open Go.RowKit Go.Maps
set_option linter.unusedVariables false
set_option linter.unusedSimpArgs false
set_option maxRecDepth 100000
set_option maxHeartbeats 2000000

theorem rEval_con20_n (rg ty n fl : Int) (ap : Option Addr) (al ac : Nat) (tp : Option Addr) (tl tc : Nat) (p : Option Addr) (c : Nat) (l zs : List Vl) (hlm : l.length = 1) (hzl : zs.length = 1) (t : Nat → Int)
    (cS : ∀ W, Calls Try.prog 25 #[.agg #[.int .i64 20, .int .i64 rg, .int .i64 ty, .int .i64 n, .int .i64 fl, .slice ap al ac, .slice tp tl tc], .int .i64 1] W fun e w' => e = .returned (.bool true) ∧ Below W.heap.size W w')
    (cW : ∀ (i : Nat) W, Calls Try.prog 27 #[.agg #[.int .i64 20, .int .i64 rg, .int .i64 ty, .int .i64 n, .int .i64 fl, .slice ap al ac, .slice tp tl tc], .int .i64 i] W fun e w' => e = .returned (.int .i64 (t i)) ∧ Below W.heap.size W w')
    (cN : ∀ (i : Nat) (v z : Vl), l[i]? = some v → zs[i]? = some z → ∀ W, Calls Try.prog 26 #[.int .i64 (t i), v.val] W fun e w' => e = .returned z.val ∧ Below W.heap.size W w')
     (ak ab abk ao : Int) (hk : (ak != 1) = true) (ez : zs = [⟨ak, ab, abk, ao⟩])
    (W : World) (hl : VlsIn W.heap.size W p 1 c l) :
    Calls Try.prog 14 #[.agg #[.int .i64 20, .int .i64 rg, .int .i64 ty, .int .i64 n, .int .i64 fl, .slice ap al ac, .slice tp tl tc], .slice p 1 c] W fun e w' => e = .returned (.tuple #[.agg #[.int .i64 ak, .int .u64 ab, .int .i64 abk, .int .i64 ao], .int .i64 0]) ∧ Below W.heap.size W w' := by
  have HZ := Lib.hid ez
  clear ez
  have b0 := bV0
  have F := (((Fr.start W)).push (g := W.heap.size) (by simp) [.int .i64 20, .int .i64 rg, .int .i64 ty, .int .i64 n, .int .i64 fl, .slice ap al ac, .slice tp tl tc] 25).push (g := W.heap.size + 1) (by simp) [.int .i64 0, .int .u64 0, .int .i64 0, .int .i64 0] 35
  have G := Lib.hid F
  clear F
  have H := Lib.hid hl
  have hc1 := hl.2.1
  have hc2 := hl.2.2.1
  unfold maxLen at hc2
  have S0 : Hid (St W.heap.size W (As.and (rw' W.heap.size 35 4 vlC none 0 0 (zs.take 0)) (As.and (bx (W.heap.size + 1) [.int .i64 0, .int .u64 0, .int .i64 0, .int .i64 0]) (As.and (bx W.heap.size [.int .i64 20, .int .i64 rg, .int .i64 ty, .int .i64 n, .int .i64 fl, .slice ap al ac, .slice tp tl tc]) As.emp))) ((W.alloc (.cells #[.int .i64 20, .int .i64 rg, .int .i64 ty, .int .i64 n, .int .i64 fl, .slice ap al ac, .slice tp tl tc] 25)).alloc (.cells #[.int .i64 0, .int .u64 0, .int .i64 0, .int .i64 0] 35))) := Lib.hid ((((St.start W).push (g := W.heap.size) rfl [.int .i64 20, .int .i64 rg, .int .i64 ty, .int .i64 n, .int .i64 fl, .slice ap al ac, .slice tp tl tc] 25).push (g := W.heap.size + 1) (by simp) [.int .i64 0, .int .u64 0, .int .i64 0, .int .i64 0] 35).imp ⟨fun w x => ⟨rw_nil w, x⟩, fun k => by simp only [As.and_c, rw_c, cR]; omega⟩)
  obtain ⟨iV, hiV⟩ := info_parts infoVal
  have HI := Lib.hid hiV
  clear hl hiV
  go_enter Try.func14, Try.ntmps14
  go_wp2_with (first
    | ((with_reducible refine (cS _).mono ?_); rintro e w1 ⟨rfl, hb⟩; have F := G.out.later hb; (try clear i0 i1 i2 i3 i4 i5 i6 r0 r1 r2 r3 rf); obtain ⟨i0, i1, i2, i3, i4, i5, i6⟩ := F.c7 1 rfl; obtain ⟨r0, r1, r2, r3, rf⟩ := F.c4 0 rfl; replace G := Lib.hid F; have S1 := Lib.hid (S0.out.later hb); clear F hb))
  clear cS S0
  go_loopw [7, 8] (fun s u wr => ∃ (k : Nat) (q : Option Addr) (d : Nat), k ≤ 1 ∧ s = .slice q k d ∧ u = .int .i64 k ∧ St W.heap.size W (As.and (rw' W.heap.size 35 4 vlC q k d (zs.take k)) (As.and (bx (W.heap.size + 1) [.int .i64 0, .int .u64 0, .int .i64 0, .int .i64 0]) (As.and (bx W.heap.size [.int .i64 20, .int .i64 rg, .int .i64 ty, .int .i64 n, .int .i64 fl, .slice ap al ac, .slice tp tl tc]) As.emp))) wr) (fun _ u _ => 1 - (intOf u).toNat)
  case atStart => exact ⟨0, none, 0, Nat.zero_le _, rfl, rfl, S1.out⟩
  case round =>
    clear S1 G i0 i1 i2 i3 i4 i5 i6 r0 r1 r2 r3 rf
    obtain ⟨k, q, d, hk, rfl, rfl, hS⟩ := hrel
    have hb0 : Box W.heap.size [.int .i64 20, .int .i64 rg, .int .i64 ty, .int .i64 n, .int .i64 fl, .slice ap al ac, .slice tp tl tc] wr := hS.sat.2.2.1
    have hb1 : Box (W.heap.size + 1) [.int .i64 0, .int .u64 0, .int .i64 0, .int .i64 0] wr := hS.sat.2.1
    have i0 := hb0.get 0 _ rfl
    have i1 := hb0.get 1 _ rfl
    have i2 := hb0.get 2 _ rfl
    have i3 := hb0.get 3 _ rfl
    have i4 := hb0.get 4 _ rfl
    have i5 := hb0.get 5 _ rfl
    have i6 := hb0.get 6 _ rfl
    have r0 := hb1.get 0 _ rfl
    have r1 := hb1.get 1 _ rfl
    have r2 := hb1.get 2 _ rfl
    have r3 := hb1.get 3 _ rfl
    have rf := hb1.2.1
    clear hb0 hb1
    by_cases hkm : k < 1
    · have hlk : l[k]? = some l[k] := List.getElem?_eq_getElem (by omega)
      have hzk : zs[k]? = some zs[k] := List.getElem?_eq_getElem (by omega)
      have cNk := cN k _ _ hlk hzk
      have cWk := cW k
      have hkl : k < l.length := by omega
      obtain ⟨a, rfl, ha, hy⟩ := vl_row H.out k hkl
      obtain ⟨tk, etk⟩ : ∃ x, t k = x := ⟨_, rfl⟩
      rw [etk] at cNk cWk
      obtain ⟨⟨vk, vb, vbk, vo⟩, ev⟩ : ∃ v, l[k] = v := ⟨_, rfl⟩
      obtain ⟨⟨yk, yb, ybk, yo⟩, ez⟩ : ∃ v, zs[k] = v := ⟨_, rfl⟩
      rw [ev, ez] at cNk
      rw [ev] at hy
      have ha' : (a.add (k * 4)).block < W.heap.size := by rw [add_block]; exact ha
      have ha2 : a.block < W.heap.size := ha
      obtain ⟨f0, f1, f2, f3⟩ := VlAt.below hy hS.below ha'
      simp only at f0 f1 f2 f3
      have HY := Lib.hid (And.intro hy ha')
      have hlen : (zs.take k).length = k := by rw [List.length_take]; omega
      have hnx : zs.take k ++ [⟨yk, yb, ybk, yo⟩] = zs.take (k + 1) := by rw [List.take_add_one, hzk, ez]; rfl
      have HS := Lib.hid hS
      have HL := Lib.hid (And.intro hlen (And.intro hnx hk))
      have awr := Nat.lt_of_lt_of_le ha hS.below.size
      clear hS hlk hzk ev ez etk hlen hnx hy ha' cN cW
      replace cNk : ∀ W, Calls Try.prog 26 #[.int .i64 tk, .agg #[.int .i64 vk, .int .u64 vb, .int .i64 vbk, .int .i64 vo]] W fun e w' => e = .returned (.agg #[.int .i64 yk, .int .u64 yb, .int .i64 ybk, .int .i64 yo]) ∧ Below W.heap.size W w' := cNk
      go_wp2_with fail
      go_region_law (first
        | (refine step_app rfl (.tmp 24) (.tmp 33) 33 rfl iV _ 32 Try.underlying33 HI.out.1 HI.out.2.1 HI.out.2.2.1 HI.out.2.2.2 rfl (by decide) rfl (HS3.out.alloc _) ⟨yk, yb, ybk, yo⟩ _ 1 rfl rfl (lit_cells w6 _ _) (vlC_one _) (by have := HL.out.1; unfold maxLen; omega) (by have := HL.out.1; omega) ?_; intro p' c' w' hS')
        | (go_simp; (with_reducible refine (cWk _).mono ?_); rintro e w5 ⟨rfl, hb⟩; have HS2 := Lib.hid (HS.out.drew.later hb); obtain ⟨g0, g1, g2, g3⟩ := VlAt.below HY.out.1 HS2.out.below HY.out.2; clear hb)
        | (go_simp; (with_reducible refine (cNk _).mono ?_); rintro e w6 ⟨rfl, hb⟩; have HS3 := Lib.hid (HS2.out.later hb); clear hb))
      all_goals
        have hS9 : Hid (St W.heap.size W (As.and (rw' W.heap.size 35 4 vlC p' (k + 1) c' (zs.take (k + 1))) (As.and (bx (W.heap.size + 1) [.int .i64 0, .int .u64 0, .int .i64 0, .int .i64 0]) (As.and (bx W.heap.size [.int .i64 20, .int .i64 rg, .int .i64 ty, .int .i64 n, .int .i64 fl, .slice ap al ac, .slice tp tl tc]) As.emp))) w') := Lib.hid (by have h := hS'; rw [HL.out.1, HL.out.2.1] at h; exact h)
        clear hS' HS HS2 HS3
        go_wp2_with fail
        exact ⟨⟨k + 1, _, _, by omega, by first | rfl | rw [HL.out.1], by go_num, hS9.out⟩, by simp [intOf]; omega⟩
    · obtain rfl : k = 1 := by omega
      clear cN cW hkm hk
      rw [List.take_of_length_le (by omega)] at hS
      have hrow := hS.sat.1
      rw [HZ.out] at hrow
      obtain ⟨R, rfl, hB, hR, -, -, hx0⟩ := row_cell hrow vlC_len 0 (by simp)
      have hd : (1 : Nat) ≤ d := by have := hrow.2; have h2 := row_cell hrow vlC_len 0 (by simp); obtain ⟨_, _, _, _, h3, _⟩ := h2; simpa using h3
      have q00 : wr.cell? ⟨R, 0, none⟩ = some (.int .i64 ak) := hx0 0 (by decide)
      have q01 : wr.cell? ⟨R, 1, none⟩ = some (.int .u64 ab) := hx0 1 (by decide)
      have q02 : wr.cell? ⟨R, 2, none⟩ = some (.int .i64 abk) := hx0 2 (by decide)
      have q03 : wr.cell? ⟨R, 3, none⟩ = some (.int .i64 ao) := hx0 3 (by decide)
      have F0 : Fr W [(W.heap.size + 1, [.int .i64 0, .int .u64 0, .int .i64 0, .int .i64 0])] wr := ⟨hS.below, fun x hx => by simp only [List.mem_cons, List.not_mem_nil, or_false] at hx; subst hx; exact ⟨Nat.le_succ _, hS.sat.2.1⟩⟩
      have G0 := Lib.hid F0
      clear hS hrow F0 hB hx0
      go_wp2_with fail
      exact bodyPost_ret (v := .tuple #[.agg #[.int .i64 ak, .int .u64 ab, .int .i64 abk, .int .i64 ao], .int .i64 0]) (by simp [results, Try.results14, go_sem, *]) rfl ⟨rfl, G0.out.set4 0 rfl _ _ _ _⟩
theorem rEval_con20_1 (rg ty n fl : Int) (ap : Option Addr) (al ac : Nat) (tp : Option Addr) (tl tc : Nat) (p : Option Addr) (c : Nat) (l zs : List Vl) (hlm : l.length = 1) (hzl : zs.length = 1) (t : Nat → Int)
    (cS : ∀ W, Calls Try.prog 25 #[.agg #[.int .i64 20, .int .i64 rg, .int .i64 ty, .int .i64 n, .int .i64 fl, .slice ap al ac, .slice tp tl tc], .int .i64 1] W fun e w' => e = .returned (.bool true) ∧ Below W.heap.size W w')
    (cW : ∀ (i : Nat) W, Calls Try.prog 27 #[.agg #[.int .i64 20, .int .i64 rg, .int .i64 ty, .int .i64 n, .int .i64 fl, .slice ap al ac, .slice tp tl tc], .int .i64 i] W fun e w' => e = .returned (.int .i64 (t i)) ∧ Below W.heap.size W w')
    (cN : ∀ (i : Nat) (v z : Vl), l[i]? = some v → zs[i]? = some z → ∀ W, Calls Try.prog 26 #[.int .i64 (t i), v.val] W fun e w' => e = .returned z.val ∧ Below W.heap.size W w')
     (ab abk ao r : Int) (rb : Bool) (ez : zs = [⟨1, ab, abk, ao⟩]) (cC : ∀ W, Calls Try.prog 32 #[.int .i64 20, .int .i64 n, .int .i64 ty, .int .u64 ab] W fun e w' => e = .returned (.tuple #[.int .u64 r, .bool rb]) ∧ Below W.heap.size W w') (cX : ∀ W, Calls Try.prog 33 #[.int .u64 r] W fun e w' => e = .returned (.agg #[.int .i64 1, .int .u64 r, .int .i64 0, .int .i64 0]) ∧ Below W.heap.size W w')
    (W : World) (hl : VlsIn W.heap.size W p 1 c l) :
    Calls Try.prog 14 #[.agg #[.int .i64 20, .int .i64 rg, .int .i64 ty, .int .i64 n, .int .i64 fl, .slice ap al ac, .slice tp tl tc], .slice p 1 c] W fun e w' => e = .returned (.tuple #[.agg #[.int .i64 1, .int .u64 r, .int .i64 0, .int .i64 0], .int .i64 0]) ∧ Below W.heap.size W w' := by
  have HZ := Lib.hid ez
  clear ez
  have b0 := bV0
  have F := (((Fr.start W)).push (g := W.heap.size) (by simp) [.int .i64 20, .int .i64 rg, .int .i64 ty, .int .i64 n, .int .i64 fl, .slice ap al ac, .slice tp tl tc] 25).push (g := W.heap.size + 1) (by simp) [.int .i64 0, .int .u64 0, .int .i64 0, .int .i64 0] 35
  have G := Lib.hid F
  clear F
  have H := Lib.hid hl
  have hc1 := hl.2.1
  have hc2 := hl.2.2.1
  unfold maxLen at hc2
  have S0 : Hid (St W.heap.size W (As.and (rw' W.heap.size 35 4 vlC none 0 0 (zs.take 0)) (As.and (bx (W.heap.size + 1) [.int .i64 0, .int .u64 0, .int .i64 0, .int .i64 0]) (As.and (bx W.heap.size [.int .i64 20, .int .i64 rg, .int .i64 ty, .int .i64 n, .int .i64 fl, .slice ap al ac, .slice tp tl tc]) As.emp))) ((W.alloc (.cells #[.int .i64 20, .int .i64 rg, .int .i64 ty, .int .i64 n, .int .i64 fl, .slice ap al ac, .slice tp tl tc] 25)).alloc (.cells #[.int .i64 0, .int .u64 0, .int .i64 0, .int .i64 0] 35))) := Lib.hid ((((St.start W).push (g := W.heap.size) rfl [.int .i64 20, .int .i64 rg, .int .i64 ty, .int .i64 n, .int .i64 fl, .slice ap al ac, .slice tp tl tc] 25).push (g := W.heap.size + 1) (by simp) [.int .i64 0, .int .u64 0, .int .i64 0, .int .i64 0] 35).imp ⟨fun w x => ⟨rw_nil w, x⟩, fun k => by simp only [As.and_c, rw_c, cR]; omega⟩)
  obtain ⟨iV, hiV⟩ := info_parts infoVal
  have HI := Lib.hid hiV
  clear hl hiV
  go_enter Try.func14, Try.ntmps14
  go_wp2_with (first
    | ((with_reducible refine (cS _).mono ?_); rintro e w1 ⟨rfl, hb⟩; have F := G.out.later hb; (try clear i0 i1 i2 i3 i4 i5 i6 r0 r1 r2 r3 rf); obtain ⟨i0, i1, i2, i3, i4, i5, i6⟩ := F.c7 1 rfl; obtain ⟨r0, r1, r2, r3, rf⟩ := F.c4 0 rfl; replace G := Lib.hid F; have S1 := Lib.hid (S0.out.later hb); clear F hb))
  clear cS S0
  go_loopw [7, 8] (fun s u wr => ∃ (k : Nat) (q : Option Addr) (d : Nat), k ≤ 1 ∧ s = .slice q k d ∧ u = .int .i64 k ∧ St W.heap.size W (As.and (rw' W.heap.size 35 4 vlC q k d (zs.take k)) (As.and (bx (W.heap.size + 1) [.int .i64 0, .int .u64 0, .int .i64 0, .int .i64 0]) (As.and (bx W.heap.size [.int .i64 20, .int .i64 rg, .int .i64 ty, .int .i64 n, .int .i64 fl, .slice ap al ac, .slice tp tl tc]) As.emp))) wr) (fun _ u _ => 1 - (intOf u).toNat)
  case atStart => exact ⟨0, none, 0, Nat.zero_le _, rfl, rfl, S1.out⟩
  case round =>
    clear S1 G i0 i1 i2 i3 i4 i5 i6 r0 r1 r2 r3 rf
    obtain ⟨k, q, d, hk, rfl, rfl, hS⟩ := hrel
    have hb0 : Box W.heap.size [.int .i64 20, .int .i64 rg, .int .i64 ty, .int .i64 n, .int .i64 fl, .slice ap al ac, .slice tp tl tc] wr := hS.sat.2.2.1
    have hb1 : Box (W.heap.size + 1) [.int .i64 0, .int .u64 0, .int .i64 0, .int .i64 0] wr := hS.sat.2.1
    have i0 := hb0.get 0 _ rfl
    have i1 := hb0.get 1 _ rfl
    have i2 := hb0.get 2 _ rfl
    have i3 := hb0.get 3 _ rfl
    have i4 := hb0.get 4 _ rfl
    have i5 := hb0.get 5 _ rfl
    have i6 := hb0.get 6 _ rfl
    have r0 := hb1.get 0 _ rfl
    have r1 := hb1.get 1 _ rfl
    have r2 := hb1.get 2 _ rfl
    have r3 := hb1.get 3 _ rfl
    have rf := hb1.2.1
    clear hb0 hb1
    by_cases hkm : k < 1
    · have hlk : l[k]? = some l[k] := List.getElem?_eq_getElem (by omega)
      have hzk : zs[k]? = some zs[k] := List.getElem?_eq_getElem (by omega)
      have cNk := cN k _ _ hlk hzk
      have cWk := cW k
      have hkl : k < l.length := by omega
      obtain ⟨a, rfl, ha, hy⟩ := vl_row H.out k hkl
      obtain ⟨tk, etk⟩ : ∃ x, t k = x := ⟨_, rfl⟩
      rw [etk] at cNk cWk
      obtain ⟨⟨vk, vb, vbk, vo⟩, ev⟩ : ∃ v, l[k] = v := ⟨_, rfl⟩
      obtain ⟨⟨yk, yb, ybk, yo⟩, ez⟩ : ∃ v, zs[k] = v := ⟨_, rfl⟩
      rw [ev, ez] at cNk
      rw [ev] at hy
      have ha' : (a.add (k * 4)).block < W.heap.size := by rw [add_block]; exact ha
      have ha2 : a.block < W.heap.size := ha
      obtain ⟨f0, f1, f2, f3⟩ := VlAt.below hy hS.below ha'
      simp only at f0 f1 f2 f3
      have HY := Lib.hid (And.intro hy ha')
      have hlen : (zs.take k).length = k := by rw [List.length_take]; omega
      have hnx : zs.take k ++ [⟨yk, yb, ybk, yo⟩] = zs.take (k + 1) := by rw [List.take_add_one, hzk, ez]; rfl
      have HS := Lib.hid hS
      have HL := Lib.hid (And.intro hlen (And.intro hnx hk))
      have awr := Nat.lt_of_lt_of_le ha hS.below.size
      clear hS hlk hzk ev ez etk hlen hnx hy ha' cN cW
      replace cNk : ∀ W, Calls Try.prog 26 #[.int .i64 tk, .agg #[.int .i64 vk, .int .u64 vb, .int .i64 vbk, .int .i64 vo]] W fun e w' => e = .returned (.agg #[.int .i64 yk, .int .u64 yb, .int .i64 ybk, .int .i64 yo]) ∧ Below W.heap.size W w' := cNk
      go_wp2_with fail
      go_region_law (first
        | (refine step_app rfl (.tmp 24) (.tmp 33) 33 rfl iV _ 32 Try.underlying33 HI.out.1 HI.out.2.1 HI.out.2.2.1 HI.out.2.2.2 rfl (by decide) rfl (HS3.out.alloc _) ⟨yk, yb, ybk, yo⟩ _ 1 rfl rfl (lit_cells w6 _ _) (vlC_one _) (by have := HL.out.1; unfold maxLen; omega) (by have := HL.out.1; omega) ?_; intro p' c' w' hS')
        | (go_simp; (with_reducible refine (cWk _).mono ?_); rintro e w5 ⟨rfl, hb⟩; have HS2 := Lib.hid (HS.out.drew.later hb); obtain ⟨g0, g1, g2, g3⟩ := VlAt.below HY.out.1 HS2.out.below HY.out.2; clear hb)
        | (go_simp; (with_reducible refine (cNk _).mono ?_); rintro e w6 ⟨rfl, hb⟩; have HS3 := Lib.hid (HS2.out.later hb); clear hb))
      all_goals
        have hS9 : Hid (St W.heap.size W (As.and (rw' W.heap.size 35 4 vlC p' (k + 1) c' (zs.take (k + 1))) (As.and (bx (W.heap.size + 1) [.int .i64 0, .int .u64 0, .int .i64 0, .int .i64 0]) (As.and (bx W.heap.size [.int .i64 20, .int .i64 rg, .int .i64 ty, .int .i64 n, .int .i64 fl, .slice ap al ac, .slice tp tl tc]) As.emp))) w') := Lib.hid (by have h := hS'; rw [HL.out.1, HL.out.2.1] at h; exact h)
        clear hS' HS HS2 HS3
        go_wp2_with fail
        exact ⟨⟨k + 1, _, _, by omega, by first | rfl | rw [HL.out.1], by go_num, hS9.out⟩, by simp [intOf]; omega⟩
    · obtain rfl : k = 1 := by omega
      clear cN cW hkm hk
      rw [List.take_of_length_le (by omega)] at hS
      have hrow := hS.sat.1
      rw [HZ.out] at hrow
      obtain ⟨R, rfl, hB, hR, -, -, hx0⟩ := row_cell hrow vlC_len 0 (by simp)
      have hd : (1 : Nat) ≤ d := by have := hrow.2; have h2 := row_cell hrow vlC_len 0 (by simp); obtain ⟨_, _, _, _, h3, _⟩ := h2; simpa using h3
      have q00 : wr.cell? ⟨R, 0, none⟩ = some (.int .i64 1) := hx0 0 (by decide)
      have q01 : wr.cell? ⟨R, 1, none⟩ = some (.int .u64 ab) := hx0 1 (by decide)
      have q02 : wr.cell? ⟨R, 2, none⟩ = some (.int .i64 abk) := hx0 2 (by decide)
      have q03 : wr.cell? ⟨R, 3, none⟩ = some (.int .i64 ao) := hx0 3 (by decide)
      have F0 : Fr W [(W.heap.size + 1, [.int .i64 0, .int .u64 0, .int .i64 0, .int .i64 0])] wr := ⟨hS.below, fun x hx => by simp only [List.mem_cons, List.not_mem_nil, or_false] at hx; subst hx; exact ⟨Nat.le_succ _, hS.sat.2.1⟩⟩
      have G0 := Lib.hid F0
      clear hS hrow F0 hB hx0
      go_wp2_with fail
      go_region_law (first
        | (go_simp; (with_reducible refine (cC _).mono ?_); rintro e w4 ⟨rfl, hb⟩; have F := G0.out.drew.later hb; obtain ⟨s0, s1, s2, s3, sf⟩ := F.c4 0 rfl; have G1 := Lib.hid F; clear F hb))
      all_goals
        go_wp2_with ((with_reducible refine (cX _).mono ?_); rintro e w5 ⟨rfl, hb⟩; have F := G1.out.later hb; obtain ⟨u0, u1, u2, u3, uf⟩ := F.c4 0 rfl; have G2 := Lib.hid F; clear F hb)
        exact bodyPost_ret (v := .tuple #[.agg #[.int .i64 1, .int .u64 r, .int .i64 0, .int .i64 0], .int .i64 0]) (by simp [results, Try.results14, go_sem, *]) rfl ⟨rfl, G2.out.set4 0 rfl _ _ _ _⟩
theorem rEval_con21_n (rg ty n fl : Int) (ap : Option Addr) (al ac : Nat) (tp : Option Addr) (tl tc : Nat) (p : Option Addr) (c : Nat) (l zs : List Vl) (hlm : l.length = 1) (hzl : zs.length = 1) (t : Nat → Int)
    (cS : ∀ W, Calls Try.prog 25 #[.agg #[.int .i64 21, .int .i64 rg, .int .i64 ty, .int .i64 n, .int .i64 fl, .slice ap al ac, .slice tp tl tc], .int .i64 1] W fun e w' => e = .returned (.bool true) ∧ Below W.heap.size W w')
    (cW : ∀ (i : Nat) W, Calls Try.prog 27 #[.agg #[.int .i64 21, .int .i64 rg, .int .i64 ty, .int .i64 n, .int .i64 fl, .slice ap al ac, .slice tp tl tc], .int .i64 i] W fun e w' => e = .returned (.int .i64 (t i)) ∧ Below W.heap.size W w')
    (cN : ∀ (i : Nat) (v z : Vl), l[i]? = some v → zs[i]? = some z → ∀ W, Calls Try.prog 26 #[.int .i64 (t i), v.val] W fun e w' => e = .returned z.val ∧ Below W.heap.size W w')
     (ak ab abk ao : Int) (hk : (ak != 1) = true) (ez : zs = [⟨ak, ab, abk, ao⟩])
    (W : World) (hl : VlsIn W.heap.size W p 1 c l) :
    Calls Try.prog 14 #[.agg #[.int .i64 21, .int .i64 rg, .int .i64 ty, .int .i64 n, .int .i64 fl, .slice ap al ac, .slice tp tl tc], .slice p 1 c] W fun e w' => e = .returned (.tuple #[.agg #[.int .i64 ak, .int .u64 ab, .int .i64 abk, .int .i64 ao], .int .i64 0]) ∧ Below W.heap.size W w' := by
  have HZ := Lib.hid ez
  clear ez
  have b0 := bV0
  have F := (((Fr.start W)).push (g := W.heap.size) (by simp) [.int .i64 21, .int .i64 rg, .int .i64 ty, .int .i64 n, .int .i64 fl, .slice ap al ac, .slice tp tl tc] 25).push (g := W.heap.size + 1) (by simp) [.int .i64 0, .int .u64 0, .int .i64 0, .int .i64 0] 35
  have G := Lib.hid F
  clear F
  have H := Lib.hid hl
  have hc1 := hl.2.1
  have hc2 := hl.2.2.1
  unfold maxLen at hc2
  have S0 : Hid (St W.heap.size W (As.and (rw' W.heap.size 35 4 vlC none 0 0 (zs.take 0)) (As.and (bx (W.heap.size + 1) [.int .i64 0, .int .u64 0, .int .i64 0, .int .i64 0]) (As.and (bx W.heap.size [.int .i64 21, .int .i64 rg, .int .i64 ty, .int .i64 n, .int .i64 fl, .slice ap al ac, .slice tp tl tc]) As.emp))) ((W.alloc (.cells #[.int .i64 21, .int .i64 rg, .int .i64 ty, .int .i64 n, .int .i64 fl, .slice ap al ac, .slice tp tl tc] 25)).alloc (.cells #[.int .i64 0, .int .u64 0, .int .i64 0, .int .i64 0] 35))) := Lib.hid ((((St.start W).push (g := W.heap.size) rfl [.int .i64 21, .int .i64 rg, .int .i64 ty, .int .i64 n, .int .i64 fl, .slice ap al ac, .slice tp tl tc] 25).push (g := W.heap.size + 1) (by simp) [.int .i64 0, .int .u64 0, .int .i64 0, .int .i64 0] 35).imp ⟨fun w x => ⟨rw_nil w, x⟩, fun k => by simp only [As.and_c, rw_c, cR]; omega⟩)
  obtain ⟨iV, hiV⟩ := info_parts infoVal
  have HI := Lib.hid hiV
  clear hl hiV
  go_enter Try.func14, Try.ntmps14
  go_wp2_with (first
    | ((with_reducible refine (cS _).mono ?_); rintro e w1 ⟨rfl, hb⟩; have F := G.out.later hb; (try clear i0 i1 i2 i3 i4 i5 i6 r0 r1 r2 r3 rf); obtain ⟨i0, i1, i2, i3, i4, i5, i6⟩ := F.c7 1 rfl; obtain ⟨r0, r1, r2, r3, rf⟩ := F.c4 0 rfl; replace G := Lib.hid F; have S1 := Lib.hid (S0.out.later hb); clear F hb))
  clear cS S0
  go_loopw [7, 8] (fun s u wr => ∃ (k : Nat) (q : Option Addr) (d : Nat), k ≤ 1 ∧ s = .slice q k d ∧ u = .int .i64 k ∧ St W.heap.size W (As.and (rw' W.heap.size 35 4 vlC q k d (zs.take k)) (As.and (bx (W.heap.size + 1) [.int .i64 0, .int .u64 0, .int .i64 0, .int .i64 0]) (As.and (bx W.heap.size [.int .i64 21, .int .i64 rg, .int .i64 ty, .int .i64 n, .int .i64 fl, .slice ap al ac, .slice tp tl tc]) As.emp))) wr) (fun _ u _ => 1 - (intOf u).toNat)
  case atStart => exact ⟨0, none, 0, Nat.zero_le _, rfl, rfl, S1.out⟩
  case round =>
    clear S1 G i0 i1 i2 i3 i4 i5 i6 r0 r1 r2 r3 rf
    obtain ⟨k, q, d, hk, rfl, rfl, hS⟩ := hrel
    have hb0 : Box W.heap.size [.int .i64 21, .int .i64 rg, .int .i64 ty, .int .i64 n, .int .i64 fl, .slice ap al ac, .slice tp tl tc] wr := hS.sat.2.2.1
    have hb1 : Box (W.heap.size + 1) [.int .i64 0, .int .u64 0, .int .i64 0, .int .i64 0] wr := hS.sat.2.1
    have i0 := hb0.get 0 _ rfl
    have i1 := hb0.get 1 _ rfl
    have i2 := hb0.get 2 _ rfl
    have i3 := hb0.get 3 _ rfl
    have i4 := hb0.get 4 _ rfl
    have i5 := hb0.get 5 _ rfl
    have i6 := hb0.get 6 _ rfl
    have r0 := hb1.get 0 _ rfl
    have r1 := hb1.get 1 _ rfl
    have r2 := hb1.get 2 _ rfl
    have r3 := hb1.get 3 _ rfl
    have rf := hb1.2.1
    clear hb0 hb1
    by_cases hkm : k < 1
    · have hlk : l[k]? = some l[k] := List.getElem?_eq_getElem (by omega)
      have hzk : zs[k]? = some zs[k] := List.getElem?_eq_getElem (by omega)
      have cNk := cN k _ _ hlk hzk
      have cWk := cW k
      have hkl : k < l.length := by omega
      obtain ⟨a, rfl, ha, hy⟩ := vl_row H.out k hkl
      obtain ⟨tk, etk⟩ : ∃ x, t k = x := ⟨_, rfl⟩
      rw [etk] at cNk cWk
      obtain ⟨⟨vk, vb, vbk, vo⟩, ev⟩ : ∃ v, l[k] = v := ⟨_, rfl⟩
      obtain ⟨⟨yk, yb, ybk, yo⟩, ez⟩ : ∃ v, zs[k] = v := ⟨_, rfl⟩
      rw [ev, ez] at cNk
      rw [ev] at hy
      have ha' : (a.add (k * 4)).block < W.heap.size := by rw [add_block]; exact ha
      have ha2 : a.block < W.heap.size := ha
      obtain ⟨f0, f1, f2, f3⟩ := VlAt.below hy hS.below ha'
      simp only at f0 f1 f2 f3
      have HY := Lib.hid (And.intro hy ha')
      have hlen : (zs.take k).length = k := by rw [List.length_take]; omega
      have hnx : zs.take k ++ [⟨yk, yb, ybk, yo⟩] = zs.take (k + 1) := by rw [List.take_add_one, hzk, ez]; rfl
      have HS := Lib.hid hS
      have HL := Lib.hid (And.intro hlen (And.intro hnx hk))
      have awr := Nat.lt_of_lt_of_le ha hS.below.size
      clear hS hlk hzk ev ez etk hlen hnx hy ha' cN cW
      replace cNk : ∀ W, Calls Try.prog 26 #[.int .i64 tk, .agg #[.int .i64 vk, .int .u64 vb, .int .i64 vbk, .int .i64 vo]] W fun e w' => e = .returned (.agg #[.int .i64 yk, .int .u64 yb, .int .i64 ybk, .int .i64 yo]) ∧ Below W.heap.size W w' := cNk
      go_wp2_with fail
      go_region_law (first
        | (refine step_app rfl (.tmp 24) (.tmp 33) 33 rfl iV _ 32 Try.underlying33 HI.out.1 HI.out.2.1 HI.out.2.2.1 HI.out.2.2.2 rfl (by decide) rfl (HS3.out.alloc _) ⟨yk, yb, ybk, yo⟩ _ 1 rfl rfl (lit_cells w6 _ _) (vlC_one _) (by have := HL.out.1; unfold maxLen; omega) (by have := HL.out.1; omega) ?_; intro p' c' w' hS')
        | (go_simp; (with_reducible refine (cWk _).mono ?_); rintro e w5 ⟨rfl, hb⟩; have HS2 := Lib.hid (HS.out.drew.later hb); obtain ⟨g0, g1, g2, g3⟩ := VlAt.below HY.out.1 HS2.out.below HY.out.2; clear hb)
        | (go_simp; (with_reducible refine (cNk _).mono ?_); rintro e w6 ⟨rfl, hb⟩; have HS3 := Lib.hid (HS2.out.later hb); clear hb))
      all_goals
        have hS9 : Hid (St W.heap.size W (As.and (rw' W.heap.size 35 4 vlC p' (k + 1) c' (zs.take (k + 1))) (As.and (bx (W.heap.size + 1) [.int .i64 0, .int .u64 0, .int .i64 0, .int .i64 0]) (As.and (bx W.heap.size [.int .i64 21, .int .i64 rg, .int .i64 ty, .int .i64 n, .int .i64 fl, .slice ap al ac, .slice tp tl tc]) As.emp))) w') := Lib.hid (by have h := hS'; rw [HL.out.1, HL.out.2.1] at h; exact h)
        clear hS' HS HS2 HS3
        go_wp2_with fail
        exact ⟨⟨k + 1, _, _, by omega, by first | rfl | rw [HL.out.1], by go_num, hS9.out⟩, by simp [intOf]; omega⟩
    · obtain rfl : k = 1 := by omega
      clear cN cW hkm hk
      rw [List.take_of_length_le (by omega)] at hS
      have hrow := hS.sat.1
      rw [HZ.out] at hrow
      obtain ⟨R, rfl, hB, hR, -, -, hx0⟩ := row_cell hrow vlC_len 0 (by simp)
      have hd : (1 : Nat) ≤ d := by have := hrow.2; have h2 := row_cell hrow vlC_len 0 (by simp); obtain ⟨_, _, _, _, h3, _⟩ := h2; simpa using h3
      have q00 : wr.cell? ⟨R, 0, none⟩ = some (.int .i64 ak) := hx0 0 (by decide)
      have q01 : wr.cell? ⟨R, 1, none⟩ = some (.int .u64 ab) := hx0 1 (by decide)
      have q02 : wr.cell? ⟨R, 2, none⟩ = some (.int .i64 abk) := hx0 2 (by decide)
      have q03 : wr.cell? ⟨R, 3, none⟩ = some (.int .i64 ao) := hx0 3 (by decide)
      have F0 : Fr W [(W.heap.size + 1, [.int .i64 0, .int .u64 0, .int .i64 0, .int .i64 0])] wr := ⟨hS.below, fun x hx => by simp only [List.mem_cons, List.not_mem_nil, or_false] at hx; subst hx; exact ⟨Nat.le_succ _, hS.sat.2.1⟩⟩
      have G0 := Lib.hid F0
      clear hS hrow F0 hB hx0
      go_wp2_with fail
      exact bodyPost_ret (v := .tuple #[.agg #[.int .i64 ak, .int .u64 ab, .int .i64 abk, .int .i64 ao], .int .i64 0]) (by simp [results, Try.results14, go_sem, *]) rfl ⟨rfl, G0.out.set4 0 rfl _ _ _ _⟩
theorem rEval_con21_1 (rg ty n fl : Int) (ap : Option Addr) (al ac : Nat) (tp : Option Addr) (tl tc : Nat) (p : Option Addr) (c : Nat) (l zs : List Vl) (hlm : l.length = 1) (hzl : zs.length = 1) (t : Nat → Int)
    (cS : ∀ W, Calls Try.prog 25 #[.agg #[.int .i64 21, .int .i64 rg, .int .i64 ty, .int .i64 n, .int .i64 fl, .slice ap al ac, .slice tp tl tc], .int .i64 1] W fun e w' => e = .returned (.bool true) ∧ Below W.heap.size W w')
    (cW : ∀ (i : Nat) W, Calls Try.prog 27 #[.agg #[.int .i64 21, .int .i64 rg, .int .i64 ty, .int .i64 n, .int .i64 fl, .slice ap al ac, .slice tp tl tc], .int .i64 i] W fun e w' => e = .returned (.int .i64 (t i)) ∧ Below W.heap.size W w')
    (cN : ∀ (i : Nat) (v z : Vl), l[i]? = some v → zs[i]? = some z → ∀ W, Calls Try.prog 26 #[.int .i64 (t i), v.val] W fun e w' => e = .returned z.val ∧ Below W.heap.size W w')
     (ab abk ao r : Int) (rb : Bool) (ez : zs = [⟨1, ab, abk, ao⟩]) (cC : ∀ W, Calls Try.prog 32 #[.int .i64 21, .int .i64 n, .int .i64 ty, .int .u64 ab] W fun e w' => e = .returned (.tuple #[.int .u64 r, .bool rb]) ∧ Below W.heap.size W w') (cX : ∀ W, Calls Try.prog 33 #[.int .u64 r] W fun e w' => e = .returned (.agg #[.int .i64 1, .int .u64 r, .int .i64 0, .int .i64 0]) ∧ Below W.heap.size W w')
    (W : World) (hl : VlsIn W.heap.size W p 1 c l) :
    Calls Try.prog 14 #[.agg #[.int .i64 21, .int .i64 rg, .int .i64 ty, .int .i64 n, .int .i64 fl, .slice ap al ac, .slice tp tl tc], .slice p 1 c] W fun e w' => e = .returned (.tuple #[.agg #[.int .i64 1, .int .u64 r, .int .i64 0, .int .i64 0], .int .i64 0]) ∧ Below W.heap.size W w' := by
  have HZ := Lib.hid ez
  clear ez
  have b0 := bV0
  have F := (((Fr.start W)).push (g := W.heap.size) (by simp) [.int .i64 21, .int .i64 rg, .int .i64 ty, .int .i64 n, .int .i64 fl, .slice ap al ac, .slice tp tl tc] 25).push (g := W.heap.size + 1) (by simp) [.int .i64 0, .int .u64 0, .int .i64 0, .int .i64 0] 35
  have G := Lib.hid F
  clear F
  have H := Lib.hid hl
  have hc1 := hl.2.1
  have hc2 := hl.2.2.1
  unfold maxLen at hc2
  have S0 : Hid (St W.heap.size W (As.and (rw' W.heap.size 35 4 vlC none 0 0 (zs.take 0)) (As.and (bx (W.heap.size + 1) [.int .i64 0, .int .u64 0, .int .i64 0, .int .i64 0]) (As.and (bx W.heap.size [.int .i64 21, .int .i64 rg, .int .i64 ty, .int .i64 n, .int .i64 fl, .slice ap al ac, .slice tp tl tc]) As.emp))) ((W.alloc (.cells #[.int .i64 21, .int .i64 rg, .int .i64 ty, .int .i64 n, .int .i64 fl, .slice ap al ac, .slice tp tl tc] 25)).alloc (.cells #[.int .i64 0, .int .u64 0, .int .i64 0, .int .i64 0] 35))) := Lib.hid ((((St.start W).push (g := W.heap.size) rfl [.int .i64 21, .int .i64 rg, .int .i64 ty, .int .i64 n, .int .i64 fl, .slice ap al ac, .slice tp tl tc] 25).push (g := W.heap.size + 1) (by simp) [.int .i64 0, .int .u64 0, .int .i64 0, .int .i64 0] 35).imp ⟨fun w x => ⟨rw_nil w, x⟩, fun k => by simp only [As.and_c, rw_c, cR]; omega⟩)
  obtain ⟨iV, hiV⟩ := info_parts infoVal
  have HI := Lib.hid hiV
  clear hl hiV
  go_enter Try.func14, Try.ntmps14
  go_wp2_with (first
    | ((with_reducible refine (cS _).mono ?_); rintro e w1 ⟨rfl, hb⟩; have F := G.out.later hb; (try clear i0 i1 i2 i3 i4 i5 i6 r0 r1 r2 r3 rf); obtain ⟨i0, i1, i2, i3, i4, i5, i6⟩ := F.c7 1 rfl; obtain ⟨r0, r1, r2, r3, rf⟩ := F.c4 0 rfl; replace G := Lib.hid F; have S1 := Lib.hid (S0.out.later hb); clear F hb))
  clear cS S0
  go_loopw [7, 8] (fun s u wr => ∃ (k : Nat) (q : Option Addr) (d : Nat), k ≤ 1 ∧ s = .slice q k d ∧ u = .int .i64 k ∧ St W.heap.size W (As.and (rw' W.heap.size 35 4 vlC q k d (zs.take k)) (As.and (bx (W.heap.size + 1) [.int .i64 0, .int .u64 0, .int .i64 0, .int .i64 0]) (As.and (bx W.heap.size [.int .i64 21, .int .i64 rg, .int .i64 ty, .int .i64 n, .int .i64 fl, .slice ap al ac, .slice tp tl tc]) As.emp))) wr) (fun _ u _ => 1 - (intOf u).toNat)
  case atStart => exact ⟨0, none, 0, Nat.zero_le _, rfl, rfl, S1.out⟩
  case round =>
    clear S1 G i0 i1 i2 i3 i4 i5 i6 r0 r1 r2 r3 rf
    obtain ⟨k, q, d, hk, rfl, rfl, hS⟩ := hrel
    have hb0 : Box W.heap.size [.int .i64 21, .int .i64 rg, .int .i64 ty, .int .i64 n, .int .i64 fl, .slice ap al ac, .slice tp tl tc] wr := hS.sat.2.2.1
    have hb1 : Box (W.heap.size + 1) [.int .i64 0, .int .u64 0, .int .i64 0, .int .i64 0] wr := hS.sat.2.1
    have i0 := hb0.get 0 _ rfl
    have i1 := hb0.get 1 _ rfl
    have i2 := hb0.get 2 _ rfl
    have i3 := hb0.get 3 _ rfl
    have i4 := hb0.get 4 _ rfl
    have i5 := hb0.get 5 _ rfl
    have i6 := hb0.get 6 _ rfl
    have r0 := hb1.get 0 _ rfl
    have r1 := hb1.get 1 _ rfl
    have r2 := hb1.get 2 _ rfl
    have r3 := hb1.get 3 _ rfl
    have rf := hb1.2.1
    clear hb0 hb1
    by_cases hkm : k < 1
    · have hlk : l[k]? = some l[k] := List.getElem?_eq_getElem (by omega)
      have hzk : zs[k]? = some zs[k] := List.getElem?_eq_getElem (by omega)
      have cNk := cN k _ _ hlk hzk
      have cWk := cW k
      have hkl : k < l.length := by omega
      obtain ⟨a, rfl, ha, hy⟩ := vl_row H.out k hkl
      obtain ⟨tk, etk⟩ : ∃ x, t k = x := ⟨_, rfl⟩
      rw [etk] at cNk cWk
      obtain ⟨⟨vk, vb, vbk, vo⟩, ev⟩ : ∃ v, l[k] = v := ⟨_, rfl⟩
      obtain ⟨⟨yk, yb, ybk, yo⟩, ez⟩ : ∃ v, zs[k] = v := ⟨_, rfl⟩
      rw [ev, ez] at cNk
      rw [ev] at hy
      have ha' : (a.add (k * 4)).block < W.heap.size := by rw [add_block]; exact ha
      have ha2 : a.block < W.heap.size := ha
      obtain ⟨f0, f1, f2, f3⟩ := VlAt.below hy hS.below ha'
      simp only at f0 f1 f2 f3
      have HY := Lib.hid (And.intro hy ha')
      have hlen : (zs.take k).length = k := by rw [List.length_take]; omega
      have hnx : zs.take k ++ [⟨yk, yb, ybk, yo⟩] = zs.take (k + 1) := by rw [List.take_add_one, hzk, ez]; rfl
      have HS := Lib.hid hS
      have HL := Lib.hid (And.intro hlen (And.intro hnx hk))
      have awr := Nat.lt_of_lt_of_le ha hS.below.size
      clear hS hlk hzk ev ez etk hlen hnx hy ha' cN cW
      replace cNk : ∀ W, Calls Try.prog 26 #[.int .i64 tk, .agg #[.int .i64 vk, .int .u64 vb, .int .i64 vbk, .int .i64 vo]] W fun e w' => e = .returned (.agg #[.int .i64 yk, .int .u64 yb, .int .i64 ybk, .int .i64 yo]) ∧ Below W.heap.size W w' := cNk
      go_wp2_with fail
      go_region_law (first
        | (refine step_app rfl (.tmp 24) (.tmp 33) 33 rfl iV _ 32 Try.underlying33 HI.out.1 HI.out.2.1 HI.out.2.2.1 HI.out.2.2.2 rfl (by decide) rfl (HS3.out.alloc _) ⟨yk, yb, ybk, yo⟩ _ 1 rfl rfl (lit_cells w6 _ _) (vlC_one _) (by have := HL.out.1; unfold maxLen; omega) (by have := HL.out.1; omega) ?_; intro p' c' w' hS')
        | (go_simp; (with_reducible refine (cWk _).mono ?_); rintro e w5 ⟨rfl, hb⟩; have HS2 := Lib.hid (HS.out.drew.later hb); obtain ⟨g0, g1, g2, g3⟩ := VlAt.below HY.out.1 HS2.out.below HY.out.2; clear hb)
        | (go_simp; (with_reducible refine (cNk _).mono ?_); rintro e w6 ⟨rfl, hb⟩; have HS3 := Lib.hid (HS2.out.later hb); clear hb))
      all_goals
        have hS9 : Hid (St W.heap.size W (As.and (rw' W.heap.size 35 4 vlC p' (k + 1) c' (zs.take (k + 1))) (As.and (bx (W.heap.size + 1) [.int .i64 0, .int .u64 0, .int .i64 0, .int .i64 0]) (As.and (bx W.heap.size [.int .i64 21, .int .i64 rg, .int .i64 ty, .int .i64 n, .int .i64 fl, .slice ap al ac, .slice tp tl tc]) As.emp))) w') := Lib.hid (by have h := hS'; rw [HL.out.1, HL.out.2.1] at h; exact h)
        clear hS' HS HS2 HS3
        go_wp2_with fail
        exact ⟨⟨k + 1, _, _, by omega, by first | rfl | rw [HL.out.1], by go_num, hS9.out⟩, by simp [intOf]; omega⟩
    · obtain rfl : k = 1 := by omega
      clear cN cW hkm hk
      rw [List.take_of_length_le (by omega)] at hS
      have hrow := hS.sat.1
      rw [HZ.out] at hrow
      obtain ⟨R, rfl, hB, hR, -, -, hx0⟩ := row_cell hrow vlC_len 0 (by simp)
      have hd : (1 : Nat) ≤ d := by have := hrow.2; have h2 := row_cell hrow vlC_len 0 (by simp); obtain ⟨_, _, _, _, h3, _⟩ := h2; simpa using h3
      have q00 : wr.cell? ⟨R, 0, none⟩ = some (.int .i64 1) := hx0 0 (by decide)
      have q01 : wr.cell? ⟨R, 1, none⟩ = some (.int .u64 ab) := hx0 1 (by decide)
      have q02 : wr.cell? ⟨R, 2, none⟩ = some (.int .i64 abk) := hx0 2 (by decide)
      have q03 : wr.cell? ⟨R, 3, none⟩ = some (.int .i64 ao) := hx0 3 (by decide)
      have F0 : Fr W [(W.heap.size + 1, [.int .i64 0, .int .u64 0, .int .i64 0, .int .i64 0])] wr := ⟨hS.below, fun x hx => by simp only [List.mem_cons, List.not_mem_nil, or_false] at hx; subst hx; exact ⟨Nat.le_succ _, hS.sat.2.1⟩⟩
      have G0 := Lib.hid F0
      clear hS hrow F0 hB hx0
      go_wp2_with fail
      go_region_law (first
        | (go_simp; (with_reducible refine (cC _).mono ?_); rintro e w4 ⟨rfl, hb⟩; have F := G0.out.drew.later hb; obtain ⟨s0, s1, s2, s3, sf⟩ := F.c4 0 rfl; have G1 := Lib.hid F; clear F hb))
      all_goals
        go_wp2_with ((with_reducible refine (cX _).mono ?_); rintro e w5 ⟨rfl, hb⟩; have F := G1.out.later hb; obtain ⟨u0, u1, u2, u3, uf⟩ := F.c4 0 rfl; have G2 := Lib.hid F; clear F hb)
        exact bodyPost_ret (v := .tuple #[.agg #[.int .i64 1, .int .u64 r, .int .i64 0, .int .i64 0], .int .i64 0]) (by simp [results, Try.results14, go_sem, *]) rfl ⟨rfl, G2.out.set4 0 rfl _ _ _ _⟩
theorem rEval_con22_n (rg ty n fl : Int) (ap : Option Addr) (al ac : Nat) (tp : Option Addr) (tl tc : Nat) (p : Option Addr) (c : Nat) (l zs : List Vl) (hlm : l.length = 1) (hzl : zs.length = 1) (t : Nat → Int)
    (cS : ∀ W, Calls Try.prog 25 #[.agg #[.int .i64 22, .int .i64 rg, .int .i64 ty, .int .i64 n, .int .i64 fl, .slice ap al ac, .slice tp tl tc], .int .i64 1] W fun e w' => e = .returned (.bool true) ∧ Below W.heap.size W w')
    (cW : ∀ (i : Nat) W, Calls Try.prog 27 #[.agg #[.int .i64 22, .int .i64 rg, .int .i64 ty, .int .i64 n, .int .i64 fl, .slice ap al ac, .slice tp tl tc], .int .i64 i] W fun e w' => e = .returned (.int .i64 (t i)) ∧ Below W.heap.size W w')
    (cN : ∀ (i : Nat) (v z : Vl), l[i]? = some v → zs[i]? = some z → ∀ W, Calls Try.prog 26 #[.int .i64 (t i), v.val] W fun e w' => e = .returned z.val ∧ Below W.heap.size W w')
     (ak ab abk ao : Int) (hk : (ak != 1) = true) (ez : zs = [⟨ak, ab, abk, ao⟩])
    (W : World) (hl : VlsIn W.heap.size W p 1 c l) :
    Calls Try.prog 14 #[.agg #[.int .i64 22, .int .i64 rg, .int .i64 ty, .int .i64 n, .int .i64 fl, .slice ap al ac, .slice tp tl tc], .slice p 1 c] W fun e w' => e = .returned (.tuple #[.agg #[.int .i64 ak, .int .u64 ab, .int .i64 abk, .int .i64 ao], .int .i64 0]) ∧ Below W.heap.size W w' := by
  have HZ := Lib.hid ez
  clear ez
  have b0 := bV0
  have F := (((Fr.start W)).push (g := W.heap.size) (by simp) [.int .i64 22, .int .i64 rg, .int .i64 ty, .int .i64 n, .int .i64 fl, .slice ap al ac, .slice tp tl tc] 25).push (g := W.heap.size + 1) (by simp) [.int .i64 0, .int .u64 0, .int .i64 0, .int .i64 0] 35
  have G := Lib.hid F
  clear F
  have H := Lib.hid hl
  have hc1 := hl.2.1
  have hc2 := hl.2.2.1
  unfold maxLen at hc2
  have S0 : Hid (St W.heap.size W (As.and (rw' W.heap.size 35 4 vlC none 0 0 (zs.take 0)) (As.and (bx (W.heap.size + 1) [.int .i64 0, .int .u64 0, .int .i64 0, .int .i64 0]) (As.and (bx W.heap.size [.int .i64 22, .int .i64 rg, .int .i64 ty, .int .i64 n, .int .i64 fl, .slice ap al ac, .slice tp tl tc]) As.emp))) ((W.alloc (.cells #[.int .i64 22, .int .i64 rg, .int .i64 ty, .int .i64 n, .int .i64 fl, .slice ap al ac, .slice tp tl tc] 25)).alloc (.cells #[.int .i64 0, .int .u64 0, .int .i64 0, .int .i64 0] 35))) := Lib.hid ((((St.start W).push (g := W.heap.size) rfl [.int .i64 22, .int .i64 rg, .int .i64 ty, .int .i64 n, .int .i64 fl, .slice ap al ac, .slice tp tl tc] 25).push (g := W.heap.size + 1) (by simp) [.int .i64 0, .int .u64 0, .int .i64 0, .int .i64 0] 35).imp ⟨fun w x => ⟨rw_nil w, x⟩, fun k => by simp only [As.and_c, rw_c, cR]; omega⟩)
  obtain ⟨iV, hiV⟩ := info_parts infoVal
  have HI := Lib.hid hiV
  clear hl hiV
  go_enter Try.func14, Try.ntmps14
  go_wp2_with (first
    | ((with_reducible refine (cS _).mono ?_); rintro e w1 ⟨rfl, hb⟩; have F := G.out.later hb; (try clear i0 i1 i2 i3 i4 i5 i6 r0 r1 r2 r3 rf); obtain ⟨i0, i1, i2, i3, i4, i5, i6⟩ := F.c7 1 rfl; obtain ⟨r0, r1, r2, r3, rf⟩ := F.c4 0 rfl; replace G := Lib.hid F; have S1 := Lib.hid (S0.out.later hb); clear F hb))
  clear cS S0
  go_loopw [7, 8] (fun s u wr => ∃ (k : Nat) (q : Option Addr) (d : Nat), k ≤ 1 ∧ s = .slice q k d ∧ u = .int .i64 k ∧ St W.heap.size W (As.and (rw' W.heap.size 35 4 vlC q k d (zs.take k)) (As.and (bx (W.heap.size + 1) [.int .i64 0, .int .u64 0, .int .i64 0, .int .i64 0]) (As.and (bx W.heap.size [.int .i64 22, .int .i64 rg, .int .i64 ty, .int .i64 n, .int .i64 fl, .slice ap al ac, .slice tp tl tc]) As.emp))) wr) (fun _ u _ => 1 - (intOf u).toNat)
  case atStart => exact ⟨0, none, 0, Nat.zero_le _, rfl, rfl, S1.out⟩
  case round =>
    clear S1 G i0 i1 i2 i3 i4 i5 i6 r0 r1 r2 r3 rf
    obtain ⟨k, q, d, hk, rfl, rfl, hS⟩ := hrel
    have hb0 : Box W.heap.size [.int .i64 22, .int .i64 rg, .int .i64 ty, .int .i64 n, .int .i64 fl, .slice ap al ac, .slice tp tl tc] wr := hS.sat.2.2.1
    have hb1 : Box (W.heap.size + 1) [.int .i64 0, .int .u64 0, .int .i64 0, .int .i64 0] wr := hS.sat.2.1
    have i0 := hb0.get 0 _ rfl
    have i1 := hb0.get 1 _ rfl
    have i2 := hb0.get 2 _ rfl
    have i3 := hb0.get 3 _ rfl
    have i4 := hb0.get 4 _ rfl
    have i5 := hb0.get 5 _ rfl
    have i6 := hb0.get 6 _ rfl
    have r0 := hb1.get 0 _ rfl
    have r1 := hb1.get 1 _ rfl
    have r2 := hb1.get 2 _ rfl
    have r3 := hb1.get 3 _ rfl
    have rf := hb1.2.1
    clear hb0 hb1
    by_cases hkm : k < 1
    · have hlk : l[k]? = some l[k] := List.getElem?_eq_getElem (by omega)
      have hzk : zs[k]? = some zs[k] := List.getElem?_eq_getElem (by omega)
      have cNk := cN k _ _ hlk hzk
      have cWk := cW k
      have hkl : k < l.length := by omega
      obtain ⟨a, rfl, ha, hy⟩ := vl_row H.out k hkl
      obtain ⟨tk, etk⟩ : ∃ x, t k = x := ⟨_, rfl⟩
      rw [etk] at cNk cWk
      obtain ⟨⟨vk, vb, vbk, vo⟩, ev⟩ : ∃ v, l[k] = v := ⟨_, rfl⟩
      obtain ⟨⟨yk, yb, ybk, yo⟩, ez⟩ : ∃ v, zs[k] = v := ⟨_, rfl⟩
      rw [ev, ez] at cNk
      rw [ev] at hy
      have ha' : (a.add (k * 4)).block < W.heap.size := by rw [add_block]; exact ha
      have ha2 : a.block < W.heap.size := ha
      obtain ⟨f0, f1, f2, f3⟩ := VlAt.below hy hS.below ha'
      simp only at f0 f1 f2 f3
      have HY := Lib.hid (And.intro hy ha')
      have hlen : (zs.take k).length = k := by rw [List.length_take]; omega
      have hnx : zs.take k ++ [⟨yk, yb, ybk, yo⟩] = zs.take (k + 1) := by rw [List.take_add_one, hzk, ez]; rfl
      have HS := Lib.hid hS
      have HL := Lib.hid (And.intro hlen (And.intro hnx hk))
      have awr := Nat.lt_of_lt_of_le ha hS.below.size
      clear hS hlk hzk ev ez etk hlen hnx hy ha' cN cW
      replace cNk : ∀ W, Calls Try.prog 26 #[.int .i64 tk, .agg #[.int .i64 vk, .int .u64 vb, .int .i64 vbk, .int .i64 vo]] W fun e w' => e = .returned (.agg #[.int .i64 yk, .int .u64 yb, .int .i64 ybk, .int .i64 yo]) ∧ Below W.heap.size W w' := cNk
      go_wp2_with fail
      go_region_law (first
        | (refine step_app rfl (.tmp 24) (.tmp 33) 33 rfl iV _ 32 Try.underlying33 HI.out.1 HI.out.2.1 HI.out.2.2.1 HI.out.2.2.2 rfl (by decide) rfl (HS3.out.alloc _) ⟨yk, yb, ybk, yo⟩ _ 1 rfl rfl (lit_cells w6 _ _) (vlC_one _) (by have := HL.out.1; unfold maxLen; omega) (by have := HL.out.1; omega) ?_; intro p' c' w' hS')
        | (go_simp; (with_reducible refine (cWk _).mono ?_); rintro e w5 ⟨rfl, hb⟩; have HS2 := Lib.hid (HS.out.drew.later hb); obtain ⟨g0, g1, g2, g3⟩ := VlAt.below HY.out.1 HS2.out.below HY.out.2; clear hb)
        | (go_simp; (with_reducible refine (cNk _).mono ?_); rintro e w6 ⟨rfl, hb⟩; have HS3 := Lib.hid (HS2.out.later hb); clear hb))
      all_goals
        have hS9 : Hid (St W.heap.size W (As.and (rw' W.heap.size 35 4 vlC p' (k + 1) c' (zs.take (k + 1))) (As.and (bx (W.heap.size + 1) [.int .i64 0, .int .u64 0, .int .i64 0, .int .i64 0]) (As.and (bx W.heap.size [.int .i64 22, .int .i64 rg, .int .i64 ty, .int .i64 n, .int .i64 fl, .slice ap al ac, .slice tp tl tc]) As.emp))) w') := Lib.hid (by have h := hS'; rw [HL.out.1, HL.out.2.1] at h; exact h)
        clear hS' HS HS2 HS3
        go_wp2_with fail
        exact ⟨⟨k + 1, _, _, by omega, by first | rfl | rw [HL.out.1], by go_num, hS9.out⟩, by simp [intOf]; omega⟩
    · obtain rfl : k = 1 := by omega
      clear cN cW hkm hk
      rw [List.take_of_length_le (by omega)] at hS
      have hrow := hS.sat.1
      rw [HZ.out] at hrow
      obtain ⟨R, rfl, hB, hR, -, -, hx0⟩ := row_cell hrow vlC_len 0 (by simp)
      have hd : (1 : Nat) ≤ d := by have := hrow.2; have h2 := row_cell hrow vlC_len 0 (by simp); obtain ⟨_, _, _, _, h3, _⟩ := h2; simpa using h3
      have q00 : wr.cell? ⟨R, 0, none⟩ = some (.int .i64 ak) := hx0 0 (by decide)
      have q01 : wr.cell? ⟨R, 1, none⟩ = some (.int .u64 ab) := hx0 1 (by decide)
      have q02 : wr.cell? ⟨R, 2, none⟩ = some (.int .i64 abk) := hx0 2 (by decide)
      have q03 : wr.cell? ⟨R, 3, none⟩ = some (.int .i64 ao) := hx0 3 (by decide)
      have F0 : Fr W [(W.heap.size + 1, [.int .i64 0, .int .u64 0, .int .i64 0, .int .i64 0])] wr := ⟨hS.below, fun x hx => by simp only [List.mem_cons, List.not_mem_nil, or_false] at hx; subst hx; exact ⟨Nat.le_succ _, hS.sat.2.1⟩⟩
      have G0 := Lib.hid F0
      clear hS hrow F0 hB hx0
      go_wp2_with fail
      exact bodyPost_ret (v := .tuple #[.agg #[.int .i64 ak, .int .u64 ab, .int .i64 abk, .int .i64 ao], .int .i64 0]) (by simp [results, Try.results14, go_sem, *]) rfl ⟨rfl, G0.out.set4 0 rfl _ _ _ _⟩
theorem rEval_con22_1 (rg ty n fl : Int) (ap : Option Addr) (al ac : Nat) (tp : Option Addr) (tl tc : Nat) (p : Option Addr) (c : Nat) (l zs : List Vl) (hlm : l.length = 1) (hzl : zs.length = 1) (t : Nat → Int)
    (cS : ∀ W, Calls Try.prog 25 #[.agg #[.int .i64 22, .int .i64 rg, .int .i64 ty, .int .i64 n, .int .i64 fl, .slice ap al ac, .slice tp tl tc], .int .i64 1] W fun e w' => e = .returned (.bool true) ∧ Below W.heap.size W w')
    (cW : ∀ (i : Nat) W, Calls Try.prog 27 #[.agg #[.int .i64 22, .int .i64 rg, .int .i64 ty, .int .i64 n, .int .i64 fl, .slice ap al ac, .slice tp tl tc], .int .i64 i] W fun e w' => e = .returned (.int .i64 (t i)) ∧ Below W.heap.size W w')
    (cN : ∀ (i : Nat) (v z : Vl), l[i]? = some v → zs[i]? = some z → ∀ W, Calls Try.prog 26 #[.int .i64 (t i), v.val] W fun e w' => e = .returned z.val ∧ Below W.heap.size W w')
     (ab abk ao r : Int) (rb : Bool) (ez : zs = [⟨1, ab, abk, ao⟩]) (cC : ∀ W, Calls Try.prog 32 #[.int .i64 22, .int .i64 n, .int .i64 ty, .int .u64 ab] W fun e w' => e = .returned (.tuple #[.int .u64 r, .bool rb]) ∧ Below W.heap.size W w') (cX : ∀ W, Calls Try.prog 33 #[.int .u64 r] W fun e w' => e = .returned (.agg #[.int .i64 1, .int .u64 r, .int .i64 0, .int .i64 0]) ∧ Below W.heap.size W w')
    (W : World) (hl : VlsIn W.heap.size W p 1 c l) :
    Calls Try.prog 14 #[.agg #[.int .i64 22, .int .i64 rg, .int .i64 ty, .int .i64 n, .int .i64 fl, .slice ap al ac, .slice tp tl tc], .slice p 1 c] W fun e w' => e = .returned (.tuple #[.agg #[.int .i64 1, .int .u64 r, .int .i64 0, .int .i64 0], .int .i64 0]) ∧ Below W.heap.size W w' := by
  have HZ := Lib.hid ez
  clear ez
  have b0 := bV0
  have F := (((Fr.start W)).push (g := W.heap.size) (by simp) [.int .i64 22, .int .i64 rg, .int .i64 ty, .int .i64 n, .int .i64 fl, .slice ap al ac, .slice tp tl tc] 25).push (g := W.heap.size + 1) (by simp) [.int .i64 0, .int .u64 0, .int .i64 0, .int .i64 0] 35
  have G := Lib.hid F
  clear F
  have H := Lib.hid hl
  have hc1 := hl.2.1
  have hc2 := hl.2.2.1
  unfold maxLen at hc2
  have S0 : Hid (St W.heap.size W (As.and (rw' W.heap.size 35 4 vlC none 0 0 (zs.take 0)) (As.and (bx (W.heap.size + 1) [.int .i64 0, .int .u64 0, .int .i64 0, .int .i64 0]) (As.and (bx W.heap.size [.int .i64 22, .int .i64 rg, .int .i64 ty, .int .i64 n, .int .i64 fl, .slice ap al ac, .slice tp tl tc]) As.emp))) ((W.alloc (.cells #[.int .i64 22, .int .i64 rg, .int .i64 ty, .int .i64 n, .int .i64 fl, .slice ap al ac, .slice tp tl tc] 25)).alloc (.cells #[.int .i64 0, .int .u64 0, .int .i64 0, .int .i64 0] 35))) := Lib.hid ((((St.start W).push (g := W.heap.size) rfl [.int .i64 22, .int .i64 rg, .int .i64 ty, .int .i64 n, .int .i64 fl, .slice ap al ac, .slice tp tl tc] 25).push (g := W.heap.size + 1) (by simp) [.int .i64 0, .int .u64 0, .int .i64 0, .int .i64 0] 35).imp ⟨fun w x => ⟨rw_nil w, x⟩, fun k => by simp only [As.and_c, rw_c, cR]; omega⟩)
  obtain ⟨iV, hiV⟩ := info_parts infoVal
  have HI := Lib.hid hiV
  clear hl hiV
  go_enter Try.func14, Try.ntmps14
  go_wp2_with (first
    | ((with_reducible refine (cS _).mono ?_); rintro e w1 ⟨rfl, hb⟩; have F := G.out.later hb; (try clear i0 i1 i2 i3 i4 i5 i6 r0 r1 r2 r3 rf); obtain ⟨i0, i1, i2, i3, i4, i5, i6⟩ := F.c7 1 rfl; obtain ⟨r0, r1, r2, r3, rf⟩ := F.c4 0 rfl; replace G := Lib.hid F; have S1 := Lib.hid (S0.out.later hb); clear F hb))
  clear cS S0
  go_loopw [7, 8] (fun s u wr => ∃ (k : Nat) (q : Option Addr) (d : Nat), k ≤ 1 ∧ s = .slice q k d ∧ u = .int .i64 k ∧ St W.heap.size W (As.and (rw' W.heap.size 35 4 vlC q k d (zs.take k)) (As.and (bx (W.heap.size + 1) [.int .i64 0, .int .u64 0, .int .i64 0, .int .i64 0]) (As.and (bx W.heap.size [.int .i64 22, .int .i64 rg, .int .i64 ty, .int .i64 n, .int .i64 fl, .slice ap al ac, .slice tp tl tc]) As.emp))) wr) (fun _ u _ => 1 - (intOf u).toNat)
  case atStart => exact ⟨0, none, 0, Nat.zero_le _, rfl, rfl, S1.out⟩
  case round =>
    clear S1 G i0 i1 i2 i3 i4 i5 i6 r0 r1 r2 r3 rf
    obtain ⟨k, q, d, hk, rfl, rfl, hS⟩ := hrel
    have hb0 : Box W.heap.size [.int .i64 22, .int .i64 rg, .int .i64 ty, .int .i64 n, .int .i64 fl, .slice ap al ac, .slice tp tl tc] wr := hS.sat.2.2.1
    have hb1 : Box (W.heap.size + 1) [.int .i64 0, .int .u64 0, .int .i64 0, .int .i64 0] wr := hS.sat.2.1
    have i0 := hb0.get 0 _ rfl
    have i1 := hb0.get 1 _ rfl
    have i2 := hb0.get 2 _ rfl
    have i3 := hb0.get 3 _ rfl
    have i4 := hb0.get 4 _ rfl
    have i5 := hb0.get 5 _ rfl
    have i6 := hb0.get 6 _ rfl
    have r0 := hb1.get 0 _ rfl
    have r1 := hb1.get 1 _ rfl
    have r2 := hb1.get 2 _ rfl
    have r3 := hb1.get 3 _ rfl
    have rf := hb1.2.1
    clear hb0 hb1
    by_cases hkm : k < 1
    · have hlk : l[k]? = some l[k] := List.getElem?_eq_getElem (by omega)
      have hzk : zs[k]? = some zs[k] := List.getElem?_eq_getElem (by omega)
      have cNk := cN k _ _ hlk hzk
      have cWk := cW k
      have hkl : k < l.length := by omega
      obtain ⟨a, rfl, ha, hy⟩ := vl_row H.out k hkl
      obtain ⟨tk, etk⟩ : ∃ x, t k = x := ⟨_, rfl⟩
      rw [etk] at cNk cWk
      obtain ⟨⟨vk, vb, vbk, vo⟩, ev⟩ : ∃ v, l[k] = v := ⟨_, rfl⟩
      obtain ⟨⟨yk, yb, ybk, yo⟩, ez⟩ : ∃ v, zs[k] = v := ⟨_, rfl⟩
      rw [ev, ez] at cNk
      rw [ev] at hy
      have ha' : (a.add (k * 4)).block < W.heap.size := by rw [add_block]; exact ha
      have ha2 : a.block < W.heap.size := ha
      obtain ⟨f0, f1, f2, f3⟩ := VlAt.below hy hS.below ha'
      simp only at f0 f1 f2 f3
      have HY := Lib.hid (And.intro hy ha')
      have hlen : (zs.take k).length = k := by rw [List.length_take]; omega
      have hnx : zs.take k ++ [⟨yk, yb, ybk, yo⟩] = zs.take (k + 1) := by rw [List.take_add_one, hzk, ez]; rfl
      have HS := Lib.hid hS
      have HL := Lib.hid (And.intro hlen (And.intro hnx hk))
      have awr := Nat.lt_of_lt_of_le ha hS.below.size
      clear hS hlk hzk ev ez etk hlen hnx hy ha' cN cW
      replace cNk : ∀ W, Calls Try.prog 26 #[.int .i64 tk, .agg #[.int .i64 vk, .int .u64 vb, .int .i64 vbk, .int .i64 vo]] W fun e w' => e = .returned (.agg #[.int .i64 yk, .int .u64 yb, .int .i64 ybk, .int .i64 yo]) ∧ Below W.heap.size W w' := cNk
      go_wp2_with fail
      go_region_law (first
        | (refine step_app rfl (.tmp 24) (.tmp 33) 33 rfl iV _ 32 Try.underlying33 HI.out.1 HI.out.2.1 HI.out.2.2.1 HI.out.2.2.2 rfl (by decide) rfl (HS3.out.alloc _) ⟨yk, yb, ybk, yo⟩ _ 1 rfl rfl (lit_cells w6 _ _) (vlC_one _) (by have := HL.out.1; unfold maxLen; omega) (by have := HL.out.1; omega) ?_; intro p' c' w' hS')
        | (go_simp; (with_reducible refine (cWk _).mono ?_); rintro e w5 ⟨rfl, hb⟩; have HS2 := Lib.hid (HS.out.drew.later hb); obtain ⟨g0, g1, g2, g3⟩ := VlAt.below HY.out.1 HS2.out.below HY.out.2; clear hb)
        | (go_simp; (with_reducible refine (cNk _).mono ?_); rintro e w6 ⟨rfl, hb⟩; have HS3 := Lib.hid (HS2.out.later hb); clear hb))
      all_goals
        have hS9 : Hid (St W.heap.size W (As.and (rw' W.heap.size 35 4 vlC p' (k + 1) c' (zs.take (k + 1))) (As.and (bx (W.heap.size + 1) [.int .i64 0, .int .u64 0, .int .i64 0, .int .i64 0]) (As.and (bx W.heap.size [.int .i64 22, .int .i64 rg, .int .i64 ty, .int .i64 n, .int .i64 fl, .slice ap al ac, .slice tp tl tc]) As.emp))) w') := Lib.hid (by have h := hS'; rw [HL.out.1, HL.out.2.1] at h; exact h)
        clear hS' HS HS2 HS3
        go_wp2_with fail
        exact ⟨⟨k + 1, _, _, by omega, by first | rfl | rw [HL.out.1], by go_num, hS9.out⟩, by simp [intOf]; omega⟩
    · obtain rfl : k = 1 := by omega
      clear cN cW hkm hk
      rw [List.take_of_length_le (by omega)] at hS
      have hrow := hS.sat.1
      rw [HZ.out] at hrow
      obtain ⟨R, rfl, hB, hR, -, -, hx0⟩ := row_cell hrow vlC_len 0 (by simp)
      have hd : (1 : Nat) ≤ d := by have := hrow.2; have h2 := row_cell hrow vlC_len 0 (by simp); obtain ⟨_, _, _, _, h3, _⟩ := h2; simpa using h3
      have q00 : wr.cell? ⟨R, 0, none⟩ = some (.int .i64 1) := hx0 0 (by decide)
      have q01 : wr.cell? ⟨R, 1, none⟩ = some (.int .u64 ab) := hx0 1 (by decide)
      have q02 : wr.cell? ⟨R, 2, none⟩ = some (.int .i64 abk) := hx0 2 (by decide)
      have q03 : wr.cell? ⟨R, 3, none⟩ = some (.int .i64 ao) := hx0 3 (by decide)
      have F0 : Fr W [(W.heap.size + 1, [.int .i64 0, .int .u64 0, .int .i64 0, .int .i64 0])] wr := ⟨hS.below, fun x hx => by simp only [List.mem_cons, List.not_mem_nil, or_false] at hx; subst hx; exact ⟨Nat.le_succ _, hS.sat.2.1⟩⟩
      have G0 := Lib.hid F0
      clear hS hrow F0 hB hx0
      go_wp2_with fail
      go_region_law (first
        | (go_simp; (with_reducible refine (cC _).mono ?_); rintro e w4 ⟨rfl, hb⟩; have F := G0.out.drew.later hb; obtain ⟨s0, s1, s2, s3, sf⟩ := F.c4 0 rfl; have G1 := Lib.hid F; clear F hb))
      all_goals
        go_wp2_with ((with_reducible refine (cX _).mono ?_); rintro e w5 ⟨rfl, hb⟩; have F := G1.out.later hb; obtain ⟨u0, u1, u2, u3, uf⟩ := F.c4 0 rfl; have G2 := Lib.hid F; clear F hb)
        exact bodyPost_ret (v := .tuple #[.agg #[.int .i64 1, .int .u64 r, .int .i64 0, .int .i64 0], .int .i64 0]) (by simp [results, Try.results14, go_sem, *]) rfl ⟨rfl, G2.out.set4 0 rfl _ _ _ _⟩
end Go.Proofs.Ytpjfkmaceaikbaa
