/- Package eval: applied, joined. -/
import Derived.Test.YtpjfkmaceaikbaaEvBM
namespace Go.Proofs.Ytpjfkmaceaikbaa
open Go.RowKit Go.Maps
set_option linter.unusedVariables false
set_option linter.unusedSimpArgs false
set_option maxRecDepth 100000
set_option maxHeartbeats 1000000


theorem applied_any (d : Ins) (x y : Int) (o1 : 1 ≤ d.op) (o2 : d.op ≤ 19) (f0 : -9223372036854775808 ≤ d.fl) (f1 : d.fl ≤ 9223372036854775807) (hf : bits .andNot .i64 d.fl (flg d.op) = 0) (fx : Fit d.ty (.num x)) (fy : Fit d.ty (.num y)) (W : World) :
    Calls Try.prog 66 #[d.val, (EV.num x).vl.val, (EV.num y).vl.val] W fun e w' => e = .returned (.tuple #[(appE d.op d.ty d.fl x y).1.vl.val, .int .i64 (appE d.op d.ty d.fl x y).2]) ∧ Below W.heap.size W w' := by
  obtain ⟨op, rg, ty, n, fl, ap, al, ac, tp, tl, tc, ars⟩ := d
  simp only at o1 o2 f0 f1 hf fx fy
  have hx := Fit.num_in fx
  have hy := Fit.num_in fy
  have hA := Apply_all op ty fl x y o1 o2 hx.1 hx.2.1 f0 f1 hf hx.2.2.1 hx.2.2.2.1 hy.2.2.1 hy.2.2.2.1
  unfold aplT at hA
  rw [hx.2.2.2.2, hy.2.2.2.2] at hA
  have c2 := fun b W => numberV_any b W
  have b0 := bV0
  show Calls _ _ #[.agg #[.int .i64 op, .int .i64 rg, .int .i64 ty, .int .i64 n, .int .i64 fl, .slice ap al ac, .slice tp tl tc], .agg #[.int .i64 1, .int .u64 x, .int .i64 0, .int .i64 0], .agg #[.int .i64 1, .int .u64 y, .int .i64 0, .int .i64 0]] W fun e w' => e = .returned (.tuple #[(appE op ty fl x y).1.vl.val, .int .i64 (appE op ty fl x y).2]) ∧ _
  unfold appE
  unfold aplR at hA
  obtain ⟨E, eE⟩ : ∃ E, aplE ty.toNat op fl x y = E := ⟨_, rfl⟩
  obtain ⟨R, eR⟩ : ∃ R, plV ty.toNat op x y = R := ⟨_, rfl⟩
  rw [eE, eR] at hA
  rw [eE, eR]
  clear eE eR hx hy fx fy o1 o2 f0 f1 hf
  have c1 : ∀ W, Calls Try.prog 69 #[.int .i64 op, .int .i64 ty, .int .i64 fl, .int .u64 x, .int .u64 y] W fun e w' => e = .returned (.tuple #[.int .u64 (if E = 0 then R else 0), .int .i64 E]) ∧ Below W.heap.size W w' := fun W => (hA W).mono fun e w' ⟨h1, n, h2⟩ => ⟨h1, h2 ▸ below_drewN _ _⟩
  clear hA
  by_cases h0 : E = 0
  · subst h0
    rw [if_pos rfl] at c1
    rw [if_pos rfl]
    show Calls _ _ _ W fun e w' => e = .returned (.tuple #[.agg #[.int .i64 1, .int .u64 R, .int .i64 0, .int .i64 0], .int .i64 0]) ∧ _
    have F := (((((Fr.start W)).push (g := W.heap.size) (by simp) [.int .i64 op, .int .i64 rg, .int .i64 ty, .int .i64 n, .int .i64 fl, .slice ap al ac, .slice tp tl tc] 25).push (g := W.heap.size + 1) (by simp) [.int .i64 1, .int .u64 x, .int .i64 0, .int .i64 0] 35).push (g := W.heap.size + 1 + 1) (by simp) [.int .i64 1, .int .u64 y, .int .i64 0, .int .i64 0] 35).push (g := W.heap.size + 1 + 1 + 1) (by simp) [.int .i64 0, .int .u64 0, .int .i64 0, .int .i64 0] 35
    have G := Lib.hid F
    clear F
    go_enter Try.func66, Try.ntmps66
    go_wp2_with (first
      | ((with_reducible refine (c1 _).mono ?_); rintro e w1 ⟨rfl, hb⟩; have F := G.out.later hb; (try clear i0 i1 i2 i3 i4 i5 i6 a0 a1 a2 a3 af b0 b1 b2 b3 bf r0 r1 r2 r3 rf); obtain ⟨i0, i1, i2, i3, i4, i5, i6⟩ := F.c7 3 rfl; obtain ⟨a0, a1, a2, a3, af⟩ := F.c4 2 rfl; obtain ⟨b0, b1, b2, b3, bf⟩ := F.c4 1 rfl; obtain ⟨r0, r1, r2, r3, rf⟩ := F.c4 0 rfl; replace G := Lib.hid F; clear F hb)
      | ((with_reducible refine ((c2 _) _).mono ?_); rintro e w1 ⟨rfl, hb⟩; have F := G.out.later hb; (try clear i0 i1 i2 i3 i4 i5 i6 a0 a1 a2 a3 af b0 b1 b2 b3 bf r0 r1 r2 r3 rf); obtain ⟨i0, i1, i2, i3, i4, i5, i6⟩ := F.c7 3 rfl; obtain ⟨a0, a1, a2, a3, af⟩ := F.c4 2 rfl; obtain ⟨b0, b1, b2, b3, bf⟩ := F.c4 1 rfl; obtain ⟨r0, r1, r2, r3, rf⟩ := F.c4 0 rfl; replace G := Lib.hid F; clear F hb))
    exact bodyPost_ret (v := .tuple #[.agg #[.int .i64 1, .int .u64 R, .int .i64 0, .int .i64 0], .int .i64 0]) (by simp [results, Try.results66, go_sem, *]) rfl ⟨rfl, G.out.set4 0 rfl _ _ _ _⟩
  · rw [if_neg h0] at c1
    rw [if_neg h0]
    by_cases h1 : E = 1
    · subst h1
      rw [if_pos rfl]
      show Calls _ _ _ W fun e w' => e = .returned (.tuple #[.agg #[.int .i64 0, .int .u64 0, .int .i64 0, .int .i64 0], .int .i64 0]) ∧ _
      have F := (((((Fr.start W)).push (g := W.heap.size) (by simp) [.int .i64 op, .int .i64 rg, .int .i64 ty, .int .i64 n, .int .i64 fl, .slice ap al ac, .slice tp tl tc] 25).push (g := W.heap.size + 1) (by simp) [.int .i64 1, .int .u64 x, .int .i64 0, .int .i64 0] 35).push (g := W.heap.size + 1 + 1) (by simp) [.int .i64 1, .int .u64 y, .int .i64 0, .int .i64 0] 35).push (g := W.heap.size + 1 + 1 + 1) (by simp) [.int .i64 0, .int .u64 0, .int .i64 0, .int .i64 0] 35
      have G := Lib.hid F
      clear F h0
      go_enter Try.func66, Try.ntmps66
      go_wp2_with (first
        | ((with_reducible refine (c1 _).mono ?_); rintro e w1 ⟨rfl, hb⟩; have F := G.out.later hb; (try clear i0 i1 i2 i3 i4 i5 i6 a0 a1 a2 a3 af b0 b1 b2 b3 bf r0 r1 r2 r3 rf); obtain ⟨i0, i1, i2, i3, i4, i5, i6⟩ := F.c7 3 rfl; obtain ⟨a0, a1, a2, a3, af⟩ := F.c4 2 rfl; obtain ⟨b0, b1, b2, b3, bf⟩ := F.c4 1 rfl; obtain ⟨r0, r1, r2, r3, rf⟩ := F.c4 0 rfl; replace G := Lib.hid F; clear F hb))
      exact bodyPost_ret (v := .tuple #[.agg #[.int .i64 0, .int .u64 0, .int .i64 0, .int .i64 0], .int .i64 0]) (by simp [results, Try.results66, go_sem, *]) rfl ⟨rfl, G.out.set4 0 rfl _ _ _ _⟩
    · rw [if_neg h1]
      have g0 : (E == 0) = false := by simpa using h0
      have g1 : (E == 1) = false := by simpa using h1
      clear h0 h1
      show Calls _ _ _ W fun e w' => e = .returned (.tuple #[.agg #[.int .i64 0, .int .u64 0, .int .i64 0, .int .i64 0], .int .i64 E]) ∧ _
      have F := (((((Fr.start W)).push (g := W.heap.size) (by simp) [.int .i64 op, .int .i64 rg, .int .i64 ty, .int .i64 n, .int .i64 fl, .slice ap al ac, .slice tp tl tc] 25).push (g := W.heap.size + 1) (by simp) [.int .i64 1, .int .u64 x, .int .i64 0, .int .i64 0] 35).push (g := W.heap.size + 1 + 1) (by simp) [.int .i64 1, .int .u64 y, .int .i64 0, .int .i64 0] 35).push (g := W.heap.size + 1 + 1 + 1) (by simp) [.int .i64 0, .int .u64 0, .int .i64 0, .int .i64 0] 35
      have G := Lib.hid F
      clear F
      go_enter Try.func66, Try.ntmps66
      go_wp2_with (first
        | ((with_reducible refine (c1 _).mono ?_); rintro e w1 ⟨rfl, hb⟩; have F := G.out.later hb; (try clear i0 i1 i2 i3 i4 i5 i6 a0 a1 a2 a3 af b0 b1 b2 b3 bf r0 r1 r2 r3 rf); obtain ⟨i0, i1, i2, i3, i4, i5, i6⟩ := F.c7 3 rfl; obtain ⟨a0, a1, a2, a3, af⟩ := F.c4 2 rfl; obtain ⟨b0, b1, b2, b3, bf⟩ := F.c4 1 rfl; obtain ⟨r0, r1, r2, r3, rf⟩ := F.c4 0 rfl; replace G := Lib.hid F; clear F hb))
      exact bodyPost_ret (v := .tuple #[.agg #[.int .i64 0, .int .u64 0, .int .i64 0, .int .i64 0], .int .i64 E]) (by simp [results, Try.results66, go_sem, *]) rfl ⟨rfl, G.out.set4 0 rfl _ _ _ _⟩
theorem joined_p1 (op rg ty n fl : Int) (ap : Option Addr) (al ac : Nat) (tp : Option Addr) (tl tc : Nat) (ab abk ao bk bb bbk bo : Int) (W : World) :
    Calls Try.prog 46 #[.agg #[.int .i64 op, .int .i64 rg, .int .i64 ty, .int .i64 n, .int .i64 fl, .slice ap al ac, .slice tp tl tc], .agg #[.int .i64 0, .int .u64 ab, .int .i64 abk, .int .i64 ao], .agg #[.int .i64 bk, .int .u64 bb, .int .i64 bbk, .int .i64 bo]] W fun e w' => e = .returned (.tuple #[.agg #[.int .i64 0, .int .u64 0, .int .i64 0, .int .i64 0], .int .i64 0]) ∧ Below W.heap.size W w' := by
  have cP : ∀ (p q r s : Int) W, Calls Try.prog 58 #[.agg #[.int .i64 p, .int .u64 q, .int .i64 r, .int .i64 s]] W fun e w' => e = .returned (.bool (p == 0)) ∧ Below W.heap.size W w' := fun p q r s W => isPoison_any ⟨p, q, r, s⟩ W
  have cA : ∀ (p q r s : Int) W, Calls Try.prog 60 #[.agg #[.int .i64 p, .int .u64 q, .int .i64 r, .int .i64 s]] W fun e w' => e = .returned (.bool (p == 3)) ∧ Below W.heap.size W w' := fun p q r s W => isAny_any ⟨p, q, r, s⟩ W
  have b0 := bV0
  have F := (((((Fr.start W)).push (g := W.heap.size) (by simp) [.int .i64 op, .int .i64 rg, .int .i64 ty, .int .i64 n, .int .i64 fl, .slice ap al ac, .slice tp tl tc] 25).push (g := W.heap.size + 1) (by simp) [.int .i64 0, .int .u64 ab, .int .i64 abk, .int .i64 ao] 35).push (g := W.heap.size + 1 + 1) (by simp) [.int .i64 bk, .int .u64 bb, .int .i64 bbk, .int .i64 bo] 35).push (g := W.heap.size + 1 + 1 + 1) (by simp) [.int .i64 0, .int .u64 0, .int .i64 0, .int .i64 0] 35
  have G := Lib.hid F
  clear F
  go_enter Try.func46, Try.ntmps46
  go_wp2_with (first
    | ((with_reducible refine ((cP _ _ _ _) _).mono ?_); rintro e w1 ⟨rfl, hb⟩; have F := G.out.later hb; (try clear i0 i1 i2 i3 i4 i5 i6 a0 a1 a2 a3 af b0 b1 b2 b3 bf r0 r1 r2 r3 rf); obtain ⟨i0, i1, i2, i3, i4, i5, i6⟩ := F.c7 3 rfl; obtain ⟨a0, a1, a2, a3, af⟩ := F.c4 2 rfl; obtain ⟨b0, b1, b2, b3, bf⟩ := F.c4 1 rfl; obtain ⟨r0, r1, r2, r3, rf⟩ := F.c4 0 rfl; replace G := Lib.hid F; clear F hb))
  exact bodyPost_ret (v := .tuple #[.agg #[.int .i64 0, .int .u64 0, .int .i64 0, .int .i64 0], .int .i64 0]) (by simp [results, Try.results46, go_sem, *]) rfl ⟨rfl, G.out.set4 0 rfl _ _ _ _⟩
theorem joined_p2 (op rg ty n fl : Int) (ap : Option Addr) (al ac : Nat) (tp : Option Addr) (tl tc : Nat) (ak ab abk ao bb bbk bo : Int) (ha : (ak == 0) = false) (W : World) :
    Calls Try.prog 46 #[.agg #[.int .i64 op, .int .i64 rg, .int .i64 ty, .int .i64 n, .int .i64 fl, .slice ap al ac, .slice tp tl tc], .agg #[.int .i64 ak, .int .u64 ab, .int .i64 abk, .int .i64 ao], .agg #[.int .i64 0, .int .u64 bb, .int .i64 bbk, .int .i64 bo]] W fun e w' => e = .returned (.tuple #[.agg #[.int .i64 0, .int .u64 0, .int .i64 0, .int .i64 0], .int .i64 0]) ∧ Below W.heap.size W w' := by
  have cP : ∀ (p q r s : Int) W, Calls Try.prog 58 #[.agg #[.int .i64 p, .int .u64 q, .int .i64 r, .int .i64 s]] W fun e w' => e = .returned (.bool (p == 0)) ∧ Below W.heap.size W w' := fun p q r s W => isPoison_any ⟨p, q, r, s⟩ W
  have cA : ∀ (p q r s : Int) W, Calls Try.prog 60 #[.agg #[.int .i64 p, .int .u64 q, .int .i64 r, .int .i64 s]] W fun e w' => e = .returned (.bool (p == 3)) ∧ Below W.heap.size W w' := fun p q r s W => isAny_any ⟨p, q, r, s⟩ W
  have b0 := bV0
  have F := (((((Fr.start W)).push (g := W.heap.size) (by simp) [.int .i64 op, .int .i64 rg, .int .i64 ty, .int .i64 n, .int .i64 fl, .slice ap al ac, .slice tp tl tc] 25).push (g := W.heap.size + 1) (by simp) [.int .i64 ak, .int .u64 ab, .int .i64 abk, .int .i64 ao] 35).push (g := W.heap.size + 1 + 1) (by simp) [.int .i64 0, .int .u64 bb, .int .i64 bbk, .int .i64 bo] 35).push (g := W.heap.size + 1 + 1 + 1) (by simp) [.int .i64 0, .int .u64 0, .int .i64 0, .int .i64 0] 35
  have G := Lib.hid F
  clear F
  go_enter Try.func46, Try.ntmps46
  go_wp2_with (first
    | ((with_reducible refine ((cP _ _ _ _) _).mono ?_); rintro e w1 ⟨rfl, hb⟩; have F := G.out.later hb; (try clear i0 i1 i2 i3 i4 i5 i6 a0 a1 a2 a3 af b0 b1 b2 b3 bf r0 r1 r2 r3 rf); obtain ⟨i0, i1, i2, i3, i4, i5, i6⟩ := F.c7 3 rfl; obtain ⟨a0, a1, a2, a3, af⟩ := F.c4 2 rfl; obtain ⟨b0, b1, b2, b3, bf⟩ := F.c4 1 rfl; obtain ⟨r0, r1, r2, r3, rf⟩ := F.c4 0 rfl; replace G := Lib.hid F; clear F hb))
  exact bodyPost_ret (v := .tuple #[.agg #[.int .i64 0, .int .u64 0, .int .i64 0, .int .i64 0], .int .i64 0]) (by simp [results, Try.results46, go_sem, *]) rfl ⟨rfl, G.out.set4 0 rfl _ _ _ _⟩
theorem joined_a1 (op rg ty n fl : Int) (ap : Option Addr) (al ac : Nat) (tp : Option Addr) (tl tc : Nat) (ab abk ao bk bb bbk bo u : Int) (hb : (bk == 0) = false) (hu : (unfE fl).vl.k = u) (W : World) :
    Calls Try.prog 46 #[.agg #[.int .i64 op, .int .i64 rg, .int .i64 ty, .int .i64 n, .int .i64 fl, .slice ap al ac, .slice tp tl tc], .agg #[.int .i64 3, .int .u64 ab, .int .i64 abk, .int .i64 ao], .agg #[.int .i64 bk, .int .u64 bb, .int .i64 bbk, .int .i64 bo]] W fun e w' => e = .returned (.tuple #[.agg #[.int .i64 u, .int .u64 0, .int .i64 0, .int .i64 0], .int .i64 0]) ∧ Below W.heap.size W w' := by
  have cP : ∀ (p q r s : Int) W, Calls Try.prog 58 #[.agg #[.int .i64 p, .int .u64 q, .int .i64 r, .int .i64 s]] W fun e w' => e = .returned (.bool (p == 0)) ∧ Below W.heap.size W w' := fun p q r s W => isPoison_any ⟨p, q, r, s⟩ W
  have cA : ∀ (p q r s : Int) W, Calls Try.prog 60 #[.agg #[.int .i64 p, .int .u64 q, .int .i64 r, .int .i64 s]] W fun e w' => e = .returned (.bool (p == 3)) ∧ Below W.heap.size W w' := fun p q r s W => isAny_any ⟨p, q, r, s⟩ W
  have b0 := bV0
  have cU : ∀ W, Calls Try.prog 64 #[.agg #[.int .i64 op, .int .i64 rg, .int .i64 ty, .int .i64 n, .int .i64 fl, .slice ap al ac, .slice tp tl tc]] W fun e w' => e = .returned (.agg #[.int .i64 u, .int .u64 0, .int .i64 0, .int .i64 0]) ∧ Below W.heap.size W w' := fun W => (unflagged_any ⟨op, rg, ty, n, fl, ap, al, ac, tp, tl, tc, []⟩ W).mono fun e w' ⟨h1, h2⟩ => ⟨by rw [h1, ← hu]; unfold unfE; split <;> rfl, h2⟩
  have F := (((((Fr.start W)).push (g := W.heap.size) (by simp) [.int .i64 op, .int .i64 rg, .int .i64 ty, .int .i64 n, .int .i64 fl, .slice ap al ac, .slice tp tl tc] 25).push (g := W.heap.size + 1) (by simp) [.int .i64 3, .int .u64 ab, .int .i64 abk, .int .i64 ao] 35).push (g := W.heap.size + 1 + 1) (by simp) [.int .i64 bk, .int .u64 bb, .int .i64 bbk, .int .i64 bo] 35).push (g := W.heap.size + 1 + 1 + 1) (by simp) [.int .i64 0, .int .u64 0, .int .i64 0, .int .i64 0] 35
  have G := Lib.hid F
  clear F hu
  go_enter Try.func46, Try.ntmps46
  go_wp2_with (first
    | ((with_reducible refine ((cP _ _ _ _) _).mono ?_); rintro e w1 ⟨rfl, hb⟩; have F := G.out.later hb; (try clear i0 i1 i2 i3 i4 i5 i6 a0 a1 a2 a3 af b0 b1 b2 b3 bf r0 r1 r2 r3 rf); obtain ⟨i0, i1, i2, i3, i4, i5, i6⟩ := F.c7 3 rfl; obtain ⟨a0, a1, a2, a3, af⟩ := F.c4 2 rfl; obtain ⟨b0, b1, b2, b3, bf⟩ := F.c4 1 rfl; obtain ⟨r0, r1, r2, r3, rf⟩ := F.c4 0 rfl; replace G := Lib.hid F; clear F hb)
    | ((with_reducible refine ((cA _ _ _ _) _).mono ?_); rintro e w1 ⟨rfl, hb⟩; have F := G.out.later hb; (try clear i0 i1 i2 i3 i4 i5 i6 a0 a1 a2 a3 af b0 b1 b2 b3 bf r0 r1 r2 r3 rf); obtain ⟨i0, i1, i2, i3, i4, i5, i6⟩ := F.c7 3 rfl; obtain ⟨a0, a1, a2, a3, af⟩ := F.c4 2 rfl; obtain ⟨b0, b1, b2, b3, bf⟩ := F.c4 1 rfl; obtain ⟨r0, r1, r2, r3, rf⟩ := F.c4 0 rfl; replace G := Lib.hid F; clear F hb)
    | ((with_reducible refine (cU _).mono ?_); rintro e w1 ⟨rfl, hb⟩; have F := G.out.later hb; (try clear i0 i1 i2 i3 i4 i5 i6 a0 a1 a2 a3 af b0 b1 b2 b3 bf r0 r1 r2 r3 rf); obtain ⟨i0, i1, i2, i3, i4, i5, i6⟩ := F.c7 3 rfl; obtain ⟨a0, a1, a2, a3, af⟩ := F.c4 2 rfl; obtain ⟨b0, b1, b2, b3, bf⟩ := F.c4 1 rfl; obtain ⟨r0, r1, r2, r3, rf⟩ := F.c4 0 rfl; replace G := Lib.hid F; clear F hb))
  exact bodyPost_ret (v := .tuple #[.agg #[.int .i64 u, .int .u64 0, .int .i64 0, .int .i64 0], .int .i64 0]) (by simp [results, Try.results46, go_sem, *]) rfl ⟨rfl, G.out.set4 0 rfl _ _ _ _⟩
theorem joined_a2 (op rg ty n fl : Int) (ap : Option Addr) (al ac : Nat) (tp : Option Addr) (tl tc : Nat) (ak ab abk ao bb bbk bo u : Int) (ha : (ak == 0) = false) (ha3 : (ak == 3) = false) (hu : (unfE fl).vl.k = u) (W : World) :
    Calls Try.prog 46 #[.agg #[.int .i64 op, .int .i64 rg, .int .i64 ty, .int .i64 n, .int .i64 fl, .slice ap al ac, .slice tp tl tc], .agg #[.int .i64 ak, .int .u64 ab, .int .i64 abk, .int .i64 ao], .agg #[.int .i64 3, .int .u64 bb, .int .i64 bbk, .int .i64 bo]] W fun e w' => e = .returned (.tuple #[.agg #[.int .i64 u, .int .u64 0, .int .i64 0, .int .i64 0], .int .i64 0]) ∧ Below W.heap.size W w' := by
  have cP : ∀ (p q r s : Int) W, Calls Try.prog 58 #[.agg #[.int .i64 p, .int .u64 q, .int .i64 r, .int .i64 s]] W fun e w' => e = .returned (.bool (p == 0)) ∧ Below W.heap.size W w' := fun p q r s W => isPoison_any ⟨p, q, r, s⟩ W
  have cA : ∀ (p q r s : Int) W, Calls Try.prog 60 #[.agg #[.int .i64 p, .int .u64 q, .int .i64 r, .int .i64 s]] W fun e w' => e = .returned (.bool (p == 3)) ∧ Below W.heap.size W w' := fun p q r s W => isAny_any ⟨p, q, r, s⟩ W
  have b0 := bV0
  have cU : ∀ W, Calls Try.prog 64 #[.agg #[.int .i64 op, .int .i64 rg, .int .i64 ty, .int .i64 n, .int .i64 fl, .slice ap al ac, .slice tp tl tc]] W fun e w' => e = .returned (.agg #[.int .i64 u, .int .u64 0, .int .i64 0, .int .i64 0]) ∧ Below W.heap.size W w' := fun W => (unflagged_any ⟨op, rg, ty, n, fl, ap, al, ac, tp, tl, tc, []⟩ W).mono fun e w' ⟨h1, h2⟩ => ⟨by rw [h1, ← hu]; unfold unfE; split <;> rfl, h2⟩
  have F := (((((Fr.start W)).push (g := W.heap.size) (by simp) [.int .i64 op, .int .i64 rg, .int .i64 ty, .int .i64 n, .int .i64 fl, .slice ap al ac, .slice tp tl tc] 25).push (g := W.heap.size + 1) (by simp) [.int .i64 ak, .int .u64 ab, .int .i64 abk, .int .i64 ao] 35).push (g := W.heap.size + 1 + 1) (by simp) [.int .i64 3, .int .u64 bb, .int .i64 bbk, .int .i64 bo] 35).push (g := W.heap.size + 1 + 1 + 1) (by simp) [.int .i64 0, .int .u64 0, .int .i64 0, .int .i64 0] 35
  have G := Lib.hid F
  clear F hu
  go_enter Try.func46, Try.ntmps46
  go_wp2_with (first
    | ((with_reducible refine ((cP _ _ _ _) _).mono ?_); rintro e w1 ⟨rfl, hb⟩; have F := G.out.later hb; (try clear i0 i1 i2 i3 i4 i5 i6 a0 a1 a2 a3 af b0 b1 b2 b3 bf r0 r1 r2 r3 rf); obtain ⟨i0, i1, i2, i3, i4, i5, i6⟩ := F.c7 3 rfl; obtain ⟨a0, a1, a2, a3, af⟩ := F.c4 2 rfl; obtain ⟨b0, b1, b2, b3, bf⟩ := F.c4 1 rfl; obtain ⟨r0, r1, r2, r3, rf⟩ := F.c4 0 rfl; replace G := Lib.hid F; clear F hb)
    | ((with_reducible refine ((cA _ _ _ _) _).mono ?_); rintro e w1 ⟨rfl, hb⟩; have F := G.out.later hb; (try clear i0 i1 i2 i3 i4 i5 i6 a0 a1 a2 a3 af b0 b1 b2 b3 bf r0 r1 r2 r3 rf); obtain ⟨i0, i1, i2, i3, i4, i5, i6⟩ := F.c7 3 rfl; obtain ⟨a0, a1, a2, a3, af⟩ := F.c4 2 rfl; obtain ⟨b0, b1, b2, b3, bf⟩ := F.c4 1 rfl; obtain ⟨r0, r1, r2, r3, rf⟩ := F.c4 0 rfl; replace G := Lib.hid F; clear F hb)
    | ((with_reducible refine (cU _).mono ?_); rintro e w1 ⟨rfl, hb⟩; have F := G.out.later hb; (try clear i0 i1 i2 i3 i4 i5 i6 a0 a1 a2 a3 af b0 b1 b2 b3 bf r0 r1 r2 r3 rf); obtain ⟨i0, i1, i2, i3, i4, i5, i6⟩ := F.c7 3 rfl; obtain ⟨a0, a1, a2, a3, af⟩ := F.c4 2 rfl; obtain ⟨b0, b1, b2, b3, bf⟩ := F.c4 1 rfl; obtain ⟨r0, r1, r2, r3, rf⟩ := F.c4 0 rfl; replace G := Lib.hid F; clear F hb))
  exact bodyPost_ret (v := .tuple #[.agg #[.int .i64 u, .int .u64 0, .int .i64 0, .int .i64 0], .int .i64 0]) (by simp [results, Try.results46, go_sem, *]) rfl ⟨rfl, G.out.set4 0 rfl _ _ _ _⟩
theorem joined_n (op rg ty n fl : Int) (ap : Option Addr) (al ac : Nat) (tp : Option Addr) (tl tc : Nat) (x y zk zb zbk zo E : Int) (ht : (ty == 65) = false) (c5 : ∀ W, Calls Try.prog 66 #[.agg #[.int .i64 op, .int .i64 rg, .int .i64 ty, .int .i64 n, .int .i64 fl, .slice ap al ac, .slice tp tl tc], .agg #[.int .i64 1, .int .u64 x, .int .i64 0, .int .i64 0], .agg #[.int .i64 1, .int .u64 y, .int .i64 0, .int .i64 0]] W fun e w' => e = .returned (.tuple #[.agg #[.int .i64 zk, .int .u64 zb, .int .i64 zbk, .int .i64 zo], .int .i64 E]) ∧ Below W.heap.size W w') (W : World) :
    Calls Try.prog 46 #[.agg #[.int .i64 op, .int .i64 rg, .int .i64 ty, .int .i64 n, .int .i64 fl, .slice ap al ac, .slice tp tl tc], .agg #[.int .i64 1, .int .u64 x, .int .i64 0, .int .i64 0], .agg #[.int .i64 1, .int .u64 y, .int .i64 0, .int .i64 0]] W fun e w' => e = .returned (.tuple #[.agg #[.int .i64 zk, .int .u64 zb, .int .i64 zbk, .int .i64 zo], .int .i64 E]) ∧ Below W.heap.size W w' := by
  have cP : ∀ (p q r s : Int) W, Calls Try.prog 58 #[.agg #[.int .i64 p, .int .u64 q, .int .i64 r, .int .i64 s]] W fun e w' => e = .returned (.bool (p == 0)) ∧ Below W.heap.size W w' := fun p q r s W => isPoison_any ⟨p, q, r, s⟩ W
  have cA : ∀ (p q r s : Int) W, Calls Try.prog 60 #[.agg #[.int .i64 p, .int .u64 q, .int .i64 r, .int .i64 s]] W fun e w' => e = .returned (.bool (p == 3)) ∧ Below W.heap.size W w' := fun p q r s W => isAny_any ⟨p, q, r, s⟩ W
  have b0 := bV0
  have F := (((((Fr.start W)).push (g := W.heap.size) (by simp) [.int .i64 op, .int .i64 rg, .int .i64 ty, .int .i64 n, .int .i64 fl, .slice ap al ac, .slice tp tl tc] 25).push (g := W.heap.size + 1) (by simp) [.int .i64 1, .int .u64 x, .int .i64 0, .int .i64 0] 35).push (g := W.heap.size + 1 + 1) (by simp) [.int .i64 1, .int .u64 y, .int .i64 0, .int .i64 0] 35).push (g := W.heap.size + 1 + 1 + 1) (by simp) [.int .i64 0, .int .u64 0, .int .i64 0, .int .i64 0] 35
  have G := Lib.hid F
  clear F
  go_enter Try.func46, Try.ntmps46
  go_wp2_with (first
    | ((with_reducible refine ((cP _ _ _ _) _).mono ?_); rintro e w1 ⟨rfl, hb⟩; have F := G.out.later hb; (try clear i0 i1 i2 i3 i4 i5 i6 a0 a1 a2 a3 af b0 b1 b2 b3 bf r0 r1 r2 r3 rf); obtain ⟨i0, i1, i2, i3, i4, i5, i6⟩ := F.c7 3 rfl; obtain ⟨a0, a1, a2, a3, af⟩ := F.c4 2 rfl; obtain ⟨b0, b1, b2, b3, bf⟩ := F.c4 1 rfl; obtain ⟨r0, r1, r2, r3, rf⟩ := F.c4 0 rfl; replace G := Lib.hid F; clear F hb)
    | ((with_reducible refine ((cA _ _ _ _) _).mono ?_); rintro e w1 ⟨rfl, hb⟩; have F := G.out.later hb; (try clear i0 i1 i2 i3 i4 i5 i6 a0 a1 a2 a3 af b0 b1 b2 b3 bf r0 r1 r2 r3 rf); obtain ⟨i0, i1, i2, i3, i4, i5, i6⟩ := F.c7 3 rfl; obtain ⟨a0, a1, a2, a3, af⟩ := F.c4 2 rfl; obtain ⟨b0, b1, b2, b3, bf⟩ := F.c4 1 rfl; obtain ⟨r0, r1, r2, r3, rf⟩ := F.c4 0 rfl; replace G := Lib.hid F; clear F hb)
    | ((with_reducible refine (c5 _).mono ?_); rintro e w1 ⟨rfl, hb⟩; have F := G.out.later hb; (try clear i0 i1 i2 i3 i4 i5 i6 a0 a1 a2 a3 af b0 b1 b2 b3 bf r0 r1 r2 r3 rf); obtain ⟨i0, i1, i2, i3, i4, i5, i6⟩ := F.c7 3 rfl; obtain ⟨a0, a1, a2, a3, af⟩ := F.c4 2 rfl; obtain ⟨b0, b1, b2, b3, bf⟩ := F.c4 1 rfl; obtain ⟨r0, r1, r2, r3, rf⟩ := F.c4 0 rfl; replace G := Lib.hid F; clear F hb))
  exact bodyPost_ret (v := .tuple #[.agg #[.int .i64 zk, .int .u64 zb, .int .i64 zbk, .int .i64 zo], .int .i64 E]) (by simp [results, Try.results46, go_sem, *]) rfl ⟨rfl, G.out.set4 0 rfl _ _ _ _⟩
theorem joined_s_t (op rg ty n fl : Int) (ap : Option Addr) (al ac : Nat) (tp : Option Addr) (tl tc : Nat) (c e g h : Int) (ht : (ty == 65) = true) (ho : (op == 14) = true) (W : World) :
    Calls Try.prog 46 #[.agg #[.int .i64 op, .int .i64 rg, .int .i64 ty, .int .i64 n, .int .i64 fl, .slice ap al ac, .slice tp tl tc], .agg #[.int .i64 2, .int .u64 0, .int .i64 c, .int .i64 e], .agg #[.int .i64 2, .int .u64 0, .int .i64 c, .int .i64 e]] W fun e w' => e = .returned (.tuple #[.agg #[.int .i64 1, .int .u64 1, .int .i64 0, .int .i64 0], .int .i64 0]) ∧ Below W.heap.size W w' := by
  have cP : ∀ (p q r s : Int) W, Calls Try.prog 58 #[.agg #[.int .i64 p, .int .u64 q, .int .i64 r, .int .i64 s]] W fun e w' => e = .returned (.bool (p == 0)) ∧ Below W.heap.size W w' := fun p q r s W => isPoison_any ⟨p, q, r, s⟩ W
  have cA : ∀ (p q r s : Int) W, Calls Try.prog 60 #[.agg #[.int .i64 p, .int .u64 q, .int .i64 r, .int .i64 s]] W fun e w' => e = .returned (.bool (p == 3)) ∧ Below W.heap.size W w' := fun p q r s W => isAny_any ⟨p, q, r, s⟩ W
  have b0 := bV0
  have cT : ∀ (b : Bool) W, Calls Try.prog 65 #[.bool b] W fun e w' => e = .returned (.agg #[.int .i64 1, .int .u64 (if b = true then 1 else 0), .int .i64 0, .int .i64 0]) ∧ Below W.heap.size W w' := fun b W => truth_any b W
  have c1 : ∀ W, Calls Try.prog 65 #[.bool true] W fun e w' => e = .returned (.agg #[.int .i64 1, .int .u64 1, .int .i64 0, .int .i64 0]) ∧ Below W.heap.size W w' := fun W => cT true W
  clear cT
  have F := (((((Fr.start W)).push (g := W.heap.size) (by simp) [.int .i64 op, .int .i64 rg, .int .i64 ty, .int .i64 n, .int .i64 fl, .slice ap al ac, .slice tp tl tc] 25).push (g := W.heap.size + 1) (by simp) [.int .i64 2, .int .u64 0, .int .i64 c, .int .i64 e] 35).push (g := W.heap.size + 1 + 1) (by simp) [.int .i64 2, .int .u64 0, .int .i64 c, .int .i64 e] 35).push (g := W.heap.size + 1 + 1 + 1) (by simp) [.int .i64 0, .int .u64 0, .int .i64 0, .int .i64 0] 35
  have G := Lib.hid F
  clear F
  go_enter Try.func46, Try.ntmps46
  go_wp2_with (first
    | ((with_reducible refine ((cP _ _ _ _) _).mono ?_); rintro e w1 ⟨rfl, hb⟩; have F := G.out.later hb; (try clear i0 i1 i2 i3 i4 i5 i6 a0 a1 a2 a3 af b0 b1 b2 b3 bf r0 r1 r2 r3 rf); obtain ⟨i0, i1, i2, i3, i4, i5, i6⟩ := F.c7 3 rfl; obtain ⟨a0, a1, a2, a3, af⟩ := F.c4 2 rfl; obtain ⟨b0, b1, b2, b3, bf⟩ := F.c4 1 rfl; obtain ⟨r0, r1, r2, r3, rf⟩ := F.c4 0 rfl; replace G := Lib.hid F; clear F hb)
    | ((with_reducible refine ((cA _ _ _ _) _).mono ?_); rintro e w1 ⟨rfl, hb⟩; have F := G.out.later hb; (try clear i0 i1 i2 i3 i4 i5 i6 a0 a1 a2 a3 af b0 b1 b2 b3 bf r0 r1 r2 r3 rf); obtain ⟨i0, i1, i2, i3, i4, i5, i6⟩ := F.c7 3 rfl; obtain ⟨a0, a1, a2, a3, af⟩ := F.c4 2 rfl; obtain ⟨b0, b1, b2, b3, bf⟩ := F.c4 1 rfl; obtain ⟨r0, r1, r2, r3, rf⟩ := F.c4 0 rfl; replace G := Lib.hid F; clear F hb))
  go_region_law (first
    | (go_simp; (with_reducible refine (c1 _).mono ?_); rintro e w9 ⟨rfl, hb⟩; have F := G.out.drew.later hb; (try clear i0 i1 i2 i3 i4 i5 i6 a0 a1 a2 a3 af b0 b1 b2 b3 bf r0 r1 r2 r3 rf); obtain ⟨i0, i1, i2, i3, i4, i5, i6⟩ := F.c7 3 rfl; obtain ⟨a0, a1, a2, a3, af⟩ := F.c4 2 rfl; obtain ⟨b0, b1, b2, b3, bf⟩ := F.c4 1 rfl; obtain ⟨r0, r1, r2, r3, rf⟩ := F.c4 0 rfl; replace G := Lib.hid F; clear F hb))
  all_goals
    go_wp2_with fail
    exact bodyPost_ret (v := .tuple #[.agg #[.int .i64 1, .int .u64 1, .int .i64 0, .int .i64 0], .int .i64 0]) (by simp [results, Try.results46, go_sem, *]) rfl ⟨rfl, G.out.set4 0 rfl _ _ _ _⟩
theorem joined_s_f (op rg ty n fl : Int) (ap : Option Addr) (al ac : Nat) (tp : Option Addr) (tl tc : Nat) (c e g h : Int) (ht : (ty == 65) = true) (ho : (op == 14) = false) (W : World) :
    Calls Try.prog 46 #[.agg #[.int .i64 op, .int .i64 rg, .int .i64 ty, .int .i64 n, .int .i64 fl, .slice ap al ac, .slice tp tl tc], .agg #[.int .i64 2, .int .u64 0, .int .i64 c, .int .i64 e], .agg #[.int .i64 2, .int .u64 0, .int .i64 c, .int .i64 e]] W fun e w' => e = .returned (.tuple #[.agg #[.int .i64 1, .int .u64 0, .int .i64 0, .int .i64 0], .int .i64 0]) ∧ Below W.heap.size W w' := by
  have cP : ∀ (p q r s : Int) W, Calls Try.prog 58 #[.agg #[.int .i64 p, .int .u64 q, .int .i64 r, .int .i64 s]] W fun e w' => e = .returned (.bool (p == 0)) ∧ Below W.heap.size W w' := fun p q r s W => isPoison_any ⟨p, q, r, s⟩ W
  have cA : ∀ (p q r s : Int) W, Calls Try.prog 60 #[.agg #[.int .i64 p, .int .u64 q, .int .i64 r, .int .i64 s]] W fun e w' => e = .returned (.bool (p == 3)) ∧ Below W.heap.size W w' := fun p q r s W => isAny_any ⟨p, q, r, s⟩ W
  have b0 := bV0
  have cT : ∀ (b : Bool) W, Calls Try.prog 65 #[.bool b] W fun e w' => e = .returned (.agg #[.int .i64 1, .int .u64 (if b = true then 1 else 0), .int .i64 0, .int .i64 0]) ∧ Below W.heap.size W w' := fun b W => truth_any b W
  have c1 : ∀ W, Calls Try.prog 65 #[.bool false] W fun e w' => e = .returned (.agg #[.int .i64 1, .int .u64 0, .int .i64 0, .int .i64 0]) ∧ Below W.heap.size W w' := fun W => cT false W
  clear cT
  have F := (((((Fr.start W)).push (g := W.heap.size) (by simp) [.int .i64 op, .int .i64 rg, .int .i64 ty, .int .i64 n, .int .i64 fl, .slice ap al ac, .slice tp tl tc] 25).push (g := W.heap.size + 1) (by simp) [.int .i64 2, .int .u64 0, .int .i64 c, .int .i64 e] 35).push (g := W.heap.size + 1 + 1) (by simp) [.int .i64 2, .int .u64 0, .int .i64 c, .int .i64 e] 35).push (g := W.heap.size + 1 + 1 + 1) (by simp) [.int .i64 0, .int .u64 0, .int .i64 0, .int .i64 0] 35
  have G := Lib.hid F
  clear F
  go_enter Try.func46, Try.ntmps46
  go_wp2_with (first
    | ((with_reducible refine ((cP _ _ _ _) _).mono ?_); rintro e w1 ⟨rfl, hb⟩; have F := G.out.later hb; (try clear i0 i1 i2 i3 i4 i5 i6 a0 a1 a2 a3 af b0 b1 b2 b3 bf r0 r1 r2 r3 rf); obtain ⟨i0, i1, i2, i3, i4, i5, i6⟩ := F.c7 3 rfl; obtain ⟨a0, a1, a2, a3, af⟩ := F.c4 2 rfl; obtain ⟨b0, b1, b2, b3, bf⟩ := F.c4 1 rfl; obtain ⟨r0, r1, r2, r3, rf⟩ := F.c4 0 rfl; replace G := Lib.hid F; clear F hb)
    | ((with_reducible refine ((cA _ _ _ _) _).mono ?_); rintro e w1 ⟨rfl, hb⟩; have F := G.out.later hb; (try clear i0 i1 i2 i3 i4 i5 i6 a0 a1 a2 a3 af b0 b1 b2 b3 bf r0 r1 r2 r3 rf); obtain ⟨i0, i1, i2, i3, i4, i5, i6⟩ := F.c7 3 rfl; obtain ⟨a0, a1, a2, a3, af⟩ := F.c4 2 rfl; obtain ⟨b0, b1, b2, b3, bf⟩ := F.c4 1 rfl; obtain ⟨r0, r1, r2, r3, rf⟩ := F.c4 0 rfl; replace G := Lib.hid F; clear F hb))
  go_region_law (first
    | (go_simp; (with_reducible refine (c1 _).mono ?_); rintro e w9 ⟨rfl, hb⟩; have F := G.out.drew.later hb; (try clear i0 i1 i2 i3 i4 i5 i6 a0 a1 a2 a3 af b0 b1 b2 b3 bf r0 r1 r2 r3 rf); obtain ⟨i0, i1, i2, i3, i4, i5, i6⟩ := F.c7 3 rfl; obtain ⟨a0, a1, a2, a3, af⟩ := F.c4 2 rfl; obtain ⟨b0, b1, b2, b3, bf⟩ := F.c4 1 rfl; obtain ⟨r0, r1, r2, r3, rf⟩ := F.c4 0 rfl; replace G := Lib.hid F; clear F hb))
  all_goals
    go_wp2_with fail
    exact bodyPost_ret (v := .tuple #[.agg #[.int .i64 1, .int .u64 0, .int .i64 0, .int .i64 0], .int .i64 0]) (by simp [results, Try.results46, go_sem, *]) rfl ⟨rfl, G.out.set4 0 rfl _ _ _ _⟩
theorem joined_d1_t (op rg ty n fl : Int) (ap : Option Addr) (al ac : Nat) (tp : Option Addr) (tl tc : Nat) (c e g h : Int) (ht : (ty == 65) = true) (h1 : (c == g) = false) (ho : (op == 14) = true) (W : World) :
    Calls Try.prog 46 #[.agg #[.int .i64 op, .int .i64 rg, .int .i64 ty, .int .i64 n, .int .i64 fl, .slice ap al ac, .slice tp tl tc], .agg #[.int .i64 2, .int .u64 0, .int .i64 c, .int .i64 e], .agg #[.int .i64 2, .int .u64 0, .int .i64 g, .int .i64 h]] W fun e w' => e = .returned (.tuple #[.agg #[.int .i64 1, .int .u64 0, .int .i64 0, .int .i64 0], .int .i64 0]) ∧ Below W.heap.size W w' := by
  have cP : ∀ (p q r s : Int) W, Calls Try.prog 58 #[.agg #[.int .i64 p, .int .u64 q, .int .i64 r, .int .i64 s]] W fun e w' => e = .returned (.bool (p == 0)) ∧ Below W.heap.size W w' := fun p q r s W => isPoison_any ⟨p, q, r, s⟩ W
  have cA : ∀ (p q r s : Int) W, Calls Try.prog 60 #[.agg #[.int .i64 p, .int .u64 q, .int .i64 r, .int .i64 s]] W fun e w' => e = .returned (.bool (p == 3)) ∧ Below W.heap.size W w' := fun p q r s W => isAny_any ⟨p, q, r, s⟩ W
  have b0 := bV0
  have cT : ∀ (b : Bool) W, Calls Try.prog 65 #[.bool b] W fun e w' => e = .returned (.agg #[.int .i64 1, .int .u64 (if b = true then 1 else 0), .int .i64 0, .int .i64 0]) ∧ Below W.heap.size W w' := fun b W => truth_any b W
  have c1 : ∀ W, Calls Try.prog 65 #[.bool false] W fun e w' => e = .returned (.agg #[.int .i64 1, .int .u64 0, .int .i64 0, .int .i64 0]) ∧ Below W.heap.size W w' := fun W => cT false W
  clear cT
  have F := (((((Fr.start W)).push (g := W.heap.size) (by simp) [.int .i64 op, .int .i64 rg, .int .i64 ty, .int .i64 n, .int .i64 fl, .slice ap al ac, .slice tp tl tc] 25).push (g := W.heap.size + 1) (by simp) [.int .i64 2, .int .u64 0, .int .i64 c, .int .i64 e] 35).push (g := W.heap.size + 1 + 1) (by simp) [.int .i64 2, .int .u64 0, .int .i64 g, .int .i64 h] 35).push (g := W.heap.size + 1 + 1 + 1) (by simp) [.int .i64 0, .int .u64 0, .int .i64 0, .int .i64 0] 35
  have G := Lib.hid F
  clear F
  go_enter Try.func46, Try.ntmps46
  go_wp2_with (first
    | ((with_reducible refine ((cP _ _ _ _) _).mono ?_); rintro e w1 ⟨rfl, hb⟩; have F := G.out.later hb; (try clear i0 i1 i2 i3 i4 i5 i6 a0 a1 a2 a3 af b0 b1 b2 b3 bf r0 r1 r2 r3 rf); obtain ⟨i0, i1, i2, i3, i4, i5, i6⟩ := F.c7 3 rfl; obtain ⟨a0, a1, a2, a3, af⟩ := F.c4 2 rfl; obtain ⟨b0, b1, b2, b3, bf⟩ := F.c4 1 rfl; obtain ⟨r0, r1, r2, r3, rf⟩ := F.c4 0 rfl; replace G := Lib.hid F; clear F hb)
    | ((with_reducible refine ((cA _ _ _ _) _).mono ?_); rintro e w1 ⟨rfl, hb⟩; have F := G.out.later hb; (try clear i0 i1 i2 i3 i4 i5 i6 a0 a1 a2 a3 af b0 b1 b2 b3 bf r0 r1 r2 r3 rf); obtain ⟨i0, i1, i2, i3, i4, i5, i6⟩ := F.c7 3 rfl; obtain ⟨a0, a1, a2, a3, af⟩ := F.c4 2 rfl; obtain ⟨b0, b1, b2, b3, bf⟩ := F.c4 1 rfl; obtain ⟨r0, r1, r2, r3, rf⟩ := F.c4 0 rfl; replace G := Lib.hid F; clear F hb))
  go_region_law (first
    | (go_simp; (with_reducible refine (c1 _).mono ?_); rintro e w9 ⟨rfl, hb⟩; have F := G.out.drew.later hb; (try clear i0 i1 i2 i3 i4 i5 i6 a0 a1 a2 a3 af b0 b1 b2 b3 bf r0 r1 r2 r3 rf); obtain ⟨i0, i1, i2, i3, i4, i5, i6⟩ := F.c7 3 rfl; obtain ⟨a0, a1, a2, a3, af⟩ := F.c4 2 rfl; obtain ⟨b0, b1, b2, b3, bf⟩ := F.c4 1 rfl; obtain ⟨r0, r1, r2, r3, rf⟩ := F.c4 0 rfl; replace G := Lib.hid F; clear F hb))
  all_goals
    go_wp2_with fail
    exact bodyPost_ret (v := .tuple #[.agg #[.int .i64 1, .int .u64 0, .int .i64 0, .int .i64 0], .int .i64 0]) (by simp [results, Try.results46, go_sem, *]) rfl ⟨rfl, G.out.set4 0 rfl _ _ _ _⟩
theorem joined_d1_f (op rg ty n fl : Int) (ap : Option Addr) (al ac : Nat) (tp : Option Addr) (tl tc : Nat) (c e g h : Int) (ht : (ty == 65) = true) (h1 : (c == g) = false) (ho : (op == 14) = false) (W : World) :
    Calls Try.prog 46 #[.agg #[.int .i64 op, .int .i64 rg, .int .i64 ty, .int .i64 n, .int .i64 fl, .slice ap al ac, .slice tp tl tc], .agg #[.int .i64 2, .int .u64 0, .int .i64 c, .int .i64 e], .agg #[.int .i64 2, .int .u64 0, .int .i64 g, .int .i64 h]] W fun e w' => e = .returned (.tuple #[.agg #[.int .i64 1, .int .u64 1, .int .i64 0, .int .i64 0], .int .i64 0]) ∧ Below W.heap.size W w' := by
  have cP : ∀ (p q r s : Int) W, Calls Try.prog 58 #[.agg #[.int .i64 p, .int .u64 q, .int .i64 r, .int .i64 s]] W fun e w' => e = .returned (.bool (p == 0)) ∧ Below W.heap.size W w' := fun p q r s W => isPoison_any ⟨p, q, r, s⟩ W
  have cA : ∀ (p q r s : Int) W, Calls Try.prog 60 #[.agg #[.int .i64 p, .int .u64 q, .int .i64 r, .int .i64 s]] W fun e w' => e = .returned (.bool (p == 3)) ∧ Below W.heap.size W w' := fun p q r s W => isAny_any ⟨p, q, r, s⟩ W
  have b0 := bV0
  have cT : ∀ (b : Bool) W, Calls Try.prog 65 #[.bool b] W fun e w' => e = .returned (.agg #[.int .i64 1, .int .u64 (if b = true then 1 else 0), .int .i64 0, .int .i64 0]) ∧ Below W.heap.size W w' := fun b W => truth_any b W
  have c1 : ∀ W, Calls Try.prog 65 #[.bool true] W fun e w' => e = .returned (.agg #[.int .i64 1, .int .u64 1, .int .i64 0, .int .i64 0]) ∧ Below W.heap.size W w' := fun W => cT true W
  clear cT
  have F := (((((Fr.start W)).push (g := W.heap.size) (by simp) [.int .i64 op, .int .i64 rg, .int .i64 ty, .int .i64 n, .int .i64 fl, .slice ap al ac, .slice tp tl tc] 25).push (g := W.heap.size + 1) (by simp) [.int .i64 2, .int .u64 0, .int .i64 c, .int .i64 e] 35).push (g := W.heap.size + 1 + 1) (by simp) [.int .i64 2, .int .u64 0, .int .i64 g, .int .i64 h] 35).push (g := W.heap.size + 1 + 1 + 1) (by simp) [.int .i64 0, .int .u64 0, .int .i64 0, .int .i64 0] 35
  have G := Lib.hid F
  clear F
  go_enter Try.func46, Try.ntmps46
  go_wp2_with (first
    | ((with_reducible refine ((cP _ _ _ _) _).mono ?_); rintro e w1 ⟨rfl, hb⟩; have F := G.out.later hb; (try clear i0 i1 i2 i3 i4 i5 i6 a0 a1 a2 a3 af b0 b1 b2 b3 bf r0 r1 r2 r3 rf); obtain ⟨i0, i1, i2, i3, i4, i5, i6⟩ := F.c7 3 rfl; obtain ⟨a0, a1, a2, a3, af⟩ := F.c4 2 rfl; obtain ⟨b0, b1, b2, b3, bf⟩ := F.c4 1 rfl; obtain ⟨r0, r1, r2, r3, rf⟩ := F.c4 0 rfl; replace G := Lib.hid F; clear F hb)
    | ((with_reducible refine ((cA _ _ _ _) _).mono ?_); rintro e w1 ⟨rfl, hb⟩; have F := G.out.later hb; (try clear i0 i1 i2 i3 i4 i5 i6 a0 a1 a2 a3 af b0 b1 b2 b3 bf r0 r1 r2 r3 rf); obtain ⟨i0, i1, i2, i3, i4, i5, i6⟩ := F.c7 3 rfl; obtain ⟨a0, a1, a2, a3, af⟩ := F.c4 2 rfl; obtain ⟨b0, b1, b2, b3, bf⟩ := F.c4 1 rfl; obtain ⟨r0, r1, r2, r3, rf⟩ := F.c4 0 rfl; replace G := Lib.hid F; clear F hb))
  go_region_law (first
    | (go_simp; (with_reducible refine (c1 _).mono ?_); rintro e w9 ⟨rfl, hb⟩; have F := G.out.drew.later hb; (try clear i0 i1 i2 i3 i4 i5 i6 a0 a1 a2 a3 af b0 b1 b2 b3 bf r0 r1 r2 r3 rf); obtain ⟨i0, i1, i2, i3, i4, i5, i6⟩ := F.c7 3 rfl; obtain ⟨a0, a1, a2, a3, af⟩ := F.c4 2 rfl; obtain ⟨b0, b1, b2, b3, bf⟩ := F.c4 1 rfl; obtain ⟨r0, r1, r2, r3, rf⟩ := F.c4 0 rfl; replace G := Lib.hid F; clear F hb))
  all_goals
    go_wp2_with fail
    exact bodyPost_ret (v := .tuple #[.agg #[.int .i64 1, .int .u64 1, .int .i64 0, .int .i64 0], .int .i64 0]) (by simp [results, Try.results46, go_sem, *]) rfl ⟨rfl, G.out.set4 0 rfl _ _ _ _⟩
theorem joined_d2_t (op rg ty n fl : Int) (ap : Option Addr) (al ac : Nat) (tp : Option Addr) (tl tc : Nat) (c e g h : Int) (ht : (ty == 65) = true) (h1 : (e == h) = false) (ho : (op == 14) = true) (W : World) :
    Calls Try.prog 46 #[.agg #[.int .i64 op, .int .i64 rg, .int .i64 ty, .int .i64 n, .int .i64 fl, .slice ap al ac, .slice tp tl tc], .agg #[.int .i64 2, .int .u64 0, .int .i64 c, .int .i64 e], .agg #[.int .i64 2, .int .u64 0, .int .i64 c, .int .i64 h]] W fun e w' => e = .returned (.tuple #[.agg #[.int .i64 1, .int .u64 0, .int .i64 0, .int .i64 0], .int .i64 0]) ∧ Below W.heap.size W w' := by
  have cP : ∀ (p q r s : Int) W, Calls Try.prog 58 #[.agg #[.int .i64 p, .int .u64 q, .int .i64 r, .int .i64 s]] W fun e w' => e = .returned (.bool (p == 0)) ∧ Below W.heap.size W w' := fun p q r s W => isPoison_any ⟨p, q, r, s⟩ W
  have cA : ∀ (p q r s : Int) W, Calls Try.prog 60 #[.agg #[.int .i64 p, .int .u64 q, .int .i64 r, .int .i64 s]] W fun e w' => e = .returned (.bool (p == 3)) ∧ Below W.heap.size W w' := fun p q r s W => isAny_any ⟨p, q, r, s⟩ W
  have b0 := bV0
  have cT : ∀ (b : Bool) W, Calls Try.prog 65 #[.bool b] W fun e w' => e = .returned (.agg #[.int .i64 1, .int .u64 (if b = true then 1 else 0), .int .i64 0, .int .i64 0]) ∧ Below W.heap.size W w' := fun b W => truth_any b W
  have c1 : ∀ W, Calls Try.prog 65 #[.bool false] W fun e w' => e = .returned (.agg #[.int .i64 1, .int .u64 0, .int .i64 0, .int .i64 0]) ∧ Below W.heap.size W w' := fun W => cT false W
  clear cT
  have F := (((((Fr.start W)).push (g := W.heap.size) (by simp) [.int .i64 op, .int .i64 rg, .int .i64 ty, .int .i64 n, .int .i64 fl, .slice ap al ac, .slice tp tl tc] 25).push (g := W.heap.size + 1) (by simp) [.int .i64 2, .int .u64 0, .int .i64 c, .int .i64 e] 35).push (g := W.heap.size + 1 + 1) (by simp) [.int .i64 2, .int .u64 0, .int .i64 c, .int .i64 h] 35).push (g := W.heap.size + 1 + 1 + 1) (by simp) [.int .i64 0, .int .u64 0, .int .i64 0, .int .i64 0] 35
  have G := Lib.hid F
  clear F
  go_enter Try.func46, Try.ntmps46
  go_wp2_with (first
    | ((with_reducible refine ((cP _ _ _ _) _).mono ?_); rintro e w1 ⟨rfl, hb⟩; have F := G.out.later hb; (try clear i0 i1 i2 i3 i4 i5 i6 a0 a1 a2 a3 af b0 b1 b2 b3 bf r0 r1 r2 r3 rf); obtain ⟨i0, i1, i2, i3, i4, i5, i6⟩ := F.c7 3 rfl; obtain ⟨a0, a1, a2, a3, af⟩ := F.c4 2 rfl; obtain ⟨b0, b1, b2, b3, bf⟩ := F.c4 1 rfl; obtain ⟨r0, r1, r2, r3, rf⟩ := F.c4 0 rfl; replace G := Lib.hid F; clear F hb)
    | ((with_reducible refine ((cA _ _ _ _) _).mono ?_); rintro e w1 ⟨rfl, hb⟩; have F := G.out.later hb; (try clear i0 i1 i2 i3 i4 i5 i6 a0 a1 a2 a3 af b0 b1 b2 b3 bf r0 r1 r2 r3 rf); obtain ⟨i0, i1, i2, i3, i4, i5, i6⟩ := F.c7 3 rfl; obtain ⟨a0, a1, a2, a3, af⟩ := F.c4 2 rfl; obtain ⟨b0, b1, b2, b3, bf⟩ := F.c4 1 rfl; obtain ⟨r0, r1, r2, r3, rf⟩ := F.c4 0 rfl; replace G := Lib.hid F; clear F hb))
  go_region_law (first
    | (go_simp; (with_reducible refine (c1 _).mono ?_); rintro e w9 ⟨rfl, hb⟩; have F := G.out.drew.later hb; (try clear i0 i1 i2 i3 i4 i5 i6 a0 a1 a2 a3 af b0 b1 b2 b3 bf r0 r1 r2 r3 rf); obtain ⟨i0, i1, i2, i3, i4, i5, i6⟩ := F.c7 3 rfl; obtain ⟨a0, a1, a2, a3, af⟩ := F.c4 2 rfl; obtain ⟨b0, b1, b2, b3, bf⟩ := F.c4 1 rfl; obtain ⟨r0, r1, r2, r3, rf⟩ := F.c4 0 rfl; replace G := Lib.hid F; clear F hb))
  all_goals
    go_wp2_with fail
    exact bodyPost_ret (v := .tuple #[.agg #[.int .i64 1, .int .u64 0, .int .i64 0, .int .i64 0], .int .i64 0]) (by simp [results, Try.results46, go_sem, *]) rfl ⟨rfl, G.out.set4 0 rfl _ _ _ _⟩
theorem joined_d2_f (op rg ty n fl : Int) (ap : Option Addr) (al ac : Nat) (tp : Option Addr) (tl tc : Nat) (c e g h : Int) (ht : (ty == 65) = true) (h1 : (e == h) = false) (ho : (op == 14) = false) (W : World) :
    Calls Try.prog 46 #[.agg #[.int .i64 op, .int .i64 rg, .int .i64 ty, .int .i64 n, .int .i64 fl, .slice ap al ac, .slice tp tl tc], .agg #[.int .i64 2, .int .u64 0, .int .i64 c, .int .i64 e], .agg #[.int .i64 2, .int .u64 0, .int .i64 c, .int .i64 h]] W fun e w' => e = .returned (.tuple #[.agg #[.int .i64 1, .int .u64 1, .int .i64 0, .int .i64 0], .int .i64 0]) ∧ Below W.heap.size W w' := by
  have cP : ∀ (p q r s : Int) W, Calls Try.prog 58 #[.agg #[.int .i64 p, .int .u64 q, .int .i64 r, .int .i64 s]] W fun e w' => e = .returned (.bool (p == 0)) ∧ Below W.heap.size W w' := fun p q r s W => isPoison_any ⟨p, q, r, s⟩ W
  have cA : ∀ (p q r s : Int) W, Calls Try.prog 60 #[.agg #[.int .i64 p, .int .u64 q, .int .i64 r, .int .i64 s]] W fun e w' => e = .returned (.bool (p == 3)) ∧ Below W.heap.size W w' := fun p q r s W => isAny_any ⟨p, q, r, s⟩ W
  have b0 := bV0
  have cT : ∀ (b : Bool) W, Calls Try.prog 65 #[.bool b] W fun e w' => e = .returned (.agg #[.int .i64 1, .int .u64 (if b = true then 1 else 0), .int .i64 0, .int .i64 0]) ∧ Below W.heap.size W w' := fun b W => truth_any b W
  have c1 : ∀ W, Calls Try.prog 65 #[.bool true] W fun e w' => e = .returned (.agg #[.int .i64 1, .int .u64 1, .int .i64 0, .int .i64 0]) ∧ Below W.heap.size W w' := fun W => cT true W
  clear cT
  have F := (((((Fr.start W)).push (g := W.heap.size) (by simp) [.int .i64 op, .int .i64 rg, .int .i64 ty, .int .i64 n, .int .i64 fl, .slice ap al ac, .slice tp tl tc] 25).push (g := W.heap.size + 1) (by simp) [.int .i64 2, .int .u64 0, .int .i64 c, .int .i64 e] 35).push (g := W.heap.size + 1 + 1) (by simp) [.int .i64 2, .int .u64 0, .int .i64 c, .int .i64 h] 35).push (g := W.heap.size + 1 + 1 + 1) (by simp) [.int .i64 0, .int .u64 0, .int .i64 0, .int .i64 0] 35
  have G := Lib.hid F
  clear F
  go_enter Try.func46, Try.ntmps46
  go_wp2_with (first
    | ((with_reducible refine ((cP _ _ _ _) _).mono ?_); rintro e w1 ⟨rfl, hb⟩; have F := G.out.later hb; (try clear i0 i1 i2 i3 i4 i5 i6 a0 a1 a2 a3 af b0 b1 b2 b3 bf r0 r1 r2 r3 rf); obtain ⟨i0, i1, i2, i3, i4, i5, i6⟩ := F.c7 3 rfl; obtain ⟨a0, a1, a2, a3, af⟩ := F.c4 2 rfl; obtain ⟨b0, b1, b2, b3, bf⟩ := F.c4 1 rfl; obtain ⟨r0, r1, r2, r3, rf⟩ := F.c4 0 rfl; replace G := Lib.hid F; clear F hb)
    | ((with_reducible refine ((cA _ _ _ _) _).mono ?_); rintro e w1 ⟨rfl, hb⟩; have F := G.out.later hb; (try clear i0 i1 i2 i3 i4 i5 i6 a0 a1 a2 a3 af b0 b1 b2 b3 bf r0 r1 r2 r3 rf); obtain ⟨i0, i1, i2, i3, i4, i5, i6⟩ := F.c7 3 rfl; obtain ⟨a0, a1, a2, a3, af⟩ := F.c4 2 rfl; obtain ⟨b0, b1, b2, b3, bf⟩ := F.c4 1 rfl; obtain ⟨r0, r1, r2, r3, rf⟩ := F.c4 0 rfl; replace G := Lib.hid F; clear F hb))
  go_region_law (first
    | (go_simp; (with_reducible refine (c1 _).mono ?_); rintro e w9 ⟨rfl, hb⟩; have F := G.out.drew.later hb; (try clear i0 i1 i2 i3 i4 i5 i6 a0 a1 a2 a3 af b0 b1 b2 b3 bf r0 r1 r2 r3 rf); obtain ⟨i0, i1, i2, i3, i4, i5, i6⟩ := F.c7 3 rfl; obtain ⟨a0, a1, a2, a3, af⟩ := F.c4 2 rfl; obtain ⟨b0, b1, b2, b3, bf⟩ := F.c4 1 rfl; obtain ⟨r0, r1, r2, r3, rf⟩ := F.c4 0 rfl; replace G := Lib.hid F; clear F hb))
  all_goals
    go_wp2_with fail
    exact bodyPost_ret (v := .tuple #[.agg #[.int .i64 1, .int .u64 1, .int .i64 0, .int .i64 0], .int .i64 0]) (by simp [results, Try.results46, go_sem, *]) rfl ⟨rfl, G.out.set4 0 rfl _ _ _ _⟩
end Go.Proofs.Ytpjfkmaceaikbaa
