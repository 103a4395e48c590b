/- EvalFlags: the walk. -/
import Derived.Test.YtkbkgbkoplcgeaaEvN
namespace Go.Proofs.Ytkbkgbkoplcgeaa
open Go.RowKit Go.Maps
set_option linter.unusedVariables false
set_option linter.unusedSimpArgs false
set_option maxRecDepth 100000
set_option maxHeartbeats 1000000


theorem flg_n (op rg ty n fl : Int) (ap : Option Addr) (al ac : Nat) (tp : Option Addr) (tl tc : Nat) (p : Option Addr) (l c : Nat) (xk xb xbk xo yk yb ybk yo E : Int) (W : World) (hl : ¬ 100 < (l : Int)) (h3 : (E == 3) = false) (h0 : (E != 0) = true)
    (c1 : ∀ w, Below W.heap.size W w → Calls Try.prog 35 #[.agg #[.int .i64 op, .int .i64 rg, .int .i64 ty, .int .i64 n, .int .i64 fl, .slice ap al ac, .slice tp tl tc], .slice p l c] w fun e w' => e = .returned (.tuple #[.agg #[.int .i64 xk, .int .u64 xb, .int .i64 xbk, .int .i64 xo], .int .i64 E]) ∧ Below w.heap.size w w')
    (c2 : ∀ w, Below W.heap.size W w → Calls Try.prog 35 #[.agg #[.int .i64 op, .int .i64 rg, .int .i64 ty, .int .i64 n, .int .i64 0, .slice ap al ac, .slice tp tl tc], .slice p l c] w fun e w' => e = .returned (.tuple #[.agg #[.int .i64 yk, .int .u64 yb, .int .i64 ybk, .int .i64 yo], .int .i64 E]) ∧ Below w.heap.size w w')
     :
    Calls Try.prog 11 #[.agg #[.int .i64 op, .int .i64 rg, .int .i64 ty, .int .i64 n, .int .i64 fl, .slice ap al ac, .slice tp tl tc], .slice p l c] W fun e w' => e = .returned (.bool true) ∧ Below W.heap.size W w' := by
  have cl := fun W => livesE_any W
  have G0 := Lib.hid ((Fr.start W).push (g := W.heap.size) rfl [.int .i64 op, .int .i64 rg, .int .i64 ty, .int .i64 n, .int .i64 fl, .slice ap al ac, .slice tp tl tc] 62)
  go_enter Try.func11, Try.ntmps11
  go_wp2_with (first
    | ((with_reducible refine (cl _).mono ?_); rintro e w1 ⟨rfl, hb⟩; have F := G0.out.later hb; obtain ⟨i0, i1, i2, i3, i4, i5, i6⟩ := F.c7 0 rfl; have iz := (F.at 0 rfl).2.1; have d1 := c1 _ F.1; have G1 := Lib.hid F; clear F hb)
    | ((with_reducible refine d1.mono ?_); rintro e w2 ⟨rfl, hb⟩; have F := G1.out.later hb; clear i0 i1 i2 i3 i4 i5 i6 iz; obtain ⟨i0, i1, i2, i3, i4, i5, i6⟩ := F.c7 0 rfl; have iz := (F.at 0 rfl).2.1; have G2 := Lib.hid ((F.push (g := w2.heap.size) rfl [.int .i64 xk, .int .u64 xb, .int .i64 xbk, .int .i64 xo] 24).push (g := w2.heap.size + 1) (by simp) [.int .i64 op, .int .i64 rg, .int .i64 ty, .int .i64 n, .int .i64 0, .slice ap al ac, .slice tp tl tc] 62); have d2 := c2 _ G2.out.1; clear F hb)
    | ((with_reducible refine d2.mono ?_); rintro e w3 ⟨rfl, hb⟩; have F := G2.out.later hb; obtain ⟨x0, x1, x2, x3, xf⟩ := F.c4 1 rfl; have xz := (F.at 1 rfl).2.1; have G3 := Lib.hid F; clear F hb))
  go_ret
  exact ⟨rfl, (G3.out.alloc _).1⟩
theorem flg_3 (op rg ty n fl : Int) (ap : Option Addr) (al ac : Nat) (tp : Option Addr) (tl tc : Nat) (p : Option Addr) (l c : Nat) (xk xb xbk xo yk yb ybk yo F : Int) (W : World) (hl : ¬ 100 < (l : Int)) 
    (c1 : ∀ w, Below W.heap.size W w → Calls Try.prog 35 #[.agg #[.int .i64 op, .int .i64 rg, .int .i64 ty, .int .i64 n, .int .i64 fl, .slice ap al ac, .slice tp tl tc], .slice p l c] w fun e w' => e = .returned (.tuple #[.agg #[.int .i64 xk, .int .u64 xb, .int .i64 xbk, .int .i64 xo], .int .i64 3]) ∧ Below w.heap.size w w')
    (c2 : ∀ w, Below W.heap.size W w → Calls Try.prog 35 #[.agg #[.int .i64 op, .int .i64 rg, .int .i64 ty, .int .i64 n, .int .i64 0, .slice ap al ac, .slice tp tl tc], .slice p l c] w fun e w' => e = .returned (.tuple #[.agg #[.int .i64 yk, .int .u64 yb, .int .i64 ybk, .int .i64 yo], .int .i64 F]) ∧ Below w.heap.size w w')
     :
    Calls Try.prog 11 #[.agg #[.int .i64 op, .int .i64 rg, .int .i64 ty, .int .i64 n, .int .i64 fl, .slice ap al ac, .slice tp tl tc], .slice p l c] W fun e w' => e = .returned (.bool true) ∧ Below W.heap.size W w' := by
  have cl := fun W => livesE_any W
  have G0 := Lib.hid ((Fr.start W).push (g := W.heap.size) rfl [.int .i64 op, .int .i64 rg, .int .i64 ty, .int .i64 n, .int .i64 fl, .slice ap al ac, .slice tp tl tc] 62)
  go_enter Try.func11, Try.ntmps11
  go_wp2_with (first
    | ((with_reducible refine (cl _).mono ?_); rintro e w1 ⟨rfl, hb⟩; have F := G0.out.later hb; obtain ⟨i0, i1, i2, i3, i4, i5, i6⟩ := F.c7 0 rfl; have iz := (F.at 0 rfl).2.1; have d1 := c1 _ F.1; have G1 := Lib.hid F; clear F hb)
    | ((with_reducible refine d1.mono ?_); rintro e w2 ⟨rfl, hb⟩; have F := G1.out.later hb; clear i0 i1 i2 i3 i4 i5 i6 iz; obtain ⟨i0, i1, i2, i3, i4, i5, i6⟩ := F.c7 0 rfl; have iz := (F.at 0 rfl).2.1; have G2 := Lib.hid ((F.push (g := w2.heap.size) rfl [.int .i64 xk, .int .u64 xb, .int .i64 xbk, .int .i64 xo] 24).push (g := w2.heap.size + 1) (by simp) [.int .i64 op, .int .i64 rg, .int .i64 ty, .int .i64 n, .int .i64 0, .slice ap al ac, .slice tp tl tc] 62); have d2 := c2 _ G2.out.1; clear F hb)
    | ((with_reducible refine d2.mono ?_); rintro e w3 ⟨rfl, hb⟩; have F := G2.out.later hb; obtain ⟨x0, x1, x2, x3, xf⟩ := F.c4 1 rfl; have xz := (F.at 1 rfl).2.1; have G3 := Lib.hid F; clear F hb))
  go_ret
  exact ⟨rfl, (G3.out.alloc _).1⟩
theorem flg_0 (op rg ty n fl : Int) (ap : Option Addr) (al ac : Nat) (tp : Option Addr) (tl tc : Nat) (p : Option Addr) (l c : Nat) (xk xb xbk xo yk yb ybk yo  : Int) (W : World) (hl : ¬ 100 < (l : Int)) 
    (c1 : ∀ w, Below W.heap.size W w → Calls Try.prog 35 #[.agg #[.int .i64 op, .int .i64 rg, .int .i64 ty, .int .i64 n, .int .i64 fl, .slice ap al ac, .slice tp tl tc], .slice p l c] w fun e w' => e = .returned (.tuple #[.agg #[.int .i64 xk, .int .u64 xb, .int .i64 xbk, .int .i64 xo], .int .i64 0]) ∧ Below w.heap.size w w')
    (c2 : ∀ w, Below W.heap.size W w → Calls Try.prog 35 #[.agg #[.int .i64 op, .int .i64 rg, .int .i64 ty, .int .i64 n, .int .i64 0, .slice ap al ac, .slice tp tl tc], .slice p l c] w fun e w' => e = .returned (.tuple #[.agg #[.int .i64 yk, .int .u64 yb, .int .i64 ybk, .int .i64 yo], .int .i64 0]) ∧ Below w.heap.size w w')
    (c5 : ∀ w, Calls Try.prog 38 #[.agg #[.int .i64 xk, .int .u64 xb, .int .i64 xbk, .int .i64 xo], .agg #[.int .i64 yk, .int .u64 yb, .int .i64 ybk, .int .i64 yo]] w fun e w' => e = .returned (.bool true) ∧ Below w.heap.size w w') :
    Calls Try.prog 11 #[.agg #[.int .i64 op, .int .i64 rg, .int .i64 ty, .int .i64 n, .int .i64 fl, .slice ap al ac, .slice tp tl tc], .slice p l c] W fun e w' => e = .returned (.bool true) ∧ Below W.heap.size W w' := by
  have cl := fun W => livesE_any W
  have G0 := Lib.hid ((Fr.start W).push (g := W.heap.size) rfl [.int .i64 op, .int .i64 rg, .int .i64 ty, .int .i64 n, .int .i64 fl, .slice ap al ac, .slice tp tl tc] 62)
  go_enter Try.func11, Try.ntmps11
  go_wp2_with (first
    | ((with_reducible refine (cl _).mono ?_); rintro e w1 ⟨rfl, hb⟩; have F := G0.out.later hb; obtain ⟨i0, i1, i2, i3, i4, i5, i6⟩ := F.c7 0 rfl; have iz := (F.at 0 rfl).2.1; have d1 := c1 _ F.1; have G1 := Lib.hid F; clear F hb)
    | ((with_reducible refine d1.mono ?_); rintro e w2 ⟨rfl, hb⟩; have F := G1.out.later hb; clear i0 i1 i2 i3 i4 i5 i6 iz; obtain ⟨i0, i1, i2, i3, i4, i5, i6⟩ := F.c7 0 rfl; have iz := (F.at 0 rfl).2.1; have G2 := Lib.hid ((F.push (g := w2.heap.size) rfl [.int .i64 xk, .int .u64 xb, .int .i64 xbk, .int .i64 xo] 24).push (g := w2.heap.size + 1) (by simp) [.int .i64 op, .int .i64 rg, .int .i64 ty, .int .i64 n, .int .i64 0, .slice ap al ac, .slice tp tl tc] 62); have d2 := c2 _ G2.out.1; clear F hb)
    | ((with_reducible refine d2.mono ?_); rintro e w3 ⟨rfl, hb⟩; have F := G2.out.later hb; obtain ⟨x0, x1, x2, x3, xf⟩ := F.c4 1 rfl; have xz := (F.at 1 rfl).2.1; have G3 := Lib.hid F; clear F hb)
    | ((with_reducible refine (c5 _).mono ?_); rintro e w4 ⟨rfl, hb⟩; have H4 := Lib.hid ((G3.out.alloc _).later hb); clear hb))
  go_ret
  exact ⟨rfl, H4.out.1⟩
theorem flg_l (op rg ty n fl : Int) (ap : Option Addr) (al ac : Nat) (tp : Option Addr) (tl tc : Nat) (p : Option Addr) (l c : Nat) (W : World) (hl : 100 < (l : Int)) :
    Calls Try.prog 11 #[.agg #[.int .i64 op, .int .i64 rg, .int .i64 ty, .int .i64 n, .int .i64 fl, .slice ap al ac, .slice tp tl tc], .slice p l c] W fun e w' => e = .returned (.bool true) ∧ Below W.heap.size W w' := by
  have cl := fun W => livesE_any W
  have G0 := Lib.hid ((Fr.start W).push (g := W.heap.size) rfl [.int .i64 op, .int .i64 rg, .int .i64 ty, .int .i64 n, .int .i64 fl, .slice ap al ac, .slice tp tl tc] 62)
  go_enter Try.func11, Try.ntmps11
  go_wp2_with (first
    | ((with_reducible refine (cl _).mono ?_); rintro e w1 ⟨rfl, hb⟩; have G1 := Lib.hid (G0.out.later hb); clear hb))
  go_ret
  exact ⟨rfl, G1.out.1⟩
theorem ListIn.past {B : Nat} {W w : World} {p : Option Addr} {n c : Nat} {l : List Vl} (h : VlsIn B W p n c l) (hb : Below B W w) (hs : B ≤ w.heap.size) : VlsIn w.heap.size w p n c l := ListIn.lasts lasts_NoMem h hb hs
theorem flags_walk (d : Ins) (f0 : -9223372036854775808 ≤ d.fl) (f1 : d.fl ≤ 9223372036854775807) (l : List Vl) (hok : ∀ v ∈ l, v.ok) (p : Option Addr) (c : Nat) (W : World) (hl : VlsIn W.heap.size W p l.length c l) :
    Calls Try.prog 11 #[d.val, .slice p l.length c] W fun e w' => e = .returned (.bool true) ∧ Below W.heap.size W w' := by
  have c1 : ∀ w, Below W.heap.size W w → _ := fun w hw => Eval_any d f0 f1 l p c hok w (hl.past hw hw.size)
  have c2 : ∀ w, Below W.heap.size W w → _ := fun w hw => Eval_any {d with fl := 0} lo0 hi0 l p c hok w (hl.past hw hw.size)
  by_cases hlen : 100 < (l.length : Int)
  · obtain ⟨op, rg, ty, n, fl, ap, al, ac, tp, tl, tc, ars⟩ := d
    exact flg_l op rg ty n fl ap al ac tp tl tc p l.length c W hlen
  · by_cases h3 : (evalE d.op d.ty d.n d.fl l).2 = 3
    · obtain ⟨op, rg, ty, n, fl, ap, al, ac, tp, tl, tc, ars⟩ := d
      simp only at h3
      simp only [h3] at c1
      exact flg_3 op rg ty n fl ap al ac tp tl tc p l.length c _ _ _ _ _ _ _ _ _ W hlen c1 c2
    · have hA := eval_flags h3
      obtain ⟨op, rg, ty, n, fl, ap, al, ac, tp, tl, tc, ars⟩ := d
      simp only at h3 hA c1 c2
      rw [← hA.1] at c2
      by_cases h0 : (evalE op ty n fl l).2 = 0
      · have hb := hA.2 h0
        have c5 := fun w => better_any (evalE op ty n fl l).1 (evalE op ty n 0 l).1 w
        rw [hb] at c5
        simp only [h0] at c1 c2
        exact flg_0 op rg ty n fl ap al ac tp tl tc p l.length c _ _ _ _ _ _ _ _ W hlen c1 c2 c5
      · exact flg_n op rg ty n fl ap al ac tp tl tc p l.length c _ _ _ _ _ _ _ _ _ W hlen (ne' h3) (by simpa using h0) c1 c2
end Go.Proofs.Ytkbkgbkoplcgeaa
