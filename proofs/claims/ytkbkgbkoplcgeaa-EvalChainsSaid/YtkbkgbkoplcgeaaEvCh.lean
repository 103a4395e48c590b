/- EvalChains: the walk. -/
import Derived.Test.YtkbkgbkoplcgeaaEvCa
namespace Go.Proofs.Ytkbkgbkoplcgeaa
open Go.RowKit Go.Maps
set_option linter.unusedVariables false
set_option linter.unusedSimpArgs false
set_option maxRecDepth 100000
set_option maxHeartbeats 1000000


theorem chains_row (a0 a1 a2 a3 op t u w vk vb vbk vo yk yb ybk yo xk xb xbk xo ak ab abk ao uk ub ubk uo : Int)
    (p q r s d3 d4 : Int) (m0 : (IntKind.u64.wrap a0).tmod 2 = p) (m1 : (IntKind.u64.wrap a1).tmod 62 = q) (r0 : 0 ≤ p) (s0 : p ≤ 1) (r1 : 0 ≤ q) (s1 : q ≤ 61)
    (k0 : 20 + p = op) (k1 : 1 + q = t) (l3 : 63 - t = d3) (p3 : 1 ≤ d3) (z3 : d3 ≤ 62) (n3 : ¬ d3 = 0) (m2 : (IntKind.u64.wrap a2).tmod d3 = r) (r2 : 0 ≤ r) (s2 : r ≤ 61) (g1 : 1 ≤ t) (h1 : t ≤ 62) (k2 : t + 1 + r = u) (g2 : 1 ≤ u) (h2 : u ≤ 63)
    (l4 : 64 - u = d4) (p4 : 1 ≤ d4) (z4 : d4 ≤ 63) (n4 : ¬ d4 = 0) (m3 : (IntKind.u64.wrap a3).tmod d4 = s) (r3 : 0 ≤ s) (s3 : s ≤ 62) (k3 : u + 1 + s = w)
    (c1 : ∀ W, Calls Try.prog 39 #[.int .i64 op, .int .i64 t, .int .i64 u, .agg #[.int .i64 vk, .int .u64 vb, .int .i64 vbk, .int .i64 vo]] W fun e w' => e = .returned (.agg #[.int .i64 yk, .int .u64 yb, .int .i64 ybk, .int .i64 yo]) ∧ Below W.heap.size W w')
    (c2 : ∀ W, Calls Try.prog 39 #[.int .i64 op, .int .i64 u, .int .i64 w, .agg #[.int .i64 yk, .int .u64 yb, .int .i64 ybk, .int .i64 yo]] W fun e w' => e = .returned (.agg #[.int .i64 xk, .int .u64 xb, .int .i64 xbk, .int .i64 xo]) ∧ Below W.heap.size W w')
    (c3 : ∀ W, Calls Try.prog 39 #[.int .i64 op, .int .i64 t, .int .i64 w, .agg #[.int .i64 vk, .int .u64 vb, .int .i64 vbk, .int .i64 vo]] W fun e w' => e = .returned (.agg #[.int .i64 xk, .int .u64 xb, .int .i64 xbk, .int .i64 xo]) ∧ Below W.heap.size W w')
    (c4 : ∀ W, Calls Try.prog 39 #[.int .i64 22, .int .i64 w, .int .i64 t, .agg #[.int .i64 xk, .int .u64 xb, .int .i64 xbk, .int .i64 xo]] W fun e w' => e = .returned (.agg #[.int .i64 ak, .int .u64 ab, .int .i64 abk, .int .i64 ao]) ∧ Below W.heap.size W w')
    (c5 : ∀ W, Calls Try.prog 39 #[.int .i64 22, .int .i64 w, .int .i64 u, .agg #[.int .i64 xk, .int .u64 xb, .int .i64 xbk, .int .i64 xo]] W fun e w' => e = .returned (.agg #[.int .i64 uk, .int .u64 ub, .int .i64 ubk, .int .i64 uo]) ∧ Below W.heap.size W w')
    (c6 : ∀ W, Calls Try.prog 39 #[.int .i64 22, .int .i64 u, .int .i64 t, .agg #[.int .i64 uk, .int .u64 ub, .int .i64 ubk, .int .i64 uo]] W fun e w' => e = .returned (.agg #[.int .i64 ak, .int .u64 ab, .int .i64 abk, .int .i64 ao]) ∧ Below W.heap.size W w')
    (c7 : ∀ W, Calls Try.prog 37 #[.int .i64 t, .agg #[.int .i64 vk, .int .u64 vb, .int .i64 vbk, .int .i64 vo]] W fun e w' => e = .returned (.agg #[.int .i64 ak, .int .u64 ab, .int .i64 abk, .int .i64 ao]) ∧ Below W.heap.size W w')
    (W : World) :
    Calls Try.prog 13 #[.int .i64 a0, .int .i64 a1, .int .i64 a2, .int .i64 a3, .agg #[.int .i64 vk, .int .u64 vb, .int .i64 vbk, .int .i64 vo]] W fun e w' => e = .returned (.bool true) ∧ Below W.heap.size W w' := by
  have cl := fun W => livesE_any W
  have G0 := Lib.hid ((Fr.start W).push (g := W.heap.size) rfl [.int .i64 vk, .int .u64 vb, .int .i64 vbk, .int .i64 vo] 24)
  go_enter Try.func13, Try.ntmps13
  go_wp2_with (first
    | ((with_reducible refine (cl _).mono ?_); rintro e w1 ⟨rfl, hb⟩; have F := G0.out.later hb; obtain ⟨v0, v1, v2, v3, vf⟩ := F.c4 0 rfl; have vz := (F.at 0 rfl).2.1; have G1 := Lib.hid F; clear F hb)
    | ((with_reducible refine (c1 _).mono ?_); rintro e w2 ⟨rfl, hb⟩; have F := G1.out.later hb; clear v0 v1 v2 v3 vf vz; obtain ⟨v0, v1, v2, v3, vf⟩ := F.c4 0 rfl; have vz := (F.at 0 rfl).2.1; have G2 := Lib.hid F; clear F hb)
    | ((with_reducible refine (c2 _).mono ?_); rintro e w3 ⟨rfl, hb⟩; have F := G2.out.later hb; clear v0 v1 v2 v3 vf vz; obtain ⟨v0, v1, v2, v3, vf⟩ := F.c4 0 rfl; have vz := (F.at 0 rfl).2.1; have G3 := Lib.hid (F.push (g := w3.heap.size) rfl [.int .i64 xk, .int .u64 xb, .int .i64 xbk, .int .i64 xo] 24); clear F hb))
  obtain ⟨gx, egx⟩ : ∃ gx, w3.heap.size = gx := ⟨_, rfl⟩
  have F : Fr W [(gx, [.int .i64 xk, .int .u64 xb, .int .i64 xbk, .int .i64 xo]), (W.heap.size, [.int .i64 vk, .int .u64 vb, .int .i64 vbk, .int .i64 vo])] (w3.alloc (.cells #[.int .i64 xk, .int .u64 xb, .int .i64 xbk, .int .i64 xo] 24)) := by rw [← egx]; exact G3.out
  have hgx : ∀ A, (w3.alloc A).heap.size = gx + 1 := fun A => by simp [egx]
  clear v0 v1 v2 v3 vf vz
  simp only [egx]
  clear egx hgx
  generalize w3.alloc (.cells #[.int .i64 xk, .int .u64 xb, .int .i64 xbk, .int .i64 xo] 24) = wo at *
  clear G3
  obtain ⟨x0, x1, x2, x3, xf⟩ := F.c4 0 rfl; have xz := (F.at 0 rfl).2.1; obtain ⟨v0, v1, v2, v3, vf⟩ := F.c4 1 rfl; have vz := (F.at 1 rfl).2.1
  have hP := F.1
  have HS : ∀ w w', (w.cell? ⟨W.heap.size, 0, none⟩ = some (.int .i64 vk) ∧ w.cell? ⟨W.heap.size, 1, none⟩ = some (.int .u64 vb) ∧ w.cell? ⟨W.heap.size, 2, none⟩ = some (.int .i64 vbk) ∧ w.cell? ⟨W.heap.size, 3, none⟩ = some (.int .i64 vo) ∧ w.cell? ⟨gx, 0, none⟩ = some (.int .i64 xk) ∧ w.cell? ⟨gx, 1, none⟩ = some (.int .u64 xb) ∧ w.cell? ⟨gx, 2, none⟩ = some (.int .i64 xbk) ∧ w.cell? ⟨gx, 3, none⟩ = some (.int .i64 xo) ∧ W.heap.size < w.heap.size ∧ gx < w.heap.size ∧ Below W.heap.size W w) → Below w.heap.size w w' → (w'.cell? ⟨W.heap.size, 0, none⟩ = some (.int .i64 vk) ∧ w'.cell? ⟨W.heap.size, 1, none⟩ = some (.int .u64 vb) ∧ w'.cell? ⟨W.heap.size, 2, none⟩ = some (.int .i64 vbk) ∧ w'.cell? ⟨W.heap.size, 3, none⟩ = some (.int .i64 vo) ∧ w'.cell? ⟨gx, 0, none⟩ = some (.int .i64 xk) ∧ w'.cell? ⟨gx, 1, none⟩ = some (.int .u64 xb) ∧ w'.cell? ⟨gx, 2, none⟩ = some (.int .i64 xbk) ∧ w'.cell? ⟨gx, 3, none⟩ = some (.int .i64 xo) ∧ W.heap.size < w'.heap.size ∧ gx < w'.heap.size ∧ Below W.heap.size W w') := fun w w' h hb => by
    obtain ⟨h0, h1, h2, h3, h4, h5, h6, h7, h8, h9, h10⟩ := h
    exact ⟨(hb.cell (p := ⟨W.heap.size, 0, none⟩) h8).trans h0, (hb.cell (p := ⟨W.heap.size, 1, none⟩) h8).trans h1, (hb.cell (p := ⟨W.heap.size, 2, none⟩) h8).trans h2, (hb.cell (p := ⟨W.heap.size, 3, none⟩) h8).trans h3, (hb.cell (p := ⟨gx, 0, none⟩) h9).trans h4, (hb.cell (p := ⟨gx, 1, none⟩) h9).trans h5, (hb.cell (p := ⟨gx, 2, none⟩) h9).trans h6, (hb.cell (p := ⟨gx, 3, none⟩) h9).trans h7, Nat.lt_of_lt_of_le h8 hb.size, Nat.lt_of_lt_of_le h9 hb.size, h10.trans (hb.mono h10.size)⟩
  have d3' := fun w (h : (w.cell? ⟨W.heap.size, 0, none⟩ = some (.int .i64 vk) ∧ w.cell? ⟨W.heap.size, 1, none⟩ = some (.int .u64 vb) ∧ w.cell? ⟨W.heap.size, 2, none⟩ = some (.int .i64 vbk) ∧ w.cell? ⟨W.heap.size, 3, none⟩ = some (.int .i64 vo) ∧ w.cell? ⟨gx, 0, none⟩ = some (.int .i64 xk) ∧ w.cell? ⟨gx, 1, none⟩ = some (.int .u64 xb) ∧ w.cell? ⟨gx, 2, none⟩ = some (.int .i64 xbk) ∧ w.cell? ⟨gx, 3, none⟩ = some (.int .i64 xo) ∧ W.heap.size < w.heap.size ∧ gx < w.heap.size ∧ Below W.heap.size W w)) => (c3 w).mono fun e w' ⟨h1, h2⟩ => (⟨h1, HS w w' h h2⟩ : _ ∧ _)
  have d4' := fun w (h : (w.cell? ⟨W.heap.size, 0, none⟩ = some (.int .i64 vk) ∧ w.cell? ⟨W.heap.size, 1, none⟩ = some (.int .u64 vb) ∧ w.cell? ⟨W.heap.size, 2, none⟩ = some (.int .i64 vbk) ∧ w.cell? ⟨W.heap.size, 3, none⟩ = some (.int .i64 vo) ∧ w.cell? ⟨gx, 0, none⟩ = some (.int .i64 xk) ∧ w.cell? ⟨gx, 1, none⟩ = some (.int .u64 xb) ∧ w.cell? ⟨gx, 2, none⟩ = some (.int .i64 xbk) ∧ w.cell? ⟨gx, 3, none⟩ = some (.int .i64 xo) ∧ W.heap.size < w.heap.size ∧ gx < w.heap.size ∧ Below W.heap.size W w)) => (c4 w).mono fun e w' ⟨h1, h2⟩ => (⟨h1, HS w w' h h2⟩ : _ ∧ _)
  have d5' := fun w (h : (w.cell? ⟨W.heap.size, 0, none⟩ = some (.int .i64 vk) ∧ w.cell? ⟨W.heap.size, 1, none⟩ = some (.int .u64 vb) ∧ w.cell? ⟨W.heap.size, 2, none⟩ = some (.int .i64 vbk) ∧ w.cell? ⟨W.heap.size, 3, none⟩ = some (.int .i64 vo) ∧ w.cell? ⟨gx, 0, none⟩ = some (.int .i64 xk) ∧ w.cell? ⟨gx, 1, none⟩ = some (.int .u64 xb) ∧ w.cell? ⟨gx, 2, none⟩ = some (.int .i64 xbk) ∧ w.cell? ⟨gx, 3, none⟩ = some (.int .i64 xo) ∧ W.heap.size < w.heap.size ∧ gx < w.heap.size ∧ Below W.heap.size W w)) => (c5 w).mono fun e w' ⟨h1, h2⟩ => (⟨h1, HS w w' h h2⟩ : _ ∧ _)
  have d6' := fun w (h : (w.cell? ⟨W.heap.size, 0, none⟩ = some (.int .i64 vk) ∧ w.cell? ⟨W.heap.size, 1, none⟩ = some (.int .u64 vb) ∧ w.cell? ⟨W.heap.size, 2, none⟩ = some (.int .i64 vbk) ∧ w.cell? ⟨W.heap.size, 3, none⟩ = some (.int .i64 vo) ∧ w.cell? ⟨gx, 0, none⟩ = some (.int .i64 xk) ∧ w.cell? ⟨gx, 1, none⟩ = some (.int .u64 xb) ∧ w.cell? ⟨gx, 2, none⟩ = some (.int .i64 xbk) ∧ w.cell? ⟨gx, 3, none⟩ = some (.int .i64 xo) ∧ W.heap.size < w.heap.size ∧ gx < w.heap.size ∧ Below W.heap.size W w)) => (c6 w).mono fun e w' ⟨h1, h2⟩ => (⟨h1, HS w w' h h2⟩ : _ ∧ _)
  have d7' := fun w (h : (w.cell? ⟨W.heap.size, 0, none⟩ = some (.int .i64 vk) ∧ w.cell? ⟨W.heap.size, 1, none⟩ = some (.int .u64 vb) ∧ w.cell? ⟨W.heap.size, 2, none⟩ = some (.int .i64 vbk) ∧ w.cell? ⟨W.heap.size, 3, none⟩ = some (.int .i64 vo) ∧ w.cell? ⟨gx, 0, none⟩ = some (.int .i64 xk) ∧ w.cell? ⟨gx, 1, none⟩ = some (.int .u64 xb) ∧ w.cell? ⟨gx, 2, none⟩ = some (.int .i64 xbk) ∧ w.cell? ⟨gx, 3, none⟩ = some (.int .i64 xo) ∧ W.heap.size < w.heap.size ∧ gx < w.heap.size ∧ Below W.heap.size W w)) => (c7 w).mono fun e w' ⟨h1, h2⟩ => (⟨h1, HS w w' h h2⟩ : _ ∧ _)
  clear c1 c2 c3 c4 c5 c6 c7 cl G0 HS F m0 m1 m2 m3 k0 k1 k2 k3 l3 l4 n3 n4
  go_region_held3 (fun w' => (w'.cell? ⟨W.heap.size, 0, none⟩ = some (.int .i64 vk) ∧ w'.cell? ⟨W.heap.size, 1, none⟩ = some (.int .u64 vb) ∧ w'.cell? ⟨W.heap.size, 2, none⟩ = some (.int .i64 vbk) ∧ w'.cell? ⟨W.heap.size, 3, none⟩ = some (.int .i64 vo) ∧ w'.cell? ⟨gx, 0, none⟩ = some (.int .i64 xk) ∧ w'.cell? ⟨gx, 1, none⟩ = some (.int .u64 xb) ∧ w'.cell? ⟨gx, 2, none⟩ = some (.int .i64 xbk) ∧ w'.cell? ⟨gx, 3, none⟩ = some (.int .i64 xo) ∧ W.heap.size < w'.heap.size ∧ gx < w'.heap.size ∧ Below W.heap.size W w'))
    (((try dsimp only); (repeat' apply And.intro) <;> (first | (with_reducible assumption) | (rw [World.cell?_drew]; with_reducible assumption) | (with_reducible apply below_drew; with_reducible assumption) | (simp <;> omega))))
    (first
      | ((with_reducible refine' (d3' _ ?pre).mono ?_)
         case pre => (refine ⟨?_, ?_, ?_, ?_, ?_, ?_, ?_, ?_, ?_, ?_, ?_⟩ <;> (first | (with_reducible assumption) | (rw [World.cell?_drew]; with_reducible assumption) | (with_reducible apply below_drew; with_reducible assumption) | (simp <;> omega) | omega))
         rintro e ws3 ⟨rfl, s30, s31, s32, s33, s34, s35, s36, s37, s38, s39, s310⟩)
      | ((with_reducible refine' (d4' _ ?pre).mono ?_)
         case pre => (refine ⟨?_, ?_, ?_, ?_, ?_, ?_, ?_, ?_, ?_, ?_, ?_⟩ <;> (first | (with_reducible assumption) | (rw [World.cell?_drew]; with_reducible assumption) | (with_reducible apply below_drew; with_reducible assumption) | (simp <;> omega) | omega))
         rintro e ws4 ⟨rfl, s40, s41, s42, s43, s44, s45, s46, s47, s48, s49, s410⟩)
      | ((with_reducible refine' (d5' _ ?pre).mono ?_)
         case pre => (refine ⟨?_, ?_, ?_, ?_, ?_, ?_, ?_, ?_, ?_, ?_, ?_⟩ <;> (first | (with_reducible assumption) | (rw [World.cell?_drew]; with_reducible assumption) | (with_reducible apply below_drew; with_reducible assumption) | (simp <;> omega) | omega))
         rintro e ws5 ⟨rfl, s50, s51, s52, s53, s54, s55, s56, s57, s58, s59, s510⟩)
      | ((with_reducible refine' (d6' _ ?pre).mono ?_)
         case pre => (refine ⟨?_, ?_, ?_, ?_, ?_, ?_, ?_, ?_, ?_, ?_, ?_⟩ <;> (first | (with_reducible assumption) | (rw [World.cell?_drew]; with_reducible assumption) | (with_reducible apply below_drew; with_reducible assumption) | (simp <;> omega) | omega))
         rintro e ws6 ⟨rfl, s60, s61, s62, s63, s64, s65, s66, s67, s68, s69, s610⟩)
      | ((with_reducible refine' (d7' _ ?pre).mono ?_)
         case pre => (refine ⟨?_, ?_, ?_, ?_, ?_, ?_, ?_, ?_, ?_, ?_, ?_⟩ <;> (first | (with_reducible assumption) | (rw [World.cell?_drew]; with_reducible assumption) | (with_reducible apply below_drew; with_reducible assumption) | (simp <;> omega) | omega))
         rintro e ws7 ⟨rfl, s70, s71, s72, s73, s74, s75, s76, s77, s78, s79, s710⟩))
  all_goals
    go_wp2_with fail
    go_ret
    exact ⟨rfl, by first | assumption | (with_reducible apply below_drew; assumption)⟩
end Go.Proofs.Ytkbkgbkoplcgeaa
