/- The law's fixed facts: what package ir tells of a small function. -/
import Derived.Test.YtpfeiolmkbibiaaIrI
namespace Go.Proofs.Ytpfeiolmkbibiaa
open Go.RowKit Go.Maps
set_option linter.unusedVariables false
set_option linter.unusedSimpArgs false

/-- The small function's one instruction. -/
def dI (n : Nat) : Ins := { op := 1, reg := 7, ty := 8, n := 0, fl := 0, ap := some ⟨n + 1, 0, none⟩, al := 2, ac := 2, tp := none, tl := 0, tc := 0, args := [⟨1, 0, 0⟩, ⟨1, 7, 0⟩] }
/-- The small function lies in the blocks from n on. -/
structure LitAt (n : Nat) (w : World) : Prop where
  size : n + 5 ≤ w.heap.size
  a0 : w.cell? ⟨n + 1, 0, none⟩ = some (.int .i64 1)
  a1 : w.cell? ⟨n + 1, 1, none⟩ = some (.int .i64 0)
  a2 : w.cell? ⟨n + 1, 2, none⟩ = some (.int .u64 0)
  a3 : w.cell? ⟨n + 1, 3, none⟩ = some (.int .i64 1)
  a4 : w.cell? ⟨n + 1, 4, none⟩ = some (.int .i64 7)
  a5 : w.cell? ⟨n + 1, 5, none⟩ = some (.int .u64 0)
  i0 : w.cell? ⟨n + 2, 0, none⟩ = some (.int .i64 1)
  i1 : w.cell? ⟨n + 2, 1, none⟩ = some (.int .i64 7)
  i2 : w.cell? ⟨n + 2, 2, none⟩ = some (.int .i64 8)
  i3 : w.cell? ⟨n + 2, 3, none⟩ = some (.int .i64 0)
  i4 : w.cell? ⟨n + 2, 4, none⟩ = some (.int .i64 0)
  i5 : w.cell? ⟨n + 2, 5, none⟩ = some (.slice (some ⟨n + 1, 0, none⟩) 2 2)
  i6 : w.cell? ⟨n + 2, 6, none⟩ = some (.slice none 0 0)
  b0 : w.cell? ⟨n + 3, 0, none⟩ = some (.slice (some ⟨n + 2, 0, none⟩) 1 1)
  f0 : w.cell? ⟨n + 4, 0, none⟩ = some (.string { data := #[] })
  f1 : w.cell? ⟨n + 4, 1, none⟩ = some (.slice (some ⟨n, 0, none⟩) 2 2)
  f2 : w.cell? ⟨n + 4, 2, none⟩ = some (.int .i64 8)
  f3 : w.cell? ⟨n + 4, 3, none⟩ = some (.slice (some ⟨n + 3, 0, none⟩) 1 1)
theorem LitAt.below {n : Nat} {w w' : World} (h : LitAt n w) (hb : Below w.heap.size w w') : LitAt n w' := by
  have hs := h.size
  have k : ∀ b o, b < n + 5 → w'.cell? ⟨b, o, none⟩ = w.cell? ⟨b, o, none⟩ := fun b o hlt => hb.cell (p := ⟨b, o, none⟩) (show b < w.heap.size by omega)
  exact ⟨Nat.le_trans hs hb.size, (k _ _ (by omega)).trans h.a0, (k _ _ (by omega)).trans h.a1, (k _ _ (by omega)).trans h.a2, (k _ _ (by omega)).trans h.a3, (k _ _ (by omega)).trans h.a4, (k _ _ (by omega)).trans h.a5,
    (k _ _ (by omega)).trans h.i0, (k _ _ (by omega)).trans h.i1, (k _ _ (by omega)).trans h.i2, (k _ _ (by omega)).trans h.i3, (k _ _ (by omega)).trans h.i4, (k _ _ (by omega)).trans h.i5, (k _ _ (by omega)).trans h.i6, (k _ _ (by omega)).trans h.b0, (k _ _ (by omega)).trans h.f0, (k _ _ (by omega)).trans h.f1, (k _ _ (by omega)).trans h.f2, (k _ _ (by omega)).trans h.f3⟩
theorem LitAt.blocks {n : Nat} {w : World} (h : LitAt n w) : BlocksAt w.heap.size w (.slice (some ⟨n + 3, 0, none⟩) 1 1) [[dI n]] := by
  have hs := h.size
  refine ⟨some ⟨n + 3, 0, none⟩, 1, rfl, Nat.le_refl _, by decide, fun i hi => ?_⟩
  obtain rfl : i = 0 := by simp at hi; omega
  refine ⟨⟨n + 3, 0, none⟩, .slice (some ⟨n + 2, 0, none⟩) 1 1, rfl, show n + 3 < w.heap.size by omega, h.b0, ?_⟩
  refine ⟨some ⟨n + 2, 0, none⟩, 1, rfl, Nat.le_refl _, by decide, fun k hk => ?_⟩
  obtain rfl : k = 0 := by simp at hk; omega
  exact ⟨⟨n + 2, 0, none⟩, rfl, show n + 2 < w.heap.size by omega, h.i0, h.i1, h.i2, h.i3, h.i4, h.i5, h.i6⟩
theorem LitAt.args {n : Nat} {w : World} (h : LitAt n w) : AllArgs w.heap.size w [[dI n]] := by
  have hs := h.size
  intro b hb k hk
  obtain rfl : b = 0 := by simp at hb; omega
  obtain rfl : k = 0 := by simp at hk; omega
  refine ⟨rfl, Nat.le_refl _, (by show 2 ≤ maxLen; decide), fun i hi => ⟨⟨n + 1, 0, none⟩, rfl, show n + 1 < w.heap.size by omega, ?_⟩⟩
  have : i = 0 ∨ i = 1 := by simp [dI] at hi; omega
  rcases this with rfl | rfl
  · exact ⟨h.a0, h.a1, h.a2⟩
  · exact ⟨h.a3, h.a4, h.a5⟩

def fV (n : Nat) : Value := .agg #[.string { data := #[] }, .slice (some ⟨n, 0, none⟩) 2 2, .int .i64 8, .slice (some ⟨n + 3, 0, none⟩) 1 1]
theorem lit_size {n : Nat} {w : World} (h : LitAt n w) : Calls Try.prog 28 #[fV n] w fun e w' => e = .returned (.int .i64 1) ∧ Below w.heap.size w w' :=
  Size_any w.heap.size [[dI n]] w (.int .i64 0) (.int .i64 0) 8 _ _ _ _ _ _ _ (Nat.le_refl _) h.blocks 1 rfl (by decide)
theorem lit_uses {n : Nat} {w : World} (h : LitAt n w) : Calls Try.prog 31 #[fV n, .int .i64 7] w fun e w' => e = .returned (.int .i64 1) ∧ Below w.heap.size w w' :=
  Uses_any w.heap.size [[dI n]] w 8 7 _ _ _ _ _ _ _ (Nat.le_refl _) h.blocks h.args 1 rfl (by show 2 < _; decide)
theorem lit_fresh {n : Nat} {w : World} (h : LitAt n w) : Calls Try.prog 29 #[fV n] w fun e w' => e = .returned (.int .i64 2) ∧ Below w.heap.size w w' := by
  have wr : ∀ b (h : b < [[dI n]].length) k (hk : k < [[dI n]][b].length), (Lit.int .i64 [[dI n]][b][k].reg).wf = true := by
    intro b hb k hk
    obtain rfl : b = 0 := by simp at hb; omega
    obtain rfl : k = 0 := by simp at hk; omega
    rfl
  have wa : ∀ b (h : b < [[dI n]].length) k (hk : k < [[dI n]][b].length) i (hi : i < [[dI n]][b][k].args.length), (Lit.int .i64 [[dI n]][b][k].args[i].n).wf = true := by
    intro b hb k hk i hi
    obtain rfl : b = 0 := by simp at hb; omega
    obtain rfl : k = 0 := by simp at hk; omega
    have : i = 0 ∨ i = 1 := by simp [dI] at hi; omega
    rcases this with rfl | rfl <;> rfl
  refine (Fresh_any w.heap.size [[dI n]] w 8 _ _ 2 _ _ _ _ (Nat.le_refl _) h.blocks h.args wr wa (by show 1 + 2 < _; decide) (by decide)).mono fun e w' ⟨j, he, hc, hall, hb⟩ => ⟨?_, hb⟩
  have hL : nmL [[dI n]].flatten = [7, 0, 7] := rfl
  rw [hL] at hc hall
  have : j = 0 := by
    by_cases hj : 0 < j
    · exact absurd (hall 0 hj) (by decide)
    · omega
  subst this
  rw [he]; rfl
theorem lit_def {n : Nat} {w : World} (h : LitAt n w) : Calls Try.prog 26 #[fV n, .int .i64 7] w fun e w' => e = .returned (.tuple #[.agg #[.int .i64 0, .int .i64 0, .int .i64 0], .bool true]) ∧ Below w.heap.size w w' := by
  refine (Def_any w.heap.size [[dI n]] w 8 7 _ _ _ _ _ _ _ (Nat.le_refl _) h.blocks).mono fun e w' ⟨f, y, z, hd, he, hb⟩ => ⟨?_, hb⟩
  have h00 : hit 7 [[dI n]] 0 0 := ⟨[dI n], dI n, rfl, rfl, rfl⟩
  rcases hd with ⟨_, _, _, hn⟩ | ⟨rfl, b', k', rfl, rfl, hbe, ⟨c, d, h1, h2, h3⟩, hn⟩
  · exact absurd h00 (hn 0 0 (.inl (by show 0 < 1; decide)))
  · have e1 : b' = 0 := by have := (List.getElem?_eq_some_iff.1 h1).1; simp at this; omega
    subst e1
    obtain rfl : [dI n] = c := Option.some.inj h1
    have e2 : k' = 0 := by have := (List.getElem?_eq_some_iff.1 h2).1; simp at this; omega
    subst e2
    rw [he]; rfl

theorem build_p (w : World) : (Instr.build 47 #[]).run Try.prog w = .ok (.agg #[.int .i64 0, .int .i64 0, .int .i64 0]) w := run_build _ _ _ _ (by kernel_rfl)
theorem LitAt.laid (W : World) : LitAt W.heap.size (((((W.alloc (.cells #[.int .i64 8, .int .i64 8] 3)).alloc (.cells #[.int .i64 1, .int .i64 0, .int .u64 0, .int .i64 1, .int .i64 7, .int .u64 0] 55)).alloc (.cells #[.int .i64 1, .int .i64 7, .int .i64 8, .int .i64 0, .int .i64 0, .slice (some ⟨W.heap.size + 1, 0, none⟩) 2 2, .slice none 0 0] 25)).alloc (.cells #[.slice (some ⟨W.heap.size + 1 + 1, 0, none⟩) 1 1] 67)).alloc (.cells #[.string { data := #[] }, .slice (some ⟨W.heap.size, 0, none⟩) 2 2, .int .i64 8, .slice (some ⟨W.heap.size + 1 + 1 + 1, 0, none⟩) 1 1] 41)) := by
  constructor
  · simp
  all_goals go_simp
set_option maxRecDepth 100000 in
set_option maxHeartbeats 2000000 in
theorem lives_any (W : World) : Calls Try.prog 10 #[] W fun e w' => e = .returned (.bool true) ∧ Below W.heap.size W w' := by
  have hbp := build_p
  have hL := LitAt.laid W
  have hP : Past W.heap.size W (((((W.alloc (.cells #[.int .i64 8, .int .i64 8] 3)).alloc (.cells #[.int .i64 1, .int .i64 0, .int .u64 0, .int .i64 1, .int .i64 7, .int .u64 0] 55)).alloc (.cells #[.int .i64 1, .int .i64 7, .int .i64 8, .int .i64 0, .int .i64 0, .slice (some ⟨W.heap.size + 1, 0, none⟩) 2 2, .slice none 0 0] 25)).alloc (.cells #[.slice (some ⟨W.heap.size + 1 + 1, 0, none⟩) 1 1] 67)).alloc (.cells #[.string { data := #[] }, .slice (some ⟨W.heap.size, 0, none⟩) 2 2, .int .i64 8, .slice (some ⟨W.heap.size + 1 + 1 + 1, 0, none⟩) 1 1] 41)) := (((((Past.refl (Nat.le_refl _)).alloc _).alloc _).alloc _).alloc _).alloc _
  have cD : ∀ w, LitAt W.heap.size w → Calls Try.prog 26 #[.agg #[.string { data := #[] }, .slice (some ⟨W.heap.size, 0, none⟩) 2 2, .int .i64 8, .slice (some ⟨W.heap.size + 1 + 1 + 1, 0, none⟩) 1 1], .int .i64 7] w fun e w' => e = .returned (.tuple #[.agg #[.int .i64 0, .int .i64 0, .int .i64 0], .bool true]) ∧ Below w.heap.size w w' := fun w h => lit_def h
  have cF : ∀ w, LitAt W.heap.size w → Calls Try.prog 29 #[.agg #[.string { data := #[] }, .slice (some ⟨W.heap.size, 0, none⟩) 2 2, .int .i64 8, .slice (some ⟨W.heap.size + 1 + 1 + 1, 0, none⟩) 1 1]] w fun e w' => e = .returned (.int .i64 2) ∧ Below w.heap.size w w' := fun w h => lit_fresh h
  have cS : ∀ w, LitAt W.heap.size w → Calls Try.prog 28 #[.agg #[.string { data := #[] }, .slice (some ⟨W.heap.size, 0, none⟩) 2 2, .int .i64 8, .slice (some ⟨W.heap.size + 1 + 1 + 1, 0, none⟩) 1 1]] w fun e w' => e = .returned (.int .i64 1) ∧ Below w.heap.size w w' := fun w h => lit_size h
  have cU : ∀ w, LitAt W.heap.size w → Calls Try.prog 31 #[.agg #[.string { data := #[] }, .slice (some ⟨W.heap.size, 0, none⟩) 2 2, .int .i64 8, .slice (some ⟨W.heap.size + 1 + 1 + 1, 0, none⟩) 1 1], .int .i64 7] w fun e w' => e = .returned (.int .i64 1) ∧ Below w.heap.size w w' := fun w h => lit_uses h
  have cC : ∀ w, Calls Try.prog 17 #[.int .i64 24] w fun e w' => e = .returned (.bool true) ∧ w = w' := Calm_any 24
  have cN : ∀ w, Calls Try.prog 17 #[.int .i64 4] w fun e w' => e = .returned (.bool false) ∧ w = w' := Calm_any 4
  go_enter Try.func10, Try.ntmps10
  go_wp2_with (first
    | ((with_reducible refine (cD _ hL).mono ?_); rintro e w1 ⟨rfl, hb1⟩
       (have L1 := hL.below hb1
        have hz1 : W.heap.size + 1 + 1 + 1 + 1 < w1.heap.size := L1.size
        have P1 := hP.trans ⟨hP.size, hb1.mono hP.size⟩
        have P1a := P1.alloc (.cells #[.int .i64 0, .int .i64 0, .int .i64 0] 47)
        have L1a := L1.below ((Below.refl w1.heap.size w1).alloc (Nat.le_refl _) (.cells #[.int .i64 0, .int .i64 0, .int .i64 0] 47))
        have y0 : w1.cell? ⟨W.heap.size + 1 + 1 + 1 + 1, 0, none⟩ = some (.string { data := #[] }) := L1.f0
        have y1 : w1.cell? ⟨W.heap.size + 1 + 1 + 1 + 1, 1, none⟩ = some (.slice (some ⟨W.heap.size, 0, none⟩) 2 2) := L1.f1
        have y2 : w1.cell? ⟨W.heap.size + 1 + 1 + 1 + 1, 2, none⟩ = some (.int .i64 8) := L1.f2
        have y3 : w1.cell? ⟨W.heap.size + 1 + 1 + 1 + 1, 3, none⟩ = some (.slice (some ⟨W.heap.size + 1 + 1 + 1, 0, none⟩) 1 1) := L1.f3))
    | ((with_reducible refine (cF _ L1a).mono ?_); rintro e w2 ⟨rfl, hb2⟩
       (have L2 := L1a.below hb2
        have hz2 : w1.heap.size < w2.heap.size := by have := hb2.size; simp at this; omega
        have P2 := P1a.trans ⟨P1a.size, hb2.mono P1a.size⟩
        have u0 : w2.cell? ⟨w1.heap.size, 0, none⟩ = some (.int .i64 0) := (hb2.cell (p := ⟨w1.heap.size, 0, none⟩) (by simp)).trans (by rw [World.cell?_alloc_at _ _ _ _ rfl]; rfl)
        have u1 : w2.cell? ⟨w1.heap.size, 1, none⟩ = some (.int .i64 0) := (hb2.cell (p := ⟨w1.heap.size, 1, none⟩) (by simp)).trans (by rw [World.cell?_alloc_at _ _ _ _ rfl]; rfl)
        have u2 : w2.cell? ⟨w1.heap.size, 2, none⟩ = some (.int .i64 0) := (hb2.cell (p := ⟨w1.heap.size, 2, none⟩) (by simp)).trans (by rw [World.cell?_alloc_at _ _ _ _ rfl]; rfl)
        have z0 : w2.cell? ⟨W.heap.size + 1 + 1 + 1 + 1, 0, none⟩ = some (.string { data := #[] }) := L2.f0
        have z1 : w2.cell? ⟨W.heap.size + 1 + 1 + 1 + 1, 1, none⟩ = some (.slice (some ⟨W.heap.size, 0, none⟩) 2 2) := L2.f1
        have z2 : w2.cell? ⟨W.heap.size + 1 + 1 + 1 + 1, 2, none⟩ = some (.int .i64 8) := L2.f2
        have z3 : w2.cell? ⟨W.heap.size + 1 + 1 + 1 + 1, 3, none⟩ = some (.slice (some ⟨W.heap.size + 1 + 1 + 1, 0, none⟩) 1 1) := L2.f3))
    | ((with_reducible refine (cS _ L2).mono ?_); rintro e w3 ⟨rfl, hb3⟩
       (have L3 := L2.below hb3
        have P3 := P2.trans ⟨P2.size, hb3.mono P2.size⟩
        have v0 := (hb3.cell (p := ⟨w1.heap.size, 0, none⟩) hz2).trans u0
        have v1 := (hb3.cell (p := ⟨w1.heap.size, 1, none⟩) hz2).trans u1
        have v2 := (hb3.cell (p := ⟨w1.heap.size, 2, none⟩) hz2).trans u2
        have x0 : w3.cell? ⟨W.heap.size + 1 + 1 + 1 + 1, 0, none⟩ = some (.string { data := #[] }) := L3.f0
        have x1 : w3.cell? ⟨W.heap.size + 1 + 1 + 1 + 1, 1, none⟩ = some (.slice (some ⟨W.heap.size, 0, none⟩) 2 2) := L3.f1
        have x2 : w3.cell? ⟨W.heap.size + 1 + 1 + 1 + 1, 2, none⟩ = some (.int .i64 8) := L3.f2
        have x3 : w3.cell? ⟨W.heap.size + 1 + 1 + 1 + 1, 3, none⟩ = some (.slice (some ⟨W.heap.size + 1 + 1 + 1, 0, none⟩) 1 1) := L3.f3))
    | ((with_reducible refine (cU _ L3).mono ?_); rintro e w4 ⟨rfl, hb4⟩
       (have P4 := P3.trans ⟨P3.size, hb4.mono P3.size⟩))
    | ((with_reducible refine (cC _).mono ?_); rintro e w5 ⟨rfl, rfl⟩)
    | ((with_reducible refine (cN _).mono ?_); rintro e w5 ⟨rfl, rfl⟩))
  go_ret
  exact ⟨rfl, P4.2⟩
end Go.Proofs.Ytpfeiolmkbibiaa
