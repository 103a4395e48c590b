/- EvalChains: the walk at whatever arguments. -/
import Derived.Test.YtkbkgbkoplcgeaaEvCh
namespace Go.Proofs.Ytkbkgbkoplcgeaa
open Go.RowKit Go.Maps
set_option linter.unusedVariables false
set_option linter.unusedSimpArgs false
set_option maxRecDepth 100000

theorem u64_nonneg (a : Int) : 0 ≤ IntKind.u64.wrap a := by rw [u64w]; omega
theorem tmod_bd {a d : Int} (ha : 0 ≤ a) (hd : 1 ≤ d) : 0 ≤ a.tmod d ∧ a.tmod d ≤ d - 1 := by
  rw [Int.tmod_eq_emod_of_nonneg ha]
  have h1 := Int.emod_nonneg a (show d ≠ 0 by omega)
  have h2 := Int.emod_lt_of_pos a (show 0 < d by omega)
  omega
theorem cvB_any {op f t : Int} (ho : op = 20 ∨ op = 21) (h1 : 1 ≤ f) (h : f < t) (h2 : t ≤ 64) : cvB op f t = true := by
  rcases ho with rfl | rfl
  · exact cvB_20 h1 h h2
  · exact cvB_21 h1 h h2
theorem chains_walk (a0 a1 a2 a3 : Int) (v : Vl) (hv : v.ok) (W : World) :
    Calls Try.prog 13 #[.int .i64 a0, .int .i64 a1, .int .i64 a2, .int .i64 a3, v.val] W fun e w' => e = .returned (.bool true) ∧ Below W.heap.size W w' := by
  obtain ⟨p, hp⟩ : ∃ p, (IntKind.u64.wrap a0).tmod 2 = p := ⟨_, rfl⟩
  obtain ⟨q, hq⟩ : ∃ q, (IntKind.u64.wrap a1).tmod 62 = q := ⟨_, rfl⟩
  have b0 := tmod_bd (d := 2) (u64_nonneg a0) (by decide)
  have b1 := tmod_bd (d := 62) (u64_nonneg a1) (by decide)
  rw [hp] at b0
  rw [hq] at b1
  obtain ⟨op, kop⟩ : ∃ op, 20 + p = op := ⟨_, rfl⟩
  obtain ⟨t, kt⟩ : ∃ t, 1 + q = t := ⟨_, rfl⟩
  obtain ⟨d3, l3⟩ : ∃ d3, 63 - t = d3 := ⟨_, rfl⟩
  obtain ⟨r, hr⟩ : ∃ r, (IntKind.u64.wrap a2).tmod d3 = r := ⟨_, rfl⟩
  have b2 := tmod_bd (d := d3) (u64_nonneg a2) (by omega)
  rw [hr] at b2
  obtain ⟨u, ku⟩ : ∃ u, t + 1 + r = u := ⟨_, rfl⟩
  obtain ⟨d4, l4⟩ : ∃ d4, 64 - u = d4 := ⟨_, rfl⟩
  obtain ⟨s, hs⟩ : ∃ s, (IntKind.u64.wrap a3).tmod d4 = s := ⟨_, rfl⟩
  have b3 := tmod_bd (d := d4) (u64_nonneg a3) (by omega)
  rw [hs] at b3
  obtain ⟨w, kw⟩ : ∃ w, u + 1 + s = w := ⟨_, rfl⟩
  have ho : op = 20 ∨ op = 21 := by omega
  have x1 : 1 ≤ t := by omega
  have x2 : t < u := by omega
  have x3 : u < w := by omega
  have x4 : w ≤ 64 := by omega
  have fa := nf_fit t v
  obtain ⟨e1, e2, e3⟩ := con_chain ho x1 x2 x3 x4 fa
  have hc1 := cvB_any ho x1 x2 (by omega)
  have hc2 := cvB_any ho (show 1 ≤ u by omega) x3 x4
  have hc3 := cvB_any ho x1 (show t < w by omega) x4
  have fy := con_fit hc1 fa
  have fx := con_fit hc3 fa
  have hc5 := cvB_22 (show 1 ≤ u by omega) x3 x4
  have fu := con_fit hc5 fx
  have c1 := fun W => one_any op t u hc1 v hv W
  have c2 := fun W => one_any op u w hc2 (conE op t u (nf t v)).vl fy.ok W
  have c3 := fun W => one_any op t w hc3 v hv W
  have c4 := fun W => one_any 22 w t (cvB_22 x1 (by omega) x4) (conE op t w (nf t v)).vl fx.ok W
  have c5 := fun W => one_any 22 w u hc5 (conE op t w (nf t v)).vl fx.ok W
  have c6 := fun W => one_any 22 u t (cvB_22 x1 x2 (by omega)) (conE 22 w u (conE op t w (nf t v))).vl fu.ok W
  have c7 := fun W => read_any t v hv W
  simp only [nf_again fy, nf_again fx, nf_again fu, e1, e2, e3] at c2 c4 c5 c6
  exact chains_row a0 a1 a2 a3 op t u w _ _ _ _ _ _ _ _ _ _ _ _ _ _ _ _ _ _ _ _ p q r s d3 d4 hp hq b0.1 (by omega) b1.1 (by omega) kop kt l3 (by omega) (by omega) (by omega) hr b2.1 (by omega) x1 (by omega) ku (by omega) (by omega)
    l4 (by omega) (by omega) (by omega) hs b3.1 (by omega) kw c1 c2 c3 c4 c5 c6 c7 W
end Go.Proofs.Ytkbkgbkoplcgeaa
