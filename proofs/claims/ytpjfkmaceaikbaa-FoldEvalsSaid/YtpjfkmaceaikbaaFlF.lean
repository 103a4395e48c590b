/- FoldEvals: the walk at whatever instruction. -/
import Derived.Test.YtpjfkmaceaikbaaFlE
namespace Go.Proofs.Ytpjfkmaceaikbaa
open Go.RowKit Go.Maps
set_option linter.unusedVariables false
set_option linter.unusedSimpArgs false
set_option maxRecDepth 100000

theorem opdE_no {t : Int} {v : EV} (h : (opdE t v).2 = false) : (opdE t v).1 = a0 := by
  cases v with
  | num x => cases h
  | any => cases h
  | poi => cases h
  | adr bk o =>
    unfold opdE at h ⊢
    dsimp only at h ⊢
    split
    · rfl
    · rename_i h1
      rw [if_neg h1] at h
      split at h <;> cases h
theorem foldE_no {d : Ins} (h : (foldE d).2 = false) : (foldE d).1 = a0 := by
  unfold foldE at h ⊢
  split
  · rename_i h1
    rw [if_pos h1] at h
    exact opdE_no h
  · rfl
theorem foldE_yes {d : Ins} (h : (foldE d).2 = true) : calmB d.op = true ∧ d.args.all isLit = true ∧ (evalE d.op d.ty d.n d.fl (litsE d)).2 = 0 ∧ foldE d = opdE d.ty (evalE d.op d.ty d.n d.fl (litsE d)).1 := by
  unfold foldE at h
  split at h
  · rename_i h1
    exact ⟨h1.1, h1.2.1, h1.2.2, by unfold foldE; rw [if_pos h1]⟩
  · cases h
theorem evals_walk (d : Ins) (f0 : -9223372036854775808 ≤ d.fl) (f1 : d.fl ≤ 9223372036854775807) (hal : d.al = d.args.length) (hok : ∀ a ∈ d.args, a.ok) (W : World) (hl : ListIn argC NoMem W.heap.size W d.ap d.al d.ac d.args) :
    Calls Try.prog 4 #[d.val] W fun e w' => e = .returned (.bool true) ∧ Below W.heap.size W w' := by
  by_cases h3 : 3 < (d.al : Int)
  · obtain ⟨op, rg, ty, n, fl, ap, al, ac, tp, tl, tc, args⟩ := d
    exact evals_len op rg ty n fl ap al ac tp tl tc W h3
  have hz : d.args.length ≤ 3 := by omega
  have cF : ∀ w, Below W.heap.size W w → _ := fun w hb => Fold_any d f0 f1 hal (by omega) hok w (hl.lasts lasts_NoMem hb hb.size)
  have cC := fun W => Calm_any d.op W
  have cE : ∀ q e w, VlsIn w.heap.size w q d.al e (d.args.map lvD) → Calls Try.prog 9 #[d.val, .slice q d.al e] w fun e w' => e = .returned (.tuple #[(evalE d.op d.ty d.n d.fl (litsE d)).1.vl.val, .int .i64 (evalE d.op d.ty d.n d.fl (litsE d)).2]) ∧ Below w.heap.size w w' := fun q e w h => by
    have e1 : d.al = (litsE d).length := by unfold litsE; rw [List.length_map]; exact hal
    rw [e1] at h ⊢
    exact Eval_any d f0 f1 (litsE d) q e (lits_ok hok) w h
  cases hf : (foldE d).2 with
  | false =>
    rw [hf, foldE_no hf] at cF
    obtain ⟨op, rg, ty, n, fl, ap, al, ac, tp, tl, tc, args⟩ := d
    exact evals_no op rg ty n fl ap al ac tp tl tc W h3 cF
  | true =>
    obtain ⟨k1, k2, k3, k4⟩ := foldE_yes hf
    rw [k4] at cF hf
    rw [k1] at cC
    rw [k3] at cE
    clear k1 k2 k3 k4
    generalize (evalE d.op d.ty d.n d.fl (litsE d)).1 = v at *
    rw [hf] at cF
    obtain ⟨op, rg, ty, n, fl, ap, al, ac, tp, tl, tc, args⟩ := d
    simp only at hf cF cC cE h3 hl hal
    cases v with
    | poi => exact evals_poi op rg ty n fl ap al ac tp tl tc W h3 args hl cF cE (fun w => value_any ⟨3, 0, 0⟩ w) cC
    | num x => exact evals_num op rg ty n fl ap al ac tp tl tc W h3 x args hl cF cE (fun w => value_any ⟨2, 0, x⟩ w) cC
    | any =>
      by_cases ht : ty = 65
      · have e : opdE ty .any = (⟨4, 0, 0⟩, true) := by unfold opdE; rw [if_pos ht]
        rw [e] at cF
        exact evals_anp op rg ty n fl ap al ac tp tl tc W h3 args hl cF cE (fun w => value_any ⟨4, 0, 0⟩ w) cC
      · have e : opdE ty .any = (⟨2, 0, 0⟩, true) := by unfold opdE; rw [if_neg ht]
        rw [e] at cF
        exact evals_ann op rg ty n fl ap al ac tp tl tc W h3 args hl cF cE (fun w => value_any ⟨2, 0, 0⟩ w) cC
    | adr g o =>
      by_cases h1 : o ≠ 0 ∨ g < -1
      · unfold opdE at hf
        dsimp only at hf
        rw [if_pos h1] at hf
        cases hf
      · obtain rfl : o = 0 := Classical.byContradiction fun h => h1 (.inl h)
        by_cases h2 : g = -1
        · subst h2
          exact evals_nul op rg ty n fl ap al ac tp tl tc W h3 args hl cF cE (fun w => value_any ⟨4, 0, 0⟩ w) cC
        · have e : opdE ty (.adr g 0) = (⟨5, g, 0⟩, true) := by unfold opdE; dsimp only; rw [if_neg h1, if_neg h2]
          rw [e] at cF
          exact evals_glo op rg ty n fl ap al ac tp tl tc W h3 g args hl cF cE (fun w => value_any ⟨5, g, 0⟩ w) cC
end Go.Proofs.Ytpjfkmaceaikbaa
