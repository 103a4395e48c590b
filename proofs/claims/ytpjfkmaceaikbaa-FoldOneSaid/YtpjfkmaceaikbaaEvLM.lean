/- What this seat takes of layer 10's texts (EvL) -/
import Derived.Test.YtpjfkmaceaikbaaEvKM
namespace Go.Proofs.Ytpjfkmaceaikbaa
open Go.RowKit Go.Maps
set_option linter.unusedVariables false
set_option linter.unusedSimpArgs false

set_option maxRecDepth 100000
set_option maxHeartbeats 1000000


theorem cntE_le (op : Int) : 1 ≤ cntE op ∧ cntE op ≤ 3 := by unfold cntE; split <;> (try split) <;> decide
theorem upto_nf (m i : Nat) (t : Int) (l : List Vl) (hm : l.length = m) : uptoV m i (nf t (l.getD i p0)).vl = (nf t (l.getD i p0)).vl := by
  unfold uptoV
  split
  · rfl
  · rename_i h
    have : l.getD i p0 = p0 := by rw [List.getD_eq_getElem?_getD, List.getElem?_eq_none (by omega)]; rfl
    rw [this, nf_p0]
    rfl
theorem Eval_any (d : Ins) (f0 : -9223372036854775808 ≤ d.fl) (f1 : d.fl ≤ 9223372036854775807) (l : List Vl) (p : Option Addr) (c : Nat) (hok : ∀ v ∈ l, v.ok) (W : World) (hl : VlsIn W.heap.size W p l.length c l) :
    Calls Try.prog 9 #[d.val, .slice p l.length c] W fun e w' => e = .returned (.tuple #[(evalE d.op d.ty d.n d.fl l).1.vl.val, .int .i64 (evalE d.op d.ty d.n d.fl l).2]) ∧ Below W.heap.size W w' := by
  have cF := fun W => hasForm_any d W
  have cC : ∀ W, Calls Try.prog 17 #[.int .i64 d.op] W fun e w' => e = .returned (.int .i64 (cntE d.op)) ∧ Below W.heap.size W w' := fun W => (count_any d.op W).mono fun e w' ⟨h1, h2⟩ => ⟨h1, h2 ▸ Below.refl _ _⟩
  have cW := fun i W => wanted_any d i W
  have cM := fun hf a b c fa fb W => made_any d a b c hf f0 f1 fa fb W
  have hcl := cntE_le d.op
  unfold evalE
  by_cases h : frmE d.op d.ty d.n d.fl = true ∧ (l.length : Int) = cntE d.op
  · rw [if_pos h]
    rw [h.1] at cF
    rw [← h.2] at cC
    have cN : ∀ (i : Nat) v, l[i]? = some v → ∀ W, Calls Try.prog 18 #[.int .i64 (wntE d.op d.ty d.n i), v.val] W fun e w' => e = .returned (nf (wntE d.op d.ty d.n i) (l.getD i p0)).vl.val ∧ Below W.heap.size W w' := fun i v hv W => by
      have e : l.getD i p0 = v := by rw [List.getD_eq_getElem?_getD, hv]; rfl
      rw [e, nf_vl]
      exact Norm_any _ v W (hok v (List.mem_of_getElem? hv))
    have cM2 := cM h.1 (nf (wntE d.op d.ty d.n 0) (l.getD 0 p0)) (nf (wntE d.op d.ty d.n 1) (l.getD 1 p0)) (nf (wntE d.op d.ty d.n 2) (l.getD 2 p0)) (nf_fit _ _) (nf_fit _ _)
    rw [← upto_nf l.length 0 _ l rfl, ← upto_nf l.length 1 _ l rfl, ← upto_nf l.length 2 _ l rfl] at cM2
    have cW2 : ∀ (i : Int) W, Calls Try.prog 19 #[d.val, .int .i64 i] W fun e w' => e = .returned (.int .i64 (wntE d.op d.ty d.n i)) ∧ Below W.heap.size W w' := cW
    obtain ⟨op, rg, ty, n, fl, ap, al, ac, tp, tl, tc, ars⟩ := d
    exact eval_ok op rg ty n fl ap al ac tp tl tc p c l.length l cF cC rfl (by omega) (fun i => wntE op ty n i) _ _ _ (fun i W => cW2 i W) (cN 0) (cN 1) (cN 2) _ _ _ _ _ cM2 W hl
  · rw [if_neg h]
    cases hf : frmE d.op d.ty d.n d.fl with
    | false =>
      rw [hf] at cF
      obtain ⟨op, rg, ty, n, fl, ap, al, ac, tp, tl, tc, ars⟩ := d
      exact eval_no op rg ty n fl ap al ac tp tl tc p l.length c cF W
    | true =>
      rw [hf] at cF
      obtain ⟨op, rg, ty, n, fl, ap, al, ac, tp, tl, tc, ars⟩ := d
      exact eval_len op rg ty n fl ap al ac tp tl tc p l.length c cF _ cC (by simp only at h hf ⊢; simp only [bne_iff_ne]; exact fun e => h ⟨hf, e⟩) W
end Go.Proofs.Ytpjfkmaceaikbaa
