/- EvalRefines: the walk at whatever arguments. -/
import Derived.Test.YtkbkgbkoplcgeaaEvRf
import Derived.Test.YtkbkgbkoplcgeaaEvRg
import Derived.Test.YtkbkgbkoplcgeaaEvRp
import Derived.Test.YtkbkgbkoplcgeaaEvFl
namespace Go.Proofs.Ytkbkgbkoplcgeaa
open Go.RowKit Go.Maps
set_option linter.unusedVariables false
set_option linter.unusedSimpArgs false
set_option maxRecDepth 100000

theorem frm_typ {op ty n fl : Int} (h : frmE op ty n fl = true) : typE op ty n = true := by
  unfold frmE at h
  simp at h
  exact h.2
theorem typ_29 {op ty n : Int} (h : typE op ty n = true) (h29 : op = 29) : ty = 65 := by
  subst h29
  unfold typE at h
  simpa using h
theorem cnt_bd (op : Int) : 1 ≤ cntE op ∧ cntE op ≤ 3 := by
  unfold cntE
  split
  · omega
  · split <;> omega
theorem refines_walk (d : Ins) (f0 : -9223372036854775808 ≤ d.fl) (f1 : d.fl ≤ 9223372036854775807) (l l' : List Vl) (hok : ∀ v ∈ l, v.ok) (hok' : ∀ v ∈ l', v.ok) (p q : Option Addr) (c c' : Nat) (W : World) (hl : VlsIn W.heap.size W p l.length c l) (hl' : VlsIn W.heap.size W q l'.length c' l') :
    Calls Try.prog 9 #[d.val, .slice p l.length c, .slice q l'.length c'] W fun e w' => e = .returned (.bool true) ∧ Below W.heap.size W w' := by
  have c1 : ∀ w, Below W.heap.size W w → _ := fun w hw => Eval_any d f0 f1 l p c hok w (hl.past hw hw.size)
  by_cases n1 : 1000 < (l.length : Int)
  · obtain ⟨op, rg, ty, n, fl, ap, al, ac, tp, tl, tc, ars⟩ := d
    exact refines_g op rg ty n fl ap al ac tp tl tc p q c c' l.length l'.length W (.inl n1)
  by_cases n2 : (l'.length : Int) < (l.length : Int)
  · obtain ⟨op, rg, ty, n, fl, ap, al, ac, tp, tl, tc, ars⟩ := d
    exact refines_g op rg ty n fl ap al ac tp tl tc p q c c' l.length l'.length W (.inr ⟨n1, n2⟩)
  by_cases h3 : (evalE d.op d.ty d.n d.fl l).2 = 3
  · rw [eval3 h3] at c1
    obtain ⟨op, rg, ty, n, fl, ap, al, ac, tp, tl, tc, ars⟩ := d
    exact refines_3 op rg ty n fl ap al ac tp tl tc p q c c' l.length l'.length W n1 n2 c1
  have hF := eval_frm h3
  have hcb := cnt_bd d.op
  have h29 := typ_29 (frm_typ hF.1)
  have hle : l.length ≤ l'.length := by omega
  have hlt : l.length ≤ (typsE d.op d.ty d.n).length := by
    have := typs_len d.op d.ty d.n
    omega
  obtain ⟨pa, rfl⟩ : ∃ pa, p = some pa := by
    have hp : 0 < l.length := by omega
    have h4 := flat_len vlC 4 vlC_len l
    have h5 : 0 < (l.flatMap vlC).length := by omega
    obtain ⟨a, e, _⟩ := hl.2.2.2.1 0 _ (List.getElem?_eq_getElem h5)
    exact ⟨a, e⟩
  have hm := eval_mono (l' := l') h3
  have c6 : ∀ g c (R : List Vl) w, R.length = l.length → (∀ i (h : i < R.length) (h1 : i < l.length) (h2 : i < l'.length), R[i] = if betE (nf (wntE d.op d.ty d.n i) (l.getD i p0)) (nf (wntE d.op d.ty d.n i) (l'.getD i p0)) = true then l'[i] else l[i]) → VlsIn w.heap.size w (some ⟨g, 0, none⟩) l.length c R →
      Calls Try.prog 35 #[d.val, .slice (some ⟨g, 0, none⟩) l.length c] w fun e w' => e = .returned (.tuple #[(evalE d.op d.ty d.n d.fl (mixV (fun i => betE (nf (wntE d.op d.ty d.n i) (l.getD i p0)) (nf (wntE d.op d.ty d.n i) (l'.getD i p0))) l l')).1.vl.val, .int .i64 (evalE d.op d.ty d.n d.fl (mixV (fun i => betE (nf (wntE d.op d.ty d.n i) (l.getD i p0)) (nf (wntE d.op d.ty d.n i) (l'.getD i p0))) l l')).2]) ∧ Below w.heap.size w w' := fun g c R w hlen hR hv => by
    have e := mix_eq (bet := fun i => betE (nf (wntE d.op d.ty d.n i) (l.getD i p0)) (nf (wntE d.op d.ty d.n i) (l'.getD i p0))) hle hlen hR
    rw [← e]
    have h := Eval_any d f0 f1 R (some ⟨g, 0, none⟩) c (by rw [e]; exact mix_ok hok hok') w (by rw [hlen]; exact hv)
    rw [hlen] at h
    exact h
  have c2 := fun w => types_any d w
  have c3 : ∀ k (h : k < l.length), ∀ w, Calls Try.prog 37 #[.int .i64 (typsE d.op d.ty d.n)[k], l[k].val] w fun e w' => e = .returned (nf (wntE d.op d.ty d.n k) (l.getD k p0)).vl.val ∧ Below w.heap.size w w' := fun k h w => by
    rw [typs_get k h29 (by omega), getD_at l k h]
    exact read_any _ _ (hok _ (List.getElem_mem h)) w
  have c4 : ∀ k (h : k < l.length), ∀ w, Calls Try.prog 37 #[.int .i64 (typsE d.op d.ty d.n)[k], l'[k].val] w fun e w' => e = .returned (nf (wntE d.op d.ty d.n k) (l'.getD k p0)).vl.val ∧ Below w.heap.size w w' := fun k h w => by
    have h' : k < l'.length := by omega
    rw [typs_get k h29 (by omega), getD_at l' k h']
    exact read_any _ _ (hok' _ (List.getElem_mem h')) w
  have c5 : ∀ k (h : k < l.length), ∀ w, Calls Try.prog 38 #[(nf (wntE d.op d.ty d.n k) (l.getD k p0)).vl.val, (nf (wntE d.op d.ty d.n k) (l'.getD k p0)).vl.val] w fun e w' => e = .returned (.bool (betE (nf (wntE d.op d.ty d.n k) (l.getD k p0)) (nf (wntE d.op d.ty d.n k) (l'.getD k p0)))) ∧ Below w.heap.size w w' := fun k h w => better_any _ _ w
  have c7 := fun w => better_any (evalE d.op d.ty d.n d.fl l).1 (evalE d.op d.ty d.n d.fl (mixV (fun i => betE (nf (wntE d.op d.ty d.n i) (l.getD i p0)) (nf (wntE d.op d.ty d.n i) (l'.getD i p0))) l l')).1 w
  have hfin : ((evalE d.op d.ty d.n d.fl l).2 != 0) = true ∨ (evalE d.op d.ty d.n d.fl l).2 = 0 ∧ ((evalE d.op d.ty d.n d.fl (mixV (fun i => betE (nf (wntE d.op d.ty d.n i) (l.getD i p0)) (nf (wntE d.op d.ty d.n i) (l'.getD i p0))) l l')).2 = 4 ∨ (evalE d.op d.ty d.n d.fl (mixV (fun i => betE (nf (wntE d.op d.ty d.n i) (l.getD i p0)) (nf (wntE d.op d.ty d.n i) (l'.getD i p0))) l l')).2 = 0 ∧ ∀ w, Calls Try.prog 38 #[(evalE d.op d.ty d.n d.fl l).1.vl.val, (evalE d.op d.ty d.n d.fl (mixV (fun i => betE (nf (wntE d.op d.ty d.n i) (l.getD i p0)) (nf (wntE d.op d.ty d.n i) (l'.getD i p0))) l l')).1.vl.val] w fun e w' => e = .returned (.bool true) ∧ Below w.heap.size w w') := by
    by_cases e0 : (evalE d.op d.ty d.n d.fl l).2 = 0
    · refine .inr ⟨e0, ?_⟩
      rcases hm e0 with h4 | ⟨h0, hb⟩
      · exact .inl h4
      · rw [hb] at c7
        exact .inr ⟨h0, c7⟩
    · exact .inl (by simpa using e0)
  clear hm c7
  obtain ⟨op, rg, ty, n, fl, ap, al, ac, tp, tl, tc, ars⟩ := d
  exact refines_row op rg ty n fl ap al ac tp tl tc pa q c c' l l' _ _ _ _ _ (typsE op ty n) W hl hl' hle hlt (by omega) (by omega) (by simpa using h3)
    (fun k => (nf (wntE op ty n k) (l.getD k p0)).vl) (fun k => (nf (wntE op ty n k) (l'.getD k p0)).vl) (fun k => betE (nf (wntE op ty n k) (l.getD k p0)) (nf (wntE op ty n k) (l'.getD k p0)))
    c1 c2 c3 c4 c5 _ _ _ _ _ c6 hfin

end Go.Proofs.Ytkbkgbkoplcgeaa
