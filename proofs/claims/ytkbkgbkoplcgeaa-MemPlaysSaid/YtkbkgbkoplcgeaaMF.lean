/- The document's Same. -/
import Derived.Test.YtkbkgbkoplcgeaaMD
namespace Go.Proofs.Ytkbkgbkoplcgeaa
open Go.RowKit Go.Maps
set_option linter.unusedVariables false
set_option linter.unusedSimpArgs false

open Classical in
noncomputable def sameB (l m : List By) : Bool := decide (l = m)
open Classical in
theorem sameB_false {l m : List By} (h : ¬ l = m) : sameB l m = false := by unfold sameB; exact decide_eq_false h
open Classical in
theorem sameB_true {l m : List By} (h : l = m) : sameB l m = true := by unfold sameB; exact decide_eq_true h
set_option maxHeartbeats 1000000 in
theorem Same_any (W : World) (p q : Option Addr) (c d : Nat) (l m : List By) (h : BysIn W.heap.size W p l.length c l) (h' : BysIn W.heap.size W q m.length d m) :
    Calls Try.prog 17 #[.slice p l.length c, .slice q m.length d] W fun e w' => e = .returned (.bool (sameB l m)) ∧ Below W.heap.size W w' := by
  have k1 := h.2.1
  have k2 := h.2.2.1
  have k3 := h'.2.1
  have k4 := h'.2.2.1
  unfold maxLen at k2 k4
  have H := Lib.hid h
  have H' := Lib.hid h'
  clear h h'
  by_cases hl : l.length = m.length
  · have hd : ((l.length : Int) != (m.length : Int)) = false := by simp; omega
    have HL := Lib.hid hl
    clear hl
    go_enter Try.func17, Try.ntmps17
    go_wp2_with fail
    go_loopw [5] (fun u wr => ∃ k : Nat, k ≤ l.length ∧ u = .int .i64 k ∧ Below W.heap.size W wr ∧ ∀ i, i < k → l[i]? = m[i]?) (fun u _ => l.length - (intOf u).toNat)
    case atStart => exact ⟨0, Nat.zero_le _, rfl, Below.refl _ _, fun i hi => absurd hi (Nat.not_lt_zero _)⟩
    case round =>
      obtain ⟨k, hk, rfl, hp, hs⟩ := hrel
      have HP := Lib.hid hp
      have HS := Lib.hid hs
      clear hp hs
      by_cases hlt : k < l.length
      · have hlt2 : k < m.length := by have := HL.out; omega
        obtain ⟨a, rfl, ha, hy⟩ := by_row H.out k hlt
        obtain ⟨b, rfl, hb, hz⟩ := by_row H'.out k hlt2
        have hab : (a.add (k * 5)).block < W.heap.size := by rw [add_block]; exact ha
        have hbb : (b.add (k * 5)).block < W.heap.size := by rw [add_block]; exact hb
        obtain ⟨⟨yk, yb, ybk, yo, yi⟩, ek⟩ : ∃ x, l[k] = x := ⟨_, rfl⟩
        obtain ⟨⟨zk, zb, zbk, zo, zi⟩, fk⟩ : ∃ x, m[k] = x := ⟨_, rfl⟩
        rw [ek] at hy
        rw [fk] at hz
        obtain ⟨f0, f1, f2, f3, f4⟩ : ByAt wr (a.add (k * 5)) ⟨yk, yb, ybk, yo, yi⟩ := by
          obtain ⟨h0, h1, h2, h3, h4⟩ := hy
          exact ⟨(HP.out.cell hab).trans h0, (HP.out.cell (p := ⟨(a.add (k * 5)).block, (a.add (k * 5)).off + 1, none⟩) hab).trans h1, (HP.out.cell (p := ⟨(a.add (k * 5)).block, (a.add (k * 5)).off + 2, none⟩) hab).trans h2, (HP.out.cell (p := ⟨(a.add (k * 5)).block, (a.add (k * 5)).off + 3, none⟩) hab).trans h3, (HP.out.cell (p := ⟨(a.add (k * 5)).block, (a.add (k * 5)).off + 4, none⟩) hab).trans h4⟩
        obtain ⟨g0, g1, g2, g3, g4⟩ : ByAt wr (b.add (k * 5)) ⟨zk, zb, zbk, zo, zi⟩ := by
          obtain ⟨h0, h1, h2, h3, h4⟩ := hz
          exact ⟨(HP.out.cell hbb).trans h0, (HP.out.cell (p := ⟨(b.add (k * 5)).block, (b.add (k * 5)).off + 1, none⟩) hbb).trans h1, (HP.out.cell (p := ⟨(b.add (k * 5)).block, (b.add (k * 5)).off + 2, none⟩) hbb).trans h2, (HP.out.cell (p := ⟨(b.add (k * 5)).block, (b.add (k * 5)).off + 3, none⟩) hbb).trans h3, (HP.out.cell (p := ⟨(b.add (k * 5)).block, (b.add (k * 5)).off + 4, none⟩) hbb).trans h4⟩
        simp only at f0 f1 f2 f3 f4 g0 g1 g2 g3 g4
        clear hy hz
        have EK := Lib.hid ek
        have FK := Lib.hid fk
        clear ek fk
        by_cases he : (⟨yk, yb, ybk, yo, yi⟩ : By) = ⟨zk, zb, zbk, zo, zi⟩
        · have HE := Lib.hid (show l[k]? = m[k]? by rw [List.getElem?_eq_getElem hlt, List.getElem?_eq_getElem hlt2, EK.out, FK.out, he])
          injection he with e0 e1 e2 e3 e4
          subst e0 e1 e2 e3 e4
          go_wp2_with fail
          go_region
          go_wp2_with fail
          exact ⟨⟨_, hlt, by go_num, HP.out.drew, fun i hi => by
            by_cases e : i = k
            · subst e; exact HE.out
            · exact HS.out i (by omega)⟩, by simp [intOf]; omega⟩
        · have HF : Hid (Ending.returned (.bool false) = Ending.returned (.bool (sameB l m))) := Lib.hid (ret_bool (by
            symm
            refine sameB_false (fun e => he ?_)
            rw [← EK.out, ← FK.out]
            subst e
            rfl))
          by_cases e0 : yk = zk
          · subst e0
            by_cases e1 : yb = zb
            · subst e1
              by_cases e2 : ybk = zbk
              · subst e2
                by_cases e3 : yo = zo
                · subst e3
                  have e4 : ¬ yi = zi := fun x => he (by rw [x])
                  clear he
                  go_wp2_with fail
                  go_region
                  go_wp2_with fail
                  go_ret
                  exact ⟨HF.out, HP.out.drew⟩
                · clear he
                  go_wp2_with fail
                  go_region
                  go_wp2_with fail
                  go_ret
                  exact ⟨HF.out, HP.out.drew⟩
              · clear he
                go_wp2_with fail
                go_region
                go_wp2_with fail
                go_ret
                exact ⟨HF.out, HP.out.drew⟩
            · clear he
              go_wp2_with fail
              go_region
              go_wp2_with fail
              go_ret
              exact ⟨HF.out, HP.out.drew⟩
          · clear he
            go_wp2_with fail
            go_region
            go_wp2_with fail
            go_ret
            exact ⟨HF.out, HP.out.drew⟩
      · obtain rfl : k = l.length := by omega
        have HF : Hid (Ending.returned (.bool true) = Ending.returned (.bool (sameB l m))) := Lib.hid (ret_bool (by
          symm
          refine sameB_true (List.ext_getElem? fun i => ?_)
          by_cases h : i < l.length
          · exact HS.out i h
          · rw [List.getElem?_eq_none (by omega), List.getElem?_eq_none (by have := HL.out; omega)]))
        go_wp2_with fail
        go_ret
        exact ⟨HF.out, HP.out⟩
  · have hd : ((l.length : Int) != (m.length : Int)) = true := by simp; omega
    have HF : Hid (Ending.returned (.bool false) = Ending.returned (.bool (sameB l m))) := Lib.hid (ret_bool (sameB_false (fun e => hl (by rw [e]))).symm)
    clear hl
    go_enter Try.func17, Try.ntmps17
    go_wp2_with fail
    go_ret
    exact ⟨HF.out, Below.refl _ _⟩
end Go.Proofs.Ytkbkgbkoplcgeaa
