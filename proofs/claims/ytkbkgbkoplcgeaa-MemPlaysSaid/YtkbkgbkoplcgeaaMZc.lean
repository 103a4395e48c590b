/- The document's memory: Bytes. -/
import Derived.Test.YtkbkgbkoplcgeaaMZb
import Derived.Test.YtkbkgbkoplcgeaaMG
namespace Go.Proofs.Ytkbkgbkoplcgeaa
open Go.RowKit Go.Maps
set_option linter.unusedVariables false
set_option linter.unusedSimpArgs false

theorem bys_one (l : List By) : ∀ u ∈ l.flatMap byC, u.oneCell' = true := fun u hu => by
  obtain ⟨y, _, h⟩ := List.mem_flatMap.1 hu
  exact byC_one y u h
theorem bys_len (l : List By) : (l.flatMap byC).length = l.length * 5 := by
  induction l with
  | nil => rfl
  | cons y l ih => rw [List.flatMap_cons, List.length_append, ih, byC_len, List.length_cons]; omega
set_option maxHeartbeats 2000000 in
theorem rBytes_any (W : World) (p : Option Addr) (c : Nat) (xs : List Rk) (D : Dm) (k : Int) (h : RmIn W p c xs D) :
    Calls Try.prog 57 #[.slice p xs.length c, .int .i64 k] W fun e w' => ∃ q d, e = .returned (.slice q (dBytes D k).length d) ∧ w'.ownsRow W.heap.size 32 5 (.slice q (dBytes D k).length d) (dBytes D k).length ((dBytes D k).flatMap byC) ∧ Below W.heap.size W w' := by
  have hc := h.row.2.1
  have hc2 := h.row.2.2.1
  unfold maxLen at hc2
  have c1 := rAlive_any W p c xs D k h
  cases hA : dAlive D k with
  | false =>
    rw [hA] at c1
    have hb : dBytes D k = [] := by
      unfold dAlive at hA
      unfold dBytes
      cases e : atD D k with
      | none => rfl
      | some l => rw [e] at hA; cases hA
    rw [hb]
    clear h hA hb
    go_enter Try.func57, Try.ntmps57
    go_wp2_with (first | ((with_reducible refine c1.mono ?_); rintro e w1 ⟨rfl, rfl⟩))
    go_ret
    exact ⟨none, 0, rfl, World.ownsRow_nil _ _ _ _, Below.refl _ _⟩
  | true =>
    obtain ⟨i, hi, rfl, hat, hal⟩ := alive_in h hA
    rw [hA] at c1
    obtain ⟨a, ea, ha, _, f1, hby⟩ := h.cell i hi
    have hsm := h.small _ (List.getElem_mem hi)
    have ti : (i : Int) < (xs.length : Int) := by omega
    subst ea
    obtain ⟨⟨A, q, d, l⟩, eA⟩ : ∃ A, xs[i] = A := ⟨_, rfl⟩
    rw [eA] at f1 hat hby hsm
    simp only at f1 hat hsm
    have hbs : BysIn W.heap.size W q l.length d l := hby
    have hb : dBytes D (i : Int) = l := by unfold dBytes; rw [hat]
    rw [hb]
    obtain ⟨iV, hiV, hz0, hz1, hz2⟩ := info_parts infoBy
    have HI := Lib.hid (And.intro hiV (And.intro hz0 (And.intro hz1 hz2)))
    have HBY := Lib.hid hbs
    have h63 : Hid (0 + l.length ≤ maxLen) := Lib.hid (by unfold maxLen; omega)
    have hb1 : Hid ((0 + l.length) * 40 ≤ 140737488355328) := Lib.hid (by omega)
    have HL := Lib.hid (bys_len l)
    clear h hA hal eA hat hb hby hbs hsm hiV hz0 hz1 hz2
    go_enter Try.func57, Try.ntmps57
    go_wp2_with (first
      | ((with_reducible refine c1.mono ?_); rintro e w1 ⟨rfl, rfl⟩)
      | (at_builtin; refine wpList_append_at rfl (.tmp 11) (.tmp 16) 25 rfl W.heap.size 32 iV _ 5 40 Try.underlying25 HI.out.1 HI.out.2.1 HI.out.2.2.1 HI.out.2.2.2 rfl (by decide) (.slice none 0 0) 0 [] rfl (World.ownsRow_nil _ _ _ _) q l.length d (l.flatMap byC) rfl HL.out HBY.out.cells (bys_one l) h63.out hb1.out (Nat.le_refl _) ?_; intro v8 w8 hown8 hgrow8 hmv8))
    obtain ⟨q8, c8, rfl⟩ := row_slice hown8
    rw [Nat.zero_add, List.nil_append] at hown8
    go_ret
    exact ⟨q8, c8, by rw [Nat.zero_add]; rfl, hown8, Below.refl _ _ |>.grown hgrow8 (Nat.le_refl _) (fun j e => by simp [Value.ownBlock] at e)⟩
end Go.Proofs.Ytkbkgbkoplcgeaa
