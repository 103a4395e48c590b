/- Package refine: areTogether, isOpen, mayEnd, Refines. -/
import Derived.Test.YtglkbnckfkliaaaRfD
namespace Go.Proofs.Ytglkbnckfkliaaa
open Go.RowKit Go.Maps
set_option linter.unusedVariables false
set_option linter.unusedSimpArgs false
set_option maxRecDepth 100000
set_option maxHeartbeats 2000000

theorem cellsEv3 : Try.prog.cellsOf 45 = 3 := by kernel_rfl
theorem take_in {α : Type} {cel : α → List Value} {m : Nat} (hm : 0 < m) (hc : ∀ x, (cel x).length = m) {E : Nat → World → α → Prop} {B : Nat} {w : World} {p : Option Addr} {c : Nat} {xs : List α} (h : ListIn cel E B w p xs.length c xs) (k : Nat) (hk : k ≤ xs.length) : ListIn cel E B w p (xs.take k).length c (xs.take k) := by
  obtain ⟨h1, h2, h3, h4, h5⟩ := h
  have hl : (xs.take k).length = k := by rw [List.length_take]; omega
  refine ⟨rfl, by omega, h3, rowAt_of (m := m) hc hm (fun i hi => ?_), fun x hx => h5 x (List.mem_of_mem_take hx)⟩
  obtain ⟨a, e, hb, hcell⟩ := h4.at (m := m) hc i (by omega) hm
  refine ⟨a, e, hb, fun r hr => ?_⟩
  rw [hcell r hr, List.getElem_take]
theorem ptr_of {α : Type} {cel : α → List Value} {m : Nat} (hm : 0 < m) (hc : ∀ x, (cel x).length = m) {E : Nat → World → α → Prop} {B : Nat} {w : World} {p : Option Addr} {n c : Nat} {xs : List α} (h : ListIn cel E B w p n c xs) (k : Nat) (hk : k ≤ xs.length) : p = none → k = 0 := by
  intro e
  by_cases h0 : k = 0
  · exact h0
  · obtain ⟨a, e2, _⟩ := h.2.2.2.1.at (m := m) hc 0 (by omega) hm
    rw [e] at e2
    cases e2
theorem Together_any (p p' : Option Addr) (n n' c c' : Nat) (l l' : List LEv) (W : World) (hx : EvsIn W.heap.size W p n c l) (hy : EvsIn W.heap.size W p' n' c' l') :
    Calls Try.prog 17 #[.slice p n c, .slice p' n' c'] W fun e w' => e = .returned (.bool (tog l l')) ∧ Below W.heap.size W w' := by
  obtain rfl : n = l.length := hx.1
  obtain rfl : n' = l'.length := hy.1
  have k2 := hx.2.1
  have k3 := hx.2.2.1
  have k2' := hy.2.1
  have k3' := hy.2.2.1
  unfold maxLen at k3 k3'
  unfold tog
  obtain ⟨k, ek, hkk⟩ : ∃ k, min l.length l'.length = k ∧ ((l'.length < l.length ∧ k = l'.length) ∨ (¬ l'.length < l.length ∧ k = l.length)) := ⟨_, rfl, by omega⟩
  rw [ek]
  have q1 : k ≤ l.length := by omega
  have q2 : k ≤ l'.length := by omega
  have s1 := slice_head Try.underlying27 p l.length c k (by omega) (ptr_of (m := 3) (by decide) (fun _ => rfl) hx k q1) 3 (fun w => by simp [go_sem, cellsEv3])
  have s2 := slice_head Try.underlying27 p' l'.length c' k (by omega) (ptr_of (m := 3) (by decide) (fun _ => rfl) hy k q2) 3 (fun w => by simp [go_sem, cellsEv3])
  have l1 : (l.take k).length = k := by rw [List.length_take]; omega
  have l2 : (l'.take k).length = k := by rw [List.length_take]; omega
  have t1 := take_in (m := 3) (by decide) (fun _ => rfl) hx k q1
  have t2 := take_in (m := 3) (by decide) (fun _ => rfl) hy k q2
  have c1 : ∀ w, Below W.heap.size W w → Calls Try.prog 28 #[.slice p k c, .slice p' k c', .func (.func 29) #[] #[]] w fun e w' => e = .returned (.bool (allB refE (l.take k) (l'.take k))) ∧ Below W.heap.size W w' := fun w hb => by
    have := Eq_ev 29 (fun _ _ => rfl) (fun x y w hx hy => Event_any x y w hx hy) w p p' (l.take k).length (l'.take k).length c c' (l.take k) (l'.take k) (t1.lasts lasts_Ev hb hb.size) (t2.lasts lasts_Ev hb hb.size)
    rw [l1, l2] at this
    refine this.mono ?_
    rintro e w' ⟨rfl, hb2⟩
    exact ⟨rfl, hb.trans (hb2.mono hb.size)⟩
  clear t1 t2 l1 l2 hx hy q1 q2
  obtain ⟨z, ez⟩ : ∃ z, allB refE (l.take k) (l'.take k) = z := ⟨_, rfl⟩
  simp only [ez] at c1 ⊢
  clear ez
  have EK := Lib.hid ek
  clear ek
  have B0 := Below.refl W.heap.size W
  rcases hkk with ⟨hlt, rfl⟩ | ⟨hlt, rfl⟩
  all_goals
    go_enter Try.func17, Try.ntmps17
    go_wp2_with fail
    go_region_held3 (fun w' => Below W.heap.size W w')
      (((try dsimp only); (repeat (first | (with_reducible assumption) | (with_reducible apply below_drew)))))
      (first
        | ((with_reducible refine' (c1 _ ?pre).mono ?_)
           case pre => (repeat (first | (with_reducible assumption) | (with_reducible apply below_drew)))
           rintro e w5 ⟨rfl, hb⟩))
    all_goals
      go_wp2_with fail
      go_ret
      exact ⟨rfl, by assumption⟩
end Go.Proofs.Ytglkbnckfkliaaa
