/- The law's package: lives, long. -/
import Derived.Test.YtphdhndljgihmaaDmA
import Derived.Test.YtphdhndljgihmaaVLists
import Derived.Test.YtphdhndljgihmaaVLaw
namespace Go.Proofs.Ytphdhndljgihmaa
open Go.RowKit Go.Maps
set_option linter.unusedVariables false
set_option linter.unusedSimpArgs false

/-- The law's own function. -/
def lF (H a0 a1 a2 a3 a4 a5 a6 g0 g1 g2 g3 g4 g6 : Nat) : LFn := ⟨{ data := #[] }, none, 0, 0, [], 0, some ⟨H, 0, none⟩, 7, 7, [jB 32 (some ⟨g0, 0, none⟩) 2 2 a0 [1, 2], jB 31 (some ⟨g1, 0, none⟩) 1 1 a1 [3], jB 32 (some ⟨g2, 0, none⟩) 2 2 a2 [3, 4], jB 32 (some ⟨g3, 0, none⟩) 2 2 a3 [1, 5], jB 31 (some ⟨g4, 0, none⟩) 1 1 a4 [5], jB 33 none 0 0 a5 [], jB 31 (some ⟨g6, 0, none⟩) 1 1 a6 [5]]⟩
def lS (b : Nat) : List Nat := match b with | 0 => [1, 2] | 1 => [3] | 2 => [3, 4] | 3 => [1, 5] | 4 => [5] | 6 => [5] | _ => []
theorem lF_succ (H a0 a1 a2 a3 a4 a5 a6 g0 g1 g2 g3 g4 g6 : Nat) : succP (fnD (lF H a0 a1 a2 a3 a4 a5 a6 g0 g1 g2 g3 g4 g6)).bs = lS := by
  funext k
  match k with
  | 0 => rfl
  | 1 => rfl
  | 2 => rfl
  | 3 => rfl
  | 4 => rfl
  | 5 => rfl
  | 6 => rfl
  | k + 7 => rfl
theorem lF_sm (H a0 a1 a2 a3 a4 a5 a6 g0 g1 g2 g3 g4 g6 : Nat) : FnSm (lF H a0 a1 a2 a3 a4 a5 a6 g0 g1 g2 g3 g4 g6) := by
  intro x hx
  simp only [lF, List.mem_cons, List.not_mem_nil, or_false] at hx
  rcases hx with rfl | rfl | rfl | rfl | rfl | rfl | rfl
  · refine ⟨show 2 ≤ 1048576 by decide, fun t ht => ?_⟩
    have ht : t ∈ ([1, 2] : List Int) := ht
    simp at ht; rcases ht with rfl | rfl <;> rfl
  · refine ⟨show 1 ≤ 1048576 by decide, fun t ht => ?_⟩
    have ht : t ∈ ([3] : List Int) := ht
    simp at ht; subst ht; rfl
  · refine ⟨show 2 ≤ 1048576 by decide, fun t ht => ?_⟩
    have ht : t ∈ ([3, 4] : List Int) := ht
    simp at ht; rcases ht with rfl | rfl <;> rfl
  · refine ⟨show 2 ≤ 1048576 by decide, fun t ht => ?_⟩
    have ht : t ∈ ([1, 5] : List Int) := ht
    simp at ht; rcases ht with rfl | rfl <;> rfl
  · refine ⟨show 1 ≤ 1048576 by decide, fun t ht => ?_⟩
    have ht : t ∈ ([5] : List Int) := ht
    simp at ht; subst ht; rfl
  · refine ⟨show 0 ≤ 1048576 by decide, fun t ht => ?_⟩
    have ht : t ∈ ([] : List Int) := ht
    simp at ht
  · refine ⟨show 1 ≤ 1048576 by decide, fun t ht => ?_⟩
    have ht : t ∈ ([5] : List Int) := ht
    simp at ht; subst ht; rfl
theorem lS_lt : ∀ b, ∀ t ∈ lS b, t < 7 := by
  intro b t h
  unfold lS at h
  split at h <;> simp at h <;> omega
/-- A way from 0 that misses c, step by step. -/
theorem ms {c a t : Nat} (h : Miss lS c a) (ht : t ∈ lS a) (hc : c ≠ t) : Miss lS c t := h.step ht fun e => hc e.symm
theorem lS_up0 {b : Nat} (hb : Rch lS b) (h0 : b ≠ 0) (h : ∀ c, c ≠ 0 → c ≠ b → Miss lS c b) : IsUp lS b 0 := by
  refine ⟨fun e => h0 e.symm, Dm.zero hb, fun c hc hd => ?_⟩
  by_cases c0 : c = 0
  · subst c0; exact Dm.refl Rch.zero
  · exact absurd (h c c0 hc) (hd.2.2.resolve_left hc)
theorem r1 : Rch lS 1 := Rch.step 0 1 Rch.zero (by decide)
theorem r2 : Rch lS 2 := Rch.step 0 2 Rch.zero (by decide)
theorem r3 : Rch lS 3 := Rch.step 1 3 r1 (by decide)
theorem r4 : Rch lS 4 := Rch.step 2 4 r2 (by decide)
theorem r5 : Rch lS 5 := Rch.step 3 5 r3 (by decide)
theorem u1 : IsUp lS 1 0 := lS_up0 r1 (by decide) fun c c0 h => ms (Miss.zero c0) (by decide) h
theorem u2 : IsUp lS 2 0 := lS_up0 r2 (by decide) fun c c0 h => ms (Miss.zero c0) (by decide) h
theorem u3 : IsUp lS 3 0 := lS_up0 r3 (by decide) fun c c0 h => by
  by_cases e : c = 1
  · subst e
    exact ms (a := 2) (ms (Miss.zero c0) (by decide) (by decide)) (by decide) h
  · exact ms (a := 1) (ms (Miss.zero c0) (by decide) e) (by decide) h
theorem u5 : IsUp lS 5 0 := lS_up0 r5 (by decide) fun c c0 h => by
  by_cases e : c = 2 ∨ c = 4
  · exact ms (a := 3) (ms (a := 1) (ms (Miss.zero c0) (by decide) (by omega)) (by decide) (by omega)) (by decide) h
  · exact ms (a := 4) (ms (a := 2) (ms (Miss.zero c0) (by decide) (by omega)) (by decide) (by omega)) (by decide) h
theorem pre4 : ∀ a, 4 ∈ lS a → a = 2 := by
  intro a h
  unfold lS at h
  split at h <;> simp at h
  rfl
theorem u4 : IsUp lS 4 2 := by
  refine ⟨by decide, ⟨r2, r4, .inr fun m => ?_⟩, fun c hc hd => ?_⟩
  · obtain ⟨_, h⟩ := m
    cases h with
    | step a t ha ht =>
      obtain ⟨h1, h2⟩ := mem_cut.1 ht
      obtain rfl := pre4 a h1
      exact (Miss.ne (g := 2) ⟨by decide, ha⟩) rfl
  · by_cases e : c = 2
    · subst e; exact Dm.refl r2
    · by_cases c0 : c = 0
      · subst c0; exact Dm.zero r2
      · exact absurd (ms (a := 2) (ms (Miss.zero c0) (by decide) e) (by decide) hc) (hd.2.2.resolve_left hc)
theorem n6 : ∀ u, ¬ IsUp lS 6 u := by
  intro u hu
  have h := hu.rch
  cases h with
  | step a t ha ht =>
    unfold lS at ht
    split at ht <;> simp at ht
theorem lS_ups : (List.range 7).map (upI lS) = [-1, 0, 0, 0, 2, 0, -1] := by
  show [upI lS 0, upI lS 1, upI lS 2, upI lS 3, upI lS 4, upI lS 5, upI lS 6] = _
  rw [upI_none fun u hu => hu.not_zero, upI_some u1, upI_some u2, upI_some u3, upI_some u4, upI_some u5, upI_none n6]
  rfl
theorem lS_24 : dmI lS 7 2 4 = true := (dmI_nat (a := 2) (b := 4) (by decide)).2 u4.2.1
theorem lS_13 : dmI lS 7 1 3 = false := dmI_false (by
  rintro ⟨x, y, h1, h2, _, h3⟩
  obtain rfl : x = 1 := by omega
  obtain rfl : y = 3 := by omega
  have := (u3.2.2 1 (by decide) h3).at_zero
  omega)
theorem rowIs_in {w : World} {R n : Nat} {f : Nat → Int} (h : w.rowIs R 3 n (fun i => .int .i64 (f i))) (hn : n ≤ 1048576) : ListIn intC NoMem w.heap.size w (some ⟨R, 0, none⟩) n n ((List.range n).map f) := by
  refine ⟨by simp, Nat.le_refl _, by unfold maxLen; omega, fun j u hu => ⟨⟨R, 0, none⟩, rfl, h.lt, ?_⟩, fun _ _ => trivial⟩
  rw [intC_map, List.getElem?_map] at hu
  obtain ⟨x, hx, rfl⟩ := Option.map_eq_some_iff.1 hu
  obtain ⟨hj, rfl⟩ := List.getElem?_eq_some_iff.1 hx
  have hj' : j < n := by simpa using hj
  rw [add0, h.cell hj']
  simp
set_option maxRecDepth 100000 in
set_option maxHeartbeats 4000000 in
theorem lives_any (W : World) : Calls Try.prog 10 #[] W fun e w' => e = .returned (.bool true) ∧ Below W.heap.size W w' := by
  have hbf := build_f
  go_enter Try.func10, Try.ntmps10
  have L0 := intlit (w := W) rfl [1, 2] (show 2 ≤ maxLen by decide)
  have j0 := jump_any 32 _ _ _ _ _ L0
  have H0 := Lib.hid (And.intro ((Past.refl (Nat.le_refl W.heap.size)).alloc (.cells #[.int .i64 1, .int .i64 2] 3)) ((Hold.nil W).alloc (.cells #[.int .i64 1, .int .i64 2] 3)))
  clear L0
  go_wp2_with fail
  refine j0.mono ?_
  rintro e w1 ⟨G0, rfl, hp, hB⟩
  clear j0
  have H1 := Lib.hid (And.intro (H0.out.1.trans ⟨H0.out.1.size, hp.2.mono H0.out.1.size⟩) (H0.out.2.cons hp.2 hB.all))
  clear hp hB H0
  have L0 := intlit (w := w1) rfl [3] (show 1 ≤ maxLen by decide)
  have j0 := jump_any 31 _ _ _ _ _ L0
  have H0 := Lib.hid (And.intro (H1.out.1.alloc (.cells #[.int .i64 3] 3)) (H1.out.2.alloc (.cells #[.int .i64 3] 3)))
  clear L0 H1
  go_wp2_with fail
  refine j0.mono ?_
  rintro e w2 ⟨G1, rfl, hp, hB⟩
  clear j0
  have H1 := Lib.hid (And.intro (H0.out.1.trans ⟨H0.out.1.size, hp.2.mono H0.out.1.size⟩) (H0.out.2.cons hp.2 hB.all))
  clear hp hB H0
  have L0 := intlit (w := w2) rfl [3, 4] (show 2 ≤ maxLen by decide)
  have j0 := jump_any 32 _ _ _ _ _ L0
  have H0 := Lib.hid (And.intro (H1.out.1.alloc (.cells #[.int .i64 3, .int .i64 4] 3)) (H1.out.2.alloc (.cells #[.int .i64 3, .int .i64 4] 3)))
  clear L0 H1
  go_wp2_with fail
  refine j0.mono ?_
  rintro e w3 ⟨G2, rfl, hp, hB⟩
  clear j0
  have H1 := Lib.hid (And.intro (H0.out.1.trans ⟨H0.out.1.size, hp.2.mono H0.out.1.size⟩) (H0.out.2.cons hp.2 hB.all))
  clear hp hB H0
  have L0 := intlit (w := w3) rfl [1, 5] (show 2 ≤ maxLen by decide)
  have j0 := jump_any 32 _ _ _ _ _ L0
  have H0 := Lib.hid (And.intro (H1.out.1.alloc (.cells #[.int .i64 1, .int .i64 5] 3)) (H1.out.2.alloc (.cells #[.int .i64 1, .int .i64 5] 3)))
  clear L0 H1
  go_wp2_with fail
  refine j0.mono ?_
  rintro e w4 ⟨G3, rfl, hp, hB⟩
  clear j0
  have H1 := Lib.hid (And.intro (H0.out.1.trans ⟨H0.out.1.size, hp.2.mono H0.out.1.size⟩) (H0.out.2.cons hp.2 hB.all))
  clear hp hB H0
  have L0 := intlit (w := w4) rfl [5] (show 1 ≤ maxLen by decide)
  have j0 := jump_any 31 _ _ _ _ _ L0
  have H0 := Lib.hid (And.intro (H1.out.1.alloc (.cells #[.int .i64 5] 3)) (H1.out.2.alloc (.cells #[.int .i64 5] 3)))
  clear L0 H1
  go_wp2_with fail
  refine j0.mono ?_
  rintro e w5 ⟨G4, rfl, hp, hB⟩
  clear j0
  have H1 := Lib.hid (And.intro (H0.out.1.trans ⟨H0.out.1.size, hp.2.mono H0.out.1.size⟩) (H0.out.2.cons hp.2 hB.all))
  clear hp hB H0
  have j0 := jump_any 33 none 0 0 [] w5 (in_nilG _ _)
  go_wp2_with fail
  refine j0.mono ?_
  rintro e w6 ⟨G5, rfl, hp, hB⟩
  clear j0
  have H2 := Lib.hid (And.intro (H1.out.1.trans ⟨H1.out.1.size, hp.2.mono H1.out.1.size⟩) (H1.out.2.cons hp.2 hB.all))
  clear hp hB H1
  have L0 := intlit (w := w6) rfl [5] (show 1 ≤ maxLen by decide)
  have j0 := jump_any 31 _ _ _ _ _ L0
  have H0 := Lib.hid (And.intro (H2.out.1.alloc (.cells #[.int .i64 5] 3)) (H2.out.2.alloc (.cells #[.int .i64 5] 3)))
  clear L0 H2
  go_wp2_with fail
  refine j0.mono ?_
  rintro e w7 ⟨G6, rfl, hp, hB⟩
  clear j0
  have H1 := Lib.hid (And.intro (H0.out.1.trans ⟨H0.out.1.size, hp.2.mono H0.out.1.size⟩) (H0.out.2.cons hp.2 hB.all))
  clear hp hB H0
  go_upto_region 2 with fail
  have hF : FnIn (w7.alloc (.cells #[.slice (some ⟨G0, 0, none⟩) 1 1, .slice (some ⟨G1, 0, none⟩) 1 1, .slice (some ⟨G2, 0, none⟩) 1 1, .slice (some ⟨G3, 0, none⟩) 1 1, .slice (some ⟨G4, 0, none⟩) 1 1, .slice (some ⟨G5, 0, none⟩) 1 1, .slice (some ⟨G6, 0, none⟩) 1 1] 47)).heap.size (w7.alloc (.cells #[.slice (some ⟨G0, 0, none⟩) 1 1, .slice (some ⟨G1, 0, none⟩) 1 1, .slice (some ⟨G2, 0, none⟩) 1 1, .slice (some ⟨G3, 0, none⟩) 1 1, .slice (some ⟨G4, 0, none⟩) 1 1, .slice (some ⟨G5, 0, none⟩) 1 1, .slice (some ⟨G6, 0, none⟩) 1 1] 47)) (lF w7.heap.size G0 G1 G2 G3 G4 G5 G6 W.heap.size w1.heap.size w2.heap.size w3.heap.size w4.heap.size w6.heap.size) := by
    have hh := H1.out.2.alloc (.cells #[.slice (some ⟨G0, 0, none⟩) 1 1, .slice (some ⟨G1, 0, none⟩) 1 1, .slice (some ⟨G2, 0, none⟩) 1 1, .slice (some ⟨G3, 0, none⟩) 1 1, .slice (some ⟨G4, 0, none⟩) 1 1, .slice (some ⟨G5, 0, none⟩) 1 1, .slice (some ⟨G6, 0, none⟩) 1 1] 47)
    refine ⟨in_nilG _ _, ?_⟩
    refine lit_in (cel := blkC) w7 rfl (lF w7.heap.size G0 G1 G2 G3 G4 G5 G6 W.heap.size w1.heap.size w2.heap.size w3.heap.size w4.heap.size w6.heap.size).bs 47 (show 7 ≤ maxLen by decide) rfl (fun x hx => ?_)
    simp only [lF, List.mem_cons, List.not_mem_nil, or_false] at hx
    rcases hx with rfl | rfl | rfl | rfl | rfl | rfl | rfl
    · exact hh.get (fun u => BlkIn u.heap.size u _) (.tail _ (.tail _ (.tail _ (.tail _ (.tail _ (.tail _ (.head _)))))))
    · exact hh.get (fun u => BlkIn u.heap.size u _) (.tail _ (.tail _ (.tail _ (.tail _ (.tail _ (.head _))))))
    · exact hh.get (fun u => BlkIn u.heap.size u _) (.tail _ (.tail _ (.tail _ (.tail _ (.head _)))))
    · exact hh.get (fun u => BlkIn u.heap.size u _) (.tail _ (.tail _ (.tail _ (.head _))))
    · exact hh.get (fun u => BlkIn u.heap.size u _) (.tail _ (.tail _ (.head _)))
    · exact hh.get (fun u => BlkIn u.heap.size u _) (.tail _ (.head _))
    · exact hh.get (fun u => BlkIn u.heap.size u _) (.head _)
  have hA := hF.all
  have hsm := lF_sm w7.heap.size G0 G1 G2 G3 G4 G5 G6 W.heap.size w1.heap.size w2.heap.size w3.heap.size w4.heap.size w6.heap.size
  have hsu := lF_succ w7.heap.size G0 G1 G2 G3 G4 G5 G6 W.heap.size w1.heap.size w2.heap.size w3.heap.size w4.heap.size w6.heap.size
  have hfc : fnC (lF w7.heap.size G0 G1 G2 G3 G4 G5 G6 W.heap.size w1.heap.size w2.heap.size w3.heap.size w4.heap.size w6.heap.size) = [.string { data := #[] }, .slice none 0 0, .int .i64 0, .slice (some ⟨w7.heap.size, 0, none⟩) 7 7] := rfl
  have hlen : (lF w7.heap.size G0 G1 G2 G3 G4 G5 G6 W.heap.size w1.heap.size w2.heap.size w3.heap.size w4.heap.size w6.heap.size).bs.length = 7 := rfl
  obtain ⟨f, ef⟩ : ∃ f, lF w7.heap.size G0 G1 G2 G3 G4 G5 G6 W.heap.size w1.heap.size w2.heap.size w3.heap.size w4.heap.size w6.heap.size = f := ⟨_, rfl⟩
  rw [ef] at hF hA hsm hsu hfc hlen
  have cI := fun (w : World) (h : FnIn w.heap.size w f) => Idom_own f w h hsm (by rw [hlen]; decide)
  have cD := fun (a b : Int) (w : World) (h : FnIn w.heap.size w f) => Dominates_any f a b w h hsm (by rw [hlen]; decide)
  simp only [hfc, hlen, hsu] at cI cD
  obtain ⟨H, eH⟩ : ∃ H, w7.heap.size = H := ⟨_, rfl⟩
  simp only [eH] at hA cI cD ⊢
  obtain ⟨w7a, e7a⟩ : ∃ w7a, w7.alloc (.cells #[.slice (some ⟨G0, 0, none⟩) 1 1, .slice (some ⟨G1, 0, none⟩) 1 1, .slice (some ⟨G2, 0, none⟩) 1 1, .slice (some ⟨G3, 0, none⟩) 1 1, .slice (some ⟨G4, 0, none⟩) 1 1, .slice (some ⟨G5, 0, none⟩) 1 1, .slice (some ⟨G6, 0, none⟩) 1 1] 47) = w7a := ⟨_, rfl⟩
  have hs7 : w7a.heap.size = H + 1 := by rw [← e7a, ← eH]; simp
  have P7 : Past W.heap.size W w7a := by rw [← e7a]; exact H1.out.1.alloc _
  simp only [e7a] at hA ⊢
  have B8 : Box (H + 1) [.string { data := #[] }, .slice none 0 0, .int .i64 0, .slice (some ⟨H, 0, none⟩) 7 7] (w7a.alloc (.cells #[.string { data := #[] }, .slice none 0 0, .int .i64 0, .slice (some ⟨H, 0, none⟩) 7 7] 25)) := Box.new w7a hs7.symm _ _
  have P8 := P7.alloc (.cells #[.string { data := #[] }, .slice none 0 0, .int .i64 0, .slice (some ⟨H, 0, none⟩) 7 7] 25)
  have hb8 := (Below.refl w7a.heap.size w7a).alloc (Nat.le_refl _) (.cells #[.string { data := #[] }, .slice none 0 0, .int .i64 0, .slice (some ⟨H, 0, none⟩) 7 7] 25)
  obtain ⟨w8, e8⟩ : ∃ w8, (w7a.alloc (.cells #[.string { data := #[] }, .slice none 0 0, .int .i64 0, .slice (some ⟨H, 0, none⟩) 7 7] 25)) = w8 := ⟨_, rfl⟩
  simp only [e8] at B8 P8 hb8 ⊢
  have HA : Hid (∀ u, Below w8.heap.size w8 u → FnIn u.heap.size u f) := Lib.hid (fun u hu => hA u (hb8.trans (hu.mono hb8.size)))
  have HP := Lib.hid (And.intro P8 B8)
  have c1 := cI w8 (HA.out _ (Below.refl _ _))
  have b0 := B8.get 0 _ rfl
  have b1 := B8.get 1 _ rfl
  have b2 := B8.get 2 _ rfl
  have b3 := B8.get 3 _ rfl
  have HD := Lib.hid cD
  clear hA hsm hsu hfc hlen ef hF cI cD eH e7a hs7 P7 B8 P8 hb8 e8 hbf H1
  go_wp2_with fail
  refine c1.mono ?_
  rintro e w9 ⟨R, rfl, hp9, hR9, hr9⟩
  have HP9 := Lib.hid (And.intro (HP.out.1.trans ⟨HP.out.1.size, hp9.2.mono HP.out.1.size⟩) (And.intro (HP.out.2.later hp9.2) (And.intro (rowIs_in hr9 (by decide)) hp9.2)))
  clear c1 b0 b1 b2 b3 HP hp9 hR9 hr9
  have e7 := lS_ups
  have c1 := Ints_any (w9.alloc (.cells #[.int .i64 (-1), .int .i64 0, .int .i64 0, .int .i64 0, .int .i64 2, .int .i64 0, .int .i64 (-1)] 3)) (some ⟨R, 0, none⟩) (some ⟨w9.heap.size, 0, none⟩) 7 7 7 7 _ [-1, 0, 0, 0, 2, 0, -1] (HP9.out.2.2.1.all _ ((Below.refl _ _).alloc (Nat.le_refl _) _)) (intlit (w := w9) rfl [-1, 0, 0, 0, 2, 0, -1] (show 7 ≤ maxLen by decide))
  rw [e7] at c1
  clear e7
  go_wp2_with fail
  refine c1.mono ?_
  rintro e w10 ⟨bo, rfl, hbo, hb10⟩
  obtain rfl : bo = true := hbo.2 (by trivial)
  have hb10' : Below w9.heap.size w9 w10 := ((Below.refl w9.heap.size w9).alloc (Nat.le_refl _) (.cells #[.int .i64 (-1), .int .i64 0, .int .i64 0, .int .i64 0, .int .i64 2, .int .i64 0, .int .i64 (-1)] 3)).trans (hb10.mono (by simp))
  have HP10 := Lib.hid (And.intro (HP9.out.1.trans ⟨HP9.out.1.size, hb10'.mono HP9.out.1.size⟩) (And.intro (HP9.out.2.1.later hb10') (HP9.out.2.2.2.trans (hb10'.mono HP9.out.2.2.2.size))))
  clear c1 HP9 hbo hb10 hb10'
  have b0 := HP10.out.2.1.get 0 _ rfl
  have b1 := HP10.out.2.1.get 1 _ rfl
  have b2 := HP10.out.2.1.get 2 _ rfl
  have b3 := HP10.out.2.1.get 3 _ rfl
  have c1 := HD.out 2 4 w10 (HA.out _ HP10.out.2.2)
  rw [lS_24] at c1
  go_wp2_with fail
  refine c1.mono ?_
  rintro e w11 ⟨rfl, hp11⟩
  have HP11 := Lib.hid (And.intro (HP10.out.1.trans ⟨HP10.out.1.size, hp11.2.mono HP10.out.1.size⟩) (And.intro (HP10.out.2.1.later hp11.2) (HP10.out.2.2.trans (hp11.2.mono HP10.out.2.2.size))))
  clear c1 b0 b1 b2 b3 HP10 hp11
  have b0 := HP11.out.2.1.get 0 _ rfl
  have b1 := HP11.out.2.1.get 1 _ rfl
  have b2 := HP11.out.2.1.get 2 _ rfl
  have b3 := HP11.out.2.1.get 3 _ rfl
  have c1 := HD.out 1 3 w11 (HA.out _ HP11.out.2.2)
  rw [lS_13] at c1
  go_wp2_with fail
  refine c1.mono ?_
  rintro e w12 ⟨rfl, hp12⟩
  have HP12 := Lib.hid (HP11.out.1.trans ⟨HP11.out.1.size, hp12.2.mono HP11.out.1.size⟩)
  clear c1 b0 b1 b2 b3 HP11 hp12
  go_wp2_with fail
  go_ret
  exact ⟨rfl, HP12.out.2⟩
/-- Some bool; it's true where the function is longer. -/
theorem long_any (f : LFn) (W : World) (h : FnIn W.heap.size W f) (hbs : f.bs.length ≤ 1048576) :
    Calls Try.prog 11 #[.agg (fnC f).toArray] W (SomeBool W) := by
  have hP := (Past.refl (Nat.le_refl W.heap.size)).alloc (.cells (fnC f).toArray 25)
  have A1 : Box W.heap.size (fnC f) (W.alloc (.cells (fnC f).toArray 25)) := Box.new W rfl _ _
  have c1 := Long_any f _ (past_lasts lasts_Fn h hP) hbs
  obtain ⟨nm, pp, pn, pc, ps, rt, bp, bn, bc, bs⟩ := f
  obtain rfl : bn = bs.length := h.2.1
  show Calls Try.prog 11 #[.agg #[.string nm, .slice pp pn pc, .int .i64 rt, .slice bp bs.length bc]] W _
  have hfc : fnC ⟨nm, pp, pn, pc, ps, rt, bp, bs.length, bc, bs⟩ = [.string nm, .slice pp pn pc, .int .i64 rt, .slice bp bs.length bc] := rfl
  rw [hfc] at A1 hP
  simp only [hfc] at c1
  have a0 := A1.get 0 _ rfl
  have a1 := A1.get 1 _ rfl
  have a2 := A1.get 2 _ rfl
  have a3 := A1.get 3 _ rfl
  have HP := Lib.hid hP
  clear A1 hP h hfc
  go_enter Try.func11, Try.ntmps11
  by_cases h0 : 40 < bs.length
  · have hd : decide ((40 : Int) < (bs.length : Int)) = true := by simp; omega
    clear h0 c1
    go_wp2_with fail
    go_ret
    exact ⟨true, rfl, HP.out.2⟩
  · have hd : decide ((40 : Int) < (bs.length : Int)) = false := by simp; omega
    clear h0
    go_wp2_with fail
    refine c1.mono ?_
    rintro e w1 ⟨b, rfl, hb⟩
    clear c1 a0 a1 a2 a3
    go_wp2_with fail
    go_ret
    exact ⟨_, rfl, HP.out.2.trans (hb.mono HP.out.size)⟩
end Go.Proofs.Ytphdhndljgihmaa
