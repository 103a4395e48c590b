/- The law's package: lives. -/
import Derived.Test.YtejnhdhfmklajaaGLaw
namespace Go.Proofs.Ytejnhdhfmklajaa
open Go.RowKit Go.Maps
set_option linter.unusedVariables false
set_option linter.unusedSimpArgs false

theorem intlit {w : World} {g : Nat} (hg : g = w.heap.size) (xs : List Int) (hx : xs.length ≤ maxLen) : ListIn intC NoMem (w.alloc (.cells (xs.flatMap intC).toArray 3)).heap.size (w.alloc (.cells (xs.flatMap intC).toArray 3)) (some ⟨g, 0, none⟩) xs.length xs.length xs :=
  lit_in w hg xs _ hx rfl (fun _ _ => trivial)
set_option maxRecDepth 100000 in
set_option maxHeartbeats 2000000 in
theorem lives_any (W : World) : Calls Try.prog 7 #[] W fun e w' => e = .returned (.bool true) ∧ Below W.heap.size W w' := by
  have hbf := build_f
  go_enter Try.func7, Try.ntmps7
  have L0 := intlit (w := W) rfl [2, 1] (show 2 ≤ maxLen by decide)
  have j0 := jump_any 32 _ _ _ _ _ L0
  have H0 := Lib.hid (And.intro ((Past.refl (Nat.le_refl W.heap.size)).alloc (.cells #[.int .i64 2, .int .i64 1] 3)) ((Hold.nil W).alloc (.cells #[.int .i64 2, .int .i64 1] 3)))
  clear L0
  go_wp2_with fail
  refine j0.mono ?_
  rintro e w1 ⟨G0, rfl, hp, hB⟩
  clear j0
  have H1 := Lib.hid (And.intro (H0.out.1.trans ⟨H0.out.1.size, hp.2.mono H0.out.1.size⟩) (H0.out.2.cons hp.2 hB.all))
  clear hp hB H0
  have L0 := intlit (w := w1) rfl [3] (show 1 ≤ maxLen by decide)
  have j0 := jump_any 31 _ _ _ _ _ L0
  have H0 := Lib.hid (And.intro (H1.out.1.alloc (.cells #[.int .i64 3] 3)) (H1.out.2.alloc (.cells #[.int .i64 3] 3)))
  clear L0 H1
  go_wp2_with fail
  refine j0.mono ?_
  rintro e w2 ⟨G1, rfl, hp, hB⟩
  clear j0
  have H1 := Lib.hid (And.intro (H0.out.1.trans ⟨H0.out.1.size, hp.2.mono H0.out.1.size⟩) (H0.out.2.cons hp.2 hB.all))
  clear hp hB H0
  have L0 := intlit (w := w2) rfl [3] (show 1 ≤ maxLen by decide)
  have j0 := jump_any 31 _ _ _ _ _ L0
  have H0 := Lib.hid (And.intro (H1.out.1.alloc (.cells #[.int .i64 3] 3)) (H1.out.2.alloc (.cells #[.int .i64 3] 3)))
  clear L0 H1
  go_wp2_with fail
  refine j0.mono ?_
  rintro e w3 ⟨G2, rfl, hp, hB⟩
  clear j0
  have H1 := Lib.hid (And.intro (H0.out.1.trans ⟨H0.out.1.size, hp.2.mono H0.out.1.size⟩) (H0.out.2.cons hp.2 hB.all))
  clear hp hB H0
  have j0 := jump_any 33 none 0 0 [] w3 (in_nilG _ _)
  go_wp2_with fail
  refine j0.mono ?_
  rintro e w4 ⟨G3, rfl, hp, hB⟩
  clear j0
  have H2 := Lib.hid (And.intro (H1.out.1.trans ⟨H1.out.1.size, hp.2.mono H1.out.1.size⟩) (H1.out.2.cons hp.2 hB.all))
  clear hp hB H1
  have L0 := intlit (w := w4) rfl [3] (show 1 ≤ maxLen by decide)
  have j0 := jump_any 31 _ _ _ _ _ L0
  have H0 := Lib.hid (And.intro (H2.out.1.alloc (.cells #[.int .i64 3] 3)) (H2.out.2.alloc (.cells #[.int .i64 3] 3)))
  clear L0 H2
  go_wp2_with fail
  refine j0.mono ?_
  rintro e w5 ⟨G4, rfl, hp, hB⟩
  clear j0
  have H1 := Lib.hid (And.intro (H0.out.1.trans ⟨H0.out.1.size, hp.2.mono H0.out.1.size⟩) (H0.out.2.cons hp.2 hB.all))
  clear hp hB H0
  go_upto_region 2 with fail
  have hF : FnIn ((w5.alloc (.cells #[.slice (some ⟨G0, 0, none⟩) 1 1, .slice (some ⟨G1, 0, none⟩) 1 1, .slice (some ⟨G2, 0, none⟩) 1 1, .slice (some ⟨G3, 0, none⟩) 1 1, .slice (some ⟨G4, 0, none⟩) 1 1] 47))).heap.size (w5.alloc (.cells #[.slice (some ⟨G0, 0, none⟩) 1 1, .slice (some ⟨G1, 0, none⟩) 1 1, .slice (some ⟨G2, 0, none⟩) 1 1, .slice (some ⟨G3, 0, none⟩) 1 1, .slice (some ⟨G4, 0, none⟩) 1 1] 47)) (lF w5.heap.size G0 G1 G2 G3 G4 W.heap.size w1.heap.size w2.heap.size w4.heap.size) := by
    have hh := H1.out.2.alloc (.cells #[.slice (some ⟨G0, 0, none⟩) 1 1, .slice (some ⟨G1, 0, none⟩) 1 1, .slice (some ⟨G2, 0, none⟩) 1 1, .slice (some ⟨G3, 0, none⟩) 1 1, .slice (some ⟨G4, 0, none⟩) 1 1] 47)
    refine ⟨in_nilG _ _, ?_⟩
    refine lit_in (cel := blkC) w5 rfl (lF w5.heap.size G0 G1 G2 G3 G4 W.heap.size w1.heap.size w2.heap.size w4.heap.size).bs 47 (show 5 ≤ maxLen by decide) rfl (fun x hx => ?_)
    simp only [lF, List.mem_cons, List.not_mem_nil, or_false] at hx
    rcases hx with rfl | rfl | rfl | rfl | rfl
    · exact hh.get (fun u => BlkIn u.heap.size u _) (.tail _ (.tail _ (.tail _ (.tail _ (.head _)))))
    · exact hh.get (fun u => BlkIn u.heap.size u _) (.tail _ (.tail _ (.tail _ (.head _))))
    · exact hh.get (fun u => BlkIn u.heap.size u _) (.tail _ (.tail _ (.head _)))
    · exact hh.get (fun u => BlkIn u.heap.size u _) (.tail _ (.head _))
    · exact hh.get (fun u => BlkIn u.heap.size u _) (.head _)
  have hA := hF.all
  have hsm := lF_sm w5.heap.size G0 G1 G2 G3 G4 W.heap.size w1.heap.size w2.heap.size w4.heap.size
  have hsu := lF_succ w5.heap.size G0 G1 G2 G3 G4 W.heap.size w1.heap.size w2.heap.size w4.heap.size
  have hfc : fnC (lF w5.heap.size G0 G1 G2 G3 G4 W.heap.size w1.heap.size w2.heap.size w4.heap.size) = [.string { data := #[] }, .slice none 0 0, .int .i64 0, .slice (some ⟨w5.heap.size, 0, none⟩) 5 5] := rfl
  have hlen : (lF w5.heap.size G0 G1 G2 G3 G4 W.heap.size w1.heap.size w2.heap.size w4.heap.size).bs.length = 5 := rfl
  obtain ⟨f, ef⟩ : ∃ f, lF w5.heap.size G0 G1 G2 G3 G4 W.heap.size w1.heap.size w2.heap.size w4.heap.size = f := ⟨_, rfl⟩
  rw [ef] at hF hA hsm hsu hfc hlen
  have hord : OrderIs (succP (fnD f).bs) f.bs.length [0, 1, 2, 3] := by rw [hsu, hlen]; exact lS_order
  have cR := fun (w : World) (h : FnIn w.heap.size w f) => Reach_own f w h hsm (by rw [hlen]; decide) [0, 1, 2, 3] hord
  have cO := fun (w : World) (h : FnIn w.heap.size w f) => Order_own f w h hsm (by rw [hlen]; decide) [0, 1, 2, 3] hord
  have cS := fun (w : World) (h : FnIn w.heap.size w f) => Succs_own f ((0 : Nat) : Int) w h hsm
  simp only [succI_nat, hsu] at cS
  simp only [hfc, hlen] at cR cO cS
  obtain ⟨H, eH⟩ : ∃ H, w5.heap.size = H := ⟨_, rfl⟩
  simp only [eH] at hA cR cO cS ⊢
  obtain ⟨w5a, e5a⟩ : ∃ w5a, w5.alloc (.cells #[.slice (some ⟨G0, 0, none⟩) 1 1, .slice (some ⟨G1, 0, none⟩) 1 1, .slice (some ⟨G2, 0, none⟩) 1 1, .slice (some ⟨G3, 0, none⟩) 1 1, .slice (some ⟨G4, 0, none⟩) 1 1] 47) = w5a := ⟨_, rfl⟩
  have hs5 : w5a.heap.size = H + 1 := by rw [← e5a, ← eH]; simp
  have P5 : Past W.heap.size W w5a := by rw [← e5a]; exact H1.out.1.alloc _
  simp only [e5a] at hA ⊢
  have B6 : Box (H + 1) [.string { data := #[] }, .slice none 0 0, .int .i64 0, .slice (some ⟨H, 0, none⟩) 5 5] (w5a.alloc (.cells #[.string { data := #[] }, .slice none 0 0, .int .i64 0, .slice (some ⟨H, 0, none⟩) 5 5] 25)) := Box.new w5a hs5.symm _ _
  have P6 := P5.alloc (.cells #[.string { data := #[] }, .slice none 0 0, .int .i64 0, .slice (some ⟨H, 0, none⟩) 5 5] 25)
  have hb6 := (Below.refl w5a.heap.size w5a).alloc (Nat.le_refl _) (.cells #[.string { data := #[] }, .slice none 0 0, .int .i64 0, .slice (some ⟨H, 0, none⟩) 5 5] 25)
  obtain ⟨w6, e6⟩ : ∃ w6, (w5a.alloc (.cells #[.string { data := #[] }, .slice none 0 0, .int .i64 0, .slice (some ⟨H, 0, none⟩) 5 5] 25)) = w6 := ⟨_, rfl⟩
  simp only [e6] at B6 P6 hb6 ⊢
  have HA : Hid (∀ u, Below w6.heap.size w6 u → FnIn u.heap.size u f) := Lib.hid (fun u hu => hA u (hb6.trans (hu.mono hb6.size)))
  have HP := Lib.hid (And.intro P6 B6)
  have c1 := cR w6 (HA.out _ (Below.refl _ _))
  have b0 := B6.get 0 _ rfl
  have b1 := B6.get 1 _ rfl
  have b2 := B6.get 2 _ rfl
  have b3 := B6.get 3 _ rfl
  have HO := Lib.hid cO
  have HS := Lib.hid cS
  clear hA hsm hsu hfc hlen ef hF hord cR cO cS eH e5a hs5 P5 B6 P6 hb6 e6 hbf H1
  go_wp2_with fail
  refine c1.mono ?_
  rintro e w7 ⟨R, rfl, hp7, hR7, hr7⟩
  have HP7 := Lib.hid (And.intro (HP.out.1.trans ⟨HP.out.1.size, hp7.2.mono HP.out.1.size⟩) (And.intro (HP.out.2.later hp7.2) (And.intro hr7 hp7.2)))
  clear c1 b0 b1 b2 b3 HP hp7 hR7 hr7
  have b0 := HP7.out.2.1.get 0 _ rfl
  have b1 := HP7.out.2.1.get 1 _ rfl
  have b2 := HP7.out.2.1.get 2 _ rfl
  have b3 := HP7.out.2.1.get 3 _ rfl
  have c1 := HO.out w7 (HA.out _ HP7.out.2.2.2)
  go_wp2_with fail
  refine c1.mono ?_
  rintro e w8 ⟨p, c, rfl, hp8, ho8⟩
  have HP8 := Lib.hid (And.intro (HP7.out.1.trans ⟨HP7.out.1.size, hp8.2.mono HP7.out.1.size⟩) (And.intro (HP7.out.2.1.later hp8.2) (And.intro (rowIs_kept HP7.out.2.2.1 (below_grown hp8.2) (by simp)) (And.intro (HP7.out.2.2.2.trans (hp8.2.mono HP7.out.2.2.2.size)) (ints_in ho8 (Nat.le_refl _))))))
  clear c1 b0 b1 b2 b3 HP7 hp8 ho8
  have c1 := Ints_any (w8.alloc (.cells #[.int .i64 0, .int .i64 1, .int .i64 2, .int .i64 3] 3)) p (some ⟨w8.heap.size, 0, none⟩) 4 4 c 4 [0, 1, 2, 3] [0, 1, 2, 3] (HP8.out.2.2.2.2.all _ ((Below.refl _ _).alloc (Nat.le_refl _) _)) (intlit (w := w8) rfl [0, 1, 2, 3] (show 4 ≤ maxLen by decide))
  go_wp2_with fail
  refine c1.mono ?_
  rintro e w9 ⟨bo, rfl, hbo, hb9⟩
  obtain rfl : bo = true := hbo.2 (by trivial)
  have hb9' : Below w8.heap.size w8 w9 := ((Below.refl w8.heap.size w8).alloc (Nat.le_refl _) (.cells #[.int .i64 0, .int .i64 1, .int .i64 2, .int .i64 3] 3)).trans (hb9.mono (by simp))
  have HP9 := Lib.hid (And.intro (HP8.out.1.trans ⟨HP8.out.1.size, hb9'.mono HP8.out.1.size⟩) (And.intro (HP8.out.2.1.later hb9') (HP8.out.2.2.2.1.trans (hb9'.mono HP8.out.2.2.2.1.size))))
  have r9 := rowIs_kept HP8.out.2.2.1 (below_grown hb9') (by simp)
  have q3 : w9.cell? ⟨R, 3, none⟩ = some (.bool true) := r9.cell (i := 3) (by decide)
  have q4 : w9.cell? ⟨R, 4, none⟩ = some (.bool false) := r9.cell (i := 4) (by decide)
  clear c1 HP8 hbo hb9 hb9' r9
  have b0 := HP9.out.2.1.get 0 _ rfl
  have b1 := HP9.out.2.1.get 1 _ rfl
  have b2 := HP9.out.2.1.get 2 _ rfl
  have b3 := HP9.out.2.1.get 3 _ rfl
  have c1 : Calls Try.prog 11 #[.agg #[.string { data := #[] }, .slice none 0 0, .int .i64 0, .slice (some ⟨H, 0, none⟩) 5 5], .int .i64 0] w9 (OwnInts [2, 1] w9) := HS.out w9 (HA.out _ HP9.out.2.2)
  go_wp2_with fail
  refine c1.mono ?_
  rintro e w10 ⟨p2, c2, rfl, hp10, ho10⟩
  have HP10 := Lib.hid (And.intro (HP9.out.1.trans ⟨HP9.out.1.size, hp10.2.mono HP9.out.1.size⟩) (ints_in ho10 (Nat.le_refl _)))
  clear c1 b0 b1 b2 b3 HP9 hp10 ho10 q3 q4
  have c1 := Ints_any (w10.alloc (.cells #[.int .i64 2, .int .i64 1] 3)) p2 (some ⟨w10.heap.size, 0, none⟩) 2 2 c2 2 [2, 1] [2, 1] (HP10.out.2.all _ ((Below.refl _ _).alloc (Nat.le_refl _) _)) (intlit (w := w10) rfl [2, 1] (show 2 ≤ maxLen by decide))
  go_wp2_with fail
  refine c1.mono ?_
  rintro e w11 ⟨bo, rfl, hbo, hb11⟩
  obtain rfl : bo = true := hbo.2 (by trivial)
  have P11 := (HP10.out.1.alloc (.cells #[.int .i64 2, .int .i64 1] 3)).trans ⟨(HP10.out.1.alloc (.cells #[.int .i64 2, .int .i64 1] 3)).size, hb11.mono (HP10.out.1.alloc (.cells #[.int .i64 2, .int .i64 1] 3)).size⟩
  have HP11 := Lib.hid P11
  clear c1 hbo hb11 P11
  go_wp2_with fail
  go_ret
  exact ⟨rfl, HP11.out.2⟩
end Go.Proofs.Ytejnhdhfmklajaa
