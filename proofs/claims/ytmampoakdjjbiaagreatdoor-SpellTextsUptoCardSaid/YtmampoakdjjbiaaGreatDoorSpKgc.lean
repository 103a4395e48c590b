/- The parts of a line behind the operation's word: 20, 21, 22. -/
import Derived.Test.YtmampoakdjjbiaaGreatDoorSpKg
namespace Go.Proofs.YtmampoakdjjbiaaGreatDoor
open Go.RowKit Go.Maps
set_option linter.unusedVariables false
set_option linter.unusedSimpArgs false

set_option maxRecDepth 100000 in
set_option maxHeartbeats 8000000 in
theorem fm_20 (b : Nat) (rg ty nn fl : Int) (ap tp : Option Addr) (al tl ac tc : Nat) (A B : List ByteArray) (W : World) (cA : ∀ w, Below W.heap.size W w → Calls Tryz.prog 122 #[.slice ap al ac, .func (.func 123) #[.pointer (some ⟨b, 0, none⟩)] #[]] w (OwnS A w))
    (cB : ∀ w, Below W.heap.size W w → Calls Tryz.prog 78 #[.slice tp tl tc, .func (.func 79) #[] #[]] w (OwnS B w))
    (T : Int → ByteArray) (cT : ∀ t w, Below W.heap.size W w → Calls Tryz.prog 12 #[.int .i64 t] w (StrV (T t) w))
    (L : ByteArray) (cL : ∀ v w, SL w v A → Calls Tryz.prog 77 #[v] w (StrV L w)) :
    Calls Tryz.prog 105 #[.pointer (some ⟨b, 0, none⟩), .agg #[.int .i64 20, .int .i64 rg, .int .i64 ty, .int .i64 nn, .int .i64 fl, .slice ap al ac, .slice tp tl tc]] W (OwnS ([T nn, L, ⟨#[116, 111]⟩, T ty]) W) := by
  have HS0 : Hid (OneS W [.int .i64 20, .int .i64 rg, .int .i64 ty, .int .i64 nn, .int .i64 fl, .slice ap al ac, .slice tp tl tc] (W.alloc (.cells #[.int .i64 20, .int .i64 rg, .int .i64 ty, .int .i64 nn, .int .i64 fl, .slice ap al ac, .slice tp tl tc] 39))) := Lib.hid ⟨Box.new W rfl _ _, (Below.refl _ _).alloc (Nat.le_refl _) _⟩
  have HAB := Lib.hid (And.intro cA cB)
  clear cA cB
  have HL := Lib.hid (And.intro cT cL)
  clear cT cL
  go_enter Tryz.func105, Tryz.ntmps105
  go_upto_region 1 with fail
  obtain ⟨w1, ew1⟩ : ∃ w1, (W.alloc (.cells #[.int .i64 20, .int .i64 rg, .int .i64 ty, .int .i64 nn, .int .i64 fl, .slice ap al ac, .slice tp tl tc] 39)) = w1 := ⟨_, rfl⟩
  rw [ew1] at HS0 ⊢
  clear ew1
  go_cut [5, 6] (fun ta tb wx => OS wx W.heap.size ta A ∧ OS wx W.heap.size tb B ∧ OneS W [.int .i64 20, .int .i64 rg, .int .i64 ty, .int .i64 nn, .int .i64 fl, .slice ap al ac, .slice tp tl tc] wx)
  case first =>
    have HSS : ∀ w, OneS W [.int .i64 20, .int .i64 rg, .int .i64 ty, .int .i64 nn, .int .i64 fl, .slice ap al ac, .slice tp tl tc] w → (w.cell? ⟨W.heap.size, 5, none⟩ = some (.slice ap al ac) ∧ w.cell? ⟨W.heap.size, 6, none⟩ = some (.slice tp tl tc)) := fun w h => ⟨h.1.get 5 _ rfl, h.1.get 6 _ rfl⟩
    obtain ⟨y0_, y1_⟩ := HSS w1 HS0.out
    have kh : OneS W [.int .i64 20, .int .i64 rg, .int .i64 ty, .int .i64 nn, .int .i64 fl, .slice ap al ac, .slice tp tl tc] w1 := HS0.out
    have cO1 : ∀ w, ((w.cell? ⟨W.heap.size, 5, none⟩ = some (.slice ap al ac) ∧ w.cell? ⟨W.heap.size, 6, none⟩ = some (.slice tp tl tc)) ∧ OneS W [.int .i64 20, .int .i64 rg, .int .i64 ty, .int .i64 nn, .int .i64 fl, .slice ap al ac, .slice tp tl tc] w) → Calls Tryz.prog 122 #[.slice ap al ac, .func (.func 123) #[.pointer (some ⟨b, 0, none⟩)] #[]] w fun e w' => ∃ v, e = .returned v ∧ w'.cell? ⟨W.heap.size, 5, none⟩ = some (.slice ap al ac) ∧ w'.cell? ⟨W.heap.size, 6, none⟩ = some (.slice tp tl tc) ∧ OneS W [.int .i64 20, .int .i64 rg, .int .i64 ty, .int .i64 nn, .int .i64 fl, .slice ap al ac, .slice tp tl tc] w' ∧ OS w' W.heap.size v A := by
      rintro w ⟨k, kh⟩
      refine (HAB.out.1 w kh.2).mono ?_
      rintro e w' ⟨v, he, hO, hb⟩
      have h2 := kh.later hb
      obtain ⟨s0, s1⟩ := HSS w' h2
      exact ⟨v, he, s0, s1, h2, hO.mono kh.2.size⟩
    have cO2 : ∀ w, ((w.cell? ⟨W.heap.size, 5, none⟩ = some (.slice ap al ac) ∧ w.cell? ⟨W.heap.size, 6, none⟩ = some (.slice tp tl tc)) ∧ OneS W [.int .i64 20, .int .i64 rg, .int .i64 ty, .int .i64 nn, .int .i64 fl, .slice ap al ac, .slice tp tl tc] w) → Calls Tryz.prog 78 #[.slice tp tl tc, .func (.func 79) #[] #[]] w fun e w' => ∃ v, e = .returned v ∧ w'.cell? ⟨W.heap.size, 5, none⟩ = some (.slice ap al ac) ∧ w'.cell? ⟨W.heap.size, 6, none⟩ = some (.slice tp tl tc) ∧ OneS W [.int .i64 20, .int .i64 rg, .int .i64 ty, .int .i64 nn, .int .i64 fl, .slice ap al ac, .slice tp tl tc] w' ∧ OS w' W.heap.size v B ∧ Below w.heap.size w w' := by
      rintro w ⟨k, kh⟩
      refine (HAB.out.2 w kh.2).mono ?_
      rintro e w' ⟨v, he, hO, hb⟩
      have h2 := kh.later hb
      obtain ⟨s0, s1⟩ := HSS w' h2
      exact ⟨v, he, s0, s1, h2, hO.mono kh.2.size, hb⟩
    clear HSS
    go_region_held3 (fun w' => w'.cell? ⟨W.heap.size, 5, none⟩ = some (.slice ap al ac) ∧ w'.cell? ⟨W.heap.size, 6, none⟩ = some (.slice tp tl tc))
      (((try dsimp only); (repeat' apply And.intro) <;> (first | (with_reducible assumption) | (rw [World.cell?_drew]; with_reducible assumption) | (refine (cell_alloc_lt ?_).trans ?_ <;> with_reducible assumption) | (simp <;> omega))))
      (first
        | ((with_reducible refine' (cO1 _ ?pre).mono ?_)
           case pre => (refine ⟨⟨?_, ?_⟩, ?_⟩ <;> (first | (with_reducible assumption) | (rw [World.cell?_drew]; with_reducible assumption) | (with_reducible apply OneS.drew; with_reducible assumption) | (simp <;> omega) | omega))
           rintro e wsA ⟨vA, rfl, a0_, a1_, sahA, hOA⟩)
        | ((with_reducible refine' (cO2 _ ?pre).mono ?_)
           case pre => (refine ⟨⟨?_, ?_⟩, ?_⟩ <;> (first | (with_reducible assumption) | (rw [World.cell?_drew]; with_reducible assumption) | (with_reducible apply OneS.drew; with_reducible assumption) | (simp <;> omega) | omega))
           rintro e wsB ⟨vB, rfl, b0_, b1_, sahB, hOB, hBB⟩))
    all_goals
      have HFIN := Lib.hid (And.intro (OS.later hOA hBB) (And.intro hOB sahB))
      clear hOA hOB sahA sahB hBB a0_ a1_ b0_ b1_
      go_wp2_with fail
      go_meet
      exact ⟨HFIN.out.1, HFIN.out.2.1, HFIN.out.2.2⟩
  case rest =>
  obtain ⟨hOA, hOB, hS⟩ := hcut
  have HS := Lib.hid (And.intro hOA (And.intro hOB hS))
  generalize wc = wx at *
  clear hOA hOB hS HS0 HAB
  have z0 := HS.out.2.2.1.get 0 _ rfl
  obtain ⟨pa, ca, eva⟩ := HS.out.1.sl.slice
  subst eva
  obtain ⟨na, ea⟩ : ∃ n, A.length = n := ⟨_, rfl⟩
  rw [ea] at HS ⊢
  clear ea
  replace HS : Hid (FS W [.int .i64 20, .int .i64 rg, .int .i64 ty, .int .i64 nn, .int .i64 fl, .slice ap al ac, .slice tp tl tc] (.slice pa na ca) A wx) := Lib.hid ⟨HS.out.2.2, HS.out.1⟩
  go_upto_region 6 with fail
  clear z0
  have HSS : ∀ w, FS W [.int .i64 20, .int .i64 rg, .int .i64 ty, .int .i64 nn, .int .i64 fl, .slice ap al ac, .slice tp tl tc] (.slice pa na ca) A w → (w.cell? ⟨W.heap.size, 2, none⟩ = some (.int .i64 ty) ∧ w.cell? ⟨W.heap.size, 3, none⟩ = some (.int .i64 nn)) := fun w h => ⟨h.1.1.get 2 _ rfl, h.1.1.get 3 _ rfl⟩
  obtain ⟨y0_, y1_⟩ := HSS wx HS.out
  have kh : FS W [.int .i64 20, .int .i64 rg, .int .i64 ty, .int .i64 nn, .int .i64 fl, .slice ap al ac, .slice tp tl tc] (.slice pa na ca) A wx := HS.out
  have cA : ∀ w, ((w.cell? ⟨W.heap.size, 2, none⟩ = some (.int .i64 ty) ∧ w.cell? ⟨W.heap.size, 3, none⟩ = some (.int .i64 nn)) ∧ FS W [.int .i64 20, .int .i64 rg, .int .i64 ty, .int .i64 nn, .int .i64 fl, .slice ap al ac, .slice tp tl tc] (.slice pa na ca) A w) → Calls Tryz.prog 12 #[.int .i64 nn] w fun e w' => e = .returned (.string (T nn)) ∧ w'.cell? ⟨W.heap.size, 2, none⟩ = some (.int .i64 ty) ∧ w'.cell? ⟨W.heap.size, 3, none⟩ = some (.int .i64 nn) ∧ FS W [.int .i64 20, .int .i64 rg, .int .i64 ty, .int .i64 nn, .int .i64 fl, .slice ap al ac, .slice tp tl tc] (.slice pa na ca) A w' := by
    rintro w ⟨k, kh⟩
    refine ((fun w (kh : FS W [.int .i64 20, .int .i64 rg, .int .i64 ty, .int .i64 nn, .int .i64 fl, .slice ap al ac, .slice tp tl tc] (.slice pa na ca) A w) => HL.out.1 nn w kh.1.2) w kh).mono ?_
    rintro e w' ⟨he, hb⟩
    have h2 := kh.later hb
    obtain ⟨s0, s1⟩ := HSS w' h2
    exact ⟨he, s0, s1, h2⟩
  have cB : ∀ w, ((w.cell? ⟨W.heap.size, 2, none⟩ = some (.int .i64 ty) ∧ w.cell? ⟨W.heap.size, 3, none⟩ = some (.int .i64 nn)) ∧ FS W [.int .i64 20, .int .i64 rg, .int .i64 ty, .int .i64 nn, .int .i64 fl, .slice ap al ac, .slice tp tl tc] (.slice pa na ca) A w) → Calls Tryz.prog 77 #[.slice pa na ca] w fun e w' => e = .returned (.string L) ∧ w'.cell? ⟨W.heap.size, 2, none⟩ = some (.int .i64 ty) ∧ w'.cell? ⟨W.heap.size, 3, none⟩ = some (.int .i64 nn) ∧ FS W [.int .i64 20, .int .i64 rg, .int .i64 ty, .int .i64 nn, .int .i64 fl, .slice ap al ac, .slice tp tl tc] (.slice pa na ca) A w' := by
    rintro w ⟨k, kh⟩
    refine ((fun w (kh : FS W [.int .i64 20, .int .i64 rg, .int .i64 ty, .int .i64 nn, .int .i64 fl, .slice ap al ac, .slice tp tl tc] (.slice pa na ca) A w) => HL.out.2 _ w kh.2.sl) w kh).mono ?_
    rintro e w' ⟨he, hb⟩
    have h2 := kh.later hb
    obtain ⟨s0, s1⟩ := HSS w' h2
    exact ⟨he, s0, s1, h2⟩
  have cC : ∀ w, ((w.cell? ⟨W.heap.size, 2, none⟩ = some (.int .i64 ty) ∧ w.cell? ⟨W.heap.size, 3, none⟩ = some (.int .i64 nn)) ∧ FS W [.int .i64 20, .int .i64 rg, .int .i64 ty, .int .i64 nn, .int .i64 fl, .slice ap al ac, .slice tp tl tc] (.slice pa na ca) A w) → Calls Tryz.prog 12 #[.int .i64 ty] w fun e w' => e = .returned (.string (T ty)) ∧ w'.cell? ⟨W.heap.size, 2, none⟩ = some (.int .i64 ty) ∧ w'.cell? ⟨W.heap.size, 3, none⟩ = some (.int .i64 nn) ∧ FS W [.int .i64 20, .int .i64 rg, .int .i64 ty, .int .i64 nn, .int .i64 fl, .slice ap al ac, .slice tp tl tc] (.slice pa na ca) A w' := by
    rintro w ⟨k, kh⟩
    refine ((fun w (kh : FS W [.int .i64 20, .int .i64 rg, .int .i64 ty, .int .i64 nn, .int .i64 fl, .slice ap al ac, .slice tp tl tc] (.slice pa na ca) A w) => HL.out.1 ty w kh.1.2) w kh).mono ?_
    rintro e w' ⟨he, hb⟩
    have h2 := kh.later hb
    obtain ⟨s0, s1⟩ := HSS w' h2
    exact ⟨he, s0, s1, h2⟩
  clear HSS
  go_region_held3 (fun w' => w'.cell? ⟨W.heap.size, 2, none⟩ = some (.int .i64 ty) ∧ w'.cell? ⟨W.heap.size, 3, none⟩ = some (.int .i64 nn))
    (((try dsimp only); (repeat' apply And.intro) <;> (first | (with_reducible assumption) | (rw [World.cell?_drew]; with_reducible assumption) | (refine (cell_alloc_lt ?_).trans ?_ <;> with_reducible assumption) | (simp <;> omega))))
    (first
      | ((with_reducible refine' (cA _ ?pre).mono ?_)
         case pre => (refine ⟨⟨?_, ?_⟩, ?_⟩ <;> (first | (with_reducible assumption) | (rw [World.cell?_drew]; with_reducible assumption) | (with_reducible apply FS.drew; with_reducible assumption) | (simp <;> omega) | omega))
         rintro e wscA ⟨rfl, cA_0, cA_1, sahcA⟩)
      | ((with_reducible refine' (cB _ ?pre).mono ?_)
         case pre => (refine ⟨⟨?_, ?_⟩, ?_⟩ <;> (first | (with_reducible assumption) | (rw [World.cell?_drew]; with_reducible assumption) | (with_reducible apply FS.drew; with_reducible assumption) | (simp <;> omega) | omega))
         rintro e wscB ⟨rfl, cB_0, cB_1, sahcB⟩
         have hlt_cB := sahcB.1.1.1)
      | ((with_reducible refine' (cC _ ?pre).mono ?_)
         case pre => (refine ⟨⟨?_, ?_⟩, ?_⟩ <;> (first | (with_reducible assumption) | (rw [World.cell?_drew]; with_reducible assumption) | (with_reducible apply FS.drew; with_reducible assumption) | (simp <;> omega) | omega))
         rintro e wscC ⟨rfl, cC_0, cC_1, sahcC⟩
         have hlt_cC := sahcC.1.1.1))
  all_goals
    have HX := Lib.hid sahcC.1
    go_wp2_with fail
    go_ret
    exact ⟨_, rfl, OS.lit _ HX.out.2.size [T nn, L, ⟨#[116, 111]⟩, T ty] _ rfl 4 rfl (by decide), HX.out.2.alloc HX.out.2.size _⟩
set_option maxRecDepth 100000 in
set_option maxHeartbeats 8000000 in
theorem fm_21 (b : Nat) (rg ty nn fl : Int) (ap tp : Option Addr) (al tl ac tc : Nat) (A B : List ByteArray) (W : World) (cA : ∀ w, Below W.heap.size W w → Calls Tryz.prog 122 #[.slice ap al ac, .func (.func 123) #[.pointer (some ⟨b, 0, none⟩)] #[]] w (OwnS A w))
    (cB : ∀ w, Below W.heap.size W w → Calls Tryz.prog 78 #[.slice tp tl tc, .func (.func 79) #[] #[]] w (OwnS B w))
    (T : Int → ByteArray) (cT : ∀ t w, Below W.heap.size W w → Calls Tryz.prog 12 #[.int .i64 t] w (StrV (T t) w))
    (L : ByteArray) (cL : ∀ v w, SL w v A → Calls Tryz.prog 77 #[v] w (StrV L w)) :
    Calls Tryz.prog 105 #[.pointer (some ⟨b, 0, none⟩), .agg #[.int .i64 21, .int .i64 rg, .int .i64 ty, .int .i64 nn, .int .i64 fl, .slice ap al ac, .slice tp tl tc]] W (OwnS ([T nn, L, ⟨#[116, 111]⟩, T ty]) W) := by
  have HS0 : Hid (OneS W [.int .i64 21, .int .i64 rg, .int .i64 ty, .int .i64 nn, .int .i64 fl, .slice ap al ac, .slice tp tl tc] (W.alloc (.cells #[.int .i64 21, .int .i64 rg, .int .i64 ty, .int .i64 nn, .int .i64 fl, .slice ap al ac, .slice tp tl tc] 39))) := Lib.hid ⟨Box.new W rfl _ _, (Below.refl _ _).alloc (Nat.le_refl _) _⟩
  have HAB := Lib.hid (And.intro cA cB)
  clear cA cB
  have HL := Lib.hid (And.intro cT cL)
  clear cT cL
  go_enter Tryz.func105, Tryz.ntmps105
  go_upto_region 1 with fail
  obtain ⟨w1, ew1⟩ : ∃ w1, (W.alloc (.cells #[.int .i64 21, .int .i64 rg, .int .i64 ty, .int .i64 nn, .int .i64 fl, .slice ap al ac, .slice tp tl tc] 39)) = w1 := ⟨_, rfl⟩
  rw [ew1] at HS0 ⊢
  clear ew1
  go_cut [5, 6] (fun ta tb wx => OS wx W.heap.size ta A ∧ OS wx W.heap.size tb B ∧ OneS W [.int .i64 21, .int .i64 rg, .int .i64 ty, .int .i64 nn, .int .i64 fl, .slice ap al ac, .slice tp tl tc] wx)
  case first =>
    have HSS : ∀ w, OneS W [.int .i64 21, .int .i64 rg, .int .i64 ty, .int .i64 nn, .int .i64 fl, .slice ap al ac, .slice tp tl tc] w → (w.cell? ⟨W.heap.size, 5, none⟩ = some (.slice ap al ac) ∧ w.cell? ⟨W.heap.size, 6, none⟩ = some (.slice tp tl tc)) := fun w h => ⟨h.1.get 5 _ rfl, h.1.get 6 _ rfl⟩
    obtain ⟨y0_, y1_⟩ := HSS w1 HS0.out
    have kh : OneS W [.int .i64 21, .int .i64 rg, .int .i64 ty, .int .i64 nn, .int .i64 fl, .slice ap al ac, .slice tp tl tc] w1 := HS0.out
    have cO1 : ∀ w, ((w.cell? ⟨W.heap.size, 5, none⟩ = some (.slice ap al ac) ∧ w.cell? ⟨W.heap.size, 6, none⟩ = some (.slice tp tl tc)) ∧ OneS W [.int .i64 21, .int .i64 rg, .int .i64 ty, .int .i64 nn, .int .i64 fl, .slice ap al ac, .slice tp tl tc] w) → Calls Tryz.prog 122 #[.slice ap al ac, .func (.func 123) #[.pointer (some ⟨b, 0, none⟩)] #[]] w fun e w' => ∃ v, e = .returned v ∧ w'.cell? ⟨W.heap.size, 5, none⟩ = some (.slice ap al ac) ∧ w'.cell? ⟨W.heap.size, 6, none⟩ = some (.slice tp tl tc) ∧ OneS W [.int .i64 21, .int .i64 rg, .int .i64 ty, .int .i64 nn, .int .i64 fl, .slice ap al ac, .slice tp tl tc] w' ∧ OS w' W.heap.size v A := by
      rintro w ⟨k, kh⟩
      refine (HAB.out.1 w kh.2).mono ?_
      rintro e w' ⟨v, he, hO, hb⟩
      have h2 := kh.later hb
      obtain ⟨s0, s1⟩ := HSS w' h2
      exact ⟨v, he, s0, s1, h2, hO.mono kh.2.size⟩
    have cO2 : ∀ w, ((w.cell? ⟨W.heap.size, 5, none⟩ = some (.slice ap al ac) ∧ w.cell? ⟨W.heap.size, 6, none⟩ = some (.slice tp tl tc)) ∧ OneS W [.int .i64 21, .int .i64 rg, .int .i64 ty, .int .i64 nn, .int .i64 fl, .slice ap al ac, .slice tp tl tc] w) → Calls Tryz.prog 78 #[.slice tp tl tc, .func (.func 79) #[] #[]] w fun e w' => ∃ v, e = .returned v ∧ w'.cell? ⟨W.heap.size, 5, none⟩ = some (.slice ap al ac) ∧ w'.cell? ⟨W.heap.size, 6, none⟩ = some (.slice tp tl tc) ∧ OneS W [.int .i64 21, .int .i64 rg, .int .i64 ty, .int .i64 nn, .int .i64 fl, .slice ap al ac, .slice tp tl tc] w' ∧ OS w' W.heap.size v B ∧ Below w.heap.size w w' := by
      rintro w ⟨k, kh⟩
      refine (HAB.out.2 w kh.2).mono ?_
      rintro e w' ⟨v, he, hO, hb⟩
      have h2 := kh.later hb
      obtain ⟨s0, s1⟩ := HSS w' h2
      exact ⟨v, he, s0, s1, h2, hO.mono kh.2.size, hb⟩
    clear HSS
    go_region_held3 (fun w' => w'.cell? ⟨W.heap.size, 5, none⟩ = some (.slice ap al ac) ∧ w'.cell? ⟨W.heap.size, 6, none⟩ = some (.slice tp tl tc))
      (((try dsimp only); (repeat' apply And.intro) <;> (first | (with_reducible assumption) | (rw [World.cell?_drew]; with_reducible assumption) | (refine (cell_alloc_lt ?_).trans ?_ <;> with_reducible assumption) | (simp <;> omega))))
      (first
        | ((with_reducible refine' (cO1 _ ?pre).mono ?_)
           case pre => (refine ⟨⟨?_, ?_⟩, ?_⟩ <;> (first | (with_reducible assumption) | (rw [World.cell?_drew]; with_reducible assumption) | (with_reducible apply OneS.drew; with_reducible assumption) | (simp <;> omega) | omega))
           rintro e wsA ⟨vA, rfl, a0_, a1_, sahA, hOA⟩)
        | ((with_reducible refine' (cO2 _ ?pre).mono ?_)
           case pre => (refine ⟨⟨?_, ?_⟩, ?_⟩ <;> (first | (with_reducible assumption) | (rw [World.cell?_drew]; with_reducible assumption) | (with_reducible apply OneS.drew; with_reducible assumption) | (simp <;> omega) | omega))
           rintro e wsB ⟨vB, rfl, b0_, b1_, sahB, hOB, hBB⟩))
    all_goals
      have HFIN := Lib.hid (And.intro (OS.later hOA hBB) (And.intro hOB sahB))
      clear hOA hOB sahA sahB hBB a0_ a1_ b0_ b1_
      go_wp2_with fail
      go_meet
      exact ⟨HFIN.out.1, HFIN.out.2.1, HFIN.out.2.2⟩
  case rest =>
  obtain ⟨hOA, hOB, hS⟩ := hcut
  have HS := Lib.hid (And.intro hOA (And.intro hOB hS))
  generalize wc = wx at *
  clear hOA hOB hS HS0 HAB
  have z0 := HS.out.2.2.1.get 0 _ rfl
  obtain ⟨pa, ca, eva⟩ := HS.out.1.sl.slice
  subst eva
  obtain ⟨na, ea⟩ : ∃ n, A.length = n := ⟨_, rfl⟩
  rw [ea] at HS ⊢
  clear ea
  replace HS : Hid (FS W [.int .i64 21, .int .i64 rg, .int .i64 ty, .int .i64 nn, .int .i64 fl, .slice ap al ac, .slice tp tl tc] (.slice pa na ca) A wx) := Lib.hid ⟨HS.out.2.2, HS.out.1⟩
  go_upto_region 6 with fail
  clear z0
  have HSS : ∀ w, FS W [.int .i64 21, .int .i64 rg, .int .i64 ty, .int .i64 nn, .int .i64 fl, .slice ap al ac, .slice tp tl tc] (.slice pa na ca) A w → (w.cell? ⟨W.heap.size, 2, none⟩ = some (.int .i64 ty) ∧ w.cell? ⟨W.heap.size, 3, none⟩ = some (.int .i64 nn)) := fun w h => ⟨h.1.1.get 2 _ rfl, h.1.1.get 3 _ rfl⟩
  obtain ⟨y0_, y1_⟩ := HSS wx HS.out
  have kh : FS W [.int .i64 21, .int .i64 rg, .int .i64 ty, .int .i64 nn, .int .i64 fl, .slice ap al ac, .slice tp tl tc] (.slice pa na ca) A wx := HS.out
  have cA : ∀ w, ((w.cell? ⟨W.heap.size, 2, none⟩ = some (.int .i64 ty) ∧ w.cell? ⟨W.heap.size, 3, none⟩ = some (.int .i64 nn)) ∧ FS W [.int .i64 21, .int .i64 rg, .int .i64 ty, .int .i64 nn, .int .i64 fl, .slice ap al ac, .slice tp tl tc] (.slice pa na ca) A w) → Calls Tryz.prog 12 #[.int .i64 nn] w fun e w' => e = .returned (.string (T nn)) ∧ w'.cell? ⟨W.heap.size, 2, none⟩ = some (.int .i64 ty) ∧ w'.cell? ⟨W.heap.size, 3, none⟩ = some (.int .i64 nn) ∧ FS W [.int .i64 21, .int .i64 rg, .int .i64 ty, .int .i64 nn, .int .i64 fl, .slice ap al ac, .slice tp tl tc] (.slice pa na ca) A w' := by
    rintro w ⟨k, kh⟩
    refine ((fun w (kh : FS W [.int .i64 21, .int .i64 rg, .int .i64 ty, .int .i64 nn, .int .i64 fl, .slice ap al ac, .slice tp tl tc] (.slice pa na ca) A w) => HL.out.1 nn w kh.1.2) w kh).mono ?_
    rintro e w' ⟨he, hb⟩
    have h2 := kh.later hb
    obtain ⟨s0, s1⟩ := HSS w' h2
    exact ⟨he, s0, s1, h2⟩
  have cB : ∀ w, ((w.cell? ⟨W.heap.size, 2, none⟩ = some (.int .i64 ty) ∧ w.cell? ⟨W.heap.size, 3, none⟩ = some (.int .i64 nn)) ∧ FS W [.int .i64 21, .int .i64 rg, .int .i64 ty, .int .i64 nn, .int .i64 fl, .slice ap al ac, .slice tp tl tc] (.slice pa na ca) A w) → Calls Tryz.prog 77 #[.slice pa na ca] w fun e w' => e = .returned (.string L) ∧ w'.cell? ⟨W.heap.size, 2, none⟩ = some (.int .i64 ty) ∧ w'.cell? ⟨W.heap.size, 3, none⟩ = some (.int .i64 nn) ∧ FS W [.int .i64 21, .int .i64 rg, .int .i64 ty, .int .i64 nn, .int .i64 fl, .slice ap al ac, .slice tp tl tc] (.slice pa na ca) A w' := by
    rintro w ⟨k, kh⟩
    refine ((fun w (kh : FS W [.int .i64 21, .int .i64 rg, .int .i64 ty, .int .i64 nn, .int .i64 fl, .slice ap al ac, .slice tp tl tc] (.slice pa na ca) A w) => HL.out.2 _ w kh.2.sl) w kh).mono ?_
    rintro e w' ⟨he, hb⟩
    have h2 := kh.later hb
    obtain ⟨s0, s1⟩ := HSS w' h2
    exact ⟨he, s0, s1, h2⟩
  have cC : ∀ w, ((w.cell? ⟨W.heap.size, 2, none⟩ = some (.int .i64 ty) ∧ w.cell? ⟨W.heap.size, 3, none⟩ = some (.int .i64 nn)) ∧ FS W [.int .i64 21, .int .i64 rg, .int .i64 ty, .int .i64 nn, .int .i64 fl, .slice ap al ac, .slice tp tl tc] (.slice pa na ca) A w) → Calls Tryz.prog 12 #[.int .i64 ty] w fun e w' => e = .returned (.string (T ty)) ∧ w'.cell? ⟨W.heap.size, 2, none⟩ = some (.int .i64 ty) ∧ w'.cell? ⟨W.heap.size, 3, none⟩ = some (.int .i64 nn) ∧ FS W [.int .i64 21, .int .i64 rg, .int .i64 ty, .int .i64 nn, .int .i64 fl, .slice ap al ac, .slice tp tl tc] (.slice pa na ca) A w' := by
    rintro w ⟨k, kh⟩
    refine ((fun w (kh : FS W [.int .i64 21, .int .i64 rg, .int .i64 ty, .int .i64 nn, .int .i64 fl, .slice ap al ac, .slice tp tl tc] (.slice pa na ca) A w) => HL.out.1 ty w kh.1.2) w kh).mono ?_
    rintro e w' ⟨he, hb⟩
    have h2 := kh.later hb
    obtain ⟨s0, s1⟩ := HSS w' h2
    exact ⟨he, s0, s1, h2⟩
  clear HSS
  go_region_held3 (fun w' => w'.cell? ⟨W.heap.size, 2, none⟩ = some (.int .i64 ty) ∧ w'.cell? ⟨W.heap.size, 3, none⟩ = some (.int .i64 nn))
    (((try dsimp only); (repeat' apply And.intro) <;> (first | (with_reducible assumption) | (rw [World.cell?_drew]; with_reducible assumption) | (refine (cell_alloc_lt ?_).trans ?_ <;> with_reducible assumption) | (simp <;> omega))))
    (first
      | ((with_reducible refine' (cA _ ?pre).mono ?_)
         case pre => (refine ⟨⟨?_, ?_⟩, ?_⟩ <;> (first | (with_reducible assumption) | (rw [World.cell?_drew]; with_reducible assumption) | (with_reducible apply FS.drew; with_reducible assumption) | (simp <;> omega) | omega))
         rintro e wscA ⟨rfl, cA_0, cA_1, sahcA⟩)
      | ((with_reducible refine' (cB _ ?pre).mono ?_)
         case pre => (refine ⟨⟨?_, ?_⟩, ?_⟩ <;> (first | (with_reducible assumption) | (rw [World.cell?_drew]; with_reducible assumption) | (with_reducible apply FS.drew; with_reducible assumption) | (simp <;> omega) | omega))
         rintro e wscB ⟨rfl, cB_0, cB_1, sahcB⟩
         have hlt_cB := sahcB.1.1.1)
      | ((with_reducible refine' (cC _ ?pre).mono ?_)
         case pre => (refine ⟨⟨?_, ?_⟩, ?_⟩ <;> (first | (with_reducible assumption) | (rw [World.cell?_drew]; with_reducible assumption) | (with_reducible apply FS.drew; with_reducible assumption) | (simp <;> omega) | omega))
         rintro e wscC ⟨rfl, cC_0, cC_1, sahcC⟩
         have hlt_cC := sahcC.1.1.1))
  all_goals
    have HX := Lib.hid sahcC.1
    go_wp2_with fail
    go_ret
    exact ⟨_, rfl, OS.lit _ HX.out.2.size [T nn, L, ⟨#[116, 111]⟩, T ty] _ rfl 4 rfl (by decide), HX.out.2.alloc HX.out.2.size _⟩
set_option maxRecDepth 100000 in
set_option maxHeartbeats 8000000 in
theorem fm_22 (b : Nat) (rg ty nn fl : Int) (ap tp : Option Addr) (al tl ac tc : Nat) (A B : List ByteArray) (W : World) (cA : ∀ w, Below W.heap.size W w → Calls Tryz.prog 122 #[.slice ap al ac, .func (.func 123) #[.pointer (some ⟨b, 0, none⟩)] #[]] w (OwnS A w))
    (cB : ∀ w, Below W.heap.size W w → Calls Tryz.prog 78 #[.slice tp tl tc, .func (.func 79) #[] #[]] w (OwnS B w))
    (T : Int → ByteArray) (cT : ∀ t w, Below W.heap.size W w → Calls Tryz.prog 12 #[.int .i64 t] w (StrV (T t) w))
    (L : ByteArray) (cL : ∀ v w, SL w v A → Calls Tryz.prog 77 #[v] w (StrV L w)) :
    Calls Tryz.prog 105 #[.pointer (some ⟨b, 0, none⟩), .agg #[.int .i64 22, .int .i64 rg, .int .i64 ty, .int .i64 nn, .int .i64 fl, .slice ap al ac, .slice tp tl tc]] W (OwnS ([T nn, L, ⟨#[116, 111]⟩, T ty]) W) := by
  have HS0 : Hid (OneS W [.int .i64 22, .int .i64 rg, .int .i64 ty, .int .i64 nn, .int .i64 fl, .slice ap al ac, .slice tp tl tc] (W.alloc (.cells #[.int .i64 22, .int .i64 rg, .int .i64 ty, .int .i64 nn, .int .i64 fl, .slice ap al ac, .slice tp tl tc] 39))) := Lib.hid ⟨Box.new W rfl _ _, (Below.refl _ _).alloc (Nat.le_refl _) _⟩
  have HAB := Lib.hid (And.intro cA cB)
  clear cA cB
  have HL := Lib.hid (And.intro cT cL)
  clear cT cL
  go_enter Tryz.func105, Tryz.ntmps105
  go_upto_region 1 with fail
  obtain ⟨w1, ew1⟩ : ∃ w1, (W.alloc (.cells #[.int .i64 22, .int .i64 rg, .int .i64 ty, .int .i64 nn, .int .i64 fl, .slice ap al ac, .slice tp tl tc] 39)) = w1 := ⟨_, rfl⟩
  rw [ew1] at HS0 ⊢
  clear ew1
  go_cut [5, 6] (fun ta tb wx => OS wx W.heap.size ta A ∧ OS wx W.heap.size tb B ∧ OneS W [.int .i64 22, .int .i64 rg, .int .i64 ty, .int .i64 nn, .int .i64 fl, .slice ap al ac, .slice tp tl tc] wx)
  case first =>
    have HSS : ∀ w, OneS W [.int .i64 22, .int .i64 rg, .int .i64 ty, .int .i64 nn, .int .i64 fl, .slice ap al ac, .slice tp tl tc] w → (w.cell? ⟨W.heap.size, 5, none⟩ = some (.slice ap al ac) ∧ w.cell? ⟨W.heap.size, 6, none⟩ = some (.slice tp tl tc)) := fun w h => ⟨h.1.get 5 _ rfl, h.1.get 6 _ rfl⟩
    obtain ⟨y0_, y1_⟩ := HSS w1 HS0.out
    have kh : OneS W [.int .i64 22, .int .i64 rg, .int .i64 ty, .int .i64 nn, .int .i64 fl, .slice ap al ac, .slice tp tl tc] w1 := HS0.out
    have cO1 : ∀ w, ((w.cell? ⟨W.heap.size, 5, none⟩ = some (.slice ap al ac) ∧ w.cell? ⟨W.heap.size, 6, none⟩ = some (.slice tp tl tc)) ∧ OneS W [.int .i64 22, .int .i64 rg, .int .i64 ty, .int .i64 nn, .int .i64 fl, .slice ap al ac, .slice tp tl tc] w) → Calls Tryz.prog 122 #[.slice ap al ac, .func (.func 123) #[.pointer (some ⟨b, 0, none⟩)] #[]] w fun e w' => ∃ v, e = .returned v ∧ w'.cell? ⟨W.heap.size, 5, none⟩ = some (.slice ap al ac) ∧ w'.cell? ⟨W.heap.size, 6, none⟩ = some (.slice tp tl tc) ∧ OneS W [.int .i64 22, .int .i64 rg, .int .i64 ty, .int .i64 nn, .int .i64 fl, .slice ap al ac, .slice tp tl tc] w' ∧ OS w' W.heap.size v A := by
      rintro w ⟨k, kh⟩
      refine (HAB.out.1 w kh.2).mono ?_
      rintro e w' ⟨v, he, hO, hb⟩
      have h2 := kh.later hb
      obtain ⟨s0, s1⟩ := HSS w' h2
      exact ⟨v, he, s0, s1, h2, hO.mono kh.2.size⟩
    have cO2 : ∀ w, ((w.cell? ⟨W.heap.size, 5, none⟩ = some (.slice ap al ac) ∧ w.cell? ⟨W.heap.size, 6, none⟩ = some (.slice tp tl tc)) ∧ OneS W [.int .i64 22, .int .i64 rg, .int .i64 ty, .int .i64 nn, .int .i64 fl, .slice ap al ac, .slice tp tl tc] w) → Calls Tryz.prog 78 #[.slice tp tl tc, .func (.func 79) #[] #[]] w fun e w' => ∃ v, e = .returned v ∧ w'.cell? ⟨W.heap.size, 5, none⟩ = some (.slice ap al ac) ∧ w'.cell? ⟨W.heap.size, 6, none⟩ = some (.slice tp tl tc) ∧ OneS W [.int .i64 22, .int .i64 rg, .int .i64 ty, .int .i64 nn, .int .i64 fl, .slice ap al ac, .slice tp tl tc] w' ∧ OS w' W.heap.size v B ∧ Below w.heap.size w w' := by
      rintro w ⟨k, kh⟩
      refine (HAB.out.2 w kh.2).mono ?_
      rintro e w' ⟨v, he, hO, hb⟩
      have h2 := kh.later hb
      obtain ⟨s0, s1⟩ := HSS w' h2
      exact ⟨v, he, s0, s1, h2, hO.mono kh.2.size, hb⟩
    clear HSS
    go_region_held3 (fun w' => w'.cell? ⟨W.heap.size, 5, none⟩ = some (.slice ap al ac) ∧ w'.cell? ⟨W.heap.size, 6, none⟩ = some (.slice tp tl tc))
      (((try dsimp only); (repeat' apply And.intro) <;> (first | (with_reducible assumption) | (rw [World.cell?_drew]; with_reducible assumption) | (refine (cell_alloc_lt ?_).trans ?_ <;> with_reducible assumption) | (simp <;> omega))))
      (first
        | ((with_reducible refine' (cO1 _ ?pre).mono ?_)
           case pre => (refine ⟨⟨?_, ?_⟩, ?_⟩ <;> (first | (with_reducible assumption) | (rw [World.cell?_drew]; with_reducible assumption) | (with_reducible apply OneS.drew; with_reducible assumption) | (simp <;> omega) | omega))
           rintro e wsA ⟨vA, rfl, a0_, a1_, sahA, hOA⟩)
        | ((with_reducible refine' (cO2 _ ?pre).mono ?_)
           case pre => (refine ⟨⟨?_, ?_⟩, ?_⟩ <;> (first | (with_reducible assumption) | (rw [World.cell?_drew]; with_reducible assumption) | (with_reducible apply OneS.drew; with_reducible assumption) | (simp <;> omega) | omega))
           rintro e wsB ⟨vB, rfl, b0_, b1_, sahB, hOB, hBB⟩))
    all_goals
      have HFIN := Lib.hid (And.intro (OS.later hOA hBB) (And.intro hOB sahB))
      clear hOA hOB sahA sahB hBB a0_ a1_ b0_ b1_
      go_wp2_with fail
      go_meet
      exact ⟨HFIN.out.1, HFIN.out.2.1, HFIN.out.2.2⟩
  case rest =>
  obtain ⟨hOA, hOB, hS⟩ := hcut
  have HS := Lib.hid (And.intro hOA (And.intro hOB hS))
  generalize wc = wx at *
  clear hOA hOB hS HS0 HAB
  have z0 := HS.out.2.2.1.get 0 _ rfl
  obtain ⟨pa, ca, eva⟩ := HS.out.1.sl.slice
  subst eva
  obtain ⟨na, ea⟩ : ∃ n, A.length = n := ⟨_, rfl⟩
  rw [ea] at HS ⊢
  clear ea
  replace HS : Hid (FS W [.int .i64 22, .int .i64 rg, .int .i64 ty, .int .i64 nn, .int .i64 fl, .slice ap al ac, .slice tp tl tc] (.slice pa na ca) A wx) := Lib.hid ⟨HS.out.2.2, HS.out.1⟩
  go_upto_region 6 with fail
  clear z0
  have HSS : ∀ w, FS W [.int .i64 22, .int .i64 rg, .int .i64 ty, .int .i64 nn, .int .i64 fl, .slice ap al ac, .slice tp tl tc] (.slice pa na ca) A w → (w.cell? ⟨W.heap.size, 2, none⟩ = some (.int .i64 ty) ∧ w.cell? ⟨W.heap.size, 3, none⟩ = some (.int .i64 nn)) := fun w h => ⟨h.1.1.get 2 _ rfl, h.1.1.get 3 _ rfl⟩
  obtain ⟨y0_, y1_⟩ := HSS wx HS.out
  have kh : FS W [.int .i64 22, .int .i64 rg, .int .i64 ty, .int .i64 nn, .int .i64 fl, .slice ap al ac, .slice tp tl tc] (.slice pa na ca) A wx := HS.out
  have cA : ∀ w, ((w.cell? ⟨W.heap.size, 2, none⟩ = some (.int .i64 ty) ∧ w.cell? ⟨W.heap.size, 3, none⟩ = some (.int .i64 nn)) ∧ FS W [.int .i64 22, .int .i64 rg, .int .i64 ty, .int .i64 nn, .int .i64 fl, .slice ap al ac, .slice tp tl tc] (.slice pa na ca) A w) → Calls Tryz.prog 12 #[.int .i64 nn] w fun e w' => e = .returned (.string (T nn)) ∧ w'.cell? ⟨W.heap.size, 2, none⟩ = some (.int .i64 ty) ∧ w'.cell? ⟨W.heap.size, 3, none⟩ = some (.int .i64 nn) ∧ FS W [.int .i64 22, .int .i64 rg, .int .i64 ty, .int .i64 nn, .int .i64 fl, .slice ap al ac, .slice tp tl tc] (.slice pa na ca) A w' := by
    rintro w ⟨k, kh⟩
    refine ((fun w (kh : FS W [.int .i64 22, .int .i64 rg, .int .i64 ty, .int .i64 nn, .int .i64 fl, .slice ap al ac, .slice tp tl tc] (.slice pa na ca) A w) => HL.out.1 nn w kh.1.2) w kh).mono ?_
    rintro e w' ⟨he, hb⟩
    have h2 := kh.later hb
    obtain ⟨s0, s1⟩ := HSS w' h2
    exact ⟨he, s0, s1, h2⟩
  have cB : ∀ w, ((w.cell? ⟨W.heap.size, 2, none⟩ = some (.int .i64 ty) ∧ w.cell? ⟨W.heap.size, 3, none⟩ = some (.int .i64 nn)) ∧ FS W [.int .i64 22, .int .i64 rg, .int .i64 ty, .int .i64 nn, .int .i64 fl, .slice ap al ac, .slice tp tl tc] (.slice pa na ca) A w) → Calls Tryz.prog 77 #[.slice pa na ca] w fun e w' => e = .returned (.string L) ∧ w'.cell? ⟨W.heap.size, 2, none⟩ = some (.int .i64 ty) ∧ w'.cell? ⟨W.heap.size, 3, none⟩ = some (.int .i64 nn) ∧ FS W [.int .i64 22, .int .i64 rg, .int .i64 ty, .int .i64 nn, .int .i64 fl, .slice ap al ac, .slice tp tl tc] (.slice pa na ca) A w' := by
    rintro w ⟨k, kh⟩
    refine ((fun w (kh : FS W [.int .i64 22, .int .i64 rg, .int .i64 ty, .int .i64 nn, .int .i64 fl, .slice ap al ac, .slice tp tl tc] (.slice pa na ca) A w) => HL.out.2 _ w kh.2.sl) w kh).mono ?_
    rintro e w' ⟨he, hb⟩
    have h2 := kh.later hb
    obtain ⟨s0, s1⟩ := HSS w' h2
    exact ⟨he, s0, s1, h2⟩
  have cC : ∀ w, ((w.cell? ⟨W.heap.size, 2, none⟩ = some (.int .i64 ty) ∧ w.cell? ⟨W.heap.size, 3, none⟩ = some (.int .i64 nn)) ∧ FS W [.int .i64 22, .int .i64 rg, .int .i64 ty, .int .i64 nn, .int .i64 fl, .slice ap al ac, .slice tp tl tc] (.slice pa na ca) A w) → Calls Tryz.prog 12 #[.int .i64 ty] w fun e w' => e = .returned (.string (T ty)) ∧ w'.cell? ⟨W.heap.size, 2, none⟩ = some (.int .i64 ty) ∧ w'.cell? ⟨W.heap.size, 3, none⟩ = some (.int .i64 nn) ∧ FS W [.int .i64 22, .int .i64 rg, .int .i64 ty, .int .i64 nn, .int .i64 fl, .slice ap al ac, .slice tp tl tc] (.slice pa na ca) A w' := by
    rintro w ⟨k, kh⟩
    refine ((fun w (kh : FS W [.int .i64 22, .int .i64 rg, .int .i64 ty, .int .i64 nn, .int .i64 fl, .slice ap al ac, .slice tp tl tc] (.slice pa na ca) A w) => HL.out.1 ty w kh.1.2) w kh).mono ?_
    rintro e w' ⟨he, hb⟩
    have h2 := kh.later hb
    obtain ⟨s0, s1⟩ := HSS w' h2
    exact ⟨he, s0, s1, h2⟩
  clear HSS
  go_region_held3 (fun w' => w'.cell? ⟨W.heap.size, 2, none⟩ = some (.int .i64 ty) ∧ w'.cell? ⟨W.heap.size, 3, none⟩ = some (.int .i64 nn))
    (((try dsimp only); (repeat' apply And.intro) <;> (first | (with_reducible assumption) | (rw [World.cell?_drew]; with_reducible assumption) | (refine (cell_alloc_lt ?_).trans ?_ <;> with_reducible assumption) | (simp <;> omega))))
    (first
      | ((with_reducible refine' (cA _ ?pre).mono ?_)
         case pre => (refine ⟨⟨?_, ?_⟩, ?_⟩ <;> (first | (with_reducible assumption) | (rw [World.cell?_drew]; with_reducible assumption) | (with_reducible apply FS.drew; with_reducible assumption) | (simp <;> omega) | omega))
         rintro e wscA ⟨rfl, cA_0, cA_1, sahcA⟩)
      | ((with_reducible refine' (cB _ ?pre).mono ?_)
         case pre => (refine ⟨⟨?_, ?_⟩, ?_⟩ <;> (first | (with_reducible assumption) | (rw [World.cell?_drew]; with_reducible assumption) | (with_reducible apply FS.drew; with_reducible assumption) | (simp <;> omega) | omega))
         rintro e wscB ⟨rfl, cB_0, cB_1, sahcB⟩
         have hlt_cB := sahcB.1.1.1)
      | ((with_reducible refine' (cC _ ?pre).mono ?_)
         case pre => (refine ⟨⟨?_, ?_⟩, ?_⟩ <;> (first | (with_reducible assumption) | (rw [World.cell?_drew]; with_reducible assumption) | (with_reducible apply FS.drew; with_reducible assumption) | (simp <;> omega) | omega))
         rintro e wscC ⟨rfl, cC_0, cC_1, sahcC⟩
         have hlt_cC := sahcC.1.1.1))
  all_goals
    have HX := Lib.hid sahcC.1
    go_wp2_with fail
    go_ret
    exact ⟨_, rfl, OS.lit _ HX.out.2.size [T nn, L, ⟨#[116, 111]⟩, T ty] _ rfl 4 rfl (by decide), HX.out.2.alloc HX.out.2.size _⟩
end Go.Proofs.YtmampoakdjjbiaaGreatDoor
