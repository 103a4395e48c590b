/- The parts of a line behind the operation's word: 26, 33n, 30. -/
import Derived.Test.YtmampoakdjjbiaaGreatDoorSpKg
namespace Go.Proofs.YtmampoakdjjbiaaGreatDoor
open Go.RowKit Go.Maps
set_option linter.unusedVariables false
set_option linter.unusedSimpArgs false

set_option maxRecDepth 100000 in
set_option maxHeartbeats 8000000 in
theorem fm_26 (b : Nat) (rg ty nn fl : Int) (ap tp : Option Addr) (al tl ac tc : Nat) (A B : List ByteArray) (W : World) (cA : ∀ w, Below W.heap.size W w → Calls Tryz.prog 122 #[.slice ap al ac, .func (.func 123) #[.pointer (some ⟨b, 0, none⟩)] #[]] w (OwnS A w))
    (cB : ∀ w, Below W.heap.size W w → Calls Tryz.prog 78 #[.slice tp tl tc, .func (.func 79) #[] #[]] w (OwnS B w))
    (k : Nat) (hn : nn = (k : Int)) (D : ByteArray) (cI : ∀ w, Below W.heap.size W w → Calls Tryz.prog 33 #[.int .i64 (k : Int)] w (StrV D w)) :
    Calls Tryz.prog 105 #[.pointer (some ⟨b, 0, none⟩), .agg #[.int .i64 26, .int .i64 rg, .int .i64 ty, .int .i64 nn, .int .i64 fl, .slice ap al ac, .slice tp tl tc]] W (OwnS ([D]) W) := by
  have HS0 : Hid (OneS W [.int .i64 26, .int .i64 rg, .int .i64 ty, .int .i64 nn, .int .i64 fl, .slice ap al ac, .slice tp tl tc] (W.alloc (.cells #[.int .i64 26, .int .i64 rg, .int .i64 ty, .int .i64 nn, .int .i64 fl, .slice ap al ac, .slice tp tl tc] 39))) := Lib.hid ⟨Box.new W rfl _ _, (Below.refl _ _).alloc (Nat.le_refl _) _⟩
  have HAB := Lib.hid (And.intro cA cB)
  clear cA cB
  have HI := Lib.hid cI
  clear cI
  subst hn
  go_enter Tryz.func105, Tryz.ntmps105
  go_upto_region 1 with fail
  obtain ⟨w1, ew1⟩ : ∃ w1, (W.alloc (.cells #[.int .i64 26, .int .i64 rg, .int .i64 ty, .int .i64 (k : Int), .int .i64 fl, .slice ap al ac, .slice tp tl tc] 39)) = w1 := ⟨_, rfl⟩
  rw [ew1] at HS0 ⊢
  clear ew1
  go_cut [5, 6] (fun ta tb wx => OS wx W.heap.size ta A ∧ OS wx W.heap.size tb B ∧ OneS W [.int .i64 26, .int .i64 rg, .int .i64 ty, .int .i64 (k : Int), .int .i64 fl, .slice ap al ac, .slice tp tl tc] wx)
  case first =>
    have HSS : ∀ w, OneS W [.int .i64 26, .int .i64 rg, .int .i64 ty, .int .i64 (k : Int), .int .i64 fl, .slice ap al ac, .slice tp tl tc] w → (w.cell? ⟨W.heap.size, 5, none⟩ = some (.slice ap al ac) ∧ w.cell? ⟨W.heap.size, 6, none⟩ = some (.slice tp tl tc)) := fun w h => ⟨h.1.get 5 _ rfl, h.1.get 6 _ rfl⟩
    obtain ⟨y0_, y1_⟩ := HSS w1 HS0.out
    have kh : OneS W [.int .i64 26, .int .i64 rg, .int .i64 ty, .int .i64 (k : Int), .int .i64 fl, .slice ap al ac, .slice tp tl tc] w1 := HS0.out
    have cO1 : ∀ w, ((w.cell? ⟨W.heap.size, 5, none⟩ = some (.slice ap al ac) ∧ w.cell? ⟨W.heap.size, 6, none⟩ = some (.slice tp tl tc)) ∧ OneS W [.int .i64 26, .int .i64 rg, .int .i64 ty, .int .i64 (k : Int), .int .i64 fl, .slice ap al ac, .slice tp tl tc] w) → Calls Tryz.prog 122 #[.slice ap al ac, .func (.func 123) #[.pointer (some ⟨b, 0, none⟩)] #[]] w fun e w' => ∃ v, e = .returned v ∧ w'.cell? ⟨W.heap.size, 5, none⟩ = some (.slice ap al ac) ∧ w'.cell? ⟨W.heap.size, 6, none⟩ = some (.slice tp tl tc) ∧ OneS W [.int .i64 26, .int .i64 rg, .int .i64 ty, .int .i64 (k : Int), .int .i64 fl, .slice ap al ac, .slice tp tl tc] w' ∧ OS w' W.heap.size v A := by
      rintro w ⟨k, kh⟩
      refine (HAB.out.1 w kh.2).mono ?_
      rintro e w' ⟨v, he, hO, hb⟩
      have h2 := kh.later hb
      obtain ⟨s0, s1⟩ := HSS w' h2
      exact ⟨v, he, s0, s1, h2, hO.mono kh.2.size⟩
    have cO2 : ∀ w, ((w.cell? ⟨W.heap.size, 5, none⟩ = some (.slice ap al ac) ∧ w.cell? ⟨W.heap.size, 6, none⟩ = some (.slice tp tl tc)) ∧ OneS W [.int .i64 26, .int .i64 rg, .int .i64 ty, .int .i64 (k : Int), .int .i64 fl, .slice ap al ac, .slice tp tl tc] w) → Calls Tryz.prog 78 #[.slice tp tl tc, .func (.func 79) #[] #[]] w fun e w' => ∃ v, e = .returned v ∧ w'.cell? ⟨W.heap.size, 5, none⟩ = some (.slice ap al ac) ∧ w'.cell? ⟨W.heap.size, 6, none⟩ = some (.slice tp tl tc) ∧ OneS W [.int .i64 26, .int .i64 rg, .int .i64 ty, .int .i64 (k : Int), .int .i64 fl, .slice ap al ac, .slice tp tl tc] w' ∧ OS w' W.heap.size v B ∧ Below w.heap.size w w' := by
      rintro w ⟨k, kh⟩
      refine (HAB.out.2 w kh.2).mono ?_
      rintro e w' ⟨v, he, hO, hb⟩
      have h2 := kh.later hb
      obtain ⟨s0, s1⟩ := HSS w' h2
      exact ⟨v, he, s0, s1, h2, hO.mono kh.2.size, hb⟩
    clear HSS
    go_region_held3 (fun w' => w'.cell? ⟨W.heap.size, 5, none⟩ = some (.slice ap al ac) ∧ w'.cell? ⟨W.heap.size, 6, none⟩ = some (.slice tp tl tc))
      (((try dsimp only); (repeat' apply And.intro) <;> (first | (with_reducible assumption) | (rw [World.cell?_drew]; with_reducible assumption) | (refine (cell_alloc_lt ?_).trans ?_ <;> with_reducible assumption) | (simp <;> omega))))
      (first
        | ((with_reducible refine' (cO1 _ ?pre).mono ?_)
           case pre => (refine ⟨⟨?_, ?_⟩, ?_⟩ <;> (first | (with_reducible assumption) | (rw [World.cell?_drew]; with_reducible assumption) | (with_reducible apply OneS.drew; with_reducible assumption) | (simp <;> omega) | omega))
           rintro e wsA ⟨vA, rfl, a0_, a1_, sahA, hOA⟩)
        | ((with_reducible refine' (cO2 _ ?pre).mono ?_)
           case pre => (refine ⟨⟨?_, ?_⟩, ?_⟩ <;> (first | (with_reducible assumption) | (rw [World.cell?_drew]; with_reducible assumption) | (with_reducible apply OneS.drew; with_reducible assumption) | (simp <;> omega) | omega))
           rintro e wsB ⟨vB, rfl, b0_, b1_, sahB, hOB, hBB⟩))
    all_goals
      have HFIN := Lib.hid (And.intro (OS.later hOA hBB) (And.intro hOB sahB))
      clear hOA hOB sahA sahB hBB a0_ a1_ b0_ b1_
      go_wp2_with fail
      go_meet
      exact ⟨HFIN.out.1, HFIN.out.2.1, HFIN.out.2.2⟩
  case rest =>
  obtain ⟨hOA, hOB, hS⟩ := hcut
  have HS := Lib.hid (And.intro hOA (And.intro hOB hS))
  generalize wc = wx at *
  clear hOA hOB hS HS0 HAB
  have z0 := HS.out.2.2.1.get 0 _ rfl
  have z3 := HS.out.2.2.1.get 3 _ rfl
  have ci := HI.out wx HS.out.2.2.2
  go_wp2_with fail
  refine ci.mono ?_
  rintro e w3 ⟨rfl, hb⟩
  have HX := Lib.hid (HS.out.2.2.later hb)
  clear ci hb z0 z3
  go_wp2_with fail
  go_ret
  exact ⟨_, rfl, OS.lit w3 HX.out.2.size [D] _ rfl 1 rfl (by decide), HX.out.2.alloc HX.out.2.size _⟩
set_option maxRecDepth 100000 in
set_option maxHeartbeats 8000000 in
theorem fm_33n (b : Nat) (rg ty nn fl : Int) (ap tp : Option Addr) (al tl ac tc : Nat) (A B : List ByteArray) (W : World) (cA : ∀ w, Below W.heap.size W w → Calls Tryz.prog 122 #[.slice ap al ac, .func (.func 123) #[.pointer (some ⟨b, 0, none⟩)] #[]] w (OwnS A w))
    (cB : ∀ w, Below W.heap.size W w → Calls Tryz.prog 78 #[.slice tp tl tc, .func (.func 79) #[] #[]] w (OwnS B w))
    (hA : A.length = 0) :
    Calls Tryz.prog 105 #[.pointer (some ⟨b, 0, none⟩), .agg #[.int .i64 33, .int .i64 rg, .int .i64 ty, .int .i64 nn, .int .i64 fl, .slice ap al ac, .slice tp tl tc]] W (OwnS ([]) W) := by
  have HS0 : Hid (OneS W [.int .i64 33, .int .i64 rg, .int .i64 ty, .int .i64 nn, .int .i64 fl, .slice ap al ac, .slice tp tl tc] (W.alloc (.cells #[.int .i64 33, .int .i64 rg, .int .i64 ty, .int .i64 nn, .int .i64 fl, .slice ap al ac, .slice tp tl tc] 39))) := Lib.hid ⟨Box.new W rfl _ _, (Below.refl _ _).alloc (Nat.le_refl _) _⟩
  have HAB := Lib.hid (And.intro cA cB)
  clear cA cB
  go_enter Tryz.func105, Tryz.ntmps105
  go_upto_region 1 with fail
  obtain ⟨w1, ew1⟩ : ∃ w1, (W.alloc (.cells #[.int .i64 33, .int .i64 rg, .int .i64 ty, .int .i64 nn, .int .i64 fl, .slice ap al ac, .slice tp tl tc] 39)) = w1 := ⟨_, rfl⟩
  rw [ew1] at HS0 ⊢
  clear ew1
  go_cut [5, 6] (fun ta tb wx => OS wx W.heap.size ta A ∧ OS wx W.heap.size tb B ∧ OneS W [.int .i64 33, .int .i64 rg, .int .i64 ty, .int .i64 nn, .int .i64 fl, .slice ap al ac, .slice tp tl tc] wx)
  case first =>
    have HSS : ∀ w, OneS W [.int .i64 33, .int .i64 rg, .int .i64 ty, .int .i64 nn, .int .i64 fl, .slice ap al ac, .slice tp tl tc] w → (w.cell? ⟨W.heap.size, 5, none⟩ = some (.slice ap al ac) ∧ w.cell? ⟨W.heap.size, 6, none⟩ = some (.slice tp tl tc)) := fun w h => ⟨h.1.get 5 _ rfl, h.1.get 6 _ rfl⟩
    obtain ⟨y0_, y1_⟩ := HSS w1 HS0.out
    have kh : OneS W [.int .i64 33, .int .i64 rg, .int .i64 ty, .int .i64 nn, .int .i64 fl, .slice ap al ac, .slice tp tl tc] w1 := HS0.out
    have cO1 : ∀ w, ((w.cell? ⟨W.heap.size, 5, none⟩ = some (.slice ap al ac) ∧ w.cell? ⟨W.heap.size, 6, none⟩ = some (.slice tp tl tc)) ∧ OneS W [.int .i64 33, .int .i64 rg, .int .i64 ty, .int .i64 nn, .int .i64 fl, .slice ap al ac, .slice tp tl tc] w) → Calls Tryz.prog 122 #[.slice ap al ac, .func (.func 123) #[.pointer (some ⟨b, 0, none⟩)] #[]] w fun e w' => ∃ v, e = .returned v ∧ w'.cell? ⟨W.heap.size, 5, none⟩ = some (.slice ap al ac) ∧ w'.cell? ⟨W.heap.size, 6, none⟩ = some (.slice tp tl tc) ∧ OneS W [.int .i64 33, .int .i64 rg, .int .i64 ty, .int .i64 nn, .int .i64 fl, .slice ap al ac, .slice tp tl tc] w' ∧ OS w' W.heap.size v A := by
      rintro w ⟨k, kh⟩
      refine (HAB.out.1 w kh.2).mono ?_
      rintro e w' ⟨v, he, hO, hb⟩
      have h2 := kh.later hb
      obtain ⟨s0, s1⟩ := HSS w' h2
      exact ⟨v, he, s0, s1, h2, hO.mono kh.2.size⟩
    have cO2 : ∀ w, ((w.cell? ⟨W.heap.size, 5, none⟩ = some (.slice ap al ac) ∧ w.cell? ⟨W.heap.size, 6, none⟩ = some (.slice tp tl tc)) ∧ OneS W [.int .i64 33, .int .i64 rg, .int .i64 ty, .int .i64 nn, .int .i64 fl, .slice ap al ac, .slice tp tl tc] w) → Calls Tryz.prog 78 #[.slice tp tl tc, .func (.func 79) #[] #[]] w fun e w' => ∃ v, e = .returned v ∧ w'.cell? ⟨W.heap.size, 5, none⟩ = some (.slice ap al ac) ∧ w'.cell? ⟨W.heap.size, 6, none⟩ = some (.slice tp tl tc) ∧ OneS W [.int .i64 33, .int .i64 rg, .int .i64 ty, .int .i64 nn, .int .i64 fl, .slice ap al ac, .slice tp tl tc] w' ∧ OS w' W.heap.size v B ∧ Below w.heap.size w w' := by
      rintro w ⟨k, kh⟩
      refine (HAB.out.2 w kh.2).mono ?_
      rintro e w' ⟨v, he, hO, hb⟩
      have h2 := kh.later hb
      obtain ⟨s0, s1⟩ := HSS w' h2
      exact ⟨v, he, s0, s1, h2, hO.mono kh.2.size, hb⟩
    clear HSS
    go_region_held3 (fun w' => w'.cell? ⟨W.heap.size, 5, none⟩ = some (.slice ap al ac) ∧ w'.cell? ⟨W.heap.size, 6, none⟩ = some (.slice tp tl tc))
      (((try dsimp only); (repeat' apply And.intro) <;> (first | (with_reducible assumption) | (rw [World.cell?_drew]; with_reducible assumption) | (refine (cell_alloc_lt ?_).trans ?_ <;> with_reducible assumption) | (simp <;> omega))))
      (first
        | ((with_reducible refine' (cO1 _ ?pre).mono ?_)
           case pre => (refine ⟨⟨?_, ?_⟩, ?_⟩ <;> (first | (with_reducible assumption) | (rw [World.cell?_drew]; with_reducible assumption) | (with_reducible apply OneS.drew; with_reducible assumption) | (simp <;> omega) | omega))
           rintro e wsA ⟨vA, rfl, a0_, a1_, sahA, hOA⟩)
        | ((with_reducible refine' (cO2 _ ?pre).mono ?_)
           case pre => (refine ⟨⟨?_, ?_⟩, ?_⟩ <;> (first | (with_reducible assumption) | (rw [World.cell?_drew]; with_reducible assumption) | (with_reducible apply OneS.drew; with_reducible assumption) | (simp <;> omega) | omega))
           rintro e wsB ⟨vB, rfl, b0_, b1_, sahB, hOB, hBB⟩))
    all_goals
      have HFIN := Lib.hid (And.intro (OS.later hOA hBB) (And.intro hOB sahB))
      clear hOA hOB sahA sahB hBB a0_ a1_ b0_ b1_
      go_wp2_with fail
      go_meet
      exact ⟨HFIN.out.1, HFIN.out.2.1, HFIN.out.2.2⟩
  case rest =>
  obtain ⟨hOA, hOB, hS⟩ := hcut
  have HS := Lib.hid (And.intro hOA (And.intro hOB hS))
  generalize wc = wx at *
  clear hOA hOB hS HS0 HAB
  have z0 := HS.out.2.2.1.get 0 _ rfl
  obtain ⟨pa, ca, eva⟩ := HS.out.1.sl.slice
  subst eva
  rw [hA] at HS ⊢
  clear hA
  go_wp2_with fail
  go_ret
  exact ⟨_, rfl, OS.nil _ _, HS.out.2.2.2⟩
set_option maxRecDepth 100000 in
set_option maxHeartbeats 8000000 in
theorem fm_30 (b : Nat) (rg ty nn fl : Int) (ap tp : Option Addr) (al tl ac tc : Nat) (A B : List ByteArray) (W : World) (cA : ∀ w, Below W.heap.size W w → Calls Tryz.prog 122 #[.slice ap al ac, .func (.func 123) #[.pointer (some ⟨b, 0, none⟩)] #[]] w (OwnS A w))
    (cB : ∀ w, Below W.heap.size W w → Calls Tryz.prog 78 #[.slice tp tl tc, .func (.func 79) #[] #[]] w (OwnS B w))
    (nm L : ByteArray) (hnm : nm.size ≤ 1048576) (hL : L.size ≤ 1099538890752) (cL : ∀ v w, SL w v A → Calls Tryz.prog 77 #[v] w (StrV L w))
    (cC : ∀ w, Below W.heap.size W w → Calls Tryz.prog 124 #[.pointer (some ⟨b, 0, none⟩), .int .i64 nn] w (StrV nm w)) :
    Calls Tryz.prog 105 #[.pointer (some ⟨b, 0, none⟩), .agg #[.int .i64 30, .int .i64 rg, .int .i64 ty, .int .i64 nn, .int .i64 fl, .slice ap al ac, .slice tp tl tc]] W (OwnS ([nm ++ ⟨#[40]⟩ ++ L ++ ⟨#[41]⟩]) W) := by
  have HS0 : Hid (OneS W [.int .i64 30, .int .i64 rg, .int .i64 ty, .int .i64 nn, .int .i64 fl, .slice ap al ac, .slice tp tl tc] (W.alloc (.cells #[.int .i64 30, .int .i64 rg, .int .i64 ty, .int .i64 nn, .int .i64 fl, .slice ap al ac, .slice tp tl tc] 39))) := Lib.hid ⟨Box.new W rfl _ _, (Below.refl _ _).alloc (Nat.le_refl _) _⟩
  have HAB := Lib.hid (And.intro cA cB)
  clear cA cB
  have HL := Lib.hid (And.intro cL cC)
  clear cL cC
  go_enter Tryz.func105, Tryz.ntmps105
  go_upto_region 1 with fail
  obtain ⟨w1, ew1⟩ : ∃ w1, (W.alloc (.cells #[.int .i64 30, .int .i64 rg, .int .i64 ty, .int .i64 nn, .int .i64 fl, .slice ap al ac, .slice tp tl tc] 39)) = w1 := ⟨_, rfl⟩
  rw [ew1] at HS0 ⊢
  clear ew1
  go_cut [5, 6] (fun ta tb wx => OS wx W.heap.size ta A ∧ OS wx W.heap.size tb B ∧ OneS W [.int .i64 30, .int .i64 rg, .int .i64 ty, .int .i64 nn, .int .i64 fl, .slice ap al ac, .slice tp tl tc] wx)
  case first =>
    have HSS : ∀ w, OneS W [.int .i64 30, .int .i64 rg, .int .i64 ty, .int .i64 nn, .int .i64 fl, .slice ap al ac, .slice tp tl tc] w → (w.cell? ⟨W.heap.size, 5, none⟩ = some (.slice ap al ac) ∧ w.cell? ⟨W.heap.size, 6, none⟩ = some (.slice tp tl tc)) := fun w h => ⟨h.1.get 5 _ rfl, h.1.get 6 _ rfl⟩
    obtain ⟨y0_, y1_⟩ := HSS w1 HS0.out
    have kh : OneS W [.int .i64 30, .int .i64 rg, .int .i64 ty, .int .i64 nn, .int .i64 fl, .slice ap al ac, .slice tp tl tc] w1 := HS0.out
    have cO1 : ∀ w, ((w.cell? ⟨W.heap.size, 5, none⟩ = some (.slice ap al ac) ∧ w.cell? ⟨W.heap.size, 6, none⟩ = some (.slice tp tl tc)) ∧ OneS W [.int .i64 30, .int .i64 rg, .int .i64 ty, .int .i64 nn, .int .i64 fl, .slice ap al ac, .slice tp tl tc] w) → Calls Tryz.prog 122 #[.slice ap al ac, .func (.func 123) #[.pointer (some ⟨b, 0, none⟩)] #[]] w fun e w' => ∃ v, e = .returned v ∧ w'.cell? ⟨W.heap.size, 5, none⟩ = some (.slice ap al ac) ∧ w'.cell? ⟨W.heap.size, 6, none⟩ = some (.slice tp tl tc) ∧ OneS W [.int .i64 30, .int .i64 rg, .int .i64 ty, .int .i64 nn, .int .i64 fl, .slice ap al ac, .slice tp tl tc] w' ∧ OS w' W.heap.size v A := by
      rintro w ⟨k, kh⟩
      refine (HAB.out.1 w kh.2).mono ?_
      rintro e w' ⟨v, he, hO, hb⟩
      have h2 := kh.later hb
      obtain ⟨s0, s1⟩ := HSS w' h2
      exact ⟨v, he, s0, s1, h2, hO.mono kh.2.size⟩
    have cO2 : ∀ w, ((w.cell? ⟨W.heap.size, 5, none⟩ = some (.slice ap al ac) ∧ w.cell? ⟨W.heap.size, 6, none⟩ = some (.slice tp tl tc)) ∧ OneS W [.int .i64 30, .int .i64 rg, .int .i64 ty, .int .i64 nn, .int .i64 fl, .slice ap al ac, .slice tp tl tc] w) → Calls Tryz.prog 78 #[.slice tp tl tc, .func (.func 79) #[] #[]] w fun e w' => ∃ v, e = .returned v ∧ w'.cell? ⟨W.heap.size, 5, none⟩ = some (.slice ap al ac) ∧ w'.cell? ⟨W.heap.size, 6, none⟩ = some (.slice tp tl tc) ∧ OneS W [.int .i64 30, .int .i64 rg, .int .i64 ty, .int .i64 nn, .int .i64 fl, .slice ap al ac, .slice tp tl tc] w' ∧ OS w' W.heap.size v B ∧ Below w.heap.size w w' := by
      rintro w ⟨k, kh⟩
      refine (HAB.out.2 w kh.2).mono ?_
      rintro e w' ⟨v, he, hO, hb⟩
      have h2 := kh.later hb
      obtain ⟨s0, s1⟩ := HSS w' h2
      exact ⟨v, he, s0, s1, h2, hO.mono kh.2.size, hb⟩
    clear HSS
    go_region_held3 (fun w' => w'.cell? ⟨W.heap.size, 5, none⟩ = some (.slice ap al ac) ∧ w'.cell? ⟨W.heap.size, 6, none⟩ = some (.slice tp tl tc))
      (((try dsimp only); (repeat' apply And.intro) <;> (first | (with_reducible assumption) | (rw [World.cell?_drew]; with_reducible assumption) | (refine (cell_alloc_lt ?_).trans ?_ <;> with_reducible assumption) | (simp <;> omega))))
      (first
        | ((with_reducible refine' (cO1 _ ?pre).mono ?_)
           case pre => (refine ⟨⟨?_, ?_⟩, ?_⟩ <;> (first | (with_reducible assumption) | (rw [World.cell?_drew]; with_reducible assumption) | (with_reducible apply OneS.drew; with_reducible assumption) | (simp <;> omega) | omega))
           rintro e wsA ⟨vA, rfl, a0_, a1_, sahA, hOA⟩)
        | ((with_reducible refine' (cO2 _ ?pre).mono ?_)
           case pre => (refine ⟨⟨?_, ?_⟩, ?_⟩ <;> (first | (with_reducible assumption) | (rw [World.cell?_drew]; with_reducible assumption) | (with_reducible apply OneS.drew; with_reducible assumption) | (simp <;> omega) | omega))
           rintro e wsB ⟨vB, rfl, b0_, b1_, sahB, hOB, hBB⟩))
    all_goals
      have HFIN := Lib.hid (And.intro (OS.later hOA hBB) (And.intro hOB sahB))
      clear hOA hOB sahA sahB hBB a0_ a1_ b0_ b1_
      go_wp2_with fail
      go_meet
      exact ⟨HFIN.out.1, HFIN.out.2.1, HFIN.out.2.2⟩
  case rest =>
  obtain ⟨hOA, hOB, hS⟩ := hcut
  have HS := Lib.hid (And.intro hOA (And.intro hOB hS))
  generalize wc = wx at *
  clear hOA hOB hS HS0 HAB
  have z0 := HS.out.2.2.1.get 0 _ rfl
  have z3 := HS.out.2.2.1.get 3 _ rfl
  obtain ⟨pa, ca, eva⟩ := HS.out.1.sl.slice
  subst eva
  obtain ⟨na, ea⟩ : ∃ n, A.length = n := ⟨_, rfl⟩
  rw [ea] at HS ⊢
  clear ea
  have cc := HL.out.2 wx HS.out.2.2.2
  go_wp2_with fail
  refine cc.mono ?_
  rintro e w2 ⟨rfl, hb⟩
  have HX := Lib.hid (And.intro (HS.out.1.later hb) (HS.out.2.2.later hb))
  have cl := HL.out.1 _ w2 HX.out.1.sl
  clear cc hb z0 z3
  go_wp2_with fail
  refine cl.mono ?_
  rintro e w3 ⟨rfl, hb⟩
  have HX := Lib.hid (HX.out.2.later hb)
  clear cl hb
  go_wp2_with fail
  go_ret
  exact ⟨_, rfl, OS.lit w3 HX.out.2.size [nm ++ (⟨#[40]⟩ : ByteArray) ++ L ++ (⟨#[41]⟩ : ByteArray)] _ rfl 1 rfl (by decide), HX.out.2.alloc HX.out.2.size _⟩
end Go.Proofs.YtmampoakdjjbiaaGreatDoor
