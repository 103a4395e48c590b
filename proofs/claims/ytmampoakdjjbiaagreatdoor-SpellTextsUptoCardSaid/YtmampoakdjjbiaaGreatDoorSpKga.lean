/- The parts of a line behind the operation's word: 29, 31, 32, 34. -/
import Derived.Test.YtmampoakdjjbiaaGreatDoorSpKg
namespace Go.Proofs.YtmampoakdjjbiaaGreatDoor
open Go.RowKit Go.Maps
set_option linter.unusedVariables false
set_option linter.unusedSimpArgs false

set_option maxRecDepth 100000 in
set_option maxHeartbeats 8000000 in
theorem fm_29 (b : Nat) (rg ty nn fl : Int) (ap tp : Option Addr) (al tl ac tc : Nat) (A B : List ByteArray) (W : World) (cA : ∀ w, Below W.heap.size W w → Calls Tryz.prog 122 #[.slice ap al ac, .func (.func 123) #[.pointer (some ⟨b, 0, none⟩)] #[]] w (OwnS A w))
    (cB : ∀ w, Below W.heap.size W w → Calls Tryz.prog 78 #[.slice tp tl tc, .func (.func 79) #[] #[]] w (OwnS B w))
    (hA : A.length ≤ 1048576) (hB : B.length ≤ 1048576)
    (L : ByteArray) (cL : ∀ v w, SL w v (A ++ B) → Calls Tryz.prog 77 #[v] w (StrV L w)) :
    Calls Tryz.prog 105 #[.pointer (some ⟨b, 0, none⟩), .agg #[.int .i64 29, .int .i64 rg, .int .i64 ty, .int .i64 nn, .int .i64 fl, .slice ap al ac, .slice tp tl tc]] W (OwnS ([L]) W) := by
  have HS0 : Hid (OneS W [.int .i64 29, .int .i64 rg, .int .i64 ty, .int .i64 nn, .int .i64 fl, .slice ap al ac, .slice tp tl tc] (W.alloc (.cells #[.int .i64 29, .int .i64 rg, .int .i64 ty, .int .i64 nn, .int .i64 fl, .slice ap al ac, .slice tp tl tc] 39))) := Lib.hid ⟨Box.new W rfl _ _, (Below.refl _ _).alloc (Nat.le_refl _) _⟩
  have HAB := Lib.hid (And.intro cA cB)
  clear cA cB
  have HL := Lib.hid cL
  clear cL
  go_enter Tryz.func105, Tryz.ntmps105
  go_upto_region 1 with fail
  obtain ⟨w1, ew1⟩ : ∃ w1, (W.alloc (.cells #[.int .i64 29, .int .i64 rg, .int .i64 ty, .int .i64 nn, .int .i64 fl, .slice ap al ac, .slice tp tl tc] 39)) = w1 := ⟨_, rfl⟩
  rw [ew1] at HS0 ⊢
  clear ew1
  go_cut [5, 6] (fun ta tb wx => OS wx W.heap.size ta A ∧ OS wx W.heap.size tb B ∧ OneS W [.int .i64 29, .int .i64 rg, .int .i64 ty, .int .i64 nn, .int .i64 fl, .slice ap al ac, .slice tp tl tc] wx)
  case first =>
    have HSS : ∀ w, OneS W [.int .i64 29, .int .i64 rg, .int .i64 ty, .int .i64 nn, .int .i64 fl, .slice ap al ac, .slice tp tl tc] w → (w.cell? ⟨W.heap.size, 5, none⟩ = some (.slice ap al ac) ∧ w.cell? ⟨W.heap.size, 6, none⟩ = some (.slice tp tl tc)) := fun w h => ⟨h.1.get 5 _ rfl, h.1.get 6 _ rfl⟩
    obtain ⟨y0_, y1_⟩ := HSS w1 HS0.out
    have kh : OneS W [.int .i64 29, .int .i64 rg, .int .i64 ty, .int .i64 nn, .int .i64 fl, .slice ap al ac, .slice tp tl tc] w1 := HS0.out
    have cO1 : ∀ w, ((w.cell? ⟨W.heap.size, 5, none⟩ = some (.slice ap al ac) ∧ w.cell? ⟨W.heap.size, 6, none⟩ = some (.slice tp tl tc)) ∧ OneS W [.int .i64 29, .int .i64 rg, .int .i64 ty, .int .i64 nn, .int .i64 fl, .slice ap al ac, .slice tp tl tc] w) → Calls Tryz.prog 122 #[.slice ap al ac, .func (.func 123) #[.pointer (some ⟨b, 0, none⟩)] #[]] w fun e w' => ∃ v, e = .returned v ∧ w'.cell? ⟨W.heap.size, 5, none⟩ = some (.slice ap al ac) ∧ w'.cell? ⟨W.heap.size, 6, none⟩ = some (.slice tp tl tc) ∧ OneS W [.int .i64 29, .int .i64 rg, .int .i64 ty, .int .i64 nn, .int .i64 fl, .slice ap al ac, .slice tp tl tc] w' ∧ OS w' W.heap.size v A := by
      rintro w ⟨k, kh⟩
      refine (HAB.out.1 w kh.2).mono ?_
      rintro e w' ⟨v, he, hO, hb⟩
      have h2 := kh.later hb
      obtain ⟨s0, s1⟩ := HSS w' h2
      exact ⟨v, he, s0, s1, h2, hO.mono kh.2.size⟩
    have cO2 : ∀ w, ((w.cell? ⟨W.heap.size, 5, none⟩ = some (.slice ap al ac) ∧ w.cell? ⟨W.heap.size, 6, none⟩ = some (.slice tp tl tc)) ∧ OneS W [.int .i64 29, .int .i64 rg, .int .i64 ty, .int .i64 nn, .int .i64 fl, .slice ap al ac, .slice tp tl tc] w) → Calls Tryz.prog 78 #[.slice tp tl tc, .func (.func 79) #[] #[]] w fun e w' => ∃ v, e = .returned v ∧ w'.cell? ⟨W.heap.size, 5, none⟩ = some (.slice ap al ac) ∧ w'.cell? ⟨W.heap.size, 6, none⟩ = some (.slice tp tl tc) ∧ OneS W [.int .i64 29, .int .i64 rg, .int .i64 ty, .int .i64 nn, .int .i64 fl, .slice ap al ac, .slice tp tl tc] w' ∧ OS w' W.heap.size v B ∧ Below w.heap.size w w' := by
      rintro w ⟨k, kh⟩
      refine (HAB.out.2 w kh.2).mono ?_
      rintro e w' ⟨v, he, hO, hb⟩
      have h2 := kh.later hb
      obtain ⟨s0, s1⟩ := HSS w' h2
      exact ⟨v, he, s0, s1, h2, hO.mono kh.2.size, hb⟩
    clear HSS
    go_region_held3 (fun w' => w'.cell? ⟨W.heap.size, 5, none⟩ = some (.slice ap al ac) ∧ w'.cell? ⟨W.heap.size, 6, none⟩ = some (.slice tp tl tc))
      (((try dsimp only); (repeat' apply And.intro) <;> (first | (with_reducible assumption) | (rw [World.cell?_drew]; with_reducible assumption) | (refine (cell_alloc_lt ?_).trans ?_ <;> with_reducible assumption) | (simp <;> omega))))
      (first
        | ((with_reducible refine' (cO1 _ ?pre).mono ?_)
           case pre => (refine ⟨⟨?_, ?_⟩, ?_⟩ <;> (first | (with_reducible assumption) | (rw [World.cell?_drew]; with_reducible assumption) | (with_reducible apply OneS.drew; with_reducible assumption) | (simp <;> omega) | omega))
           rintro e wsA ⟨vA, rfl, a0_, a1_, sahA, hOA⟩)
        | ((with_reducible refine' (cO2 _ ?pre).mono ?_)
           case pre => (refine ⟨⟨?_, ?_⟩, ?_⟩ <;> (first | (with_reducible assumption) | (rw [World.cell?_drew]; with_reducible assumption) | (with_reducible apply OneS.drew; with_reducible assumption) | (simp <;> omega) | omega))
           rintro e wsB ⟨vB, rfl, b0_, b1_, sahB, hOB, hBB⟩))
    all_goals
      have HFIN := Lib.hid (And.intro (OS.later hOA hBB) (And.intro hOB sahB))
      clear hOA hOB sahA sahB hBB a0_ a1_ b0_ b1_
      go_wp2_with fail
      go_meet
      exact ⟨HFIN.out.1, HFIN.out.2.1, HFIN.out.2.2⟩
  case rest =>
  obtain ⟨hOA, hOB, hS⟩ := hcut
  have HS := Lib.hid (And.intro hOA (And.intro hOB hS))
  generalize wc = wx at *
  clear hOA hOB hS HS0 HAB
  have z0 := HS.out.2.2.1.get 0 _ rfl
  obtain ⟨pa, ca, eva⟩ := HS.out.1.sl.slice
  obtain ⟨pb, cb, evb⟩ := HS.out.2.1.sl.slice
  subst eva evb
  obtain ⟨na, ea⟩ : ∃ n, A.length = n := ⟨_, rfl⟩
  obtain ⟨nb, eb⟩ : ∃ n, B.length = n := ⟨_, rfl⟩
  rw [ea] at HS hA ⊢
  rw [eb] at HS hB ⊢
  have HN := Lib.hid (And.intro ea eb)
  clear ea eb
  have hal : Below wx.heap.size wx (wx.alloc (.cells #[.slice pa na ca, .slice pb nb cb] 95)) := (Below.refl _ _).alloc (Nat.le_refl _) _
  have cc := concat_any (.slice pa na ca) (.slice pb nb cb) A B wx.heap.size W.heap.size (wx.alloc (.cells #[.slice pa na ca, .slice pb nb cb] 95)) (by rw [World.cell?_alloc_at _ _ _ _ rfl]; rfl) (by rw [World.cell?_alloc_at _ _ _ _ rfl]; rfl) (by simp) (HS.out.1.later hal) (HS.out.2.1.later hal) (by have := HN.out.1; omega) (by have := HN.out.2; omega)
  have HX := Lib.hid (HS.out.2.2.later hal)
  clear hal
  go_wp2_with fail
  refine cc.mono ?_
  rintro e w2 ⟨v, rfl, hO, hb⟩
  have cl := HL.out v w2 hO.sl
  have HX := Lib.hid (HX.out.later hb)
  clear cc hO hb z0
  go_wp2_with fail
  refine cl.mono ?_
  rintro e w3 ⟨rfl, hb⟩
  have HX := Lib.hid (HX.out.later hb)
  clear cl hb
  go_wp2_with fail
  go_ret
  exact ⟨_, rfl, OS.lit w3 HX.out.2.size [L] _ rfl 1 rfl (by decide), HX.out.2.alloc HX.out.2.size _⟩
set_option maxRecDepth 100000 in
set_option maxHeartbeats 8000000 in
theorem fm_31 (b : Nat) (rg ty nn fl : Int) (ap tp : Option Addr) (al tl ac tc : Nat) (A B : List ByteArray) (W : World) (cA : ∀ w, Below W.heap.size W w → Calls Tryz.prog 122 #[.slice ap al ac, .func (.func 123) #[.pointer (some ⟨b, 0, none⟩)] #[]] w (OwnS A w))
    (cB : ∀ w, Below W.heap.size W w → Calls Tryz.prog 78 #[.slice tp tl tc, .func (.func 79) #[] #[]] w (OwnS B w))
    (hA : A.length ≤ 1048576) (hB : B.length ≤ 1048576)
    (L : ByteArray) (cL : ∀ v w, SL w v (A ++ B) → Calls Tryz.prog 77 #[v] w (StrV L w)) :
    Calls Tryz.prog 105 #[.pointer (some ⟨b, 0, none⟩), .agg #[.int .i64 31, .int .i64 rg, .int .i64 ty, .int .i64 nn, .int .i64 fl, .slice ap al ac, .slice tp tl tc]] W (OwnS ([L]) W) := by
  have HS0 : Hid (OneS W [.int .i64 31, .int .i64 rg, .int .i64 ty, .int .i64 nn, .int .i64 fl, .slice ap al ac, .slice tp tl tc] (W.alloc (.cells #[.int .i64 31, .int .i64 rg, .int .i64 ty, .int .i64 nn, .int .i64 fl, .slice ap al ac, .slice tp tl tc] 39))) := Lib.hid ⟨Box.new W rfl _ _, (Below.refl _ _).alloc (Nat.le_refl _) _⟩
  have HAB := Lib.hid (And.intro cA cB)
  clear cA cB
  have HL := Lib.hid cL
  clear cL
  go_enter Tryz.func105, Tryz.ntmps105
  go_upto_region 1 with fail
  obtain ⟨w1, ew1⟩ : ∃ w1, (W.alloc (.cells #[.int .i64 31, .int .i64 rg, .int .i64 ty, .int .i64 nn, .int .i64 fl, .slice ap al ac, .slice tp tl tc] 39)) = w1 := ⟨_, rfl⟩
  rw [ew1] at HS0 ⊢
  clear ew1
  go_cut [5, 6] (fun ta tb wx => OS wx W.heap.size ta A ∧ OS wx W.heap.size tb B ∧ OneS W [.int .i64 31, .int .i64 rg, .int .i64 ty, .int .i64 nn, .int .i64 fl, .slice ap al ac, .slice tp tl tc] wx)
  case first =>
    have HSS : ∀ w, OneS W [.int .i64 31, .int .i64 rg, .int .i64 ty, .int .i64 nn, .int .i64 fl, .slice ap al ac, .slice tp tl tc] w → (w.cell? ⟨W.heap.size, 5, none⟩ = some (.slice ap al ac) ∧ w.cell? ⟨W.heap.size, 6, none⟩ = some (.slice tp tl tc)) := fun w h => ⟨h.1.get 5 _ rfl, h.1.get 6 _ rfl⟩
    obtain ⟨y0_, y1_⟩ := HSS w1 HS0.out
    have kh : OneS W [.int .i64 31, .int .i64 rg, .int .i64 ty, .int .i64 nn, .int .i64 fl, .slice ap al ac, .slice tp tl tc] w1 := HS0.out
    have cO1 : ∀ w, ((w.cell? ⟨W.heap.size, 5, none⟩ = some (.slice ap al ac) ∧ w.cell? ⟨W.heap.size, 6, none⟩ = some (.slice tp tl tc)) ∧ OneS W [.int .i64 31, .int .i64 rg, .int .i64 ty, .int .i64 nn, .int .i64 fl, .slice ap al ac, .slice tp tl tc] w) → Calls Tryz.prog 122 #[.slice ap al ac, .func (.func 123) #[.pointer (some ⟨b, 0, none⟩)] #[]] w fun e w' => ∃ v, e = .returned v ∧ w'.cell? ⟨W.heap.size, 5, none⟩ = some (.slice ap al ac) ∧ w'.cell? ⟨W.heap.size, 6, none⟩ = some (.slice tp tl tc) ∧ OneS W [.int .i64 31, .int .i64 rg, .int .i64 ty, .int .i64 nn, .int .i64 fl, .slice ap al ac, .slice tp tl tc] w' ∧ OS w' W.heap.size v A := by
      rintro w ⟨k, kh⟩
      refine (HAB.out.1 w kh.2).mono ?_
      rintro e w' ⟨v, he, hO, hb⟩
      have h2 := kh.later hb
      obtain ⟨s0, s1⟩ := HSS w' h2
      exact ⟨v, he, s0, s1, h2, hO.mono kh.2.size⟩
    have cO2 : ∀ w, ((w.cell? ⟨W.heap.size, 5, none⟩ = some (.slice ap al ac) ∧ w.cell? ⟨W.heap.size, 6, none⟩ = some (.slice tp tl tc)) ∧ OneS W [.int .i64 31, .int .i64 rg, .int .i64 ty, .int .i64 nn, .int .i64 fl, .slice ap al ac, .slice tp tl tc] w) → Calls Tryz.prog 78 #[.slice tp tl tc, .func (.func 79) #[] #[]] w fun e w' => ∃ v, e = .returned v ∧ w'.cell? ⟨W.heap.size, 5, none⟩ = some (.slice ap al ac) ∧ w'.cell? ⟨W.heap.size, 6, none⟩ = some (.slice tp tl tc) ∧ OneS W [.int .i64 31, .int .i64 rg, .int .i64 ty, .int .i64 nn, .int .i64 fl, .slice ap al ac, .slice tp tl tc] w' ∧ OS w' W.heap.size v B ∧ Below w.heap.size w w' := by
      rintro w ⟨k, kh⟩
      refine (HAB.out.2 w kh.2).mono ?_
      rintro e w' ⟨v, he, hO, hb⟩
      have h2 := kh.later hb
      obtain ⟨s0, s1⟩ := HSS w' h2
      exact ⟨v, he, s0, s1, h2, hO.mono kh.2.size, hb⟩
    clear HSS
    go_region_held3 (fun w' => w'.cell? ⟨W.heap.size, 5, none⟩ = some (.slice ap al ac) ∧ w'.cell? ⟨W.heap.size, 6, none⟩ = some (.slice tp tl tc))
      (((try dsimp only); (repeat' apply And.intro) <;> (first | (with_reducible assumption) | (rw [World.cell?_drew]; with_reducible assumption) | (refine (cell_alloc_lt ?_).trans ?_ <;> with_reducible assumption) | (simp <;> omega))))
      (first
        | ((with_reducible refine' (cO1 _ ?pre).mono ?_)
           case pre => (refine ⟨⟨?_, ?_⟩, ?_⟩ <;> (first | (with_reducible assumption) | (rw [World.cell?_drew]; with_reducible assumption) | (with_reducible apply OneS.drew; with_reducible assumption) | (simp <;> omega) | omega))
           rintro e wsA ⟨vA, rfl, a0_, a1_, sahA, hOA⟩)
        | ((with_reducible refine' (cO2 _ ?pre).mono ?_)
           case pre => (refine ⟨⟨?_, ?_⟩, ?_⟩ <;> (first | (with_reducible assumption) | (rw [World.cell?_drew]; with_reducible assumption) | (with_reducible apply OneS.drew; with_reducible assumption) | (simp <;> omega) | omega))
           rintro e wsB ⟨vB, rfl, b0_, b1_, sahB, hOB, hBB⟩))
    all_goals
      have HFIN := Lib.hid (And.intro (OS.later hOA hBB) (And.intro hOB sahB))
      clear hOA hOB sahA sahB hBB a0_ a1_ b0_ b1_
      go_wp2_with fail
      go_meet
      exact ⟨HFIN.out.1, HFIN.out.2.1, HFIN.out.2.2⟩
  case rest =>
  obtain ⟨hOA, hOB, hS⟩ := hcut
  have HS := Lib.hid (And.intro hOA (And.intro hOB hS))
  generalize wc = wx at *
  clear hOA hOB hS HS0 HAB
  have z0 := HS.out.2.2.1.get 0 _ rfl
  obtain ⟨pa, ca, eva⟩ := HS.out.1.sl.slice
  obtain ⟨pb, cb, evb⟩ := HS.out.2.1.sl.slice
  subst eva evb
  obtain ⟨na, ea⟩ : ∃ n, A.length = n := ⟨_, rfl⟩
  obtain ⟨nb, eb⟩ : ∃ n, B.length = n := ⟨_, rfl⟩
  rw [ea] at HS hA ⊢
  rw [eb] at HS hB ⊢
  have HN := Lib.hid (And.intro ea eb)
  clear ea eb
  have hal : Below wx.heap.size wx (wx.alloc (.cells #[.slice pa na ca, .slice pb nb cb] 95)) := (Below.refl _ _).alloc (Nat.le_refl _) _
  have cc := concat_any (.slice pa na ca) (.slice pb nb cb) A B wx.heap.size W.heap.size (wx.alloc (.cells #[.slice pa na ca, .slice pb nb cb] 95)) (by rw [World.cell?_alloc_at _ _ _ _ rfl]; rfl) (by rw [World.cell?_alloc_at _ _ _ _ rfl]; rfl) (by simp) (HS.out.1.later hal) (HS.out.2.1.later hal) (by have := HN.out.1; omega) (by have := HN.out.2; omega)
  have HX := Lib.hid (HS.out.2.2.later hal)
  clear hal
  go_wp2_with fail
  refine cc.mono ?_
  rintro e w2 ⟨v, rfl, hO, hb⟩
  have cl := HL.out v w2 hO.sl
  have HX := Lib.hid (HX.out.later hb)
  clear cc hO hb z0
  go_wp2_with fail
  refine cl.mono ?_
  rintro e w3 ⟨rfl, hb⟩
  have HX := Lib.hid (HX.out.later hb)
  clear cl hb
  go_wp2_with fail
  go_ret
  exact ⟨_, rfl, OS.lit w3 HX.out.2.size [L] _ rfl 1 rfl (by decide), HX.out.2.alloc HX.out.2.size _⟩
set_option maxRecDepth 100000 in
set_option maxHeartbeats 8000000 in
theorem fm_32 (b : Nat) (rg ty nn fl : Int) (ap tp : Option Addr) (al tl ac tc : Nat) (A B : List ByteArray) (W : World) (cA : ∀ w, Below W.heap.size W w → Calls Tryz.prog 122 #[.slice ap al ac, .func (.func 123) #[.pointer (some ⟨b, 0, none⟩)] #[]] w (OwnS A w))
    (cB : ∀ w, Below W.heap.size W w → Calls Tryz.prog 78 #[.slice tp tl tc, .func (.func 79) #[] #[]] w (OwnS B w))
    (hA : A.length ≤ 1048576) (hB : B.length ≤ 1048576)
    (L : ByteArray) (cL : ∀ v w, SL w v (A ++ B) → Calls Tryz.prog 77 #[v] w (StrV L w)) :
    Calls Tryz.prog 105 #[.pointer (some ⟨b, 0, none⟩), .agg #[.int .i64 32, .int .i64 rg, .int .i64 ty, .int .i64 nn, .int .i64 fl, .slice ap al ac, .slice tp tl tc]] W (OwnS ([L]) W) := by
  have HS0 : Hid (OneS W [.int .i64 32, .int .i64 rg, .int .i64 ty, .int .i64 nn, .int .i64 fl, .slice ap al ac, .slice tp tl tc] (W.alloc (.cells #[.int .i64 32, .int .i64 rg, .int .i64 ty, .int .i64 nn, .int .i64 fl, .slice ap al ac, .slice tp tl tc] 39))) := Lib.hid ⟨Box.new W rfl _ _, (Below.refl _ _).alloc (Nat.le_refl _) _⟩
  have HAB := Lib.hid (And.intro cA cB)
  clear cA cB
  have HL := Lib.hid cL
  clear cL
  go_enter Tryz.func105, Tryz.ntmps105
  go_upto_region 1 with fail
  obtain ⟨w1, ew1⟩ : ∃ w1, (W.alloc (.cells #[.int .i64 32, .int .i64 rg, .int .i64 ty, .int .i64 nn, .int .i64 fl, .slice ap al ac, .slice tp tl tc] 39)) = w1 := ⟨_, rfl⟩
  rw [ew1] at HS0 ⊢
  clear ew1
  go_cut [5, 6] (fun ta tb wx => OS wx W.heap.size ta A ∧ OS wx W.heap.size tb B ∧ OneS W [.int .i64 32, .int .i64 rg, .int .i64 ty, .int .i64 nn, .int .i64 fl, .slice ap al ac, .slice tp tl tc] wx)
  case first =>
    have HSS : ∀ w, OneS W [.int .i64 32, .int .i64 rg, .int .i64 ty, .int .i64 nn, .int .i64 fl, .slice ap al ac, .slice tp tl tc] w → (w.cell? ⟨W.heap.size, 5, none⟩ = some (.slice ap al ac) ∧ w.cell? ⟨W.heap.size, 6, none⟩ = some (.slice tp tl tc)) := fun w h => ⟨h.1.get 5 _ rfl, h.1.get 6 _ rfl⟩
    obtain ⟨y0_, y1_⟩ := HSS w1 HS0.out
    have kh : OneS W [.int .i64 32, .int .i64 rg, .int .i64 ty, .int .i64 nn, .int .i64 fl, .slice ap al ac, .slice tp tl tc] w1 := HS0.out
    have cO1 : ∀ w, ((w.cell? ⟨W.heap.size, 5, none⟩ = some (.slice ap al ac) ∧ w.cell? ⟨W.heap.size, 6, none⟩ = some (.slice tp tl tc)) ∧ OneS W [.int .i64 32, .int .i64 rg, .int .i64 ty, .int .i64 nn, .int .i64 fl, .slice ap al ac, .slice tp tl tc] w) → Calls Tryz.prog 122 #[.slice ap al ac, .func (.func 123) #[.pointer (some ⟨b, 0, none⟩)] #[]] w fun e w' => ∃ v, e = .returned v ∧ w'.cell? ⟨W.heap.size, 5, none⟩ = some (.slice ap al ac) ∧ w'.cell? ⟨W.heap.size, 6, none⟩ = some (.slice tp tl tc) ∧ OneS W [.int .i64 32, .int .i64 rg, .int .i64 ty, .int .i64 nn, .int .i64 fl, .slice ap al ac, .slice tp tl tc] w' ∧ OS w' W.heap.size v A := by
      rintro w ⟨k, kh⟩
      refine (HAB.out.1 w kh.2).mono ?_
      rintro e w' ⟨v, he, hO, hb⟩
      have h2 := kh.later hb
      obtain ⟨s0, s1⟩ := HSS w' h2
      exact ⟨v, he, s0, s1, h2, hO.mono kh.2.size⟩
    have cO2 : ∀ w, ((w.cell? ⟨W.heap.size, 5, none⟩ = some (.slice ap al ac) ∧ w.cell? ⟨W.heap.size, 6, none⟩ = some (.slice tp tl tc)) ∧ OneS W [.int .i64 32, .int .i64 rg, .int .i64 ty, .int .i64 nn, .int .i64 fl, .slice ap al ac, .slice tp tl tc] w) → Calls Tryz.prog 78 #[.slice tp tl tc, .func (.func 79) #[] #[]] w fun e w' => ∃ v, e = .returned v ∧ w'.cell? ⟨W.heap.size, 5, none⟩ = some (.slice ap al ac) ∧ w'.cell? ⟨W.heap.size, 6, none⟩ = some (.slice tp tl tc) ∧ OneS W [.int .i64 32, .int .i64 rg, .int .i64 ty, .int .i64 nn, .int .i64 fl, .slice ap al ac, .slice tp tl tc] w' ∧ OS w' W.heap.size v B ∧ Below w.heap.size w w' := by
      rintro w ⟨k, kh⟩
      refine (HAB.out.2 w kh.2).mono ?_
      rintro e w' ⟨v, he, hO, hb⟩
      have h2 := kh.later hb
      obtain ⟨s0, s1⟩ := HSS w' h2
      exact ⟨v, he, s0, s1, h2, hO.mono kh.2.size, hb⟩
    clear HSS
    go_region_held3 (fun w' => w'.cell? ⟨W.heap.size, 5, none⟩ = some (.slice ap al ac) ∧ w'.cell? ⟨W.heap.size, 6, none⟩ = some (.slice tp tl tc))
      (((try dsimp only); (repeat' apply And.intro) <;> (first | (with_reducible assumption) | (rw [World.cell?_drew]; with_reducible assumption) | (refine (cell_alloc_lt ?_).trans ?_ <;> with_reducible assumption) | (simp <;> omega))))
      (first
        | ((with_reducible refine' (cO1 _ ?pre).mono ?_)
           case pre => (refine ⟨⟨?_, ?_⟩, ?_⟩ <;> (first | (with_reducible assumption) | (rw [World.cell?_drew]; with_reducible assumption) | (with_reducible apply OneS.drew; with_reducible assumption) | (simp <;> omega) | omega))
           rintro e wsA ⟨vA, rfl, a0_, a1_, sahA, hOA⟩)
        | ((with_reducible refine' (cO2 _ ?pre).mono ?_)
           case pre => (refine ⟨⟨?_, ?_⟩, ?_⟩ <;> (first | (with_reducible assumption) | (rw [World.cell?_drew]; with_reducible assumption) | (with_reducible apply OneS.drew; with_reducible assumption) | (simp <;> omega) | omega))
           rintro e wsB ⟨vB, rfl, b0_, b1_, sahB, hOB, hBB⟩))
    all_goals
      have HFIN := Lib.hid (And.intro (OS.later hOA hBB) (And.intro hOB sahB))
      clear hOA hOB sahA sahB hBB a0_ a1_ b0_ b1_
      go_wp2_with fail
      go_meet
      exact ⟨HFIN.out.1, HFIN.out.2.1, HFIN.out.2.2⟩
  case rest =>
  obtain ⟨hOA, hOB, hS⟩ := hcut
  have HS := Lib.hid (And.intro hOA (And.intro hOB hS))
  generalize wc = wx at *
  clear hOA hOB hS HS0 HAB
  have z0 := HS.out.2.2.1.get 0 _ rfl
  obtain ⟨pa, ca, eva⟩ := HS.out.1.sl.slice
  obtain ⟨pb, cb, evb⟩ := HS.out.2.1.sl.slice
  subst eva evb
  obtain ⟨na, ea⟩ : ∃ n, A.length = n := ⟨_, rfl⟩
  obtain ⟨nb, eb⟩ : ∃ n, B.length = n := ⟨_, rfl⟩
  rw [ea] at HS hA ⊢
  rw [eb] at HS hB ⊢
  have HN := Lib.hid (And.intro ea eb)
  clear ea eb
  have hal : Below wx.heap.size wx (wx.alloc (.cells #[.slice pa na ca, .slice pb nb cb] 95)) := (Below.refl _ _).alloc (Nat.le_refl _) _
  have cc := concat_any (.slice pa na ca) (.slice pb nb cb) A B wx.heap.size W.heap.size (wx.alloc (.cells #[.slice pa na ca, .slice pb nb cb] 95)) (by rw [World.cell?_alloc_at _ _ _ _ rfl]; rfl) (by rw [World.cell?_alloc_at _ _ _ _ rfl]; rfl) (by simp) (HS.out.1.later hal) (HS.out.2.1.later hal) (by have := HN.out.1; omega) (by have := HN.out.2; omega)
  have HX := Lib.hid (HS.out.2.2.later hal)
  clear hal
  go_wp2_with fail
  refine cc.mono ?_
  rintro e w2 ⟨v, rfl, hO, hb⟩
  have cl := HL.out v w2 hO.sl
  have HX := Lib.hid (HX.out.later hb)
  clear cc hO hb z0
  go_wp2_with fail
  refine cl.mono ?_
  rintro e w3 ⟨rfl, hb⟩
  have HX := Lib.hid (HX.out.later hb)
  clear cl hb
  go_wp2_with fail
  go_ret
  exact ⟨_, rfl, OS.lit w3 HX.out.2.size [L] _ rfl 1 rfl (by decide), HX.out.2.alloc HX.out.2.size _⟩
set_option maxRecDepth 100000 in
set_option maxHeartbeats 8000000 in
theorem fm_34 (b : Nat) (rg ty nn fl : Int) (ap tp : Option Addr) (al tl ac tc : Nat) (A B : List ByteArray) (W : World) (cA : ∀ w, Below W.heap.size W w → Calls Tryz.prog 122 #[.slice ap al ac, .func (.func 123) #[.pointer (some ⟨b, 0, none⟩)] #[]] w (OwnS A w))
    (cB : ∀ w, Below W.heap.size W w → Calls Tryz.prog 78 #[.slice tp tl tc, .func (.func 79) #[] #[]] w (OwnS B w))
    (hA : A.length ≤ 1048576) (hB : B.length ≤ 1048576)
    (L : ByteArray) (cL : ∀ v w, SL w v (A ++ B) → Calls Tryz.prog 77 #[v] w (StrV L w)) :
    Calls Tryz.prog 105 #[.pointer (some ⟨b, 0, none⟩), .agg #[.int .i64 34, .int .i64 rg, .int .i64 ty, .int .i64 nn, .int .i64 fl, .slice ap al ac, .slice tp tl tc]] W (OwnS ([L]) W) := by
  have HS0 : Hid (OneS W [.int .i64 34, .int .i64 rg, .int .i64 ty, .int .i64 nn, .int .i64 fl, .slice ap al ac, .slice tp tl tc] (W.alloc (.cells #[.int .i64 34, .int .i64 rg, .int .i64 ty, .int .i64 nn, .int .i64 fl, .slice ap al ac, .slice tp tl tc] 39))) := Lib.hid ⟨Box.new W rfl _ _, (Below.refl _ _).alloc (Nat.le_refl _) _⟩
  have HAB := Lib.hid (And.intro cA cB)
  clear cA cB
  have HL := Lib.hid cL
  clear cL
  go_enter Tryz.func105, Tryz.ntmps105
  go_upto_region 1 with fail
  obtain ⟨w1, ew1⟩ : ∃ w1, (W.alloc (.cells #[.int .i64 34, .int .i64 rg, .int .i64 ty, .int .i64 nn, .int .i64 fl, .slice ap al ac, .slice tp tl tc] 39)) = w1 := ⟨_, rfl⟩
  rw [ew1] at HS0 ⊢
  clear ew1
  go_cut [5, 6] (fun ta tb wx => OS wx W.heap.size ta A ∧ OS wx W.heap.size tb B ∧ OneS W [.int .i64 34, .int .i64 rg, .int .i64 ty, .int .i64 nn, .int .i64 fl, .slice ap al ac, .slice tp tl tc] wx)
  case first =>
    have HSS : ∀ w, OneS W [.int .i64 34, .int .i64 rg, .int .i64 ty, .int .i64 nn, .int .i64 fl, .slice ap al ac, .slice tp tl tc] w → (w.cell? ⟨W.heap.size, 5, none⟩ = some (.slice ap al ac) ∧ w.cell? ⟨W.heap.size, 6, none⟩ = some (.slice tp tl tc)) := fun w h => ⟨h.1.get 5 _ rfl, h.1.get 6 _ rfl⟩
    obtain ⟨y0_, y1_⟩ := HSS w1 HS0.out
    have kh : OneS W [.int .i64 34, .int .i64 rg, .int .i64 ty, .int .i64 nn, .int .i64 fl, .slice ap al ac, .slice tp tl tc] w1 := HS0.out
    have cO1 : ∀ w, ((w.cell? ⟨W.heap.size, 5, none⟩ = some (.slice ap al ac) ∧ w.cell? ⟨W.heap.size, 6, none⟩ = some (.slice tp tl tc)) ∧ OneS W [.int .i64 34, .int .i64 rg, .int .i64 ty, .int .i64 nn, .int .i64 fl, .slice ap al ac, .slice tp tl tc] w) → Calls Tryz.prog 122 #[.slice ap al ac, .func (.func 123) #[.pointer (some ⟨b, 0, none⟩)] #[]] w fun e w' => ∃ v, e = .returned v ∧ w'.cell? ⟨W.heap.size, 5, none⟩ = some (.slice ap al ac) ∧ w'.cell? ⟨W.heap.size, 6, none⟩ = some (.slice tp tl tc) ∧ OneS W [.int .i64 34, .int .i64 rg, .int .i64 ty, .int .i64 nn, .int .i64 fl, .slice ap al ac, .slice tp tl tc] w' ∧ OS w' W.heap.size v A := by
      rintro w ⟨k, kh⟩
      refine (HAB.out.1 w kh.2).mono ?_
      rintro e w' ⟨v, he, hO, hb⟩
      have h2 := kh.later hb
      obtain ⟨s0, s1⟩ := HSS w' h2
      exact ⟨v, he, s0, s1, h2, hO.mono kh.2.size⟩
    have cO2 : ∀ w, ((w.cell? ⟨W.heap.size, 5, none⟩ = some (.slice ap al ac) ∧ w.cell? ⟨W.heap.size, 6, none⟩ = some (.slice tp tl tc)) ∧ OneS W [.int .i64 34, .int .i64 rg, .int .i64 ty, .int .i64 nn, .int .i64 fl, .slice ap al ac, .slice tp tl tc] w) → Calls Tryz.prog 78 #[.slice tp tl tc, .func (.func 79) #[] #[]] w fun e w' => ∃ v, e = .returned v ∧ w'.cell? ⟨W.heap.size, 5, none⟩ = some (.slice ap al ac) ∧ w'.cell? ⟨W.heap.size, 6, none⟩ = some (.slice tp tl tc) ∧ OneS W [.int .i64 34, .int .i64 rg, .int .i64 ty, .int .i64 nn, .int .i64 fl, .slice ap al ac, .slice tp tl tc] w' ∧ OS w' W.heap.size v B ∧ Below w.heap.size w w' := by
      rintro w ⟨k, kh⟩
      refine (HAB.out.2 w kh.2).mono ?_
      rintro e w' ⟨v, he, hO, hb⟩
      have h2 := kh.later hb
      obtain ⟨s0, s1⟩ := HSS w' h2
      exact ⟨v, he, s0, s1, h2, hO.mono kh.2.size, hb⟩
    clear HSS
    go_region_held3 (fun w' => w'.cell? ⟨W.heap.size, 5, none⟩ = some (.slice ap al ac) ∧ w'.cell? ⟨W.heap.size, 6, none⟩ = some (.slice tp tl tc))
      (((try dsimp only); (repeat' apply And.intro) <;> (first | (with_reducible assumption) | (rw [World.cell?_drew]; with_reducible assumption) | (refine (cell_alloc_lt ?_).trans ?_ <;> with_reducible assumption) | (simp <;> omega))))
      (first
        | ((with_reducible refine' (cO1 _ ?pre).mono ?_)
           case pre => (refine ⟨⟨?_, ?_⟩, ?_⟩ <;> (first | (with_reducible assumption) | (rw [World.cell?_drew]; with_reducible assumption) | (with_reducible apply OneS.drew; with_reducible assumption) | (simp <;> omega) | omega))
           rintro e wsA ⟨vA, rfl, a0_, a1_, sahA, hOA⟩)
        | ((with_reducible refine' (cO2 _ ?pre).mono ?_)
           case pre => (refine ⟨⟨?_, ?_⟩, ?_⟩ <;> (first | (with_reducible assumption) | (rw [World.cell?_drew]; with_reducible assumption) | (with_reducible apply OneS.drew; with_reducible assumption) | (simp <;> omega) | omega))
           rintro e wsB ⟨vB, rfl, b0_, b1_, sahB, hOB, hBB⟩))
    all_goals
      have HFIN := Lib.hid (And.intro (OS.later hOA hBB) (And.intro hOB sahB))
      clear hOA hOB sahA sahB hBB a0_ a1_ b0_ b1_
      go_wp2_with fail
      go_meet
      exact ⟨HFIN.out.1, HFIN.out.2.1, HFIN.out.2.2⟩
  case rest =>
  obtain ⟨hOA, hOB, hS⟩ := hcut
  have HS := Lib.hid (And.intro hOA (And.intro hOB hS))
  generalize wc = wx at *
  clear hOA hOB hS HS0 HAB
  have z0 := HS.out.2.2.1.get 0 _ rfl
  obtain ⟨pa, ca, eva⟩ := HS.out.1.sl.slice
  obtain ⟨pb, cb, evb⟩ := HS.out.2.1.sl.slice
  subst eva evb
  obtain ⟨na, ea⟩ : ∃ n, A.length = n := ⟨_, rfl⟩
  obtain ⟨nb, eb⟩ : ∃ n, B.length = n := ⟨_, rfl⟩
  rw [ea] at HS hA ⊢
  rw [eb] at HS hB ⊢
  have HN := Lib.hid (And.intro ea eb)
  clear ea eb
  have hal : Below wx.heap.size wx (wx.alloc (.cells #[.slice pa na ca, .slice pb nb cb] 95)) := (Below.refl _ _).alloc (Nat.le_refl _) _
  have cc := concat_any (.slice pa na ca) (.slice pb nb cb) A B wx.heap.size W.heap.size (wx.alloc (.cells #[.slice pa na ca, .slice pb nb cb] 95)) (by rw [World.cell?_alloc_at _ _ _ _ rfl]; rfl) (by rw [World.cell?_alloc_at _ _ _ _ rfl]; rfl) (by simp) (HS.out.1.later hal) (HS.out.2.1.later hal) (by have := HN.out.1; omega) (by have := HN.out.2; omega)
  have HX := Lib.hid (HS.out.2.2.later hal)
  clear hal
  go_wp2_with fail
  refine cc.mono ?_
  rintro e w2 ⟨v, rfl, hO, hb⟩
  have cl := HL.out v w2 hO.sl
  have HX := Lib.hid (HX.out.later hb)
  clear cc hO hb z0
  go_wp2_with fail
  refine cl.mono ?_
  rintro e w3 ⟨rfl, hb⟩
  have HX := Lib.hid (HX.out.later hb)
  clear cl hb
  go_wp2_with fail
  go_ret
  exact ⟨_, rfl, OS.lit w3 HX.out.2.size [L] _ rfl 1 rfl (by decide), HX.out.2.alloc HX.out.2.size _⟩
end Go.Proofs.YtmampoakdjjbiaaGreatDoor
