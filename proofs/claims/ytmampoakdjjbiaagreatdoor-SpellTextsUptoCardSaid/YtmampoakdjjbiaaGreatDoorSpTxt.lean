/- lathelaw05.SpellTexts: its walk. -/
import Derived.Test.YtmampoakdjjbiaaGreatDoorSpLv
import Derived.Test.YtmampoakdjjbiaaGreatDoorSpOp
namespace Go.Proofs.YtmampoakdjjbiaaGreatDoor
open Go.RowKit Go.Maps
set_option linter.unusedVariables false
set_option linter.unusedSimpArgs false

/-- What stands of the argument and its copy. -/
def TX (W : World) (mv : List Value) (bm : Nat) (yv : List Value) (y : LMod) (w : World) : Prop := OneS W mv w ∧ Box bm yv w ∧ ModIn w.heap.size w y
theorem TX.later {W w w' : World} {mv yv : List Value} {bm : Nat} {y : LMod} (h : TX W mv bm yv y w) (hb : Below w.heap.size w w') : TX W mv bm yv y w' := ⟨h.1.later hb, h.2.1.later hb, lasts_Mod _ _ _ _ _ hb hb.size h.2.2⟩
theorem TX.drew {W w : World} {mv yv : List Value} {bm : Nat} {y : LMod} (h : TX W mv bm yv y w) : TX W mv bm yv y w.drew := h.later (below_drew (Below.refl _ _))
set_option maxRecDepth 100000 in
set_option maxHeartbeats 8000000 in
theorem spellTexts_walk (m : LMod) (t : Int) (W : World) (hO : Ops W) (hT : TabOk W) (hm : ModIn W.heap.size W m) (hw : MWf m) (hn : NumOk m) :
    Calls Tryz.prog 3 #[.agg (modC m).toArray, .int .i64 t] W fun e w' => e = .returned (.bool true) ∧ Below W.heap.size W w' := by
  have hS1 : OneS W (modC m) (W.alloc (.cells (modC m).toArray 26)) := ⟨Box.new W rfl _ _, (Below.refl _ _).alloc (Nat.le_refl _) _⟩
  have cl : ∀ w, OneS W (modC m) w → Calls Tryz.prog 5 #[] w fun e w' => e = .returned (.bool true) ∧ OneS W (modC m) w' := fun w h => (lives_any w (hO.later h.2) (hT.later h.2)).mono fun e w' ⟨he, hb⟩ => ⟨he, h.later hb⟩
  have cf : ∀ w, OneS W (modC m) w → Calls Tryz.prog 6 #[.agg (modC m).toArray, .int .i64 5000] w fun e w' => ∃ b : Bool, e = .returned (.bool b) ∧ OneS W (modC m) w' := fun w h => (Few_any m 5000 w (lasts_Mod _ _ _ _ _ h.2 h.2.size hm)).mono fun e w' ⟨b, he, hb⟩ => ⟨b, he, h.later hb⟩
  have cc : ∀ w, OneS W (modC m) w → Calls Tryz.prog 7 #[.agg (modC m).toArray] w fun e w' => ∃ y : LMod, e = .returned (.agg (modC y).toArray) ∧ modD y = modD m ∧ OneS W (modC m) w' ∧ ModIn w'.heap.size w' y := fun w h => (rCopy_own m w (lasts_Mod _ _ _ _ _ h.2 h.2.size hm) hw.z).mono fun e w' ⟨y, he, hd, hp, ho⟩ => ⟨y, he, hd, h.later hp.2, ModOwn.lies (Nat.le_refl _) ho⟩
  -- what region 6 calls
  obtain ⟨q, eq⟩ : ∃ q, sayB wdB (modD m) = q := ⟨_, rfl⟩
  obtain ⟨T, eT⟩ : ∃ T, (if sayB wdB (modD m) = true then mkS (modT (modD m)) else ⟨#[]⟩) = T := ⟨_, rfl⟩
  obtain ⟨Y, eY⟩ : ∃ Y, mkS (typeT t) = Y := ⟨_, rfl⟩
  have k1 : ∀ y, modD y = modD m → ∀ w, OneS W (modC m) w ∧ ModIn w.heap.size w y → Calls Tryz.prog 8 #[.agg (modC y).toArray] w fun e w' => e = .returned (.bool q) ∧ Below w.heap.size w w' := fun y hd w h => by
    have := Sayable_any y w (hO.later h.1.2) h.2 (hw.same hd)
    rw [hd, eq] at this
    exact this
  have k2 : ∀ w, OneS W (modC m) w → Calls Tryz.prog 9 #[.agg (modC m).toArray] w fun e w' => e = .returned (.bool q) ∧ Below w.heap.size w w' := fun w h => by
    have := rSayable_any m w (lasts_Mod _ _ _ _ _ h.2 h.2.size hm) hw
    rw [eq] at this
    exact this
  have k3 : ∀ y, modD y = modD m → ∀ w, OneS W (modC m) w ∧ ModIn w.heap.size w y → Calls Tryz.prog 10 #[.agg (modC y).toArray] w fun e w' => e = .returned (.string T) ∧ Below w.heap.size w w' := fun y hd w h => by
    have := Text_any y w (hO.later h.1.2) (hT.later h.1.2) h.2 (hw.same hd) (hn.same hd)
    rw [hd, eT] at this
    exact this
  have k4 : ∀ w, OneS W (modC m) w → Calls Tryz.prog 11 #[.agg (modC m).toArray] w fun e w' => e = .returned (.string T) ∧ Below w.heap.size w w' := fun w h => by
    have := rText_any m w (lasts_Mod _ _ _ _ _ h.2 h.2.size hm) hw hn
    rw [eT] at this
    exact this
  have k5 : ∀ w, OneS W (modC m) w → Calls Tryz.prog 12 #[.int .i64 t] w fun e w' => e = .returned (.string Y) ∧ Below w.heap.size w w' := fun w h => by
    have := sType_any t w (hT.later h.2)
    rw [eY] at this
    exact this
  have k6 : ∀ w, Calls Tryz.prog 13 #[.int .i64 t] w fun e w' => e = .returned (.string Y) ∧ Below w.heap.size w w' := fun w => by
    have := rType_any t w
    rw [StrE.eq, eY] at this
    exact this
  have k7 : ∀ y, modD y = modD m → ∀ w, OneS W (modC m) w ∧ ModIn w.heap.size w y → Calls Tryz.prog 14 #[.agg (modC y).toArray, .agg (modC m).toArray] w fun e w' => e = .returned (.bool true) ∧ Below w.heap.size w w' := fun y hd w h =>
    (rSame_any y m w h.2 (lasts_Mod _ _ _ _ _ h.1.2 h.1.2.size hm)).mono fun e w' ⟨b, he, hp, hb⟩ => ⟨by rw [he, hp.2 hd], hb⟩
  have HK := Lib.hid (And.intro k1 (And.intro k2 (And.intro k3 (And.intro k4 (And.intro k5 (And.intro k6 k7))))))
  clear k1 k2 k3 k4 k5 k6 k7 eq eT eY hO hT hm hw hn
  obtain ⟨D, eD⟩ : ∃ D, modD m = D := ⟨_, rfl⟩
  simp only [eD] at HK cc
  clear eD
  obtain ⟨vp, vn, vc, vs, xp, xn, xc, xs, fp, fn, fc, fs⟩ := m
  have HS := Lib.hid (show OneS W [.slice vp vn vc, .slice xp xn xc, .slice fp fn fc] (W.alloc (.cells #[.slice vp vn vc, .slice xp xn xc, .slice fp fn fc] 26)) from hS1)
  have cl : ∀ w, OneS W [.slice vp vn vc, .slice xp xn xc, .slice fp fn fc] w → Calls Tryz.prog 5 #[] w fun e w' => e = .returned (.bool true) ∧ OneS W [.slice vp vn vc, .slice xp xn xc, .slice fp fn fc] w' := cl
  have cf : ∀ w, OneS W [.slice vp vn vc, .slice xp xn xc, .slice fp fn fc] w → Calls Tryz.prog 6 #[.agg #[.slice vp vn vc, .slice xp xn xc, .slice fp fn fc], .int .i64 5000] w fun e w' => ∃ b : Bool, e = .returned (.bool b) ∧ OneS W [.slice vp vn vc, .slice xp xn xc, .slice fp fn fc] w' := cf
  have cc : ∀ w, OneS W [.slice vp vn vc, .slice xp xn xc, .slice fp fn fc] w → Calls Tryz.prog 7 #[.agg #[.slice vp vn vc, .slice xp xn xc, .slice fp fn fc]] w fun e w' => ∃ y : LMod, e = .returned (.agg (modC y).toArray) ∧ modD y = D ∧ OneS W [.slice vp vn vc, .slice xp xn xc, .slice fp fn fc] w' ∧ ModIn w'.heap.size w' y := cc
  have HC := Lib.hid (And.intro cl (And.intro cf cc))
  show Calls Tryz.prog 3 #[.agg #[.slice vp vn vc, .slice xp xn xc, .slice fp fn fc], .int .i64 t] W _
  clear cl cf cc hS1
  have c := HC.out.1 _ HS.out
  go_enter Tryz.func3, Tryz.ntmps3
  go_wp2_with fail
  refine c.mono ?_
  rintro e w1 ⟨rfl, hS⟩
  replace HS := Lib.hid hS
  have x0 := HS.out.1.get 0 _ rfl
  have x1 := HS.out.1.get 1 _ rfl
  have x2 := HS.out.1.get 2 _ rfl
  have c := HC.out.2.1 _ hS
  clear hS
  go_wp2_with fail
  refine c.mono ?_
  rintro e w2 ⟨few, rfl, hS⟩
  replace HS := Lib.hid hS
  clear x0 x1 x2 c
  cases few
  case false =>
    go_wp2_with fail
    go_ret
    exact ⟨rfl, HS.out.2⟩
  have x0 := HS.out.1.get 0 _ rfl
  have x1 := HS.out.1.get 1 _ rfl
  have x2 := HS.out.1.get 2 _ rfl
  have c := HC.out.2.2 _ hS
  clear hS
  go_wp2_with fail
  refine c.mono ?_
  rintro e w3 ⟨y, rfl, hd, hS, hin⟩
  have j1 := HK.out.1 y hd
  have j3 := HK.out.2.2.1 y hd
  have j7 := HK.out.2.2.2.2.2.2 y hd
  obtain ⟨yvp, yvn, yvc, yvs, yxp, yxn, yxc, yxs, yfp, yfn, yfc, yfs⟩ := y
  rw [show (modC (⟨yvp, yvn, yvc, yvs, yxp, yxn, yxc, yxs, yfp, yfn, yfc, yfs⟩ : LMod)).toArray = #[.slice yvp yvn yvc, .slice yxp yxn yxc, .slice yfp yfn yfc] from rfl]
  obtain ⟨y, ey⟩ : ∃ y : LMod, (⟨yvp, yvn, yvc, yvs, yxp, yxn, yxc, yxs, yfp, yfn, yfc, yfs⟩ : LMod) = y := ⟨_, rfl⟩
  have j1 : ∀ w, OneS W [.slice vp vn vc, .slice xp xn xc, .slice fp fn fc] w ∧ ModIn w.heap.size w y → Calls Tryz.prog 8 #[.agg #[.slice yvp yvn yvc, .slice yxp yxn yxc, .slice yfp yfn yfc]] w fun e w' => e = .returned (.bool q) ∧ Below w.heap.size w w' := by subst ey; exact j1
  have j3 : ∀ w, OneS W [.slice vp vn vc, .slice xp xn xc, .slice fp fn fc] w ∧ ModIn w.heap.size w y → Calls Tryz.prog 10 #[.agg #[.slice yvp yvn yvc, .slice yxp yxn yxc, .slice yfp yfn yfc]] w fun e w' => e = .returned (.string T) ∧ Below w.heap.size w w' := by subst ey; exact j3
  have j7 : ∀ w, OneS W [.slice vp vn vc, .slice xp xn xc, .slice fp fn fc] w ∧ ModIn w.heap.size w y → Calls Tryz.prog 14 #[.agg #[.slice yvp yvn yvc, .slice yxp yxn yxc, .slice yfp yfn yfc], .agg #[.slice vp vn vc, .slice xp xn xc, .slice fp fn fc]] w fun e w' => e = .returned (.bool true) ∧ Below w.heap.size w w' := by subst ey; exact j7
  have j2 : ∀ w, OneS W [.slice vp vn vc, .slice xp xn xc, .slice fp fn fc] w → Calls Tryz.prog 9 #[.agg #[.slice vp vn vc, .slice xp xn xc, .slice fp fn fc]] w fun e w' => e = .returned (.bool q) ∧ Below w.heap.size w w' := HK.out.2.1
  have j4 : ∀ w, OneS W [.slice vp vn vc, .slice xp xn xc, .slice fp fn fc] w → Calls Tryz.prog 11 #[.agg #[.slice vp vn vc, .slice xp xn xc, .slice fp fn fc]] w fun e w' => e = .returned (.string T) ∧ Below w.heap.size w w' := HK.out.2.2.2.1
  have j5 : ∀ w, OneS W [.slice vp vn vc, .slice xp xn xc, .slice fp fn fc] w → Calls Tryz.prog 12 #[.int .i64 t] w fun e w' => e = .returned (.string Y) ∧ Below w.heap.size w w' := HK.out.2.2.2.2.1
  have j6 := HK.out.2.2.2.2.2.1
  have hin : ModIn w3.heap.size w3 y := by rw [← ey]; exact hin
  have hal : Below w3.heap.size w3 (w3.alloc (.cells #[.slice yvp yvn yvc, .slice yxp yxn yxc, .slice yfp yfn yfc] 26)) := (Below.refl _ _).alloc (Nat.le_refl _) _
  have HT : Hid (TX W [.slice vp vn vc, .slice xp xn xc, .slice fp fn fc] w3.heap.size [.slice yvp yvn yvc, .slice yxp yxn yxc, .slice yfp yfn yfc] y (w3.alloc (.cells #[.slice yvp yvn yvc, .slice yxp yxn yxc, .slice yfp yfn yfc] 26))) := Lib.hid ⟨hS.later hal, Box.new w3 rfl _ _, lasts_Mod _ _ _ _ _ hal hal.size hin⟩
  have HJ := Lib.hid (And.intro j1 (And.intro j2 (And.intro j3 (And.intro j4 (And.intro j5 (And.intro j6 j7))))))
  clear hS hd hin hal j1 j2 j3 j4 j5 j6 j7 ey x0 x1 x2 c HK HC
  go_upto_region 6 with fail
  obtain ⟨w4, e4⟩ : ∃ w4, (w3.alloc (.cells #[.slice yvp yvn yvc, .slice yxp yxn yxc, .slice yfp yfn yfc] 26)) = w4 := ⟨_, rfl⟩
  rw [e4] at HT ⊢
  clear e4
  obtain ⟨bm, eb⟩ : ∃ b, w3.heap.size = b := ⟨_, rfl⟩
  rw [eb] at HT ⊢
  clear eb
  have HS := HT
  have HSS : ∀ w, TX W [.slice vp vn vc, .slice xp xn xc, .slice fp fn fc] bm [.slice yvp yvn yvc, .slice yxp yxn yxc, .slice yfp yfn yfc] y w → (w.cell? ⟨W.heap.size, 0, none⟩ = some (.slice vp vn vc) ∧ w.cell? ⟨W.heap.size, 1, none⟩ = some (.slice xp xn xc) ∧ w.cell? ⟨W.heap.size, 2, none⟩ = some (.slice fp fn fc) ∧ w.cell? ⟨bm, 0, none⟩ = some (.slice yvp yvn yvc) ∧ w.cell? ⟨bm, 1, none⟩ = some (.slice yxp yxn yxc) ∧ w.cell? ⟨bm, 2, none⟩ = some (.slice yfp yfn yfc)) := fun w h => ⟨h.1.1.get 0 _ rfl, h.1.1.get 1 _ rfl, h.1.1.get 2 _ rfl, h.2.1.get 0 _ rfl, h.2.1.get 1 _ rfl, h.2.1.get 2 _ rfl⟩
  obtain ⟨y0_, y1_, y2_, y3_, y4_, y5_⟩ := HSS w4 HS.out
  have kh : TX W [.slice vp vn vc, .slice xp xn xc, .slice fp fn fc] bm [.slice yvp yvn yvc, .slice yxp yxn yxc, .slice yfp yfn yfc] y w4 := HS.out
  have c1 : ∀ w, ((w.cell? ⟨W.heap.size, 0, none⟩ = some (.slice vp vn vc) ∧ w.cell? ⟨W.heap.size, 1, none⟩ = some (.slice xp xn xc) ∧ w.cell? ⟨W.heap.size, 2, none⟩ = some (.slice fp fn fc) ∧ w.cell? ⟨bm, 0, none⟩ = some (.slice yvp yvn yvc) ∧ w.cell? ⟨bm, 1, none⟩ = some (.slice yxp yxn yxc) ∧ w.cell? ⟨bm, 2, none⟩ = some (.slice yfp yfn yfc)) ∧ TX W [.slice vp vn vc, .slice xp xn xc, .slice fp fn fc] bm [.slice yvp yvn yvc, .slice yxp yxn yxc, .slice yfp yfn yfc] y w) → Calls Tryz.prog 8 #[.agg #[.slice yvp yvn yvc, .slice yxp yxn yxc, .slice yfp yfn yfc]] w fun e w' => e = .returned (.bool q) ∧ w'.cell? ⟨W.heap.size, 0, none⟩ = some (.slice vp vn vc) ∧ w'.cell? ⟨W.heap.size, 1, none⟩ = some (.slice xp xn xc) ∧ w'.cell? ⟨W.heap.size, 2, none⟩ = some (.slice fp fn fc) ∧ w'.cell? ⟨bm, 0, none⟩ = some (.slice yvp yvn yvc) ∧ w'.cell? ⟨bm, 1, none⟩ = some (.slice yxp yxn yxc) ∧ w'.cell? ⟨bm, 2, none⟩ = some (.slice yfp yfn yfc) ∧ TX W [.slice vp vn vc, .slice xp xn xc, .slice fp fn fc] bm [.slice yvp yvn yvc, .slice yxp yxn yxc, .slice yfp yfn yfc] y w' := by
    rintro w ⟨k, kh⟩
    refine ((fun w (kh : TX W [.slice vp vn vc, .slice xp xn xc, .slice fp fn fc] bm [.slice yvp yvn yvc, .slice yxp yxn yxc, .slice yfp yfn yfc] y w) => HJ.out.1 w ⟨kh.1, kh.2.2⟩) w kh).mono ?_
    rintro e w' ⟨he, hb⟩
    have h2 := kh.later hb
    obtain ⟨s0, s1, s2, s3, s4, s5⟩ := HSS w' h2
    exact ⟨he, s0, s1, s2, s3, s4, s5, h2⟩
  have c2 : ∀ w, ((w.cell? ⟨W.heap.size, 0, none⟩ = some (.slice vp vn vc) ∧ w.cell? ⟨W.heap.size, 1, none⟩ = some (.slice xp xn xc) ∧ w.cell? ⟨W.heap.size, 2, none⟩ = some (.slice fp fn fc) ∧ w.cell? ⟨bm, 0, none⟩ = some (.slice yvp yvn yvc) ∧ w.cell? ⟨bm, 1, none⟩ = some (.slice yxp yxn yxc) ∧ w.cell? ⟨bm, 2, none⟩ = some (.slice yfp yfn yfc)) ∧ TX W [.slice vp vn vc, .slice xp xn xc, .slice fp fn fc] bm [.slice yvp yvn yvc, .slice yxp yxn yxc, .slice yfp yfn yfc] y w) → Calls Tryz.prog 9 #[.agg #[.slice vp vn vc, .slice xp xn xc, .slice fp fn fc]] w fun e w' => e = .returned (.bool q) ∧ w'.cell? ⟨W.heap.size, 0, none⟩ = some (.slice vp vn vc) ∧ w'.cell? ⟨W.heap.size, 1, none⟩ = some (.slice xp xn xc) ∧ w'.cell? ⟨W.heap.size, 2, none⟩ = some (.slice fp fn fc) ∧ w'.cell? ⟨bm, 0, none⟩ = some (.slice yvp yvn yvc) ∧ w'.cell? ⟨bm, 1, none⟩ = some (.slice yxp yxn yxc) ∧ w'.cell? ⟨bm, 2, none⟩ = some (.slice yfp yfn yfc) ∧ TX W [.slice vp vn vc, .slice xp xn xc, .slice fp fn fc] bm [.slice yvp yvn yvc, .slice yxp yxn yxc, .slice yfp yfn yfc] y w' := by
    rintro w ⟨k, kh⟩
    refine ((fun w (kh : TX W [.slice vp vn vc, .slice xp xn xc, .slice fp fn fc] bm [.slice yvp yvn yvc, .slice yxp yxn yxc, .slice yfp yfn yfc] y w) => HJ.out.2.1 w kh.1) w kh).mono ?_
    rintro e w' ⟨he, hb⟩
    have h2 := kh.later hb
    obtain ⟨s0, s1, s2, s3, s4, s5⟩ := HSS w' h2
    exact ⟨he, s0, s1, s2, s3, s4, s5, h2⟩
  have c3 : ∀ w, ((w.cell? ⟨W.heap.size, 0, none⟩ = some (.slice vp vn vc) ∧ w.cell? ⟨W.heap.size, 1, none⟩ = some (.slice xp xn xc) ∧ w.cell? ⟨W.heap.size, 2, none⟩ = some (.slice fp fn fc) ∧ w.cell? ⟨bm, 0, none⟩ = some (.slice yvp yvn yvc) ∧ w.cell? ⟨bm, 1, none⟩ = some (.slice yxp yxn yxc) ∧ w.cell? ⟨bm, 2, none⟩ = some (.slice yfp yfn yfc)) ∧ TX W [.slice vp vn vc, .slice xp xn xc, .slice fp fn fc] bm [.slice yvp yvn yvc, .slice yxp yxn yxc, .slice yfp yfn yfc] y w) → Calls Tryz.prog 10 #[.agg #[.slice yvp yvn yvc, .slice yxp yxn yxc, .slice yfp yfn yfc]] w fun e w' => e = .returned (.string T) ∧ w'.cell? ⟨W.heap.size, 0, none⟩ = some (.slice vp vn vc) ∧ w'.cell? ⟨W.heap.size, 1, none⟩ = some (.slice xp xn xc) ∧ w'.cell? ⟨W.heap.size, 2, none⟩ = some (.slice fp fn fc) ∧ w'.cell? ⟨bm, 0, none⟩ = some (.slice yvp yvn yvc) ∧ w'.cell? ⟨bm, 1, none⟩ = some (.slice yxp yxn yxc) ∧ w'.cell? ⟨bm, 2, none⟩ = some (.slice yfp yfn yfc) ∧ TX W [.slice vp vn vc, .slice xp xn xc, .slice fp fn fc] bm [.slice yvp yvn yvc, .slice yxp yxn yxc, .slice yfp yfn yfc] y w' := by
    rintro w ⟨k, kh⟩
    refine ((fun w (kh : TX W [.slice vp vn vc, .slice xp xn xc, .slice fp fn fc] bm [.slice yvp yvn yvc, .slice yxp yxn yxc, .slice yfp yfn yfc] y w) => HJ.out.2.2.1 w ⟨kh.1, kh.2.2⟩) w kh).mono ?_
    rintro e w' ⟨he, hb⟩
    have h2 := kh.later hb
    obtain ⟨s0, s1, s2, s3, s4, s5⟩ := HSS w' h2
    exact ⟨he, s0, s1, s2, s3, s4, s5, h2⟩
  have c4 : ∀ w, ((w.cell? ⟨W.heap.size, 0, none⟩ = some (.slice vp vn vc) ∧ w.cell? ⟨W.heap.size, 1, none⟩ = some (.slice xp xn xc) ∧ w.cell? ⟨W.heap.size, 2, none⟩ = some (.slice fp fn fc) ∧ w.cell? ⟨bm, 0, none⟩ = some (.slice yvp yvn yvc) ∧ w.cell? ⟨bm, 1, none⟩ = some (.slice yxp yxn yxc) ∧ w.cell? ⟨bm, 2, none⟩ = some (.slice yfp yfn yfc)) ∧ TX W [.slice vp vn vc, .slice xp xn xc, .slice fp fn fc] bm [.slice yvp yvn yvc, .slice yxp yxn yxc, .slice yfp yfn yfc] y w) → Calls Tryz.prog 11 #[.agg #[.slice vp vn vc, .slice xp xn xc, .slice fp fn fc]] w fun e w' => e = .returned (.string T) ∧ w'.cell? ⟨W.heap.size, 0, none⟩ = some (.slice vp vn vc) ∧ w'.cell? ⟨W.heap.size, 1, none⟩ = some (.slice xp xn xc) ∧ w'.cell? ⟨W.heap.size, 2, none⟩ = some (.slice fp fn fc) ∧ w'.cell? ⟨bm, 0, none⟩ = some (.slice yvp yvn yvc) ∧ w'.cell? ⟨bm, 1, none⟩ = some (.slice yxp yxn yxc) ∧ w'.cell? ⟨bm, 2, none⟩ = some (.slice yfp yfn yfc) ∧ TX W [.slice vp vn vc, .slice xp xn xc, .slice fp fn fc] bm [.slice yvp yvn yvc, .slice yxp yxn yxc, .slice yfp yfn yfc] y w' := by
    rintro w ⟨k, kh⟩
    refine ((fun w (kh : TX W [.slice vp vn vc, .slice xp xn xc, .slice fp fn fc] bm [.slice yvp yvn yvc, .slice yxp yxn yxc, .slice yfp yfn yfc] y w) => HJ.out.2.2.2.1 w kh.1) w kh).mono ?_
    rintro e w' ⟨he, hb⟩
    have h2 := kh.later hb
    obtain ⟨s0, s1, s2, s3, s4, s5⟩ := HSS w' h2
    exact ⟨he, s0, s1, s2, s3, s4, s5, h2⟩
  have c5 : ∀ w, ((w.cell? ⟨W.heap.size, 0, none⟩ = some (.slice vp vn vc) ∧ w.cell? ⟨W.heap.size, 1, none⟩ = some (.slice xp xn xc) ∧ w.cell? ⟨W.heap.size, 2, none⟩ = some (.slice fp fn fc) ∧ w.cell? ⟨bm, 0, none⟩ = some (.slice yvp yvn yvc) ∧ w.cell? ⟨bm, 1, none⟩ = some (.slice yxp yxn yxc) ∧ w.cell? ⟨bm, 2, none⟩ = some (.slice yfp yfn yfc)) ∧ TX W [.slice vp vn vc, .slice xp xn xc, .slice fp fn fc] bm [.slice yvp yvn yvc, .slice yxp yxn yxc, .slice yfp yfn yfc] y w) → Calls Tryz.prog 12 #[.int .i64 t] w fun e w' => e = .returned (.string Y) ∧ w'.cell? ⟨W.heap.size, 0, none⟩ = some (.slice vp vn vc) ∧ w'.cell? ⟨W.heap.size, 1, none⟩ = some (.slice xp xn xc) ∧ w'.cell? ⟨W.heap.size, 2, none⟩ = some (.slice fp fn fc) ∧ w'.cell? ⟨bm, 0, none⟩ = some (.slice yvp yvn yvc) ∧ w'.cell? ⟨bm, 1, none⟩ = some (.slice yxp yxn yxc) ∧ w'.cell? ⟨bm, 2, none⟩ = some (.slice yfp yfn yfc) ∧ TX W [.slice vp vn vc, .slice xp xn xc, .slice fp fn fc] bm [.slice yvp yvn yvc, .slice yxp yxn yxc, .slice yfp yfn yfc] y w' := by
    rintro w ⟨k, kh⟩
    refine ((fun w (kh : TX W [.slice vp vn vc, .slice xp xn xc, .slice fp fn fc] bm [.slice yvp yvn yvc, .slice yxp yxn yxc, .slice yfp yfn yfc] y w) => HJ.out.2.2.2.2.1 w kh.1) w kh).mono ?_
    rintro e w' ⟨he, hb⟩
    have h2 := kh.later hb
    obtain ⟨s0, s1, s2, s3, s4, s5⟩ := HSS w' h2
    exact ⟨he, s0, s1, s2, s3, s4, s5, h2⟩
  have c6 : ∀ w, ((w.cell? ⟨W.heap.size, 0, none⟩ = some (.slice vp vn vc) ∧ w.cell? ⟨W.heap.size, 1, none⟩ = some (.slice xp xn xc) ∧ w.cell? ⟨W.heap.size, 2, none⟩ = some (.slice fp fn fc) ∧ w.cell? ⟨bm, 0, none⟩ = some (.slice yvp yvn yvc) ∧ w.cell? ⟨bm, 1, none⟩ = some (.slice yxp yxn yxc) ∧ w.cell? ⟨bm, 2, none⟩ = some (.slice yfp yfn yfc)) ∧ TX W [.slice vp vn vc, .slice xp xn xc, .slice fp fn fc] bm [.slice yvp yvn yvc, .slice yxp yxn yxc, .slice yfp yfn yfc] y w) → Calls Tryz.prog 13 #[.int .i64 t] w fun e w' => e = .returned (.string Y) ∧ w'.cell? ⟨W.heap.size, 0, none⟩ = some (.slice vp vn vc) ∧ w'.cell? ⟨W.heap.size, 1, none⟩ = some (.slice xp xn xc) ∧ w'.cell? ⟨W.heap.size, 2, none⟩ = some (.slice fp fn fc) ∧ w'.cell? ⟨bm, 0, none⟩ = some (.slice yvp yvn yvc) ∧ w'.cell? ⟨bm, 1, none⟩ = some (.slice yxp yxn yxc) ∧ w'.cell? ⟨bm, 2, none⟩ = some (.slice yfp yfn yfc) ∧ TX W [.slice vp vn vc, .slice xp xn xc, .slice fp fn fc] bm [.slice yvp yvn yvc, .slice yxp yxn yxc, .slice yfp yfn yfc] y w' := by
    rintro w ⟨k, kh⟩
    refine ((fun w (kh : TX W [.slice vp vn vc, .slice xp xn xc, .slice fp fn fc] bm [.slice yvp yvn yvc, .slice yxp yxn yxc, .slice yfp yfn yfc] y w) => HJ.out.2.2.2.2.2.1 w) w kh).mono ?_
    rintro e w' ⟨he, hb⟩
    have h2 := kh.later hb
    obtain ⟨s0, s1, s2, s3, s4, s5⟩ := HSS w' h2
    exact ⟨he, s0, s1, s2, s3, s4, s5, h2⟩
  have c7 : ∀ w, ((w.cell? ⟨W.heap.size, 0, none⟩ = some (.slice vp vn vc) ∧ w.cell? ⟨W.heap.size, 1, none⟩ = some (.slice xp xn xc) ∧ w.cell? ⟨W.heap.size, 2, none⟩ = some (.slice fp fn fc) ∧ w.cell? ⟨bm, 0, none⟩ = some (.slice yvp yvn yvc) ∧ w.cell? ⟨bm, 1, none⟩ = some (.slice yxp yxn yxc) ∧ w.cell? ⟨bm, 2, none⟩ = some (.slice yfp yfn yfc)) ∧ TX W [.slice vp vn vc, .slice xp xn xc, .slice fp fn fc] bm [.slice yvp yvn yvc, .slice yxp yxn yxc, .slice yfp yfn yfc] y w) → Calls Tryz.prog 14 #[.agg #[.slice yvp yvn yvc, .slice yxp yxn yxc, .slice yfp yfn yfc], .agg #[.slice vp vn vc, .slice xp xn xc, .slice fp fn fc]] w fun e w' => e = .returned (.bool true) ∧ w'.cell? ⟨W.heap.size, 0, none⟩ = some (.slice vp vn vc) ∧ w'.cell? ⟨W.heap.size, 1, none⟩ = some (.slice xp xn xc) ∧ w'.cell? ⟨W.heap.size, 2, none⟩ = some (.slice fp fn fc) ∧ w'.cell? ⟨bm, 0, none⟩ = some (.slice yvp yvn yvc) ∧ w'.cell? ⟨bm, 1, none⟩ = some (.slice yxp yxn yxc) ∧ w'.cell? ⟨bm, 2, none⟩ = some (.slice yfp yfn yfc) ∧ TX W [.slice vp vn vc, .slice xp xn xc, .slice fp fn fc] bm [.slice yvp yvn yvc, .slice yxp yxn yxc, .slice yfp yfn yfc] y w' := by
    rintro w ⟨k, kh⟩
    refine ((fun w (kh : TX W [.slice vp vn vc, .slice xp xn xc, .slice fp fn fc] bm [.slice yvp yvn yvc, .slice yxp yxn yxc, .slice yfp yfn yfc] y w) => HJ.out.2.2.2.2.2.2 w ⟨kh.1, kh.2.2⟩) w kh).mono ?_
    rintro e w' ⟨he, hb⟩
    have h2 := kh.later hb
    obtain ⟨s0, s1, s2, s3, s4, s5⟩ := HSS w' h2
    exact ⟨he, s0, s1, s2, s3, s4, s5, h2⟩
  clear HSS
  go_region_held3 (fun w' => w'.cell? ⟨W.heap.size, 0, none⟩ = some (.slice vp vn vc) ∧ w'.cell? ⟨W.heap.size, 1, none⟩ = some (.slice xp xn xc) ∧ w'.cell? ⟨W.heap.size, 2, none⟩ = some (.slice fp fn fc) ∧ w'.cell? ⟨bm, 0, none⟩ = some (.slice yvp yvn yvc) ∧ w'.cell? ⟨bm, 1, none⟩ = some (.slice yxp yxn yxc) ∧ w'.cell? ⟨bm, 2, none⟩ = some (.slice yfp yfn yfc))
    (((try dsimp only); (repeat' apply And.intro) <;> (first | (with_reducible assumption) | (rw [World.cell?_drew]; with_reducible assumption) | (simp <;> omega))))
    (first
      | ((with_reducible refine' (c1 _ ?pre).mono ?_)
         case pre => (refine ⟨⟨?_, ?_, ?_, ?_, ?_, ?_⟩, ?_⟩ <;> (first | (with_reducible assumption) | (rw [World.cell?_drew]; with_reducible assumption) | (with_reducible apply TX.drew; with_reducible assumption) | (simp <;> omega) | omega))
         rintro e wsc1 ⟨rfl, c1_0, c1_1, c1_2, c1_3, c1_4, c1_5, sahc1⟩)
      | ((with_reducible refine' (c2 _ ?pre).mono ?_)
         case pre => (refine ⟨⟨?_, ?_, ?_, ?_, ?_, ?_⟩, ?_⟩ <;> (first | (with_reducible assumption) | (rw [World.cell?_drew]; with_reducible assumption) | (with_reducible apply TX.drew; with_reducible assumption) | (simp <;> omega) | omega))
         rintro e wsc2 ⟨rfl, c2_0, c2_1, c2_2, c2_3, c2_4, c2_5, sahc2⟩)
      | ((with_reducible refine' (c3 _ ?pre).mono ?_)
         case pre => (refine ⟨⟨?_, ?_, ?_, ?_, ?_, ?_⟩, ?_⟩ <;> (first | (with_reducible assumption) | (rw [World.cell?_drew]; with_reducible assumption) | (with_reducible apply TX.drew; with_reducible assumption) | (simp <;> omega) | omega))
         rintro e wsc3 ⟨rfl, c3_0, c3_1, c3_2, c3_3, c3_4, c3_5, sahc3⟩)
      | ((with_reducible refine' (c4 _ ?pre).mono ?_)
         case pre => (refine ⟨⟨?_, ?_, ?_, ?_, ?_, ?_⟩, ?_⟩ <;> (first | (with_reducible assumption) | (rw [World.cell?_drew]; with_reducible assumption) | (with_reducible apply TX.drew; with_reducible assumption) | (simp <;> omega) | omega))
         rintro e wsc4 ⟨rfl, c4_0, c4_1, c4_2, c4_3, c4_4, c4_5, sahc4⟩)
      | ((with_reducible refine' (c5 _ ?pre).mono ?_)
         case pre => (refine ⟨⟨?_, ?_, ?_, ?_, ?_, ?_⟩, ?_⟩ <;> (first | (with_reducible assumption) | (rw [World.cell?_drew]; with_reducible assumption) | (with_reducible apply TX.drew; with_reducible assumption) | (simp <;> omega) | omega))
         rintro e wsc5 ⟨rfl, c5_0, c5_1, c5_2, c5_3, c5_4, c5_5, sahc5⟩)
      | ((with_reducible refine' (c6 _ ?pre).mono ?_)
         case pre => (refine ⟨⟨?_, ?_, ?_, ?_, ?_, ?_⟩, ?_⟩ <;> (first | (with_reducible assumption) | (rw [World.cell?_drew]; with_reducible assumption) | (with_reducible apply TX.drew; with_reducible assumption) | (simp <;> omega) | omega))
         rintro e wsc6 ⟨rfl, c6_0, c6_1, c6_2, c6_3, c6_4, c6_5, sahc6⟩)
      | ((with_reducible refine' (c7 _ ?pre).mono ?_)
         case pre => (refine ⟨⟨?_, ?_, ?_, ?_, ?_, ?_⟩, ?_⟩ <;> (first | (with_reducible assumption) | (rw [World.cell?_drew]; with_reducible assumption) | (with_reducible apply TX.drew; with_reducible assumption) | (simp <;> omega) | omega))
         rintro e wsc7 ⟨rfl, c7_0, c7_1, c7_2, c7_3, c7_4, c7_5, sahc7⟩))
  all_goals
    have HX := Lib.hid sahc7
    go_wp2_with fail
    go_ret
    exact ⟨by first | rfl | simp, HX.out.1.2⟩
end Go.Proofs.YtmampoakdjjbiaaGreatDoor
