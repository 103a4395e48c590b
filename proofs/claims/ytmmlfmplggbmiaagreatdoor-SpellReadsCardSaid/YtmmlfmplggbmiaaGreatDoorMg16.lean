/- Several texts in one: SpKgc, SpKgd, SpKge, SpV, SpW, SpX, SpY, SpZ, SpKh. -/
import Derived.Test.YtmmlfmplggbmiaaGreatDoorMg15
namespace Go.Proofs.YtmmlfmplggbmiaaGreatDoor
open Go.RowKit Go.Maps
set_option linter.unusedVariables false
set_option linter.unusedSimpArgs false
set_option maxRecDepth 100000 in
set_option maxHeartbeats 8000000 in
theorem fm_20 (b:Nat) (rg ty nn fl:Int) (ap tp:Option Addr) (al tl ac tc:Nat) (A B:List ByteArray) (W:World) (cA:∀ w,Below W.heap.size W w→Calls Tryz.prog 131 #[.slice ap al ac,.func (.func 132) #[.pointer (some ⟨b,0,none⟩)] #[]] w (OwnS A w))
    (cB:∀ w,Below W.heap.size W w→Calls Tryz.prog 44 #[.slice tp tl tc,.func (.func 45) #[] #[]] w (OwnS B w))
    (T:Int→ByteArray) (cT:∀ t w,Below W.heap.size W w→Calls Tryz.prog 11 #[.int .i64 t] w (StrV (T t) w))
    (L:ByteArray) (cL:∀ v w,SL w v A→Calls Tryz.prog 43 #[v] w (StrV L w)) :
    Calls Tryz.prog 87 #[.pointer (some ⟨b,0,none⟩),.agg #[.int .i64 20,.int .i64 rg,.int .i64 ty,.int .i64 nn,.int .i64 fl,.slice ap al ac,.slice tp tl tc]] W (OwnS ([T nn,L,⟨#[116,111]⟩,T ty]) W):=by
  have HS0:Hid (OneS W [.int .i64 20,.int .i64 rg,.int .i64 ty,.int .i64 nn,.int .i64 fl,.slice ap al ac,.slice tp tl tc] (W.alloc (.cells #[.int .i64 20,.int .i64 rg,.int .i64 ty,.int .i64 nn,.int .i64 fl,.slice ap al ac,.slice tp tl tc] 43))):=Lib.hid ⟨Box.new W rfl _ _,(Below.refl _ _).alloc (Nat.le_refl _) _⟩
  have HAB:=Lib.hid (And.intro cA cB)
  clear cA cB
  have HL:=Lib.hid (And.intro cT cL)
  clear cT cL
  go_enter Tryz.func87,Tryz.ntmps87
  go_upto_region 1 with fail
  obtain ⟨w1,ew1⟩:∃ w1,(W.alloc (.cells #[.int .i64 20,.int .i64 rg,.int .i64 ty,.int .i64 nn,.int .i64 fl,.slice ap al ac,.slice tp tl tc] 43))=w1:=⟨_,rfl⟩
  rw [ew1] at HS0 ⊢
  clear ew1
  go_cut [5,6] (fun ta tb wx=>OS wx W.heap.size ta A∧OS wx W.heap.size tb B∧OneS W [.int .i64 20,.int .i64 rg,.int .i64 ty,.int .i64 nn,.int .i64 fl,.slice ap al ac,.slice tp tl tc] wx)
  case first =>
    have HSS:∀ w,OneS W [.int .i64 20,.int .i64 rg,.int .i64 ty,.int .i64 nn,.int .i64 fl,.slice ap al ac,.slice tp tl tc] w→(w.cell? ⟨W.heap.size,5,none⟩=some (.slice ap al ac)∧w.cell? ⟨W.heap.size,6,none⟩=some (.slice tp tl tc)):=fun w h=>⟨h.1.get 5 _ rfl,h.1.get 6 _ rfl⟩
    obtain ⟨y0_,y1_⟩:=HSS w1 HS0.out
    have kh:OneS W [.int .i64 20,.int .i64 rg,.int .i64 ty,.int .i64 nn,.int .i64 fl,.slice ap al ac,.slice tp tl tc] w1:=HS0.out
    have cO1:∀ w,((w.cell? ⟨W.heap.size,5,none⟩=some (.slice ap al ac)∧w.cell? ⟨W.heap.size,6,none⟩=some (.slice tp tl tc))∧OneS W [.int .i64 20,.int .i64 rg,.int .i64 ty,.int .i64 nn,.int .i64 fl,.slice ap al ac,.slice tp tl tc] w)→Calls Tryz.prog 131 #[.slice ap al ac,.func (.func 132) #[.pointer (some ⟨b,0,none⟩)] #[]] w fun e w' => ∃ v,e=.returned v∧w'.cell? ⟨W.heap.size,5,none⟩=some (.slice ap al ac)∧w'.cell? ⟨W.heap.size,6,none⟩=some (.slice tp tl tc)∧OneS W [.int .i64 20,.int .i64 rg,.int .i64 ty,.int .i64 nn,.int .i64 fl,.slice ap al ac,.slice tp tl tc] w'∧OS w' W.heap.size v A:=by
      rintro w ⟨k,kh⟩
      refine (HAB.out.1 w kh.2).mono ?_
      rintro e w' ⟨v,he,hO,hb⟩
      have h2:=kh.later hb
      obtain ⟨s0,s1⟩:=HSS w' h2
      exact ⟨v,he,s0,s1,h2,hO.mono kh.2.size⟩
    have cO2:∀ w,((w.cell? ⟨W.heap.size,5,none⟩=some (.slice ap al ac)∧w.cell? ⟨W.heap.size,6,none⟩=some (.slice tp tl tc))∧OneS W [.int .i64 20,.int .i64 rg,.int .i64 ty,.int .i64 nn,.int .i64 fl,.slice ap al ac,.slice tp tl tc] w)→Calls Tryz.prog 44 #[.slice tp tl tc,.func (.func 45) #[] #[]] w fun e w' => ∃ v,e=.returned v∧w'.cell? ⟨W.heap.size,5,none⟩=some (.slice ap al ac)∧w'.cell? ⟨W.heap.size,6,none⟩=some (.slice tp tl tc)∧OneS W [.int .i64 20,.int .i64 rg,.int .i64 ty,.int .i64 nn,.int .i64 fl,.slice ap al ac,.slice tp tl tc] w'∧OS w' W.heap.size v B∧Below w.heap.size w w':=by
      rintro w ⟨k,kh⟩
      refine (HAB.out.2 w kh.2).mono ?_
      rintro e w' ⟨v,he,hO,hb⟩
      have h2:=kh.later hb
      obtain ⟨s0,s1⟩:=HSS w' h2
      exact ⟨v,he,s0,s1,h2,hO.mono kh.2.size,hb⟩
    clear HSS
    go_region_held3 (fun w' => w'.cell? ⟨W.heap.size,5,none⟩=some (.slice ap al ac)∧w'.cell? ⟨W.heap.size,6,none⟩=some (.slice tp tl tc))
      (((try dsimp only);(repeat' apply And.intro) <;> (first | (with_reducible assumption) | (rw [World.cell?_drew];with_reducible assumption) | (refine (cell_alloc_lt ?_).trans ?_ <;> with_reducible assumption) | (simp <;> omega))))
      (first
        | ((with_reducible refine' (cO1 _ ?pre).mono ?_)
           case pre=>(refine ⟨⟨?_,?_⟩,?_⟩ <;> (first | (with_reducible assumption) | (rw [World.cell?_drew];with_reducible assumption) | (with_reducible apply OneS.drew;with_reducible assumption) | (simp <;> omega) | omega))
           rintro e wsA ⟨vA,rfl,a0_,a1_,sahA,hOA⟩)
        | ((with_reducible refine' (cO2 _ ?pre).mono ?_)
           case pre=>(refine ⟨⟨?_,?_⟩,?_⟩ <;> (first | (with_reducible assumption) | (rw [World.cell?_drew];with_reducible assumption) | (with_reducible apply OneS.drew;with_reducible assumption) | (simp <;> omega) | omega))
           rintro e wsB ⟨vB,rfl,b0_,b1_,sahB,hOB,hBB⟩))
    all_goals
      have HFIN:=Lib.hid (And.intro (OS.later hOA hBB) (And.intro hOB sahB))
      clear hOA hOB sahA sahB hBB a0_ a1_ b0_ b1_
      go_wp2_with fail
      go_meet
      exact ⟨HFIN.out.1,HFIN.out.2.1,HFIN.out.2.2⟩
  case rest =>
  obtain ⟨hOA,hOB,hS⟩:=hcut
  have HS:=Lib.hid (And.intro hOA (And.intro hOB hS))
  generalize wc=wx at *
  clear hOA hOB hS HS0 HAB
  have z0:=HS.out.2.2.1.get 0 _ rfl
  obtain ⟨pa,ca,eva⟩:=HS.out.1.sl.slice
  subst eva
  obtain ⟨na,ea⟩:∃ n,A.length=n:=⟨_,rfl⟩
  rw [ea] at HS ⊢
  clear ea
  replace HS:Hid (FS W [.int .i64 20,.int .i64 rg,.int .i64 ty,.int .i64 nn,.int .i64 fl,.slice ap al ac,.slice tp tl tc] (.slice pa na ca) A wx):=Lib.hid ⟨HS.out.2.2,HS.out.1⟩
  go_upto_region 6 with fail
  clear z0
  have HSS:∀ w,FS W [.int .i64 20,.int .i64 rg,.int .i64 ty,.int .i64 nn,.int .i64 fl,.slice ap al ac,.slice tp tl tc] (.slice pa na ca) A w→(w.cell? ⟨W.heap.size,2,none⟩=some (.int .i64 ty)∧w.cell? ⟨W.heap.size,3,none⟩=some (.int .i64 nn)):=fun w h=>⟨h.1.1.get 2 _ rfl,h.1.1.get 3 _ rfl⟩
  obtain ⟨y0_,y1_⟩:=HSS wx HS.out
  have kh:FS W [.int .i64 20,.int .i64 rg,.int .i64 ty,.int .i64 nn,.int .i64 fl,.slice ap al ac,.slice tp tl tc] (.slice pa na ca) A wx:=HS.out
  have cA:∀ w,((w.cell? ⟨W.heap.size,2,none⟩=some (.int .i64 ty)∧w.cell? ⟨W.heap.size,3,none⟩=some (.int .i64 nn))∧FS W [.int .i64 20,.int .i64 rg,.int .i64 ty,.int .i64 nn,.int .i64 fl,.slice ap al ac,.slice tp tl tc] (.slice pa na ca) A w)→Calls Tryz.prog 11 #[.int .i64 nn] w fun e w' => e=.returned (.string (T nn))∧w'.cell? ⟨W.heap.size,2,none⟩=some (.int .i64 ty)∧w'.cell? ⟨W.heap.size,3,none⟩=some (.int .i64 nn)∧FS W [.int .i64 20,.int .i64 rg,.int .i64 ty,.int .i64 nn,.int .i64 fl,.slice ap al ac,.slice tp tl tc] (.slice pa na ca) A w':=by
    rintro w ⟨k,kh⟩
    refine ((fun w (kh:FS W [.int .i64 20,.int .i64 rg,.int .i64 ty,.int .i64 nn,.int .i64 fl,.slice ap al ac,.slice tp tl tc] (.slice pa na ca) A w)=>HL.out.1 nn w kh.1.2) w kh).mono ?_
    rintro e w' ⟨he,hb⟩
    have h2:=kh.later hb
    obtain ⟨s0,s1⟩:=HSS w' h2
    exact ⟨he,s0,s1,h2⟩
  have cB:∀ w,((w.cell? ⟨W.heap.size,2,none⟩=some (.int .i64 ty)∧w.cell? ⟨W.heap.size,3,none⟩=some (.int .i64 nn))∧FS W [.int .i64 20,.int .i64 rg,.int .i64 ty,.int .i64 nn,.int .i64 fl,.slice ap al ac,.slice tp tl tc] (.slice pa na ca) A w)→Calls Tryz.prog 43 #[.slice pa na ca] w fun e w' => e=.returned (.string L)∧w'.cell? ⟨W.heap.size,2,none⟩=some (.int .i64 ty)∧w'.cell? ⟨W.heap.size,3,none⟩=some (.int .i64 nn)∧FS W [.int .i64 20,.int .i64 rg,.int .i64 ty,.int .i64 nn,.int .i64 fl,.slice ap al ac,.slice tp tl tc] (.slice pa na ca) A w':=by
    rintro w ⟨k,kh⟩
    refine ((fun w (kh:FS W [.int .i64 20,.int .i64 rg,.int .i64 ty,.int .i64 nn,.int .i64 fl,.slice ap al ac,.slice tp tl tc] (.slice pa na ca) A w)=>HL.out.2 _ w kh.2.sl) w kh).mono ?_
    rintro e w' ⟨he,hb⟩
    have h2:=kh.later hb
    obtain ⟨s0,s1⟩:=HSS w' h2
    exact ⟨he,s0,s1,h2⟩
  have cC:∀ w,((w.cell? ⟨W.heap.size,2,none⟩=some (.int .i64 ty)∧w.cell? ⟨W.heap.size,3,none⟩=some (.int .i64 nn))∧FS W [.int .i64 20,.int .i64 rg,.int .i64 ty,.int .i64 nn,.int .i64 fl,.slice ap al ac,.slice tp tl tc] (.slice pa na ca) A w)→Calls Tryz.prog 11 #[.int .i64 ty] w fun e w' => e=.returned (.string (T ty))∧w'.cell? ⟨W.heap.size,2,none⟩=some (.int .i64 ty)∧w'.cell? ⟨W.heap.size,3,none⟩=some (.int .i64 nn)∧FS W [.int .i64 20,.int .i64 rg,.int .i64 ty,.int .i64 nn,.int .i64 fl,.slice ap al ac,.slice tp tl tc] (.slice pa na ca) A w':=by
    rintro w ⟨k,kh⟩
    refine ((fun w (kh:FS W [.int .i64 20,.int .i64 rg,.int .i64 ty,.int .i64 nn,.int .i64 fl,.slice ap al ac,.slice tp tl tc] (.slice pa na ca) A w)=>HL.out.1 ty w kh.1.2) w kh).mono ?_
    rintro e w' ⟨he,hb⟩
    have h2:=kh.later hb
    obtain ⟨s0,s1⟩:=HSS w' h2
    exact ⟨he,s0,s1,h2⟩
  clear HSS
  go_region_held3 (fun w' => w'.cell? ⟨W.heap.size,2,none⟩=some (.int .i64 ty)∧w'.cell? ⟨W.heap.size,3,none⟩=some (.int .i64 nn))
    (((try dsimp only);(repeat' apply And.intro) <;> (first | (with_reducible assumption) | (rw [World.cell?_drew];with_reducible assumption) | (refine (cell_alloc_lt ?_).trans ?_ <;> with_reducible assumption) | (simp <;> omega))))
    (first
      | ((with_reducible refine' (cA _ ?pre).mono ?_)
         case pre=>(refine ⟨⟨?_,?_⟩,?_⟩ <;> (first | (with_reducible assumption) | (rw [World.cell?_drew];with_reducible assumption) | (with_reducible apply FS.drew;with_reducible assumption) | (simp <;> omega) | omega))
         rintro e wscA ⟨rfl,cA_0,cA_1,sahcA⟩)
      | ((with_reducible refine' (cB _ ?pre).mono ?_)
         case pre=>(refine ⟨⟨?_,?_⟩,?_⟩ <;> (first | (with_reducible assumption) | (rw [World.cell?_drew];with_reducible assumption) | (with_reducible apply FS.drew;with_reducible assumption) | (simp <;> omega) | omega))
         rintro e wscB ⟨rfl,cB_0,cB_1,sahcB⟩
         have hlt_cB:=sahcB.1.1.1)
      | ((with_reducible refine' (cC _ ?pre).mono ?_)
         case pre=>(refine ⟨⟨?_,?_⟩,?_⟩ <;> (first | (with_reducible assumption) | (rw [World.cell?_drew];with_reducible assumption) | (with_reducible apply FS.drew;with_reducible assumption) | (simp <;> omega) | omega))
         rintro e wscC ⟨rfl,cC_0,cC_1,sahcC⟩
         have hlt_cC:=sahcC.1.1.1))
  all_goals
    have HX:=Lib.hid sahcC.1
    go_wp2_with fail
    go_ret
    exact ⟨_,rfl,OS.lit _ HX.out.2.size [T nn,L,⟨#[116,111]⟩,T ty] _ rfl 4 rfl (by decide),HX.out.2.alloc HX.out.2.size _⟩
set_option maxRecDepth 100000 in
set_option maxHeartbeats 8000000 in
theorem fm_21 (b:Nat) (rg ty nn fl:Int) (ap tp:Option Addr) (al tl ac tc:Nat) (A B:List ByteArray) (W:World) (cA:∀ w,Below W.heap.size W w→Calls Tryz.prog 131 #[.slice ap al ac,.func (.func 132) #[.pointer (some ⟨b,0,none⟩)] #[]] w (OwnS A w))
    (cB:∀ w,Below W.heap.size W w→Calls Tryz.prog 44 #[.slice tp tl tc,.func (.func 45) #[] #[]] w (OwnS B w))
    (T:Int→ByteArray) (cT:∀ t w,Below W.heap.size W w→Calls Tryz.prog 11 #[.int .i64 t] w (StrV (T t) w))
    (L:ByteArray) (cL:∀ v w,SL w v A→Calls Tryz.prog 43 #[v] w (StrV L w)) :
    Calls Tryz.prog 87 #[.pointer (some ⟨b,0,none⟩),.agg #[.int .i64 21,.int .i64 rg,.int .i64 ty,.int .i64 nn,.int .i64 fl,.slice ap al ac,.slice tp tl tc]] W (OwnS ([T nn,L,⟨#[116,111]⟩,T ty]) W):=by
  have HS0:Hid (OneS W [.int .i64 21,.int .i64 rg,.int .i64 ty,.int .i64 nn,.int .i64 fl,.slice ap al ac,.slice tp tl tc] (W.alloc (.cells #[.int .i64 21,.int .i64 rg,.int .i64 ty,.int .i64 nn,.int .i64 fl,.slice ap al ac,.slice tp tl tc] 43))):=Lib.hid ⟨Box.new W rfl _ _,(Below.refl _ _).alloc (Nat.le_refl _) _⟩
  have HAB:=Lib.hid (And.intro cA cB)
  clear cA cB
  have HL:=Lib.hid (And.intro cT cL)
  clear cT cL
  go_enter Tryz.func87,Tryz.ntmps87
  go_upto_region 1 with fail
  obtain ⟨w1,ew1⟩:∃ w1,(W.alloc (.cells #[.int .i64 21,.int .i64 rg,.int .i64 ty,.int .i64 nn,.int .i64 fl,.slice ap al ac,.slice tp tl tc] 43))=w1:=⟨_,rfl⟩
  rw [ew1] at HS0 ⊢
  clear ew1
  go_cut [5,6] (fun ta tb wx=>OS wx W.heap.size ta A∧OS wx W.heap.size tb B∧OneS W [.int .i64 21,.int .i64 rg,.int .i64 ty,.int .i64 nn,.int .i64 fl,.slice ap al ac,.slice tp tl tc] wx)
  case first =>
    have HSS:∀ w,OneS W [.int .i64 21,.int .i64 rg,.int .i64 ty,.int .i64 nn,.int .i64 fl,.slice ap al ac,.slice tp tl tc] w→(w.cell? ⟨W.heap.size,5,none⟩=some (.slice ap al ac)∧w.cell? ⟨W.heap.size,6,none⟩=some (.slice tp tl tc)):=fun w h=>⟨h.1.get 5 _ rfl,h.1.get 6 _ rfl⟩
    obtain ⟨y0_,y1_⟩:=HSS w1 HS0.out
    have kh:OneS W [.int .i64 21,.int .i64 rg,.int .i64 ty,.int .i64 nn,.int .i64 fl,.slice ap al ac,.slice tp tl tc] w1:=HS0.out
    have cO1:∀ w,((w.cell? ⟨W.heap.size,5,none⟩=some (.slice ap al ac)∧w.cell? ⟨W.heap.size,6,none⟩=some (.slice tp tl tc))∧OneS W [.int .i64 21,.int .i64 rg,.int .i64 ty,.int .i64 nn,.int .i64 fl,.slice ap al ac,.slice tp tl tc] w)→Calls Tryz.prog 131 #[.slice ap al ac,.func (.func 132) #[.pointer (some ⟨b,0,none⟩)] #[]] w fun e w' => ∃ v,e=.returned v∧w'.cell? ⟨W.heap.size,5,none⟩=some (.slice ap al ac)∧w'.cell? ⟨W.heap.size,6,none⟩=some (.slice tp tl tc)∧OneS W [.int .i64 21,.int .i64 rg,.int .i64 ty,.int .i64 nn,.int .i64 fl,.slice ap al ac,.slice tp tl tc] w'∧OS w' W.heap.size v A:=by
      rintro w ⟨k,kh⟩
      refine (HAB.out.1 w kh.2).mono ?_
      rintro e w' ⟨v,he,hO,hb⟩
      have h2:=kh.later hb
      obtain ⟨s0,s1⟩:=HSS w' h2
      exact ⟨v,he,s0,s1,h2,hO.mono kh.2.size⟩
    have cO2:∀ w,((w.cell? ⟨W.heap.size,5,none⟩=some (.slice ap al ac)∧w.cell? ⟨W.heap.size,6,none⟩=some (.slice tp tl tc))∧OneS W [.int .i64 21,.int .i64 rg,.int .i64 ty,.int .i64 nn,.int .i64 fl,.slice ap al ac,.slice tp tl tc] w)→Calls Tryz.prog 44 #[.slice tp tl tc,.func (.func 45) #[] #[]] w fun e w' => ∃ v,e=.returned v∧w'.cell? ⟨W.heap.size,5,none⟩=some (.slice ap al ac)∧w'.cell? ⟨W.heap.size,6,none⟩=some (.slice tp tl tc)∧OneS W [.int .i64 21,.int .i64 rg,.int .i64 ty,.int .i64 nn,.int .i64 fl,.slice ap al ac,.slice tp tl tc] w'∧OS w' W.heap.size v B∧Below w.heap.size w w':=by
      rintro w ⟨k,kh⟩
      refine (HAB.out.2 w kh.2).mono ?_
      rintro e w' ⟨v,he,hO,hb⟩
      have h2:=kh.later hb
      obtain ⟨s0,s1⟩:=HSS w' h2
      exact ⟨v,he,s0,s1,h2,hO.mono kh.2.size,hb⟩
    clear HSS
    go_region_held3 (fun w' => w'.cell? ⟨W.heap.size,5,none⟩=some (.slice ap al ac)∧w'.cell? ⟨W.heap.size,6,none⟩=some (.slice tp tl tc))
      (((try dsimp only);(repeat' apply And.intro) <;> (first | (with_reducible assumption) | (rw [World.cell?_drew];with_reducible assumption) | (refine (cell_alloc_lt ?_).trans ?_ <;> with_reducible assumption) | (simp <;> omega))))
      (first
        | ((with_reducible refine' (cO1 _ ?pre).mono ?_)
           case pre=>(refine ⟨⟨?_,?_⟩,?_⟩ <;> (first | (with_reducible assumption) | (rw [World.cell?_drew];with_reducible assumption) | (with_reducible apply OneS.drew;with_reducible assumption) | (simp <;> omega) | omega))
           rintro e wsA ⟨vA,rfl,a0_,a1_,sahA,hOA⟩)
        | ((with_reducible refine' (cO2 _ ?pre).mono ?_)
           case pre=>(refine ⟨⟨?_,?_⟩,?_⟩ <;> (first | (with_reducible assumption) | (rw [World.cell?_drew];with_reducible assumption) | (with_reducible apply OneS.drew;with_reducible assumption) | (simp <;> omega) | omega))
           rintro e wsB ⟨vB,rfl,b0_,b1_,sahB,hOB,hBB⟩))
    all_goals
      have HFIN:=Lib.hid (And.intro (OS.later hOA hBB) (And.intro hOB sahB))
      clear hOA hOB sahA sahB hBB a0_ a1_ b0_ b1_
      go_wp2_with fail
      go_meet
      exact ⟨HFIN.out.1,HFIN.out.2.1,HFIN.out.2.2⟩
  case rest =>
  obtain ⟨hOA,hOB,hS⟩:=hcut
  have HS:=Lib.hid (And.intro hOA (And.intro hOB hS))
  generalize wc=wx at *
  clear hOA hOB hS HS0 HAB
  have z0:=HS.out.2.2.1.get 0 _ rfl
  obtain ⟨pa,ca,eva⟩:=HS.out.1.sl.slice
  subst eva
  obtain ⟨na,ea⟩:∃ n,A.length=n:=⟨_,rfl⟩
  rw [ea] at HS ⊢
  clear ea
  replace HS:Hid (FS W [.int .i64 21,.int .i64 rg,.int .i64 ty,.int .i64 nn,.int .i64 fl,.slice ap al ac,.slice tp tl tc] (.slice pa na ca) A wx):=Lib.hid ⟨HS.out.2.2,HS.out.1⟩
  go_upto_region 6 with fail
  clear z0
  have HSS:∀ w,FS W [.int .i64 21,.int .i64 rg,.int .i64 ty,.int .i64 nn,.int .i64 fl,.slice ap al ac,.slice tp tl tc] (.slice pa na ca) A w→(w.cell? ⟨W.heap.size,2,none⟩=some (.int .i64 ty)∧w.cell? ⟨W.heap.size,3,none⟩=some (.int .i64 nn)):=fun w h=>⟨h.1.1.get 2 _ rfl,h.1.1.get 3 _ rfl⟩
  obtain ⟨y0_,y1_⟩:=HSS wx HS.out
  have kh:FS W [.int .i64 21,.int .i64 rg,.int .i64 ty,.int .i64 nn,.int .i64 fl,.slice ap al ac,.slice tp tl tc] (.slice pa na ca) A wx:=HS.out
  have cA:∀ w,((w.cell? ⟨W.heap.size,2,none⟩=some (.int .i64 ty)∧w.cell? ⟨W.heap.size,3,none⟩=some (.int .i64 nn))∧FS W [.int .i64 21,.int .i64 rg,.int .i64 ty,.int .i64 nn,.int .i64 fl,.slice ap al ac,.slice tp tl tc] (.slice pa na ca) A w)→Calls Tryz.prog 11 #[.int .i64 nn] w fun e w' => e=.returned (.string (T nn))∧w'.cell? ⟨W.heap.size,2,none⟩=some (.int .i64 ty)∧w'.cell? ⟨W.heap.size,3,none⟩=some (.int .i64 nn)∧FS W [.int .i64 21,.int .i64 rg,.int .i64 ty,.int .i64 nn,.int .i64 fl,.slice ap al ac,.slice tp tl tc] (.slice pa na ca) A w':=by
    rintro w ⟨k,kh⟩
    refine ((fun w (kh:FS W [.int .i64 21,.int .i64 rg,.int .i64 ty,.int .i64 nn,.int .i64 fl,.slice ap al ac,.slice tp tl tc] (.slice pa na ca) A w)=>HL.out.1 nn w kh.1.2) w kh).mono ?_
    rintro e w' ⟨he,hb⟩
    have h2:=kh.later hb
    obtain ⟨s0,s1⟩:=HSS w' h2
    exact ⟨he,s0,s1,h2⟩
  have cB:∀ w,((w.cell? ⟨W.heap.size,2,none⟩=some (.int .i64 ty)∧w.cell? ⟨W.heap.size,3,none⟩=some (.int .i64 nn))∧FS W [.int .i64 21,.int .i64 rg,.int .i64 ty,.int .i64 nn,.int .i64 fl,.slice ap al ac,.slice tp tl tc] (.slice pa na ca) A w)→Calls Tryz.prog 43 #[.slice pa na ca] w fun e w' => e=.returned (.string L)∧w'.cell? ⟨W.heap.size,2,none⟩=some (.int .i64 ty)∧w'.cell? ⟨W.heap.size,3,none⟩=some (.int .i64 nn)∧FS W [.int .i64 21,.int .i64 rg,.int .i64 ty,.int .i64 nn,.int .i64 fl,.slice ap al ac,.slice tp tl tc] (.slice pa na ca) A w':=by
    rintro w ⟨k,kh⟩
    refine ((fun w (kh:FS W [.int .i64 21,.int .i64 rg,.int .i64 ty,.int .i64 nn,.int .i64 fl,.slice ap al ac,.slice tp tl tc] (.slice pa na ca) A w)=>HL.out.2 _ w kh.2.sl) w kh).mono ?_
    rintro e w' ⟨he,hb⟩
    have h2:=kh.later hb
    obtain ⟨s0,s1⟩:=HSS w' h2
    exact ⟨he,s0,s1,h2⟩
  have cC:∀ w,((w.cell? ⟨W.heap.size,2,none⟩=some (.int .i64 ty)∧w.cell? ⟨W.heap.size,3,none⟩=some (.int .i64 nn))∧FS W [.int .i64 21,.int .i64 rg,.int .i64 ty,.int .i64 nn,.int .i64 fl,.slice ap al ac,.slice tp tl tc] (.slice pa na ca) A w)→Calls Tryz.prog 11 #[.int .i64 ty] w fun e w' => e=.returned (.string (T ty))∧w'.cell? ⟨W.heap.size,2,none⟩=some (.int .i64 ty)∧w'.cell? ⟨W.heap.size,3,none⟩=some (.int .i64 nn)∧FS W [.int .i64 21,.int .i64 rg,.int .i64 ty,.int .i64 nn,.int .i64 fl,.slice ap al ac,.slice tp tl tc] (.slice pa na ca) A w':=by
    rintro w ⟨k,kh⟩
    refine ((fun w (kh:FS W [.int .i64 21,.int .i64 rg,.int .i64 ty,.int .i64 nn,.int .i64 fl,.slice ap al ac,.slice tp tl tc] (.slice pa na ca) A w)=>HL.out.1 ty w kh.1.2) w kh).mono ?_
    rintro e w' ⟨he,hb⟩
    have h2:=kh.later hb
    obtain ⟨s0,s1⟩:=HSS w' h2
    exact ⟨he,s0,s1,h2⟩
  clear HSS
  go_region_held3 (fun w' => w'.cell? ⟨W.heap.size,2,none⟩=some (.int .i64 ty)∧w'.cell? ⟨W.heap.size,3,none⟩=some (.int .i64 nn))
    (((try dsimp only);(repeat' apply And.intro) <;> (first | (with_reducible assumption) | (rw [World.cell?_drew];with_reducible assumption) | (refine (cell_alloc_lt ?_).trans ?_ <;> with_reducible assumption) | (simp <;> omega))))
    (first
      | ((with_reducible refine' (cA _ ?pre).mono ?_)
         case pre=>(refine ⟨⟨?_,?_⟩,?_⟩ <;> (first | (with_reducible assumption) | (rw [World.cell?_drew];with_reducible assumption) | (with_reducible apply FS.drew;with_reducible assumption) | (simp <;> omega) | omega))
         rintro e wscA ⟨rfl,cA_0,cA_1,sahcA⟩)
      | ((with_reducible refine' (cB _ ?pre).mono ?_)
         case pre=>(refine ⟨⟨?_,?_⟩,?_⟩ <;> (first | (with_reducible assumption) | (rw [World.cell?_drew];with_reducible assumption) | (with_reducible apply FS.drew;with_reducible assumption) | (simp <;> omega) | omega))
         rintro e wscB ⟨rfl,cB_0,cB_1,sahcB⟩
         have hlt_cB:=sahcB.1.1.1)
      | ((with_reducible refine' (cC _ ?pre).mono ?_)
         case pre=>(refine ⟨⟨?_,?_⟩,?_⟩ <;> (first | (with_reducible assumption) | (rw [World.cell?_drew];with_reducible assumption) | (with_reducible apply FS.drew;with_reducible assumption) | (simp <;> omega) | omega))
         rintro e wscC ⟨rfl,cC_0,cC_1,sahcC⟩
         have hlt_cC:=sahcC.1.1.1))
  all_goals
    have HX:=Lib.hid sahcC.1
    go_wp2_with fail
    go_ret
    exact ⟨_,rfl,OS.lit _ HX.out.2.size [T nn,L,⟨#[116,111]⟩,T ty] _ rfl 4 rfl (by decide),HX.out.2.alloc HX.out.2.size _⟩
set_option maxRecDepth 100000 in
set_option maxHeartbeats 8000000 in
theorem fm_22 (b:Nat) (rg ty nn fl:Int) (ap tp:Option Addr) (al tl ac tc:Nat) (A B:List ByteArray) (W:World) (cA:∀ w,Below W.heap.size W w→Calls Tryz.prog 131 #[.slice ap al ac,.func (.func 132) #[.pointer (some ⟨b,0,none⟩)] #[]] w (OwnS A w))
    (cB:∀ w,Below W.heap.size W w→Calls Tryz.prog 44 #[.slice tp tl tc,.func (.func 45) #[] #[]] w (OwnS B w))
    (T:Int→ByteArray) (cT:∀ t w,Below W.heap.size W w→Calls Tryz.prog 11 #[.int .i64 t] w (StrV (T t) w))
    (L:ByteArray) (cL:∀ v w,SL w v A→Calls Tryz.prog 43 #[v] w (StrV L w)) :
    Calls Tryz.prog 87 #[.pointer (some ⟨b,0,none⟩),.agg #[.int .i64 22,.int .i64 rg,.int .i64 ty,.int .i64 nn,.int .i64 fl,.slice ap al ac,.slice tp tl tc]] W (OwnS ([T nn,L,⟨#[116,111]⟩,T ty]) W):=by
  have HS0:Hid (OneS W [.int .i64 22,.int .i64 rg,.int .i64 ty,.int .i64 nn,.int .i64 fl,.slice ap al ac,.slice tp tl tc] (W.alloc (.cells #[.int .i64 22,.int .i64 rg,.int .i64 ty,.int .i64 nn,.int .i64 fl,.slice ap al ac,.slice tp tl tc] 43))):=Lib.hid ⟨Box.new W rfl _ _,(Below.refl _ _).alloc (Nat.le_refl _) _⟩
  have HAB:=Lib.hid (And.intro cA cB)
  clear cA cB
  have HL:=Lib.hid (And.intro cT cL)
  clear cT cL
  go_enter Tryz.func87,Tryz.ntmps87
  go_upto_region 1 with fail
  obtain ⟨w1,ew1⟩:∃ w1,(W.alloc (.cells #[.int .i64 22,.int .i64 rg,.int .i64 ty,.int .i64 nn,.int .i64 fl,.slice ap al ac,.slice tp tl tc] 43))=w1:=⟨_,rfl⟩
  rw [ew1] at HS0 ⊢
  clear ew1
  go_cut [5,6] (fun ta tb wx=>OS wx W.heap.size ta A∧OS wx W.heap.size tb B∧OneS W [.int .i64 22,.int .i64 rg,.int .i64 ty,.int .i64 nn,.int .i64 fl,.slice ap al ac,.slice tp tl tc] wx)
  case first =>
    have HSS:∀ w,OneS W [.int .i64 22,.int .i64 rg,.int .i64 ty,.int .i64 nn,.int .i64 fl,.slice ap al ac,.slice tp tl tc] w→(w.cell? ⟨W.heap.size,5,none⟩=some (.slice ap al ac)∧w.cell? ⟨W.heap.size,6,none⟩=some (.slice tp tl tc)):=fun w h=>⟨h.1.get 5 _ rfl,h.1.get 6 _ rfl⟩
    obtain ⟨y0_,y1_⟩:=HSS w1 HS0.out
    have kh:OneS W [.int .i64 22,.int .i64 rg,.int .i64 ty,.int .i64 nn,.int .i64 fl,.slice ap al ac,.slice tp tl tc] w1:=HS0.out
    have cO1:∀ w,((w.cell? ⟨W.heap.size,5,none⟩=some (.slice ap al ac)∧w.cell? ⟨W.heap.size,6,none⟩=some (.slice tp tl tc))∧OneS W [.int .i64 22,.int .i64 rg,.int .i64 ty,.int .i64 nn,.int .i64 fl,.slice ap al ac,.slice tp tl tc] w)→Calls Tryz.prog 131 #[.slice ap al ac,.func (.func 132) #[.pointer (some ⟨b,0,none⟩)] #[]] w fun e w' => ∃ v,e=.returned v∧w'.cell? ⟨W.heap.size,5,none⟩=some (.slice ap al ac)∧w'.cell? ⟨W.heap.size,6,none⟩=some (.slice tp tl tc)∧OneS W [.int .i64 22,.int .i64 rg,.int .i64 ty,.int .i64 nn,.int .i64 fl,.slice ap al ac,.slice tp tl tc] w'∧OS w' W.heap.size v A:=by
      rintro w ⟨k,kh⟩
      refine (HAB.out.1 w kh.2).mono ?_
      rintro e w' ⟨v,he,hO,hb⟩
      have h2:=kh.later hb
      obtain ⟨s0,s1⟩:=HSS w' h2
      exact ⟨v,he,s0,s1,h2,hO.mono kh.2.size⟩
    have cO2:∀ w,((w.cell? ⟨W.heap.size,5,none⟩=some (.slice ap al ac)∧w.cell? ⟨W.heap.size,6,none⟩=some (.slice tp tl tc))∧OneS W [.int .i64 22,.int .i64 rg,.int .i64 ty,.int .i64 nn,.int .i64 fl,.slice ap al ac,.slice tp tl tc] w)→Calls Tryz.prog 44 #[.slice tp tl tc,.func (.func 45) #[] #[]] w fun e w' => ∃ v,e=.returned v∧w'.cell? ⟨W.heap.size,5,none⟩=some (.slice ap al ac)∧w'.cell? ⟨W.heap.size,6,none⟩=some (.slice tp tl tc)∧OneS W [.int .i64 22,.int .i64 rg,.int .i64 ty,.int .i64 nn,.int .i64 fl,.slice ap al ac,.slice tp tl tc] w'∧OS w' W.heap.size v B∧Below w.heap.size w w':=by
      rintro w ⟨k,kh⟩
      refine (HAB.out.2 w kh.2).mono ?_
      rintro e w' ⟨v,he,hO,hb⟩
      have h2:=kh.later hb
      obtain ⟨s0,s1⟩:=HSS w' h2
      exact ⟨v,he,s0,s1,h2,hO.mono kh.2.size,hb⟩
    clear HSS
    go_region_held3 (fun w' => w'.cell? ⟨W.heap.size,5,none⟩=some (.slice ap al ac)∧w'.cell? ⟨W.heap.size,6,none⟩=some (.slice tp tl tc))
      (((try dsimp only);(repeat' apply And.intro) <;> (first | (with_reducible assumption) | (rw [World.cell?_drew];with_reducible assumption) | (refine (cell_alloc_lt ?_).trans ?_ <;> with_reducible assumption) | (simp <;> omega))))
      (first
        | ((with_reducible refine' (cO1 _ ?pre).mono ?_)
           case pre=>(refine ⟨⟨?_,?_⟩,?_⟩ <;> (first | (with_reducible assumption) | (rw [World.cell?_drew];with_reducible assumption) | (with_reducible apply OneS.drew;with_reducible assumption) | (simp <;> omega) | omega))
           rintro e wsA ⟨vA,rfl,a0_,a1_,sahA,hOA⟩)
        | ((with_reducible refine' (cO2 _ ?pre).mono ?_)
           case pre=>(refine ⟨⟨?_,?_⟩,?_⟩ <;> (first | (with_reducible assumption) | (rw [World.cell?_drew];with_reducible assumption) | (with_reducible apply OneS.drew;with_reducible assumption) | (simp <;> omega) | omega))
           rintro e wsB ⟨vB,rfl,b0_,b1_,sahB,hOB,hBB⟩))
    all_goals
      have HFIN:=Lib.hid (And.intro (OS.later hOA hBB) (And.intro hOB sahB))
      clear hOA hOB sahA sahB hBB a0_ a1_ b0_ b1_
      go_wp2_with fail
      go_meet
      exact ⟨HFIN.out.1,HFIN.out.2.1,HFIN.out.2.2⟩
  case rest =>
  obtain ⟨hOA,hOB,hS⟩:=hcut
  have HS:=Lib.hid (And.intro hOA (And.intro hOB hS))
  generalize wc=wx at *
  clear hOA hOB hS HS0 HAB
  have z0:=HS.out.2.2.1.get 0 _ rfl
  obtain ⟨pa,ca,eva⟩:=HS.out.1.sl.slice
  subst eva
  obtain ⟨na,ea⟩:∃ n,A.length=n:=⟨_,rfl⟩
  rw [ea] at HS ⊢
  clear ea
  replace HS:Hid (FS W [.int .i64 22,.int .i64 rg,.int .i64 ty,.int .i64 nn,.int .i64 fl,.slice ap al ac,.slice tp tl tc] (.slice pa na ca) A wx):=Lib.hid ⟨HS.out.2.2,HS.out.1⟩
  go_upto_region 6 with fail
  clear z0
  have HSS:∀ w,FS W [.int .i64 22,.int .i64 rg,.int .i64 ty,.int .i64 nn,.int .i64 fl,.slice ap al ac,.slice tp tl tc] (.slice pa na ca) A w→(w.cell? ⟨W.heap.size,2,none⟩=some (.int .i64 ty)∧w.cell? ⟨W.heap.size,3,none⟩=some (.int .i64 nn)):=fun w h=>⟨h.1.1.get 2 _ rfl,h.1.1.get 3 _ rfl⟩
  obtain ⟨y0_,y1_⟩:=HSS wx HS.out
  have kh:FS W [.int .i64 22,.int .i64 rg,.int .i64 ty,.int .i64 nn,.int .i64 fl,.slice ap al ac,.slice tp tl tc] (.slice pa na ca) A wx:=HS.out
  have cA:∀ w,((w.cell? ⟨W.heap.size,2,none⟩=some (.int .i64 ty)∧w.cell? ⟨W.heap.size,3,none⟩=some (.int .i64 nn))∧FS W [.int .i64 22,.int .i64 rg,.int .i64 ty,.int .i64 nn,.int .i64 fl,.slice ap al ac,.slice tp tl tc] (.slice pa na ca) A w)→Calls Tryz.prog 11 #[.int .i64 nn] w fun e w' => e=.returned (.string (T nn))∧w'.cell? ⟨W.heap.size,2,none⟩=some (.int .i64 ty)∧w'.cell? ⟨W.heap.size,3,none⟩=some (.int .i64 nn)∧FS W [.int .i64 22,.int .i64 rg,.int .i64 ty,.int .i64 nn,.int .i64 fl,.slice ap al ac,.slice tp tl tc] (.slice pa na ca) A w':=by
    rintro w ⟨k,kh⟩
    refine ((fun w (kh:FS W [.int .i64 22,.int .i64 rg,.int .i64 ty,.int .i64 nn,.int .i64 fl,.slice ap al ac,.slice tp tl tc] (.slice pa na ca) A w)=>HL.out.1 nn w kh.1.2) w kh).mono ?_
    rintro e w' ⟨he,hb⟩
    have h2:=kh.later hb
    obtain ⟨s0,s1⟩:=HSS w' h2
    exact ⟨he,s0,s1,h2⟩
  have cB:∀ w,((w.cell? ⟨W.heap.size,2,none⟩=some (.int .i64 ty)∧w.cell? ⟨W.heap.size,3,none⟩=some (.int .i64 nn))∧FS W [.int .i64 22,.int .i64 rg,.int .i64 ty,.int .i64 nn,.int .i64 fl,.slice ap al ac,.slice tp tl tc] (.slice pa na ca) A w)→Calls Tryz.prog 43 #[.slice pa na ca] w fun e w' => e=.returned (.string L)∧w'.cell? ⟨W.heap.size,2,none⟩=some (.int .i64 ty)∧w'.cell? ⟨W.heap.size,3,none⟩=some (.int .i64 nn)∧FS W [.int .i64 22,.int .i64 rg,.int .i64 ty,.int .i64 nn,.int .i64 fl,.slice ap al ac,.slice tp tl tc] (.slice pa na ca) A w':=by
    rintro w ⟨k,kh⟩
    refine ((fun w (kh:FS W [.int .i64 22,.int .i64 rg,.int .i64 ty,.int .i64 nn,.int .i64 fl,.slice ap al ac,.slice tp tl tc] (.slice pa na ca) A w)=>HL.out.2 _ w kh.2.sl) w kh).mono ?_
    rintro e w' ⟨he,hb⟩
    have h2:=kh.later hb
    obtain ⟨s0,s1⟩:=HSS w' h2
    exact ⟨he,s0,s1,h2⟩
  have cC:∀ w,((w.cell? ⟨W.heap.size,2,none⟩=some (.int .i64 ty)∧w.cell? ⟨W.heap.size,3,none⟩=some (.int .i64 nn))∧FS W [.int .i64 22,.int .i64 rg,.int .i64 ty,.int .i64 nn,.int .i64 fl,.slice ap al ac,.slice tp tl tc] (.slice pa na ca) A w)→Calls Tryz.prog 11 #[.int .i64 ty] w fun e w' => e=.returned (.string (T ty))∧w'.cell? ⟨W.heap.size,2,none⟩=some (.int .i64 ty)∧w'.cell? ⟨W.heap.size,3,none⟩=some (.int .i64 nn)∧FS W [.int .i64 22,.int .i64 rg,.int .i64 ty,.int .i64 nn,.int .i64 fl,.slice ap al ac,.slice tp tl tc] (.slice pa na ca) A w':=by
    rintro w ⟨k,kh⟩
    refine ((fun w (kh:FS W [.int .i64 22,.int .i64 rg,.int .i64 ty,.int .i64 nn,.int .i64 fl,.slice ap al ac,.slice tp tl tc] (.slice pa na ca) A w)=>HL.out.1 ty w kh.1.2) w kh).mono ?_
    rintro e w' ⟨he,hb⟩
    have h2:=kh.later hb
    obtain ⟨s0,s1⟩:=HSS w' h2
    exact ⟨he,s0,s1,h2⟩
  clear HSS
  go_region_held3 (fun w' => w'.cell? ⟨W.heap.size,2,none⟩=some (.int .i64 ty)∧w'.cell? ⟨W.heap.size,3,none⟩=some (.int .i64 nn))
    (((try dsimp only);(repeat' apply And.intro) <;> (first | (with_reducible assumption) | (rw [World.cell?_drew];with_reducible assumption) | (refine (cell_alloc_lt ?_).trans ?_ <;> with_reducible assumption) | (simp <;> omega))))
    (first
      | ((with_reducible refine' (cA _ ?pre).mono ?_)
         case pre=>(refine ⟨⟨?_,?_⟩,?_⟩ <;> (first | (with_reducible assumption) | (rw [World.cell?_drew];with_reducible assumption) | (with_reducible apply FS.drew;with_reducible assumption) | (simp <;> omega) | omega))
         rintro e wscA ⟨rfl,cA_0,cA_1,sahcA⟩)
      | ((with_reducible refine' (cB _ ?pre).mono ?_)
         case pre=>(refine ⟨⟨?_,?_⟩,?_⟩ <;> (first | (with_reducible assumption) | (rw [World.cell?_drew];with_reducible assumption) | (with_reducible apply FS.drew;with_reducible assumption) | (simp <;> omega) | omega))
         rintro e wscB ⟨rfl,cB_0,cB_1,sahcB⟩
         have hlt_cB:=sahcB.1.1.1)
      | ((with_reducible refine' (cC _ ?pre).mono ?_)
         case pre=>(refine ⟨⟨?_,?_⟩,?_⟩ <;> (first | (with_reducible assumption) | (rw [World.cell?_drew];with_reducible assumption) | (with_reducible apply FS.drew;with_reducible assumption) | (simp <;> omega) | omega))
         rintro e wscC ⟨rfl,cC_0,cC_1,sahcC⟩
         have hlt_cC:=sahcC.1.1.1))
  all_goals
    have HX:=Lib.hid sahcC.1
    go_wp2_with fail
    go_ret
    exact ⟨_,rfl,OS.lit _ HX.out.2.size [T nn,L,⟨#[116,111]⟩,T ty] _ rfl 4 rfl (by decide),HX.out.2.alloc HX.out.2.size _⟩
set_option maxRecDepth 100000 in
set_option maxHeartbeats 8000000 in
theorem fm_33 (b:Nat) (rg ty nn fl:Int) (ap tp:Option Addr) (al tl ac tc:Nat) (A B:List ByteArray) (W:World) (cA:∀ w,Below W.heap.size W w→Calls Tryz.prog 131 #[.slice ap al ac,.func (.func 132) #[.pointer (some ⟨b,0,none⟩)] #[]] w (OwnS A w))
    (cB:∀ w,Below W.heap.size W w→Calls Tryz.prog 44 #[.slice tp tl tc,.func (.func 45) #[] #[]] w (OwnS B w))
    (h0:A.length≠0)
    (T:Int→ByteArray) (cT:∀ t w,Below W.heap.size W w→Calls Tryz.prog 11 #[.int .i64 t] w (StrV (T t) w))
    (L:ByteArray) (cL:∀ v w,SL w v A→Calls Tryz.prog 43 #[v] w (StrV L w))
    (F:ByteArray) (cF:∀ w,Calls Tryz.prog 135 #[.int .i64 fl] w (StrV F w)) :
    Calls Tryz.prog 87 #[.pointer (some ⟨b,0,none⟩),.agg #[.int .i64 33,.int .i64 rg,.int .i64 ty,.int .i64 nn,.int .i64 fl,.slice ap al ac,.slice tp tl tc]] W (OwnS ([F,T ty,L]) W):=by
  have HS0:Hid (OneS W [.int .i64 33,.int .i64 rg,.int .i64 ty,.int .i64 nn,.int .i64 fl,.slice ap al ac,.slice tp tl tc] (W.alloc (.cells #[.int .i64 33,.int .i64 rg,.int .i64 ty,.int .i64 nn,.int .i64 fl,.slice ap al ac,.slice tp tl tc] 43))):=Lib.hid ⟨Box.new W rfl _ _,(Below.refl _ _).alloc (Nat.le_refl _) _⟩
  have HAB:=Lib.hid (And.intro cA cB)
  clear cA cB
  have HL:=Lib.hid (And.intro cT (And.intro cL cF))
  clear cT cL cF
  go_enter Tryz.func87,Tryz.ntmps87
  go_upto_region 1 with fail
  obtain ⟨w1,ew1⟩:∃ w1,(W.alloc (.cells #[.int .i64 33,.int .i64 rg,.int .i64 ty,.int .i64 nn,.int .i64 fl,.slice ap al ac,.slice tp tl tc] 43))=w1:=⟨_,rfl⟩
  rw [ew1] at HS0 ⊢
  clear ew1
  go_cut [5,6] (fun ta tb wx=>OS wx W.heap.size ta A∧OS wx W.heap.size tb B∧OneS W [.int .i64 33,.int .i64 rg,.int .i64 ty,.int .i64 nn,.int .i64 fl,.slice ap al ac,.slice tp tl tc] wx)
  case first =>
    have HSS:∀ w,OneS W [.int .i64 33,.int .i64 rg,.int .i64 ty,.int .i64 nn,.int .i64 fl,.slice ap al ac,.slice tp tl tc] w→(w.cell? ⟨W.heap.size,5,none⟩=some (.slice ap al ac)∧w.cell? ⟨W.heap.size,6,none⟩=some (.slice tp tl tc)):=fun w h=>⟨h.1.get 5 _ rfl,h.1.get 6 _ rfl⟩
    obtain ⟨y0_,y1_⟩:=HSS w1 HS0.out
    have kh:OneS W [.int .i64 33,.int .i64 rg,.int .i64 ty,.int .i64 nn,.int .i64 fl,.slice ap al ac,.slice tp tl tc] w1:=HS0.out
    have cO1:∀ w,((w.cell? ⟨W.heap.size,5,none⟩=some (.slice ap al ac)∧w.cell? ⟨W.heap.size,6,none⟩=some (.slice tp tl tc))∧OneS W [.int .i64 33,.int .i64 rg,.int .i64 ty,.int .i64 nn,.int .i64 fl,.slice ap al ac,.slice tp tl tc] w)→Calls Tryz.prog 131 #[.slice ap al ac,.func (.func 132) #[.pointer (some ⟨b,0,none⟩)] #[]] w fun e w' => ∃ v,e=.returned v∧w'.cell? ⟨W.heap.size,5,none⟩=some (.slice ap al ac)∧w'.cell? ⟨W.heap.size,6,none⟩=some (.slice tp tl tc)∧OneS W [.int .i64 33,.int .i64 rg,.int .i64 ty,.int .i64 nn,.int .i64 fl,.slice ap al ac,.slice tp tl tc] w'∧OS w' W.heap.size v A:=by
      rintro w ⟨k,kh⟩
      refine (HAB.out.1 w kh.2).mono ?_
      rintro e w' ⟨v,he,hO,hb⟩
      have h2:=kh.later hb
      obtain ⟨s0,s1⟩:=HSS w' h2
      exact ⟨v,he,s0,s1,h2,hO.mono kh.2.size⟩
    have cO2:∀ w,((w.cell? ⟨W.heap.size,5,none⟩=some (.slice ap al ac)∧w.cell? ⟨W.heap.size,6,none⟩=some (.slice tp tl tc))∧OneS W [.int .i64 33,.int .i64 rg,.int .i64 ty,.int .i64 nn,.int .i64 fl,.slice ap al ac,.slice tp tl tc] w)→Calls Tryz.prog 44 #[.slice tp tl tc,.func (.func 45) #[] #[]] w fun e w' => ∃ v,e=.returned v∧w'.cell? ⟨W.heap.size,5,none⟩=some (.slice ap al ac)∧w'.cell? ⟨W.heap.size,6,none⟩=some (.slice tp tl tc)∧OneS W [.int .i64 33,.int .i64 rg,.int .i64 ty,.int .i64 nn,.int .i64 fl,.slice ap al ac,.slice tp tl tc] w'∧OS w' W.heap.size v B∧Below w.heap.size w w':=by
      rintro w ⟨k,kh⟩
      refine (HAB.out.2 w kh.2).mono ?_
      rintro e w' ⟨v,he,hO,hb⟩
      have h2:=kh.later hb
      obtain ⟨s0,s1⟩:=HSS w' h2
      exact ⟨v,he,s0,s1,h2,hO.mono kh.2.size,hb⟩
    clear HSS
    go_region_held3 (fun w' => w'.cell? ⟨W.heap.size,5,none⟩=some (.slice ap al ac)∧w'.cell? ⟨W.heap.size,6,none⟩=some (.slice tp tl tc))
      (((try dsimp only);(repeat' apply And.intro) <;> (first | (with_reducible assumption) | (rw [World.cell?_drew];with_reducible assumption) | (refine (cell_alloc_lt ?_).trans ?_ <;> with_reducible assumption) | (simp <;> omega))))
      (first
        | ((with_reducible refine' (cO1 _ ?pre).mono ?_)
           case pre=>(refine ⟨⟨?_,?_⟩,?_⟩ <;> (first | (with_reducible assumption) | (rw [World.cell?_drew];with_reducible assumption) | (with_reducible apply OneS.drew;with_reducible assumption) | (simp <;> omega) | omega))
           rintro e wsA ⟨vA,rfl,a0_,a1_,sahA,hOA⟩)
        | ((with_reducible refine' (cO2 _ ?pre).mono ?_)
           case pre=>(refine ⟨⟨?_,?_⟩,?_⟩ <;> (first | (with_reducible assumption) | (rw [World.cell?_drew];with_reducible assumption) | (with_reducible apply OneS.drew;with_reducible assumption) | (simp <;> omega) | omega))
           rintro e wsB ⟨vB,rfl,b0_,b1_,sahB,hOB,hBB⟩))
    all_goals
      have HFIN:=Lib.hid (And.intro (OS.later hOA hBB) (And.intro hOB sahB))
      clear hOA hOB sahA sahB hBB a0_ a1_ b0_ b1_
      go_wp2_with fail
      go_meet
      exact ⟨HFIN.out.1,HFIN.out.2.1,HFIN.out.2.2⟩
  case rest =>
  obtain ⟨hOA,hOB,hS⟩:=hcut
  have HS:=Lib.hid (And.intro hOA (And.intro hOB hS))
  generalize wc=wx at *
  clear hOA hOB hS HS0 HAB
  have z0:=HS.out.2.2.1.get 0 _ rfl
  obtain ⟨pa,ca,eva⟩:=HS.out.1.sl.slice
  subst eva
  obtain ⟨na,ea⟩:∃ n,A.length=n:=⟨_,rfl⟩
  rw [ea] at HS ⊢
  have d33:((na:Int)==(0:Int))=false:=by simp;omega
  have d33':(na==0)=false:=by simp;omega
  clear h0
  clear ea
  replace HS:Hid (FS W [.int .i64 33,.int .i64 rg,.int .i64 ty,.int .i64 nn,.int .i64 fl,.slice ap al ac,.slice tp tl tc] (.slice pa na ca) A wx):=Lib.hid ⟨HS.out.2.2,HS.out.1⟩
  go_upto_region 25 with fail
  clear z0
  have HSS:∀ w,FS W [.int .i64 33,.int .i64 rg,.int .i64 ty,.int .i64 nn,.int .i64 fl,.slice ap al ac,.slice tp tl tc] (.slice pa na ca) A w→(w.cell? ⟨W.heap.size,2,none⟩=some (.int .i64 ty)∧w.cell? ⟨W.heap.size,4,none⟩=some (.int .i64 fl)):=fun w h=>⟨h.1.1.get 2 _ rfl,h.1.1.get 4 _ rfl⟩
  obtain ⟨y0_,y1_⟩:=HSS wx HS.out
  have kh:FS W [.int .i64 33,.int .i64 rg,.int .i64 ty,.int .i64 nn,.int .i64 fl,.slice ap al ac,.slice tp tl tc] (.slice pa na ca) A wx:=HS.out
  have cA:∀ w,((w.cell? ⟨W.heap.size,2,none⟩=some (.int .i64 ty)∧w.cell? ⟨W.heap.size,4,none⟩=some (.int .i64 fl))∧FS W [.int .i64 33,.int .i64 rg,.int .i64 ty,.int .i64 nn,.int .i64 fl,.slice ap al ac,.slice tp tl tc] (.slice pa na ca) A w)→Calls Tryz.prog 135 #[.int .i64 fl] w fun e w' => e=.returned (.string F)∧w'.cell? ⟨W.heap.size,2,none⟩=some (.int .i64 ty)∧w'.cell? ⟨W.heap.size,4,none⟩=some (.int .i64 fl)∧FS W [.int .i64 33,.int .i64 rg,.int .i64 ty,.int .i64 nn,.int .i64 fl,.slice ap al ac,.slice tp tl tc] (.slice pa na ca) A w':=by
    rintro w ⟨k,kh⟩
    refine ((fun w (kh:FS W [.int .i64 33,.int .i64 rg,.int .i64 ty,.int .i64 nn,.int .i64 fl,.slice ap al ac,.slice tp tl tc] (.slice pa na ca) A w)=>HL.out.2.2 w) w kh).mono ?_
    rintro e w' ⟨he,hb⟩
    have h2:=kh.later hb
    obtain ⟨s0,s1⟩:=HSS w' h2
    exact ⟨he,s0,s1,h2⟩
  have cC:∀ w,((w.cell? ⟨W.heap.size,2,none⟩=some (.int .i64 ty)∧w.cell? ⟨W.heap.size,4,none⟩=some (.int .i64 fl))∧FS W [.int .i64 33,.int .i64 rg,.int .i64 ty,.int .i64 nn,.int .i64 fl,.slice ap al ac,.slice tp tl tc] (.slice pa na ca) A w)→Calls Tryz.prog 11 #[.int .i64 ty] w fun e w' => e=.returned (.string (T ty))∧w'.cell? ⟨W.heap.size,2,none⟩=some (.int .i64 ty)∧w'.cell? ⟨W.heap.size,4,none⟩=some (.int .i64 fl)∧FS W [.int .i64 33,.int .i64 rg,.int .i64 ty,.int .i64 nn,.int .i64 fl,.slice ap al ac,.slice tp tl tc] (.slice pa na ca) A w':=by
    rintro w ⟨k,kh⟩
    refine ((fun w (kh:FS W [.int .i64 33,.int .i64 rg,.int .i64 ty,.int .i64 nn,.int .i64 fl,.slice ap al ac,.slice tp tl tc] (.slice pa na ca) A w)=>HL.out.1 ty w kh.1.2) w kh).mono ?_
    rintro e w' ⟨he,hb⟩
    have h2:=kh.later hb
    obtain ⟨s0,s1⟩:=HSS w' h2
    exact ⟨he,s0,s1,h2⟩
  have cB:∀ w,((w.cell? ⟨W.heap.size,2,none⟩=some (.int .i64 ty)∧w.cell? ⟨W.heap.size,4,none⟩=some (.int .i64 fl))∧FS W [.int .i64 33,.int .i64 rg,.int .i64 ty,.int .i64 nn,.int .i64 fl,.slice ap al ac,.slice tp tl tc] (.slice pa na ca) A w)→Calls Tryz.prog 43 #[.slice pa na ca] w fun e w' => e=.returned (.string L)∧w'.cell? ⟨W.heap.size,2,none⟩=some (.int .i64 ty)∧w'.cell? ⟨W.heap.size,4,none⟩=some (.int .i64 fl)∧FS W [.int .i64 33,.int .i64 rg,.int .i64 ty,.int .i64 nn,.int .i64 fl,.slice ap al ac,.slice tp tl tc] (.slice pa na ca) A w':=by
    rintro w ⟨k,kh⟩
    refine ((fun w (kh:FS W [.int .i64 33,.int .i64 rg,.int .i64 ty,.int .i64 nn,.int .i64 fl,.slice ap al ac,.slice tp tl tc] (.slice pa na ca) A w)=>HL.out.2.1 _ w kh.2.sl) w kh).mono ?_
    rintro e w' ⟨he,hb⟩
    have h2:=kh.later hb
    obtain ⟨s0,s1⟩:=HSS w' h2
    exact ⟨he,s0,s1,h2⟩
  clear HSS
  go_region_held3 (fun w' => w'.cell? ⟨W.heap.size,2,none⟩=some (.int .i64 ty)∧w'.cell? ⟨W.heap.size,4,none⟩=some (.int .i64 fl))
    (((try dsimp only);(repeat' apply And.intro) <;> (first | (with_reducible assumption) | (rw [World.cell?_drew];with_reducible assumption) | (refine (cell_alloc_lt ?_).trans ?_ <;> with_reducible assumption) | (simp <;> omega))))
    (first
      | ((with_reducible refine' (cA _ ?pre).mono ?_)
         case pre=>(refine ⟨⟨?_,?_⟩,?_⟩ <;> (first | (with_reducible assumption) | (rw [World.cell?_drew];with_reducible assumption) | (with_reducible apply FS.drew;with_reducible assumption) | (simp <;> omega) | omega))
         rintro e wscA ⟨rfl,cA_0,cA_1,sahcA⟩)
      | ((with_reducible refine' (cC _ ?pre).mono ?_)
         case pre=>(refine ⟨⟨?_,?_⟩,?_⟩ <;> (first | (with_reducible assumption) | (rw [World.cell?_drew];with_reducible assumption) | (with_reducible apply FS.drew;with_reducible assumption) | (simp <;> omega) | omega))
         rintro e wscC ⟨rfl,cC_0,cC_1,sahcC⟩
         have hlt_cC:=sahcC.1.1.1)
      | ((with_reducible refine' (cB _ ?pre).mono ?_)
         case pre=>(refine ⟨⟨?_,?_⟩,?_⟩ <;> (first | (with_reducible assumption) | (rw [World.cell?_drew];with_reducible assumption) | (with_reducible apply FS.drew;with_reducible assumption) | (simp <;> omega) | omega))
         rintro e wscB ⟨rfl,cB_0,cB_1,sahcB⟩
         have hlt_cB:=sahcB.1.1.1))
  all_goals
    have HX:=Lib.hid sahcB.1
    go_wp2_with fail
    go_ret
    exact ⟨_,rfl,OS.lit _ HX.out.2.size [F,T ty,L] _ rfl 3 rfl (by decide),HX.out.2.alloc HX.out.2.size _⟩
set_option maxRecDepth 100000 in
set_option maxHeartbeats 8000000 in
theorem fm_o (b:Nat) (op rg ty nn fl:Int) (ap tp:Option Addr) (al tl ac tc:Nat) (A B:List ByteArray) (W:World) (cA:∀ w,Below W.heap.size W w→Calls Tryz.prog 131 #[.slice ap al ac,.func (.func 132) #[.pointer (some ⟨b,0,none⟩)] #[]] w (OwnS A w))
    (cB:∀ w,Below W.heap.size W w→Calls Tryz.prog 44 #[.slice tp tl tc,.func (.func 45) #[] #[]] w (OwnS B w))
    (hno:op≠20∧op≠21∧op≠22∧op≠25∧op≠26∧op≠29∧op≠31∧op≠32∧op≠34∧op≠30∧op≠33)
    (T:Int→ByteArray) (cT:∀ t w,Below W.heap.size W w→Calls Tryz.prog 11 #[.int .i64 t] w (StrV (T t) w))
    (L:ByteArray) (cL:∀ v w,SL w v A→Calls Tryz.prog 43 #[v] w (StrV L w))
    (F:ByteArray) (cF:∀ w,Calls Tryz.prog 135 #[.int .i64 fl] w (StrV F w)) :
    Calls Tryz.prog 87 #[.pointer (some ⟨b,0,none⟩),.agg #[.int .i64 op,.int .i64 rg,.int .i64 ty,.int .i64 nn,.int .i64 fl,.slice ap al ac,.slice tp tl tc]] W (OwnS ([F,T ty,L]) W):=by
  have HS0:Hid (OneS W [.int .i64 op,.int .i64 rg,.int .i64 ty,.int .i64 nn,.int .i64 fl,.slice ap al ac,.slice tp tl tc] (W.alloc (.cells #[.int .i64 op,.int .i64 rg,.int .i64 ty,.int .i64 nn,.int .i64 fl,.slice ap al ac,.slice tp tl tc] 43))):=Lib.hid ⟨Box.new W rfl _ _,(Below.refl _ _).alloc (Nat.le_refl _) _⟩
  have HAB:=Lib.hid (And.intro cA cB)
  clear cA cB
  have HL:=Lib.hid (And.intro cT (And.intro cL cF))
  clear cT cL cF
  obtain ⟨n20,n21,n22,n25,n26,n29,n31,n32,n34,n30,n33⟩:=hno
  have d20:(op==(20:Int))=false:=by simp;omega
  have d21:(op==(21:Int))=false:=by simp;omega
  have d22:(op==(22:Int))=false:=by simp;omega
  have d25:(op==(25:Int))=false:=by simp;omega
  have d26:(op==(26:Int))=false:=by simp;omega
  have d29:(op==(29:Int))=false:=by simp;omega
  have d31:(op==(31:Int))=false:=by simp;omega
  have d32:(op==(32:Int))=false:=by simp;omega
  have d34:(op==(34:Int))=false:=by simp;omega
  have d30:(op==(30:Int))=false:=by simp;omega
  have d33:(op==(33:Int))=false:=by simp;omega
  clear n20 n21 n22 n25 n26 n29 n31 n32 n34 n30 n33
  go_enter Tryz.func87,Tryz.ntmps87
  go_upto_region 1 with fail
  obtain ⟨w1,ew1⟩:∃ w1,(W.alloc (.cells #[.int .i64 op,.int .i64 rg,.int .i64 ty,.int .i64 nn,.int .i64 fl,.slice ap al ac,.slice tp tl tc] 43))=w1:=⟨_,rfl⟩
  rw [ew1] at HS0 ⊢
  clear ew1
  go_cut [5,6] (fun ta tb wx=>OS wx W.heap.size ta A∧OS wx W.heap.size tb B∧OneS W [.int .i64 op,.int .i64 rg,.int .i64 ty,.int .i64 nn,.int .i64 fl,.slice ap al ac,.slice tp tl tc] wx)
  case first =>
    have HSS:∀ w,OneS W [.int .i64 op,.int .i64 rg,.int .i64 ty,.int .i64 nn,.int .i64 fl,.slice ap al ac,.slice tp tl tc] w→(w.cell? ⟨W.heap.size,5,none⟩=some (.slice ap al ac)∧w.cell? ⟨W.heap.size,6,none⟩=some (.slice tp tl tc)):=fun w h=>⟨h.1.get 5 _ rfl,h.1.get 6 _ rfl⟩
    obtain ⟨y0_,y1_⟩:=HSS w1 HS0.out
    have kh:OneS W [.int .i64 op,.int .i64 rg,.int .i64 ty,.int .i64 nn,.int .i64 fl,.slice ap al ac,.slice tp tl tc] w1:=HS0.out
    have cO1:∀ w,((w.cell? ⟨W.heap.size,5,none⟩=some (.slice ap al ac)∧w.cell? ⟨W.heap.size,6,none⟩=some (.slice tp tl tc))∧OneS W [.int .i64 op,.int .i64 rg,.int .i64 ty,.int .i64 nn,.int .i64 fl,.slice ap al ac,.slice tp tl tc] w)→Calls Tryz.prog 131 #[.slice ap al ac,.func (.func 132) #[.pointer (some ⟨b,0,none⟩)] #[]] w fun e w' => ∃ v,e=.returned v∧w'.cell? ⟨W.heap.size,5,none⟩=some (.slice ap al ac)∧w'.cell? ⟨W.heap.size,6,none⟩=some (.slice tp tl tc)∧OneS W [.int .i64 op,.int .i64 rg,.int .i64 ty,.int .i64 nn,.int .i64 fl,.slice ap al ac,.slice tp tl tc] w'∧OS w' W.heap.size v A:=by
      rintro w ⟨k,kh⟩
      refine (HAB.out.1 w kh.2).mono ?_
      rintro e w' ⟨v,he,hO,hb⟩
      have h2:=kh.later hb
      obtain ⟨s0,s1⟩:=HSS w' h2
      exact ⟨v,he,s0,s1,h2,hO.mono kh.2.size⟩
    have cO2:∀ w,((w.cell? ⟨W.heap.size,5,none⟩=some (.slice ap al ac)∧w.cell? ⟨W.heap.size,6,none⟩=some (.slice tp tl tc))∧OneS W [.int .i64 op,.int .i64 rg,.int .i64 ty,.int .i64 nn,.int .i64 fl,.slice ap al ac,.slice tp tl tc] w)→Calls Tryz.prog 44 #[.slice tp tl tc,.func (.func 45) #[] #[]] w fun e w' => ∃ v,e=.returned v∧w'.cell? ⟨W.heap.size,5,none⟩=some (.slice ap al ac)∧w'.cell? ⟨W.heap.size,6,none⟩=some (.slice tp tl tc)∧OneS W [.int .i64 op,.int .i64 rg,.int .i64 ty,.int .i64 nn,.int .i64 fl,.slice ap al ac,.slice tp tl tc] w'∧OS w' W.heap.size v B∧Below w.heap.size w w':=by
      rintro w ⟨k,kh⟩
      refine (HAB.out.2 w kh.2).mono ?_
      rintro e w' ⟨v,he,hO,hb⟩
      have h2:=kh.later hb
      obtain ⟨s0,s1⟩:=HSS w' h2
      exact ⟨v,he,s0,s1,h2,hO.mono kh.2.size,hb⟩
    clear HSS
    go_region_held3 (fun w' => w'.cell? ⟨W.heap.size,5,none⟩=some (.slice ap al ac)∧w'.cell? ⟨W.heap.size,6,none⟩=some (.slice tp tl tc))
      (((try dsimp only);(repeat' apply And.intro) <;> (first | (with_reducible assumption) | (rw [World.cell?_drew];with_reducible assumption) | (refine (cell_alloc_lt ?_).trans ?_ <;> with_reducible assumption) | (simp <;> omega))))
      (first
        | ((with_reducible refine' (cO1 _ ?pre).mono ?_)
           case pre=>(refine ⟨⟨?_,?_⟩,?_⟩ <;> (first | (with_reducible assumption) | (rw [World.cell?_drew];with_reducible assumption) | (with_reducible apply OneS.drew;with_reducible assumption) | (simp <;> omega) | omega))
           rintro e wsA ⟨vA,rfl,a0_,a1_,sahA,hOA⟩)
        | ((with_reducible refine' (cO2 _ ?pre).mono ?_)
           case pre=>(refine ⟨⟨?_,?_⟩,?_⟩ <;> (first | (with_reducible assumption) | (rw [World.cell?_drew];with_reducible assumption) | (with_reducible apply OneS.drew;with_reducible assumption) | (simp <;> omega) | omega))
           rintro e wsB ⟨vB,rfl,b0_,b1_,sahB,hOB,hBB⟩))
    all_goals
      have HFIN:=Lib.hid (And.intro (OS.later hOA hBB) (And.intro hOB sahB))
      clear hOA hOB sahA sahB hBB a0_ a1_ b0_ b1_
      go_wp2_with fail
      go_meet
      exact ⟨HFIN.out.1,HFIN.out.2.1,HFIN.out.2.2⟩
  case rest =>
  obtain ⟨hOA,hOB,hS⟩:=hcut
  have HS:=Lib.hid (And.intro hOA (And.intro hOB hS))
  generalize wc=wx at *
  clear hOA hOB hS HS0 HAB
  have z0:=HS.out.2.2.1.get 0 _ rfl
  obtain ⟨pa,ca,eva⟩:=HS.out.1.sl.slice
  subst eva
  obtain ⟨na,ea⟩:∃ n,A.length=n:=⟨_,rfl⟩
  rw [ea] at HS ⊢
  clear ea
  replace HS:Hid (FS W [.int .i64 op,.int .i64 rg,.int .i64 ty,.int .i64 nn,.int .i64 fl,.slice ap al ac,.slice tp tl tc] (.slice pa na ca) A wx):=Lib.hid ⟨HS.out.2.2,HS.out.1⟩
  go_upto_region 25 with fail
  clear z0
  have HSS:∀ w,FS W [.int .i64 op,.int .i64 rg,.int .i64 ty,.int .i64 nn,.int .i64 fl,.slice ap al ac,.slice tp tl tc] (.slice pa na ca) A w→(w.cell? ⟨W.heap.size,2,none⟩=some (.int .i64 ty)∧w.cell? ⟨W.heap.size,4,none⟩=some (.int .i64 fl)):=fun w h=>⟨h.1.1.get 2 _ rfl,h.1.1.get 4 _ rfl⟩
  obtain ⟨y0_,y1_⟩:=HSS wx HS.out
  have kh:FS W [.int .i64 op,.int .i64 rg,.int .i64 ty,.int .i64 nn,.int .i64 fl,.slice ap al ac,.slice tp tl tc] (.slice pa na ca) A wx:=HS.out
  have cA:∀ w,((w.cell? ⟨W.heap.size,2,none⟩=some (.int .i64 ty)∧w.cell? ⟨W.heap.size,4,none⟩=some (.int .i64 fl))∧FS W [.int .i64 op,.int .i64 rg,.int .i64 ty,.int .i64 nn,.int .i64 fl,.slice ap al ac,.slice tp tl tc] (.slice pa na ca) A w)→Calls Tryz.prog 135 #[.int .i64 fl] w fun e w' => e=.returned (.string F)∧w'.cell? ⟨W.heap.size,2,none⟩=some (.int .i64 ty)∧w'.cell? ⟨W.heap.size,4,none⟩=some (.int .i64 fl)∧FS W [.int .i64 op,.int .i64 rg,.int .i64 ty,.int .i64 nn,.int .i64 fl,.slice ap al ac,.slice tp tl tc] (.slice pa na ca) A w':=by
    rintro w ⟨k,kh⟩
    refine ((fun w (kh:FS W [.int .i64 op,.int .i64 rg,.int .i64 ty,.int .i64 nn,.int .i64 fl,.slice ap al ac,.slice tp tl tc] (.slice pa na ca) A w)=>HL.out.2.2 w) w kh).mono ?_
    rintro e w' ⟨he,hb⟩
    have h2:=kh.later hb
    obtain ⟨s0,s1⟩:=HSS w' h2
    exact ⟨he,s0,s1,h2⟩
  have cC:∀ w,((w.cell? ⟨W.heap.size,2,none⟩=some (.int .i64 ty)∧w.cell? ⟨W.heap.size,4,none⟩=some (.int .i64 fl))∧FS W [.int .i64 op,.int .i64 rg,.int .i64 ty,.int .i64 nn,.int .i64 fl,.slice ap al ac,.slice tp tl tc] (.slice pa na ca) A w)→Calls Tryz.prog 11 #[.int .i64 ty] w fun e w' => e=.returned (.string (T ty))∧w'.cell? ⟨W.heap.size,2,none⟩=some (.int .i64 ty)∧w'.cell? ⟨W.heap.size,4,none⟩=some (.int .i64 fl)∧FS W [.int .i64 op,.int .i64 rg,.int .i64 ty,.int .i64 nn,.int .i64 fl,.slice ap al ac,.slice tp tl tc] (.slice pa na ca) A w':=by
    rintro w ⟨k,kh⟩
    refine ((fun w (kh:FS W [.int .i64 op,.int .i64 rg,.int .i64 ty,.int .i64 nn,.int .i64 fl,.slice ap al ac,.slice tp tl tc] (.slice pa na ca) A w)=>HL.out.1 ty w kh.1.2) w kh).mono ?_
    rintro e w' ⟨he,hb⟩
    have h2:=kh.later hb
    obtain ⟨s0,s1⟩:=HSS w' h2
    exact ⟨he,s0,s1,h2⟩
  have cB:∀ w,((w.cell? ⟨W.heap.size,2,none⟩=some (.int .i64 ty)∧w.cell? ⟨W.heap.size,4,none⟩=some (.int .i64 fl))∧FS W [.int .i64 op,.int .i64 rg,.int .i64 ty,.int .i64 nn,.int .i64 fl,.slice ap al ac,.slice tp tl tc] (.slice pa na ca) A w)→Calls Tryz.prog 43 #[.slice pa na ca] w fun e w' => e=.returned (.string L)∧w'.cell? ⟨W.heap.size,2,none⟩=some (.int .i64 ty)∧w'.cell? ⟨W.heap.size,4,none⟩=some (.int .i64 fl)∧FS W [.int .i64 op,.int .i64 rg,.int .i64 ty,.int .i64 nn,.int .i64 fl,.slice ap al ac,.slice tp tl tc] (.slice pa na ca) A w':=by
    rintro w ⟨k,kh⟩
    refine ((fun w (kh:FS W [.int .i64 op,.int .i64 rg,.int .i64 ty,.int .i64 nn,.int .i64 fl,.slice ap al ac,.slice tp tl tc] (.slice pa na ca) A w)=>HL.out.2.1 _ w kh.2.sl) w kh).mono ?_
    rintro e w' ⟨he,hb⟩
    have h2:=kh.later hb
    obtain ⟨s0,s1⟩:=HSS w' h2
    exact ⟨he,s0,s1,h2⟩
  clear HSS
  go_region_held3 (fun w' => w'.cell? ⟨W.heap.size,2,none⟩=some (.int .i64 ty)∧w'.cell? ⟨W.heap.size,4,none⟩=some (.int .i64 fl))
    (((try dsimp only);(repeat' apply And.intro) <;> (first | (with_reducible assumption) | (rw [World.cell?_drew];with_reducible assumption) | (refine (cell_alloc_lt ?_).trans ?_ <;> with_reducible assumption) | (simp <;> omega))))
    (first
      | ((with_reducible refine' (cA _ ?pre).mono ?_)
         case pre=>(refine ⟨⟨?_,?_⟩,?_⟩ <;> (first | (with_reducible assumption) | (rw [World.cell?_drew];with_reducible assumption) | (with_reducible apply FS.drew;with_reducible assumption) | (simp <;> omega) | omega))
         rintro e wscA ⟨rfl,cA_0,cA_1,sahcA⟩)
      | ((with_reducible refine' (cC _ ?pre).mono ?_)
         case pre=>(refine ⟨⟨?_,?_⟩,?_⟩ <;> (first | (with_reducible assumption) | (rw [World.cell?_drew];with_reducible assumption) | (with_reducible apply FS.drew;with_reducible assumption) | (simp <;> omega) | omega))
         rintro e wscC ⟨rfl,cC_0,cC_1,sahcC⟩
         have hlt_cC:=sahcC.1.1.1)
      | ((with_reducible refine' (cB _ ?pre).mono ?_)
         case pre=>(refine ⟨⟨?_,?_⟩,?_⟩ <;> (first | (with_reducible assumption) | (rw [World.cell?_drew];with_reducible assumption) | (with_reducible apply FS.drew;with_reducible assumption) | (simp <;> omega) | omega))
         rintro e wscB ⟨rfl,cB_0,cB_1,sahcB⟩
         have hlt_cB:=sahcB.1.1.1))
  all_goals
    have HX:=Lib.hid sahcB.1
    go_wp2_with fail
    go_ret
    exact ⟨_,rfl,OS.lit _ HX.out.2.size [F,T ty,L] _ rfl 3 rfl (by decide),HX.out.2.alloc HX.out.2.size _⟩
def altL (P A:List ByteArray) (i:Nat):List ByteArray:=P.take i++A.drop i
theorem altL_zero (P A:List ByteArray):altL P A 0=A:=by simp [altL]
theorem altL_all {P A:List ByteArray} {n:Nat} (h1:P.length=n) (h2:A.length=n):altL P A n=P:=by
  unfold altL
  rw [List.take_of_length_le (by omega),List.drop_of_length_le (by omega),List.append_nil]
theorem altL_len {P A:List ByteArray} {n i:Nat} (h1:P.length=n) (h2:A.length=n) (hi:i≤n):(altL P A i).length=n:=by
  unfold altL
  simp
  omega
theorem altL_get {P A:List ByteArray} {n i:Nat} (h1:P.length=n) (h2:A.length=n) (hi:i<n):(altL P A i)[i]? = A[i]?:=by
  unfold altL
  rw [List.getElem?_append_right (by simp;omega),List.length_take,Nat.min_eq_left (by omega),List.getElem?_drop]
  congr 1
  omega
theorem altL_set {P A:List ByteArray} {n i:Nat} (h1:P.length=n) (h2:A.length=n) (hi:i<n) (s:ByteArray) (hs:P[i]? = some s):(altL P A i).set i s=altL P A (i+1):=by
  unfold altL
  rw [List.set_append_right _ _ (by simp;omega),List.length_take,Nat.min_eq_left (by omega),Nat.sub_self,List.drop_eq_getElem_cons (by omega),List.set_cons_zero]
  have e:P[i]'(by omega)=s:=by
    rw [List.getElem?_eq_getElem (by omega)] at hs
    injection hs
  rw [List.take_succ_eq_append_getElem (by omega),e,List.append_assoc]
  rfl
theorem OS.set {W:World} {B g n c:Nat} {xs:List ByteArray} (h:OS W B (.slice (some ⟨g,0,none⟩) n c) xs) {i:Nat} (hi:i<xs.length) (s:ByteArray):OS (W.setCell ⟨g,i,none⟩ (.string s)) B (.slice (some ⟨g,0,none⟩) n c) (xs.set i s):=by
  obtain ⟨h1,h2⟩:=h
  rcases h2 with ⟨hv,_⟩ | ⟨g',cap,cur,hv,hb,hg,hn,hm,hs,ht⟩
  · cases hv
  · injection hv with e1 e2 e3
    injection e1 with e1
    injection e1 with e1 _ _
    subst e1 e2 e3
    refine ⟨by simp,.inr ⟨g,c,cur.setIfInBounds i (.string s),by simp,hb,?_,by simpa using hn,hm,by simpa using hs,?_⟩⟩
    · rw [Lib.heap_setCell_same (i:=i) hg]
    · rw [List.length_set,Array.toList_setIfInBounds,List.take_set,ht,List.map_set]
theorem OS.other {W:World} {B g:Nat} {v:Value} {xs:List ByteArray} (h:OS W B v xs) (hne:v.ownBlock≠some g) (i:Nat) (u:Value):OS (W.setCell ⟨g,i,none⟩ u) B v xs :=
  World.ownsRow.kept (row:=some g) h ⟨rfl,rfl,rfl,by simp [World.setCell],fun k _ hk=>Below.heap_setCell _ _ _ _ (fun e=>hk (by simp [e]))⟩ (Or.inr hne)
theorem OS.frozen {W:World} {B g n c:Nat} {xs:List ByteArray} (h:OS W B (.slice (some ⟨g,0,none⟩) n c) xs) (i:Nat):W.frozen? ⟨g,i,none⟩=false:=by
  rcases h.2 with ⟨hv,_⟩ | ⟨g',cap,cur,hv,hb,hg,_⟩
  · cases hv
  · injection hv with e1 _ _
    injection e1 with e1
    injection e1 with e1 _ _
    subst e1
    exact Lib.frozen_of_heap hg _
theorem OS.cell {W:World} {B g n c:Nat} {xs:List ByteArray} (h:OS W B (.slice (some ⟨g,0,none⟩) n c) xs) (i:Nat) (s:ByteArray) (hs:xs[i]? = some s):W.cell? ⟨g,i,none⟩=some (.string s):=by
  have:=h.cells (g:=g) rfl i (.string s) (by rw [List.getElem?_map,hs];rfl)
  rw [Lib.add_plain,Nat.zero_add] at this
  exact this
theorem OS.some {W:World} {B:Nat} {v:Value} {xs:List ByteArray} (h:OS W B v xs) (hx:0<xs.length):∃ g c,v=.slice (some ⟨g,0,none⟩) xs.length c∧B≤g∧g<W.heap.size∧xs.length≤c∧c≤9223372036854775807:=by
  rcases h.2 with ⟨rfl,h1⟩ | ⟨g,cap,cur,rfl,hb,hg,hn,hm,_⟩
  · omega
  · unfold maxLen at hm
    exact ⟨g,cap,rfl,hb,heap_lt hg,hn,by omega⟩
set_option maxRecDepth 100000 in
set_option maxHeartbeats 8000000 in
theorem fm_25 (b:Nat) (rg ty nn fl:Int) (ap tp:Option Addr) (al tl ac tc:Nat) (A B:List ByteArray) (W:World) (cA:∀ w,Below W.heap.size W w→Calls Tryz.prog 131 #[.slice ap al ac,.func (.func 132) #[.pointer (some ⟨b,0,none⟩)] #[]] w (OwnS A w))
    (cB:∀ w,Below W.heap.size W w→Calls Tryz.prog 44 #[.slice tp tl tc,.func (.func 45) #[] #[]] w (OwnS B w))
    (P:List ByteArray) (n:Nat) (hA:A.length=n) (hB:B.length=n) (hP:P.length=n) (hn:n≤1048576)
    (cY:∀ (i:Nat) (x y:ByteArray),B[i]? = some x→A[i]? = some y→∃ s,P[i]? = some s∧∀ w v,SL w v [x,y]→Calls Tryz.prog 40 #[v] w (StrV s w))
    (T:Int→ByteArray) (cT:∀ t w,Below W.heap.size W w→Calls Tryz.prog 11 #[.int .i64 t] w (StrV (T t) w))
    (L:ByteArray) (cL:∀ v w,SL w v P→Calls Tryz.prog 43 #[v] w (StrV L w))
    (F:ByteArray) (cF:∀ w,Calls Tryz.prog 135 #[.int .i64 fl] w (StrV F w)) :
    Calls Tryz.prog 87 #[.pointer (some ⟨b,0,none⟩),.agg #[.int .i64 25,.int .i64 rg,.int .i64 ty,.int .i64 nn,.int .i64 fl,.slice ap al ac,.slice tp tl tc]] W (OwnS ([F,T ty,L]) W):=by
  have HS0:Hid (OneS W [.int .i64 25,.int .i64 rg,.int .i64 ty,.int .i64 nn,.int .i64 fl,.slice ap al ac,.slice tp tl tc] (W.alloc (.cells #[.int .i64 25,.int .i64 rg,.int .i64 ty,.int .i64 nn,.int .i64 fl,.slice ap al ac,.slice tp tl tc] 43))):=Lib.hid ⟨Box.new W rfl _ _,(Below.refl _ _).alloc (Nat.le_refl _) _⟩
  have HAB:=Lib.hid (And.intro cA cB)
  clear cA cB
  have HL:=Lib.hid (And.intro cT (And.intro cL (And.intro cF cY)))
  have HN:=Lib.hid (And.intro hA (And.intro hB hP))
  clear cT cL cF cY hA hB hP
  go_enter Tryz.func87,Tryz.ntmps87
  go_upto_region 1 with fail
  obtain ⟨w1,ew1⟩:∃ w1,(W.alloc (.cells #[.int .i64 25,.int .i64 rg,.int .i64 ty,.int .i64 nn,.int .i64 fl,.slice ap al ac,.slice tp tl tc] 43))=w1:=⟨_,rfl⟩
  rw [ew1] at HS0 ⊢
  clear ew1
  go_cut [5,6] (fun ta tb wx=>OS wx (W.heap.size+1) ta A∧OS wx W.heap.size tb B∧(∀ k,ta.ownBlock=some k→tb.ownBlock≠some k)∧OneS W [.int .i64 25,.int .i64 rg,.int .i64 ty,.int .i64 nn,.int .i64 fl,.slice ap al ac,.slice tp tl tc] wx)
  case first =>
    have HSS:∀ w,OneS W [.int .i64 25,.int .i64 rg,.int .i64 ty,.int .i64 nn,.int .i64 fl,.slice ap al ac,.slice tp tl tc] w→(w.cell? ⟨W.heap.size,5,none⟩=some (.slice ap al ac)∧w.cell? ⟨W.heap.size,6,none⟩=some (.slice tp tl tc)):=fun w h=>⟨h.1.get 5 _ rfl,h.1.get 6 _ rfl⟩
    obtain ⟨y0_,y1_⟩:=HSS w1 HS0.out
    have kh:OneS W [.int .i64 25,.int .i64 rg,.int .i64 ty,.int .i64 nn,.int .i64 fl,.slice ap al ac,.slice tp tl tc] w1:=HS0.out
    have cO1:∀ w,((w.cell? ⟨W.heap.size,5,none⟩=some (.slice ap al ac)∧w.cell? ⟨W.heap.size,6,none⟩=some (.slice tp tl tc))∧OneS W [.int .i64 25,.int .i64 rg,.int .i64 ty,.int .i64 nn,.int .i64 fl,.slice ap al ac,.slice tp tl tc] w)→Calls Tryz.prog 131 #[.slice ap al ac,.func (.func 132) #[.pointer (some ⟨b,0,none⟩)] #[]] w fun e w' => ∃ v,e=.returned v∧w'.cell? ⟨W.heap.size,5,none⟩=some (.slice ap al ac)∧w'.cell? ⟨W.heap.size,6,none⟩=some (.slice tp tl tc)∧OneS W [.int .i64 25,.int .i64 rg,.int .i64 ty,.int .i64 nn,.int .i64 fl,.slice ap al ac,.slice tp tl tc] w'∧OS w' (W.heap.size+1) v A:=by
      rintro w ⟨k,kh⟩
      refine (HAB.out.1 w kh.2).mono ?_
      rintro e w' ⟨v,he,hO,hb⟩
      have h2:=kh.later hb
      obtain ⟨s0,s1⟩:=HSS w' h2
      exact ⟨v,he,s0,s1,h2,hO.mono kh.1.1⟩
    have cO2:∀ w,((w.cell? ⟨W.heap.size,5,none⟩=some (.slice ap al ac)∧w.cell? ⟨W.heap.size,6,none⟩=some (.slice tp tl tc))∧OneS W [.int .i64 25,.int .i64 rg,.int .i64 ty,.int .i64 nn,.int .i64 fl,.slice ap al ac,.slice tp tl tc] w)→Calls Tryz.prog 44 #[.slice tp tl tc,.func (.func 45) #[] #[]] w fun e w' => ∃ v,e=.returned v∧w'.cell? ⟨W.heap.size,5,none⟩=some (.slice ap al ac)∧w'.cell? ⟨W.heap.size,6,none⟩=some (.slice tp tl tc)∧OneS W [.int .i64 25,.int .i64 rg,.int .i64 ty,.int .i64 nn,.int .i64 fl,.slice ap al ac,.slice tp tl tc] w'∧OS w' W.heap.size v B∧Below w.heap.size w w'∧(∀ k,v.ownBlock=some k→w.heap.size≤k):=by
      rintro w ⟨k,kh⟩
      refine (HAB.out.2 w kh.2).mono ?_
      rintro e w' ⟨v,he,hO,hb⟩
      have h2:=kh.later hb
      obtain ⟨s0,s1⟩:=HSS w' h2
      exact ⟨v,he,s0,s1,h2,hO.mono kh.2.size,hb,fun k hk=>(hO.lt k hk).1⟩
    clear HSS
    go_region_held3 (fun w' => w'.cell? ⟨W.heap.size,5,none⟩=some (.slice ap al ac)∧w'.cell? ⟨W.heap.size,6,none⟩=some (.slice tp tl tc))
      (((try dsimp only);(repeat' apply And.intro) <;> (first | (with_reducible assumption) | (rw [World.cell?_drew];with_reducible assumption) | (refine (cell_alloc_lt ?_).trans ?_ <;> with_reducible assumption) | (simp <;> omega))))
      (first
        | ((with_reducible refine' (cO1 _ ?pre).mono ?_)
           case pre=>(refine ⟨⟨?_,?_⟩,?_⟩ <;> (first | (with_reducible assumption) | (rw [World.cell?_drew];with_reducible assumption) | (with_reducible apply OneS.drew;with_reducible assumption) | (simp <;> omega) | omega))
           rintro e wsA ⟨vA,rfl,a0_,a1_,sahA,hOA⟩)
        | ((with_reducible refine' (cO2 _ ?pre).mono ?_)
           case pre=>(refine ⟨⟨?_,?_⟩,?_⟩ <;> (first | (with_reducible assumption) | (rw [World.cell?_drew];with_reducible assumption) | (with_reducible apply OneS.drew;with_reducible assumption) | (simp <;> omega) | omega))
           rintro e wsB ⟨vB,rfl,b0_,b1_,sahB,hOB,hBB,hGE⟩))
    all_goals
      have hDJ:∀ k,vA.ownBlock=some k→vB.ownBlock≠some k:=fun k h1 h2=>by
        have e1:=(hOA.lt k h1).2
        have e2:=hGE k h2
        exact Nat.lt_irrefl _ (Nat.lt_of_lt_of_le e1 e2)
      have HFIN:=Lib.hid (And.intro (OS.later hOA hBB) (And.intro hOB (And.intro hDJ sahB)))
      clear hOA hOB sahA sahB hBB hGE hDJ a0_ a1_ b0_ b1_
      go_wp2_with fail
      go_meet
      exact ⟨HFIN.out.1,HFIN.out.2.1,HFIN.out.2.2.1,HFIN.out.2.2.2⟩
  case rest =>
  obtain ⟨hOA,hOB,hDJ,hS⟩:=hcut
  have HDJ:=Lib.hid hDJ
  clear hDJ
  have HS:=Lib.hid (And.intro hOA (And.intro hOB hS))
  generalize wc=wx at *
  clear hOA hOB hS HS0 HAB
  have z0:=HS.out.2.2.1.get 0 _ rfl
  obtain ⟨pa,ca,eva⟩:=HS.out.1.sl.slice
  obtain ⟨pb,cb,evb⟩:=HS.out.2.1.sl.slice
  subst eva evb
  rw [HN.out.1,HN.out.2.1] at HS
  rw [HN.out.1,HN.out.2.1] at HDJ
  rw [HN.out.1,HN.out.2.1]
  go_wp2_with fail
  clear z0
  go_loopw [35] (fun ti wr=>∃ i:Nat,i≤n∧ti=.int .i64 i∧Hid (OS wr (W.heap.size+1) (.slice pa n ca) (altL P A i)∧OS wr W.heap.size (.slice pb n cb) B∧OneS W [.int .i64 25,.int .i64 rg,.int .i64 ty,.int .i64 nn,.int .i64 fl,.slice ap al ac,.slice tp tl tc] wr)) (fun ti _=>n - (intOf ti).toNat)
  case atStart=>exact ⟨0,Nat.zero_le _,rfl,Lib.hid ⟨by rw [altL_zero];exact HS.out.1,HS.out.2.1,HS.out.2.2⟩⟩
  case round =>
    obtain ⟨i,hi,rfl,hS⟩:=hrel
    generalize wr=wo at *
    have HO:=Lib.hid hS.out
    clear hS HS
    by_cases hlt:i<n
    · have hal:(altL P A i).length=n:=altL_len HN.out.2.2 HN.out.1 hi
      obtain ⟨ga,ca',eva,hga,hgal,hca1,hca2⟩:=HO.out.1.some (by omega)
      obtain ⟨gb,cb',evb,hgb,hgbl,hcb1,hcb2⟩:=HO.out.2.1.some (by have:=HN.out.2.1;omega)
      rw [hal] at eva hca1
      rw [HN.out.2.1] at evb hcb1
      injection eva with eva _ ec
      injection evb with evb _ ed
      subst eva evb ec ed
      have hne:ga≠gb:=fun e=>HDJ.out ga rfl (by rw [e];rfl)
      obtain ⟨x,hx⟩:∃ x,B[i]? = some x:=⟨_,List.getElem?_eq_getElem (by have:=HN.out.2.1;omega)⟩
      obtain ⟨y,hy⟩:∃ y,A[i]? = some y:=⟨_,List.getElem?_eq_getElem (by have:=HN.out.1;omega)⟩
      obtain ⟨s,hs,cY⟩:=HL.out.2.2.2 i x y hx hy
      have c0:=HO.out.2.1.cell i x hx
      have c1:=HO.out.1.cell i y (by rw [altL_get HN.out.2.2 HN.out.1 hlt];exact hy)
      have hset:=altL_set HN.out.2.2 HN.out.1 hlt s hs
      have hget:=altL_get HN.out.2.2 HN.out.1 hlt
      rw [hy] at hget
      have hlit:SL (wo.alloc (.cells #[.string x,.string y] 9)) (.slice (some ⟨wo.heap.size,0,none⟩) 2 2) [x,y]:=(OS.lit wo (Nat.le_refl _) [x,y] _ rfl 2 rfl (by decide)).sl
      have hlitd:SL (wo.alloc (.cells #[.string x,.string y] 9)).drew (.slice (some ⟨wo.heap.size,0,none⟩) 2 2) [x,y]:=hlit
      have hlitd2:SL (wo.drew.alloc (.cells #[.string x,.string y] 9)) (.slice (some ⟨wo.heap.size,0,none⟩) 2 2) [x,y]:=hlit
      have hab0:Below wo.heap.size wo (wo.alloc (.cells #[.string x,.string y] 9)):=(Below.refl _ _).alloc (Nat.le_refl _) _
      have hall:∀ w5,Below (wo.alloc (.cells #[.string x,.string y] 9)).heap.size (wo.alloc (.cells #[.string x,.string y] 9)) w5→Hid (Below wo.heap.size wo w5):=fun w5 hb=>Lib.hid (hab0.trans (hb.mono hab0.size))
      have halld:∀ w5,Below (wo.alloc (.cells #[.string x,.string y] 9)).drew.heap.size (wo.alloc (.cells #[.string x,.string y] 9)).drew w5→Hid (Below wo.heap.size wo w5):=fun w5 hb=>Lib.hid ((below_drew hab0).trans (hb.mono hab0.size))
      have hfact:∀ w5,Hid (Below wo.heap.size wo w5)→w5.cell? ⟨ga,i,none⟩=some (.string y)∧w5.frozen? ⟨ga,i,none⟩=false:=fun w5 hb=>by
        have h:=OS.later HO.out.1 hb.out
        exact ⟨h.cell i y hget,h.frozen i⟩
      have HF:=Lib.hid (And.intro hall (And.intro halld (And.intro hfact (And.intro hset hal))))
      clear hall halld hfact hset hget hab0 hs hx hy hal
      have hiI:(i:Int)<(n:Int):=by omega
      have hic:i≤9223372036854775807:=by omega
      go_upto_region 11 with fail
      go_region_law (first
        | (go_simp
           (with_reducible refine (cY _ _ ?pre).mono ?_)
           case pre=>(first | exact hlit | exact hlitd | exact hlitd2)
           rintro ee w5 ⟨rfl,hb5⟩
           have hB5:Hid (Below wo.heap.size wo w5):=by first | exact HF.out.1 _ hb5 | exact HF.out.2.1 _ hb5
           obtain ⟨q0,q1⟩:=HF.out.2.2.1 _ hB5
           clear hb5))
      all_goals
        have hO1:=(OS.later HO.out.1 hB5.out).set (by rw [HF.out.2.2.2.2];exact hlt) s
        rw [HF.out.2.2.2.1] at hO1
        have hO2:=(OS.later HO.out.2.1 hB5.out).other (g:=ga) (by intro e;injection e with e;exact hne e.symm) i (.string s)
        have hO3:OneS W [.int .i64 25,.int .i64 rg,.int .i64 ty,.int .i64 nn,.int .i64 fl,.slice ap al ac,.slice tp tl tc] (w5.setCell ⟨ga,i,none⟩ (.string s)):=⟨(HO.out.2.2.later hB5.out).1.other (by omega) _ _,(HO.out.2.2.later hB5.out).2.setCell (p:=⟨ga,i,none⟩) (by show W.heap.size≤ga;omega) _⟩
        have HN2:=Lib.hid (And.intro hO1 (And.intro hO2 hO3))
        clear hO1 hO2 hO3 q0 q1 c0 c1 hlit hlitd hlitd2 cY
        go_wp2_with fail
        exact ⟨⟨i+1,by omega,by go_num,HN2⟩,by simp [intOf];omega⟩
    · obtain rfl:n=i:=by omega
      have hAll:=altL_all HN.out.2.2 HN.out.1
      have HS:Hid (FS W [.int .i64 25,.int .i64 rg,.int .i64 ty,.int .i64 nn,.int .i64 fl,.slice ap al ac,.slice tp tl tc] (.slice pa n ca) P wo):=Lib.hid ⟨HO.out.2.2,OS.mono (by rw [← hAll];exact HO.out.1) (Nat.le_succ _)⟩
      clear hAll HO
      go_upto_region 25 with fail
      have HSS:∀ w,FS W [.int .i64 25,.int .i64 rg,.int .i64 ty,.int .i64 nn,.int .i64 fl,.slice ap al ac,.slice tp tl tc] (.slice pa n ca) P w→(w.cell? ⟨W.heap.size,2,none⟩=some (.int .i64 ty)∧w.cell? ⟨W.heap.size,4,none⟩=some (.int .i64 fl)):=fun w h=>⟨h.1.1.get 2 _ rfl,h.1.1.get 4 _ rfl⟩
      obtain ⟨y0_,y1_⟩:=HSS wo HS.out
      have kh:FS W [.int .i64 25,.int .i64 rg,.int .i64 ty,.int .i64 nn,.int .i64 fl,.slice ap al ac,.slice tp tl tc] (.slice pa n ca) P wo:=HS.out
      have cA:∀ w,((w.cell? ⟨W.heap.size,2,none⟩=some (.int .i64 ty)∧w.cell? ⟨W.heap.size,4,none⟩=some (.int .i64 fl))∧FS W [.int .i64 25,.int .i64 rg,.int .i64 ty,.int .i64 nn,.int .i64 fl,.slice ap al ac,.slice tp tl tc] (.slice pa n ca) P w)→Calls Tryz.prog 135 #[.int .i64 fl] w fun e w' => e=.returned (.string F)∧w'.cell? ⟨W.heap.size,2,none⟩=some (.int .i64 ty)∧w'.cell? ⟨W.heap.size,4,none⟩=some (.int .i64 fl)∧FS W [.int .i64 25,.int .i64 rg,.int .i64 ty,.int .i64 nn,.int .i64 fl,.slice ap al ac,.slice tp tl tc] (.slice pa n ca) P w':=by
        rintro w ⟨k,kh⟩
        refine ((fun w (kh:FS W [.int .i64 25,.int .i64 rg,.int .i64 ty,.int .i64 nn,.int .i64 fl,.slice ap al ac,.slice tp tl tc] (.slice pa n ca) P w)=>HL.out.2.2.1 w) w kh).mono ?_
        rintro e w' ⟨he,hb⟩
        have h2:=kh.later hb
        obtain ⟨s0,s1⟩:=HSS w' h2
        exact ⟨he,s0,s1,h2⟩
      have cC:∀ w,((w.cell? ⟨W.heap.size,2,none⟩=some (.int .i64 ty)∧w.cell? ⟨W.heap.size,4,none⟩=some (.int .i64 fl))∧FS W [.int .i64 25,.int .i64 rg,.int .i64 ty,.int .i64 nn,.int .i64 fl,.slice ap al ac,.slice tp tl tc] (.slice pa n ca) P w)→Calls Tryz.prog 11 #[.int .i64 ty] w fun e w' => e=.returned (.string (T ty))∧w'.cell? ⟨W.heap.size,2,none⟩=some (.int .i64 ty)∧w'.cell? ⟨W.heap.size,4,none⟩=some (.int .i64 fl)∧FS W [.int .i64 25,.int .i64 rg,.int .i64 ty,.int .i64 nn,.int .i64 fl,.slice ap al ac,.slice tp tl tc] (.slice pa n ca) P w':=by
        rintro w ⟨k,kh⟩
        refine ((fun w (kh:FS W [.int .i64 25,.int .i64 rg,.int .i64 ty,.int .i64 nn,.int .i64 fl,.slice ap al ac,.slice tp tl tc] (.slice pa n ca) P w)=>HL.out.1 ty w kh.1.2) w kh).mono ?_
        rintro e w' ⟨he,hb⟩
        have h2:=kh.later hb
        obtain ⟨s0,s1⟩:=HSS w' h2
        exact ⟨he,s0,s1,h2⟩
      have cB:∀ w,((w.cell? ⟨W.heap.size,2,none⟩=some (.int .i64 ty)∧w.cell? ⟨W.heap.size,4,none⟩=some (.int .i64 fl))∧FS W [.int .i64 25,.int .i64 rg,.int .i64 ty,.int .i64 nn,.int .i64 fl,.slice ap al ac,.slice tp tl tc] (.slice pa n ca) P w)→Calls Tryz.prog 43 #[.slice pa n ca] w fun e w' => e=.returned (.string L)∧w'.cell? ⟨W.heap.size,2,none⟩=some (.int .i64 ty)∧w'.cell? ⟨W.heap.size,4,none⟩=some (.int .i64 fl)∧FS W [.int .i64 25,.int .i64 rg,.int .i64 ty,.int .i64 nn,.int .i64 fl,.slice ap al ac,.slice tp tl tc] (.slice pa n ca) P w':=by
        rintro w ⟨k,kh⟩
        refine ((fun w (kh:FS W [.int .i64 25,.int .i64 rg,.int .i64 ty,.int .i64 nn,.int .i64 fl,.slice ap al ac,.slice tp tl tc] (.slice pa n ca) P w)=>HL.out.2.1 _ w kh.2.sl) w kh).mono ?_
        rintro e w' ⟨he,hb⟩
        have h2:=kh.later hb
        obtain ⟨s0,s1⟩:=HSS w' h2
        exact ⟨he,s0,s1,h2⟩
      clear HSS
      go_region_held3 (fun w' => w'.cell? ⟨W.heap.size,2,none⟩=some (.int .i64 ty)∧w'.cell? ⟨W.heap.size,4,none⟩=some (.int .i64 fl))
        (((try dsimp only);(repeat' apply And.intro) <;> (first | (with_reducible assumption) | (rw [World.cell?_drew];with_reducible assumption) | (refine (cell_alloc_lt ?_).trans ?_ <;> with_reducible assumption) | (simp <;> omega))))
        (first
          | ((with_reducible refine' (cA _ ?pre).mono ?_)
             case pre=>(refine ⟨⟨?_,?_⟩,?_⟩ <;> (first | (with_reducible assumption) | (rw [World.cell?_drew];with_reducible assumption) | (with_reducible apply FS.drew;with_reducible assumption) | (simp <;> omega) | omega))
             rintro e wscA ⟨rfl,cA_0,cA_1,sahcA⟩)
          | ((with_reducible refine' (cC _ ?pre).mono ?_)
             case pre=>(refine ⟨⟨?_,?_⟩,?_⟩ <;> (first | (with_reducible assumption) | (rw [World.cell?_drew];with_reducible assumption) | (with_reducible apply FS.drew;with_reducible assumption) | (simp <;> omega) | omega))
             rintro e wscC ⟨rfl,cC_0,cC_1,sahcC⟩
             have hlt_cC:=sahcC.1.1.1)
          | ((with_reducible refine' (cB _ ?pre).mono ?_)
             case pre=>(refine ⟨⟨?_,?_⟩,?_⟩ <;> (first | (with_reducible assumption) | (rw [World.cell?_drew];with_reducible assumption) | (with_reducible apply FS.drew;with_reducible assumption) | (simp <;> omega) | omega))
             rintro e wscB ⟨rfl,cB_0,cB_1,sahcB⟩
             have hlt_cB:=sahcB.1.1.1))
      all_goals
        have HX:=Lib.hid sahcB.1
        go_wp2_with fail
        go_ret
        exact ⟨_,rfl,OS.lit _ HX.out.2.size [F,T ty,L] _ rfl 3 rfl (by decide),HX.out.2.alloc HX.out.2.size _⟩




theorem calT_fn {m:LMod} {k:Nat} (h:k<m.fs.length):calT (modD m).xs (modD m).fs (k:Int)=byt m.fs[k].nm:=by
  unfold calT
  rw [if_pos (by omega),Int.toNat_natCast]
  show (match (m.fs.map fnD)[k]? with | some f=>byt f.nm | none=>[])=_
  rw [List.getElem?_map,List.getElem?_eq_getElem h]
  rfl
theorem calT_ext {m:LMod} {k:Nat} (h:k<m.xs.length):calT (modD m).xs (modD m).fs (-1 - (k:Int))=byt m.xs[k].nm:=by
  unfold calT
  rw [if_neg (by omega),show (-1 - (-1 - (k:Int))).toNat=k by omega]
  show (match (m.xs.map extD)[k]? with | some f=>byt f.nm | none=>[])=_
  rw [List.getElem?_map,List.getElem?_eq_getElem h]
  rfl
theorem step_append_OS {w:World} {ops:Array Oper} {o:Oper} {a:Act} {K:Act→World→Prop} {Q:Exit→Act→World→Prop} {E:Prop} (hgd:o.guard=none) (s x:Operand)
    (ho:o.op=.call { callee:=.builtin .append,args:=#[s,x],argTypes:=#[93,93] }) (B C:Nat) (v vx:Value) (xs ys:List ByteArray) (hs:a.eval s=v) (hown:OS w B v xs) (hx:a.eval x=vx) (hsrc:OS w C vx ys)
    (hlen:xs.length+ys.length≤4194304) (hB:B≤w.heap.size) (h:∀ v' w',OS w' B v' (xs++ys)→Below B w w'→K (a.put o.dst v') w') :
    if Region.wanted o (yielded ops a.tmps)=true then Oper.wp Tryz.prog o a w K Q else E:=by
  obtain ⟨i0,hi,hz0,hz1,hz2⟩:=info_parts infoStr
  obtain ⟨p,c,e,hn⟩:∃ p c,vx=.slice p ys.length c∧∀ j u,(ys.map Value.string)[j]? = some u→∃ ad,p=some ad∧w.cell? (ad.add j)=some u:=by
    rcases hsrc.2 with ⟨rfl,hz⟩ | ⟨g,cap,cur,rfl,hr⟩
    · refine ⟨none,0,by rw [hz],fun j u hj=>?_⟩
      have:ys=[]:=List.length_eq_zero_iff.1 hz
      subst this
      simp at hj
    · exact ⟨_,cap,rfl,fun j u hj=>⟨_,rfl,hsrc.cells (g:=g) rfl j u hj⟩⟩
  subst e
  refine step_append_at hgd s x 93 ho B 9 i0 (.string ⟨#[]⟩) 1 16 Tryz.underlying93 hi hz0 hz1 hz2 rfl (by decide) v xs.length _ hs hown p ys.length c (ys.map .string) hx (by simp) hn (fun u hu=>?_) (by unfold maxLen;omega) (by omega) hB (fun v' w' h1 h2 _=>h v' w' ?_ ?_)
  · obtain ⟨t,_,rfl⟩:=List.mem_map.1 hu
    rfl
  · unfold OS
    rw [List.length_append,List.map_append]
    exact h1
  · exact (Below.refl B w).grown h2 hB (fun k hk=>hown.heap_le k hk)
theorem map_byt {α:Type} (f:α→Tx) (l:List α):(l.map fun x=>mkS (f x)).map byt=l.map f:=by
  rw [List.map_map]
  exact List.map_congr_left fun x _=>byt_mkS _
theorem lay2_len (a b:Tx):(layT [a,b]).length≤a.length+b.length+1:=by
  show (layS (layS [] a) b).length≤_
  have h1:layS [] a=a:=by unfold layS;rw [if_neg fun k=>k.1 rfl];rfl
  rw [h1]
  unfold layS
  split
  · simp;omega
  · simp
section
variable (m:LMod) (x:LI) (b:Nat) (W:World) (hT:TabOk W) (hm:ModIn W.heap.size W m) (hk:LenOk (modD m)) (hx:InsIn W.heap.size W x) (hb:MB m b W) (hB:insB (modD m) (insD x)=true) (hw:insW (insD x)) (hz:insZ (insD x)≤1048576)
include hT hm hk hx hb hB hw hz
set_option maxRecDepth 100000 in
set_option maxHeartbeats 2000000 in
theorem sForm_any:Calls Tryz.prog 87 #[.pointer (some ⟨b,0,none⟩),.agg (liC x).toArray] W (OwnS ((formP (modD m) (insD x)).map mkS) W):=by
  have hA:=insB_arg hB
  have hTg:=insB_tg hB
  have hb0:=hw.2
  have hl:x.1.args.length≤1048576:=by unfold insZ insD at hz;simp only at hz;omega
  have hlt:x.2.length≤1048576:=by unfold insZ insD at hz;simp only at hz;omega
  have hn:=hw.1
  unfold insB at hB
  simp only [Bool.and_eq_true,decide_eq_true_eq] at hB
  obtain ⟨⟨⟨⟨⟨⟨⟨h1,h2⟩,h3⟩,h4⟩,h5⟩,h6⟩,-⟩,-⟩:=hB
  obtain ⟨⟨op,rg,ty,nn,fl,ap,al,ac,tp,tl,tc,rs⟩,ts⟩:=x
  obtain ⟨hrs,hts⟩:=hx
  simp only at hl hlt hrs hts
  replace hA:∀ a∈rs,argB (modD m) a=true:=hA
  replace hb0:∀ a∈rs,0≤a.bits∧a.bits<18446744073709551616:=hb0
  replace hTg:∀ t∈ts,0≤t∧t≤999:=hTg
  have e0:insD (⟨op,rg,ty,nn,fl,ap,al,ac,tp,tl,tc,rs⟩,ts)=⟨op,rg,ty,nn,fl,rs,ts⟩:=rfl
  rw [e0] at h1 h2 h3 h4 h5 hn ⊢
  simp only at h1 hn
  show Calls Tryz.prog 87 #[.pointer (some ⟨b,0,none⟩),.agg #[.int .i64 op,.int .i64 rg,.int .i64 ty,.int .i64 nn,.int .i64 fl,.slice ap al ac,.slice tp tl tc]] W _
  have cA:∀ w,Below W.heap.size W w→Calls Tryz.prog 131 #[.slice ap al ac,.func (.func 132) #[.pointer (some ⟨b,0,none⟩)] #[]] w (OwnS (rs.map fun a=>mkS (argT m.vs a)) w):=fun w hbw =>
    spellEach_A (argT m.vs) ap al ac rs w (hrs.lasts lasts_NoMem hbw hbw.size) hl _ #[.pointer (some ⟨b,0,none⟩)] (fun _ _=>rfl) (fun i hi w' hb' => by
      have hbb:=hbw.trans (hb'.mono hbw.size)
      exact sOperand_any m b rs[i] w' (hT.later hbb) (lasts_Mod _ _ _ _ _ hbb hbb.size hm) (hb.later hbb) hk.vs (hA _ (List.getElem_mem hi)) (hb0 _ (List.getElem_mem hi)).1 (hb0 _ (List.getElem_mem hi)).2)
  have cB:∀ w,Below W.heap.size W w→Calls Tryz.prog 44 #[.slice tp tl tc,.func (.func 45) #[] #[]] w (OwnS (ts.map fun t=>mkS (blockT t)) w):=fun w hbw =>
    spellEach_I blockT tp tl tc ts w (hts.lasts lasts_NoMem hbw hbw.size) hlt _ #[] (fun _ _=>rfl) (fun i hi w' hb' => by
      have hbb:=hbw.trans (hb'.mono hbw.size)
      have ht:=hTg _ (List.getElem_mem hi)
      obtain ⟨k,hk2⟩:∃ k:Nat,ts[i]=k:=⟨ts[i].toNat,by omega⟩
      rw [hk2]
      exact sBlock_any k (by omega) w' (hT.later hbb))
  have hla0:(listT (rs.map (argT m.vs))).length≤rs.length * 1048602:=listA_len hk hA hb0
  have hla:(listT (rs.map (argT m.vs))).length≤1099538890752:=by omega
  have cL:∀ v w,SL w v (rs.map fun a=>mkS (argT m.vs a))→Calls Tryz.prog 43 #[v] w (StrV (mkS (listT (rs.map (argT m.vs)))) w):=fun v w h=>by
    have:=list_any v _ w h (by rw [List.length_map];omega) (by rw [map_byt];omega)
    rw [map_byt] at this
    exact this
  have cT:∀ t w,Below W.heap.size W w→Calls Tryz.prog 11 #[.int .i64 t] w (StrV (mkS (typeT t)) w):=fun t w hbw=>sType_any t w (hT.later hbw)
  have hfl:0≤fl∧fl≤7:=by
    unfold flB at h5
    simp only at h5
    split at h5
    · have:=of_decide_eq_true h5;omega
    · exact of_decide_eq_true h5
  have cF:∀ w,Calls Tryz.prog 135 #[.int .i64 fl] w (StrV (mkS (flagsP fl)) w):=sFlags_any fl hfl
  unfold cntB at h2
  unfold hasTyB at h3
  unfold numB at h4
  unfold formP
  simp only at h2 h3 h4 ⊢
  by_cases c1:20≤op∧op≤22
  · rw [if_pos c1]
    obtain rfl | rfl | rfl:op=20∨op=21∨op=22:=by omega
    · exact fm_20 b rg ty nn fl ap tp al tl ac tc _ _ W cA cB (fun t=>mkS (typeT t)) cT _ cL
    · exact fm_21 b rg ty nn fl ap tp al tl ac tc _ _ W cA cB (fun t=>mkS (typeT t)) cT _ cL
    · exact fm_22 b rg ty nn fl ap tp al tl ac tc _ _ W cA cB (fun t=>mkS (typeT t)) cT _ cL
  rw [if_neg c1]
  by_cases c2:op=25
  · subst c2
    rw [if_pos rfl] at h2 ⊢
    have hlen:ts.length=rs.length:=of_decide_eq_true h2
    have hbl:∀ t∈ts,(blockT t).length≤21:=fun t ht=>blockT_len (by have:=hTg t ht;omega)
    have hal:∀ a∈rs,(argT m.vs a).length≤1048600:=fun a ha=>argT_len hk (hA a ha) (hb0 a ha).2
    have hpl:=sepBy_len [44,32] 1048622 ((ts.zip rs).map fun p=>layT [blockT p.1,argT m.vs p.2]) (fun y hy=>by
      obtain ⟨p,hp,rfl⟩:=List.mem_map.1 hy
      have h1:=hbl p.1 (List.of_mem_zip hp).1
      have h2:=hal p.2 (List.of_mem_zip hp).2
      have:=lay2_len (blockT p.1) (argT m.vs p.2)
      omega)
    rw [List.length_map,List.length_zip] at hpl
    have hpl2:min ts.length rs.length * (1048622+2)≤1048576 * (1048622+2):=Nat.mul_le_mul_right _ (by omega)
    refine fm_25 b rg ty nn fl ap tp al tl ac tc _ _ W cA cB ((ts.zip rs).map fun p=>mkS (layT [blockT p.1,argT m.vs p.2])) rs.length (by simp) (by simp [hlen]) (by simp [hlen]) hl (fun i x y hx hy=>?_) (fun t=>mkS (typeT t)) cT _ (fun v w h=>?_) _ cF
    · rw [List.getElem?_map] at hx hy
      cases ht:ts[i]? with
      | none=>rw [ht] at hx;cases hx
      | some t =>
        cases ha:rs[i]? with
        | none=>rw [ha] at hy;cases hy
        | some a =>
          rw [ht] at hx
          rw [ha] at hy
          injection hx with hx
          injection hy with hy
          subst hx hy
          refine ⟨mkS (layT [blockT t,argT m.vs a]),?_,fun w v h=>?_⟩
          · have hzz:(ts.zip rs)[i]? = some (t,a):=List.getElem?_zip_eq_some.2 ⟨ht,ha⟩
            rw [List.getElem?_map,hzz]
            rfl
          · have h1:=hbl t (List.mem_of_getElem? ht)
            have h2:=hal a (List.mem_of_getElem? ha)
            have h3:=lay2_len (blockT t) (argT m.vs a)
            have:=lay_any v _ w h (by simp) (by
              show (layT [byt (mkS (blockT t)),byt (mkS (argT m.vs a))]).length≤_
              rw [byt_mkS,byt_mkS]
              omega)
            have e:layT ([mkS (blockT t),mkS (argT m.vs a)].map byt)=layT [blockT t,argT m.vs a]:=by
              show layT [byt (mkS (blockT t)),byt (mkS (argT m.vs a))]=_
              rw [byt_mkS,byt_mkS]
            rw [e] at this
            exact this
    · have:=list_any v _ w h (by simp;omega) (by
        rw [map_byt]
        refine Nat.le_trans hpl ?_
        show min ts.length rs.length * (1048622+2)≤_
        omega)
      rw [map_byt] at this
      exact this
  rw [if_neg c2] at h2 ⊢
  by_cases c3:op=26
  · subst c3
    rw [if_pos rfl]
    rw [if_neg (by omega),if_pos rfl] at h4
    have h0:0≤nn:=of_decide_eq_true h4
    obtain ⟨k,rfl⟩:∃ k:Nat,nn=k:=⟨nn.toNat,by omega⟩
    exact fm_26 b rg ty _ fl ap tp al tl ac tc _ _ W cA cB k rfl _ (fun w hbw=>itoa_any k (by omega) w (hT.later hbw))
  rw [if_neg c3]
  by_cases c4:op=30
  · subst c4
    rw [if_pos rfl]
    rw [if_neg (by omega),if_pos rfl] at h3
    have hc:calR (modD m).xs (modD m).fs nn=some ty:=of_decide_eq_true h3
    unfold calR at hc
    have fin:∀ nm:ByteArray,nm++(⟨#[40]⟩:ByteArray)++mkS (listT (rs.map (argT m.vs)))++(⟨#[41]⟩:ByteArray)=mkS (byt nm++40::(listT (rs.map (argT m.vs))++[41])):=fun nm=>by
      rw [show (⟨#[40]⟩:ByteArray)=mkS [40] from rfl,show (⟨#[41]⟩:ByteArray)=mkS [41] from rfl]
      conv=>lhs;rw [← mkS_byt nm]
      rw [mkS_app,mkS_app,mkS_app]
      congr 1
      simp
    by_cases h0:0≤nn
    · obtain ⟨k,rfl⟩:∃ k:Nat,nn=k:=⟨nn.toNat,by omega⟩
      rw [if_pos h0,Int.toNat_natCast] at hc
      have hkl:k<m.fs.length:=by
        rcases Nat.lt_or_ge k m.fs.length with h | h
        · exact h
        · rw [show (modD m).fs=m.fs.map fnD from rfl,List.getElem?_eq_none (by simpa using h)] at hc
          cases hc
      rw [calT_fn hkl]
      show Calls _ _ _ _ (OwnS [mkS (byt m.fs[k].nm++40::(listT (rs.map (argT m.vs))++[41]))] W)
      rw [← fin]
      exact fm_30 b rg ty _ fl ap tp al tl ac tc _ _ W cA cB m.fs[k].nm _ (hk.fs (fnD m.fs[k]) (List.mem_map_of_mem (List.getElem_mem hkl))) (by rw [size_mkS];exact hla) cL (fun w hbw=>callee_fn m b k hkl w (lasts_Mod _ _ _ _ _ hbw hbw.size hm) (hb.later hbw))
    · obtain ⟨k,rfl⟩:∃ k:Nat,nn=-1 - (k:Int):=⟨(-1 - nn).toNat,by omega⟩
      rw [if_neg h0,show (-1 - (-1 - (k:Int))).toNat=k by omega] at hc
      have hkl:k<m.xs.length:=by
        rcases Nat.lt_or_ge k m.xs.length with h | h
        · exact h
        · rw [show (modD m).xs=m.xs.map extD from rfl,List.getElem?_eq_none (by simpa using h)] at hc
          cases hc
      rw [calT_ext hkl]
      show Calls _ _ _ _ (OwnS [mkS (byt m.xs[k].nm++40::(listT (rs.map (argT m.vs))++[41]))] W)
      rw [← fin]
      exact fm_30 b rg ty _ fl ap tp al tl ac tc _ _ W cA cB m.xs[k].nm _ (hk.xs (extD m.xs[k]) (List.mem_map_of_mem (List.getElem_mem hkl))) (by rw [size_mkS];exact hla) cL (fun w hbw=>callee_ext m b k hkl w (lasts_Mod _ _ _ _ _ hbw hbw.size hm) (hb.later hbw))
  rw [if_neg c4] at h2 ⊢
  have cLc:∀ v w,SL w v ((rs.map fun a=>mkS (argT m.vs a))++ts.map fun t=>mkS (blockT t))→Calls Tryz.prog 43 #[v] w (StrV (mkS (listT (rs.map (argT m.vs)++ts.map blockT))) w):=fun v w h=>by
    have hbl:∀ t∈ts,(blockT t).length≤21:=fun t ht=>blockT_len (by have:=hTg t ht;omega)
    have hal:∀ a∈rs,(argT m.vs a).length≤1048600:=fun a ha=>argT_len hk (hA a ha) (hb0 a ha).2
    have hpl:=sepBy_len [44,32] 1048600 (rs.map (argT m.vs)++ts.map blockT) (fun y hy=>by
      rcases List.mem_append.1 hy with hy | hy
      · obtain ⟨a,ha,rfl⟩:=List.mem_map.1 hy
        exact hal a ha
      · obtain ⟨t,ht,rfl⟩:=List.mem_map.1 hy
        have:=hbl t ht
        omega)
    rw [List.length_append,List.length_map,List.length_map] at hpl
    have hpl2:(rs.length+ts.length) * (1048600+2)≤2097152 * (1048600+2):=Nat.mul_le_mul_right _ (by omega)
    have e:((rs.map fun a=>mkS (argT m.vs a))++ts.map fun t=>mkS (blockT t)).map byt=rs.map (argT m.vs)++ts.map blockT:=by rw [List.map_append,map_byt,map_byt]
    have:=list_any v _ w h (by simp;omega) (by
      rw [e]
      refine Nat.le_trans hpl ?_
      show (rs.length+ts.length) * (1048600+2)≤_
      omega)
    rw [e] at this
    exact this
  have lA:(rs.map fun a=>mkS (argT m.vs a)).length≤1048576:=by rw [List.length_map];exact hl
  have lB:(ts.map fun t=>mkS (blockT t)).length≤1048576:=by rw [List.length_map];exact hlt
  by_cases c5:op=29
  · subst c5
    rw [if_pos (.inl rfl)]
    exact fm_29 b rg ty nn fl ap tp al tl ac tc _ _ W cA cB lA lB _ cLc
  by_cases c6:op=31
  · subst c6
    rw [if_pos (.inr (.inl rfl))]
    exact fm_31 b rg ty nn fl ap tp al tl ac tc _ _ W cA cB lA lB _ cLc
  by_cases c7:op=32
  · subst c7
    rw [if_pos (.inr (.inr (.inl rfl)))]
    exact fm_32 b rg ty nn fl ap tp al tl ac tc _ _ W cA cB lA lB _ cLc
  by_cases c8:op=34
  · subst c8
    rw [if_pos (.inr (.inr (.inr rfl)))]
    exact fm_34 b rg ty nn fl ap tp al tl ac tc _ _ W cA cB lA lB _ cLc
  rw [if_neg (by omega)]
  by_cases c9:op=33
  · subst c9
    by_cases e:rs=[]
    · rw [if_pos ⟨rfl,e⟩]
      exact fm_33n b rg ty nn fl ap tp al tl ac tc _ _ W cA cB (by rw [e];rfl)
    · rw [if_neg (fun k=>e k.2)]
      exact fm_33 b rg ty nn fl ap tp al tl ac tc _ _ W cA cB (fun k=>e (List.length_eq_zero_iff.1 (by rw [List.length_map] at k;exact k))) (fun t=>mkS (typeT t)) cT _ cL _ cF
  rw [if_neg (fun k=>c9 k.1)]
  exact fm_o b op rg ty nn fl ap tp al tl ac tc _ _ W cA cB ⟨by omega,by omega,by omega,c2,c3,c5,c6,c7,c8,c4,c9⟩ (fun t=>mkS (typeT t)) cT _ cL _ cF
end
end Go.Proofs.YtmmlfmplggbmiaaGreatDoor
