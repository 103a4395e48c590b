/- Several texts in one: SpKi, SpKj, SpTx, SpRT, SpKk, SpKl. -/
import Derived.Test.YtmmlfmplggbmiaaGreatDoorMg16
namespace Go.Proofs.YtmmlfmplggbmiaaGreatDoor
open Go.RowKit Go.Maps
set_option linter.unusedVariables false
set_option linter.unusedSimpArgs false
set_option maxRecDepth 100000 in
set_option maxHeartbeats 8000000 in
theorem insL_n (b:Nat) (op rg ty nn fl:Int) (ap tp:Option Addr) (al tl ac tc:Nat) (N:ByteArray) (PS:List ByteArray) (W:World) (hPS:PS.length≤16)
    (hOf:∀ w,Below W.heap.size W w→Calls Tryz.prog 59 #[.int .i64 op] w fun e w' => e=.returned (.string N)∧w' = w)
    (hFm:∀ w,Below W.heap.size W w→Calls Tryz.prog 87 #[.pointer (some ⟨b,0,none⟩),.agg #[.int .i64 op,.int .i64 rg,.int .i64 ty,.int .i64 nn,.int .i64 fl,.slice ap al ac,.slice tp tl tc]] w (OwnS PS w)) (hr:rg<0) :
    Calls Tryz.prog 46 #[.pointer (some ⟨b,0,none⟩),.agg #[.int .i64 op,.int .i64 rg,.int .i64 ty,.int .i64 nn,.int .i64 fl,.slice ap al ac,.slice tp tl tc]] W (OwnS (N::PS) W):=by
  have HS0:Hid (OneS W [.int .i64 op,.int .i64 rg,.int .i64 ty,.int .i64 nn,.int .i64 fl,.slice ap al ac,.slice tp tl tc] (W.alloc (.cells #[.int .i64 op,.int .i64 rg,.int .i64 ty,.int .i64 nn,.int .i64 fl,.slice ap al ac,.slice tp tl tc] 43))):=Lib.hid ⟨Box.new W rfl _ _,(Below.refl _ _).alloc (Nat.le_refl _) _⟩
  have HC:=Lib.hid (And.intro hOf hFm)
  have HP:=Lib.hid hPS
  clear hOf hFm hPS
  have d0:decide (rg<(0:Int))=true:=by simp;omega
  clear hr
  go_enter Tryz.func46,Tryz.ntmps46
  go_upto_region 1 with fail
  obtain ⟨w1,ew1⟩:∃ w1,(W.alloc (.cells #[.int .i64 op,.int .i64 rg,.int .i64 ty,.int .i64 nn,.int .i64 fl,.slice ap al ac,.slice tp tl tc] 43))=w1:=⟨_,rfl⟩
  rw [ew1] at HS0 ⊢
  clear ew1
  have hal:Below w1.heap.size w1 (w1.alloc (.cells #[.string N] 9)):=(Below.refl _ _).alloc (Nat.le_refl _) _
  have hS2:=HS0.out.later hal
  have hald:Below w1.heap.size w1 (w1.drew.alloc (.cells #[.string N] 9)):=(below_drew (Below.refl _ _)).alloc (Nat.le_refl _) _
  have hS3:=HS0.out.later hald
  have z0:=HS0.out.1.get 0 _ rfl
  have y0:=hS2.1.get 0 _ rfl
  have x0:=hS3.1.get 0 _ rfl
  have z1:=HS0.out.1.get 1 _ rfl
  have y1:=hS2.1.get 1 _ rfl
  have x1:=hS3.1.get 1 _ rfl
  have z2:=HS0.out.1.get 2 _ rfl
  have y2:=hS2.1.get 2 _ rfl
  have x2:=hS3.1.get 2 _ rfl
  have z3:=HS0.out.1.get 3 _ rfl
  have y3:=hS2.1.get 3 _ rfl
  have x3:=hS3.1.get 3 _ rfl
  have z4:=HS0.out.1.get 4 _ rfl
  have y4:=hS2.1.get 4 _ rfl
  have x4:=hS3.1.get 4 _ rfl
  have z5:=HS0.out.1.get 5 _ rfl
  have y5:=hS2.1.get 5 _ rfl
  have x5:=hS3.1.get 5 _ rfl
  have z6:=HS0.out.1.get 6 _ rfl
  have y6:=hS2.1.get 6 _ rfl
  have x6:=hS3.1.get 6 _ rfl
  have hbW:Below W.heap.size W w1:=HS0.out.2
  have hbL:Below W.heap.size W (w1.alloc (.cells #[.string N] 9)):=hS2.2
  have hlit:OS (w1.alloc (.cells #[.string N] 9)) (W.heap.size+1) (.slice (some ⟨w1.heap.size,0,none⟩) 1 1) [N]:=OS.lit w1 HS0.out.1.1 [N] _ rfl 1 rfl (by decide)
  have hlitd:OS (w1.drew.alloc (.cells #[.string N] 9)) (W.heap.size+1) (.slice (some ⟨w1.heap.size,0,none⟩) 1 1) [N]:=hlit
  have HB:=Lib.hid (And.intro HS0.out (And.intro hS2 (And.intro hlit (And.intro hlitd hS3))))
  clear hS2 hal hlit hbW hbL hald hS3 hlitd
  have cO:∀ w,Hid (OneS W [.int .i64 op,.int .i64 rg,.int .i64 ty,.int .i64 nn,.int .i64 fl,.slice ap al ac,.slice tp tl tc] w)→Calls Tryz.prog 59 #[.int .i64 op] w fun e w' => e=.returned (.string N)∧w' = w:=fun w h=>HC.out.1 w h.out.2
  have cF:∀ w,Hid (OneS W [.int .i64 op,.int .i64 rg,.int .i64 ty,.int .i64 nn,.int .i64 fl,.slice ap al ac,.slice tp tl tc] w)→Calls Tryz.prog 87 #[.pointer (some ⟨b,0,none⟩),.agg #[.int .i64 op,.int .i64 rg,.int .i64 ty,.int .i64 nn,.int .i64 fl,.slice ap al ac,.slice tp tl tc]] w (fun e w' => ∃ v,e=.returned v∧Hid (OS w' (W.heap.size+1) v PS∧OneS W [.int .i64 op,.int .i64 rg,.int .i64 ty,.int .i64 nn,.int .i64 fl,.slice ap al ac,.slice tp tl tc] w'∧Below w.heap.size w w')):=fun w h=>(HC.out.2 w h.out.2).mono fun e w' ⟨v,he,hO,hb⟩=>⟨v,he,Lib.hid ⟨hO.mono h.out.1.1,h.out.later hb,hb⟩⟩
  have h1:Hid (OneS W [.int .i64 op,.int .i64 rg,.int .i64 ty,.int .i64 nn,.int .i64 fl,.slice ap al ac,.slice tp tl tc] w1):=Lib.hid HB.out.1
  have h1d:Hid (OneS W [.int .i64 op,.int .i64 rg,.int .i64 ty,.int .i64 nn,.int .i64 fl,.slice ap al ac,.slice tp tl tc] w1.drew):=Lib.hid (HB.out.1.drew)
  have h2:Hid (OneS W [.int .i64 op,.int .i64 rg,.int .i64 ty,.int .i64 nn,.int .i64 fl,.slice ap al ac,.slice tp tl tc] (w1.alloc (.cells #[.string N] 9))):=Lib.hid HB.out.2.1
  have h2d:Hid (OneS W [.int .i64 op,.int .i64 rg,.int .i64 ty,.int .i64 nn,.int .i64 fl,.slice ap al ac,.slice tp tl tc] (w1.alloc (.cells #[.string N] 9)).drew):=Lib.hid (HB.out.2.1.drew)
  have h2e:Hid (OneS W [.int .i64 op,.int .i64 rg,.int .i64 ty,.int .i64 nn,.int .i64 fl,.slice ap al ac,.slice tp tl tc] (w1.drew.alloc (.cells #[.string N] 9))):=Lib.hid HB.out.2.2.2.2
  go_region_law (first
    | (refine step_append_OS rfl (.tmp 9) (.tmp 12) rfl (W.heap.size+1) (W.heap.size+1) _ _ [N] PS rfl ?o1 rfl ?o2 ?o3 ?o4 ?_
       case o1=>(first | exact OS.later HB.out.2.2.2.1 hF5.out.2.2 | exact OS.later HB.out.2.2.1 hF5.out.2.2 | exact OS.lit w5 hF5.out.2.1.1.1 [N] _ rfl 1 rfl (by decide))
       case o2=>(first | exact hF5.out.1 | exact hF5.out.1.later ((Below.refl _ _).alloc (Nat.le_refl _) _))
       case o3=>(have:=HP.out;simp;omega)
       case o4=>(first | exact hF5.out.2.1.1.1 | (have:=hF5.out.2.1.1.1;simp;omega))
       intro v7 w7 hn7 hb7)
    | (go_simp
       (with_reducible refine (cO _ ?pre).mono ?_)
       case pre=>(first | exact h1 | exact h1d | exact h2 | exact h2d | exact h2e)
       rintro ee w4 ⟨rfl,rfl⟩)
    | (go_simp
       (with_reducible refine (cF _ ?pre).mono ?_)
       case pre=>(first | exact h1 | exact h1d | exact h2 | exact h2d | exact h2e)
       rintro ee w5 ⟨v5,rfl,hF5⟩))
  all_goals
    have HN:Hid (OS w7 (W.heap.size+1) v7 ([N]++PS)∧OneS W [.int .i64 op,.int .i64 rg,.int .i64 ty,.int .i64 nn,.int .i64 fl,.slice ap al ac,.slice tp tl tc] w7):=Lib.hid ⟨hn7,by
      first
        | exact ⟨hF5.out.2.1.1.below hb7 (Nat.lt_succ_self _),hF5.out.2.1.2.trans (hb7.mono (Nat.le_succ _))⟩
        | exact ⟨(hF5.out.2.1.alloc _).1.below hb7 (Nat.lt_succ_self _),(hF5.out.2.1.alloc _).2.trans (hb7.mono (Nat.le_succ _))⟩⟩
    have q1:=HN.out.2.1.get 1 _ rfl
    clear hn7 hb7 hF5 h1 h1d h2 h2d h2e cO cF z0 z1 z2 z3 z4 z5 z6 y0 y1 y2 y3 y4 y5 y6 x0 x1 x2 x3 x4 x5 x6
    go_wp2_with fail
    go_ret
    exact ⟨_,rfl,HN.out.1.mono (Nat.le_succ _),HN.out.2.2⟩
set_option maxRecDepth 100000 in
set_option maxHeartbeats 8000000 in
theorem insL_p (b:Nat) (op rg ty nn fl:Int) (ap tp:Option Addr) (al tl ac tc:Nat) (N:ByteArray) (PS:List ByteArray) (W:World) (hPS:PS.length≤16)
    (hOf:∀ w,Below W.heap.size W w→Calls Tryz.prog 59 #[.int .i64 op] w fun e w' => e=.returned (.string N)∧w' = w)
    (hFm:∀ w,Below W.heap.size W w→Calls Tryz.prog 87 #[.pointer (some ⟨b,0,none⟩),.agg #[.int .i64 op,.int .i64 rg,.int .i64 ty,.int .i64 nn,.int .i64 fl,.slice ap al ac,.slice tp tl tc]] w (OwnS PS w)) (hr:0≤rg) (R:ByteArray) (hR:∀ w,Below W.heap.size W w→Calls Tryz.prog 88 #[.int .i64 rg] w (StrV R w)) :
    Calls Tryz.prog 46 #[.pointer (some ⟨b,0,none⟩),.agg #[.int .i64 op,.int .i64 rg,.int .i64 ty,.int .i64 nn,.int .i64 fl,.slice ap al ac,.slice tp tl tc]] W (OwnS (R::⟨#[61]⟩::N::PS) W):=by
  have HS0:Hid (OneS W [.int .i64 op,.int .i64 rg,.int .i64 ty,.int .i64 nn,.int .i64 fl,.slice ap al ac,.slice tp tl tc] (W.alloc (.cells #[.int .i64 op,.int .i64 rg,.int .i64 ty,.int .i64 nn,.int .i64 fl,.slice ap al ac,.slice tp tl tc] 43))):=Lib.hid ⟨Box.new W rfl _ _,(Below.refl _ _).alloc (Nat.le_refl _) _⟩
  have HC:=Lib.hid (And.intro hOf hFm)
  have HP:=Lib.hid hPS
  clear hOf hFm hPS
  have HRR:=Lib.hid hR
  clear hR
  have d0:decide (rg<(0:Int))=false:=by simp;omega
  clear hr
  go_enter Tryz.func46,Tryz.ntmps46
  go_upto_region 1 with fail
  obtain ⟨w1,ew1⟩:∃ w1,(W.alloc (.cells #[.int .i64 op,.int .i64 rg,.int .i64 ty,.int .i64 nn,.int .i64 fl,.slice ap al ac,.slice tp tl tc] 43))=w1:=⟨_,rfl⟩
  rw [ew1] at HS0 ⊢
  clear ew1
  have hal:Below w1.heap.size w1 (w1.alloc (.cells #[.string N] 9)):=(Below.refl _ _).alloc (Nat.le_refl _) _
  have hS2:=HS0.out.later hal
  have hald:Below w1.heap.size w1 (w1.drew.alloc (.cells #[.string N] 9)):=(below_drew (Below.refl _ _)).alloc (Nat.le_refl _) _
  have hS3:=HS0.out.later hald
  have z0:=HS0.out.1.get 0 _ rfl
  have y0:=hS2.1.get 0 _ rfl
  have x0:=hS3.1.get 0 _ rfl
  have z1:=HS0.out.1.get 1 _ rfl
  have y1:=hS2.1.get 1 _ rfl
  have x1:=hS3.1.get 1 _ rfl
  have z2:=HS0.out.1.get 2 _ rfl
  have y2:=hS2.1.get 2 _ rfl
  have x2:=hS3.1.get 2 _ rfl
  have z3:=HS0.out.1.get 3 _ rfl
  have y3:=hS2.1.get 3 _ rfl
  have x3:=hS3.1.get 3 _ rfl
  have z4:=HS0.out.1.get 4 _ rfl
  have y4:=hS2.1.get 4 _ rfl
  have x4:=hS3.1.get 4 _ rfl
  have z5:=HS0.out.1.get 5 _ rfl
  have y5:=hS2.1.get 5 _ rfl
  have x5:=hS3.1.get 5 _ rfl
  have z6:=HS0.out.1.get 6 _ rfl
  have y6:=hS2.1.get 6 _ rfl
  have x6:=hS3.1.get 6 _ rfl
  have hbW:Below W.heap.size W w1:=HS0.out.2
  have hbL:Below W.heap.size W (w1.alloc (.cells #[.string N] 9)):=hS2.2
  have hlit:OS (w1.alloc (.cells #[.string N] 9)) (W.heap.size+1) (.slice (some ⟨w1.heap.size,0,none⟩) 1 1) [N]:=OS.lit w1 HS0.out.1.1 [N] _ rfl 1 rfl (by decide)
  have hlitd:OS (w1.drew.alloc (.cells #[.string N] 9)) (W.heap.size+1) (.slice (some ⟨w1.heap.size,0,none⟩) 1 1) [N]:=hlit
  have HB:=Lib.hid (And.intro HS0.out (And.intro hS2 (And.intro hlit (And.intro hlitd hS3))))
  clear hS2 hal hlit hbW hbL hald hS3 hlitd
  have cO:∀ w,Hid (OneS W [.int .i64 op,.int .i64 rg,.int .i64 ty,.int .i64 nn,.int .i64 fl,.slice ap al ac,.slice tp tl tc] w)→Calls Tryz.prog 59 #[.int .i64 op] w fun e w' => e=.returned (.string N)∧w' = w:=fun w h=>HC.out.1 w h.out.2
  have cF:∀ w,Hid (OneS W [.int .i64 op,.int .i64 rg,.int .i64 ty,.int .i64 nn,.int .i64 fl,.slice ap al ac,.slice tp tl tc] w)→Calls Tryz.prog 87 #[.pointer (some ⟨b,0,none⟩),.agg #[.int .i64 op,.int .i64 rg,.int .i64 ty,.int .i64 nn,.int .i64 fl,.slice ap al ac,.slice tp tl tc]] w (fun e w' => ∃ v,e=.returned v∧Hid (OS w' (W.heap.size+1) v PS∧OneS W [.int .i64 op,.int .i64 rg,.int .i64 ty,.int .i64 nn,.int .i64 fl,.slice ap al ac,.slice tp tl tc] w'∧Below w.heap.size w w')):=fun w h=>(HC.out.2 w h.out.2).mono fun e w' ⟨v,he,hO,hb⟩=>⟨v,he,Lib.hid ⟨hO.mono h.out.1.1,h.out.later hb,hb⟩⟩
  have h1:Hid (OneS W [.int .i64 op,.int .i64 rg,.int .i64 ty,.int .i64 nn,.int .i64 fl,.slice ap al ac,.slice tp tl tc] w1):=Lib.hid HB.out.1
  have h1d:Hid (OneS W [.int .i64 op,.int .i64 rg,.int .i64 ty,.int .i64 nn,.int .i64 fl,.slice ap al ac,.slice tp tl tc] w1.drew):=Lib.hid (HB.out.1.drew)
  have h2:Hid (OneS W [.int .i64 op,.int .i64 rg,.int .i64 ty,.int .i64 nn,.int .i64 fl,.slice ap al ac,.slice tp tl tc] (w1.alloc (.cells #[.string N] 9))):=Lib.hid HB.out.2.1
  have h2d:Hid (OneS W [.int .i64 op,.int .i64 rg,.int .i64 ty,.int .i64 nn,.int .i64 fl,.slice ap al ac,.slice tp tl tc] (w1.alloc (.cells #[.string N] 9)).drew):=Lib.hid (HB.out.2.1.drew)
  have h2e:Hid (OneS W [.int .i64 op,.int .i64 rg,.int .i64 ty,.int .i64 nn,.int .i64 fl,.slice ap al ac,.slice tp tl tc] (w1.drew.alloc (.cells #[.string N] 9))):=Lib.hid HB.out.2.2.2.2
  go_region_law (first
    | (refine step_append_OS rfl (.tmp 9) (.tmp 12) rfl (W.heap.size+1) (W.heap.size+1) _ _ [N] PS rfl ?o1 rfl ?o2 ?o3 ?o4 ?_
       case o1=>(first | exact OS.later HB.out.2.2.2.1 hF5.out.2.2 | exact OS.later HB.out.2.2.1 hF5.out.2.2 | exact OS.lit w5 hF5.out.2.1.1.1 [N] _ rfl 1 rfl (by decide))
       case o2=>(first | exact hF5.out.1 | exact hF5.out.1.later ((Below.refl _ _).alloc (Nat.le_refl _) _))
       case o3=>(have:=HP.out;simp;omega)
       case o4=>(first | exact hF5.out.2.1.1.1 | (have:=hF5.out.2.1.1.1;simp;omega))
       intro v7 w7 hn7 hb7)
    | (go_simp
       (with_reducible refine (cO _ ?pre).mono ?_)
       case pre=>(first | exact h1 | exact h1d | exact h2 | exact h2d | exact h2e)
       rintro ee w4 ⟨rfl,rfl⟩)
    | (go_simp
       (with_reducible refine (cF _ ?pre).mono ?_)
       case pre=>(first | exact h1 | exact h1d | exact h2 | exact h2d | exact h2e)
       rintro ee w5 ⟨v5,rfl,hF5⟩))
  all_goals
    have HN:Hid (OS w7 (W.heap.size+1) v7 ([N]++PS)∧OneS W [.int .i64 op,.int .i64 rg,.int .i64 ty,.int .i64 nn,.int .i64 fl,.slice ap al ac,.slice tp tl tc] w7):=Lib.hid ⟨hn7,by
      first
        | exact ⟨hF5.out.2.1.1.below hb7 (Nat.lt_succ_self _),hF5.out.2.1.2.trans (hb7.mono (Nat.le_succ _))⟩
        | exact ⟨(hF5.out.2.1.alloc _).1.below hb7 (Nat.lt_succ_self _),(hF5.out.2.1.alloc _).2.trans (hb7.mono (Nat.le_succ _))⟩⟩
    have q1:=HN.out.2.1.get 1 _ rfl
    clear hn7 hb7 hF5 h1 h1d h2 h2d h2e cO cF z0 z1 z2 z3 z4 z5 z6 y0 y1 y2 y3 y4 y5 y6 x0 x1 x2 x3 x4 x5 x6
    have cr:=HRR.out w7 HN.out.2.2
    go_wp2_with fail
    refine cr.mono ?_
    rintro e w8 ⟨rfl,hb8⟩
    have HN8:=Lib.hid (And.intro (HN.out.1.later hb8) (HN.out.2.later hb8))
    clear cr hb8 q1
    have hl8:OS (w8.alloc (.cells #[.string R,.string ⟨#[61]⟩] 9)) (W.heap.size+1) (.slice (some ⟨w8.heap.size,0,none⟩) 2 2) [R,⟨#[61]⟩]:=OS.lit w8 HN8.out.2.1.1 [R,⟨#[61]⟩] _ rfl 2 rfl (by decide)
    have hs8:OS (w8.alloc (.cells #[.string R,.string ⟨#[61]⟩] 9)) (W.heap.size+1) v7 ([N]++PS):=HN8.out.1.later ((Below.refl _ _).alloc (Nat.le_refl _) _)
    have hz8:W.heap.size+1≤(w8.alloc (.cells #[.string R,.string ⟨#[61]⟩] 9)).heap.size:=by have:=HN8.out.2.1.1;simp;omega
    have hlen8:([R,⟨#[61]⟩]:List ByteArray).length+([N]++PS).length≤4194304:=by have:=HP.out;simp;omega
    have H8:=Lib.hid (And.intro hl8 (And.intro hs8 (And.intro hz8 hlen8)))
    clear hl8 hs8 hz8 hlen8
    go_wp2_with (at_builtin;refine wpList_append_OS rfl _ _ rfl (W.heap.size+1) (W.heap.size+1) _ _ [R,⟨#[61]⟩] ([N]++PS) rfl H8.out.1 rfl H8.out.2.1 H8.out.2.2.2 H8.out.2.2.1 ?_)
    intro v9 w9 hn9 hb9
    have HN9:=Lib.hid (And.intro hn9 ((HN8.out.2.2.alloc HN8.out.2.2.size _).trans (hb9.mono (Nat.le_succ _))))
    clear hn9 hb9
    go_wp2_with fail
    go_ret
    exact ⟨_,rfl,HN9.out.1.mono (Nat.le_succ _),HN9.out.2⟩
theorem formP_len (m:PMod) (x:PIns):(formP m x).length≤4:=by
  unfold formP
  repeat (first | (split;· simp) | simp)
theorem instruction_any (m:LMod) (x:LI) (b:Nat) (W:World) (hO:Ops W) (hT:TabOk W) (hm:ModIn W.heap.size W m) (hk:LenOk (modD m)) (hx:InsIn W.heap.size W x) (hb:MB m b W) (hB:insB (modD m) (insD x)=true) (hw:insW (insD x)) (hz:insZ (insD x)≤1048576) :
    Calls Tryz.prog 46 #[.pointer (some ⟨b,0,none⟩),.agg (liC x).toArray] W (OwnS ((instrP (modD m) (insD x)).map mkS) W):=by
  have hOf:∀ w,Below W.heap.size W w→Calls Tryz.prog 59 #[.int .i64 x.1.op] w fun e w' => e=.returned (.string (mkS (opT x.1.op)))∧w' = w:=fun w hbw=>Of_any x.1.op w (hO.later hbw)
  have hFm:∀ w,Below W.heap.size W w→Calls Tryz.prog 87 #[.pointer (some ⟨b,0,none⟩),.agg (liC x).toArray] w (OwnS ((formP (modD m) (insD x)).map mkS) w):=fun w hbw =>
    sForm_any m x b w (hT.later hbw) (lasts_Mod _ _ _ _ _ hbw hbw.size hm) hk (lasts_Ins _ _ _ _ _ hbw hbw.size hx) (hb.later hbw) hB hw hz
  have hPS:((formP (modD m) (insD x)).map mkS).length≤16:=by
    rw [List.length_map]
    exact Nat.le_trans (formP_len _ _) (by omega)
  have hr:=insB_reg hB
  have e:instrP (modD m) (insD x)=(if x.1.reg<0 then [] else [regT x.1.reg,[61]])++opT x.1.op::formP (modD m) (insD x):=rfl
  rw [e]
  have hr:x.1.reg≤4095:=hr
  by_cases h0:x.1.reg<0
  · rw [if_pos h0]
    exact insL_n b x.1.op x.1.reg x.1.ty x.1.n x.1.fl x.1.ap x.1.tp x.1.al x.1.tl x.1.ac x.1.tc _ _ W hPS hOf hFm h0
  · rw [if_neg h0]
    exact insL_p b x.1.op x.1.reg x.1.ty x.1.n x.1.fl x.1.ap x.1.tp x.1.al x.1.tl x.1.ac x.1.tc _ _ W hPS hOf hFm (by omega) _ (fun w hbw=>by
      obtain ⟨k,hk2⟩:∃ k:Nat,x.1.reg=k:=⟨x.1.reg.toNat,by omega⟩
      rw [hk2]
      exact sRegister_any k (by omega) w (hT.later hbw))
theorem Bld.later {T:TypeId} {pre:List Value} {B b:Nat} {l:Tx} {w w':World} (h:Bld T pre B b l w) (hb:Below w.heap.size w w'):Bld T pre B b l w':=by
  have hlt:=h.lt
  obtain ⟨hB,p,v,h1,h2,h3,h4⟩:=h
  exact ⟨hB,p,v,(hb.block b hlt).trans h1,h2,ownsRow_below h3 hb,h4⟩
set_option maxRecDepth 100000 in
set_option maxHeartbeats 4000000 in
theorem line_any (m:LMod) (B b:Nat) (l:Tx) (w:World) (v:Value) (xs:List ByteArray) (hB:Bld 59 (modC m) B b l w) (hBw:B≤w.heap.size) (hs:SL w v xs) (hn:xs.length≤1048576) (hlen:l.length+(layT (xs.map byt)).length+1≤140737488355327) :
    Calls Tryz.prog 12 #[.pointer (some ⟨b,0,none⟩),v] w fun e w' => e=.returned (.tuple #[])∧Bld 59 (modC m) B b (l++layT (xs.map byt)++[10]) w'∧Below B w w'∧Kp b w w':=by
  obtain ⟨p,c,rfl⟩:=hs.slice
  have cL:∀ w',Hid (Below w.heap.size w w')→Calls Tryz.prog 40 #[.slice p xs.length c] w' fun e w'' => e=.returned (.string (mkS (layT (xs.map byt))))∧Hid (Below w.heap.size w w''):=fun w' h =>
    (lay_any _ xs w' (hs.later h.out) hn (by omega)).mono fun e w'' ⟨he,hb⟩=>⟨he,Lib.hid (h.out.trans (hb.mono h.out.size))⟩
  have cW:∀ w',Hid (Below w.heap.size w w')→Calls Tryz.prog 39 #[.pointer (some ⟨b,3,none⟩),.string (mkS (layT (xs.map byt)))] w' fun e w'' => e=.returned (.tuple #[.int .i64 (mkS (layT (xs.map byt))).size,.nilIface])∧Hid (Bld 59 (modC m) B b (l++layT (xs.map byt)) w''∧Below B w w''∧Kp b w w''):=fun w' h =>
    (WriteString_any (pre:=modC m) lies_sp B b l (mkS (layT (xs.map byt))) w' (hB.later h.out) (by rw [size_mkS];omega)).mono fun e w'' ⟨he,h1,h2,h3⟩=>⟨he,Lib.hid ⟨by rw [byt_mkS] at h1;exact h1.bld,(h.out.mono hBw).trans h2,(Kp.below b h.out).trans h3⟩⟩
  have cC:∀ w',Bld 59 (modC m) B b (l++layT (xs.map byt)) w'→Calls Tryz.prog 41 #[.pointer (some ⟨b,3,none⟩),.int .u8 10] w' fun e w'' => e=.returned .nilIface∧BldU 59 (modC m) B b (l++layT (xs.map byt)++[10]) w''∧Below B w' w''∧Kp b w' w'':=fun w' h =>
    WriteByte_any (pre:=modC m) lies_sp B b _ 10 w' h (by rw [List.length_append];omega)
  obtain ⟨s,es⟩:∃ s,mkS (layT (xs.map byt))=s:=⟨_,rfl⟩
  obtain ⟨L,eL⟩:∃ L,layT (xs.map byt)=L:=⟨_,rfl⟩
  obtain ⟨n,en⟩:∃ n,xs.length=n:=⟨_,rfl⟩
  simp only [es,en] at cL cW
  simp only [eL] at cC cW ⊢
  have CC:=Lib.hid cC
  have h0:Hid (Below w.heap.size w w):=Lib.hid (Below.refl _ _)
  have h0d:Hid (Below w.heap.size w w.drew):=Lib.hid (below_drew (Below.refl _ _))
  clear hB hs hlen cC es eL
  rw [en]
  clear en hn hBw
  go_enter Tryz.func12,Tryz.ntmps12
  go_upto_region 0 with fail
  go_region_law (first
    | (go_simp
       (with_reducible refine (cL _ ?pre).mono ?_)
       case pre=>(first | exact h0 | exact h0d)
       rintro ee w5 ⟨rfl,h5⟩)
    | (go_simp
       (with_reducible refine (cW _ ?pre).mono ?_)
       case pre=>exact h5
       rintro ee w6 ⟨rfl,h6⟩))
  all_goals
    have cc:=CC.out w6 h6.out.1
    clear cL cW h0 h0d
    go_wp2_with fail
    refine cc.mono ?_
    rintro e w7 ⟨rfl,h1,h2,h3⟩
    have HF:=Lib.hid (And.intro h1.bld (And.intro (h6.out.2.1.trans h2) (h6.out.2.2.trans h3)))
    clear h1 h2 h3 cc
    go_wp2_with fail
    go_end0
    exact ⟨rfl,HF.out.1,HF.out.2.1,HF.out.2.2⟩
end Go.Proofs.YtmmlfmplggbmiaaGreatDoor
namespace Go.Proofs.YtmmlfmplggbmiaaGreatDoor
set_option linter.unusedVariables false
set_option linter.unusedSimpArgs false
def tV (m:PMod) (i:Nat):Tx:=((m.vs.take i).map varT).flatten
def tX (m:PMod) (i:Nat):Tx:=tV m m.vs.length++((m.xs.take i).map extT).flatten
def tF (m:PMod) (i:Nat):Tx:=tX m m.xs.length++((m.fs.take i).map (fnT m)).flatten
def tB (m:PMod) (i:Nat) (f:PFn) (b:Nat):Tx:=tF m i++[102,117,110,99,32]++headT f.nm f.ps f.rt++((f.bs.take b).mapIdx (blkT m)).flatten
def tC (m:PMod) (i:Nat) (f:PFn) (b:Nat) (c:List PIns) (k:Nat):Tx:=tB m i f b++blockT b++[58,10]++((c.take k).map (lineT m)).flatten
theorem tV_step (m:PMod) (i:Nat) (h:i<m.vs.length):tV m (i+1)=tV m i++varT m.vs[i]:=flatT_step _ _ _ h
theorem tX_zero (m:PMod):tX m 0=tV m m.vs.length:=by unfold tX;simp
theorem tX_step (m:PMod) (i:Nat) (h:i<m.xs.length):tX m (i+1)=tX m i++extT m.xs[i]:=by unfold tX;rw [flatT_step _ _ _ h,List.append_assoc]
theorem tF_zero (m:PMod):tF m 0=tX m m.xs.length:=by unfold tF;simp
theorem tF_step (m:PMod) (i:Nat) (h:i<m.fs.length):tF m (i+1)=tF m i++fnT m m.fs[i]:=by unfold tF;rw [flatT_step _ _ _ h,List.append_assoc]
theorem tF_all (m:PMod):tF m m.fs.length=modT m:=by unfold tF tX tV modT;simp
theorem mapIdx_step {α β:Type} (g:Nat→α→β) (l:List α) (b:Nat) (h:b<l.length):(l.take (b+1)).mapIdx g=(l.take b).mapIdx g++[g b l[b]]:=by
  rw [List.take_succ_eq_append_getElem h,List.mapIdx_concat,List.length_take,Nat.min_eq_left (by omega)]
theorem tB_zero (m:PMod) (i:Nat) (f:PFn):tB m i f 0=tF m i++[102,117,110,99,32]++headT f.nm f.ps f.rt:=by unfold tB;simp
theorem tB_step (m:PMod) (i:Nat) (f:PFn) (b:Nat) (h:b<f.bs.length):tB m i f (b+1)=tC m i f b f.bs[b] f.bs[b].length:=by
  unfold tB
  rw [mapIdx_step _ _ _ h]
  unfold tC tB blkT
  simp
theorem tF_fn (m:PMod) (i:Nat) (h:i<m.fs.length):tF m (i+1)=tB m i m.fs[i] m.fs[i].bs.length++[101,110,100,10]:=by
  rw [tF_step m i h]
  unfold fnT tB
  simp
theorem tC_zero (m:PMod) (i:Nat) (f:PFn) (b:Nat) (c:List PIns):tC m i f b c 0=tB m i f b++blockT b++[58,10]:=by unfold tC;simp
theorem tC_step (m:PMod) (i:Nat) (f:PFn) (b:Nat) (c:List PIns) (k:Nat) (h:k<c.length):tC m i f b c (k+1)=tC m i f b c k++lineT m c[k]:=by unfold tC;rw [flatT_step _ _ _ h];simp only [List.append_assoc]
theorem flat_take_le {α:Type} (f:α→Tx) (l:List α) (i:Nat):((l.take i).map f).flatten.length≤(l.map f).flatten.length:=by
  conv=>rhs;rw [← List.take_append_drop i l,List.map_append,List.flatten_append,List.length_append]
  omega
theorem mapIdx_take_le (g:Nat→List PIns→Tx) (l:List (List PIns)) (b:Nat):((l.take b).mapIdx g).flatten.length≤(l.mapIdx g).flatten.length:=by
  conv=>rhs;rw [← List.take_append_drop b l,List.mapIdx_append,List.flatten_append,List.length_append]
  omega
theorem tF_le (m:PMod) (i:Nat):(tF m i).length≤(modT m).length:=by
  rw [← tF_all]
  unfold tF
  have:=flat_take_le (fnT m) m.fs i
  rw [List.length_append,List.length_append,List.take_length]
  omega
theorem tX_le (m:PMod) (i:Nat):(tX m i).length≤(modT m).length:=by
  refine Nat.le_trans ?_ (tF_le m 0)
  rw [tF_zero]
  unfold tX
  have:=flat_take_le extT m.xs i
  rw [List.length_append,List.length_append,List.take_length]
  omega
theorem tV_le (m:PMod) (i:Nat):(tV m i).length≤(modT m).length:=by
  refine Nat.le_trans ?_ (tX_le m 0)
  rw [tX_zero]
  unfold tV
  have:=flat_take_le varT m.vs i
  rw [List.take_length]
  exact this
theorem tB_le (m:PMod) (i:Nat) (h:i<m.fs.length) (b:Nat):(tB m i m.fs[i] b).length+4≤(modT m).length:=by
  refine Nat.le_trans ?_ (tF_le m (i+1))
  rw [tF_fn m i h]
  unfold tB
  have:=mapIdx_take_le (blkT m) m.fs[i].bs b
  simp only [List.length_append,List.length_cons,List.length_nil,List.take_length]
  omega
theorem tC_le (m:PMod) (i:Nat) (h:i<m.fs.length) (b:Nat) (hb:b<m.fs[i].bs.length) (k:Nat):(tC m i m.fs[i] b m.fs[i].bs[b] k).length≤(modT m).length:=by
  have h1:=tB_le m i h (b+1)
  rw [tB_step m i _ b hb] at h1
  refine Nat.le_trans ?_ (Nat.le_trans (Nat.le_add_right _ 4) h1)
  unfold tC
  have:=flat_take_le (lineT m) m.fs[i].bs[b] k
  simp only [List.length_append,List.take_length]
  omega
end Go.Proofs.YtmmlfmplggbmiaaGreatDoor
namespace Go.Proofs.YtmmlfmplggbmiaaGreatDoor
open Go.RowKit Go.Maps
set_option linter.unusedVariables false
set_option linter.unusedSimpArgs false
theorem MWf.len {m:LMod} (h:MWf m):LenOk (modD m) where
  vs:=h.vs
  xs:=fun x hx=>by obtain ⟨y,hy,rfl⟩:=List.mem_map.1 hx;exact h.xs y hy
  fs:=fun x hx=>by obtain ⟨y,hy,rfl⟩:=List.mem_map.1 hx;exact h.fs y hy
  z:=h.z
structure NumOk (m:LMod):Prop where
  vs:∀ v∈m.vs,v.size≤9223372036854775807
  is:∀ f∈m.fs,∀ c∈f.bs,∀ x∈c.code,insW (insD x)
theorem NumOk.ins {m:LMod} (h:NumOk m):∀ f∈(modD m).fs,∀ c∈f.bs,∀ x∈c,insW x:=by
  intro f hf c hc x hx
  obtain ⟨f',hf',rfl⟩:=List.mem_map.1 hf
  obtain ⟨c',hc',rfl⟩:=List.mem_map.1 hc
  obtain ⟨x',hx',rfl⟩:=List.mem_map.1 hx
  exact h.is f' hf' c' hc' x' hx'
def fnAt (m:LMod) (i:Nat):PFn:=((modD m).fs[i]?).getD ⟨⟨#[]⟩,[],0,[]⟩
def blkAt (m:LMod) (i b:Nat):List PIns:=((fnAt m i).bs[b]?).getD []
theorem fnAt_eq {m:LMod} {i:Nat} (h:i<m.fs.length):fnAt m i=fnD m.fs[i]:=by
  unfold fnAt
  rw [show (modD m).fs=m.fs.map fnD from rfl,List.getElem?_map,List.getElem?_eq_getElem h]
  rfl
theorem blkAt_eq {m:LMod} {i b:Nat} (h:i<m.fs.length) (hb:b<m.fs[i].bs.length):blkAt m i b=blkD m.fs[i].bs[b]:=by
  unfold blkAt
  rw [fnAt_eq h,show (fnD m.fs[i]).bs=m.fs[i].bs.map blkD from rfl,List.getElem?_map,List.getElem?_eq_getElem hb]
  rfl
theorem say_var {m:LMod} (hq:sayB wdB (modD m)=true):∀ v∈m.vs,0≤v.size:=by
  intro v hv
  unfold sayB at hq
  simp only [Bool.and_eq_true] at hq
  have:=List.all_eq_true.1 hq.1.1 v hv
  rw [Bool.and_eq_true] at this
  exact of_decide_eq_true this.2
theorem say_ins {m:LMod} (hq:sayB wdB (modD m)=true):∀ f∈m.fs,∀ c∈f.bs,∀ x∈c.code,insB (modD m) (insD x)=true:=by
  intro f hf c hc x hx
  unfold sayB at hq
  simp only [Bool.and_eq_true] at hq
  have:=List.all_eq_true.1 hq.2 (fnD f) (List.mem_map_of_mem hf)
  unfold fnB at this
  rw [Bool.and_eq_true] at this
  have:=List.all_eq_true.1 this.2 (blkD c) (List.mem_map_of_mem hc)
  exact List.all_eq_true.1 this (insD x) (List.mem_map_of_mem hx)
theorem ins_small {m:LMod} (hw:MWf m):∀ f∈m.fs,∀ c∈f.bs,∀ x∈c.code,insZ (insD x)≤1048576:=by
  intro f hf c hc x hx
  have h1:=fs_small m hw f hf
  have h2:=blksZ_mem (List.mem_map_of_mem (f:=blkD) hc)
  have h3:=codeZ_mem (List.mem_map_of_mem (f:=insD) hx)
  have h4:fnZ (fnD f)=1+f.ps.length+blksZ (f.bs.map blkD):=rfl
  have h5:codeZ (blkD c)=codeZ (c.code.map insD):=rfl
  omega
theorem ps_small {m:LMod} (hw:MWf m):(∀ f∈m.fs,f.ps.length≤1048576)∧(∀ x∈m.xs,x.ps.length≤1048576):=by
  refine ⟨fun f hf=>?_,fun x hx=>?_⟩
  · have h1:=fs_small m hw f hf
    have h4:fnZ (fnD f)=1+f.ps.length+blksZ (f.bs.map blkD):=rfl
    omega
  · have h1:extZ (extD x)≤((m.xs.map extD).map extZ).sum:=sum_mem extZ (List.mem_map_of_mem hx)
    have h2:m.vs.length+((m.xs.map extD).map extZ).sum+((m.fs.map fnD).map fnZ).sum≤1048576:=hw.z
    have h4:extZ (extD x)=1+x.ps.length:=rfl
    omega
def SP (m:LMod) (W0:World) (b:Nat) (l:Tx) (w:World):Prop:=Bld 59 (modC m) W0.heap.size b l w∧Below W0.heap.size W0 w
theorem SP.later {m:LMod} {W0:World} {b:Nat} {l:Tx} {w w':World} (h:SP m W0 b l w) (hb:Below w.heap.size w w'):SP m W0 b l w':=⟨h.1.later hb,h.2.trans (hb.mono h.2.size)⟩
theorem SP.alloc {m:LMod} {W0:World} {b:Nat} {l:Tx} {w:World} (h:SP m W0 b l w) (o:Obj):SP m W0 b l (w.alloc o):=h.later ((Below.refl _ _).alloc (Nat.le_refl _) o)
def HBx (k:Nat) (cs:List Value) (T:TypeId) (w:World):Prop:=w.heap[k]? = some (.cells cs.toArray T (0,0))
theorem HBx.later {k:Nat} {cs:List Value} {T:TypeId} {w w':World} (h:HBx k cs T w) (hb:Below w.heap.size w w'):HBx k cs T w':=(hb.block k (heap_lt h)).trans h
theorem HBx.kp {k b:Nat} {cs:List Value} {T:TypeId} {w w':World} (h:HBx k cs T w) (hk:k≠b) (hT:T≠5) (hb:Kp b w w'):HBx k cs T w':=hb k hk _ _ _ hT h
theorem HBx.get {k:Nat} {cs:List Value} {T:TypeId} {w:World} (h:HBx k cs T w) (i:Nat) (u:Value) (hu:cs[i]? = some u):w.cell? ⟨k,i,none⟩=some u:=by
  rw [Lib.cell_of_heap h]
  simpa using hu
structure FSteps (m:LMod) (i:Nat) (f:LFn) (U4:Nat→Tx) (U5:Nat→Nat→Tx) (L L':Tx):Prop where
  b0:U4 0=L++layT [[102,117,110,99],hdT f.nm f.ps,typeT f.rt]++[10]
  c0:∀ b (hb:b<f.bs.length),U5 b 0=U4 b++layT [blockT (b:Int)++[58]]++[10]
  c:∀ b (hb:b<f.bs.length) c,f.bs[b]=c→∀ k (hk:k<c.code.length),U5 b (k+1)=U5 b k++[32,32]++layT (instrP (modD m) (insD c.code[k]))++[10]
  b:∀ b (hb:b<f.bs.length) c,f.bs[b]=c→U4 (b+1)=U5 b c.code.length
  fe:L' = U4 f.bs.length++layT [[101,110,100]]++[10]
  zL:L'.length≤4398046511104
  z4:∀ b,(U4 b).length≤4398046511104
  z5:∀ b (hb:b<f.bs.length) k,(U5 b k).length≤4398046511104
theorem layT_one (p:Tx):layT [p]=p:=by
  show layS [] p=p
  unfold layS
  rw [if_neg fun k=>k.1 rfl]
  rfl
theorem hdT_ne (nm:ByteArray) (ps:List Int):hdT nm ps≠[]:=by unfold hdT;simp
theorem lay_head (w0:Tx) (hw0:w0≠[]) (nm:ByteArray) (ps:List Int) (rt:Int) (h:tyB rt=true):layT [w0,hdT nm ps,typeT rt]++[10]=w0++[32]++headT nm ps rt:=by
  rw [layT_cons hw0]
  simp only [List.map_cons,List.map_nil,List.flatten_cons,List.flatten_nil,beh_ne (hdT_ne _ _),beh_ne (typeT_ne h)]
  unfold headT hdT
  simp
theorem say_rt {m:LMod} (hq:sayB wdB (modD m)=true):(∀ f∈m.fs,tyB f.rt=true)∧∀ x∈m.xs,tyB x.rt=true:=by
  unfold sayB at hq
  simp only [Bool.and_eq_true] at hq
  refine ⟨fun f hf=>?_,fun x hx=>?_⟩
  · have:=List.all_eq_true.1 hq.2 (fnD f) (List.mem_map_of_mem hf)
    unfold fnB at this
    rw [Bool.and_eq_true] at this
    exact head_ty this.1
  · have:=List.all_eq_true.1 hq.1.2 (extD x) (List.mem_map_of_mem hx)
    exact head_ty this
theorem fsteps (m:LMod) (hw:MWf m) (hn:NumOk m) (hq:sayB wdB (modD m)=true) (i:Nat) (h:i<m.fs.length) :
    FSteps m i m.fs[i] (fun b=>tB (modD m) i (fnD m.fs[i]) b) (fun b k=>tC (modD m) i (fnD m.fs[i]) b (blkAt m i b) k) (tF (modD m) i) (tF (modD m) (i+1)):=by
  have hl:=modT_len hw.len hn.vs hn.ins hq
  have lf:(modD m).fs.length=m.fs.length:=by show (m.fs.map fnD).length=_;simp
  have gf:(modD m).fs[i]'(by rw [lf];exact h)=fnD m.fs[i]:=by simp [modD]
  have gb:∀ b (hb:b<m.fs[i].bs.length),(fnD m.fs[i]).bs[b]'(by simpa [fnD] using hb)=blkD m.fs[i].bs[b]:=fun b hb=>by simp [fnD]
  have lb:(fnD m.fs[i]).bs.length=m.fs[i].bs.length:=by simp [fnD]
  have lc:∀ c:LB,(blkD c).length=c.code.length:=fun c=>by simp [blkD]
  have hrt:=(say_rt hq).1 _ (List.getElem_mem h)
  refine ⟨?_,?_,?_,?_,?_,?_,?_,?_⟩
  · show tB (modD m) i (fnD m.fs[i]) 0=_
    rw [tB_zero,List.append_assoc (tF (modD m) i) (layT _),lay_head _ (by simp) _ _ _ hrt]
    show tF (modD m) i++[102,117,110,99,32]++headT m.fs[i].nm m.fs[i].ps m.fs[i].rt=_
    simp
  · intro b hb
    show tC (modD m) i (fnD m.fs[i]) b (blkAt m i b) 0=_
    rw [tC_zero,layT_one]
    simp
  · intro b hb c e k hk
    subst e
    show tC (modD m) i (fnD m.fs[i]) b (blkAt m i b) (k+1)=tC (modD m) i (fnD m.fs[i]) b (blkAt m i b) k++_++_++_
    have hB:=say_ins hq _ (List.getElem_mem h) _ (List.getElem_mem hb) _ (List.getElem_mem hk)
    rw [blkAt_eq h hb,tC_step _ _ _ _ _ k (by rw [lc];exact hk),ins_lay hB]
    simp [lineT,blkD]
  · intro b hb c e
    subst e
    show tB (modD m) i (fnD m.fs[i]) (b+1)=tC (modD m) i (fnD m.fs[i]) b (blkAt m i b) _
    rw [blkAt_eq h hb,tB_step _ _ _ b (by rw [lb];exact hb),gb b hb,lc]
  · show _=tB (modD m) i (fnD m.fs[i]) _++_++_
    rw [tF_fn _ i (by rw [lf];exact h),gf,lb,layT_one]
    simp
  · exact Nat.le_trans (tF_le _ _) hl
  · intro b
    have:=tB_le (modD m) i (by rw [lf];exact h) b
    rw [gf] at this
    show (tB (modD m) i (fnD m.fs[i]) b).length≤_
    omega
  · intro b hb k
    have:=tC_le (modD m) i (by rw [lf];exact h) b (by rw [gf,lb];exact hb) k
    simp only [gf] at this
    rw [gb b hb] at this
    show (tC (modD m) i (fnD m.fs[i]) b (blkAt m i b) k).length≤_
    rw [blkAt_eq h hb]
    exact Nat.le_trans this hl
theorem lineP (m:LMod) (W0:World) (b:Nat) (l:Tx) (w:World) (v:Value) (xs:List ByteArray) (h:SP m W0 b l w) (hs:SL w v xs) (hn:xs.length≤1048576) (L':Tx) (hL:L' = l++layT (xs.map byt)++[10]) (hz:L'.length≤4398046511104) :
    Calls Tryz.prog 12 #[.pointer (some ⟨b,0,none⟩),v] w fun e w' => e=.returned (.tuple #[])∧Hid (SP m W0 b L' w'∧Kp b w w'):=by
  subst hL
  refine (line_any m W0.heap.size b l w v xs h.1 h.2.size hs hn (by simp at hz ⊢;omega)).mono ?_
  rintro e w' ⟨he,h1,h2,h3⟩
  exact ⟨he,Lib.hid ⟨⟨h1,h.2.trans h2⟩,h3⟩⟩
section
variable (m:LMod) (W0:World) (b:Nat) (hO:Ops W0) (hT:TabOk W0) (hm:ModIn W0.heap.size W0 m) (hw:MWf m) (hn:NumOk m) (hq:sayB wdB (modD m)=true)
include hO hT hm hw hn hq
set_option maxRecDepth 100000 in
set_option maxHeartbeats 8000000 in
theorem sFunction_any (i:Nat) (hi:i<m.fs.length) (w:World) (hS:SP m W0 b (tF (modD m) i) w) :
    Calls Tryz.prog 15 #[.pointer (some ⟨b,0,none⟩),.agg (fnC m.fs[i]).toArray] w fun e w' => e=.returned (.tuple #[])∧Hid (SP m W0 b (tF (modD m) (i+1)) w'):=by
  have hst:=fsteps m hw hn hq i hi
  have hfm:=List.getElem_mem hi
  have hnm:=hw.fs _ hfm
  have hps:=(ps_small hw).1 _ hfm
  have hfb:m.fs[i].bs.length≤1048576:=by
    have h1:=fs_small m hw _ hfm
    have h2:=blksZ_len (m.fs[i].bs.map blkD)
    rw [List.length_map] at h2
    have h4:fnZ (fnD m.fs[i])=1+m.fs[i].ps.length+blksZ (m.fs[i].bs.map blkD):=rfl
    omega
  have hfi:=hm.2.2.2.2.2.2 _ hfm
  have hB:=say_ins hq _ hfm
  have hI:=hn.is _ hfm
  have hZ:=ins_small hw _ hfm
  obtain ⟨f,ef⟩:∃ f,m.fs[i]=f:=⟨_,rfl⟩
  rw [ef] at hst hnm hps hfb hfi hB hI hZ ⊢
  clear ef hfm
  obtain ⟨U4,U5,hst⟩:∃ U4 U5,FSteps m i f U4 U5 (tF (modD m) i) (tF (modD m) (i+1)):=⟨_,_,hst⟩
  obtain ⟨L,eL⟩:∃ L,tF (modD m) i=L:=⟨_,rfl⟩
  obtain ⟨L',eL'⟩:∃ L,tF (modD m) (i+1)=L:=⟨_,rfl⟩
  rw [eL] at hst hS
  rw [eL'] at hst ⊢
  clear eL eL'
  obtain ⟨nm,pp,pn,pc,ps,rt,bp,bn,bc,bs⟩:=f
  obtain ⟨hpi,hbi⟩:=hfi
  simp only at hnm hps hfb hpi hbi hB hI hZ
  -- what the calls answer,at any later world of the speller
  have cH:∀ w',Hid (SP m W0 b L w'∧HBx w.heap.size [.string nm,.slice pp pn pc,.int .i64 rt,.slice bp bn bc] 49 w')→Calls Tryz.prog 14 #[.string nm,.slice pp pn pc] w' fun e w'' => e=.returned (.string (mkS (hdT nm ps)))∧Hid (SP m W0 b L w''∧HBx w.heap.size [.string nm,.slice pp pn pc,.int .i64 rt,.slice bp bn bc] 49 w''):=fun w' h =>
    (sHead_any nm pp pn pc ps hnm hps w' (hT.later h.out.1.2) (hpi.lasts lasts_NoMem h.out.1.2 h.out.1.2.size)).mono fun e w'' ⟨he,hb⟩=>⟨he,Lib.hid ⟨h.out.1.later hb,h.out.2.later hb⟩⟩
  have cT:∀ w',Hid (SP m W0 b L w'∧HBx w.heap.size [.string nm,.slice pp pn pc,.int .i64 rt,.slice bp bn bc] 49 w')→Calls Tryz.prog 11 #[.int .i64 rt] w' fun e w'' => e=.returned (.string (mkS (typeT rt)))∧Hid (SP m W0 b L w''∧HBx w.heap.size [.string nm,.slice pp pn pc,.int .i64 rt,.slice bp bn bc] 49 w''):=fun w' h =>
    (sType_any rt w' (hT.later h.out.1.2)).mono fun e w'' ⟨he,hb⟩=>⟨he,Lib.hid ⟨h.out.1.later hb,h.out.2.later hb⟩⟩
  have hbw:w.heap.size≠b:=fun e=>by have h:=hS.1.lt;omega
  have e3:[(⟨#[102,117,110,99]⟩:ByteArray),mkS (hdT nm ps),mkS (typeT rt)].map byt=[[102,117,110,99],hdT nm ps,typeT rt]:=by
    show [byt ⟨#[102,117,110,99]⟩,byt (mkS (hdT nm ps)),byt (mkS (typeT rt))]=_
    rw [byt_mkS,byt_mkS]
    rfl
  have cL1:∀ v w',Hid (SP m W0 b L w'∧HBx w.heap.size [.string nm,.slice pp pn pc,.int .i64 rt,.slice bp bn bc] 49 w'∧SL w' v [(⟨#[102,117,110,99]⟩:ByteArray),mkS (hdT nm ps),mkS (typeT rt)])→Calls Tryz.prog 12 #[.pointer (some ⟨b,0,none⟩),v] w' fun e w'' => e=.returned (.tuple #[])∧Hid (SP m W0 b (U4 0) w''∧HBx w.heap.size [.string nm,.slice pp pn pc,.int .i64 rt,.slice bp bn bc] 49 w''):=fun v w' h =>
    (lineP m W0 b L w' v _ h.out.1 h.out.2.2 (by simp) (U4 0) (by rw [e3];exact hst.b0) (hst.z4 0)).mono fun e w'' ⟨he,hb⟩=>⟨he,Lib.hid ⟨hb.out.1,h.out.2.1.kp hbw (by decide) hb.out.2⟩⟩
  have cB:∀ j (hj:j<bs.length) w',SP m W0 b (U4 j) w'→Calls Tryz.prog 45 #[.int .i64 (j:Int)] w' (StrV (mkS (blockT (j:Int))) w'):=fun j hj w' h=>sBlock_any j (by omega) w' (hT.later h.2)
  have cL2:∀ j (hj:j<bs.length) v w',SP m W0 b (U4 j) w'→SL w' v [mkS (blockT (j:Int))++⟨#[58]⟩]→Calls Tryz.prog 12 #[.pointer (some ⟨b,0,none⟩),v] w' fun e w'' => e=.returned (.tuple #[])∧Hid (SP m W0 b (U5 j 0) w''∧Kp b w' w''):=fun j hj v w' h hs =>
    lineP m W0 b (U4 j) w' v _ h hs (by simp) (U5 j 0) (by
      have e:[mkS (blockT (j:Int))++(⟨#[58]⟩:ByteArray)].map byt=[blockT (j:Int)++[58]]:=by
        show [byt (mkS (blockT (j:Int))++mkS [58])]=_
        rw [mkS_app,byt_mkS]
      rw [e]
      exact hst.c0 j hj) (hst.z5 j hj 0)
  have cL4:∀ v w',SP m W0 b (U4 bs.length) w'→SL w' v [⟨#[101,110,100]⟩]→Calls Tryz.prog 12 #[.pointer (some ⟨b,0,none⟩),v] w' fun e w'' => e=.returned (.tuple #[])∧Hid (SP m W0 b L' w''∧Kp b w' w''):=fun v w' h hs =>
    lineP m W0 b (U4 bs.length) w' v _ h hs (by simp) L' hst.fe hst.zL
  have cW:∀ j (hj:j<bs.length) k (hk:k<bs[j].code.length) w',SP m W0 b (U5 j k) w'→Calls Tryz.prog 39 #[.pointer (some ⟨b,3,none⟩),.string ⟨#[32,32]⟩] w' fun e w'' => e=.returned (.tuple #[.int .i64 2,.nilIface])∧Hid (SP m W0 b (U5 j k++[32,32]) w''∧Kp b w' w''):=fun j hj k hk w' h =>
    (WriteString_any (pre:=modC m) lies_sp W0.heap.size b (U5 j k) ⟨#[32,32]⟩ w' h.1 (by have:=hst.z5 j hj k;show (U5 j k).length+2≤_;omega)).mono fun e w'' ⟨he,h1,h2,h3⟩=>⟨he,Lib.hid ⟨⟨h1.bld,h.2.trans h2⟩,h3⟩⟩
  have cI:∀ j (hj:j<bs.length) k (hk:k<bs[j].code.length) w' l,SP m W0 b l w'→Calls Tryz.prog 46 #[.pointer (some ⟨b,0,none⟩),.agg (liC bs[j].code[k]).toArray] w' (OwnS ((instrP (modD m) (insD bs[j].code[k])).map mkS) w'):=fun j hj k hk w' l h=>by
    have a2:=List.getElem_mem hj
    have a3:=List.getElem_mem hk
    exact instruction_any m _ b w' (hO.later h.2) (hT.later h.2) (lasts_Mod _ _ _ _ _ h.2 h.2.size hm) hw.len (lasts_Ins _ _ _ _ _ h.2 h.2.size (hbi.2.2.2.2 _ a2 |>.2.2.2.2 _ a3)) h.1.mb (hB _ a2 _ a3) (hI _ a2 _ a3) (hZ _ a2 _ a3)
  have cL3:∀ j (hj:j<bs.length) k (hk:k<bs[j].code.length) v w',SP m W0 b (U5 j k++[32,32]) w'→SL w' v ((instrP (modD m) (insD bs[j].code[k])).map mkS)→Calls Tryz.prog 12 #[.pointer (some ⟨b,0,none⟩),v] w' fun e w'' => e=.returned (.tuple #[])∧Hid (SP m W0 b (U5 j (k+1)) w''∧Kp b w' w''):=fun j hj k hk v w' h hs =>
    lineP m W0 b _ w' v _ h hs (by
      rw [List.length_map]
      have h4:=formP_len (modD m) (insD bs[j].code[k])
      unfold instrP
      split <;> simp <;> omega) (U5 j (k+1)) (by
      have e:((instrP (modD m) (insD bs[j].code[k])).map mkS).map byt=instrP (modD m) (insD bs[j].code[k]):=by
        rw [List.map_map]
        conv=>rhs;rw [← List.map_id (instrP (modD m) (insD bs[j].code[k]))]
        exact List.map_congr_left fun x _=>byt_mkS x
      rw [e]
      exact hst.c j hj _ rfl k hk) (hst.z5 j hj (k+1))
  have hb5:∀ j (hj:j<bs.length),U4 (j+1)=U5 j bs[j].code.length:=fun j hj=>hst.b j hj _ rfl
  have hbz:∀ j:Nat,j≤1048576→(mkS (blockT (j:Int))).size≤21:=fun j hj=>by rw [size_mkS];exact blockT_len (by omega)
  have HK:=Lib.hid (And.intro cB (And.intro cL2 (And.intro cL4 (And.intro cW (And.intro cI (And.intro cL3 (And.intro hb5 (And.intro hbz hbi))))))))
  have hbn:bn=bs.length:=hbi.1
  have hbn2:bn≤1048576:=by omega
  have HBN:=Lib.hid hbn
  have hal:Below w.heap.size w (w.alloc (.cells #[.string nm,.slice pp pn pc,.int .i64 rt,.slice bp bn bc] 49)):=(Below.refl _ _).alloc (Nat.le_refl _) _
  have S0:Hid (SP m W0 b L (w.alloc (.cells #[.string nm,.slice pp pn pc,.int .i64 rt,.slice bp bn bc] 49))∧HBx w.heap.size [.string nm,.slice pp pn pc,.int .i64 rt,.slice bp bn bc] 49 (w.alloc (.cells #[.string nm,.slice pp pn pc,.int .i64 rt,.slice bp bn bc] 49))):=Lib.hid ⟨hS.later hal,heap_new _ _⟩
  have SW:=Lib.hid hS.2
  clear hst hnm hps hfb hpi hbi hB hI hZ hO hT hm hw hn hq hS hal cB cL2 cL4 cW cI cL3 hb5 hbz hbn hi e3
  show Calls Tryz.prog 15 #[.pointer (some ⟨b,0,none⟩),.agg #[.string nm,.slice pp pn pc,.int .i64 rt,.slice bp bn bc]] w _
  obtain ⟨s1,es1⟩:∃ s,mkS (hdT nm ps)=s:=⟨_,rfl⟩
  obtain ⟨s2,es2⟩:∃ s,mkS (typeT rt)=s:=⟨_,rfl⟩
  simp only [es1,es2] at cH cT cL1
  clear es1 es2
  go_enter Tryz.func15,Tryz.ntmps15
  go_upto_region 1 with fail
  obtain ⟨w1,ew1⟩:∃ w1,(w.alloc (.cells #[.string nm,.slice pp pn pc,.int .i64 rt,.slice bp bn bc] 49))=w1:=⟨_,rfl⟩
  rw [ew1] at S0 ⊢
  clear ew1
  obtain ⟨F,eF⟩:∃ F,w.heap.size=F:=⟨_,rfl⟩
  simp only [eF] at S0 cH cT cL1 hbw ⊢
  clear eF
  have S0d:Hid (SP m W0 b L w1.drew∧HBx F [.string nm,.slice pp pn pc,.int .i64 rt,.slice bp bn bc] 49 w1.drew):=Lib.hid ⟨S0.out.1.later (below_drew (Below.refl _ _)),S0.out.2.later (below_drew (Below.refl _ _))⟩
  have z0:=S0.out.2.get 0 _ rfl
  have z1:=S0.out.2.get 1 _ rfl
  have z2:=S0.out.2.get 2 _ rfl
  go_region_law (first
    | (go_simp
       (with_reducible refine (cH _ ?pre).mono ?_)
       case pre=>(first | exact S0 | exact S0d)
       rintro ee w5 ⟨rfl,h5⟩
       have y2:=h5.out.2.get 2 _ rfl)
    | (go_simp
       (with_reducible refine (cT _ ?pre).mono ?_)
       case pre=>(first | exact h5 | exact S0 | exact S0d)
       rintro ee w6 ⟨rfl,h6⟩)
    | (go_simp
       (with_reducible refine (cL1 _ _ ?pre).mono ?_)
       case pre=>(exact Lib.hid ⟨h6.out.1.alloc _,h6.out.2.later ((Below.refl _ _).alloc (Nat.le_refl _) _),(OS.lit w6 (Nat.le_refl _) [(⟨#[102,117,110,99]⟩:ByteArray),s1,s2] _ rfl 3 rfl (by decide)).sl⟩)
       rintro ee w7 ⟨rfl,h7⟩))
  all_goals
    have x3:=h7.out.2.get 3 _ rfl
    clear cH cT cL1 S0 S0d z0 z1 z2 y2 h5 h6
    go_wp2_with fail
    go_loopw [22] (fun ti wr=>∃ j:Nat,j≤bn∧ti=.int .i64 j∧Hid (SP m W0 b (U4 j) wr)) (fun ti _=>bn - (intOf ti).toNat)
    case atStart=>exact ⟨0,Nat.zero_le _,rfl,Lib.hid h7.out.1⟩
    case round =>
      obtain ⟨j,hj,rfl,hS⟩:=hrel
      generalize wr=wo at *
      by_cases hlt:j<bn
      · have hj2:j<bs.length:=by have:=HBN.out;omega
        obtain ⟨g,rfl,hgb,g0⟩:=row_B HK.out.2.2.2.2.2.2.2.2 j hj2
        have hci:=HK.out.2.2.2.2.2.2.2.2.2.2.2.2 _ (List.getElem_mem hj2)
        have g0:=(hS.out.2.cell (p:=g.add j) (by rw [add_block];exact hgb)).trans g0
        have hcB:=HK.out.1 j hj2
        have hcL2:=HK.out.2.1 j hj2
        have hcW:=HK.out.2.2.2.1 j hj2
        have hcI:=HK.out.2.2.2.2.1 j hj2
        have hcL3:=HK.out.2.2.2.2.2.1 j hj2
        have hb5:=HK.out.2.2.2.2.2.2.1 j hj2
        have hj20:j≤1048576:=by omega
        have hbz:=HK.out.2.2.2.2.2.2.2.1 j hj20
        obtain ⟨c,ec⟩:∃ c,bs[j]=c:=⟨_,rfl⟩
        have hcW:∀ k (hk:k<c.code.length) w',SP m W0 b (U5 j k) w'→Calls Tryz.prog 39 #[.pointer (some ⟨b,3,none⟩),.string ⟨#[32,32]⟩] w' fun e w'' => e=.returned (.tuple #[.int .i64 2,.nilIface])∧Hid (SP m W0 b (U5 j k++[32,32]) w''∧Kp b w' w''):=by subst ec;exact hcW
        have hcI:∀ k (hk:k<c.code.length) w' l,SP m W0 b l w'→Calls Tryz.prog 46 #[.pointer (some ⟨b,0,none⟩),.agg (liC c.code[k]).toArray] w' (OwnS ((instrP (modD m) (insD c.code[k])).map mkS) w'):=by subst ec;exact hcI
        have hcL3:∀ k (hk:k<c.code.length) v w',SP m W0 b (U5 j k++[32,32]) w'→SL w' v ((instrP (modD m) (insD c.code[k])).map mkS)→Calls Tryz.prog 12 #[.pointer (some ⟨b,0,none⟩),v] w' fun e w'' => e=.returned (.tuple #[])∧Hid (SP m W0 b (U5 j (k+1)) w''∧Kp b w' w''):=by subst ec;exact hcL3
        rw [ec] at g0 hci hb5
        clear ec
        obtain ⟨cp,cn,cc,code⟩:=c
        simp only at g0 hb5 hcI hcL3
        have hci:ListIn liC InsIn W0.heap.size W0 cp cn cc code:=hci
        have hcn:cn=code.length:=hci.1
        have hcn2:cn≤9223372036854775807:=by have h1:=hci.2.1;have h2:=hci.2.2.1;unfold maxLen at h2;omega
        obtain ⟨s,es⟩:∃ s,mkS (blockT (j:Int))=s:=⟨_,rfl⟩
        simp only [es] at hcB hcL2
        rw [es] at hbz
        clear es
        have hbo:wo.heap.size≠b:=fun e=>by have h:=hS.out.1.lt;omega
        have hal:Below wo.heap.size wo (wo.alloc (.cells #[.slice cp cn cc] 46)):=(Below.refl _ _).alloc (Nat.le_refl _) _
        have S1:Hid (SP m W0 b (U4 j) (wo.alloc (.cells #[.slice cp cn cc] 46))∧HBx wo.heap.size [.slice cp cn cc] 46 (wo.alloc (.cells #[.slice cp cn cc] 46))):=Lib.hid ⟨hS.out.later hal,heap_new _ _⟩
        have hcb:=hcB _ S1.out.1
        have HC:=Lib.hid (And.intro hcL2 (And.intro hcW (And.intro hcI (And.intro hcL3 (And.intro hb5 (And.intro hci (And.intro hcn hbo)))))))
        clear hcB hcL2 hcW hcI hcL3 hb5 hci hcn hbo hS hal
        go_wp2_with fail
        refine hcb.mono ?_
        rintro e w2 ⟨rfl,hb2⟩
        have S2:=Lib.hid (And.intro (S1.out.1.later hb2) (S1.out.2.later hb2))
        have hal2:Below w2.heap.size w2 (w2.alloc (.cells #[.string (s++⟨#[58]⟩)] 9)):=(Below.refl _ _).alloc (Nat.le_refl _) _
        have hcl:=HC.out.1 (.slice (some ⟨w2.heap.size,0,none⟩) 1 1) (w2.alloc (.cells #[.string (s++⟨#[58]⟩)] 9)) (S2.out.1.later hal2) (OS.lit w2 (Nat.le_refl _) [s++(⟨#[58]⟩:ByteArray)] _ rfl 1 rfl (by decide)).sl
        have S2b:=Lib.hid (S2.out.2.later hal2)
        clear hcb hb2 g0 hal2 S1 S2
        go_wp2_with fail
        refine hcl.mono ?_
        rintro e w3 ⟨rfl,h3⟩
        have S3:=Lib.hid (And.intro h3.out.1 (S2b.out.kp HC.out.2.2.2.2.2.2.2 (by decide) h3.out.2))
        clear hcl h3 S2b
        have q0:=S3.out.2.get 0 _ rfl
        go_wp2_with fail
        go_loopw [36] (fun ti wr=>∃ k:Nat,k≤cn∧ti=.int .i64 k∧Hid (SP m W0 b (U5 j k) wr)) (fun ti _=>cn - (intOf ti).toNat)
        case atStart=>exact ⟨0,Nat.zero_le _,rfl,Lib.hid S3.out.1⟩
        case round =>
          obtain ⟨k,hk,rfl,hS⟩:=hrel
          generalize wr=wy at *
          by_cases hltk:k<cn
          · have hk2:k<code.length:=by have:=HC.out.2.2.2.2.2.2.1;omega
            obtain ⟨h_,rfl,hhb,i0,i1,i2,i3,i4,i5,i6⟩:=row_L HC.out.2.2.2.2.2.1 k hk2
            have k0:=(hS.out.2.cell (p:=h_.add (k * 7)) (by rw [add_block];exact hhb)).trans i0
            have k1:=(hS.out.2.cell (p:=⟨(h_.add (k * 7)).block,(h_.add (k * 7)).off+1,none⟩) (by dsimp only;rw [add_block];exact hhb)).trans i1
            have k2:=(hS.out.2.cell (p:=⟨(h_.add (k * 7)).block,(h_.add (k * 7)).off+2,none⟩) (by dsimp only;rw [add_block];exact hhb)).trans i2
            have k3:=(hS.out.2.cell (p:=⟨(h_.add (k * 7)).block,(h_.add (k * 7)).off+3,none⟩) (by dsimp only;rw [add_block];exact hhb)).trans i3
            have k4:=(hS.out.2.cell (p:=⟨(h_.add (k * 7)).block,(h_.add (k * 7)).off+4,none⟩) (by dsimp only;rw [add_block];exact hhb)).trans i4
            have k5:=(hS.out.2.cell (p:=⟨(h_.add (k * 7)).block,(h_.add (k * 7)).off+5,none⟩) (by dsimp only;rw [add_block];exact hhb)).trans i5
            have k6:=(hS.out.2.cell (p:=⟨(h_.add (k * 7)).block,(h_.add (k * 7)).off+6,none⟩) (by dsimp only;rw [add_block];exact hhb)).trans i6
            have hcW:=HC.out.2.1 k hk2
            have hcI:=HC.out.2.2.1 k hk2
            have hcL3:=HC.out.2.2.2.1 k hk2
            obtain ⟨x,ex⟩:∃ x,code[k]=x:=⟨_,rfl⟩
            simp only [ex] at hcI hcL3 k0 k1 k2 k3 k4 k5 k6
            obtain ⟨IL,eIL⟩:∃ l,(instrP (modD m) (insD x)).map mkS=l:=⟨_,rfl⟩
            simp only [eIL] at hcI hcL3
            clear ex eIL i0 i1 i2 i3 i4 i5 i6
            obtain ⟨⟨op,rg,ty,nn,fl,ap,al,ac,tp,tl,tc,rs⟩,ts⟩:=x
            simp only at k0 k1 k2 k3 k4 k5 k6
            have hcI:∀ w' l,SP m W0 b l w'→Calls Tryz.prog 46 #[.pointer (some ⟨b,0,none⟩),.agg #[.int .i64 op,.int .i64 rg,.int .i64 ty,.int .i64 nn,.int .i64 fl,.slice ap al ac,.slice tp tl tc]] w' (OwnS IL w'):=hcI
            have hby:wy.heap.size≠b:=fun e=>by have h:=hS.out.1.lt;omega
            have hal:Below wy.heap.size wy (wy.alloc (.cells #[.int .i64 op,.int .i64 rg,.int .i64 ty,.int .i64 nn,.int .i64 fl,.slice ap al ac,.slice tp tl tc] 43)):=(Below.refl _ _).alloc (Nat.le_refl _) _
            have S4:Hid (SP m W0 b (U5 j k) (wy.alloc (.cells #[.int .i64 op,.int .i64 rg,.int .i64 ty,.int .i64 nn,.int .i64 fl,.slice ap al ac,.slice tp tl tc] 43))∧HBx wy.heap.size [.int .i64 op,.int .i64 rg,.int .i64 ty,.int .i64 nn,.int .i64 fl,.slice ap al ac,.slice tp tl tc] 43 (wy.alloc (.cells #[.int .i64 op,.int .i64 rg,.int .i64 ty,.int .i64 nn,.int .i64 fl,.slice ap al ac,.slice tp tl tc] 43))):=Lib.hid ⟨hS.out.later hal,heap_new _ _⟩
            have hcw:=hcW _ S4.out.1
            have HD:=Lib.hid (And.intro hcI (And.intro hcL3 hby))
            clear hcI hcL3 hby hcW hS hal q0
            go_wp2_with fail
            refine hcw.mono ?_
            rintro e w5 ⟨rfl,h5⟩
            have S5:=Lib.hid (And.intro h5.out.1 (S4.out.2.kp HD.out.2.2 (by decide) h5.out.2))
            clear hcw h5 S4 k0 k1 k2 k3 k4 k5 k6
            have y0:=S5.out.2.get 0 _ rfl
            have y1:=S5.out.2.get 1 _ rfl
            have y2:=S5.out.2.get 2 _ rfl
            have y3:=S5.out.2.get 3 _ rfl
            have y4:=S5.out.2.get 4 _ rfl
            have y5:=S5.out.2.get 5 _ rfl
            have y6:=S5.out.2.get 6 _ rfl
            have hci:=HD.out.1 w5 _ S5.out.1
            go_wp2_with fail
            refine hci.mono ?_
            rintro e w6 ⟨v,rfl,hO,hb6⟩
            have hcl:=HD.out.2.1 v w6 (S5.out.1.later hb6) hO.sl
            clear hci hO hb6 y0 y1 y2 y3 y4 y5 y6
            go_wp2_with fail
            refine hcl.mono ?_
            rintro e w7 ⟨rfl,h7_⟩
            have S7:=Lib.hid h7_.out.1
            clear hcl h7_
            go_wp2_with fail
            exact ⟨⟨k+1,by omega,by go_num,S7⟩,by simp [intOf];omega⟩
          · obtain rfl:cn=k:=by omega
            have hU:U5 j cn=U4 (j+1):=by rw [HC.out.2.2.2.2.1,HC.out.2.2.2.2.2.2.1]
            have S7:=Lib.hid hS.out
            rw [hU] at S7
            clear hS q0 hU
            go_wp2_with fail
            exact ⟨⟨j+1,by omega,by go_num,S7⟩,by simp [intOf];omega⟩
      · obtain rfl:bn=j:=by omega
        have S8:Hid (SP m W0 b (U4 bs.length) wo):=Lib.hid (by have:=hS.out;rw [HBN.out] at this;exact this)
        have hal:Below wo.heap.size wo (wo.alloc (.cells #[.string ⟨#[101,110,100]⟩] 9)):=(Below.refl _ _).alloc (Nat.le_refl _) _
        have hcl:=HK.out.2.2.1 (.slice (some ⟨wo.heap.size,0,none⟩) 1 1) (wo.alloc (.cells #[.string ⟨#[101,110,100]⟩] 9)) (S8.out.later hal) (OS.lit wo (Nat.le_refl _) [(⟨#[101,110,100]⟩:ByteArray)] _ rfl 1 rfl (by decide)).sl
        clear hS hal
        go_wp2_with fail
        refine hcl.mono ?_
        rintro e w3 ⟨rfl,h3⟩
        have S9:=Lib.hid h3.out.1
        clear hcl h3
        go_wp2_with fail
        go_end0
        exact ⟨rfl,S9⟩
end
theorem say_wd {m:LMod} (hq:sayB wdB (modD m)=true):∀ v∈m.vs,byt v.nm≠[]:=by
  intro v hv
  unfold sayB at hq
  simp only [Bool.and_eq_true] at hq
  have:=List.all_eq_true.1 hq.1.1 v hv
  rw [Bool.and_eq_true] at this
  have h:=this.1
  unfold wdB at h
  rw [Bool.and_eq_true] at h
  have h:=of_decide_eq_true h.1
  intro e
  rw [e] at h
  simp at h
theorem lay_var (v:PVar) (hv:byt v.nm≠[]):layT [[103,108,111,98,97,108],byt v.nm,decI v.size]++[10]=varT v:=by
  rw [layT_cons (by simp)]
  simp only [List.map_cons,List.map_nil,List.flatten_cons,List.flatten_nil,beh_ne hv,beh_ne (dec_ne _),decI]
  unfold varT
  simp [decI]
theorem tV_line (m:LMod) (hq:sayB wdB (modD m)=true) (i:Nat) (h:i<m.vs.length) (k:Nat) (hk:m.vs[i].size=(k:Int)):tV (modD m) (i+1)=tV (modD m) i++layT ([(⟨#[103,108,111,98,97,108]⟩:ByteArray),m.vs[i].nm,mkS (Lib.decDigits k)].map byt)++[10]:=by
  rw [tV_step (modD m) i h,List.append_assoc]
  congr 1
  rw [show (modD m).vs[i]'h=m.vs[i] from rfl,← lay_var _ (say_wd hq _ (List.getElem_mem h))]
  show layT [[103,108,111,98,97,108],byt m.vs[i].nm,decI m.vs[i].size]++[10]=layT [[103,108,111,98,97,108],byt m.vs[i].nm,byt (mkS (Lib.decDigits k))]++[10]
  rw [byt_mkS,hk]
  rfl
theorem tX_line (m:LMod) (hq:sayB wdB (modD m)=true) (i:Nat) (h:i<m.xs.length):tX (modD m) (i+1)=tX (modD m) i++layT ([(⟨#[101,120,116,101,114,110]⟩:ByteArray),mkS (hdT m.xs[i].nm m.xs[i].ps),mkS (typeT m.xs[i].rt)].map byt)++[10]:=by
  have lx:(modD m).xs.length=m.xs.length:=by show (m.xs.map extD).length=_;simp
  have gx:(modD m).xs[i]'(by rw [lx];exact h)=extD m.xs[i]:=by simp [modD]
  rw [tX_step (modD m) i (by rw [lx];exact h),gx,List.append_assoc]
  congr 1
  show _=layT [[101,120,116,101,114,110],byt (mkS (hdT m.xs[i].nm m.xs[i].ps)),byt (mkS (typeT m.xs[i].rt))]++[10]
  rw [byt_mkS,byt_mkS,lay_head _ (by simp) _ _ _ ((say_rt hq).2 _ (List.getElem_mem h))]
  show extT (extD m.xs[i])=_
  unfold extT extD
  simp
theorem build_sp (w:World) (vp xp fp:Option Addr) (vn vc xn xc fn fc:Nat):(Instr.build 59 #[(0,.agg #[.slice vp vn vc,.slice xp xn xc,.slice fp fn fc])]).run Tryz.prog w=.ok (.agg #[.slice vp vn vc,.slice xp xn xc,.slice fp fn fc,.pointer none,.slice none 0 0]) w:=run_build _ _ _ _ (by kernel_rfl)
set_option maxRecDepth 100000 in
set_option maxHeartbeats 8000000 in
theorem Text_any (m:LMod) (W0:World) (hO:Ops W0) (hT:TabOk W0) (hm:ModIn W0.heap.size W0 m) (hw:MWf m) (hn:NumOk m) :
    Calls Tryz.prog 7 #[.agg (modC m).toArray] W0 (StrV (if sayB wdB (modD m)=true then mkS (modT (modD m)) else ⟨#[]⟩) W0):=by
  have hal0:Below W0.heap.size W0 (W0.alloc (.cells (modC m).toArray 26)):=(Below.refl _ _).alloc (Nat.le_refl _) _
  have cs:=Sayable_any m (W0.alloc (.cells (modC m).toArray 26)) (hO.later hal0) (lasts_Mod _ _ _ _ _ hal0 hal0.size hm) hw
  obtain ⟨q,eq⟩:∃ q,sayB wdB (modD m)=q:=⟨_,rfl⟩
  obtain ⟨R,eR⟩:∃ R,(if sayB wdB (modD m)=true then mkS (modT (modD m)) else ⟨#[]⟩)=R:=⟨_,rfl⟩
  have HR:Hid ((q=false→R=⟨#[]⟩)∧(q=true→R=mkS (modT (modD m)))):=Lib.hid ⟨fun h=>by rw [← eR,eq,h];rfl,fun h=>by rw [← eR,eq,h];rfl⟩
  rw [eR]
  rw [eq] at cs
  have HQ:=Lib.hid eq
  clear eR eq
  -- what the calls answer
  have cV:q=true→∀ i (hi:i<m.vs.length),∃ k:Nat,m.vs[i].size=(k:Int)∧(k≤9223372036854775807)∧∀ b (hbB:W0.heap.size≠b),(∀ w,SP m W0 b (tV (modD m) i) w→Calls Tryz.prog 13 #[.int .i64 (k:Int)] w (StrV (mkS (Lib.decDigits k)) w))∧∀ v w,SP m W0 b (tV (modD m) i) w→SL w v [(⟨#[103,108,111,98,97,108]⟩:ByteArray),m.vs[i].nm,mkS (Lib.decDigits k)]→Calls Tryz.prog 12 #[.pointer (some ⟨b,0,none⟩),v] w fun e w' => e=.returned (.tuple #[])∧Hid (SP m W0 b (tV (modD m) (i+1)) w'∧Kp b w w'):=fun hq i hi=>by
    have hl:=modT_len hw.len hn.vs hn.ins (by rw [HQ.out,hq])
    have h0:=say_var (m:=m) (by rw [HQ.out,hq]) _ (List.getElem_mem hi)
    have h9:=hn.vs _ (List.getElem_mem hi)
    obtain ⟨k,hk⟩:∃ k:Nat,m.vs[i].size=k:=⟨m.vs[i].size.toNat,by omega⟩
    refine ⟨k,hk,by omega,fun b hbB=>⟨fun w h=>itoa_any k (by omega) w (hT.later h.2),fun v w h hs=>?_⟩⟩
    exact lineP m W0 b _ w v _ h hs (by simp) (tV (modD m) (i+1)) (tV_line m (by rw [HQ.out,hq]) i hi k hk) (Nat.le_trans (tV_le _ _) hl)
  have cX:q=true→∀ i (hi:i<m.xs.length) b,(∀ w,SP m W0 b (tX (modD m) i) w→Calls Tryz.prog 14 #[.string m.xs[i].nm,.slice m.xs[i].pp m.xs[i].pn m.xs[i].pc] w (StrV (mkS (hdT m.xs[i].nm m.xs[i].ps)) w))∧(∀ w,SP m W0 b (tX (modD m) i) w→Calls Tryz.prog 11 #[.int .i64 m.xs[i].rt] w (StrV (mkS (typeT m.xs[i].rt)) w))∧∀ v w,SP m W0 b (tX (modD m) i) w→SL w v [(⟨#[101,120,116,101,114,110]⟩:ByteArray),mkS (hdT m.xs[i].nm m.xs[i].ps),mkS (typeT m.xs[i].rt)]→Calls Tryz.prog 12 #[.pointer (some ⟨b,0,none⟩),v] w fun e w' => e=.returned (.tuple #[])∧Hid (SP m W0 b (tX (modD m) (i+1)) w'∧Kp b w w'):=fun hq i hi b=>by
    have hl:=modT_len hw.len hn.vs hn.ins (by rw [HQ.out,hq])
    have hxm:=List.getElem_mem hi
    refine ⟨fun w h=>sHead_any _ _ _ _ _ (hw.xs _ hxm) ((ps_small hw).2 _ hxm) w (hT.later h.2) (ListIn.lasts lasts_NoMem (hm.2.1.2.2.2.2 _ hxm) h.2 h.2.size),fun w h=>sType_any _ w (hT.later h.2),fun v w h hs=>?_⟩
    exact lineP m W0 b _ w v _ h hs (by simp) (tX (modD m) (i+1)) (tX_line m (by rw [HQ.out,hq]) i hi) (Nat.le_trans (tX_le _ _) hl)
  have cF:q=true→∀ i (hi:i<m.fs.length) b w,SP m W0 b (tF (modD m) i) w→Calls Tryz.prog 15 #[.pointer (some ⟨b,0,none⟩),.agg (fnC m.fs[i]).toArray] w fun e w' => e=.returned (.tuple #[])∧Hid (SP m W0 b (tF (modD m) (i+1)) w'):=fun hq i hi b w h =>
    sFunction_any m W0 b hO hT hm hw hn (by rw [HQ.out,hq]) i hi w h
  have hA:tV (modD m) 0=[]∧tX (modD m) 0=tV (modD m) m.vs.length∧tF (modD m) 0=tX (modD m) m.xs.length∧tF (modD m) m.fs.length=modT (modD m):=by
    have lx:(modD m).xs.length=m.xs.length:=by show (m.xs.map extD).length=_;simp
    have lf:(modD m).fs.length=m.fs.length:=by show (m.fs.map fnD).length=_;simp
    refine ⟨rfl,tX_zero _,?_,?_⟩
    · rw [tF_zero,lx]
    · rw [← lf,tF_all]
  obtain ⟨A1,e1⟩:∃ A,tV (modD m)=A:=⟨_,rfl⟩
  obtain ⟨A2,e2⟩:∃ A,tX (modD m)=A:=⟨_,rfl⟩
  obtain ⟨A3,e3⟩:∃ A,tF (modD m)=A:=⟨_,rfl⟩
  obtain ⟨T,eT⟩:∃ T,modT (modD m)=T:=⟨_,rfl⟩
  simp only [e1,e2,e3,eT] at cV cX cF hA HR
  have S0:Hid (HBx W0.heap.size (modC m) 26 (W0.alloc (.cells (modC m).toArray 26))∧Below W0.heap.size W0 (W0.alloc (.cells (modC m).toArray 26))):=Lib.hid ⟨heap_new _ _,hal0⟩
  have mk:∀ w,Hid (HBx W0.heap.size (modC m) 26 w∧Below W0.heap.size W0 w)→Hid (SP m W0 w.heap.size [] (w.alloc (.cells (modC m++[Value.pointer none,Value.slice none 0 0]).toArray 59))∧HBx W0.heap.size (modC m) 26 (w.alloc (.cells (modC m++[Value.pointer none,Value.slice none 0 0]).toArray 59))∧W0.heap.size≠w.heap.size):=fun w h=>by
    have hal:Below w.heap.size w (w.alloc (.cells (modC m++[Value.pointer none,Value.slice none 0 0]).toArray 59)):=(Below.refl _ _).alloc (Nat.le_refl _) _
    have hlt:=heap_lt h.out.1
    exact Lib.hid ⟨⟨⟨h.out.2.size,.pointer none,.slice none 0 0,heap_new _ _,.inl rfl,⟨rfl,.inl ⟨rfl,rfl⟩⟩,by simp [Value.ownBlock]⟩,h.out.2.trans (hal.mono h.out.2.size)⟩,h.out.1.later hal,by omega⟩
  have cS:∀ b w l,SP m W0 b l w→Calls Tryz.prog 16 #[.pointer (some ⟨b,3,none⟩)] w fun e w' => e=.returned (.string (mkS l))∧Below W0.heap.size w w':=fun b w l h=>String_any (pre:=modC m) W0.heap.size b l w h.1 h.2.size
  have HM:=Lib.hid hm
  clear hal0 e1 e2 e3 eT hO hT hm hw hn HQ
  obtain ⟨vp,vn,vc,vs,xp,xn,xc,xs,fp,fn,fc,fs⟩:=m
  have HM:Hid (ListIn varC NoMem W0.heap.size W0 vp vn vc vs∧ListIn extC ExtIn W0.heap.size W0 xp xn xc xs∧ListIn fnC FnIn W0.heap.size W0 fp fn fc fs):=HM
  have hvn:vn≤9223372036854775807:=by have h1:=HM.out.1.2.1;have h2:=HM.out.1.2.2.1;unfold maxLen at h2;omega
  have hxn:xn≤9223372036854775807:=by have h1:=HM.out.2.1.2.1;have h2:=HM.out.2.1.2.2.1;unfold maxLen at h2;omega
  have hfn:fn≤9223372036854775807:=by have h1:=HM.out.2.2.2.1;have h2:=HM.out.2.2.2.2.1;unfold maxLen at h2;omega
  have HL:=Lib.hid (And.intro HM.out.1.1 (And.intro HM.out.2.1.1 HM.out.2.2.1))
  obtain ⟨M,eM⟩:∃ M:LMod,(⟨vp,vn,vc,vs,xp,xn,xc,xs,fp,fn,fc,fs⟩:LMod)=M:=⟨_,rfl⟩
  have cs:Calls Tryz.prog 8 #[.agg #[.slice vp vn vc,.slice xp xn xc,.slice fp fn fc]] (W0.alloc (.cells #[.slice vp vn vc,.slice xp xn xc,.slice fp fn fc] 26)) (Ans (.bool q) (W0.alloc (.cells #[.slice vp vn vc,.slice xp xn xc,.slice fp fn fc] 26))):=cs
  have S0:Hid (HBx W0.heap.size [.slice vp vn vc,.slice xp xn xc,.slice fp fn fc] 26 (W0.alloc (.cells #[.slice vp vn vc,.slice xp xn xc,.slice fp fn fc] 26))∧Below W0.heap.size W0 (W0.alloc (.cells #[.slice vp vn vc,.slice xp xn xc,.slice fp fn fc] 26))):=S0
  have mk:∀ w,Hid (HBx W0.heap.size [.slice vp vn vc,.slice xp xn xc,.slice fp fn fc] 26 w∧Below W0.heap.size W0 w)→Hid (SP M W0 w.heap.size [] (w.alloc (.cells #[.slice vp vn vc,.slice xp xn xc,.slice fp fn fc,.pointer none,.slice none 0 0] 59))∧HBx W0.heap.size [.slice vp vn vc,.slice xp xn xc,.slice fp fn fc] 26 (w.alloc (.cells #[.slice vp vn vc,.slice xp xn xc,.slice fp fn fc,.pointer none,.slice none 0 0] 59))∧W0.heap.size≠w.heap.size):=by subst eM;exact mk
  have cV:q=true→∀ i (hi:i<vs.length),∃ k:Nat,vs[i].size=(k:Int)∧(k≤9223372036854775807)∧∀ b (hbB:W0.heap.size≠b),(∀ w,SP M W0 b (A1 i) w→Calls Tryz.prog 13 #[.int .i64 (k:Int)] w (StrV (mkS (Lib.decDigits k)) w))∧∀ v w,SP M W0 b (A1 i) w→SL w v [(⟨#[103,108,111,98,97,108]⟩:ByteArray),vs[i].nm,mkS (Lib.decDigits k)]→Calls Tryz.prog 12 #[.pointer (some ⟨b,0,none⟩),v] w fun e w' => e=.returned (.tuple #[])∧Hid (SP M W0 b (A1 (i+1)) w'∧Kp b w w'):=by subst eM;exact cV
  have cX:q=true→∀ i (hi:i<xs.length) b,(∀ w,SP M W0 b (A2 i) w→Calls Tryz.prog 14 #[.string xs[i].nm,.slice xs[i].pp xs[i].pn xs[i].pc] w (StrV (mkS (hdT xs[i].nm xs[i].ps)) w))∧(∀ w,SP M W0 b (A2 i) w→Calls Tryz.prog 11 #[.int .i64 xs[i].rt] w (StrV (mkS (typeT xs[i].rt)) w))∧∀ v w,SP M W0 b (A2 i) w→SL w v [(⟨#[101,120,116,101,114,110]⟩:ByteArray),mkS (hdT xs[i].nm xs[i].ps),mkS (typeT xs[i].rt)]→Calls Tryz.prog 12 #[.pointer (some ⟨b,0,none⟩),v] w fun e w' => e=.returned (.tuple #[])∧Hid (SP M W0 b (A2 (i+1)) w'∧Kp b w w'):=by subst eM;exact cX
  have cF:q=true→∀ i (hi:i<fs.length) b w,SP M W0 b (A3 i) w→Calls Tryz.prog 15 #[.pointer (some ⟨b,0,none⟩),.agg (fnC fs[i]).toArray] w fun e w' => e=.returned (.tuple #[])∧Hid (SP M W0 b (A3 (i+1)) w'):=by subst eM;exact cF
  have cS:∀ b w l,SP M W0 b l w→Calls Tryz.prog 16 #[.pointer (some ⟨b,3,none⟩)] w fun e w' => e=.returned (.string (mkS l))∧Below W0.heap.size w w':=by subst eM;exact cS
  have hA:A1 0=[]∧A2 0=A1 vs.length∧A3 0=A2 xs.length∧A3 fs.length=T:=hA
  have HK:=Lib.hid (And.intro cV (And.intro cX (And.intro cF (And.intro cS (And.intro hA mk)))))
  show Calls Tryz.prog 7 #[.agg #[.slice vp vn vc,.slice xp xn xc,.slice fp fn fc]] W0 _
  clear cV cX cF cS hA mk eM
  go_enter Tryz.func7,Tryz.ntmps7
  go_wp2_with fail
  refine cs.mono ?_
  rintro e w1 ⟨rfl,hb1⟩
  have S1:=Lib.hid (And.intro (S0.out.1.later hb1) (S0.out.2.trans (hb1.mono S0.out.2.size)))
  clear cs hb1 S0
  have y0:=S1.out.1.get 0 _ rfl
  have y1:=S1.out.1.get 1 _ rfl
  have y2:=S1.out.1.get 2 _ rfl
  cases q
  case false =>
    go_wp2_with fail
    go_ret
    exact ⟨by rw [HR.out.1 (by first | rfl | trivial)];rfl,S1.out.2⟩
  case true =>
  have S2:=HK.out.2.2.2.2.2 w1 S1
  have y0:=S2.out.2.1.get 0 _ rfl
  have hbd:=fun w=>build_sp w vp xp fp vn vc xn xc fn fc
  go_upto_region 4 with fail
  obtain ⟨w2,ew2⟩:∃ w2,(w1.alloc (.cells #[.slice vp vn vc,.slice xp xn xc,.slice fp fn fc,.pointer none,.slice none 0 0] 59))=w2:=⟨_,rfl⟩
  rw [ew2] at S2 y0 ⊢
  obtain ⟨b,eb⟩:∃ b,w1.heap.size=b:=⟨_,rfl⟩
  rw [eb] at S2 ⊢
  clear ew2 eb hbd y1 y2 S1
  have hbB:W0.heap.size≠b:=S2.out.2.2
  have HB:=Lib.hid hbB
  clear hbB
  go_wp2_with fail
  go_loopw [19] (fun ti wr=>∃ i:Nat,i≤vn∧ti=.int .i64 i∧Hid (SP M W0 b (A1 i) wr∧HBx W0.heap.size [.slice vp vn vc,.slice xp xn xc,.slice fp fn fc] 26 wr)) (fun ti _=>vn - (intOf ti).toNat)
  case atStart=>exact ⟨0,Nat.zero_le _,rfl,Lib.hid ⟨by rw [HK.out.2.2.2.2.1.1];exact S2.out.1,S2.out.2.1⟩⟩
  case round =>
    obtain ⟨i,hi,rfl,hS⟩:=hrel
    generalize wr=wo at *
    by_cases hlt:i<vn
    · have hl2:i<vs.length:=by have:=HL.out.1;omega
      obtain ⟨a,rfl,hab,c0,c1⟩:=row_V HM.out.1 i hl2
      have c0:=(hS.out.1.2.cell (p:=a.add (i * 2)) (by rw [add_block];exact hab)).trans c0
      have c1:=(hS.out.1.2.cell (p:=⟨(a.add (i * 2)).block,(a.add (i * 2)).off+1,none⟩) (by dsimp only;rw [add_block];exact hab)).trans c1
      obtain ⟨k,hk,hk9,hcc⟩:=HK.out.1 (by first | rfl | trivial) i hl2
      obtain ⟨hci,hcl⟩:=hcc b HB.out
      obtain ⟨v,ev⟩:∃ v,vs[i]=v:=⟨_,rfl⟩
      simp only [ev] at c0 c1 hk hcl
      clear ev hcc
      obtain ⟨nm,sz⟩:=v
      simp only at c0 c1 hk hcl
      subst hk
      obtain ⟨d,ed⟩:∃ d,mkS (Lib.decDigits k)=d:=⟨_,rfl⟩
      simp only [ed] at hci hcl
      clear ed
      have hal:Below wo.heap.size wo (wo.alloc (.cells #[.string nm,.int .i64 (k:Int)] 39)):=(Below.refl _ _).alloc (Nat.le_refl _) _
      have S3:Hid (SP M W0 b (A1 i) (wo.alloc (.cells #[.string nm,.int .i64 (k:Int)] 39))∧HBx W0.heap.size [.slice (some a) vn vc,.slice xp xn xc,.slice fp fn fc] 26 (wo.alloc (.cells #[.string nm,.int .i64 (k:Int)] 39))∧HBx wo.heap.size [.string nm,.int .i64 (k:Int)] 39 (wo.alloc (.cells #[.string nm,.int .i64 (k:Int)] 39))):=Lib.hid ⟨hS.out.1.later hal,hS.out.2.later hal,heap_new _ _⟩
      clear hS hal
      go_upto_region 7 with fail
      obtain ⟨w3,ew3⟩:∃ w3,(wo.alloc (.cells #[.string nm,.int .i64 (k:Int)] 39))=w3:=⟨_,rfl⟩
      rw [ew3] at S3 ⊢
      clear ew3 c0 c1
      obtain ⟨F,eF⟩:∃ F,wo.heap.size=F:=⟨_,rfl⟩
      simp only [eF] at S3 ⊢
      clear eF
      have cI:∀ w',Hid (SP M W0 b (A1 i) w'∧HBx W0.heap.size [.slice (some a) vn vc,.slice xp xn xc,.slice fp fn fc] 26 w'∧HBx F [.string nm,.int .i64 (k:Int)] 39 w')→Calls Tryz.prog 13 #[.int .i64 (k:Int)] w' fun e w'' => e=.returned (.string d)∧Hid (SP M W0 b (A1 i) w''∧HBx W0.heap.size [.slice (some a) vn vc,.slice xp xn xc,.slice fp fn fc] 26 w''∧HBx F [.string nm,.int .i64 (k:Int)] 39 w''):=fun w' h=>(hci w' h.out.1).mono fun e w'' ⟨he,hb⟩=>⟨he,Lib.hid ⟨h.out.1.later hb,h.out.2.1.later hb,h.out.2.2.later hb⟩⟩
      have cLn:∀ v w',Hid (SP M W0 b (A1 i) w'∧HBx W0.heap.size [.slice (some a) vn vc,.slice xp xn xc,.slice fp fn fc] 26 w'∧SL w' v [(⟨#[103,108,111,98,97,108]⟩:ByteArray),nm,d])→Calls Tryz.prog 12 #[.pointer (some ⟨b,0,none⟩),v] w' fun e w'' => e=.returned (.tuple #[])∧Hid (SP M W0 b (A1 (i+1)) w''∧HBx W0.heap.size [.slice (some a) vn vc,.slice xp xn xc,.slice fp fn fc] 26 w''):=fun v w' h=>(hcl v w' h.out.1 h.out.2.2).mono fun e w'' ⟨he,hb⟩=>⟨he,Lib.hid ⟨hb.out.1,h.out.2.1.kp HB.out (by decide) hb.out.2⟩⟩
      have S3d:Hid (SP M W0 b (A1 i) w3.drew∧HBx W0.heap.size [.slice (some a) vn vc,.slice xp xn xc,.slice fp fn fc] 26 w3.drew∧HBx F [.string nm,.int .i64 (k:Int)] 39 w3.drew):=Lib.hid ⟨S3.out.1.later (below_drew (Below.refl _ _)),S3.out.2.1.later (below_drew (Below.refl _ _)),S3.out.2.2.later (below_drew (Below.refl _ _))⟩
      have z0:=S3.out.2.2.get 0 _ rfl
      have z1:=S3.out.2.2.get 1 _ rfl
      clear hci hcl
      go_region_law (first
        | (go_simp
           (with_reducible refine (cI _ ?pre).mono ?_)
           case pre=>(first | exact S3 | exact S3d)
           rintro ee w5 ⟨rfl,h5⟩
           have y0:=h5.out.2.2.get 0 _ rfl
           have y1:=h5.out.2.2.get 1 _ rfl)
        | (go_simp
           (with_reducible refine (cLn _ _ ?pre).mono ?_)
           case pre=>(exact Lib.hid ⟨h5.out.1.alloc _,h5.out.2.1.later ((Below.refl _ _).alloc (Nat.le_refl _) _),(OS.lit w5 (Nat.le_refl _) [(⟨#[103,108,111,98,97,108]⟩:ByteArray),nm,d] _ rfl 3 rfl (by decide)).sl⟩)
           rintro ee w7 ⟨rfl,h7⟩))
      all_goals
        clear cI cLn S3 S3d z0 z1 y0 y1 h5
        go_wp2_with fail
        exact ⟨⟨i+1,by omega,by go_num,h7⟩,by simp [intOf];omega⟩
    · obtain rfl:vn=i:=by omega
      have S4:Hid (SP M W0 b (A2 0) wo∧HBx W0.heap.size [.slice vp vn vc,.slice xp xn xc,.slice fp fn fc] 26 wo):=Lib.hid ⟨by have:=hS.out.1;rw [HL.out.1] at this;rw [HK.out.2.2.2.2.1.2.1];exact this,hS.out.2⟩
      have y1:=S4.out.2.get 1 _ rfl
      clear hS
      go_wp2_with fail
      clear y1
      go_loopw [35] (fun ti wr=>∃ i:Nat,i≤xn∧ti=.int .i64 i∧Hid (SP M W0 b (A2 i) wr∧HBx W0.heap.size [.slice vp vn vc,.slice xp xn xc,.slice fp fn fc] 26 wr)) (fun ti _=>xn - (intOf ti).toNat)
      case atStart=>exact ⟨0,Nat.zero_le _,rfl,S4⟩
      case round =>
        obtain ⟨i,hi,rfl,hS⟩:=hrel
        generalize wr=wp at *
        by_cases hlt:i<xn
        · have hl2:i<xs.length:=by have:=HL.out.2.1;omega
          obtain ⟨a,rfl,hab,c0,c1,c2⟩:=row_X HM.out.2.1 i hl2
          have c0:=(hS.out.1.2.cell (p:=a.add (i * 3)) (by rw [add_block];exact hab)).trans c0
          have c1:=(hS.out.1.2.cell (p:=⟨(a.add (i * 3)).block,(a.add (i * 3)).off+1,none⟩) (by dsimp only;rw [add_block];exact hab)).trans c1
          have c2:=(hS.out.1.2.cell (p:=⟨(a.add (i * 3)).block,(a.add (i * 3)).off+2,none⟩) (by dsimp only;rw [add_block];exact hab)).trans c2
          obtain ⟨hch,hct,hcl⟩:=HK.out.2.1 (by first | rfl | trivial) i hl2 b
          obtain ⟨v,ev⟩:∃ v,xs[i]=v:=⟨_,rfl⟩
          simp only [ev] at c0 c1 c2 hch hct hcl
          clear ev
          obtain ⟨nm,pp,pn,pc,ps,rt⟩:=v
          simp only at c0 c1 c2 hch hct hcl
          obtain ⟨d1,ed1⟩:∃ d,mkS (hdT nm ps)=d:=⟨_,rfl⟩
          obtain ⟨d2,ed2⟩:∃ d,mkS (typeT rt)=d:=⟨_,rfl⟩
          simp only [ed1,ed2] at hch hct hcl
          clear ed1 ed2
          have hal:Below wp.heap.size wp (wp.alloc (.cells #[.string nm,.slice pp pn pc,.int .i64 rt] 52)):=(Below.refl _ _).alloc (Nat.le_refl _) _
          have S3:Hid ((SP M W0 b (A2 i) (wp.alloc (.cells #[.string nm,.slice pp pn pc,.int .i64 rt] 52))∧HBx W0.heap.size [.slice vp vn vc,.slice (some a) xn xc,.slice fp fn fc] 26 (wp.alloc (.cells #[.string nm,.slice pp pn pc,.int .i64 rt] 52)))∧HBx wp.heap.size [.string nm,.slice pp pn pc,.int .i64 rt] 52 (wp.alloc (.cells #[.string nm,.slice pp pn pc,.int .i64 rt] 52))):=Lib.hid ⟨⟨hS.out.1.later hal,hS.out.2.later hal⟩,heap_new _ _⟩
          clear hS hal
          go_upto_region 12 with fail
          obtain ⟨w3,ew3⟩:∃ w3,(wp.alloc (.cells #[.string nm,.slice pp pn pc,.int .i64 rt] 52))=w3:=⟨_,rfl⟩
          rw [ew3] at S3 ⊢
          clear ew3 c0 c1 c2
          obtain ⟨F,eF⟩:∃ F,wp.heap.size=F:=⟨_,rfl⟩
          simp only [eF] at S3 ⊢
          clear eF
          have cH:∀ w',Hid ((SP M W0 b (A2 i) w'∧HBx W0.heap.size [.slice vp vn vc,.slice (some a) xn xc,.slice fp fn fc] 26 w')∧HBx F [.string nm,.slice pp pn pc,.int .i64 rt] 52 w')→Calls Tryz.prog 14 #[.string nm,.slice pp pn pc] w' fun e w'' => e=.returned (.string d1)∧Hid ((SP M W0 b (A2 i) w''∧HBx W0.heap.size [.slice vp vn vc,.slice (some a) xn xc,.slice fp fn fc] 26 w'')∧HBx F [.string nm,.slice pp pn pc,.int .i64 rt] 52 w''):=fun w' h=>(hch w' h.out.1.1).mono fun e w'' ⟨he,hb⟩=>⟨he,Lib.hid ⟨⟨h.out.1.1.later hb,h.out.1.2.later hb⟩,h.out.2.later hb⟩⟩
          have cT:∀ w',Hid ((SP M W0 b (A2 i) w'∧HBx W0.heap.size [.slice vp vn vc,.slice (some a) xn xc,.slice fp fn fc] 26 w')∧HBx F [.string nm,.slice pp pn pc,.int .i64 rt] 52 w')→Calls Tryz.prog 11 #[.int .i64 rt] w' fun e w'' => e=.returned (.string d2)∧Hid ((SP M W0 b (A2 i) w''∧HBx W0.heap.size [.slice vp vn vc,.slice (some a) xn xc,.slice fp fn fc] 26 w'')∧HBx F [.string nm,.slice pp pn pc,.int .i64 rt] 52 w''):=fun w' h=>(hct w' h.out.1.1).mono fun e w'' ⟨he,hb⟩=>⟨he,Lib.hid ⟨⟨h.out.1.1.later hb,h.out.1.2.later hb⟩,h.out.2.later hb⟩⟩
          have cLn:∀ v w',Hid ((SP M W0 b (A2 i) w'∧HBx W0.heap.size [.slice vp vn vc,.slice (some a) xn xc,.slice fp fn fc] 26 w')∧SL w' v [(⟨#[101,120,116,101,114,110]⟩:ByteArray),d1,d2])→Calls Tryz.prog 12 #[.pointer (some ⟨b,0,none⟩),v] w' fun e w'' => e=.returned (.tuple #[])∧Hid (SP M W0 b (A2 (i+1)) w''∧HBx W0.heap.size [.slice vp vn vc,.slice (some a) xn xc,.slice fp fn fc] 26 w''):=fun v w' h=>(hcl v w' h.out.1.1 h.out.2).mono fun e w'' ⟨he,hb⟩=>⟨he,Lib.hid ⟨hb.out.1,h.out.1.2.kp HB.out (by decide) hb.out.2⟩⟩
          have S3d:Hid ((SP M W0 b (A2 i) w3.drew∧HBx W0.heap.size [.slice vp vn vc,.slice (some a) xn xc,.slice fp fn fc] 26 w3.drew)∧HBx F [.string nm,.slice pp pn pc,.int .i64 rt] 52 w3.drew):=Lib.hid ⟨⟨S3.out.1.1.later (below_drew (Below.refl _ _)),S3.out.1.2.later (below_drew (Below.refl _ _))⟩,S3.out.2.later (below_drew (Below.refl _ _))⟩
          have z0:=S3.out.2.get 0 _ rfl
          have z1:=S3.out.2.get 1 _ rfl
          have z2:=S3.out.2.get 2 _ rfl
          clear hch hct hcl
          go_region_law (first
            | (go_simp
               (with_reducible refine (cH _ ?pre).mono ?_)
               case pre=>(first | exact S3 | exact S3d)
               rintro ee w5 ⟨rfl,h5⟩
               have y2:=h5.out.2.get 2 _ rfl)
            | (go_simp
               (with_reducible refine (cT _ ?pre).mono ?_)
               case pre=>(first | exact h5 | exact S3 | exact S3d)
               rintro ee w6 ⟨rfl,h6⟩)
            | (go_simp
               (with_reducible refine (cLn _ _ ?pre).mono ?_)
               case pre=>(exact Lib.hid ⟨⟨h6.out.1.1.alloc _,h6.out.1.2.later ((Below.refl _ _).alloc (Nat.le_refl _) _)⟩,(OS.lit w6 (Nat.le_refl _) [(⟨#[101,120,116,101,114,110]⟩:ByteArray),d1,d2] _ rfl 3 rfl (by decide)).sl⟩)
               rintro ee w7 ⟨rfl,h7⟩))
          all_goals
            clear cH cT cLn S3 S3d z0 z1 z2 y2 h5 h6
            go_wp2_with fail
            exact ⟨⟨i+1,by omega,by go_num,h7⟩,by simp [intOf];omega⟩
        · obtain rfl:xn=i:=by omega
          have S5:Hid (SP M W0 b (A3 0) wp∧HBx W0.heap.size [.slice vp vn vc,.slice xp xn xc,.slice fp fn fc] 26 wp):=Lib.hid ⟨by have:=hS.out.1;rw [HL.out.2.1] at this;rw [HK.out.2.2.2.2.1.2.2.1];exact this,hS.out.2⟩
          have y2:=S5.out.2.get 2 _ rfl
          clear hS
          go_wp2_with fail
          clear y2
          go_loopw [54] (fun ti wr=>∃ i:Nat,i≤fn∧ti=.int .i64 i∧Hid (SP M W0 b (A3 i) wr)) (fun ti _=>fn - (intOf ti).toNat)
          case atStart=>exact ⟨0,Nat.zero_le _,rfl,Lib.hid S5.out.1⟩
          case round =>
            obtain ⟨i,hi,rfl,hS⟩:=hrel
            generalize wr=wq at *
            by_cases hlt:i<fn
            · have hl2:i<fs.length:=by have:=HL.out.2.2;omega
              obtain ⟨a,rfl,hab,c0,c1,c2,c3⟩:=row_F HM.out.2.2 i hl2
              have c0:=(hS.out.2.cell (p:=a.add (i * 4)) (by rw [add_block];exact hab)).trans c0
              have c1:=(hS.out.2.cell (p:=⟨(a.add (i * 4)).block,(a.add (i * 4)).off+1,none⟩) (by dsimp only;rw [add_block];exact hab)).trans c1
              have c2:=(hS.out.2.cell (p:=⟨(a.add (i * 4)).block,(a.add (i * 4)).off+2,none⟩) (by dsimp only;rw [add_block];exact hab)).trans c2
              have c3:=(hS.out.2.cell (p:=⟨(a.add (i * 4)).block,(a.add (i * 4)).off+3,none⟩) (by dsimp only;rw [add_block];exact hab)).trans c3
              have hcf:=HK.out.2.2.1 (by first | rfl | trivial) i hl2 b
              obtain ⟨f,ef⟩:∃ v,fs[i]=v:=⟨_,rfl⟩
              simp only [ef] at c0 c1 c2 c3 hcf
              clear ef
              obtain ⟨nm,pp,pn,pc,ps,rt,bp,bn,bc,bs⟩:=f
              simp only at c0 c1 c2 c3
              have hcf:∀ w,SP M W0 b (A3 i) w→Calls Tryz.prog 15 #[.pointer (some ⟨b,0,none⟩),.agg #[.string nm,.slice pp pn pc,.int .i64 rt,.slice bp bn bc]] w fun e w' => e=.returned (.tuple #[])∧Hid (SP M W0 b (A3 (i+1)) w'):=hcf
              have hcf2:=hcf _ (hS.out.alloc (.cells #[.string nm,.slice pp pn pc,.int .i64 rt,.slice bp bn bc] 49))
              clear hcf hS
              go_wp2_with fail
              refine hcf2.mono ?_
              rintro e w7 ⟨rfl,h7⟩
              clear hcf2 c0 c1 c2 c3
              go_wp2_with fail
              exact ⟨⟨i+1,by omega,by go_num,h7⟩,by simp [intOf];omega⟩
            · obtain rfl:fn=i:=by omega
              have S6:Hid (SP M W0 b T wq):=Lib.hid (by have:=hS.out;rw [HL.out.2.2,HK.out.2.2.2.2.1.2.2.2] at this;exact this)
              have hcs:=HK.out.2.2.2.1 b wq T S6.out
              have HRT:Hid (R=mkS T):=Lib.hid (HR.out.2 (by first | rfl | trivial))
              obtain ⟨s,es⟩:∃ s,mkS T=s:=⟨_,rfl⟩
              rw [es] at hcs HRT
              clear hS es
              go_wp2_with fail
              refine hcs.mono ?_
              rintro e w8 ⟨rfl,hb8⟩
              have H8:=Lib.hid (S6.out.2.trans hb8)
              clear hcs hb8
              go_wp2_with fail
              go_ret
              exact ⟨by rw [HRT.out];rfl,H8.out⟩
end Go.Proofs.YtmmlfmplggbmiaaGreatDoor
