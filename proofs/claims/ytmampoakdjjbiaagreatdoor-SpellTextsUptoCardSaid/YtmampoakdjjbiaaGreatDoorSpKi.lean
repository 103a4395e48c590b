/- The parts of a line. -/
import Derived.Test.YtmampoakdjjbiaaGreatDoorSpKh
namespace Go.Proofs.YtmampoakdjjbiaaGreatDoor
open Go.RowKit Go.Maps
set_option linter.unusedVariables false
set_option linter.unusedSimpArgs false

set_option maxRecDepth 100000 in
set_option maxHeartbeats 8000000 in
theorem insL_n (b : Nat) (op rg ty nn fl : Int) (ap tp : Option Addr) (al tl ac tc : Nat) (N : ByteArray) (PS : List ByteArray) (W : World) (hPS : PS.length ≤ 16)
    (hOf : ∀ w, Below W.heap.size W w → Calls Tryz.prog 56 #[.int .i64 op] w fun e w' => e = .returned (.string N) ∧ w' = w)
    (hFm : ∀ w, Below W.heap.size W w → Calls Tryz.prog 105 #[.pointer (some ⟨b, 0, none⟩), .agg #[.int .i64 op, .int .i64 rg, .int .i64 ty, .int .i64 nn, .int .i64 fl, .slice ap al ac, .slice tp tl tc]] w (OwnS PS w)) (hr : rg < 0) :
    Calls Tryz.prog 80 #[.pointer (some ⟨b, 0, none⟩), .agg #[.int .i64 op, .int .i64 rg, .int .i64 ty, .int .i64 nn, .int .i64 fl, .slice ap al ac, .slice tp tl tc]] W (OwnS (N :: PS) W) := by
  have HS0 : Hid (OneS W [.int .i64 op, .int .i64 rg, .int .i64 ty, .int .i64 nn, .int .i64 fl, .slice ap al ac, .slice tp tl tc] (W.alloc (.cells #[.int .i64 op, .int .i64 rg, .int .i64 ty, .int .i64 nn, .int .i64 fl, .slice ap al ac, .slice tp tl tc] 39))) := Lib.hid ⟨Box.new W rfl _ _, (Below.refl _ _).alloc (Nat.le_refl _) _⟩
  have HC := Lib.hid (And.intro hOf hFm)
  have HP := Lib.hid hPS
  clear hOf hFm hPS
  have d0 : decide (rg < (0 : Int)) = true := by simp; omega
  clear hr
  go_enter Tryz.func80, Tryz.ntmps80
  go_upto_region 1 with fail
  obtain ⟨w1, ew1⟩ : ∃ w1, (W.alloc (.cells #[.int .i64 op, .int .i64 rg, .int .i64 ty, .int .i64 nn, .int .i64 fl, .slice ap al ac, .slice tp tl tc] 39)) = w1 := ⟨_, rfl⟩
  rw [ew1] at HS0 ⊢
  clear ew1
  have hal : Below w1.heap.size w1 (w1.alloc (.cells #[.string N] 9)) := (Below.refl _ _).alloc (Nat.le_refl _) _
  have hS2 := HS0.out.later hal
  have hald : Below w1.heap.size w1 (w1.drew.alloc (.cells #[.string N] 9)) := (below_drew (Below.refl _ _)).alloc (Nat.le_refl _) _
  have hS3 := HS0.out.later hald
  have z0 := HS0.out.1.get 0 _ rfl
  have y0 := hS2.1.get 0 _ rfl
  have x0 := hS3.1.get 0 _ rfl
  have z1 := HS0.out.1.get 1 _ rfl
  have y1 := hS2.1.get 1 _ rfl
  have x1 := hS3.1.get 1 _ rfl
  have z2 := HS0.out.1.get 2 _ rfl
  have y2 := hS2.1.get 2 _ rfl
  have x2 := hS3.1.get 2 _ rfl
  have z3 := HS0.out.1.get 3 _ rfl
  have y3 := hS2.1.get 3 _ rfl
  have x3 := hS3.1.get 3 _ rfl
  have z4 := HS0.out.1.get 4 _ rfl
  have y4 := hS2.1.get 4 _ rfl
  have x4 := hS3.1.get 4 _ rfl
  have z5 := HS0.out.1.get 5 _ rfl
  have y5 := hS2.1.get 5 _ rfl
  have x5 := hS3.1.get 5 _ rfl
  have z6 := HS0.out.1.get 6 _ rfl
  have y6 := hS2.1.get 6 _ rfl
  have x6 := hS3.1.get 6 _ rfl
  have hbW : Below W.heap.size W w1 := HS0.out.2
  have hbL : Below W.heap.size W (w1.alloc (.cells #[.string N] 9)) := hS2.2
  have hlit : OS (w1.alloc (.cells #[.string N] 9)) (W.heap.size + 1) (.slice (some ⟨w1.heap.size, 0, none⟩) 1 1) [N] := OS.lit w1 HS0.out.1.1 [N] _ rfl 1 rfl (by decide)
  have hlitd : OS (w1.drew.alloc (.cells #[.string N] 9)) (W.heap.size + 1) (.slice (some ⟨w1.heap.size, 0, none⟩) 1 1) [N] := hlit
  have HB := Lib.hid (And.intro HS0.out (And.intro hS2 (And.intro hlit (And.intro hlitd hS3))))
  clear hS2 hal hlit hbW hbL hald hS3 hlitd
  have cO : ∀ w, Hid (OneS W [.int .i64 op, .int .i64 rg, .int .i64 ty, .int .i64 nn, .int .i64 fl, .slice ap al ac, .slice tp tl tc] w) → Calls Tryz.prog 56 #[.int .i64 op] w fun e w' => e = .returned (.string N) ∧ w' = w := fun w h => HC.out.1 w h.out.2
  have cF : ∀ w, Hid (OneS W [.int .i64 op, .int .i64 rg, .int .i64 ty, .int .i64 nn, .int .i64 fl, .slice ap al ac, .slice tp tl tc] w) → Calls Tryz.prog 105 #[.pointer (some ⟨b, 0, none⟩), .agg #[.int .i64 op, .int .i64 rg, .int .i64 ty, .int .i64 nn, .int .i64 fl, .slice ap al ac, .slice tp tl tc]] w (fun e w' => ∃ v, e = .returned v ∧ Hid (OS w' (W.heap.size + 1) v PS ∧ OneS W [.int .i64 op, .int .i64 rg, .int .i64 ty, .int .i64 nn, .int .i64 fl, .slice ap al ac, .slice tp tl tc] w' ∧ Below w.heap.size w w')) := fun w h => (HC.out.2 w h.out.2).mono fun e w' ⟨v, he, hO, hb⟩ => ⟨v, he, Lib.hid ⟨hO.mono h.out.1.1, h.out.later hb, hb⟩⟩
  have h1 : Hid (OneS W [.int .i64 op, .int .i64 rg, .int .i64 ty, .int .i64 nn, .int .i64 fl, .slice ap al ac, .slice tp tl tc] w1) := Lib.hid HB.out.1
  have h1d : Hid (OneS W [.int .i64 op, .int .i64 rg, .int .i64 ty, .int .i64 nn, .int .i64 fl, .slice ap al ac, .slice tp tl tc] w1.drew) := Lib.hid (HB.out.1.drew)
  have h2 : Hid (OneS W [.int .i64 op, .int .i64 rg, .int .i64 ty, .int .i64 nn, .int .i64 fl, .slice ap al ac, .slice tp tl tc] (w1.alloc (.cells #[.string N] 9))) := Lib.hid HB.out.2.1
  have h2d : Hid (OneS W [.int .i64 op, .int .i64 rg, .int .i64 ty, .int .i64 nn, .int .i64 fl, .slice ap al ac, .slice tp tl tc] (w1.alloc (.cells #[.string N] 9)).drew) := Lib.hid (HB.out.2.1.drew)
  have h2e : Hid (OneS W [.int .i64 op, .int .i64 rg, .int .i64 ty, .int .i64 nn, .int .i64 fl, .slice ap al ac, .slice tp tl tc] (w1.drew.alloc (.cells #[.string N] 9))) := Lib.hid HB.out.2.2.2.2
  go_region_law (first
    | (refine step_append_OS rfl (.tmp 9) (.tmp 12) rfl (W.heap.size + 1) (W.heap.size + 1) _ _ [N] PS rfl ?o1 rfl ?o2 ?o3 ?o4 ?_
       case o1 => (first | exact OS.later HB.out.2.2.2.1 hF5.out.2.2 | exact OS.later HB.out.2.2.1 hF5.out.2.2 | exact OS.lit w5 hF5.out.2.1.1.1 [N] _ rfl 1 rfl (by decide))
       case o2 => (first | exact hF5.out.1 | exact hF5.out.1.later ((Below.refl _ _).alloc (Nat.le_refl _) _))
       case o3 => (have := HP.out; simp; omega)
       case o4 => (first | exact hF5.out.2.1.1.1 | (have := hF5.out.2.1.1.1; simp; omega))
       intro v7 w7 hn7 hb7)
    | (go_simp
       (with_reducible refine (cO _ ?pre).mono ?_)
       case pre => (first | exact h1 | exact h1d | exact h2 | exact h2d | exact h2e)
       rintro ee w4 ⟨rfl, rfl⟩)
    | (go_simp
       (with_reducible refine (cF _ ?pre).mono ?_)
       case pre => (first | exact h1 | exact h1d | exact h2 | exact h2d | exact h2e)
       rintro ee w5 ⟨v5, rfl, hF5⟩))
  all_goals
    have HN : Hid (OS w7 (W.heap.size + 1) v7 ([N] ++ PS) ∧ OneS W [.int .i64 op, .int .i64 rg, .int .i64 ty, .int .i64 nn, .int .i64 fl, .slice ap al ac, .slice tp tl tc] w7) := Lib.hid ⟨hn7, by
      first
        | exact ⟨hF5.out.2.1.1.below hb7 (Nat.lt_succ_self _), hF5.out.2.1.2.trans (hb7.mono (Nat.le_succ _))⟩
        | exact ⟨(hF5.out.2.1.alloc _).1.below hb7 (Nat.lt_succ_self _), (hF5.out.2.1.alloc _).2.trans (hb7.mono (Nat.le_succ _))⟩⟩
    have q1 := HN.out.2.1.get 1 _ rfl
    clear hn7 hb7 hF5 h1 h1d h2 h2d h2e cO cF z0 z1 z2 z3 z4 z5 z6 y0 y1 y2 y3 y4 y5 y6 x0 x1 x2 x3 x4 x5 x6
    go_wp2_with fail
    go_ret
    exact ⟨_, rfl, HN.out.1.mono (Nat.le_succ _), HN.out.2.2⟩
set_option maxRecDepth 100000 in
set_option maxHeartbeats 8000000 in
theorem insL_p (b : Nat) (op rg ty nn fl : Int) (ap tp : Option Addr) (al tl ac tc : Nat) (N : ByteArray) (PS : List ByteArray) (W : World) (hPS : PS.length ≤ 16)
    (hOf : ∀ w, Below W.heap.size W w → Calls Tryz.prog 56 #[.int .i64 op] w fun e w' => e = .returned (.string N) ∧ w' = w)
    (hFm : ∀ w, Below W.heap.size W w → Calls Tryz.prog 105 #[.pointer (some ⟨b, 0, none⟩), .agg #[.int .i64 op, .int .i64 rg, .int .i64 ty, .int .i64 nn, .int .i64 fl, .slice ap al ac, .slice tp tl tc]] w (OwnS PS w)) (hr : 0 ≤ rg) (R : ByteArray) (hR : ∀ w, Below W.heap.size W w → Calls Tryz.prog 106 #[.int .i64 rg] w (StrV R w)) :
    Calls Tryz.prog 80 #[.pointer (some ⟨b, 0, none⟩), .agg #[.int .i64 op, .int .i64 rg, .int .i64 ty, .int .i64 nn, .int .i64 fl, .slice ap al ac, .slice tp tl tc]] W (OwnS (R :: ⟨#[61]⟩ :: N :: PS) W) := by
  have HS0 : Hid (OneS W [.int .i64 op, .int .i64 rg, .int .i64 ty, .int .i64 nn, .int .i64 fl, .slice ap al ac, .slice tp tl tc] (W.alloc (.cells #[.int .i64 op, .int .i64 rg, .int .i64 ty, .int .i64 nn, .int .i64 fl, .slice ap al ac, .slice tp tl tc] 39))) := Lib.hid ⟨Box.new W rfl _ _, (Below.refl _ _).alloc (Nat.le_refl _) _⟩
  have HC := Lib.hid (And.intro hOf hFm)
  have HP := Lib.hid hPS
  clear hOf hFm hPS
  have HRR := Lib.hid hR
  clear hR
  have d0 : decide (rg < (0 : Int)) = false := by simp; omega
  clear hr
  go_enter Tryz.func80, Tryz.ntmps80
  go_upto_region 1 with fail
  obtain ⟨w1, ew1⟩ : ∃ w1, (W.alloc (.cells #[.int .i64 op, .int .i64 rg, .int .i64 ty, .int .i64 nn, .int .i64 fl, .slice ap al ac, .slice tp tl tc] 39)) = w1 := ⟨_, rfl⟩
  rw [ew1] at HS0 ⊢
  clear ew1
  have hal : Below w1.heap.size w1 (w1.alloc (.cells #[.string N] 9)) := (Below.refl _ _).alloc (Nat.le_refl _) _
  have hS2 := HS0.out.later hal
  have hald : Below w1.heap.size w1 (w1.drew.alloc (.cells #[.string N] 9)) := (below_drew (Below.refl _ _)).alloc (Nat.le_refl _) _
  have hS3 := HS0.out.later hald
  have z0 := HS0.out.1.get 0 _ rfl
  have y0 := hS2.1.get 0 _ rfl
  have x0 := hS3.1.get 0 _ rfl
  have z1 := HS0.out.1.get 1 _ rfl
  have y1 := hS2.1.get 1 _ rfl
  have x1 := hS3.1.get 1 _ rfl
  have z2 := HS0.out.1.get 2 _ rfl
  have y2 := hS2.1.get 2 _ rfl
  have x2 := hS3.1.get 2 _ rfl
  have z3 := HS0.out.1.get 3 _ rfl
  have y3 := hS2.1.get 3 _ rfl
  have x3 := hS3.1.get 3 _ rfl
  have z4 := HS0.out.1.get 4 _ rfl
  have y4 := hS2.1.get 4 _ rfl
  have x4 := hS3.1.get 4 _ rfl
  have z5 := HS0.out.1.get 5 _ rfl
  have y5 := hS2.1.get 5 _ rfl
  have x5 := hS3.1.get 5 _ rfl
  have z6 := HS0.out.1.get 6 _ rfl
  have y6 := hS2.1.get 6 _ rfl
  have x6 := hS3.1.get 6 _ rfl
  have hbW : Below W.heap.size W w1 := HS0.out.2
  have hbL : Below W.heap.size W (w1.alloc (.cells #[.string N] 9)) := hS2.2
  have hlit : OS (w1.alloc (.cells #[.string N] 9)) (W.heap.size + 1) (.slice (some ⟨w1.heap.size, 0, none⟩) 1 1) [N] := OS.lit w1 HS0.out.1.1 [N] _ rfl 1 rfl (by decide)
  have hlitd : OS (w1.drew.alloc (.cells #[.string N] 9)) (W.heap.size + 1) (.slice (some ⟨w1.heap.size, 0, none⟩) 1 1) [N] := hlit
  have HB := Lib.hid (And.intro HS0.out (And.intro hS2 (And.intro hlit (And.intro hlitd hS3))))
  clear hS2 hal hlit hbW hbL hald hS3 hlitd
  have cO : ∀ w, Hid (OneS W [.int .i64 op, .int .i64 rg, .int .i64 ty, .int .i64 nn, .int .i64 fl, .slice ap al ac, .slice tp tl tc] w) → Calls Tryz.prog 56 #[.int .i64 op] w fun e w' => e = .returned (.string N) ∧ w' = w := fun w h => HC.out.1 w h.out.2
  have cF : ∀ w, Hid (OneS W [.int .i64 op, .int .i64 rg, .int .i64 ty, .int .i64 nn, .int .i64 fl, .slice ap al ac, .slice tp tl tc] w) → Calls Tryz.prog 105 #[.pointer (some ⟨b, 0, none⟩), .agg #[.int .i64 op, .int .i64 rg, .int .i64 ty, .int .i64 nn, .int .i64 fl, .slice ap al ac, .slice tp tl tc]] w (fun e w' => ∃ v, e = .returned v ∧ Hid (OS w' (W.heap.size + 1) v PS ∧ OneS W [.int .i64 op, .int .i64 rg, .int .i64 ty, .int .i64 nn, .int .i64 fl, .slice ap al ac, .slice tp tl tc] w' ∧ Below w.heap.size w w')) := fun w h => (HC.out.2 w h.out.2).mono fun e w' ⟨v, he, hO, hb⟩ => ⟨v, he, Lib.hid ⟨hO.mono h.out.1.1, h.out.later hb, hb⟩⟩
  have h1 : Hid (OneS W [.int .i64 op, .int .i64 rg, .int .i64 ty, .int .i64 nn, .int .i64 fl, .slice ap al ac, .slice tp tl tc] w1) := Lib.hid HB.out.1
  have h1d : Hid (OneS W [.int .i64 op, .int .i64 rg, .int .i64 ty, .int .i64 nn, .int .i64 fl, .slice ap al ac, .slice tp tl tc] w1.drew) := Lib.hid (HB.out.1.drew)
  have h2 : Hid (OneS W [.int .i64 op, .int .i64 rg, .int .i64 ty, .int .i64 nn, .int .i64 fl, .slice ap al ac, .slice tp tl tc] (w1.alloc (.cells #[.string N] 9))) := Lib.hid HB.out.2.1
  have h2d : Hid (OneS W [.int .i64 op, .int .i64 rg, .int .i64 ty, .int .i64 nn, .int .i64 fl, .slice ap al ac, .slice tp tl tc] (w1.alloc (.cells #[.string N] 9)).drew) := Lib.hid (HB.out.2.1.drew)
  have h2e : Hid (OneS W [.int .i64 op, .int .i64 rg, .int .i64 ty, .int .i64 nn, .int .i64 fl, .slice ap al ac, .slice tp tl tc] (w1.drew.alloc (.cells #[.string N] 9))) := Lib.hid HB.out.2.2.2.2
  go_region_law (first
    | (refine step_append_OS rfl (.tmp 9) (.tmp 12) rfl (W.heap.size + 1) (W.heap.size + 1) _ _ [N] PS rfl ?o1 rfl ?o2 ?o3 ?o4 ?_
       case o1 => (first | exact OS.later HB.out.2.2.2.1 hF5.out.2.2 | exact OS.later HB.out.2.2.1 hF5.out.2.2 | exact OS.lit w5 hF5.out.2.1.1.1 [N] _ rfl 1 rfl (by decide))
       case o2 => (first | exact hF5.out.1 | exact hF5.out.1.later ((Below.refl _ _).alloc (Nat.le_refl _) _))
       case o3 => (have := HP.out; simp; omega)
       case o4 => (first | exact hF5.out.2.1.1.1 | (have := hF5.out.2.1.1.1; simp; omega))
       intro v7 w7 hn7 hb7)
    | (go_simp
       (with_reducible refine (cO _ ?pre).mono ?_)
       case pre => (first | exact h1 | exact h1d | exact h2 | exact h2d | exact h2e)
       rintro ee w4 ⟨rfl, rfl⟩)
    | (go_simp
       (with_reducible refine (cF _ ?pre).mono ?_)
       case pre => (first | exact h1 | exact h1d | exact h2 | exact h2d | exact h2e)
       rintro ee w5 ⟨v5, rfl, hF5⟩))
  all_goals
    have HN : Hid (OS w7 (W.heap.size + 1) v7 ([N] ++ PS) ∧ OneS W [.int .i64 op, .int .i64 rg, .int .i64 ty, .int .i64 nn, .int .i64 fl, .slice ap al ac, .slice tp tl tc] w7) := Lib.hid ⟨hn7, by
      first
        | exact ⟨hF5.out.2.1.1.below hb7 (Nat.lt_succ_self _), hF5.out.2.1.2.trans (hb7.mono (Nat.le_succ _))⟩
        | exact ⟨(hF5.out.2.1.alloc _).1.below hb7 (Nat.lt_succ_self _), (hF5.out.2.1.alloc _).2.trans (hb7.mono (Nat.le_succ _))⟩⟩
    have q1 := HN.out.2.1.get 1 _ rfl
    clear hn7 hb7 hF5 h1 h1d h2 h2d h2e cO cF z0 z1 z2 z3 z4 z5 z6 y0 y1 y2 y3 y4 y5 y6 x0 x1 x2 x3 x4 x5 x6
    have cr := HRR.out w7 HN.out.2.2
    go_wp2_with fail
    refine cr.mono ?_
    rintro e w8 ⟨rfl, hb8⟩
    have HN8 := Lib.hid (And.intro (HN.out.1.later hb8) (HN.out.2.later hb8))
    clear cr hb8 q1
    have hl8 : OS (w8.alloc (.cells #[.string R, .string ⟨#[61]⟩] 9)) (W.heap.size + 1) (.slice (some ⟨w8.heap.size, 0, none⟩) 2 2) [R, ⟨#[61]⟩] := OS.lit w8 HN8.out.2.1.1 [R, ⟨#[61]⟩] _ rfl 2 rfl (by decide)
    have hs8 : OS (w8.alloc (.cells #[.string R, .string ⟨#[61]⟩] 9)) (W.heap.size + 1) v7 ([N] ++ PS) := HN8.out.1.later ((Below.refl _ _).alloc (Nat.le_refl _) _)
    have hz8 : W.heap.size + 1 ≤ (w8.alloc (.cells #[.string R, .string ⟨#[61]⟩] 9)).heap.size := by have := HN8.out.2.1.1; simp; omega
    have hlen8 : ([R, ⟨#[61]⟩] : List ByteArray).length + ([N] ++ PS).length ≤ 4194304 := by have := HP.out; simp; omega
    have H8 := Lib.hid (And.intro hl8 (And.intro hs8 (And.intro hz8 hlen8)))
    clear hl8 hs8 hz8 hlen8
    go_wp2_with (at_builtin; refine wpList_append_OS rfl _ _ rfl (W.heap.size + 1) (W.heap.size + 1) _ _ [R, ⟨#[61]⟩] ([N] ++ PS) rfl H8.out.1 rfl H8.out.2.1 H8.out.2.2.2 H8.out.2.2.1 ?_)
    intro v9 w9 hn9 hb9
    have HN9 := Lib.hid (And.intro hn9 ((HN8.out.2.2.alloc HN8.out.2.2.size _).trans (hb9.mono (Nat.le_succ _))))
    clear hn9 hb9
    go_wp2_with fail
    go_ret
    exact ⟨_, rfl, HN9.out.1.mono (Nat.le_succ _), HN9.out.2⟩
theorem formP_len (m : PMod) (x : PIns) : (formP m x).length ≤ 4 := by
  unfold formP
  repeat (first | (split; · simp) | simp)
theorem instruction_any (m : LMod) (x : LI) (b : Nat) (W : World) (hO : Ops W) (hT : TabOk W) (hm : ModIn W.heap.size W m) (hk : LenOk (modD m)) (hx : InsIn W.heap.size W x) (hb : MB m b W) (hB : insB (modD m) (insD x) = true) (hw : insW (insD x)) (hz : insZ (insD x) ≤ 1048576) :
    Calls Tryz.prog 80 #[.pointer (some ⟨b, 0, none⟩), .agg (liC x).toArray] W (OwnS ((instrP (modD m) (insD x)).map mkS) W) := by
  have hOf : ∀ w, Below W.heap.size W w → Calls Tryz.prog 56 #[.int .i64 x.1.op] w fun e w' => e = .returned (.string (mkS (opT x.1.op))) ∧ w' = w := fun w hbw => Of_any x.1.op w (hO.later hbw)
  have hFm : ∀ w, Below W.heap.size W w → Calls Tryz.prog 105 #[.pointer (some ⟨b, 0, none⟩), .agg (liC x).toArray] w (OwnS ((formP (modD m) (insD x)).map mkS) w) := fun w hbw =>
    form_any m x b w (hT.later hbw) (lasts_Mod _ _ _ _ _ hbw hbw.size hm) hk (lasts_Ins _ _ _ _ _ hbw hbw.size hx) (hb.later hbw) hB hw hz
  have hPS : ((formP (modD m) (insD x)).map mkS).length ≤ 16 := by
    rw [List.length_map]
    exact Nat.le_trans (formP_len _ _) (by omega)
  have hr := insB_reg hB
  have e : instrP (modD m) (insD x) = (if x.1.reg < 0 then [] else [regT x.1.reg, [61]]) ++ opT x.1.op :: formP (modD m) (insD x) := rfl
  rw [e]
  have hr : x.1.reg ≤ 4095 := hr
  by_cases h0 : x.1.reg < 0
  · rw [if_pos h0]
    exact insL_n b x.1.op x.1.reg x.1.ty x.1.n x.1.fl x.1.ap x.1.tp x.1.al x.1.tl x.1.ac x.1.tc _ _ W hPS hOf hFm h0
  · rw [if_neg h0]
    exact insL_p b x.1.op x.1.reg x.1.ty x.1.n x.1.fl x.1.ap x.1.tp x.1.al x.1.tl x.1.ac x.1.tc _ _ W hPS hOf hFm (by omega) _ (fun w hbw => by
      obtain ⟨k, hk2⟩ : ∃ k : Nat, x.1.reg = k := ⟨x.1.reg.toNat, by omega⟩
      rw [hk2]
      exact sRegister_any k (by omega) w (hT.later hbw))
end Go.Proofs.YtmampoakdjjbiaaGreatDoor
