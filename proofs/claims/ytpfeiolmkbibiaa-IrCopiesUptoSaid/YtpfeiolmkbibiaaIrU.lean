/- The law IrFinds: its walk. -/
import Derived.Test.YtpfeiolmkbibiaaIrN
import Derived.Test.YtpfeiolmkbibiaaIrT
import Derived.Deep.RegionHeld3
import Derived.Deep.DeepCutAuto
namespace Go.Proofs.Ytpfeiolmkbibiaa
open Go.RowKit Go.Maps
set_option linter.unusedVariables false
set_option linter.unusedSimpArgs false

theorem fresh_unique {n : Nat} {L : List Int} {j j' : Nat} (h1 : L.contains ((n : Int) + j) = false) (h2 : ∀ i : Nat, i < j → L.contains ((n : Int) + i) = true) (h1' : L.contains ((n : Int) + j') = false) (h2' : ∀ i : Nat, i < j' → L.contains ((n : Int) + i) = true) : j = j' := by
  rcases Nat.lt_trichotomy j j' with h | h | h
  · rw [h2' j h] at h1; cases h1
  · exact h
  · rw [h2 j' h] at h1'; cases h1'
theorem fresh_ex (L : List Int) (n : Nat) : ∃ j : Nat, L.contains ((n : Int) + j) = false ∧ ∀ i : Nat, i < j → L.contains ((n : Int) + i) = true := by
  by_cases h : ∃ j : Nat, L.contains ((n : Int) + j) = false ∧ ∀ i : Nat, i < j → L.contains ((n : Int) + i) = true
  · exact h
  · have key : ∀ j : Nat, ∀ i : Nat, i < j → L.contains ((n : Int) + i) = true := by
      intro j
      induction j with
      | zero => intro i hi; exact absurd hi (Nat.not_lt_zero _)
      | succ j ih =>
        intro i hi
        by_cases e : i < j
        · exact ih i e
        · obtain rfl : i = j := by omega
          cases hc : L.contains ((n : Int) + i)
          · exact absurd ⟨i, hc, ih⟩ h
          · rfl
    have := pigeon L n (L.length + 1) (key _)
    omega
theorem below_drew {B : Nat} {W w : World} (h : Below B W w) : Below B W w.drew := ⟨h.os, h.tape, h.output, h.size, h.block⟩
/-- A function's box. -/
structure FBox (g : Nat) (s0 : ByteArray) (p1 : Option Addr) (n1 c1 : Nat) (rt : Int) (p2 : Option Addr) (n2 c2 : Nat) (w : World) : Prop where
  lt : g < w.heap.size
  f0 : w.cell? ⟨g, 0, none⟩ = some (.string s0)
  f1 : w.cell? ⟨g, 1, none⟩ = some (.slice p1 n1 c1)
  f2 : w.cell? ⟨g, 2, none⟩ = some (.int .i64 rt)
  f3 : w.cell? ⟨g, 3, none⟩ = some (.slice p2 n2 c2)
theorem FBox.below {g : Nat} {s0 : ByteArray} {p1 : Option Addr} {n1 c1 : Nat} {rt : Int} {p2 : Option Addr} {n2 c2 : Nat} {W w : World} (h : FBox g s0 p1 n1 c1 rt p2 n2 c2 W) (hb : Below W.heap.size W w) : FBox g s0 p1 n1 c1 rt p2 n2 c2 w :=
  ⟨Nat.lt_of_lt_of_le h.lt hb.size, (hb.cell (p := ⟨g, 0, none⟩) h.lt).trans h.f0, (hb.cell (p := ⟨g, 1, none⟩) h.lt).trans h.f1, (hb.cell (p := ⟨g, 2, none⟩) h.lt).trans h.f2, (hb.cell (p := ⟨g, 3, none⟩) h.lt).trans h.f3⟩
theorem FBox.alloc {g : Nat} {s0 : ByteArray} {p1 : Option Addr} {n1 c1 : Nat} {rt : Int} {p2 : Option Addr} {n2 c2 : Nat} {W : World} (h : FBox g s0 p1 n1 c1 rt p2 n2 c2 W) (o : Obj) : FBox g s0 p1 n1 c1 rt p2 n2 c2 (W.alloc o) :=
  h.below ((Below.refl _ _).alloc (Nat.le_refl _) o)
theorem FBox.new (W : World) (s0 : ByteArray) (p1 : Option Addr) (n1 c1 : Nat) (rt : Int) (p2 : Option Addr) (n2 c2 : Nat) : FBox W.heap.size s0 p1 n1 c1 rt p2 n2 c2 (W.alloc (.cells #[.string s0, .slice p1 n1 c1, .int .i64 rt, .slice p2 n2 c2] 41)) :=
  ⟨by simp, by rw [World.cell?_alloc_at _ _ _ _ rfl]; rfl, by rw [World.cell?_alloc_at _ _ _ _ rfl]; rfl, by rw [World.cell?_alloc_at _ _ _ _ rfl]; rfl, by rw [World.cell?_alloc_at _ _ _ _ rfl]; rfl⟩

section
variable {W : World} {s0 : ByteArray} {p1 : Option Addr} {n1 c1 : Nat} {rt : Int} {p2 : Option Addr} {n2 c2 : Nat} {l : List (List Ins)}
theorem code_at2 (h : FuncOk W s0 p1 n1 c1 rt p2 n2 c2 l) (hn : cnt l.flatten + n1 ≤ 1048576) {w : World} (hb : Below W.heap.size W w) :
    Calls Try.prog 25 #[.agg #[.string s0, .slice p1 n1 c1, .int .i64 rt, .slice p2 n2 c2]] w fun e w' => ∃ (q : Option Addr) (c : Nat) (vp : Value), e = .returned (.tuple #[.slice q l.flatten.length c, vp]) ∧ Below w.heap.size w w' :=
  (Code_any w s0 p1 n1 c1 rt p2 n2 c2 l ((h.blocks.below hb).mono hb.size) (by unfold cnt at hn; omega)).mono fun e w' ⟨vl, vp, he, hw, h1, _⟩ => by
    obtain ⟨q, c, rfl, _⟩ := codeAt_own h1
    exact ⟨q, c, vp, he, hw⟩
theorem size_at2 (h : FuncOk W s0 p1 n1 c1 rt p2 n2 c2 l) (hn : cnt l.flatten + n1 ≤ 1048576) {w : World} (hb : Below W.heap.size W w) :
    Calls Try.prog 28 #[.agg #[.string s0, .slice p1 n1 c1, .int .i64 rt, .slice p2 n2 c2]] w fun e w' => e = .returned (.int .i64 l.flatten.length) ∧ Below w.heap.size w w' :=
  Size_any w.heap.size l w (.bool true) (.bool true) rt s0 p1 n1 c1 p2 n2 c2 (Nat.le_refl _) ((h.blocks.below hb).mono hb.size) _ rfl (by unfold cnt at hn; omega)
theorem def_at2 (h : FuncOk W s0 p1 n1 c1 rt p2 n2 c2 l) (r : Int) {w : World} (hb : Below W.heap.size W w) :
    Calls Try.prog 26 #[.agg #[.string s0, .slice p1 n1 c1, .int .i64 rt, .slice p2 n2 c2], .int .i64 r] w (DefEnds w.heap.size l r w) :=
  Def_any w.heap.size l w rt r s0 p1 n1 c1 p2 n2 c2 (Nat.le_refl _) ((h.blocks.below hb).mono hb.size)
theorem rdef_at2 (h : FuncOk W s0 p1 n1 c1 rt p2 n2 c2 l) (hn : cnt l.flatten + n1 ≤ 1048576) (r : Int) {w : World} (hb : Below W.heap.size W w) :
    Calls Try.prog 27 #[.agg #[.string s0, .slice p1 n1 c1, .int .i64 rt, .slice p2 n2 c2], .int .i64 r] w (DefEnds w.heap.size l r w) :=
  rDef_any w s0 p1 n1 c1 rt r p2 n2 c2 l ((h.blocks.below hb).mono hb.size) (by unfold cnt at hn; omega)
theorem rfresh_at2 (h : FuncOk W s0 p1 n1 c1 rt p2 n2 c2 l) (hn : cnt l.flatten + n1 ≤ 1048576) {w : World} (hb : Below W.heap.size W w) :
    Calls Try.prog 30 #[.agg #[.string s0, .slice p1 n1 c1, .int .i64 rt, .slice p2 n2 c2]] w (FreshEnds w.heap.size n1 (nmL l.flatten) w) :=
  rFresh_any w s0 p1 n1 c1 rt p2 n2 c2 l ((h.blocks.below hb).mono hb.size) (fun b x k y => ((h.args b x k y).below hb).mono hb.size) hn
theorem uses_at2 (h : FuncOk W s0 p1 n1 c1 rt p2 n2 c2 l) (hn : cnt l.flatten + n1 ≤ 1048576) (r : Int) {w : World} (hb : Below W.heap.size W w) :
    Calls Try.prog 31 #[.agg #[.string s0, .slice p1 n1 c1, .int .i64 rt, .slice p2 n2 c2], .int .i64 r] w fun e w' => e = .returned (.int .i64 (usesOf r l.flatten : Nat)) ∧ Below w.heap.size w w' :=
  Uses_any w.heap.size l w rt r s0 p1 n1 c1 p2 n2 c2 (Nat.le_refl _) ((h.blocks.below hb).mono hb.size) (fun b x k y => ((h.args b x k y).below hb).mono hb.size) _ rfl (by unfold cnt at hn; omega)
theorem ruses_at2 (h : FuncOk W s0 p1 n1 c1 rt p2 n2 c2 l) (hn : cnt l.flatten + n1 ≤ 1048576) (r : Int) {w : World} (hb : Below W.heap.size W w) :
    Calls Try.prog 32 #[.agg #[.string s0, .slice p1 n1 c1, .int .i64 rt, .slice p2 n2 c2], .int .i64 r] w fun e w' => e = .returned (.int .i64 (usesOf r l.flatten : Nat)) ∧ Below w.heap.size w w' :=
  rUses_any w s0 p1 n1 c1 rt r p2 n2 c2 l ((h.blocks.below hb).mono hb.size) (fun b x k y => ((h.args b x k y).below hb).mono hb.size) (by omega) _ rfl
end

set_option maxRecDepth 100000 in
set_option maxHeartbeats 4000000 in
theorem irFinds_walk (W : World) (s0 : ByteArray) (p1 : Option Addr) (n1 c1 : Nat) (rt : Int) (p2 : Option Addr) (n2 c2 : Nat) (l : List (List Ins)) (reg : Int) (h : FuncOk W s0 p1 n1 c1 rt p2 n2 c2 l) (hn : cnt l.flatten + n1 ≤ 1048576) :
    Calls Try.prog 5 #[.agg #[.string s0, .slice p1 n1 c1, .int .i64 rt, .slice p2 n2 c2], .int .i64 reg] W fun e w' => e = .returned (.bool true) ∧ Below W.heap.size W w' := by
  have cl := lives_any
  have hP : Past W.heap.size W (W.alloc (.cells #[.string s0, .slice p1 n1 c1, .int .i64 rt, .slice p2 n2 c2] 41)) := (Past.refl (Nat.le_refl _)).alloc _
  have F0 := FBox.new W s0 p1 n1 c1 rt p2 n2 c2
  go_enter Try.func5, Try.ntmps5
  go_wp2_with fail
  refine (cl _).mono ?_
  rintro e w1 ⟨rfl, hb1⟩
  have P1 := hP.trans ⟨hP.size, hb1.mono hP.size⟩
  have F1 := F0.below hb1
  obtain ⟨y, y0, y1, y2, y3⟩ := id F1
  go_wp2_with fail
  have P2 := P1.alloc (.cells #[.string s0, .slice p1 n1 c1, .int .i64 rt, .slice p2 n2 c2] 41)
  have F2 := F1.alloc (.cells #[.string s0, .slice p1 n1 c1, .int .i64 rt, .slice p2 n2 c2] 41)
  refine (Few_one _ w1.heap.size s0 p1 n1 c1 rt p2 n2 c2 l (by simp) (by rw [World.cell?_alloc_at _ _ _ _ rfl]; rfl) (by rw [World.cell?_alloc_at _ _ _ _ rfl]; rfl) (by rw [World.cell?_alloc_at _ _ _ _ rfl]; rfl) (by rw [World.cell?_alloc_at _ _ _ _ rfl]; rfl) ((h.blocks.below P2.2).mono P2.2.size) hn).mono ?_
  rintro e w2 ⟨bf, rfl, hb2⟩
  have P3 := P2.trans ⟨P2.size, hb2.mono P2.size⟩
  have F3 := F2.below hb2
  clear y y0 y1 y2 y3 cl F0 F1 F2 hb1 hb2 P1 P2 hP
  cases bf
  · go_wp2
    go_ret
    exact ⟨rfl, P3.2⟩
  · have hN := Lib.hid hn
    clear hn
    obtain ⟨y, y0, y1, y2, y3⟩ := id F3
    go_wp2_with fail
    refine (code_at2 h hN.out P3.2).mono ?_
    rintro e w3 ⟨q, c, vp, rfl, hb3⟩
    obtain ⟨LL, eLL⟩ : ∃ LL : Nat, l.flatten.length = LL := ⟨_, rfl⟩
    have HLL := Lib.hid eLL
    simp only [eLL]
    clear eLL
    have P4 := P3.trans ⟨P3.size, hb3.mono P3.size⟩
    have F4 := F3.below hb3
    clear y y0 y1 y2 y3 F3 P3 hb3
    obtain ⟨y, y0, y1, y2, y3⟩ := id F4
    go_wp2_with fail
    refine (def_at2 h reg P4.2).mono ?_
    rintro e w4 ⟨f, a, b, hd, rfl, hb4⟩
    have HD := Lib.hid hd
    have P5 := P4.trans ⟨P4.size, hb4.mono P4.size⟩
    have F5 := F4.below hb4
    clear y y0 y1 y2 y3 F4 P4 hb4 hd
    obtain ⟨y, y0, y1, y2, y3⟩ := id F5
    go_wp2_with fail
    have T5 : Tri 0 w4.heap.size (.int .i64 0) (.int .i64 a) (.int .i64 b) (w4.alloc (.cells #[.int .i64 0, .int .i64 a, .int .i64 b] 47)) := Tri.new _ (Nat.zero_le _) _ _ _ _
    have P5a := P5.alloc (.cells #[.int .i64 0, .int .i64 a, .int .i64 b] 47)
    have F5a := F5.alloc (.cells #[.int .i64 0, .int .i64 a, .int .i64 b] 47)
    refine (rdef_at2 h hN.out reg P5a.2).mono ?_
    rintro e w5 ⟨f', a', b', hd', rfl, hb5⟩
    obtain ⟨ef, ea, eb⟩ := HD.out.unique hd'
    subst ef ea eb
    have P6 := P5a.trans ⟨P5a.size, hb5.mono P5a.size⟩
    have F6 := F5a.below hb5
    have T6 := T5.past hb5
    clear y y0 y1 y2 y3 F5 P5 hb5 hd' T5 P5a F5a HD
    obtain ⟨y, y0, y1, y2, y3⟩ := id F6
    obtain ⟨-, t0, t1, t2, t3, -⟩ := id T6
    have hz4 : W.heap.size < w5.heap.size := y
    have HS : ∀ w w' : World, (w.cell? ⟨W.heap.size, 0, none⟩ = some (.string s0) ∧ w.cell? ⟨W.heap.size, 1, none⟩ = some (.slice p1 n1 c1) ∧ w.cell? ⟨W.heap.size, 2, none⟩ = some (.int .i64 rt) ∧ w.cell? ⟨W.heap.size, 3, none⟩ = some (.slice p2 n2 c2) ∧ w.cell? ⟨w4.heap.size, 0, none⟩ = some (.int .i64 0) ∧ w.cell? ⟨w4.heap.size, 1, none⟩ = some (.int .i64 a) ∧ w.cell? ⟨w4.heap.size, 2, none⟩ = some (.int .i64 b) ∧ w.cell? ⟨w5.heap.size, 0, none⟩ = some (.int .i64 0) ∧ w.cell? ⟨w5.heap.size, 1, none⟩ = some (.int .i64 a) ∧ w.cell? ⟨w5.heap.size, 2, none⟩ = some (.int .i64 b) ∧ W.heap.size < w.heap.size ∧ w4.heap.size < w.heap.size ∧ w5.heap.size < w.heap.size ∧ Below W.heap.size W w) → Below w.heap.size w w' → (w'.cell? ⟨W.heap.size, 0, none⟩ = some (.string s0) ∧ w'.cell? ⟨W.heap.size, 1, none⟩ = some (.slice p1 n1 c1) ∧ w'.cell? ⟨W.heap.size, 2, none⟩ = some (.int .i64 rt) ∧ w'.cell? ⟨W.heap.size, 3, none⟩ = some (.slice p2 n2 c2) ∧ w'.cell? ⟨w4.heap.size, 0, none⟩ = some (.int .i64 0) ∧ w'.cell? ⟨w4.heap.size, 1, none⟩ = some (.int .i64 a) ∧ w'.cell? ⟨w4.heap.size, 2, none⟩ = some (.int .i64 b) ∧ w'.cell? ⟨w5.heap.size, 0, none⟩ = some (.int .i64 0) ∧ w'.cell? ⟨w5.heap.size, 1, none⟩ = some (.int .i64 a) ∧ w'.cell? ⟨w5.heap.size, 2, none⟩ = some (.int .i64 b) ∧ W.heap.size < w'.heap.size ∧ w4.heap.size < w'.heap.size ∧ w5.heap.size < w'.heap.size ∧ Below W.heap.size W w') := by
      rintro w w' ⟨k0, k1, k2, k3, k4, k5, k6, k7, k8, k9, k10, k11, k12, k13⟩ hb
      exact ⟨(hb.cell (p := ⟨W.heap.size, 0, none⟩) k10).trans k0, (hb.cell (p := ⟨W.heap.size, 1, none⟩) k10).trans k1, (hb.cell (p := ⟨W.heap.size, 2, none⟩) k10).trans k2, (hb.cell (p := ⟨W.heap.size, 3, none⟩) k10).trans k3,
        (hb.cell (p := ⟨w4.heap.size, 0, none⟩) k11).trans k4, (hb.cell (p := ⟨w4.heap.size, 1, none⟩) k11).trans k5, (hb.cell (p := ⟨w4.heap.size, 2, none⟩) k11).trans k6,
        (hb.cell (p := ⟨w5.heap.size, 0, none⟩) k12).trans k7, (hb.cell (p := ⟨w5.heap.size, 1, none⟩) k12).trans k8, (hb.cell (p := ⟨w5.heap.size, 2, none⟩) k12).trans k9,
        Nat.lt_of_lt_of_le k10 hb.size, Nat.lt_of_lt_of_le k11 hb.size, Nat.lt_of_lt_of_le k12 hb.size, k13.trans (hb.mono (Nat.le_of_lt k10))⟩
    obtain ⟨j0, hj0, hj1⟩ := fresh_ex (nmL l.flatten) n1
    have cF : ∀ w, (w.cell? ⟨W.heap.size, 0, none⟩ = some (.string s0) ∧ w.cell? ⟨W.heap.size, 1, none⟩ = some (.slice p1 n1 c1) ∧ w.cell? ⟨W.heap.size, 2, none⟩ = some (.int .i64 rt) ∧ w.cell? ⟨W.heap.size, 3, none⟩ = some (.slice p2 n2 c2) ∧ w.cell? ⟨w4.heap.size, 0, none⟩ = some (.int .i64 0) ∧ w.cell? ⟨w4.heap.size, 1, none⟩ = some (.int .i64 a) ∧ w.cell? ⟨w4.heap.size, 2, none⟩ = some (.int .i64 b) ∧ w.cell? ⟨w5.heap.size, 0, none⟩ = some (.int .i64 0) ∧ w.cell? ⟨w5.heap.size, 1, none⟩ = some (.int .i64 a) ∧ w.cell? ⟨w5.heap.size, 2, none⟩ = some (.int .i64 b) ∧ W.heap.size < w.heap.size ∧ w4.heap.size < w.heap.size ∧ w5.heap.size < w.heap.size ∧ Below W.heap.size W w) → Calls Try.prog 29 #[.agg #[.string s0, .slice p1 n1 c1, .int .i64 rt, .slice p2 n2 c2]] w fun e w' => e = .returned (.int .i64 ((n1 : Int) + j0)) ∧ (w'.cell? ⟨W.heap.size, 0, none⟩ = some (.string s0) ∧ w'.cell? ⟨W.heap.size, 1, none⟩ = some (.slice p1 n1 c1) ∧ w'.cell? ⟨W.heap.size, 2, none⟩ = some (.int .i64 rt) ∧ w'.cell? ⟨W.heap.size, 3, none⟩ = some (.slice p2 n2 c2) ∧ w'.cell? ⟨w4.heap.size, 0, none⟩ = some (.int .i64 0) ∧ w'.cell? ⟨w4.heap.size, 1, none⟩ = some (.int .i64 a) ∧ w'.cell? ⟨w4.heap.size, 2, none⟩ = some (.int .i64 b) ∧ w'.cell? ⟨w5.heap.size, 0, none⟩ = some (.int .i64 0) ∧ w'.cell? ⟨w5.heap.size, 1, none⟩ = some (.int .i64 a) ∧ w'.cell? ⟨w5.heap.size, 2, none⟩ = some (.int .i64 b) ∧ W.heap.size < w'.heap.size ∧ w4.heap.size < w'.heap.size ∧ w5.heap.size < w'.heap.size ∧ Below W.heap.size W w') := fun w hs =>
      (fresh_at h hN.out hs.2.2.2.2.2.2.2.2.2.2.2.2.2).mono fun e w' ⟨j, he, hc, hall, hb⟩ => by
        obtain rfl := fresh_unique hj0 hj1 hc hall
        exact ⟨he, HS w w' hs hb⟩
    have cG : ∀ w, (w.cell? ⟨W.heap.size, 0, none⟩ = some (.string s0) ∧ w.cell? ⟨W.heap.size, 1, none⟩ = some (.slice p1 n1 c1) ∧ w.cell? ⟨W.heap.size, 2, none⟩ = some (.int .i64 rt) ∧ w.cell? ⟨W.heap.size, 3, none⟩ = some (.slice p2 n2 c2) ∧ w.cell? ⟨w4.heap.size, 0, none⟩ = some (.int .i64 0) ∧ w.cell? ⟨w4.heap.size, 1, none⟩ = some (.int .i64 a) ∧ w.cell? ⟨w4.heap.size, 2, none⟩ = some (.int .i64 b) ∧ w.cell? ⟨w5.heap.size, 0, none⟩ = some (.int .i64 0) ∧ w.cell? ⟨w5.heap.size, 1, none⟩ = some (.int .i64 a) ∧ w.cell? ⟨w5.heap.size, 2, none⟩ = some (.int .i64 b) ∧ W.heap.size < w.heap.size ∧ w4.heap.size < w.heap.size ∧ w5.heap.size < w.heap.size ∧ Below W.heap.size W w) → Calls Try.prog 30 #[.agg #[.string s0, .slice p1 n1 c1, .int .i64 rt, .slice p2 n2 c2]] w fun e w' => e = .returned (.int .i64 ((n1 : Int) + j0)) ∧ (w'.cell? ⟨W.heap.size, 0, none⟩ = some (.string s0) ∧ w'.cell? ⟨W.heap.size, 1, none⟩ = some (.slice p1 n1 c1) ∧ w'.cell? ⟨W.heap.size, 2, none⟩ = some (.int .i64 rt) ∧ w'.cell? ⟨W.heap.size, 3, none⟩ = some (.slice p2 n2 c2) ∧ w'.cell? ⟨w4.heap.size, 0, none⟩ = some (.int .i64 0) ∧ w'.cell? ⟨w4.heap.size, 1, none⟩ = some (.int .i64 a) ∧ w'.cell? ⟨w4.heap.size, 2, none⟩ = some (.int .i64 b) ∧ w'.cell? ⟨w5.heap.size, 0, none⟩ = some (.int .i64 0) ∧ w'.cell? ⟨w5.heap.size, 1, none⟩ = some (.int .i64 a) ∧ w'.cell? ⟨w5.heap.size, 2, none⟩ = some (.int .i64 b) ∧ W.heap.size < w'.heap.size ∧ w4.heap.size < w'.heap.size ∧ w5.heap.size < w'.heap.size ∧ Below W.heap.size W w') := fun w hs =>
      (rfresh_at2 h hN.out hs.2.2.2.2.2.2.2.2.2.2.2.2.2).mono fun e w' ⟨j, he, hc, hall, hb⟩ => by
        obtain rfl := fresh_unique hj0 hj1 hc hall
        exact ⟨he, HS w w' hs hb⟩
    have cS : ∀ w, (w.cell? ⟨W.heap.size, 0, none⟩ = some (.string s0) ∧ w.cell? ⟨W.heap.size, 1, none⟩ = some (.slice p1 n1 c1) ∧ w.cell? ⟨W.heap.size, 2, none⟩ = some (.int .i64 rt) ∧ w.cell? ⟨W.heap.size, 3, none⟩ = some (.slice p2 n2 c2) ∧ w.cell? ⟨w4.heap.size, 0, none⟩ = some (.int .i64 0) ∧ w.cell? ⟨w4.heap.size, 1, none⟩ = some (.int .i64 a) ∧ w.cell? ⟨w4.heap.size, 2, none⟩ = some (.int .i64 b) ∧ w.cell? ⟨w5.heap.size, 0, none⟩ = some (.int .i64 0) ∧ w.cell? ⟨w5.heap.size, 1, none⟩ = some (.int .i64 a) ∧ w.cell? ⟨w5.heap.size, 2, none⟩ = some (.int .i64 b) ∧ W.heap.size < w.heap.size ∧ w4.heap.size < w.heap.size ∧ w5.heap.size < w.heap.size ∧ Below W.heap.size W w) → Calls Try.prog 28 #[.agg #[.string s0, .slice p1 n1 c1, .int .i64 rt, .slice p2 n2 c2]] w fun e w' => e = .returned (.int .i64 LL) ∧ (w'.cell? ⟨W.heap.size, 0, none⟩ = some (.string s0) ∧ w'.cell? ⟨W.heap.size, 1, none⟩ = some (.slice p1 n1 c1) ∧ w'.cell? ⟨W.heap.size, 2, none⟩ = some (.int .i64 rt) ∧ w'.cell? ⟨W.heap.size, 3, none⟩ = some (.slice p2 n2 c2) ∧ w'.cell? ⟨w4.heap.size, 0, none⟩ = some (.int .i64 0) ∧ w'.cell? ⟨w4.heap.size, 1, none⟩ = some (.int .i64 a) ∧ w'.cell? ⟨w4.heap.size, 2, none⟩ = some (.int .i64 b) ∧ w'.cell? ⟨w5.heap.size, 0, none⟩ = some (.int .i64 0) ∧ w'.cell? ⟨w5.heap.size, 1, none⟩ = some (.int .i64 a) ∧ w'.cell? ⟨w5.heap.size, 2, none⟩ = some (.int .i64 b) ∧ W.heap.size < w'.heap.size ∧ w4.heap.size < w'.heap.size ∧ w5.heap.size < w'.heap.size ∧ Below W.heap.size W w') := fun w hs =>
      (size_at2 h hN.out hs.2.2.2.2.2.2.2.2.2.2.2.2.2).mono fun e w' ⟨he, hb⟩ => ⟨by rw [he, HLL.out], HS w w' hs hb⟩
    obtain ⟨U, eU⟩ : ∃ U : Int, ((usesOf reg l.flatten : Nat) : Int) = U := ⟨_, rfl⟩
    have cU : ∀ w, (w.cell? ⟨W.heap.size, 0, none⟩ = some (.string s0) ∧ w.cell? ⟨W.heap.size, 1, none⟩ = some (.slice p1 n1 c1) ∧ w.cell? ⟨W.heap.size, 2, none⟩ = some (.int .i64 rt) ∧ w.cell? ⟨W.heap.size, 3, none⟩ = some (.slice p2 n2 c2) ∧ w.cell? ⟨w4.heap.size, 0, none⟩ = some (.int .i64 0) ∧ w.cell? ⟨w4.heap.size, 1, none⟩ = some (.int .i64 a) ∧ w.cell? ⟨w4.heap.size, 2, none⟩ = some (.int .i64 b) ∧ w.cell? ⟨w5.heap.size, 0, none⟩ = some (.int .i64 0) ∧ w.cell? ⟨w5.heap.size, 1, none⟩ = some (.int .i64 a) ∧ w.cell? ⟨w5.heap.size, 2, none⟩ = some (.int .i64 b) ∧ W.heap.size < w.heap.size ∧ w4.heap.size < w.heap.size ∧ w5.heap.size < w.heap.size ∧ Below W.heap.size W w) → Calls Try.prog 31 #[.agg #[.string s0, .slice p1 n1 c1, .int .i64 rt, .slice p2 n2 c2], .int .i64 reg] w fun e w' => e = .returned (.int .i64 U) ∧ (w'.cell? ⟨W.heap.size, 0, none⟩ = some (.string s0) ∧ w'.cell? ⟨W.heap.size, 1, none⟩ = some (.slice p1 n1 c1) ∧ w'.cell? ⟨W.heap.size, 2, none⟩ = some (.int .i64 rt) ∧ w'.cell? ⟨W.heap.size, 3, none⟩ = some (.slice p2 n2 c2) ∧ w'.cell? ⟨w4.heap.size, 0, none⟩ = some (.int .i64 0) ∧ w'.cell? ⟨w4.heap.size, 1, none⟩ = some (.int .i64 a) ∧ w'.cell? ⟨w4.heap.size, 2, none⟩ = some (.int .i64 b) ∧ w'.cell? ⟨w5.heap.size, 0, none⟩ = some (.int .i64 0) ∧ w'.cell? ⟨w5.heap.size, 1, none⟩ = some (.int .i64 a) ∧ w'.cell? ⟨w5.heap.size, 2, none⟩ = some (.int .i64 b) ∧ W.heap.size < w'.heap.size ∧ w4.heap.size < w'.heap.size ∧ w5.heap.size < w'.heap.size ∧ Below W.heap.size W w') := fun w hs =>
      (uses_at2 h hN.out reg hs.2.2.2.2.2.2.2.2.2.2.2.2.2).mono fun e w' ⟨he, hb⟩ => ⟨by rw [he, eU], HS w w' hs hb⟩
    have cV : ∀ w, (w.cell? ⟨W.heap.size, 0, none⟩ = some (.string s0) ∧ w.cell? ⟨W.heap.size, 1, none⟩ = some (.slice p1 n1 c1) ∧ w.cell? ⟨W.heap.size, 2, none⟩ = some (.int .i64 rt) ∧ w.cell? ⟨W.heap.size, 3, none⟩ = some (.slice p2 n2 c2) ∧ w.cell? ⟨w4.heap.size, 0, none⟩ = some (.int .i64 0) ∧ w.cell? ⟨w4.heap.size, 1, none⟩ = some (.int .i64 a) ∧ w.cell? ⟨w4.heap.size, 2, none⟩ = some (.int .i64 b) ∧ w.cell? ⟨w5.heap.size, 0, none⟩ = some (.int .i64 0) ∧ w.cell? ⟨w5.heap.size, 1, none⟩ = some (.int .i64 a) ∧ w.cell? ⟨w5.heap.size, 2, none⟩ = some (.int .i64 b) ∧ W.heap.size < w.heap.size ∧ w4.heap.size < w.heap.size ∧ w5.heap.size < w.heap.size ∧ Below W.heap.size W w) → Calls Try.prog 32 #[.agg #[.string s0, .slice p1 n1 c1, .int .i64 rt, .slice p2 n2 c2], .int .i64 reg] w fun e w' => e = .returned (.int .i64 U) ∧ (w'.cell? ⟨W.heap.size, 0, none⟩ = some (.string s0) ∧ w'.cell? ⟨W.heap.size, 1, none⟩ = some (.slice p1 n1 c1) ∧ w'.cell? ⟨W.heap.size, 2, none⟩ = some (.int .i64 rt) ∧ w'.cell? ⟨W.heap.size, 3, none⟩ = some (.slice p2 n2 c2) ∧ w'.cell? ⟨w4.heap.size, 0, none⟩ = some (.int .i64 0) ∧ w'.cell? ⟨w4.heap.size, 1, none⟩ = some (.int .i64 a) ∧ w'.cell? ⟨w4.heap.size, 2, none⟩ = some (.int .i64 b) ∧ w'.cell? ⟨w5.heap.size, 0, none⟩ = some (.int .i64 0) ∧ w'.cell? ⟨w5.heap.size, 1, none⟩ = some (.int .i64 a) ∧ w'.cell? ⟨w5.heap.size, 2, none⟩ = some (.int .i64 b) ∧ W.heap.size < w'.heap.size ∧ w4.heap.size < w'.heap.size ∧ w5.heap.size < w'.heap.size ∧ Below W.heap.size W w') := fun w hs =>
      (ruses_at2 h hN.out reg hs.2.2.2.2.2.2.2.2.2.2.2.2.2).mono fun e w' ⟨he, hb⟩ => ⟨by rw [he, eU], HS w w' hs hb⟩
    have P7 := P6.alloc (.cells #[.int .i64 0, .int .i64 a, .int .i64 b] 47)
    have F7 := F6.alloc (.cells #[.int .i64 0, .int .i64 a, .int .i64 b] 47)
    have T7 := T6.alloc #[.int .i64 0, .int .i64 a, .int .i64 b] 47
    have Q7 := Tri.new (B := 0) w5 (Nat.zero_le _) (.int .i64 0) (.int .i64 a) (.int .i64 b) 47
    obtain ⟨-, q0', q1', q2', q3', -⟩ := id Q7
    obtain ⟨-, s0', s1', s2', s3', -⟩ := id T7
    obtain ⟨x, x0, x1, x2, x3⟩ := id F7
    clear eU HS hj0 hj1 HLL
    obtain ⟨N, eN⟩ : ∃ N : Int, (n1 : Int) + j0 = N := ⟨_, rfl⟩
    simp only [eN] at cF cG
    clear eN
    go_wp2_with fail
    have B7 := P7.2
    go_region_held3 (fun w' => w'.cell? ⟨W.heap.size, 0, none⟩ = some (.string s0) ∧ w'.cell? ⟨W.heap.size, 1, none⟩ = some (.slice p1 n1 c1) ∧ w'.cell? ⟨W.heap.size, 2, none⟩ = some (.int .i64 rt) ∧ w'.cell? ⟨W.heap.size, 3, none⟩ = some (.slice p2 n2 c2) ∧ w'.cell? ⟨w4.heap.size, 0, none⟩ = some (.int .i64 0) ∧ w'.cell? ⟨w4.heap.size, 1, none⟩ = some (.int .i64 a) ∧ w'.cell? ⟨w4.heap.size, 2, none⟩ = some (.int .i64 b) ∧ w'.cell? ⟨w5.heap.size, 0, none⟩ = some (.int .i64 0) ∧ w'.cell? ⟨w5.heap.size, 1, none⟩ = some (.int .i64 a) ∧ w'.cell? ⟨w5.heap.size, 2, none⟩ = some (.int .i64 b) ∧ W.heap.size < w'.heap.size ∧ w4.heap.size < w'.heap.size ∧ w5.heap.size < w'.heap.size ∧ Below W.heap.size W w')
      (((try dsimp only); (repeat' apply And.intro) <;> (first | (with_reducible assumption) | (rw [World.cell?_drew]; with_reducible assumption) | (with_reducible apply below_drew; with_reducible assumption) | (simp <;> omega))))
      (first
        | ((with_reducible refine (cS _ (by (repeat' apply And.intro) <;> (first | (with_reducible assumption) | (rw [World.cell?_drew]; with_reducible assumption) | (with_reducible apply below_drew; with_reducible assumption) | (simp <;> omega)))).mono ?_); rintro e w' ⟨rfl, k0, k1, k2, k3, k4, k5, k6, k7, k8, k9, k10, k11, k12, k13⟩)
        | ((with_reducible refine (cF _ (by (repeat' apply And.intro) <;> (first | (with_reducible assumption) | (rw [World.cell?_drew]; with_reducible assumption) | (with_reducible apply below_drew; with_reducible assumption) | (simp <;> omega)))).mono ?_); rintro e w' ⟨rfl, k0, k1, k2, k3, k4, k5, k6, k7, k8, k9, k10, k11, k12, k13⟩)
        | ((with_reducible refine (cG _ (by (repeat' apply And.intro) <;> (first | (with_reducible assumption) | (rw [World.cell?_drew]; with_reducible assumption) | (with_reducible apply below_drew; with_reducible assumption) | (simp <;> omega)))).mono ?_); rintro e w' ⟨rfl, k0, k1, k2, k3, k4, k5, k6, k7, k8, k9, k10, k11, k12, k13⟩)
        | ((with_reducible refine (cU _ (by (repeat' apply And.intro) <;> (first | (with_reducible assumption) | (rw [World.cell?_drew]; with_reducible assumption) | (with_reducible apply below_drew; with_reducible assumption) | (simp <;> omega)))).mono ?_); rintro e w' ⟨rfl, k0, k1, k2, k3, k4, k5, k6, k7, k8, k9, k10, k11, k12, k13⟩)
        | ((with_reducible refine (cV _ (by (repeat' apply And.intro) <;> (first | (with_reducible assumption) | (rw [World.cell?_drew]; with_reducible assumption) | (with_reducible apply below_drew; with_reducible assumption) | (simp <;> omega)))).mono ?_); rintro e w' ⟨rfl, k0, k1, k2, k3, k4, k5, k6, k7, k8, k9, k10, k11, k12, k13⟩))
    all_goals (try go_wp2)
    all_goals go_ret
    all_goals
      refine ⟨by first | rfl | (simp; done), ?_⟩
      repeat (first | (with_reducible assumption) | (with_reducible apply below_drew))
end Go.Proofs.Ytpfeiolmkbibiaa
