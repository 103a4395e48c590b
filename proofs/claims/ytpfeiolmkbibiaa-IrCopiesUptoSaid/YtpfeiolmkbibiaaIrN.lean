/- The law IrFresh: its walk. -/
import Derived.Test.YtpfeiolmkbibiaaIrM
namespace Go.Proofs.Ytpfeiolmkbibiaa
open Go.RowKit Go.Maps
set_option linter.unusedVariables false
set_option linter.unusedSimpArgs false

theorem free_mem {l : List Ins} {r : Int} (h : (nmL l).contains r = false) {d : Ins} (hd : d ∈ l) : ¬ d.reg = r ∧ ∀ v ∈ d.args, isU r v = false := by
  have hn : r ∉ nmL l := by intro hm; rw [List.contains_iff_mem.2 hm] at h; cases h
  have hI : ∀ x ∈ nmI d, x ∈ nmL l := fun x hx => List.mem_flatMap.2 ⟨d, hd, hx⟩
  refine ⟨fun e => hn (hI r (by rw [← e]; exact List.mem_cons_self)), fun v hv => ?_⟩
  cases hu : isU r v
  · rfl
  · unfold isU at hu
    simp only [Bool.and_eq_true, beq_iff_eq] at hu
    refine absurd (hI r (List.mem_cons_of_mem _ ?_)) hn
    unfold nmA
    exact List.mem_map.2 ⟨v, List.mem_filter.2 ⟨hv, by simpa using hu.1⟩, hu.2⟩
theorem free_uses {l : List Ins} {r : Int} (h : (nmL l).contains r = false) : usesOf r l = 0 := by
  unfold usesOf
  have : ∀ d ∈ l, usesIn r d.args = 0 := fun d hd => by
    unfold usesIn
    rw [List.length_eq_zero_iff, List.filter_eq_nil_iff]
    intro v hv
    rw [(free_mem h hd).2 v hv]
    decide
  clear h
  induction l with
  | nil => rfl
  | cons d l ih =>
    rw [List.map_cons, List.sum_cons, this d List.mem_cons_self, ih (fun x hx => this x (List.mem_cons_of_mem _ hx))]
theorem free_def {l : List (List Ins)} {r : Int} (h : (nmL l.flatten).contains r = false) {f : Bool} {y z : Int} (hd : DefS l r l.length 0 f y z) : f = false ∧ y = 0 ∧ z = 0 := by
  rcases hd with ⟨h1, h2, h3, _⟩ | ⟨_, b, k, _, _, _, ⟨c, d, e1, e2, e3⟩, _⟩
  · exact ⟨h1, h2, h3⟩
  · have hm : d ∈ l.flatten := List.mem_flatten.2 ⟨c, List.mem_of_getElem? e1, List.mem_of_getElem? e2⟩
    unfold mk at e3
    simp only [Bool.and_eq_true, beq_iff_eq] at e3
    exact absurd e3.1 (free_mem h hm).1

/-- Fresh, Def, Uses of an argument, at whatever world that has it still. -/
theorem fresh_at {W : World} {s0 : ByteArray} {p1 : Option Addr} {n1 c1 : Nat} {rt : Int} {p2 : Option Addr} {n2 c2 : Nat} {l : List (List Ins)} (h : FuncOk W s0 p1 n1 c1 rt p2 n2 c2 l) (hn : cnt l.flatten + n1 ≤ 1048576) {w : World} (hb : Below W.heap.size W w) :
    Calls Try.prog 29 #[.agg #[.string s0, .slice p1 n1 c1, .int .i64 rt, .slice p2 n2 c2]] w (FreshEnds w.heap.size n1 (nmL l.flatten) w) :=
  Fresh_any w.heap.size l w rt s0 p1 n1 c1 p2 n2 c2 (Nat.le_refl _) ((h.blocks.below hb).mono hb.size) (fun b x k y => ((h.args b x k y).below hb).mono hb.size) (fun b x k y => (h.ins b x k y).2.1) (fun b x k y i z => (h.ins b x k y).2.2 i z) (by omega) (by omega)
theorem def_at {W : World} {s0 : ByteArray} {p1 : Option Addr} {n1 c1 : Nat} {rt : Int} {p2 : Option Addr} {n2 c2 : Nat} {l : List (List Ins)} (h : FuncOk W s0 p1 n1 c1 rt p2 n2 c2 l) {r : Int} (hr : (nmL l.flatten).contains r = false) {w : World} (hb : Below W.heap.size W w) :
    Calls Try.prog 26 #[.agg #[.string s0, .slice p1 n1 c1, .int .i64 rt, .slice p2 n2 c2], .int .i64 r] w fun e w' => e = .returned (.tuple #[.agg #[.int .i64 0, .int .i64 0, .int .i64 0], .bool false]) ∧ Below w.heap.size w w' :=
  (Def_any w.heap.size l w rt r s0 p1 n1 c1 p2 n2 c2 (Nat.le_refl _) ((h.blocks.below hb).mono hb.size)).mono fun e w' ⟨f, y, z, hd, he, hw⟩ => by
    obtain ⟨rfl, rfl, rfl⟩ := free_def hr hd
    exact ⟨he, hw⟩
theorem uses_at {W : World} {s0 : ByteArray} {p1 : Option Addr} {n1 c1 : Nat} {rt : Int} {p2 : Option Addr} {n2 c2 : Nat} {l : List (List Ins)} (h : FuncOk W s0 p1 n1 c1 rt p2 n2 c2 l) (hn : cnt l.flatten + n1 ≤ 1048576) {r : Int} (hr : (nmL l.flatten).contains r = false) {w : World} (hb : Below W.heap.size W w) :
    Calls Try.prog 31 #[.agg #[.string s0, .slice p1 n1 c1, .int .i64 rt, .slice p2 n2 c2], .int .i64 r] w fun e w' => e = .returned (.int .i64 0) ∧ Below w.heap.size w w' :=
  Uses_any w.heap.size l w rt r s0 p1 n1 c1 p2 n2 c2 (Nat.le_refl _) ((h.blocks.below hb).mono hb.size) (fun b x k y => ((h.args b x k y).below hb).mono hb.size) 0 (free_uses hr) (by unfold cnt at hn; omega)

set_option maxRecDepth 100000 in
set_option maxHeartbeats 4000000 in
theorem irFresh_walk (W : World) (s0 : ByteArray) (p1 : Option Addr) (n1 c1 : Nat) (rt : Int) (p2 : Option Addr) (n2 c2 : Nat) (l : List (List Ins)) (h : FuncOk W s0 p1 n1 c1 rt p2 n2 c2 l) (hn : cnt l.flatten + n1 ≤ 1048576) :
    Calls Try.prog 8 #[.agg #[.string s0, .slice p1 n1 c1, .int .i64 rt, .slice p2 n2 c2]] W fun e w' => e = .returned (.bool true) ∧ Below W.heap.size W w' := by
  have cl := lives_any
  have hP : Past W.heap.size W (W.alloc (.cells #[.string s0, .slice p1 n1 c1, .int .i64 rt, .slice p2 n2 c2] 41)) := (Past.refl (Nat.le_refl _)).alloc _
  go_enter Try.func8, Try.ntmps8
  go_wp2_with fail
  refine (cl _).mono ?_
  rintro e w1 ⟨rfl, hb1⟩
  have hz1 : W.heap.size < w1.heap.size := by have := hb1.size; simp at this; omega
  have P1 := hP.trans ⟨hP.size, hb1.mono hP.size⟩
  have y0 : w1.cell? ⟨W.heap.size, 0, none⟩ = some (.string s0) := (hb1.cell (p := ⟨W.heap.size, 0, none⟩) (by simp)).trans (by rw [World.cell?_alloc_at _ _ _ _ rfl]; rfl)
  have y1 : w1.cell? ⟨W.heap.size, 1, none⟩ = some (.slice p1 n1 c1) := (hb1.cell (p := ⟨W.heap.size, 1, none⟩) (by simp)).trans (by rw [World.cell?_alloc_at _ _ _ _ rfl]; rfl)
  have y2 : w1.cell? ⟨W.heap.size, 2, none⟩ = some (.int .i64 rt) := (hb1.cell (p := ⟨W.heap.size, 2, none⟩) (by simp)).trans (by rw [World.cell?_alloc_at _ _ _ _ rfl]; rfl)
  have y3 : w1.cell? ⟨W.heap.size, 3, none⟩ = some (.slice p2 n2 c2) := (hb1.cell (p := ⟨W.heap.size, 3, none⟩) (by simp)).trans (by rw [World.cell?_alloc_at _ _ _ _ rfl]; rfl)

  go_wp2_with fail
  have P2 := P1.alloc (.cells #[.string s0, .slice p1 n1 c1, .int .i64 rt, .slice p2 n2 c2] 41)
  refine (Few_one _ w1.heap.size s0 p1 n1 c1 rt p2 n2 c2 l (by simp) (by rw [World.cell?_alloc_at _ _ _ _ rfl]; rfl) (by rw [World.cell?_alloc_at _ _ _ _ rfl]; rfl) (by rw [World.cell?_alloc_at _ _ _ _ rfl]; rfl) (by rw [World.cell?_alloc_at _ _ _ _ rfl]; rfl) ((h.blocks.below P2.2).mono P2.2.size) hn).mono ?_
  rintro e w2 ⟨bf, rfl, hb2⟩
  have hz2 : w1.heap.size < w2.heap.size := by have := hb2.size; simp at this; omega
  have P3 := P2.trans ⟨P2.size, hb2.mono P2.size⟩
  have z0 : w2.cell? ⟨W.heap.size, 0, none⟩ = some (.string s0) := (hb2.cell (p := ⟨W.heap.size, 0, none⟩) (by simp; omega)).trans ((World.cell?_alloc_past _ _ _ hz1).trans y0)
  have z1 : w2.cell? ⟨W.heap.size, 1, none⟩ = some (.slice p1 n1 c1) := (hb2.cell (p := ⟨W.heap.size, 1, none⟩) (by simp; omega)).trans ((World.cell?_alloc_past _ _ _ hz1).trans y1)
  have z2 : w2.cell? ⟨W.heap.size, 2, none⟩ = some (.int .i64 rt) := (hb2.cell (p := ⟨W.heap.size, 2, none⟩) (by simp; omega)).trans ((World.cell?_alloc_past _ _ _ hz1).trans y2)
  have z3 : w2.cell? ⟨W.heap.size, 3, none⟩ = some (.slice p2 n2 c2) := (hb2.cell (p := ⟨W.heap.size, 3, none⟩) (by simp; omega)).trans ((World.cell?_alloc_past _ _ _ hz1).trans y3)
  cases bf
  · go_wp2
    go_ret
    exact ⟨rfl, P3.2⟩
  · have hN := Lib.hid hn
    clear hn
    go_wp2_with fail
    refine (fresh_at h hN.out P3.2).mono ?_
    rintro e w3 ⟨j, rfl, hc, hall, hb3⟩
    have HC := Lib.hid hc
    clear hc hall
    have hz3 : w2.heap.size ≤ w3.heap.size := hb3.size
    have P4 := P3.trans ⟨P3.size, hb3.mono P3.size⟩
    have u0 : w3.cell? ⟨W.heap.size, 0, none⟩ = some (.string s0) := (hb3.cell (p := ⟨W.heap.size, 0, none⟩) (show W.heap.size < w2.heap.size by omega)).trans z0
    have u1 : w3.cell? ⟨W.heap.size, 1, none⟩ = some (.slice p1 n1 c1) := (hb3.cell (p := ⟨W.heap.size, 1, none⟩) (show W.heap.size < w2.heap.size by omega)).trans z1
    have u2 : w3.cell? ⟨W.heap.size, 2, none⟩ = some (.int .i64 rt) := (hb3.cell (p := ⟨W.heap.size, 2, none⟩) (show W.heap.size < w2.heap.size by omega)).trans z2
    have u3 : w3.cell? ⟨W.heap.size, 3, none⟩ = some (.slice p2 n2 c2) := (hb3.cell (p := ⟨W.heap.size, 3, none⟩) (show W.heap.size < w2.heap.size by omega)).trans z3
    go_wp2_with fail
    refine (def_at h HC.out P4.2).mono ?_
    rintro e w4 ⟨rfl, hb4⟩
    have hz4 : w3.heap.size ≤ w4.heap.size := hb4.size
    have P5 := (P4.trans ⟨P4.size, hb4.mono P4.size⟩).alloc (.cells #[.int .i64 0, .int .i64 0, .int .i64 0] 47)
    have v0 : w4.cell? ⟨W.heap.size, 0, none⟩ = some (.string s0) := (hb4.cell (p := ⟨W.heap.size, 0, none⟩) (show W.heap.size < w3.heap.size by omega)).trans u0
    have v1 : w4.cell? ⟨W.heap.size, 1, none⟩ = some (.slice p1 n1 c1) := (hb4.cell (p := ⟨W.heap.size, 1, none⟩) (show W.heap.size < w3.heap.size by omega)).trans u1
    have v2 : w4.cell? ⟨W.heap.size, 2, none⟩ = some (.int .i64 rt) := (hb4.cell (p := ⟨W.heap.size, 2, none⟩) (show W.heap.size < w3.heap.size by omega)).trans u2
    have v3 : w4.cell? ⟨W.heap.size, 3, none⟩ = some (.slice p2 n2 c2) := (hb4.cell (p := ⟨W.heap.size, 3, none⟩) (show W.heap.size < w3.heap.size by omega)).trans u3
    have hz5 : W.heap.size < w4.heap.size := by omega
    have cu := uses_at h hN.out HC.out P5.2
    have g1 : (n1 : Int) ≤ (n1 : Int) + j := by omega
    have g2 : 0 ≤ (n1 : Int) + j := by omega
    have g3 : (j : Int) ≥ 0 := by omega
    go_wp2_with fail
    refine cu.mono ?_
    rintro e w5 ⟨rfl, hb5⟩
    go_wp2
    go_ret
    exact ⟨rfl, (P5.trans ⟨P5.size, hb5.mono P5.size⟩).2⟩
end Go.Proofs.Ytpfeiolmkbibiaa
