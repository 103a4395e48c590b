/- slices.Backward of a row of ints: what it hands to a loop's body, which may turn whatever is not the row. -/
import Derived.RangeFuncNested
import Derived.RangeFuncBound
import Derived.RangeFuncCalls
import Derived.RangeFuncLeaves
import Derived.RangeFuncBox
import Derived.Shelf.Abstract
import Derived.WalkKit
import Derived.OwnWalkIn
import Derived.TacticsInMore
import Derived.LoopNIn
import Derived.LoopIn
import Derived.Sort.QuietIn
import Derived.Test.YtphdhndljgihmaaWkA
namespace Go.Proofs.Ytphdhndljgihmaa
open Go.RowKit Go.Maps Go.Shelf
set_option linter.unusedVariables false
set_option linter.unusedSimpArgs false

section
attribute [local go_sem] Oper.semAt_some
/-- Two blocks lie as they lay. -/
def Kp2 (g B : Nat) (W W' : World) : Prop := W'.heap[g]? = W.heap[g]? ∧ W'.heap[B]? = W.heap[B]?
theorem kp2_t {g B : Nat} {A C D : World} (h : Kp2 g B A C) (k : Kp2 g B C D) : Kp2 g B A D := ⟨k.1.trans h.1, k.2.trans h.2⟩
theorem kp2_b {g B : Nat} {w : World} (hg : g < w.heap.size) (hB : B < w.heap.size) (W : World) (l : Nat) (o o' : Obj) (hl : w.heap.size ≤ l) (h : W.heap[l]? = some o) (_ : o.isCells = false) (_ : o.isWalk = false) : Kp2 g B W (W.putObj l o') := by
  have hl2 := (Array.getElem?_eq_some_iff.1 h).1
  have hk := grownBy_putObj' W l o'
  unfold Kp2
  constructor
  · exact hk.block g (by omega) (fun e => by cases e; omega)
  · exact hk.block B (by omega) (fun e => by cases e; omega)
/-- What is handed to the loop's body as the k-th: the place, the number there; from the last on. -/
def bkA (zs : List Int) (k : Nat) : Array Value := #[.int .i64 ((zs.length - 1 - k : Nat) : Int), .int .i64 (zs.getD (zs.length - 1 - k) 0)]
/-- An iterator that hands on N rounds' values, each known, and asks that each round keeps what it reads. -/
def Hands (F : Fence) (n : Nat) (P : Program) (gf : Nat) (lb : Array Value) (vals : Nat → Array Value) (N : Nat) (Kp : World → World → Prop) (w0 : World) : Prop :=
  ∀ (l : Nat) (J : Nat → World → Prop) (W : World), Below w0.heap.size w0 W →
    (∀ k W1, J k W1 → k < N → YieldAt F (n - 1) P l (vals k) W1 fun e W' => e = .returned (.bool true) ∧ J (k + 1) W' ∧ Kp W1 W') →
    J 0 W → CallsIn F n P gf (#[.func (.yield l) #[] #[]] ++ lb) W fun e W' => (∃ v, e = .returned v) ∧ J N W'
/-- A loop over such an iterator, whose body always goes on to the next round. -/
theorem hands_loop {F : Fence} {n : Nat} {P : Program} {g : Operand} {ps : Array Tmp} {assign body : Code} {Q : Exit → Act → World → Prop} {a : Act} {w : World} (hro : F.round = none) (h1 : 1 ≤ n) {gf : Nat} {lb : Array Value}
    (hg : a.eval g = .func (.func gf) #[] lb) (hf : F.fn gf) (he : ∀ args u, (callFunc gf args).run P u = .ok (.enter gf args) u) {vals : Nat → Array Value} {N : Nat} {Kp : World → World → Prop} (hit : Hands F (n - 1) P gf lb vals N Kp w)
    (hKt : ∀ {A B C : World}, Kp A B → Kp B C → Kp A C) (hKb : ∀ (W : World) (l : Nat) (o o' : Obj), w.heap.size ≤ l → W.heap[l]? = some o → o.isCells = false → o.isWalk = false → Kp W (W.putObj l o')) (hps : ∀ k, (vals k).size = ps.size)
    (I : Nat → World → Prop) (hI : OwnFrom w.heap.size I) (h0 : I 0 w) (act : Nat → Act)
    (hassign : ∀ (l k : Nat) (W : World) (K : Act → World → Prop), K (act k) W → assign.wpIn (F.inRound l) (n - 1 - 1) P (Exit.then K (fun _ _ _ => False)) { tmps := (ps.zip (vals k)).foldl (fun t (p, v) => t.setIfInBounds p v) a.tmps, defers := [] } W)
    (hbody : ∀ (l k : Nat) (W : World), I k W → k < N → body.wpIn (F.inRound l) (n - 1 - 1) P (fun e _ W' => e = .normal ∧ KeepsFrom w.heap.size W W' ∧ Kp W W' ∧ I (k + 1) W') (act k) W)
    (hdone : ∀ (D : Nat) (W : World), w.heap.size ≤ D → I N W → W.heap[D]? = some (.deferred (some [])) → Q .normal { a with defers := { target := .collected D, args := #[] } :: a.defers } W) :
    (Code.rangeFunc g ps assign body).wpIn F n P Q a w := by
  refine wpIn_rangeFunc fun fn hfn => ?_
  rw [hro]
  -- the record of the loop, by its state
  let rc : LoopState → Loop := fun st => { state := st, pending := none, fn, tmps := a.tmps, params := ps, assign, body, defers := w.heap.size }
  let w1 := (w.alloc (.deferred (some []))).alloc (.loop (rc .ready))
  have hs1 : w1.heap.size = w.heap.size + 2 := by simp [w1]
  have hrec : w1.heap[w.heap.size + 1]? = some (.loop (rc .ready)) := by
    have := World.alloc_heap_new (w.alloc (.deferred (some []))) (.loop (rc .ready))
    rwa [World.size_alloc] at this
  have hmark : w1.heap[w.heap.size]? = some (.deferred (some [])) := (Below.heap_alloc _ _ _ (by simp)).trans (World.alloc_heap_new w _)
  have hb : Below w.heap.size w w1 := ((Below.refl _ w).alloc (Nat.le_refl _) _).alloc (by simp) _
  refine ⟨w.heap.size + 1, [{ target := .collected w.heap.size, args := #[] }], w1, { target := .fn (.func gf) lb, args := #[.func (.yield (w.heap.size + 1)) #[] #[]] }, w1, gf, #[.func (.yield (w.heap.size + 1)) #[] #[]] ++ lb, w1, run_enterLoop_outer _ _ _ _ _, ?_, ?_, ?_, fun _ => h1, ?_⟩
  · simp only [resolve, hg]
    simp [go_sem]
  · intro f' e'
    simp [Target.leads] at e'
    exact e' ▸ hf
  · simp [invoke, go_sem, he]
  refine (hit (w.heap.size + 1) (fun k W => I k W ∧ W.heap[w.heap.size + 1]? = some (.loop (rc .ready)) ∧ W.heap[w.heap.size]? = some (.deferred (some []))) w1 hb ?_ ⟨hI.alloc _ (hI.alloc _ h0), hrec, hmark⟩).mono ?_
  · rintro k W ⟨i1, i2, i3⟩ hk
    have hlt := (Array.getElem?_eq_some_iff.1 i2).1
    have hy := run_yield (P := P) (args := vals k) i2 (hps k)
    refine ⟨fn, _, assign, body, hy, roundIn_of_wpIn hfn (hassign _ k W _ ⟨_, run_beginRound i2 rfl, ?_⟩)⟩
    let Wb := W.putObj (w.heap.size + 1) (.loop { rc .ready with state := .busy })
    have b1 : Wb.heap[w.heap.size + 1]? = some (.loop { rc .ready with state := .busy }) := World.putObj_heap_same hlt
    have b2 : Wb.heap[w.heap.size]? = some (.deferred (some [])) := (World.putObj_heap_other (by omega)).trans i3
    refine wpIn_mono (hbody _ k Wb (hI.putObj _ i1 (by omega) i2 rfl) hk) ?_
    rintro e a3 W3 ⟨rfl, c1, c2, c3⟩
    have d1 := c1.same _ _ (by omega) b1 rfl
    have d2 := c1.same _ _ (Nat.le_refl _) b2 rfl
    have d3 := run_endRound (P := P) none d1
    exact ⟨_, _, d3, rfl, ⟨hI.putObj _ c3 (by omega) d1 rfl, World.putObj_heap_same (Array.getElem?_eq_some_iff.1 d1).1, (World.putObj_heap_other (by omega)).trans d2⟩, hKt (hKt (hKb _ _ _ _ (by omega) i2 rfl rfl) c2) (hKb _ _ _ _ (by omega) d1 rfl rfl)⟩
  · rintro e W2 ⟨⟨v, rfl⟩, i1, i2, i3⟩
    exact ⟨none, _, run_endLoop (P := P) i2 (by simp [rc]), hdone _ _ (Nat.le_refl _) (hI.putObj _ i1 (by omega) i2 rfl) ((World.putObj_heap_other (by omega)).trans i3)⟩
set_option maxRecDepth 100000 in
set_option maxHeartbeats 2000000 in
theorem back1_in (F : Fence) (n : Nat) (h7 : F.fn 53) (hro : F.round = none) (hn : 1 ≤ n) (l Bs g cap : Nat) (zs : List Int) (hreach : zs.length ≤ 1099511627776) (J : Nat → World → Prop)
    (hY : ∀ k W, J k W → k < zs.length → YieldAt F (n - 1) Try.prog l (bkA zs k) W fun e W' => e = .returned (.bool true) ∧ J (k + 1) W' ∧ Kp2 g Bs W W')
    (W : World) (hBs : W.cell? ⟨Bs, 0, none⟩ = some (.slice (some ⟨g, 0, none⟩) zs.length cap)) (hc : ∀ j, j < zs.length → W.cell? ⟨g, j, none⟩ = some (.int .i64 (zs.getD j 0))) (h0 : J 0 W) :
    CallsIn F n Try.prog 53 #[.func (.yield l) #[] #[], .pointer (some ⟨Bs, 0, none⟩)] W fun e W' => (∃ v, e = .returned v) ∧ J zs.length W' := by
  refine callsIn_of_wp Try.func53 rfl h7 ?_ hro
  simp only [Try.ntmps53, List.size_toArray, List.length_cons, List.length_nil, Nat.reduceAdd, Nat.reduceSub, Array.replicate_succ, Array.replicate_zero, List.push_toArray, List.append_toArray, List.nil_append, List.cons_append]
  gi_wp2
  gi_loopw [3] (fun i wr => ∃ k : Nat, k ≤ zs.length ∧ i = .int .i64 ((zs.length : Int) - 1 - k) ∧ J k wr ∧ Kp2 g Bs W wr)
    (fun i _ => (intOf i + 1).toNat)
  case atStart => exact ⟨0, Nat.zero_le _, by simp, h0, rfl, rfl⟩
  case round =>
    obtain ⟨k, hk, rfl, hJs, hnx⟩ := hrel
    have hb1 : wr.cell? ⟨Bs, 0, none⟩ = some (.slice (some ⟨g, 0, none⟩) zs.length cap) := by
      rw [World.cell?_of_block (a := ⟨Bs, 0, none⟩) hnx.2]; exact hBs
    by_cases hlt : k < zs.length
    · obtain ⟨m, em⟩ : ∃ m, zs.length - 1 - k = m := ⟨_, rfl⟩
      have e1 : (zs.length : Int) - 1 - (k : Int) = (m : Int) := by omega
      have hcx : wr.cell? ⟨g, m, none⟩ = some (.int .i64 (zs.getD m 0)) := by
        rw [World.cell?_of_block (a := ⟨g, m, none⟩) hnx.1]; exact hc m (by omega)
      have hm : m < zs.length := by omega
      rw [e1]
      obtain ⟨fn, tmps, assign, body, hy, hR⟩ := hY k wr hJs hlt
      unfold bkA at hy
      rw [em] at hy
      obtain ⟨z, ez⟩ : ∃ z, zs.getD m 0 = z := ⟨_, rfl⟩
      rw [ez] at hcx hy
      gi_wp2
      refine hR.mono ?_
      rintro e W3 ⟨rfl, hJ3, hk3⟩
      gi_wp2
      go_roundw
      case rel => exact ⟨k + 1, by omega, by congr 1; omega, hJ3, kp2_t hnx hk3⟩
      case measure => simp [intOf]
    · obtain rfl : k = zs.length := by omega
      have e1 : (zs.length : Int) - 1 - (zs.length : Int) = -1 := by omega
      rw [e1]
      gi_wp2
      go_end0
      exact ⟨⟨_, rfl⟩, hJs⟩
set_option maxRecDepth 100000 in
set_option maxHeartbeats 1000000 in
theorem back1_nil_in (F : Fence) (n : Nat) (h7 : F.fn 53) (hro : F.round = none) (l Bs : Nat) (J : Nat → World → Prop) (W : World) (hBs : W.cell? ⟨Bs, 0, none⟩ = some (.slice none 0 0)) (h0 : J 0 W) :
    CallsIn F n Try.prog 53 #[.func (.yield l) #[] #[], .pointer (some ⟨Bs, 0, none⟩)] W fun e W' => (∃ v, e = .returned v) ∧ J 0 W' := by
  refine callsIn_of_wp Try.func53 rfl h7 ?_ hro
  simp only [Try.ntmps53, List.size_toArray, List.length_cons, List.length_nil, Nat.reduceAdd, Nat.reduceSub, Array.replicate_succ, Array.replicate_zero, List.push_toArray, List.append_toArray, List.nil_append, List.cons_append]
  gi_wp2
  gi_loopw [3] (fun i wr => i = .int .i64 (-1) ∧ J 0 wr) (fun _ _ => 0)
  case atStart => exact ⟨rfl, h0⟩
  case round =>
    obtain ⟨rfl, hJs⟩ := hrel
    gi_wp2
    go_end0
    exact ⟨⟨_, rfl⟩, hJs⟩
theorem back_hands (F : Fence) (n : Nat) (h7 : F.fn 53) (hro : F.round = none) (hn : 1 ≤ n) (Bs g : Nat) (sv : Value) (zs : List Int) (hreach : zs.length ≤ 1099511627776) (w : World) (hBs : Bs < w.heap.size) (hc : w.cell? ⟨Bs, 0, none⟩ = some sv)
    (hI : (sv = .slice none 0 0 ∧ zs = []) ∨ ∃ cap, sv = .slice (some ⟨g, 0, none⟩) zs.length cap ∧ g < w.heap.size ∧ ∀ j, j < zs.length → w.cell? ⟨g, j, none⟩ = some (.int .i64 (zs.getD j 0))) :
    Hands F n Try.prog 53 #[.pointer (some ⟨Bs, 0, none⟩)] (bkA zs) zs.length (Kp2 g Bs) w := fun l J W hW hY h0 => by
  have hc' := (hW.cell (p := ⟨Bs, 0, none⟩) hBs).trans hc
  rcases hI with ⟨rfl, rfl⟩ | ⟨cap, rfl, hg, hcs⟩
  · exact back1_nil_in F n h7 hro l Bs J W hc' h0
  · exact back1_in F n h7 hro hn l Bs g cap zs hreach J hY W hc' (fun j hj => (hW.cell (p := ⟨g, j, none⟩) hg).trans (hcs j hj)) h0
set_option maxHeartbeats 1000000 in
theorem Backward_in (F : Fence) (n : Nat) (h5 : F.fn 52) (hro : F.round = none) (a : Option Addr) (len cap : Nat) (w : World) :
    CallsIn F n Try.prog 52 #[.slice a len cap] w fun e w' => e = .returned (.func (.func 53) #[] #[.pointer (some ⟨w.heap.size, 0, none⟩)]) ∧ w' = w.alloc (.cells #[.slice a len cap] 22) := by
  refine callsIn_of_wp Try.func52 rfl h5 ?_ hro
  simp only [Try.ntmps52, List.size_toArray, List.length_cons, List.length_nil, Nat.reduceAdd, Nat.reduceSub, Array.replicate_succ, Array.replicate_zero, List.push_toArray, List.append_toArray, List.nil_append, List.cons_append]
  gi_wp2
  go_ret
  exact ⟨rfl, rfl⟩
end
end Go.Proofs.Ytphdhndljgihmaa
