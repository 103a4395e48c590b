/- The law GraphPairs: its walk. -/
import Derived.Test.YtphdhndljgihmaaVLaw
import Derived.Test.YtphdhndljgihmaaBaseF
import Derived.Deep.RegionHeld3
import Derived.Deep.DeepCutAuto
import Derived.Deep.QuietTactic
import Derived.BigQuiet
import Derived.IntWalk
namespace Go.Proofs.Ytphdhndljgihmaa
open Go.RowKit Go.Maps
set_option linter.unusedVariables false
set_option linter.unusedSimpArgs false

theorem intlit {w : World} {g : Nat} (hg : g = w.heap.size) (xs : List Int) (hx : xs.length ≤ maxLen) : ListIn intC NoMem (w.alloc (.cells (xs.flatMap intC).toArray 3)).heap.size (w.alloc (.cells (xs.flatMap intC).toArray 3)) (some ⟨g, 0, none⟩) xs.length xs.length xs :=
  lit_in w hg xs _ hx rfl (fun _ _ => trivial)

theorem fnsm_of {f : LFn} (hw : FnTw f) (hz : fnZ (fnD f) ≤ 1048576) : FnSm f := by
  intro c hc
  have h1 : 1 + codeZ (blkD c) ≤ blksZ (fnD f).bs := blksZ_mem (List.mem_map_of_mem hc)
  unfold fnZ at hz
  unfold tgtP
  cases hl : (blkD c).getLast? with
  | none => exact ⟨Nat.zero_le _, fun t ht => by simp at ht⟩
  | some x =>
    have hx : x ∈ blkD c := List.mem_of_getLast? hl
    have h2 := codeZ_mem hx
    obtain ⟨y, hy, rfl⟩ := List.mem_map.1 hx
    simp only
    split
    · refine ⟨?_, fun t ht => hw c hc y hy t ht⟩
      unfold insZ at h2
      omega
    · exact ⟨Nat.zero_le _, fun t ht => by simp at ht⟩
theorem bs_le {f : LFn} (hz : fnZ (fnD f) ≤ 1048576) : f.bs.length ≤ 1048576 := by
  have h1 := blksZ_len (fnD f).bs
  unfold fnZ at hz
  simp only [fnD, List.length_map] at h1 hz
  omega
/-! Sums over numbers. -/
def rsum (f : Nat → Nat) : Nat → Nat
  | 0 => 0
  | k + 1 => rsum f k + f k
theorem rsum_add (f g : Nat → Nat) : ∀ n, rsum (fun t => f t + g t) n = rsum f n + rsum g n
  | 0 => rfl
  | n + 1 => by unfold rsum; rw [rsum_add f g n]; omega
theorem rsum_congr {f g : Nat → Nat} : ∀ {n}, (∀ t, t < n → f t = g t) → rsum f n = rsum g n
  | 0, _ => rfl
  | n + 1, h => by unfold rsum; rw [rsum_congr fun t ht => h t (by omega), h n (Nat.lt_succ_self n)]
theorem rsum_zero : ∀ n, rsum (fun _ => 0) n = 0
  | 0 => rfl
  | n + 1 => by unfold rsum; rw [rsum_zero n]
theorem rsum_one (x : Nat) : ∀ n, rsum (fun t => if t = x then 1 else 0) n = if x < n then 1 else 0
  | 0 => by simp [rsum]
  | n + 1 => by
    unfold rsum
    rw [rsum_one x n]
    by_cases h1 : x < n
    · rw [if_pos h1, if_neg (by omega), if_pos (by omega)]
    · by_cases h2 : n = x
      · rw [if_neg h1, if_pos h2, if_pos (by omega)]
      · rw [if_neg h1, if_neg h2, if_neg (by omega)]
theorem rsum_mem {n : Nat} : ∀ l : List Nat, l.Nodup → (∀ x ∈ l, x < n) → rsum (fun t => if t ∈ l then 1 else 0) n = l.length
  | [], _, _ => by simp [rsum_zero]
  | a :: l, h1, h2 => by
    obtain ⟨ha, hl⟩ := List.nodup_cons.1 h1
    have e : ∀ t, t < n → (if t ∈ a :: l then 1 else 0) = (if t = a then 1 else 0) + (if t ∈ l then 1 else 0) := fun t _ => by
      by_cases e : t = a
      · subst e; simp [ha]
      · simp [e]
    rw [rsum_congr e, rsum_add, rsum_one, if_pos (h2 a (List.mem_cons_self ..)), rsum_mem l hl (fun x hx => h2 x (List.mem_cons_of_mem _ hx)), List.length_cons]
    omega
theorem rsum_mono (f : Nat → Nat) {a b : Nat} (h : a ≤ b) : rsum f a ≤ rsum f b := by
  induction b with
  | zero => obtain rfl : a = 0 := by omega
            exact Nat.le_refl _
  | succ b ih =>
    by_cases e : a = b + 1
    · subst e; exact Nat.le_refl _
    · have := ih (by omega)
      show rsum f a ≤ rsum f b + f b
      omega
theorem rsum_le (f : Nat → Nat) (m : Nat) (hf : ∀ t, f t ≤ m) : ∀ n, rsum f n ≤ n * m
  | 0 => by simp [rsum]
  | n + 1 => by
    unfold rsum
    have := rsum_le f m hf n
    have := hf n
    rw [Nat.succ_mul]; omega
theorem pairs_eq {S : Nat → List Nat} {n : Nat} (hS : ∀ b, (S b).Nodup ∧ ∀ t ∈ S b, t < n) : ∀ b, rsum (fun t => (predUpto S b t).length) n = rsum (fun x => (S x).length) b
  | 0 => by
    have : ∀ t, t < n → (predUpto S 0 t).length = 0 := fun t _ => rfl
    rw [rsum_congr this, rsum_zero]; rfl
  | b + 1 => by
    have e : ∀ t, t < n → (predUpto S (b + 1) t).length = (predUpto S b t).length + (if t ∈ S b then 1 else 0) := fun t _ => by
      rw [predUpto_succ, List.length_append]
      by_cases h : t ∈ S b <;> simp [h]
    rw [rsum_congr e, rsum_add, pairs_eq hS b, rsum_mem _ (hS b).1 (hS b).2]
    rfl
theorem predUpto_rises (S : Nat → List Nat) (b t : Nat) : (predUpto S b t).Pairwise (· < ·) := List.Pairwise.filter _ (List.pairwise_lt_range (n := b))
theorem mem_predUpto (S : Nat → List Nat) (b t x : Nat) : x ∈ predUpto S b t ↔ x < b ∧ t ∈ S x := by
  unfold predUpto
  rw [List.mem_filter, List.mem_range]
  simp
/-- Preds' and Reach's answers. -/
def TwoPR (W : World) (cs : List Value) (n : Nat) (M : Nat → List Int) (L : List Nat) (s4 s5 : Value) (w : World) : Prop :=
  ∃ R1 vs R2, s4 = .slice (some ⟨R1, 0, none⟩) n n ∧ s5 = .slice (some ⟨R2, 0, none⟩) n n ∧ Past W.heap.size W w ∧ Box W.heap.size cs w ∧ LL R1 n vs M w ∧ w.rowIs R2 4 n (fun i => .bool (decide (i ∈ L)))
def PredQ (R n : Nat) (vs : Nat → Value) (M : Nat → List Int) (w : World) : Prop := LL R n vs M w
def ReachQ (R n : Nat) (L : List Nat) (w : World) : Prop := w.rowIs R 4 n (fun i => .bool (decide (i ∈ L)))
theorem Hold.one {Q : World → Prop} {w : World} (h : ∀ u, Below w.heap.size w u → Q u) : Hold [Q] w := fun R hR => by obtain rfl := List.mem_singleton.1 hR; exact h
theorem own_int {w : World} {B : Nat} {p : Option Addr} {c : Nat} {M : List Nat} (h : w.ownsRow B 3 1 (.slice p (ints M).length c) (ints M).length ((ints M).flatMap intC)) {j : Nat} (hj : j < M.length) : ∃ a, p = some a ∧ a.block < w.heap.size ∧ w.cell? (a.add j) = some (.int .i64 (M[j] : Int)) := by
  rw [ints_len] at h
  have h1 := (lst_own (b := 0) h).1.2.2 j hj
  obtain ⟨a, e, h2, h3, _, _, h4⟩ := h1
  exact ⟨a, e, h3, h4⟩
theorem below_drewN (B : Nat) (w : World) (n : Nat) : Below B w (w.drewN n) := ⟨rfl, rfl, rfl, Nat.le_refl _, fun _ _ => rfl⟩
theorem PredQ.all {R n : Nat} {vs : Nat → Value} {M : Nat → List Int} {w : World} (h : LL R n vs M w) : ∀ u, Below w.heap.size w u → PredQ R n vs M u := fun u hu => h.later hu
theorem ReachQ.all {R n : Nat} {L : List Nat} {w : World} (h : w.rowIs R 4 n (fun i => .bool (decide (i ∈ L)))) : ∀ u, Below w.heap.size w u → ReachQ R n L u := fun u hu => rowIs_kept h (below_grown hu) (by simp)
end Go.Proofs.Ytphdhndljgihmaa
