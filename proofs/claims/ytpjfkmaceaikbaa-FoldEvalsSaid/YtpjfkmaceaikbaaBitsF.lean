/- Contracts of package bits: Apply at every operation; of, width and lives of the law's package. -/
import Derived.Test.YtpjfkmaceaikbaaBitsE
namespace Go.Proofs.Ytpjfkmaceaikbaa
open Go.RowKit
set_option linter.unusedVariables false
set_option linter.unusedSimpArgs false

/-- Called in whatever world, the function answers v and only draws. -/
def Gives (f : FuncId) (args : Array Value) (v : Value) : Prop :=
  ∀ W : World, Calls Try.prog f args W fun e w' => e = .returned v ∧ ∃ n, w' = W.drewN n
theorem Gives.go {f : FuncId} {args : Array Value} {v : Value} (h : Gives f args v) (W : World) : Calls Try.prog f args W fun e w' => e = .returned v ∧ ∃ n, w' = W.drewN n := h W
theorem Gives.as {f : FuncId} {args : Array Value} {v u : Value} (h : Gives f args v) (e : v = u) : Gives f args u := e ▸ h
theorem Gives.of_same {f : FuncId} {args : Array Value} {v : Value} (h : ∀ W : World, Calls Try.prog f args W fun e w' => e = .returned v ∧ W = w') : Gives f args v :=
  fun W => (h W).mono fun _ _ ⟨he, hw⟩ => ⟨he, 0, hw.symm⟩
theorem two_eq {k k' : IntKind} {a b c d : Int} (h : a = b) (h' : c = d) : Value.tuple #[.int k a, .int k' c] = .tuple #[.int k b, .int k' d] := by rw [h, h']
theorem one_eq {k : IntKind} {a b : Int} (h : a = b) : Value.int k a = .int k b := by rw [h]

/-- What Apply answers at a width. -/
def aplT (w op fl a b : Int) : Value :=
  .tuple #[.int .u64 (aplR w.toNat op fl (a % pw w.toNat) (b % pw w.toNat)), .int .i64 (aplE w.toNat op fl (a % pw w.toNat) (b % pw w.toNat))]

theorem Apply_1 (w fl a b : Int) (h1 : 1 ≤ w) (h2 : w ≤ 64) (ha : 0 ≤ a) (ha' : a ≤ 18446744073709551615) (hb : 0 ≤ b) (hb' : b ≤ 18446744073709551615) (hf : fl = 0 ∨ fl = 1 ∨ fl = 2 ∨ fl = 3) :
    Gives 69 #[.int .i64 1, .int .i64 w, .int .i64 fl, .int .u64 a, .int .u64 b] (aplT w 1 fl a b) := by
  intro W
  rcases hf with rfl | rfl | rfl | rfl
  · exact Apply_gen 1 0 3 w a b W h1 h2 ha ha' hb hb' (by decide) (by decide) (by decide) (by decide +kernel) (fun x y W' k1 k2 k3 k4 => plain_1 w x y W' h1 h2 k1 k2 k3 k4) (fun x y W' k1 k2 k3 k4 k5 => breaks_0 1 w x y W')
  · exact Apply_gen 1 1 3 w a b W h1 h2 ha ha' hb hb' (by decide) (by decide) (by decide) (by decide +kernel) (fun x y W' k1 k2 k3 k4 => plain_1 w x y W' h1 h2 k1 k2 k3 k4) (fun x y W' k1 k2 k3 k4 k5 => breaks_1 1 w x y W' (fun V => wrapsSigned_1 w x y V h1 h2 k1 k2 k3 k4))
  · exact Apply_gen 1 2 3 w a b W h1 h2 ha ha' hb hb' (by decide) (by decide) (by decide) (by decide +kernel) (fun x y W' k1 k2 k3 k4 => plain_1 w x y W' h1 h2 k1 k2 k3 k4) (fun x y W' k1 k2 k3 k4 k5 => breaks_2 1 w x y W' (fun V => wraps_1 w x y V h1 h2 k1 k2 k3 k4))
  · exact Apply_gen 1 3 3 w a b W h1 h2 ha ha' hb hb' (by decide) (by decide) (by decide) (by decide +kernel) (fun x y W' k1 k2 k3 k4 => plain_1 w x y W' h1 h2 k1 k2 k3 k4) (fun x y W' k1 k2 k3 k4 k5 => breaks_3 1 w x y W' (fun V => wraps_1 w x y V h1 h2 k1 k2 k3 k4) (fun V => wrapsSigned_1 w x y V h1 h2 k1 k2 k3 k4))
theorem Apply_2 (w fl a b : Int) (h1 : 1 ≤ w) (h2 : w ≤ 64) (ha : 0 ≤ a) (ha' : a ≤ 18446744073709551615) (hb : 0 ≤ b) (hb' : b ≤ 18446744073709551615) (hf : fl = 0 ∨ fl = 1 ∨ fl = 2 ∨ fl = 3) :
    Gives 69 #[.int .i64 2, .int .i64 w, .int .i64 fl, .int .u64 a, .int .u64 b] (aplT w 2 fl a b) := by
  intro W
  rcases hf with rfl | rfl | rfl | rfl
  · exact Apply_gen 2 0 3 w a b W h1 h2 ha ha' hb hb' (by decide) (by decide) (by decide) (by decide +kernel) (fun x y W' k1 k2 k3 k4 => plain_2 w x y W' h1 h2 k1 k2 k3 k4) (fun x y W' k1 k2 k3 k4 k5 => breaks_0 2 w x y W')
  · exact Apply_gen 2 1 3 w a b W h1 h2 ha ha' hb hb' (by decide) (by decide) (by decide) (by decide +kernel) (fun x y W' k1 k2 k3 k4 => plain_2 w x y W' h1 h2 k1 k2 k3 k4) (fun x y W' k1 k2 k3 k4 k5 => breaks_1 2 w x y W' (fun V => wrapsSigned_2 w x y V h1 h2 k1 k2 k3 k4))
  · exact Apply_gen 2 2 3 w a b W h1 h2 ha ha' hb hb' (by decide) (by decide) (by decide) (by decide +kernel) (fun x y W' k1 k2 k3 k4 => plain_2 w x y W' h1 h2 k1 k2 k3 k4) (fun x y W' k1 k2 k3 k4 k5 => breaks_2 2 w x y W' (fun V => wraps_2 w x y V h1 h2 k1 k2 k3 k4))
  · exact Apply_gen 2 3 3 w a b W h1 h2 ha ha' hb hb' (by decide) (by decide) (by decide) (by decide +kernel) (fun x y W' k1 k2 k3 k4 => plain_2 w x y W' h1 h2 k1 k2 k3 k4) (fun x y W' k1 k2 k3 k4 k5 => breaks_3 2 w x y W' (fun V => wraps_2 w x y V h1 h2 k1 k2 k3 k4) (fun V => wrapsSigned_2 w x y V h1 h2 k1 k2 k3 k4))
theorem Apply_3 (w fl a b : Int) (h1 : 1 ≤ w) (h2 : w ≤ 64) (ha : 0 ≤ a) (ha' : a ≤ 18446744073709551615) (hb : 0 ≤ b) (hb' : b ≤ 18446744073709551615) (hf : fl = 0 ∨ fl = 1 ∨ fl = 2 ∨ fl = 3) :
    Gives 69 #[.int .i64 3, .int .i64 w, .int .i64 fl, .int .u64 a, .int .u64 b] (aplT w 3 fl a b) := by
  intro W
  rcases hf with rfl | rfl | rfl | rfl
  · exact Apply_gen 3 0 3 w a b W h1 h2 ha ha' hb hb' (by decide) (by decide) (by decide) (by decide +kernel) (fun x y W' k1 k2 k3 k4 => plain_3 w x y W' h1 h2 k1 k2 k3 k4) (fun x y W' k1 k2 k3 k4 k5 => breaks_0 3 w x y W')
  · exact Apply_gen 3 1 3 w a b W h1 h2 ha ha' hb hb' (by decide) (by decide) (by decide) (by decide +kernel) (fun x y W' k1 k2 k3 k4 => plain_3 w x y W' h1 h2 k1 k2 k3 k4) (fun x y W' k1 k2 k3 k4 k5 => breaks_1 3 w x y W' (fun V => wrapsSigned_3 w x y V h1 h2 k1 k2 k3 k4))
  · exact Apply_gen 3 2 3 w a b W h1 h2 ha ha' hb hb' (by decide) (by decide) (by decide) (by decide +kernel) (fun x y W' k1 k2 k3 k4 => plain_3 w x y W' h1 h2 k1 k2 k3 k4) (fun x y W' k1 k2 k3 k4 k5 => breaks_2 3 w x y W' (fun V => wraps_3 w x y V h1 h2 k1 k2 k3 k4))
  · exact Apply_gen 3 3 3 w a b W h1 h2 ha ha' hb hb' (by decide) (by decide) (by decide) (by decide +kernel) (fun x y W' k1 k2 k3 k4 => plain_3 w x y W' h1 h2 k1 k2 k3 k4) (fun x y W' k1 k2 k3 k4 k5 => breaks_3 3 w x y W' (fun V => wraps_3 w x y V h1 h2 k1 k2 k3 k4) (fun V => wrapsSigned_3 w x y V h1 h2 k1 k2 k3 k4))
theorem Apply_4 (w fl a b : Int) (h1 : 1 ≤ w) (h2 : w ≤ 64) (ha : 0 ≤ a) (ha' : a ≤ 18446744073709551615) (hb : 0 ≤ b) (hb' : b ≤ 18446744073709551615) (hf : fl = 0 ∨ fl = 4) :
    Gives 69 #[.int .i64 4, .int .i64 w, .int .i64 fl, .int .u64 a, .int .u64 b] (aplT w 4 fl a b) := by
  intro W
  rcases hf with rfl | rfl
  · exact Apply_gen 4 0 4 w a b W h1 h2 ha ha' hb hb' (by decide) (by decide) (by decide) (by decide +kernel) (fun x y W' k1 k2 k3 k4 => plain_4 w x y W' h1 h2 k1 k2 k3 k4) (fun x y W' k1 k2 k3 k4 k5 => breaks_0 4 w x y W')
  · exact Apply_gen 4 4 4 w a b W h1 h2 ha ha' hb hb' (by decide) (by decide) (by decide) (by decide +kernel) (fun x y W' k1 k2 k3 k4 => plain_4 w x y W' h1 h2 k1 k2 k3 k4) (fun x y W' k1 k2 k3 k4 k5 => breaks_4 4 w x y W' (fun V => leavesRest_4 w x y V h1 h2 k1 k2 k3 k4 (plE_nz (by decide) k5)))
theorem Apply_5 (w fl a b : Int) (h1 : 1 ≤ w) (h2 : w ≤ 64) (ha : 0 ≤ a) (ha' : a ≤ 18446744073709551615) (hb : 0 ≤ b) (hb' : b ≤ 18446744073709551615) (hf : fl = 0 ∨ fl = 4) :
    Gives 69 #[.int .i64 5, .int .i64 w, .int .i64 fl, .int .u64 a, .int .u64 b] (aplT w 5 fl a b) := by
  intro W
  rcases hf with rfl | rfl
  · exact Apply_gen 5 0 4 w a b W h1 h2 ha ha' hb hb' (by decide) (by decide) (by decide) (by decide +kernel) (fun x y W' k1 k2 k3 k4 => plain_5 w x y W' h1 h2 k1 k2 k3 k4) (fun x y W' k1 k2 k3 k4 k5 => breaks_0 5 w x y W')
  · exact Apply_gen 5 4 4 w a b W h1 h2 ha ha' hb hb' (by decide) (by decide) (by decide) (by decide +kernel) (fun x y W' k1 k2 k3 k4 => plain_5 w x y W' h1 h2 k1 k2 k3 k4) (fun x y W' k1 k2 k3 k4 k5 => breaks_4 5 w x y W' (fun V => leavesRest_5 w x y V h1 h2 k1 k2 k3 k4 (plE_nz (by decide) k5)))
theorem Apply_6 (w fl a b : Int) (h1 : 1 ≤ w) (h2 : w ≤ 64) (ha : 0 ≤ a) (ha' : a ≤ 18446744073709551615) (hb : 0 ≤ b) (hb' : b ≤ 18446744073709551615) (hf : fl = 0) :
    Gives 69 #[.int .i64 6, .int .i64 w, .int .i64 fl, .int .u64 a, .int .u64 b] (aplT w 6 fl a b) := by
  intro W
  subst hf
  exact Apply_gen 6 0 0 w a b W h1 h2 ha ha' hb hb' (by decide) (by decide) (by decide) (by decide +kernel) (fun x y W' k1 k2 k3 k4 => plain_6 w x y W' h1 h2 k1 k2 k3 k4) (fun x y W' k1 k2 k3 k4 k5 => breaks_0 6 w x y W')
theorem Apply_7 (w fl a b : Int) (h1 : 1 ≤ w) (h2 : w ≤ 64) (ha : 0 ≤ a) (ha' : a ≤ 18446744073709551615) (hb : 0 ≤ b) (hb' : b ≤ 18446744073709551615) (hf : fl = 0) :
    Gives 69 #[.int .i64 7, .int .i64 w, .int .i64 fl, .int .u64 a, .int .u64 b] (aplT w 7 fl a b) := by
  intro W
  subst hf
  exact Apply_gen 7 0 0 w a b W h1 h2 ha ha' hb hb' (by decide) (by decide) (by decide) (by decide +kernel) (fun x y W' k1 k2 k3 k4 => plain_7 w x y W' h1 h2 k1 k2 k3 k4) (fun x y W' k1 k2 k3 k4 k5 => breaks_0 7 w x y W')
theorem Apply_8 (w fl a b : Int) (h1 : 1 ≤ w) (h2 : w ≤ 64) (ha : 0 ≤ a) (ha' : a ≤ 18446744073709551615) (hb : 0 ≤ b) (hb' : b ≤ 18446744073709551615) (hf : fl = 0) :
    Gives 69 #[.int .i64 8, .int .i64 w, .int .i64 fl, .int .u64 a, .int .u64 b] (aplT w 8 fl a b) := by
  intro W
  subst hf
  exact Apply_gen 8 0 0 w a b W h1 h2 ha ha' hb hb' (by decide) (by decide) (by decide) (by decide +kernel) (fun x y W' k1 k2 k3 k4 => plain_8 w x y W' h1 h2 k1 k2 k3 k4) (fun x y W' k1 k2 k3 k4 k5 => breaks_0 8 w x y W')
theorem Apply_9 (w fl a b : Int) (h1 : 1 ≤ w) (h2 : w ≤ 64) (ha : 0 ≤ a) (ha' : a ≤ 18446744073709551615) (hb : 0 ≤ b) (hb' : b ≤ 18446744073709551615) (hf : fl = 0) :
    Gives 69 #[.int .i64 9, .int .i64 w, .int .i64 fl, .int .u64 a, .int .u64 b] (aplT w 9 fl a b) := by
  intro W
  subst hf
  exact Apply_gen 9 0 0 w a b W h1 h2 ha ha' hb hb' (by decide) (by decide) (by decide) (by decide +kernel) (fun x y W' k1 k2 k3 k4 => plain_9 w x y W' h1 h2 k1 k2 k3 k4) (fun x y W' k1 k2 k3 k4 k5 => breaks_0 9 w x y W')
theorem Apply_10 (w fl a b : Int) (h1 : 1 ≤ w) (h2 : w ≤ 64) (ha : 0 ≤ a) (ha' : a ≤ 18446744073709551615) (hb : 0 ≤ b) (hb' : b ≤ 18446744073709551615) (hf : fl = 0) :
    Gives 69 #[.int .i64 10, .int .i64 w, .int .i64 fl, .int .u64 a, .int .u64 b] (aplT w 10 fl a b) := by
  intro W
  subst hf
  exact Apply_gen 10 0 0 w a b W h1 h2 ha ha' hb hb' (by decide) (by decide) (by decide) (by decide +kernel) (fun x y W' k1 k2 k3 k4 => plain_10 w x y W' h1 h2 k1 k2 k3 k4) (fun x y W' k1 k2 k3 k4 k5 => breaks_0 10 w x y W')
theorem Apply_11 (w fl a b : Int) (h1 : 1 ≤ w) (h2 : w ≤ 64) (ha : 0 ≤ a) (ha' : a ≤ 18446744073709551615) (hb : 0 ≤ b) (hb' : b ≤ 18446744073709551615) (hf : fl = 0 ∨ fl = 1 ∨ fl = 2 ∨ fl = 3) :
    Gives 69 #[.int .i64 11, .int .i64 w, .int .i64 fl, .int .u64 a, .int .u64 b] (aplT w 11 fl a b) := by
  intro W
  rcases hf with rfl | rfl | rfl | rfl
  · exact Apply_gen 11 0 3 w a b W h1 h2 ha ha' hb hb' (by decide) (by decide) (by decide) (by decide +kernel) (fun x y W' k1 k2 k3 k4 => plain_11 w x y W' h1 h2 k1 k2 k3 k4) (fun x y W' k1 k2 k3 k4 k5 => breaks_0 11 w x y W')
  · exact Apply_gen 11 1 3 w a b W h1 h2 ha ha' hb hb' (by decide) (by decide) (by decide) (by decide +kernel) (fun x y W' k1 k2 k3 k4 => plain_11 w x y W' h1 h2 k1 k2 k3 k4) (fun x y W' k1 k2 k3 k4 k5 => breaks_1 11 w x y W' (fun V => wrapsSigned_11 w x y V h1 h2 k1 k2 k3 k4 (plE_lt h1 (by decide) k5)))
  · exact Apply_gen 11 2 3 w a b W h1 h2 ha ha' hb hb' (by decide) (by decide) (by decide) (by decide +kernel) (fun x y W' k1 k2 k3 k4 => plain_11 w x y W' h1 h2 k1 k2 k3 k4) (fun x y W' k1 k2 k3 k4 k5 => breaks_2 11 w x y W' (fun V => wraps_11 w x y V h1 h2 k1 k2 k3 k4 (plE_lt h1 (by decide) k5)))
  · exact Apply_gen 11 3 3 w a b W h1 h2 ha ha' hb hb' (by decide) (by decide) (by decide) (by decide +kernel) (fun x y W' k1 k2 k3 k4 => plain_11 w x y W' h1 h2 k1 k2 k3 k4) (fun x y W' k1 k2 k3 k4 k5 => breaks_3 11 w x y W' (fun V => wraps_11 w x y V h1 h2 k1 k2 k3 k4 (plE_lt h1 (by decide) k5)) (fun V => wrapsSigned_11 w x y V h1 h2 k1 k2 k3 k4 (plE_lt h1 (by decide) k5)))
theorem Apply_12 (w fl a b : Int) (h1 : 1 ≤ w) (h2 : w ≤ 64) (ha : 0 ≤ a) (ha' : a ≤ 18446744073709551615) (hb : 0 ≤ b) (hb' : b ≤ 18446744073709551615) (hf : fl = 0 ∨ fl = 4) :
    Gives 69 #[.int .i64 12, .int .i64 w, .int .i64 fl, .int .u64 a, .int .u64 b] (aplT w 12 fl a b) := by
  intro W
  rcases hf with rfl | rfl
  · exact Apply_gen 12 0 4 w a b W h1 h2 ha ha' hb hb' (by decide) (by decide) (by decide) (by decide +kernel) (fun x y W' k1 k2 k3 k4 => plain_12 w x y W' h1 h2 k1 k2 k3 k4) (fun x y W' k1 k2 k3 k4 k5 => breaks_0 12 w x y W')
  · exact Apply_gen 12 4 4 w a b W h1 h2 ha ha' hb hb' (by decide) (by decide) (by decide) (by decide +kernel) (fun x y W' k1 k2 k3 k4 => plain_12 w x y W' h1 h2 k1 k2 k3 k4) (fun x y W' k1 k2 k3 k4 k5 => breaks_4 12 w x y W' (fun V => leavesRest_12 w x y V h1 h2 k1 k2 k3 k4 (plE_lt h1 (by decide) k5)))
theorem Apply_13 (w fl a b : Int) (h1 : 1 ≤ w) (h2 : w ≤ 64) (ha : 0 ≤ a) (ha' : a ≤ 18446744073709551615) (hb : 0 ≤ b) (hb' : b ≤ 18446744073709551615) (hf : fl = 0 ∨ fl = 4) :
    Gives 69 #[.int .i64 13, .int .i64 w, .int .i64 fl, .int .u64 a, .int .u64 b] (aplT w 13 fl a b) := by
  intro W
  rcases hf with rfl | rfl
  · exact Apply_gen 13 0 4 w a b W h1 h2 ha ha' hb hb' (by decide) (by decide) (by decide) (by decide +kernel) (fun x y W' k1 k2 k3 k4 => plain_13 w x y W' h1 h2 k1 k2 k3 k4) (fun x y W' k1 k2 k3 k4 k5 => breaks_0 13 w x y W')
  · exact Apply_gen 13 4 4 w a b W h1 h2 ha ha' hb hb' (by decide) (by decide) (by decide) (by decide +kernel) (fun x y W' k1 k2 k3 k4 => plain_13 w x y W' h1 h2 k1 k2 k3 k4) (fun x y W' k1 k2 k3 k4 k5 => breaks_4 13 w x y W' (fun V => leavesRest_13 w x y V h1 h2 k1 k2 k3 k4 (plE_lt h1 (by decide) k5)))
theorem Apply_14 (w fl a b : Int) (h1 : 1 ≤ w) (h2 : w ≤ 64) (ha : 0 ≤ a) (ha' : a ≤ 18446744073709551615) (hb : 0 ≤ b) (hb' : b ≤ 18446744073709551615) (hf : fl = 0) :
    Gives 69 #[.int .i64 14, .int .i64 w, .int .i64 fl, .int .u64 a, .int .u64 b] (aplT w 14 fl a b) := by
  intro W
  subst hf
  exact Apply_gen 14 0 0 w a b W h1 h2 ha ha' hb hb' (by decide) (by decide) (by decide) (by decide +kernel) (fun x y W' k1 k2 k3 k4 => plain_14 w x y W' h1 h2 k1 k2 k3 k4) (fun x y W' k1 k2 k3 k4 k5 => breaks_0 14 w x y W')
theorem Apply_15 (w fl a b : Int) (h1 : 1 ≤ w) (h2 : w ≤ 64) (ha : 0 ≤ a) (ha' : a ≤ 18446744073709551615) (hb : 0 ≤ b) (hb' : b ≤ 18446744073709551615) (hf : fl = 0) :
    Gives 69 #[.int .i64 15, .int .i64 w, .int .i64 fl, .int .u64 a, .int .u64 b] (aplT w 15 fl a b) := by
  intro W
  subst hf
  exact Apply_gen 15 0 0 w a b W h1 h2 ha ha' hb hb' (by decide) (by decide) (by decide) (by decide +kernel) (fun x y W' k1 k2 k3 k4 => plain_15 w x y W' h1 h2 k1 k2 k3 k4) (fun x y W' k1 k2 k3 k4 k5 => breaks_0 15 w x y W')
theorem Apply_16 (w fl a b : Int) (h1 : 1 ≤ w) (h2 : w ≤ 64) (ha : 0 ≤ a) (ha' : a ≤ 18446744073709551615) (hb : 0 ≤ b) (hb' : b ≤ 18446744073709551615) (hf : fl = 0) :
    Gives 69 #[.int .i64 16, .int .i64 w, .int .i64 fl, .int .u64 a, .int .u64 b] (aplT w 16 fl a b) := by
  intro W
  subst hf
  exact Apply_gen 16 0 0 w a b W h1 h2 ha ha' hb hb' (by decide) (by decide) (by decide) (by decide +kernel) (fun x y W' k1 k2 k3 k4 => plain_16 w x y W' h1 h2 k1 k2 k3 k4) (fun x y W' k1 k2 k3 k4 k5 => breaks_0 16 w x y W')
theorem Apply_17 (w fl a b : Int) (h1 : 1 ≤ w) (h2 : w ≤ 64) (ha : 0 ≤ a) (ha' : a ≤ 18446744073709551615) (hb : 0 ≤ b) (hb' : b ≤ 18446744073709551615) (hf : fl = 0) :
    Gives 69 #[.int .i64 17, .int .i64 w, .int .i64 fl, .int .u64 a, .int .u64 b] (aplT w 17 fl a b) := by
  intro W
  subst hf
  exact Apply_gen 17 0 0 w a b W h1 h2 ha ha' hb hb' (by decide) (by decide) (by decide) (by decide +kernel) (fun x y W' k1 k2 k3 k4 => plain_17 w x y W' h1 h2 k1 k2 k3 k4) (fun x y W' k1 k2 k3 k4 k5 => breaks_0 17 w x y W')
theorem Apply_18 (w fl a b : Int) (h1 : 1 ≤ w) (h2 : w ≤ 64) (ha : 0 ≤ a) (ha' : a ≤ 18446744073709551615) (hb : 0 ≤ b) (hb' : b ≤ 18446744073709551615) (hf : fl = 0) :
    Gives 69 #[.int .i64 18, .int .i64 w, .int .i64 fl, .int .u64 a, .int .u64 b] (aplT w 18 fl a b) := by
  intro W
  subst hf
  exact Apply_gen 18 0 0 w a b W h1 h2 ha ha' hb hb' (by decide) (by decide) (by decide) (by decide +kernel) (fun x y W' k1 k2 k3 k4 => plain_18 w x y W' h1 h2 k1 k2 k3 k4) (fun x y W' k1 k2 k3 k4 k5 => breaks_0 18 w x y W')
theorem Apply_19 (w fl a b : Int) (h1 : 1 ≤ w) (h2 : w ≤ 64) (ha : 0 ≤ a) (ha' : a ≤ 18446744073709551615) (hb : 0 ≤ b) (hb' : b ≤ 18446744073709551615) (hf : fl = 0) :
    Gives 69 #[.int .i64 19, .int .i64 w, .int .i64 fl, .int .u64 a, .int .u64 b] (aplT w 19 fl a b) := by
  intro W
  subst hf
  exact Apply_gen 19 0 0 w a b W h1 h2 ha ha' hb hb' (by decide) (by decide) (by decide) (by decide +kernel) (fun x y W' k1 k2 k3 k4 => plain_19 w x y W' h1 h2 k1 k2 k3 k4) (fun x y W' k1 k2 k3 k4 k5 => breaks_0 19 w x y W')

end Go.Proofs.Ytpjfkmaceaikbaa
