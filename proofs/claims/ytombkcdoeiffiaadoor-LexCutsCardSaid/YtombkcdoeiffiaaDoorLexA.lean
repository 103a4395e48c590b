/- Package lex: sorts of bytes, counting the bytes at the front. -/
import Derived.Test.YtombkcdoeiffiaaDoorProg
import Derived.Test.YtombkcdoeiffiaaDoorLexM
import Derived.WalkKit
import Derived.WalkSpells
import Derived.WalkLawsBesides
import Derived.Below
import Derived.Lib.Hide
import Derived.Lib.Strings
import Derived.Deep.LoopGhost
namespace Go.Proofs.YtombkcdoeiffiaaDoor
open Go.RowKit
set_option linter.unusedVariables false
set_option linter.unusedSimpArgs false

theorem ret_int {k : IntKind} {a b : Int} (h : a = b) : Ending.returned (.int k a) = .returned (.int k b) := by rw [h]
theorem ret_bool {a b : Bool} (h : a = b) : Ending.returned (.bool a) = .returned (.bool b) := by rw [h]

theorem isBlank_any (c : UInt8) (W : World) : Calls Tryd.prog 20 #[.int .u8 (c.toNat : Int)] W fun e w' => e = .returned (.bool (isBlank c)) ∧ w' = W := by
  have hc := c.toNat_lt
  unfold isBlank
  generalize c.toNat = n at *
  go_enter Tryd.func20, Tryd.ntmps20
  go_wp2
  all_goals go_ret
  all_goals refine ⟨ret_bool ?_, rfl⟩
  all_goals (rw [Bool.eq_iff_iff]; simp <;> omega)
theorem isOfLine_any (c : UInt8) (W : World) : Calls Tryd.prog 21 #[.int .u8 (c.toNat : Int)] W fun e w' => e = .returned (.bool (isOfLine c)) ∧ w' = W := by
  have hc := c.toNat_lt
  unfold isOfLine
  generalize c.toNat = n at *
  go_enter Tryd.func21, Tryd.ntmps21
  go_wp2
  all_goals go_ret
  all_goals refine ⟨ret_bool ?_, rfl⟩
  all_goals (rw [Bool.eq_iff_iff]; simp <;> omega)
theorem isMark_any (c : UInt8) (W : World) : Calls Tryd.prog 22 #[.int .u8 (c.toNat : Int)] W fun e w' => e = .returned (.bool (isMark c)) ∧ w' = W := by
  have hc := c.toNat_lt
  unfold isMark
  generalize c.toNat = n at *
  go_enter Tryd.func22, Tryd.ntmps22
  go_wp2
  all_goals go_ret
  all_goals refine ⟨ret_bool ?_, rfl⟩
  all_goals (rw [Bool.eq_iff_iff]; simp <;> omega)
theorem isLetter_any (c : UInt8) (W : World) : Calls Tryd.prog 24 #[.int .u8 (c.toNat : Int)] W fun e w' => e = .returned (.bool (isLetter c)) ∧ w' = W := by
  have hc := c.toNat_lt
  unfold isLetter
  generalize c.toNat = n at *
  go_enter Tryd.func24, Tryd.ntmps24
  go_wp2
  all_goals go_ret
  all_goals refine ⟨ret_bool ?_, rfl⟩
  all_goals (rw [Bool.eq_iff_iff]; simp <;> omega)
theorem isDigit_any (c : UInt8) (W : World) : Calls Tryd.prog 25 #[.int .u8 (c.toNat : Int)] W fun e w' => e = .returned (.bool (isDigit c)) ∧ w' = W := by
  have hc := c.toNat_lt
  unfold isDigit
  generalize c.toNat = n at *
  go_enter Tryd.func25, Tryd.ntmps25
  go_wp2
  all_goals go_ret
  all_goals refine ⟨ret_bool ?_, rfl⟩
  all_goals (rw [Bool.eq_iff_iff]; simp <;> omega)
theorem isOfWord_any (c : UInt8) (W : World) : Calls Tryd.prog 30 #[.int .u8 (c.toNat : Int)] W fun e w' => e = .returned (.bool (isOfWord c)) ∧ w' = W := by
  unfold isOfWord
  have c1 := isLetter_any c
  have c2 := isDigit_any c
  generalize isLetter c = a at *
  generalize isDigit c = b at *
  go_enter Tryd.func30, Tryd.ntmps30
  cases a
  · go_wp2_with (first | ((with_reducible refine (c1 _).mono ?_); rintro e w' ⟨rfl, rfl⟩) | ((with_reducible refine (c2 _).mono ?_); rintro e w' ⟨rfl, rfl⟩))
    go_ret
    exact ⟨by simp, rfl⟩
  · go_wp2_with (first | ((with_reducible refine (c1 _).mono ?_); rintro e w' ⟨rfl, rfl⟩) | ((with_reducible refine (c2 _).mono ?_); rintro e w' ⟨rfl, rfl⟩))
    go_ret
    exact ⟨by simp, rfl⟩

/-- A function value that answers a sort of bytes, whatever the world, and turns nothing. -/
def Sorts (g : FuncId) (p : UInt8 → Bool) : Prop := (∀ (args : Array Value) (w : World), (callFunc g args).run Tryd.prog w = .ok (.enter g args) w) ∧ ∀ (c : UInt8) (w : World), Calls Tryd.prog g #[.int .u8 (c.toNat : Int)] w fun e w' => e = .returned (.bool (p c)) ∧ w' = w
theorem sort_blank : Sorts 20 isBlank := ⟨fun _ _ => rfl, isBlank_any⟩
theorem sort_line : Sorts 21 isOfLine := ⟨fun _ _ => rfl, isOfLine_any⟩
theorem sort_digit : Sorts 25 isDigit := ⟨fun _ _ => rfl, isDigit_any⟩
theorem sort_word : Sorts 30 isOfWord := ⟨fun _ _ => rfl, isOfWord_any⟩

set_option maxHeartbeats 1000000 in
theorem sizeOf_any (s : ByteArray) (g : FuncId) (p : UInt8 → Bool) (hg : Sorts g p) (hs : s.size < 9223372036854775807) (W : World) :
    Calls Tryd.prog 19 #[.string s, .func (.func g) #[] #[]] W fun e w' => e = .returned (.int .i64 (runOf p s.data.toList : Nat)) ∧ w' = W := by
  obtain ⟨hen, hc⟩ := hg
  have HC := Lib.hid hc
  clear hc
  go_enter Tryd.func19, Tryd.ntmps19
  go_wp2_with fail
  have hL : s.data.toList.length = s.size := (Lib.size_eq s).symm
  have hrl := runOf_le p s.data.toList
  have hre := runOf_end p s.data.toList
  have hra := runOf_at p s.data.toList
  obtain ⟨R, eR⟩ : ∃ R, R = runOf p s.data.toList := ⟨_, rfl⟩
  rw [← eR] at hrl
  have HE := Lib.hid hre
  have HA := Lib.hid hra
  have ER := Lib.hid eR
  clear hre hra eR
  go_loop [5] (fun a => ∃ k : Nat, k ≤ R ∧ a = .int .i64 k) (fun a => R - (intOf a).toNat)
  case atStart => exact ⟨0, Nat.zero_le _, rfl⟩
  case round =>
    obtain ⟨k, hk, rfl⟩ := hrel
    by_cases hkR : k < R
    · have hb : k < s.size := by omega
      have hp : p s[k] = true := by
        obtain ⟨h', hp⟩ := HA.out k (by rw [← ER.out]; exact hkR)
        show p s.data[k] = true
        simpa using hp
      go_wp2_with fail
      refine (HC.out _ _).mono ?_
      rw [hp]
      rintro e w' ⟨rfl, rfl⟩
      go_wp2
      go_round
      case rel => exact ⟨k + 1, by omega, by go_num⟩
      case measure => simp [intOf]; omega
    · obtain rfl : k = R := by omega
      by_cases hb : k < s.size
      · have hp : p s[k] = false := by
          have h := HE.out (by rw [← ER.out]; omega)
          simp only [← ER.out] at h
          show p s.data[k] = false
          simpa using h
        go_wp2_with fail
        refine (HC.out _ _).mono ?_
        rw [hp]
        rintro e w' ⟨rfl, rfl⟩
        go_wp2
        go_ret
        exact ⟨by rw [← ER.out]; rfl, rfl⟩
      · have hb2 : k = s.size := by omega
        subst hb2
        go_wp2
        go_ret
        exact ⟨by rw [← ER.out]; rfl, rfl⟩
end Go.Proofs.YtombkcdoeiffiaaDoor
