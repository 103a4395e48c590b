/- Package lex: wordSize, passedOver, Word. -/
import Derived.Test.YtombkcdoeiffiaaDoorLexA
namespace Go.Proofs.YtombkcdoeiffiaaDoor
open Go.RowKit
set_option linter.unusedVariables false
set_option linter.unusedSimpArgs false

/-- A string's bytes from a place on. -/
theorem from_data (s : ByteArray) (a : Nat) : (s.extract a s.size).data.toList = s.data.toList.drop a := by
  rw [Lib.extract_data, List.take_of_length_le]
  rw [List.length_drop, ← Lib.size_eq]
  exact Nat.le_refl _
theorem from_size (s : ByteArray) (a : Nat) : (s.extract a s.size).size = s.size - a := by
  rw [Lib.size_eq, from_data, List.length_drop, ← Lib.size_eq]
theorem cons_of (s : ByteArray) (k : Nat) (h : k < s.size) : s.data.toList.drop k = s[k] :: s.data.toList.drop (k + 1) := by
  have h' : k < s.data.toList.length := by rw [← Lib.size_eq]; exact h
  rw [List.drop_eq_getElem_cons h']
  rfl

theorem empty_iff (s : ByteArray) (b : Bool) (h : decide (s.size = 0) = b) : s.toList.isEmpty = b := by
  rw [Lib.toList_data, ← h, Lib.size_eq]
  cases s.data.toList <;> simp

set_option maxHeartbeats 1000000 in
theorem wordSize_any (s : ByteArray) (hs : s.size < 9223372036854775807) (W : World) :
    Calls Tryd.prog 17 #[.string s] W fun e w' => e = .returned (.int .i64 (wordSize s.data.toList : Nat)) ∧ w' = W := by
  have c1 := sizeOf_any s 30 isOfWord sort_word hs
  by_cases h0 : s.size = 0
  · have hz : s.data.toList = [] := List.length_eq_zero_iff.1 (by rw [← Lib.size_eq]; exact h0)
    have he := empty_iff s true (by simp [h0])
    rw [hz]
    go_enter Tryd.func17, Tryd.ntmps17
    go_wp2_with fail
    go_ret
    exact ⟨rfl, rfl⟩
  · have hp : 0 < s.size := by omega
    have he := empty_iff s false (by simp [h0])
    have hc := cons_of s 0 hp
    rw [List.drop_zero] at hc
    have c2 := isLetter_any s[0]
    have hws : wordSize s.data.toList = if isLetter s[0] then runOf isOfWord s.data.toList else 0 := by
      have : ∀ l (h : l = s[0] :: s.data.toList.drop 1), wordSize l = if isLetter s[0] then runOf isOfWord l else 0 := fun l h => by subst h; rfl
      exact this _ hc
    rw [hws]
    clear hws hc h0
    generalize isLetter s[0] = b at *
    cases b
    · go_enter Tryd.func17, Tryd.ntmps17
      go_wp2_with (first | ((with_reducible refine (c2 _).mono ?_); rintro e w' ⟨rfl, rfl⟩) | ((with_reducible refine (c1 _).mono ?_); rintro e w' ⟨rfl, rfl⟩))
      go_ret
      exact ⟨rfl, rfl⟩
    · go_enter Tryd.func17, Tryd.ntmps17
      go_wp2_with (first | ((with_reducible refine (c2 _).mono ?_); rintro e w' ⟨rfl, rfl⟩) | ((with_reducible refine (c1 _).mono ?_); rintro e w' ⟨rfl, rfl⟩))
      go_ret
      exact ⟨rfl, rfl⟩

set_option maxHeartbeats 1000000 in
theorem passedOver_any (s : ByteArray) (hs : s.size < 4611686018427387904) (W : World) :
    Calls Tryd.prog 14 #[.string s] W fun e w' => e = .returned (.int .i64 (passed s.data.toList : Nat)) ∧ w' = W := by
  have c1 := sizeOf_any s 20 isBlank sort_blank (by omega)
  have hle := runOf_le isBlank s.data.toList
  rw [← Lib.size_eq] at hle
  unfold passed
  generalize runOf isBlank s.data.toList = B at *
  have c2 := sizeOf_any (s.extract B s.size) 21 isOfLine sort_line (by rw [from_size]; omega)
  rw [from_data] at c2
  have hrl := runOf_le isOfLine (s.data.toList.drop B)
  rw [List.length_drop, ← Lib.size_eq] at hrl
  by_cases hB : B < s.size
  · have hc := cons_of s B hB
    rw [hc]
    rw [hc] at c2 hrl
    dsimp only
    generalize runOf isOfLine (s[B] :: s.data.toList.drop (B + 1)) = R at *
    have hne : ((B : Int) == (s.size : Int)) = false := by simp; omega
    clear hc
    by_cases h35 : s[B].toNat = 35
    · rw [if_pos h35]
      have h35' : ((s[B].toNat : Int) != 35) = false := by rw [h35]; rfl
      go_enter Tryd.func14, Tryd.ntmps14
      go_wp2_with (first | ((with_reducible refine (c2 _).mono ?_); rintro e w' ⟨rfl, rfl⟩) | ((with_reducible refine (c1 _).mono ?_); rintro e w' ⟨rfl, rfl⟩))
      go_ret
      exact ⟨ret_int (by simp), rfl⟩
    · rw [if_neg h35]
      have h35' : ((s[B].toNat : Int) != 35) = true := by simp; omega
      go_enter Tryd.func14, Tryd.ntmps14
      go_wp2_with (first | ((with_reducible refine (c2 _).mono ?_); rintro e w' ⟨rfl, rfl⟩) | ((with_reducible refine (c1 _).mono ?_); rintro e w' ⟨rfl, rfl⟩))
      go_ret
      exact ⟨rfl, rfl⟩
  · have hd : s.data.toList.drop B = [] := List.drop_eq_nil_of_le (by rw [← Lib.size_eq]; omega)
    rw [hd]
    have hne : ((B : Int) == (s.size : Int)) = true := by simp; omega
    have hBs : B = s.size := by omega
    clear c2 hrl hd hB
    subst hBs
    go_enter Tryd.func14, Tryd.ntmps14
    go_wp2_with ((with_reducible refine (c1 _).mono ?_); rintro e w' ⟨rfl, rfl⟩)
    go_ret
    exact ⟨rfl, rfl⟩

set_option maxHeartbeats 1000000 in
theorem Word_any (s : ByteArray) (hs : s.size < 9223372036854775807) (W : World) :
    Calls Tryd.prog 12 #[.string s] W fun e w' => e = .returned (.bool (decide (0 < s.size) && decide (wordSize s.data.toList = s.size))) ∧ w' = W := by
  have c1 := wordSize_any s hs
  generalize wordSize s.data.toList = n at *
  by_cases h0 : s.size = 0
  · have he := empty_iff s true (by simp [h0])
    rw [h0]
    go_enter Tryd.func12, Tryd.ntmps12
    go_wp2_with fail
    go_ret
    exact ⟨rfl, rfl⟩
  · have he := empty_iff s false (by simp [h0])
    go_enter Tryd.func12, Tryd.ntmps12
    go_wp2_with ((with_reducible refine (c1 _).mono ?_); rintro e w' ⟨rfl, rfl⟩)
    go_ret
    refine ⟨ret_bool ?_, rfl⟩
    rw [Bool.eq_iff_iff]
    simp
    omega
end Go.Proofs.YtombkcdoeiffiaaDoor
