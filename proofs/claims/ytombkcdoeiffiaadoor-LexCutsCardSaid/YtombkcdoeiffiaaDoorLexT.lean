/- The document's answers of layer 3 (package latheref03): kind, word, digits, Word. -/
import Derived.Test.YtombkcdoeiffiaaDoorLexB
namespace Go.Proofs.YtombkcdoeiffiaaDoor
open Go.RowKit
set_option linter.unusedVariables false
set_option linter.unusedSimpArgs false

def kindN (l : List UInt8) (i : Nat) : Nat := match l[i]? with
  | none => 0
  | some c => if isLetter c then 1 else if isDigit c then 2 else 0
theorem kind_at (s : ByteArray) (i : Nat) (h : i < s.size) : kindN s.data.toList i = if isLetter s[i] then 1 else if isDigit s[i] then 2 else 0 := by
  have h' : i < s.data.toList.length := by rw [← Lib.size_eq]; exact h
  unfold kindN
  rw [List.getElem?_eq_getElem h']
  rfl
theorem kind_past (s : ByteArray) (i : Nat) (h : ¬ i < s.size) : kindN s.data.toList i = 0 := by
  unfold kindN
  rw [List.getElem?_eq_none (by rw [← Lib.size_eq]; omega)]

set_option maxHeartbeats 1000000 in
theorem rkind_any (s : ByteArray) (i : Nat) (W : World) :
    Calls Tryd.prog 29 #[.string s, .int .i64 (i : Nat)] W fun e w' => e = .returned (.int .i64 (kindN s.data.toList i : Nat)) ∧ w' = W := by
  by_cases h : i < s.size
  · rw [kind_at s i h]
    have hc := (s[i]).toNat_lt
    unfold isLetter isDigit
    generalize hn : s[i].toNat = n at *
    have h0 : ¬ ((s.size : Int) ≤ (i : Int)) := by omega
    go_enter Tryd.func29, Tryd.ntmps29
    go_wp2
    all_goals go_ret
    all_goals refine ⟨ret_int ?_, rfl⟩
    all_goals (simp at *; try omega)
    all_goals ((repeat' split) <;> omega)
  · rw [kind_past s i h]
    have h0 : ((s.size : Int) ≤ (i : Int)) := by omega
    go_enter Tryd.func29, Tryd.ntmps29
    go_wp2
    go_ret
    exact ⟨rfl, rfl⟩
theorem kind_word (s : ByteArray) (i : Nat) (h : i < s.size) : (kindN s.data.toList i ≠ 0 ↔ isOfWord s[i] = true) ∧ (kindN s.data.toList i = 1 ↔ isLetter s[i] = true) ∧ (kindN s.data.toList i = 2 ↔ isDigit s[i] = true) := by
  rw [kind_at s i h]
  have hd : isLetter s[i] = true → isDigit s[i] = false := by
    unfold isLetter isDigit
    intro h
    simp at h ⊢
    omega
  unfold isOfWord
  cases h1 : isLetter s[i] <;> cases h2 : isDigit s[i] <;> simp
  rw [hd h1] at h2
  cases h2
theorem run_drop (p : UInt8 → Bool) (s : ByteArray) (i n : Nat) (h : n < runOf p (s.data.toList.drop i)) : ∃ h : i + n < s.size, p s[i + n] = true := by
  obtain ⟨h1, h2⟩ := runOf_at p (s.data.toList.drop i) n h
  have h3 : i + n < s.size := by rw [List.length_drop, ← Lib.size_eq] at h1; omega
  refine ⟨h3, ?_⟩
  rw [List.getElem_drop] at h2
  exact h2
theorem run_past (p : UInt8 → Bool) (s : ByteArray) (i : Nat) (h : i + runOf p (s.data.toList.drop i) < s.size) : p s[i + runOf p (s.data.toList.drop i)] = false := by
  have h1 := runOf_end p (s.data.toList.drop i) (by rw [List.length_drop, ← Lib.size_eq]; omega)
  rw [List.getElem_drop] at h1
  exact h1

set_option maxHeartbeats 1000000 in
theorem rword_any (s : ByteArray) (hs : s.size ≤ 281474976710656) (i : Nat) (hi : i ≤ s.size) (W : World) :
    Calls Tryd.prog 18 #[.string s, .int .i64 (i : Nat)] W fun e w' => e = .returned (.int .i64 (wordSize (s.data.toList.drop i) : Nat)) ∧ w' = W := by
  have ck := fun i => rkind_any s i
  by_cases h1 : kindN s.data.toList i = 1
  · have hlt : i < s.size := by
      rcases Nat.lt_or_ge i s.size with h | h
      · exact h
      · rw [kind_past s i (by omega)] at h1; cases h1
    have hl := (kind_word s i hlt).2.1.1 h1
    have hw : wordSize (s.data.toList.drop i) = runOf isOfWord (s.data.toList.drop i) := by
      have := cons_of s i hlt
      rw [this]
      simp only [wordSize, if_pos hl]
    rw [hw]
    have hpos : 0 < runOf isOfWord (s.data.toList.drop i) := by
      rw [cons_of s i hlt, runOf_cons, if_pos (by simp [isOfWord, hl])]; omega
    have hle := runOf_le isOfWord (s.data.toList.drop i)
    rw [List.length_drop, ← Lib.size_eq] at hle
    obtain ⟨R, eR⟩ : ∃ R, R = runOf isOfWord (s.data.toList.drop i) := ⟨_, rfl⟩
    rw [← eR] at hpos hle ⊢
    have hin : ∀ n, n < R → kindN s.data.toList (i + n) ≠ 0 := fun n h => by
      obtain ⟨h3, h4⟩ := run_drop isOfWord s i n (by rw [← eR]; exact h)
      exact (kind_word s (i + n) h3).1.2 h4
    have hout : kindN s.data.toList (i + R) = 0 := by
      by_cases h3 : i + R < s.size
      · have h4 := run_past isOfWord s i (by rw [← eR]; exact h3)
        have h5 := (kind_word s (i + R) h3).1
        simp only [← eR] at h4
        rw [h4] at h5
        simpa using h5
      · exact kind_past s _ h3
    have HIN := Lib.hid hin
    have HOUT := Lib.hid hout
    clear hin hout eR hw hl
    have k1 := ck i
    rw [h1] at k1
    go_enter Tryd.func18, Tryd.ntmps18
    go_wp2_with ((with_reducible refine (k1 _).mono ?_); rintro e w' ⟨rfl, rfl⟩)
    go_loop [5] (fun a => ∃ n : Nat, 1 ≤ n ∧ n ≤ R ∧ a = .int .i64 n) (fun a => R - (intOf a).toNat)
    case atStart => exact ⟨1, by omega, by omega, rfl⟩
    case round =>
      obtain ⟨n, hn0, hnR, rfl⟩ := hrel
      have k2 := ck (i + n)
      simp only [Int.natCast_add] at k2
      by_cases hn : n < R
      · have h5 := HIN.out n hn
        generalize kindN s.data.toList (i + n) = q at *
        have hq : ((q : Int) != 0) = true := by simp; omega
        go_wp2_with ((with_reducible refine (k2 _).mono ?_); rintro e w' ⟨rfl, rfl⟩)
        go_round
        case rel => exact ⟨n + 1, by omega, by omega, by go_num⟩
        case measure => simp [intOf]; omega
      · obtain rfl : n = R := by omega
        have h5 := HOUT.out
        generalize kindN s.data.toList (i + n) = q at *
        have hq : ((q : Int) != 0) = false := by simp; omega
        go_wp2_with ((with_reducible refine (k2 _).mono ?_); rintro e w' ⟨rfl, rfl⟩)
        go_ret
        exact ⟨rfl, rfl⟩
  · have k1 := ck i
    have hw : wordSize (s.data.toList.drop i) = 0 := by
      by_cases hlt : i < s.size
      · rw [cons_of s i hlt]
        have := (kind_word s i hlt).2.1
        simp only [wordSize]
        rw [if_neg (fun h => h1 (this.2 h))]
      · rw [List.drop_eq_nil_of_le (by rw [← Lib.size_eq]; omega)]; rfl
    rw [hw]
    generalize kindN s.data.toList i = q at *
    have hq : ((q : Int) != 1) = true := by simp; omega
    go_enter Tryd.func18, Tryd.ntmps18
    go_wp2_with ((with_reducible refine (k1 _).mono ?_); rintro e w' ⟨rfl, rfl⟩)
    go_ret
    exact ⟨rfl, rfl⟩
set_option maxHeartbeats 1000000 in
theorem rdigits_any (s : ByteArray) (hs : s.size ≤ 281474976710656) (i : Nat) (hi : i ≤ s.size) (W : World) :
    Calls Tryd.prog 27 #[.string s, .int .i64 (i : Nat)] W fun e w' => e = .returned (.int .i64 (runOf isDigit (s.data.toList.drop i) : Nat)) ∧ w' = W := by
    have ck := fun i => rkind_any s i
    have hle := runOf_le isDigit (s.data.toList.drop i)
    rw [List.length_drop, ← Lib.size_eq] at hle
    obtain ⟨R, eR⟩ : ∃ R, R = runOf isDigit (s.data.toList.drop i) := ⟨_, rfl⟩
    rw [← eR] at hle ⊢
    have hin : ∀ n, n < R → kindN s.data.toList (i + n) = 2 := fun n h => by
      obtain ⟨h3, h4⟩ := run_drop isDigit s i n (by rw [← eR]; exact h)
      exact (kind_word s (i + n) h3).2.2.2 h4
    have hout : kindN s.data.toList (i + R) ≠ 2 := by
      by_cases h3 : i + R < s.size
      · have h4 := run_past isDigit s i (by rw [← eR]; exact h3)
        have h5 := (kind_word s (i + R) h3).2.2
        simp only [← eR] at h4
        rw [h4] at h5
        intro h6
        simpa using h5.1 h6
      · rw [kind_past s _ h3]; decide
    have HIN := Lib.hid hin
    have HOUT := Lib.hid hout
    clear hin hout eR
    go_enter Tryd.func27, Tryd.ntmps27
    go_wp2_with fail
    go_loop [5] (fun a => ∃ n : Nat, 0 ≤ n ∧ n ≤ R ∧ a = .int .i64 n) (fun a => R - (intOf a).toNat)
    case atStart => exact ⟨0, by omega, by omega, rfl⟩
    case round =>
      obtain ⟨n, hn0, hnR, rfl⟩ := hrel
      have k2 := ck (i + n)
      simp only [Int.natCast_add] at k2
      by_cases hn : n < R
      · have h5 := HIN.out n hn
        generalize kindN s.data.toList (i + n) = q at *
        have hq : ((q : Int) == 2) = true := by simp; omega
        go_wp2_with ((with_reducible refine (k2 _).mono ?_); rintro e w' ⟨rfl, rfl⟩)
        go_round
        case rel => exact ⟨n + 1, by omega, by omega, by go_num⟩
        case measure => simp [intOf]; omega
      · obtain rfl : n = R := by omega
        have h5 := HOUT.out
        generalize kindN s.data.toList (i + n) = q at *
        have hq : ((q : Int) == 2) = false := by simp; omega
        go_wp2_with ((with_reducible refine (k2 _).mono ?_); rintro e w' ⟨rfl, rfl⟩)
        go_ret
        exact ⟨rfl, rfl⟩

set_option maxHeartbeats 1000000 in
theorem rWord_any (s : ByteArray) (hs : s.size ≤ 281474976710656) (W : World) :
    Calls Tryd.prog 13 #[.string s] W fun e w' => e = .returned (.bool (decide (0 < s.size) && decide (wordSize s.data.toList = s.size))) ∧ w' = W := by
  have c1 := rword_any s hs 0 (Nat.zero_le _)
  rw [List.drop_zero] at c1
  have c1 : ∀ W : World, Calls Tryd.prog 18 #[.string s, .int .i64 0] W fun e w' => e = .returned (.int .i64 (wordSize s.data.toList : Nat)) ∧ w' = W := c1
  generalize wordSize s.data.toList = n at *
  by_cases h0 : s.size = 0
  · rw [h0]
    have h1 : ¬ ((0 : Int) < (s.size : Int)) := by omega
    go_enter Tryd.func13, Tryd.ntmps13
    go_wp2_with fail
    go_ret
    exact ⟨rfl, rfl⟩
  · have h1 : ((0 : Int) < (s.size : Int)) := by omega
    go_enter Tryd.func13, Tryd.ntmps13
    go_wp2_with ((with_reducible refine (c1 _).mono ?_); rintro e w' ⟨rfl, rfl⟩)
    go_ret
    refine ⟨ret_bool ?_, rfl⟩
    rw [Bool.eq_iff_iff]
    simp
    omega
end Go.Proofs.YtombkcdoeiffiaaDoor
