/- What this seat takes of layer 3's texts (LexBase) -/
import Derived.Lib.ParseIntBCases
import Derived.Test.YtmampoakdjjbiaaGreatDoorProg
import Derived.Test.YtmampoakdjjbiaaGreatDoorBaseA
import Derived.WalkKit
import Derived.WalkSpells
import Derived.WalkLawsBesides
import Derived.Below
import Derived.Lib.Hide
import Derived.Lib.Strings
import Derived.Deep.LoopGhost
namespace Go.Proofs.YtmampoakdjjbiaaGreatDoor
open Go.RowKit Go.Maps
set_option linter.unusedVariables false
set_option linter.unusedSimpArgs false

def isBlank (c : UInt8) : Bool := c.toNat == 32 || c.toNat == 9 || c.toNat == 13
def isOfLine (c : UInt8) : Bool := c.toNat != 10
def isMark (c : UInt8) : Bool := c.toNat == 61 || c.toNat == 44 || c.toNat == 40 || c.toNat == 41 || c.toNat == 58
def isLetter (c : UInt8) : Bool := (decide (97 ≤ c.toNat) && decide (c.toNat ≤ 122)) || c.toNat == 95
def isDigit (c : UInt8) : Bool := decide (48 ≤ c.toNat) && decide (c.toNat ≤ 57)
def isOfWord (c : UInt8) : Bool := isLetter c || isDigit c
/-- How many at the front are of one sort. -/
def runOf (p : UInt8 → Bool) (l : List UInt8) : Nat := (l.takeWhile p).length
theorem runOf_nil (p : UInt8 → Bool) : runOf p [] = 0 := rfl
theorem runOf_cons (p : UInt8 → Bool) (c : UInt8) (r : List UInt8) : runOf p (c :: r) = if p c then runOf p r + 1 else 0 := by
  unfold runOf
  rw [List.takeWhile_cons]
  split <;> rfl
theorem runOf_le (p : UInt8 → Bool) (l : List UInt8) : runOf p l ≤ l.length := by
  induction l with
  | nil => exact Nat.le_refl _
  | cons c r ih => rw [runOf_cons]; split <;> simp <;> omega
theorem take_runOf (p : UInt8 → Bool) (l : List UInt8) : l.take (runOf p l) = l.takeWhile p := by
  induction l with
  | nil => rfl
  | cons c r ih =>
    rw [runOf_cons, List.takeWhile_cons]
    split
    · rw [List.take_succ_cons, ih]
    · rfl
/-- All of them are of the sort; the next one isn't. -/
theorem runOf_at (p : UInt8 → Bool) (l : List UInt8) (i : Nat) (h : i < runOf p l) : ∃ h' : i < l.length, p l[i] = true := by
  induction l generalizing i with
  | nil => simp [runOf_nil] at h
  | cons c r ih =>
    rw [runOf_cons] at h
    split at h
    · rename_i hc
      cases i with
      | zero => exact ⟨by simp, hc⟩
      | succ i =>
        obtain ⟨h', k⟩ := ih i (by omega)
        exact ⟨by simp; omega, by simpa using k⟩
    · omega
theorem runOf_end (p : UInt8 → Bool) (l : List UInt8) (h : runOf p l < l.length) : p l[runOf p l] = false := by
  induction l with
  | nil => simp at h
  | cons c r ih =>
    by_cases hc : p c = true
    · have e : runOf p (c :: r) = runOf p r + 1 := by rw [runOf_cons, if_pos hc]
      have h2 : runOf p r < r.length := by rw [e] at h; simpa using h
      have := ih h2
      simp only [e, List.getElem_cons_succ]
      exact this
    · have e : runOf p (c :: r) = 0 := by rw [runOf_cons, if_neg hc]
      simp only [e, List.getElem_cons_zero]
      simpa using hc
/-- Where counting may stop: n bytes of the sort, and then none. -/
theorem runOf_eq (p : UInt8 → Bool) (l : List UInt8) (n : Nat) (hn : n ≤ l.length) (ha : ∀ i (h : i < n), p (l[i]'(by omega)) = true) (he : ∀ h : n < l.length, p l[n] = false) : runOf p l = n := by
  induction l generalizing n with
  | nil => simp at hn; subst hn; rfl
  | cons c r ih =>
    rw [runOf_cons]
    cases n with
    | zero =>
      have := he (by simp)
      simp at this
      rw [if_neg (by simp [this])]
    | succ n =>
      have h0 := ha 0 (by omega)
      simp at h0
      rw [if_pos h0]
      congr 1
      refine ih n (by simpa using hn) (fun i h => ?_) (fun h => ?_)
      · simpa using ha (i + 1) (by omega)
      · have k := he (by simpa using h)
        rw [List.getElem_cons_succ] at k
        exact k
/-- A byte that is not of the sort stops the counting, whatever follows it. -/
theorem runOf_stop (p : UInt8 → Bool) (l : List UInt8) (c : UInt8) (t : List UInt8) (hc : p c = false) : runOf p (l ++ c :: t) = runOf p l := by
  induction l with
  | nil => simp [runOf_cons, hc, runOf_nil]
  | cons d r ih => rw [List.cons_append, runOf_cons, runOf_cons, ih]
theorem takeWhile_stop (p : UInt8 → Bool) (l : List UInt8) (c : UInt8) (t : List UInt8) (hc : p c = false) : (l ++ c :: t).takeWhile p = l.takeWhile p := by
  induction l with
  | nil => simp [hc]
  | cons d r ih => rw [List.cons_append, List.takeWhile_cons, List.takeWhile_cons, ih]
def wordSize (l : List UInt8) : Nat := match l with
  | [] => 0
  | c :: r => if isLetter c then runOf isOfWord (c :: r) else 0
theorem wordSize_le (l : List UInt8) : wordSize l ≤ l.length := by
  cases l with
  | nil => exact Nat.le_refl _
  | cons c r => simp only [wordSize]; split; exact runOf_le _ _; omega
theorem wordSize_pos (c : UInt8) (r : List UInt8) (h : isLetter c = true) : 0 < wordSize (c :: r) := by
  simp only [wordSize, if_pos h]
  rw [runOf_cons, if_pos (by simp [isOfWord, h])]
  omega
/-- The bytes ahead of the next piece. -/
def passed (l : List UInt8) : Nat := match l.drop (runOf isBlank l) with
  | [] => runOf isBlank l
  | c :: r => if c.toNat = 35 then runOf isBlank l + runOf isOfLine (c :: r) else runOf isBlank l
theorem passed_le (l : List UInt8) : passed l ≤ l.length := by
  have h := runOf_le isBlank l
  unfold passed
  split
  · exact h
  · rename_i c r e
    split
    · have h2 := runOf_le isOfLine (c :: r)
      have h3 : (c :: r).length = l.length - runOf isBlank l := by rw [← e, List.length_drop]
      omega
    · exact h
/-- The first piece: its kind, its text, how many bytes it takes; or the error's number. -/
inductive Cut where
  | ok (kind : Nat) (body : List UInt8) (size : Nat)
  | bad (code : Nat)
def number (kind : Nat) (l : List UInt8) (most extra : Nat) : Cut :=
  if 1 < runOf isDigit l ∧ (l.head?.map UInt8.toNat) = some 48 then .bad 2
  else match Go.Lib.parseUintB 64 (l.takeWhile isDigit) with
    | .ok u => if most < u then .bad 2 else .ok kind (l.takeWhile isDigit) (extra + runOf isDigit l)
    | _ => .bad 2
def first (l : List UInt8) : Cut := match l with
  | [] => .bad 1
  | c :: r =>
    if c.toNat = 10 then .ok 6 [] 1
    else if isMark c then .ok 5 [c] 1
    else if isLetter c then .ok 1 ((c :: r).take (wordSize (c :: r))) (wordSize (c :: r))
    else if isDigit c then number 2 (c :: r) 18446744073709551615 0
    else if c.toNat = 37 then number 3 r 4095 1
    else if c.toNat = 64 ∧ 0 < wordSize r then .ok 4 (r.take (wordSize r)) (1 + wordSize r)
    else .bad 1
structure Tok where
  kind : Nat
  body : List UInt8
  line : Nat
  col : Nat
structure Flt where
  code : Nat
  line : Nat
  col : Nat
/-- The pieces of a text that begins at a line and a column, or its first fault. -/
inductive Lexed : List UInt8 → Nat → Nat → List Tok → Option Flt → Prop
  | done {l line col} : l.drop (passed l) = [] → Lexed l line col [] none
  | bad {l line col c r e} : l.drop (passed l) = c :: r → first (c :: r) = .bad e → Lexed l line col [] (some ⟨e, line, col + passed l⟩)
  | step {l line col c r k b s ts f} : l.drop (passed l) = c :: r → first (c :: r) = .ok k b s →
      Lexed ((c :: r).drop s) (if k = 6 then line + 1 else line) (if k = 6 then 1 else col + passed l + s) ts f → Lexed l line col (⟨k, b, line, col + passed l⟩ :: ts) f
theorem Lexed.unique {l line col ts f} (h : Lexed l line col ts f) : ∀ {ts' f'}, Lexed l line col ts' f' → ts = ts' ∧ f = f' := by
  induction h with
  | done h0 =>
    intro ts' f' h'
    cases h' with
    | done => exact ⟨rfl, rfl⟩
    | bad h1 => rw [h0] at h1; cases h1
    | step h1 => rw [h0] at h1; cases h1
  | bad h0 h1 =>
    intro ts' f' h'
    cases h' with
    | done h2 => rw [h0] at h2; cases h2
    | bad h2 h3 =>
      rw [h0] at h2; injection h2 with a b; subst a b
      rw [h1] at h3; injection h3 with a; subst a
      exact ⟨rfl, rfl⟩
    | step h2 h3 =>
      rw [h0] at h2; injection h2 with a b; subst a b
      rw [h1] at h3; cases h3
  | step h0 h1 _ ih =>
    intro ts' f' h'
    cases h' with
    | done h2 => rw [h0] at h2; cases h2
    | bad h2 h3 =>
      rw [h0] at h2; injection h2 with a b; subst a b
      rw [h1] at h3; cases h3
    | step h2 h3 h4 =>
      rw [h0] at h2; injection h2 with a b; subst a b
      rw [h1] at h3; injection h3 with a b c; subst a b c
      obtain ⟨rfl, rfl⟩ := ih h4
      exact ⟨rfl, rfl⟩
theorem number_size {kind l most extra k b s} (h : number kind l most extra = .ok k b s) : k = kind ∧ b = l.takeWhile isDigit ∧ s = extra + runOf isDigit l ∧ 0 < runOf isDigit l := by
  unfold number at h
  split at h
  · cases h
  · split at h
    · rename_i hp
      split at h
      · cases h
      · injection h with h1 h2 h3
        refine ⟨h1.symm, h2.symm, h3.symm, ?_⟩
        rcases Nat.eq_zero_or_pos (runOf isDigit l) with h0 | h0
        · have e : l.takeWhile isDigit = [] := List.length_eq_zero_iff.1 h0
          rw [e] at hp
          simp [Go.Lib.parseUintB] at hp
        · exact h0
    · cases h
theorem first_size {l k b s} (h : first l = .ok k b s) : 0 < s ∧ s ≤ l.length ∧ b.length ≤ s := by
  unfold first at h
  split at h
  · cases h
  · rename_i c r
    split at h
    · injection h with h1 h2 h3; subst h1 h2 h3; simp
    split at h
    · injection h with h1 h2 h3; subst h1 h2 h3; simp
    split at h
    · rename_i hl
      injection h with h1 h2 h3; subst h1 h2 h3
      exact ⟨wordSize_pos c r hl, wordSize_le _, by rw [List.length_take]; exact Nat.min_le_left _ _⟩
    split at h
    · obtain ⟨rfl, rfl, rfl, hp⟩ := number_size h
      have := runOf_le isDigit (c :: r)
      exact ⟨by omega, by omega, by unfold runOf; omega⟩
    split at h
    · obtain ⟨rfl, rfl, rfl, hp⟩ := number_size h
      have := runOf_le isDigit r
      refine ⟨by omega, by simp; omega, by unfold runOf; omega⟩
    split at h
    · rename_i hw
      injection h with h1 h2 h3; subst h1 h2 h3
      have := wordSize_le r
      exact ⟨by omega, by simp; omega, by rw [List.length_take]; omega⟩
    · cases h
/-- The codes of faults: 1 and 2 alone. -/
theorem first_bad {l e} (h : first l = .bad e) : e = 1 ∨ e = 2 := by
  have hn : ∀ {k l m x e}, number k l m x = .bad e → e = 2 := by
    intro k l m x e h
    unfold number at h
    split at h
    · injection h with h; exact h.symm
    · split at h
      · split at h
        · injection h with h; exact h.symm
        · cases h
      · injection h with h; exact h.symm
  unfold first at h
  split at h
  · injection h with h; exact .inl h.symm
  · split at h
    · cases h
    split at h
    · cases h
    split at h
    · cases h
    split at h
    · exact .inr (hn h)
    split at h
    · exact .inr (hn h)
    split at h
    · cases h
    · injection h with h; exact .inl h.symm
/-- There always is an answer. -/
theorem lexed_total : ∀ (n : Nat) (l : List UInt8) (line col : Nat), l.length ≤ n → ∃ ts f, Lexed l line col ts f
  | 0, l, line, col, h => by
    have : l = [] := List.length_eq_zero_iff.1 (by omega)
    subst this
    exact ⟨[], none, .done (by simp)⟩
  | n + 1, l, line, col, h => by
    cases hd : l.drop (passed l) with
    | nil => exact ⟨[], none, .done hd⟩
    | cons c r =>
      cases hf : first (c :: r) with
      | bad e => exact ⟨_, _, .bad hd hf⟩
      | ok k b s =>
        have h1 := first_size hf
        have h2 : (c :: r).length ≤ l.length := by rw [← hd, List.length_drop]; omega
        obtain ⟨ts, f, h3⟩ := lexed_total n ((c :: r).drop s) (if k = 6 then line + 1 else line) (if k = 6 then 1 else col + passed l + s) (by rw [List.length_drop]; omega)
        exact ⟨_, _, .step hd hf h3⟩
theorem isLetter_any (c : UInt8) (W : World) : Calls Tryz.prog 110 #[.int .u8 (c.toNat : Int)] W fun e w' => e = .returned (.bool (isLetter c)) ∧ w' = W := by
  have hc := c.toNat_lt
  unfold isLetter
  generalize c.toNat = n at *
  go_enter Tryz.func110, Tryz.ntmps110
  go_wp2
  all_goals go_ret
  all_goals refine ⟨ret_bool ?_, rfl⟩
  all_goals (rw [Bool.eq_iff_iff]; simp <;> omega)
theorem isDigit_any (c : UInt8) (W : World) : Calls Tryz.prog 127 #[.int .u8 (c.toNat : Int)] W fun e w' => e = .returned (.bool (isDigit c)) ∧ w' = W := by
  have hc := c.toNat_lt
  unfold isDigit
  generalize c.toNat = n at *
  go_enter Tryz.func127, Tryz.ntmps127
  go_wp2
  all_goals go_ret
  all_goals refine ⟨ret_bool ?_, rfl⟩
  all_goals (rw [Bool.eq_iff_iff]; simp <;> omega)
theorem isOfWord_any (c : UInt8) (W : World) : Calls Tryz.prog 112 #[.int .u8 (c.toNat : Int)] W fun e w' => e = .returned (.bool (isOfWord c)) ∧ w' = W := by
  unfold isOfWord
  have c1 := isLetter_any c
  have c2 := isDigit_any c
  generalize isLetter c = a at *
  generalize isDigit c = b at *
  go_enter Tryz.func112, Tryz.ntmps112
  cases a
  · go_wp2_with (first | ((with_reducible refine (c1 _).mono ?_); rintro e w' ⟨rfl, rfl⟩) | ((with_reducible refine (c2 _).mono ?_); rintro e w' ⟨rfl, rfl⟩))
    go_ret
    exact ⟨by simp, rfl⟩
  · go_wp2_with (first | ((with_reducible refine (c1 _).mono ?_); rintro e w' ⟨rfl, rfl⟩) | ((with_reducible refine (c2 _).mono ?_); rintro e w' ⟨rfl, rfl⟩))
    go_ret
    exact ⟨by simp, rfl⟩
/-- A function value that answers a sort of bytes, whatever the world, and turns nothing. -/
def Sorts (g : FuncId) (p : UInt8 → Bool) : Prop := (∀ (args : Array Value) (w : World), (callFunc g args).run Tryz.prog w = .ok (.enter g args) w) ∧ ∀ (c : UInt8) (w : World), Calls Tryz.prog g #[.int .u8 (c.toNat : Int)] w fun e w' => e = .returned (.bool (p c)) ∧ w' = w
set_option maxRecDepth 100000 in
theorem sort_digit : Sorts 127 isDigit := ⟨fun _ _ => rfl, isDigit_any⟩
set_option maxRecDepth 100000 in
theorem sort_word : Sorts 112 isOfWord := ⟨fun _ _ => rfl, isOfWord_any⟩
set_option maxHeartbeats 1000000 in
theorem sizeOf_any (s : ByteArray) (g : FuncId) (p : UInt8 → Bool) (hg : Sorts g p) (hs : s.size < 9223372036854775807) (W : World) :
    Calls Tryz.prog 111 #[.string s, .func (.func g) #[] #[]] W fun e w' => e = .returned (.int .i64 (runOf p s.data.toList : Nat)) ∧ w' = W := by
  obtain ⟨hen, hc⟩ := hg
  have HC := Lib.hid hc
  clear hc
  go_enter Tryz.func111, Tryz.ntmps111
  go_wp2_with fail
  have hL : s.data.toList.length = s.size := (Lib.size_eq s).symm
  have hrl := runOf_le p s.data.toList
  have hre := runOf_end p s.data.toList
  have hra := runOf_at p s.data.toList
  obtain ⟨R, eR⟩ : ∃ R, R = runOf p s.data.toList := ⟨_, rfl⟩
  rw [← eR] at hrl
  have HE := Lib.hid hre
  have HA := Lib.hid hra
  have ER := Lib.hid eR
  clear hre hra eR
  go_loop [5] (fun a => ∃ k : Nat, k ≤ R ∧ a = .int .i64 k) (fun a => R - (intOf a).toNat)
  case atStart => exact ⟨0, Nat.zero_le _, rfl⟩
  case round =>
    obtain ⟨k, hk, rfl⟩ := hrel
    by_cases hkR : k < R
    · have hb : k < s.size := by omega
      have hp : p s[k] = true := by
        obtain ⟨h', hp⟩ := HA.out k (by rw [← ER.out]; exact hkR)
        show p s.data[k] = true
        simpa using hp
      go_wp2_with fail
      refine (HC.out _ _).mono ?_
      rw [hp]
      rintro e w' ⟨rfl, rfl⟩
      go_wp2
      go_round
      case rel => exact ⟨k + 1, by omega, by go_num⟩
      case measure => simp [intOf]; omega
    · obtain rfl : k = R := by omega
      by_cases hb : k < s.size
      · have hp : p s[k] = false := by
          have h := HE.out (by rw [← ER.out]; omega)
          simp only [← ER.out] at h
          show p s.data[k] = false
          simpa using h
        go_wp2_with fail
        refine (HC.out _ _).mono ?_
        rw [hp]
        rintro e w' ⟨rfl, rfl⟩
        go_wp2
        go_ret
        exact ⟨by rw [← ER.out]; rfl, rfl⟩
      · have hb2 : k = s.size := by omega
        subst hb2
        go_wp2
        go_ret
        exact ⟨by rw [← ER.out]; rfl, rfl⟩
/-- A string's bytes from a place on. -/
theorem from_data (s : ByteArray) (a : Nat) : (s.extract a s.size).data.toList = s.data.toList.drop a := by
  rw [Lib.extract_data, List.take_of_length_le]
  rw [List.length_drop, ← Lib.size_eq]
  exact Nat.le_refl _
theorem from_size (s : ByteArray) (a : Nat) : (s.extract a s.size).size = s.size - a := by
  rw [Lib.size_eq, from_data, List.length_drop, ← Lib.size_eq]
theorem cons_of (s : ByteArray) (k : Nat) (h : k < s.size) : s.data.toList.drop k = s[k] :: s.data.toList.drop (k + 1) := by
  have h' : k < s.data.toList.length := by rw [← Lib.size_eq]; exact h
  rw [List.drop_eq_getElem_cons h']
  rfl
theorem empty_iff (s : ByteArray) (b : Bool) (h : decide (s.size = 0) = b) : s.toList.isEmpty = b := by
  rw [Lib.toList_data, ← h, Lib.size_eq]
  cases s.data.toList <;> simp
set_option maxHeartbeats 1000000 in
theorem wordSize_any (s : ByteArray) (hs : s.size < 9223372036854775807) (W : World) :
    Calls Tryz.prog 85 #[.string s] W fun e w' => e = .returned (.int .i64 (wordSize s.data.toList : Nat)) ∧ w' = W := by
  have c1 := sizeOf_any s 112 isOfWord sort_word hs
  by_cases h0 : s.size = 0
  · have hz : s.data.toList = [] := List.length_eq_zero_iff.1 (by rw [← Lib.size_eq]; exact h0)
    have he := empty_iff s true (by simp [h0])
    rw [hz]
    go_enter Tryz.func85, Tryz.ntmps85
    go_wp2_with fail
    go_ret
    exact ⟨rfl, rfl⟩
  · have hp : 0 < s.size := by omega
    have he := empty_iff s false (by simp [h0])
    have hc := cons_of s 0 hp
    rw [List.drop_zero] at hc
    have c2 := isLetter_any s[0]
    have hws : wordSize s.data.toList = if isLetter s[0] then runOf isOfWord s.data.toList else 0 := by
      have : ∀ l (h : l = s[0] :: s.data.toList.drop 1), wordSize l = if isLetter s[0] then runOf isOfWord l else 0 := fun l h => by subst h; rfl
      exact this _ hc
    rw [hws]
    clear hws hc h0
    generalize isLetter s[0] = b at *
    cases b
    · go_enter Tryz.func85, Tryz.ntmps85
      go_wp2_with (first | ((with_reducible refine (c2 _).mono ?_); rintro e w' ⟨rfl, rfl⟩) | ((with_reducible refine (c1 _).mono ?_); rintro e w' ⟨rfl, rfl⟩))
      go_ret
      exact ⟨rfl, rfl⟩
    · go_enter Tryz.func85, Tryz.ntmps85
      go_wp2_with (first | ((with_reducible refine (c2 _).mono ?_); rintro e w' ⟨rfl, rfl⟩) | ((with_reducible refine (c1 _).mono ?_); rintro e w' ⟨rfl, rfl⟩))
      go_ret
      exact ⟨rfl, rfl⟩
set_option maxHeartbeats 1000000 in
theorem Word_any (s : ByteArray) (hs : s.size < 9223372036854775807) (W : World) :
    Calls Tryz.prog 46 #[.string s] W fun e w' => e = .returned (.bool (decide (0 < s.size) && decide (wordSize s.data.toList = s.size))) ∧ w' = W := by
  have c1 := wordSize_any s hs
  generalize wordSize s.data.toList = n at *
  by_cases h0 : s.size = 0
  · have he := empty_iff s true (by simp [h0])
    rw [h0]
    go_enter Tryz.func46, Tryz.ntmps46
    go_wp2_with fail
    go_ret
    exact ⟨rfl, rfl⟩
  · have he := empty_iff s false (by simp [h0])
    go_enter Tryz.func46, Tryz.ntmps46
    go_wp2_with ((with_reducible refine (c1 _).mono ?_); rintro e w' ⟨rfl, rfl⟩)
    go_ret
    refine ⟨ret_bool ?_, rfl⟩
    rw [Bool.eq_iff_iff]
    simp
    omega
def kindN (l : List UInt8) (i : Nat) : Nat := match l[i]? with
  | none => 0
  | some c => if isLetter c then 1 else if isDigit c then 2 else 0
theorem kind_at (s : ByteArray) (i : Nat) (h : i < s.size) : kindN s.data.toList i = if isLetter s[i] then 1 else if isDigit s[i] then 2 else 0 := by
  have h' : i < s.data.toList.length := by rw [← Lib.size_eq]; exact h
  unfold kindN
  rw [List.getElem?_eq_getElem h']
  rfl
theorem kind_past (s : ByteArray) (i : Nat) (h : ¬ i < s.size) : kindN s.data.toList i = 0 := by
  unfold kindN
  rw [List.getElem?_eq_none (by rw [← Lib.size_eq]; omega)]
set_option maxHeartbeats 1000000 in
theorem rkind_any (s : ByteArray) (i : Nat) (W : World) :
    Calls Tryz.prog 97 #[.string s, .int .i64 (i : Nat)] W fun e w' => e = .returned (.int .i64 (kindN s.data.toList i : Nat)) ∧ w' = W := by
  by_cases h : i < s.size
  · rw [kind_at s i h]
    have hc := (s[i]).toNat_lt
    unfold isLetter isDigit
    generalize hn : s[i].toNat = n at *
    have h0 : ¬ ((s.size : Int) ≤ (i : Int)) := by omega
    go_enter Tryz.func97, Tryz.ntmps97
    go_wp2
    all_goals go_ret
    all_goals refine ⟨ret_int ?_, rfl⟩
    all_goals (simp at *; try omega)
    all_goals ((repeat' split) <;> omega)
  · rw [kind_past s i h]
    have h0 : ((s.size : Int) ≤ (i : Int)) := by omega
    go_enter Tryz.func97, Tryz.ntmps97
    go_wp2
    go_ret
    exact ⟨rfl, rfl⟩
theorem kind_word (s : ByteArray) (i : Nat) (h : i < s.size) : (kindN s.data.toList i ≠ 0 ↔ isOfWord s[i] = true) ∧ (kindN s.data.toList i = 1 ↔ isLetter s[i] = true) ∧ (kindN s.data.toList i = 2 ↔ isDigit s[i] = true) := by
  rw [kind_at s i h]
  have hd : isLetter s[i] = true → isDigit s[i] = false := by
    unfold isLetter isDigit
    intro h
    simp at h ⊢
    omega
  unfold isOfWord
  cases h1 : isLetter s[i] <;> cases h2 : isDigit s[i] <;> simp
  rw [hd h1] at h2
  cases h2
theorem run_drop (p : UInt8 → Bool) (s : ByteArray) (i n : Nat) (h : n < runOf p (s.data.toList.drop i)) : ∃ h : i + n < s.size, p s[i + n] = true := by
  obtain ⟨h1, h2⟩ := runOf_at p (s.data.toList.drop i) n h
  have h3 : i + n < s.size := by rw [List.length_drop, ← Lib.size_eq] at h1; omega
  refine ⟨h3, ?_⟩
  rw [List.getElem_drop] at h2
  exact h2
theorem run_past (p : UInt8 → Bool) (s : ByteArray) (i : Nat) (h : i + runOf p (s.data.toList.drop i) < s.size) : p s[i + runOf p (s.data.toList.drop i)] = false := by
  have h1 := runOf_end p (s.data.toList.drop i) (by rw [List.length_drop, ← Lib.size_eq]; omega)
  rw [List.getElem_drop] at h1
  exact h1
set_option maxHeartbeats 1000000 in
theorem rword_any (s : ByteArray) (hs : s.size ≤ 281474976710656) (i : Nat) (hi : i ≤ s.size) (W : World) :
    Calls Tryz.prog 66 #[.string s, .int .i64 (i : Nat)] W fun e w' => e = .returned (.int .i64 (wordSize (s.data.toList.drop i) : Nat)) ∧ w' = W := by
  have ck := fun i => rkind_any s i
  by_cases h1 : kindN s.data.toList i = 1
  · have hlt : i < s.size := by
      rcases Nat.lt_or_ge i s.size with h | h
      · exact h
      · rw [kind_past s i (by omega)] at h1; cases h1
    have hl := (kind_word s i hlt).2.1.1 h1
    have hw : wordSize (s.data.toList.drop i) = runOf isOfWord (s.data.toList.drop i) := by
      have := cons_of s i hlt
      rw [this]
      simp only [wordSize, if_pos hl]
    rw [hw]
    have hpos : 0 < runOf isOfWord (s.data.toList.drop i) := by
      rw [cons_of s i hlt, runOf_cons, if_pos (by simp [isOfWord, hl])]; omega
    have hle := runOf_le isOfWord (s.data.toList.drop i)
    rw [List.length_drop, ← Lib.size_eq] at hle
    obtain ⟨R, eR⟩ : ∃ R, R = runOf isOfWord (s.data.toList.drop i) := ⟨_, rfl⟩
    rw [← eR] at hpos hle ⊢
    have hin : ∀ n, n < R → kindN s.data.toList (i + n) ≠ 0 := fun n h => by
      obtain ⟨h3, h4⟩ := run_drop isOfWord s i n (by rw [← eR]; exact h)
      exact (kind_word s (i + n) h3).1.2 h4
    have hout : kindN s.data.toList (i + R) = 0 := by
      by_cases h3 : i + R < s.size
      · have h4 := run_past isOfWord s i (by rw [← eR]; exact h3)
        have h5 := (kind_word s (i + R) h3).1
        simp only [← eR] at h4
        rw [h4] at h5
        simpa using h5
      · exact kind_past s _ h3
    have HIN := Lib.hid hin
    have HOUT := Lib.hid hout
    clear hin hout eR hw hl
    have k1 := ck i
    rw [h1] at k1
    go_enter Tryz.func66, Tryz.ntmps66
    go_wp2_with ((with_reducible refine (k1 _).mono ?_); rintro e w' ⟨rfl, rfl⟩)
    go_loop [5] (fun a => ∃ n : Nat, 1 ≤ n ∧ n ≤ R ∧ a = .int .i64 n) (fun a => R - (intOf a).toNat)
    case atStart => exact ⟨1, by omega, by omega, rfl⟩
    case round =>
      obtain ⟨n, hn0, hnR, rfl⟩ := hrel
      have k2 := ck (i + n)
      simp only [Int.natCast_add] at k2
      by_cases hn : n < R
      · have h5 := HIN.out n hn
        generalize kindN s.data.toList (i + n) = q at *
        have hq : ((q : Int) != 0) = true := by simp; omega
        go_wp2_with ((with_reducible refine (k2 _).mono ?_); rintro e w' ⟨rfl, rfl⟩)
        go_round
        case rel => exact ⟨n + 1, by omega, by omega, by go_num⟩
        case measure => simp [intOf]; omega
      · obtain rfl : n = R := by omega
        have h5 := HOUT.out
        generalize kindN s.data.toList (i + n) = q at *
        have hq : ((q : Int) != 0) = false := by simp; omega
        go_wp2_with ((with_reducible refine (k2 _).mono ?_); rintro e w' ⟨rfl, rfl⟩)
        go_ret
        exact ⟨rfl, rfl⟩
  · have k1 := ck i
    have hw : wordSize (s.data.toList.drop i) = 0 := by
      by_cases hlt : i < s.size
      · rw [cons_of s i hlt]
        have := (kind_word s i hlt).2.1
        simp only [wordSize]
        rw [if_neg (fun h => h1 (this.2 h))]
      · rw [List.drop_eq_nil_of_le (by rw [← Lib.size_eq]; omega)]; rfl
    rw [hw]
    generalize kindN s.data.toList i = q at *
    have hq : ((q : Int) != 1) = true := by simp; omega
    go_enter Tryz.func66, Tryz.ntmps66
    go_wp2_with ((with_reducible refine (k1 _).mono ?_); rintro e w' ⟨rfl, rfl⟩)
    go_ret
    exact ⟨rfl, rfl⟩
set_option maxHeartbeats 1000000 in
theorem rWord_any (s : ByteArray) (hs : s.size ≤ 281474976710656) (W : World) :
    Calls Tryz.prog 28 #[.string s] W fun e w' => e = .returned (.bool (decide (0 < s.size) && decide (wordSize s.data.toList = s.size))) ∧ w' = W := by
  have c1 := rword_any s hs 0 (Nat.zero_le _)
  rw [List.drop_zero] at c1
  have c1 : ∀ W : World, Calls Tryz.prog 66 #[.string s, .int .i64 0] W fun e w' => e = .returned (.int .i64 (wordSize s.data.toList : Nat)) ∧ w' = W := c1
  generalize wordSize s.data.toList = n at *
  by_cases h0 : s.size = 0
  · rw [h0]
    have h1 : ¬ ((0 : Int) < (s.size : Int)) := by omega
    go_enter Tryz.func28, Tryz.ntmps28
    go_wp2_with fail
    go_ret
    exact ⟨rfl, rfl⟩
  · have h1 : ((0 : Int) < (s.size : Int)) := by omega
    go_enter Tryz.func28, Tryz.ntmps28
    go_wp2_with ((with_reducible refine (c1 _).mono ?_); rintro e w' ⟨rfl, rfl⟩)
    go_ret
    refine ⟨ret_bool ?_, rfl⟩
    rw [Bool.eq_iff_iff]
    simp
    omega
end Go.Proofs.YtmampoakdjjbiaaGreatDoor
