/- The document's answers of layer 3: piece. -/
import Derived.Test.YtombkcdoeiffiaaDoorLexU
import Derived.Test.YtombkcdoeiffiaaDoorLexD
namespace Go.Proofs.YtombkcdoeiffiaaDoor
open Go.RowKit
set_option linter.unusedVariables false
set_option linter.unusedSimpArgs false

theorem number_numOk (k : Nat) (l : List UInt8) (m e : Nat) : number k l m e = match numOk (l.takeWhile isDigit) with
    | some u => if m < u then .bad 2 else .ok k (l.takeWhile isDigit) (e + runOf isDigit l)
    | none => .bad 2 := by
  have hl : (l.takeWhile isDigit).length = runOf isDigit l := rfl
  have hh : 1 < runOf isDigit l → (l.takeWhile isDigit).head? = l.head? := by
    intro h
    cases l with
    | nil => rfl
    | cons c r =>
      rw [runOf_cons] at h
      split at h
      · rename_i hc; rw [List.takeWhile_cons, if_pos hc]; rfl
      · omega
  unfold number numOk
  rw [hl]
  by_cases h1 : 1 < runOf isDigit l
  · rw [hh h1]
    split
    · rfl
    · split <;> simp_all
  · rw [if_neg (fun h => h1 h.1), if_neg (fun h => h1 h.1)]
    split <;> simp_all
theorem digits_all (l : List UInt8) : ∀ c ∈ l.takeWhile isDigit, isDigit c = true := by
  intro c hc
  rw [← take_runOf] at hc
  obtain ⟨i, hi, rfl⟩ := List.mem_iff_getElem.1 hc
  rw [List.length_take] at hi
  rw [List.getElem_take]
  exact (runOf_at isDigit l i (by omega)).2
def offOf (k : Nat) : Nat := if k = 3 then 1 else if k = 4 then 1 else 0
def pieceV (i : Nat) : Cut → Value
  | .ok k b _ => .tuple #[.int .i64 (k : Nat), .int .i64 ((i : Int) + (offOf k : Nat)), .int .i64 (b.length : Nat), .int .i64 0]
  | .bad e => .tuple #[.int .i64 0, .int .i64 0, .int .i64 0, .int .i64 (e : Nat)]

set_option maxRecDepth 100000 in
set_option maxHeartbeats 4000000 in
theorem piece_any (s : ByteArray) (hs : s.size ≤ 281474976710656) (i : Nat) (hi : i < s.size) (W : World) :
    Calls Tryd.prog 16 #[.string s, .int .i64 (i : Nat)] W fun e w' => e = .returned (pieceV i (first (s.data.toList.drop i))) ∧ w' = W := by
  have hf : first (s.data.toList.drop i) = if s[i].toNat = 10 then .ok 6 [] 1
    else if isMark s[i] then .ok 5 [s[i]] 1
    else if isLetter s[i] then .ok 1 ((s.data.toList.drop i).take (wordSize (s.data.toList.drop i))) (wordSize (s.data.toList.drop i))
    else if isDigit s[i] then number 2 (s.data.toList.drop i) 18446744073709551615 0
    else if s[i].toNat = 37 then number 3 (s.data.toList.drop (i + 1)) 4095 1
    else if s[i].toNat = 64 ∧ 0 < wordSize (s.data.toList.drop (i + 1)) then .ok 4 ((s.data.toList.drop (i + 1)).take (wordSize (s.data.toList.drop (i + 1)))) (1 + wordSize (s.data.toList.drop (i + 1)))
    else .bad 1 := by
    rw [cons_of s i hi]; rfl
  rw [hf]
  clear hf
  have hwl := wordSize_le (s.data.toList.drop i)
  rw [List.length_drop, ← Lib.size_eq] at hwl
  have hwl1 := wordSize_le (s.data.toList.drop (i + 1))
  rw [List.length_drop, ← Lib.size_eq] at hwl1
  have hrl := runOf_le isDigit (s.data.toList.drop i)
  rw [List.length_drop, ← Lib.size_eq] at hrl
  have hrl1 := runOf_le isDigit (s.data.toList.drop (i + 1))
  rw [List.length_drop, ← Lib.size_eq] at hrl1
  have cw := rword_any s hs i (by omega)
  have cd := rdigits_any s hs i (by omega)
  have cw1 := rword_any s hs (i + 1) (by omega)
  have cd1 := rdigits_any s hs (i + 1) (by omega)
  simp only [Int.natCast_add] at cw1 cd1
  have e1 : ((1 : Nat) : Int) = 1 := rfl
  rw [e1] at cw1 cd1
  have ck := rkind_any s i
  rw [kind_at s i hi] at ck
  by_cases h10 : s[i].toNat = 10
  · have hv := h10
    rw [if_pos h10]
    have eV : pieceV i (.ok 6 [] 1) = .tuple #[.int .i64 6, .int .i64 i, .int .i64 0, .int .i64 0] := by simp [pieceV, offOf]
    rw [eV]
    have f10 : ((s[i].toNat : Int) == 10) = true := by rw [hv]; rfl
    go_enter Tryd.func16, Tryd.ntmps16
    go_wp2_with fail
    refine bodyPost_ret (v := .tuple #[.int .i64 6, .int .i64 i, .int .i64 0, .int .i64 0]) (by simp [results, Tryd.results16, go_sem]) rfl ⟨rfl, rfl⟩
  · rw [if_neg h10]
    by_cases hm : isMark s[i] = true
    · rw [if_pos hm]
      have hlen : [s[i]].length = 1 := rfl
      have eV : pieceV i (.ok 5 [s[i]] 1) = .tuple #[.int .i64 5, .int .i64 i, .int .i64 1, .int .i64 0] := by simp [pieceV, offOf]
      rw [eV]
      have hm5 : s[i].toNat = 61 ∨ s[i].toNat = 44 ∨ s[i].toNat = 40 ∨ s[i].toNat = 41 ∨ s[i].toNat = 58 := by
        unfold isMark at hm; simp at hm; omega
      rcases hm5 with hv | hv | hv | hv | hv
      · have f10 : ((s[i].toNat : Int) == 10) = false := beq_false_of_ne (by omega)
        have f61 : ((s[i].toNat : Int) == 61) = true := by rw [hv]; rfl
        have f44 : ((s[i].toNat : Int) == 44) = false := beq_false_of_ne (by omega)
        have f40 : ((s[i].toNat : Int) == 40) = false := beq_false_of_ne (by omega)
        have f41 : ((s[i].toNat : Int) == 41) = false := beq_false_of_ne (by omega)
        have f58 : ((s[i].toNat : Int) == 58) = false := beq_false_of_ne (by omega)
        go_enter Tryd.func16, Tryd.ntmps16
        go_wp2_with fail
        refine bodyPost_ret (v := .tuple #[.int .i64 5, .int .i64 i, .int .i64 1, .int .i64 0]) (by simp [results, Tryd.results16, go_sem]) rfl ⟨rfl, rfl⟩
      · have f10 : ((s[i].toNat : Int) == 10) = false := beq_false_of_ne (by omega)
        have f61 : ((s[i].toNat : Int) == 61) = false := beq_false_of_ne (by omega)
        have f44 : ((s[i].toNat : Int) == 44) = true := by rw [hv]; rfl
        have f40 : ((s[i].toNat : Int) == 40) = false := beq_false_of_ne (by omega)
        have f41 : ((s[i].toNat : Int) == 41) = false := beq_false_of_ne (by omega)
        have f58 : ((s[i].toNat : Int) == 58) = false := beq_false_of_ne (by omega)
        go_enter Tryd.func16, Tryd.ntmps16
        go_wp2_with fail
        refine bodyPost_ret (v := .tuple #[.int .i64 5, .int .i64 i, .int .i64 1, .int .i64 0]) (by simp [results, Tryd.results16, go_sem]) rfl ⟨rfl, rfl⟩
      · have f10 : ((s[i].toNat : Int) == 10) = false := beq_false_of_ne (by omega)
        have f61 : ((s[i].toNat : Int) == 61) = false := beq_false_of_ne (by omega)
        have f44 : ((s[i].toNat : Int) == 44) = false := beq_false_of_ne (by omega)
        have f40 : ((s[i].toNat : Int) == 40) = true := by rw [hv]; rfl
        have f41 : ((s[i].toNat : Int) == 41) = false := beq_false_of_ne (by omega)
        have f58 : ((s[i].toNat : Int) == 58) = false := beq_false_of_ne (by omega)
        go_enter Tryd.func16, Tryd.ntmps16
        go_wp2_with fail
        refine bodyPost_ret (v := .tuple #[.int .i64 5, .int .i64 i, .int .i64 1, .int .i64 0]) (by simp [results, Tryd.results16, go_sem]) rfl ⟨rfl, rfl⟩
      · have f10 : ((s[i].toNat : Int) == 10) = false := beq_false_of_ne (by omega)
        have f61 : ((s[i].toNat : Int) == 61) = false := beq_false_of_ne (by omega)
        have f44 : ((s[i].toNat : Int) == 44) = false := beq_false_of_ne (by omega)
        have f40 : ((s[i].toNat : Int) == 40) = false := beq_false_of_ne (by omega)
        have f41 : ((s[i].toNat : Int) == 41) = true := by rw [hv]; rfl
        have f58 : ((s[i].toNat : Int) == 58) = false := beq_false_of_ne (by omega)
        go_enter Tryd.func16, Tryd.ntmps16
        go_wp2_with fail
        refine bodyPost_ret (v := .tuple #[.int .i64 5, .int .i64 i, .int .i64 1, .int .i64 0]) (by simp [results, Tryd.results16, go_sem]) rfl ⟨rfl, rfl⟩
      · have f10 : ((s[i].toNat : Int) == 10) = false := beq_false_of_ne (by omega)
        have f61 : ((s[i].toNat : Int) == 61) = false := beq_false_of_ne (by omega)
        have f44 : ((s[i].toNat : Int) == 44) = false := beq_false_of_ne (by omega)
        have f40 : ((s[i].toNat : Int) == 40) = false := beq_false_of_ne (by omega)
        have f41 : ((s[i].toNat : Int) == 41) = false := beq_false_of_ne (by omega)
        have f58 : ((s[i].toNat : Int) == 58) = true := by rw [hv]; rfl
        go_enter Tryd.func16, Tryd.ntmps16
        go_wp2_with fail
        refine bodyPost_ret (v := .tuple #[.int .i64 5, .int .i64 i, .int .i64 1, .int .i64 0]) (by simp [results, Tryd.results16, go_sem]) rfl ⟨rfl, rfl⟩
    · rw [if_neg hm]
      have hm0 : s[i].toNat ≠ 61 ∧ s[i].toNat ≠ 44 ∧ s[i].toNat ≠ 40 ∧ s[i].toNat ≠ 41 ∧ s[i].toNat ≠ 58 := by
        unfold isMark at hm; simp at hm; omega
      by_cases hl : isLetter s[i] = true
      · rw [if_pos hl]
        rw [if_pos hl] at ck
        have hlr : s[i].toNat ≠ 37 ∧ s[i].toNat ≠ 64 := by unfold isLetter at hl; simp at hl; omega
        have eV : pieceV i (.ok 1 ((s.data.toList.drop i).take (wordSize (s.data.toList.drop i))) (wordSize (s.data.toList.drop i))) = .tuple #[.int .i64 1, .int .i64 i, .int .i64 (wordSize (s.data.toList.drop i) : Nat), .int .i64 0] := by
          have : ((s.data.toList.drop i).take (wordSize (s.data.toList.drop i))).length = wordSize (s.data.toList.drop i) := by rw [List.length_take, List.length_drop, ← Lib.size_eq]; omega
          simp [pieceV, offOf, this]
        rw [eV]
        have f10 : ((s[i].toNat : Int) == 10) = false := beq_false_of_ne (by omega)
        have f61 : ((s[i].toNat : Int) == 61) = false := beq_false_of_ne (by omega)
        have f44 : ((s[i].toNat : Int) == 44) = false := beq_false_of_ne (by omega)
        have f40 : ((s[i].toNat : Int) == 40) = false := beq_false_of_ne (by omega)
        have f41 : ((s[i].toNat : Int) == 41) = false := beq_false_of_ne (by omega)
        have f58 : ((s[i].toNat : Int) == 58) = false := beq_false_of_ne (by omega)
        have f37 : ((s[i].toNat : Int) == 37) = false := beq_false_of_ne (by omega)
        have f64 : ((s[i].toNat : Int) == 64) = false := beq_false_of_ne (by omega)
        clear cd cw1 cd1 hm hl h10 hm0 hlr
        generalize wordSize (s.data.toList.drop i) = n at *
        go_enter Tryd.func16, Tryd.ntmps16
        go_wp2_with (first
          | ((with_reducible refine (ck _).mono ?_); rintro e w' ⟨rfl, rfl⟩)
          | ((with_reducible refine (cw _).mono ?_); rintro e w' ⟨rfl, rfl⟩))
        refine bodyPost_ret (v := .tuple #[.int .i64 1, .int .i64 i, .int .i64 (n : Nat), .int .i64 0]) (by simp [results, Tryd.results16, go_sem]) rfl ⟨rfl, rfl⟩
      · rw [if_neg hl]
        rw [if_neg hl] at ck
        by_cases hd : isDigit s[i] = true
        · rw [if_pos hd]
          rw [if_pos hd] at ck
          have hlr : s[i].toNat ≠ 37 ∧ s[i].toNat ≠ 64 := by unfold isDigit at hd; simp at hd; omega
          have hda : (s.extract i (i + runOf isDigit (s.data.toList.drop i))).data.toList = (s.data.toList.drop i).takeWhile isDigit := by rw [mid_data, Nat.add_sub_cancel_left, take_runOf]
          have cN := Number_any (s.extract i (i + runOf isDigit (s.data.toList.drop i))) (by rw [mid_size s _ _ (by omega)]; omega) (by rw [hda]; exact digits_all _)
          rw [hda] at cN
          rw [number_numOk]
          have hdl : ((s.data.toList.drop i).takeWhile isDigit).length = runOf isDigit (s.data.toList.drop i) := rfl
          have hbig : ∀ u, numOk ((s.data.toList.drop i).takeWhile isDigit) = some u → ¬ 18446744073709551615 < u := by
            intro u hu
            unfold numOk at hu
            split at hu
            · cases hu
            · split at hu
              · rename_i hp; injection hu with hu; subst hu
                rw [Lib.parseUintB_64] at hp
                have := Lib.parseMag_lt hp
                omega
              · cases hu
          have f10 : ((s[i].toNat : Int) == 10) = false := beq_false_of_ne (by omega)
          have f61 : ((s[i].toNat : Int) == 61) = false := beq_false_of_ne (by omega)
          have f44 : ((s[i].toNat : Int) == 44) = false := beq_false_of_ne (by omega)
          have f40 : ((s[i].toNat : Int) == 40) = false := beq_false_of_ne (by omega)
          have f41 : ((s[i].toNat : Int) == 41) = false := beq_false_of_ne (by omega)
          have f58 : ((s[i].toNat : Int) == 58) = false := beq_false_of_ne (by omega)
          have f37 : ((s[i].toNat : Int) == 37) = false := beq_false_of_ne (by omega)
          have f64 : ((s[i].toNat : Int) == 64) = false := beq_false_of_ne (by omega)
          clear cw cw1 cd1 hm hl h10 hm0 hlr hda
          generalize (s.data.toList.drop i).takeWhile isDigit = D at *
          generalize runOf isDigit (s.data.toList.drop i) = n at *
          cases hq : numOk D with
          | some u =>
            rw [hq] at cN
            dsimp only
            rw [if_neg (hbig u hq)]
            unfold numV at cN
            have eV : pieceV i (.ok 2 D (0 + n)) = .tuple #[.int .i64 2, .int .i64 i, .int .i64 (n : Nat), .int .i64 0] := by simp [pieceV, offOf, hdl]
            rw [eV]
            go_enter Tryd.func16, Tryd.ntmps16
            go_wp2_with (first
              | ((with_reducible refine (ck _).mono ?_); rintro e w' ⟨rfl, rfl⟩)
              | ((with_reducible refine (cd _).mono ?_); rintro e w' ⟨rfl, rfl⟩)
              | ((with_reducible refine (cN _).mono ?_); rintro e w' ⟨rfl, rfl⟩))
            refine bodyPost_ret (v := .tuple #[.int .i64 2, .int .i64 i, .int .i64 (n : Nat), .int .i64 0]) (by simp [results, Tryd.results16, go_sem]) rfl ⟨rfl, rfl⟩
          | none =>
            rw [hq] at cN
            dsimp only
            unfold numV at cN
            have eV : pieceV i (.bad 2) = .tuple #[.int .i64 0, .int .i64 0, .int .i64 0, .int .i64 2] := rfl
            rw [eV]
            go_enter Tryd.func16, Tryd.ntmps16
            go_wp2_with (first
              | ((with_reducible refine (ck _).mono ?_); rintro e w' ⟨rfl, rfl⟩)
              | ((with_reducible refine (cd _).mono ?_); rintro e w' ⟨rfl, rfl⟩)
              | ((with_reducible refine (cN _).mono ?_); rintro e w' ⟨rfl, rfl⟩))
            refine bodyPost_ret (v := .tuple #[.int .i64 0, .int .i64 0, .int .i64 0, .int .i64 2]) (by simp [results, Tryd.results16, go_sem]) rfl ⟨rfl, rfl⟩
        · rw [if_neg hd]
          rw [if_neg hd] at ck
          by_cases h37 : s[i].toNat = 37
          · have hv := h37
            rw [if_pos h37]
            have hda : (s.extract (i + 1) (i + 1 + runOf isDigit (s.data.toList.drop (i + 1)))).data.toList = (s.data.toList.drop (i + 1)).takeWhile isDigit := by rw [mid_data, Nat.add_sub_cancel_left, take_runOf]
            have cN := Number_any (s.extract (i + 1) (i + 1 + runOf isDigit (s.data.toList.drop (i + 1)))) (by rw [mid_size s _ _ (by omega)]; omega) (by rw [hda]; exact digits_all _)
            rw [hda] at cN
            rw [number_numOk]
            have hdl : ((s.data.toList.drop (i + 1)).takeWhile isDigit).length = runOf isDigit (s.data.toList.drop (i + 1)) := rfl
            have f10 : ((s[i].toNat : Int) == 10) = false := beq_false_of_ne (by omega)
            have f61 : ((s[i].toNat : Int) == 61) = false := beq_false_of_ne (by omega)
            have f44 : ((s[i].toNat : Int) == 44) = false := beq_false_of_ne (by omega)
            have f40 : ((s[i].toNat : Int) == 40) = false := beq_false_of_ne (by omega)
            have f41 : ((s[i].toNat : Int) == 41) = false := beq_false_of_ne (by omega)
            have f58 : ((s[i].toNat : Int) == 58) = false := beq_false_of_ne (by omega)
            have f37 : ((s[i].toNat : Int) == 37) = true := by rw [hv]; rfl
            have f64 : ((s[i].toNat : Int) == 64) = false := beq_false_of_ne (by omega)
            clear cw cw1 cd hm hl h10 hm0 hda ck hd
            generalize (s.data.toList.drop (i + 1)).takeWhile isDigit = D at *
            generalize runOf isDigit (s.data.toList.drop (i + 1)) = n at *
            cases hq : numOk D with
            | some u =>
              rw [hq] at cN
              dsimp only
              unfold numV at cN
              by_cases hu : 4095 < u
              · have fu : (4095 : Int) < (u : Int) := by omega
                rw [if_pos hu]
                have eV : pieceV i (.bad 2) = .tuple #[.int .i64 0, .int .i64 0, .int .i64 0, .int .i64 2] := rfl
                rw [eV]
                go_enter Tryd.func16, Tryd.ntmps16
                go_wp2_with (first
                  | ((with_reducible refine (cd1 _).mono ?_); rintro e w' ⟨rfl, rfl⟩)
                  | ((with_reducible refine (cN _).mono ?_); rintro e w' ⟨rfl, rfl⟩))
                refine bodyPost_ret (v := .tuple #[.int .i64 0, .int .i64 0, .int .i64 0, .int .i64 2]) (by simp [results, Tryd.results16, go_sem]) rfl ⟨rfl, rfl⟩
              · have fu : decide ((4095 : Int) < (u : Int)) = false := by simp; omega
                rw [if_neg hu]
                have eV : pieceV i (.ok 3 D (1 + n)) = .tuple #[.int .i64 3, .int .i64 ((i : Int) + 1), .int .i64 (n : Nat), .int .i64 0] := by simp [pieceV, offOf, hdl]
                rw [eV]
                go_enter Tryd.func16, Tryd.ntmps16
                go_wp2_with (first
                  | ((with_reducible refine (cd1 _).mono ?_); rintro e w' ⟨rfl, rfl⟩)
                  | ((with_reducible refine (cN _).mono ?_); rintro e w' ⟨rfl, rfl⟩))
                refine bodyPost_ret (v := .tuple #[.int .i64 3, .int .i64 ((i : Int) + 1), .int .i64 (n : Nat), .int .i64 0]) (by simp [results, Tryd.results16, go_sem]) rfl ⟨rfl, rfl⟩
            | none =>
              rw [hq] at cN
              dsimp only
              unfold numV at cN
              have eV : pieceV i (.bad 2) = .tuple #[.int .i64 0, .int .i64 0, .int .i64 0, .int .i64 2] := rfl
              rw [eV]
              go_enter Tryd.func16, Tryd.ntmps16
              go_wp2_with (first
                | ((with_reducible refine (cd1 _).mono ?_); rintro e w' ⟨rfl, rfl⟩)
                | ((with_reducible refine (cN _).mono ?_); rintro e w' ⟨rfl, rfl⟩))
              refine bodyPost_ret (v := .tuple #[.int .i64 0, .int .i64 0, .int .i64 0, .int .i64 2]) (by simp [results, Tryd.results16, go_sem]) rfl ⟨rfl, rfl⟩
          · rw [if_neg h37]
            by_cases h64 : s[i].toNat = 64
            · have hv := h64
              have f10 : ((s[i].toNat : Int) == 10) = false := beq_false_of_ne (by omega)
              have f61 : ((s[i].toNat : Int) == 61) = false := beq_false_of_ne (by omega)
              have f44 : ((s[i].toNat : Int) == 44) = false := beq_false_of_ne (by omega)
              have f40 : ((s[i].toNat : Int) == 40) = false := beq_false_of_ne (by omega)
              have f41 : ((s[i].toNat : Int) == 41) = false := beq_false_of_ne (by omega)
              have f58 : ((s[i].toNat : Int) == 58) = false := beq_false_of_ne (by omega)
              have f37 : ((s[i].toNat : Int) == 37) = false := beq_false_of_ne (by omega)
              have f64 : ((s[i].toNat : Int) == 64) = true := by rw [hv]; rfl
              by_cases hw : 0 < wordSize (s.data.toList.drop (i + 1))
              · rw [if_pos ⟨h64, hw⟩]
                have eV : pieceV i (.ok 4 ((s.data.toList.drop (i + 1)).take (wordSize (s.data.toList.drop (i + 1)))) (1 + wordSize (s.data.toList.drop (i + 1)))) = .tuple #[.int .i64 4, .int .i64 ((i : Int) + 1), .int .i64 (wordSize (s.data.toList.drop (i + 1)) : Nat), .int .i64 0] := by
                  have : ((s.data.toList.drop (i + 1)).take (wordSize (s.data.toList.drop (i + 1)))).length = wordSize (s.data.toList.drop (i + 1)) := by rw [List.length_take, List.length_drop, ← Lib.size_eq]; omega
                  simp only [pieceV, offOf, this]
                  rfl
                rw [eV]
                clear cw cd cd1 hm hl h10 hm0 ck hd
                generalize wordSize (s.data.toList.drop (i + 1)) = n at *
                have fn : ((n : Int) == 0) = false := beq_false_of_ne (by omega)
                go_enter Tryd.func16, Tryd.ntmps16
                go_wp2_with (first
                  | ((with_reducible refine (cw1 _).mono ?_); rintro e w' ⟨rfl, rfl⟩))
                refine bodyPost_ret (v := .tuple #[.int .i64 4, .int .i64 ((i : Int) + 1), .int .i64 (n : Nat), .int .i64 0]) (by simp [results, Tryd.results16, go_sem]) rfl ⟨rfl, rfl⟩
              · rw [if_neg (fun h => hw h.2)]
                have eV : pieceV i (.bad 1) = .tuple #[.int .i64 0, .int .i64 0, .int .i64 0, .int .i64 1] := rfl
                rw [eV]
                have hw0 : wordSize (s.data.toList.drop (i + 1)) = 0 := by omega
                rw [hw0] at cw1
                have cw2 : ∀ W : World, Calls Tryd.prog 18 #[.string s, .int .i64 ((i : Int) + 1)] W fun e w' => e = .returned (.int .i64 0) ∧ w' = W := cw1
                clear cw cd cd1 hm hl h10 hm0 ck hd cw1 hw hw0
                go_enter Tryd.func16, Tryd.ntmps16
                go_wp2_with (first
                  | ((with_reducible refine (cw2 _).mono ?_); rintro e w' ⟨rfl, rfl⟩))
                refine bodyPost_ret (v := .tuple #[.int .i64 0, .int .i64 0, .int .i64 0, .int .i64 1]) (by simp [results, Tryd.results16, go_sem]) rfl ⟨rfl, rfl⟩
            · rw [if_neg (fun h => h64 h.1)]
              have eV : pieceV i (.bad 1) = .tuple #[.int .i64 0, .int .i64 0, .int .i64 0, .int .i64 1] := rfl
              rw [eV]
              have f10 : ((s[i].toNat : Int) == 10) = false := beq_false_of_ne (by omega)
              have f61 : ((s[i].toNat : Int) == 61) = false := beq_false_of_ne (by omega)
              have f44 : ((s[i].toNat : Int) == 44) = false := beq_false_of_ne (by omega)
              have f40 : ((s[i].toNat : Int) == 40) = false := beq_false_of_ne (by omega)
              have f41 : ((s[i].toNat : Int) == 41) = false := beq_false_of_ne (by omega)
              have f58 : ((s[i].toNat : Int) == 58) = false := beq_false_of_ne (by omega)
              have f37 : ((s[i].toNat : Int) == 37) = false := beq_false_of_ne (by omega)
              have f64 : ((s[i].toNat : Int) == 64) = false := beq_false_of_ne (by omega)
              clear cw cd cd1 cw1 hm hl hd
              go_enter Tryd.func16, Tryd.ntmps16
              go_wp2_with (first
                | ((with_reducible refine (ck _).mono ?_); rintro e w' ⟨rfl, rfl⟩))
              refine bodyPost_ret (v := .tuple #[.int .i64 0, .int .i64 0, .int .i64 0, .int .i64 1]) (by simp [results, Tryd.results16, go_sem]) rfl ⟨rfl, rfl⟩
end Go.Proofs.YtombkcdoeiffiaaDoor
