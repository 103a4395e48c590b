/- Package lex: first. -/
import Derived.Test.YtombkcdoeiffiaaDoorLexC
namespace Go.Proofs.YtombkcdoeiffiaaDoor
open Go.RowKit
set_option linter.unusedVariables false
set_option linter.unusedSimpArgs false

theorem upto_data (s : ByteArray) (a : Nat) : (s.extract 0 a).data.toList = s.data.toList.take a := by rw [Lib.extract_data]; simp
theorem upto_size (s : ByteArray) (a : Nat) (h : a ≤ s.size) : (s.extract 0 a).size = a := by
  rw [Lib.size_eq, upto_data, List.length_take, ← Lib.size_eq, Nat.min_eq_left h]
theorem mid_data (s : ByteArray) (a b : Nat) : (s.extract a b).data.toList = (s.data.toList.drop a).take (b - a) := by
  rw [Lib.extract_data]
theorem mid_size (s : ByteArray) (a b : Nat) (h : b ≤ s.size) : (s.extract a b).size = b - a := by
  rw [Lib.size_eq, mid_data, List.length_take, List.length_drop, ← Lib.size_eq, Nat.min_eq_left (by omega)]
theorem Past.set4 {B : Nat} {W w : World} {c : Nat} (h : Past B W w) (hc : B ≤ c) (v0 v1 v2 v3 : Value) : Past B W ((((w.setCell ⟨c, 0, none⟩ v0).setCell ⟨c, 1, none⟩ v1).setCell ⟨c, 2, none⟩ v2).setCell ⟨c, 3, none⟩ v3) :=
  (((h.set (a := ⟨c, 0, none⟩) hc _).set (a := ⟨c, 1, none⟩) hc _).set (a := ⟨c, 2, none⟩) hc _).set (a := ⟨c, 3, none⟩) hc _

/-- What first hands back: beside an error the size means nothing. -/
def cutW (x : Nat) : Cut → Value
  | .ok k b s => .tuple #[tokV k b 0 0, .int .i64 s, .int .i64 0]
  | .bad c => .tuple #[tokV 0 [] 0 0, .int .i64 x, .int .i64 c]
theorem Four.set4 {c : Nat} {v0 v1 v2 v3 : Value} {w : World} (h : Four c v0 v1 v2 v3 w) (u0 u1 u2 u3 : Value) : Four c u0 u1 u2 u3 ((((w.setCell ⟨c, 0, none⟩ u0).setCell ⟨c, 1, none⟩ u1).setCell ⟨c, 2, none⟩ u2).setCell ⟨c, 3, none⟩ u3) := by
  obtain ⟨z, y0, y1, y2, y3, f0, f1, f2, f3⟩ := h
  refine ⟨by simpa [World.setCell] using z, ?_, ?_, ?_, ?_, ?_, ?_, ?_, ?_⟩ <;> simp [World.frozen?_setCell, go_sem, y0, y1, y2, y3, f0, f1, f2, f3]
theorem Four.alloc {c : Nat} {v0 v1 v2 v3 : Value} {w : World} (h : Four c v0 v1 v2 v3 w) (o : Obj) : Four c v0 v1 v2 v3 (w.alloc o) :=
  h.below ((Below.refl w.heap.size w).alloc (Nat.le_refl _) o) h.1
theorem number2 (s : ByteArray) (hs : s.size ≤ 281474976710656) (W : World) (hE : Errs W) :
    Calls Tryd.prog 26 #[.int .i64 2, .string s, .int .u64 18446744073709551615] W fun e w' => e = .returned (cutV (number 2 s.data.toList 18446744073709551615 0)) ∧ Below W.heap.size W w' :=
  number_any 2 s 18446744073709551615 hs (by omega) W hE
theorem number3 (s : ByteArray) (hs : s.size ≤ 281474976710656) (W : World) (hE : Errs W) :
    Calls Tryd.prog 26 #[.int .i64 3, .string s, .int .u64 4095] W fun e w' => e = .returned (cutV (number 3 s.data.toList 4095 0)) ∧ Below W.heap.size W w' :=
  number_any 3 s 4095 hs (by omega) W hE
set_option maxRecDepth 100000 in
set_option maxHeartbeats 4000000 in
theorem first_any (s : ByteArray) (h0 : 0 < s.size) (hs : s.size ≤ 281474976710656) (W : World) (hE : Errs W) :
    Calls Tryd.prog 15 #[.string s] W fun e w' => (∃ x : Nat, e = .returned (cutW x (first s.data.toList))) ∧ Below W.heap.size W w' := by
  have hl := cons_of s 0 h0
  rw [List.drop_zero] at hl
  have cm := isMark_any s[0]
  have cl := isLetter_any s[0]
  have cd := isDigit_any s[0]
  have hP := Past.refl (Nat.le_refl W.heap.size)
  have hE1 : ∀ v t, Errs (W.alloc (.cells v t)) := fun v t => hE.below (((Past.refl (Nat.le_refl _)).alloc _).2) (Nat.le_refl _)
  have hf : ∀ l (h : l = s[0] :: s.data.toList.drop 1), first l = if s[0].toNat = 10 then .ok 6 [] 1
    else if isMark s[0] then .ok 5 [s[0]] 1
    else if isLetter s[0] then .ok 1 (l.take (wordSize l)) (wordSize l)
    else if isDigit s[0] then number 2 l 18446744073709551615 0
    else if s[0].toNat = 37 then number 3 (l.drop 1) 4095 1
    else if s[0].toNat = 64 ∧ 0 < wordSize (l.drop 1) then .ok 4 ((l.drop 1).take (wordSize (l.drop 1))) (1 + wordSize (l.drop 1))
    else .bad 1 := fun l h => by subst h; rfl
  rw [hf _ hl]
  clear hf
  by_cases h10 : s[0].toNat = 10
  · have k10 : ((s[0].toNat : Int) == 10) = true := by rw [h10]; rfl
    rw [if_pos h10]
    have eV : ∀ x : Nat, cutW x (.ok 6 [] 1) = .tuple #[.agg #[.int .i64 6, .string ⟨#[]⟩, .int .i64 0, .int .i64 0], .int .i64 1, .int .i64 0] := fun _ => rfl
    simp only [eV]
    go_enter Tryd.func15, Tryd.ntmps15
    go_wp2_with fail
    refine bodyPost_ret (v := .tuple #[.agg #[.int .i64 6, .string ⟨#[]⟩, .int .i64 0, .int .i64 0], .int .i64 1, .int .i64 0]) (by simp [results, Tryd.results15, go_sem]) rfl ⟨⟨0, rfl⟩, (hP.alloc _).2⟩
  · have k10 : ((s[0].toNat : Int) == 10) = false := by simp; omega
    rw [if_neg h10]
    clear h10
    cases hm : isMark s[0] with
    | true =>
      rw [hm] at cm
      rw [if_pos rfl]
      have c1 := token_any 5 (s.extract 0 1) (by rw [upto_size s 1 h0]; omega)
      have h1 : (1 : Int) ≤ (s.size : Int) := by omega
      have e1 : str [s[0]] = s.extract 0 1 := (str_of _ _ (by rw [upto_data, hl]; rfl)).symm
      have eV : ∀ x : Nat, cutW x (.ok 5 [s[0]] 1) = .tuple #[.agg #[.int .i64 5, .string (s.extract 0 1), .int .i64 0, .int .i64 0], .int .i64 1, .int .i64 0] := fun _ => by rw [cutW, tokV, e1]; rfl
      simp only [eV]
      go_enter Tryd.func15, Tryd.ntmps15
      go_wp2_with (first
        | ((with_reducible refine (cm _).mono ?_); rintro e w' ⟨rfl, rfl⟩)
        | ((with_reducible refine (c1 _).mono ?_); rintro e w1 ⟨rfl, hb1⟩; obtain ⟨z, y0, y1, y2, y3, f0, f1, f2, f3⟩ := Four.kept hb1))
      refine bodyPost_ret (v := .tuple #[.agg #[.int .i64 5, .string (s.extract 0 1), .int .i64 0, .int .i64 0], .int .i64 1, .int .i64 0]) (by simp [results, Tryd.results15, go_sem, y0, y1, y2, y3]) rfl ⟨⟨0, rfl⟩, (((hP.alloc _).on hb1).set4 (Nat.le_refl _) _ _ _ _).2⟩
    | false =>
      rw [hm] at cm
      rw [if_neg (by simp)]
      cases hlt : isLetter s[0] with
      | true =>
        rw [hlt] at cl
        rw [if_pos rfl]
        have cw := wordSize_any s (by omega)
        have hw := wordSize_le s.data.toList
        rw [← Lib.size_eq] at hw
        have hd2 := upto_data s (wordSize s.data.toList)
        rw [← hd2]
        generalize wordSize s.data.toList = n at *
        have c1 := token_any 1 (s.extract 0 n) (by rw [upto_size s n hw]; omega)
        have h1 : (n : Int) ≤ (s.size : Int) := by omega
        have eV : ∀ x : Nat, cutW x (.ok 1 (s.extract 0 n).data.toList n) = .tuple #[.agg #[.int .i64 1, .string (s.extract 0 n), .int .i64 0, .int .i64 0], .int .i64 n, .int .i64 0] := fun _ => by rw [cutW, tokV, str_data]; rfl
        simp only [eV]
        go_enter Tryd.func15, Tryd.ntmps15
        go_wp2_with (first
          | ((with_reducible refine (cm _).mono ?_); rintro e w' ⟨rfl, rfl⟩)
          | ((with_reducible refine (cl _).mono ?_); rintro e w' ⟨rfl, rfl⟩)
          | ((with_reducible refine (cw _).mono ?_); rintro e w' ⟨rfl, rfl⟩)
          | ((with_reducible refine (c1 _).mono ?_); rintro e w1 ⟨rfl, hb1⟩; obtain ⟨z, y0, y1, y2, y3, f0, f1, f2, f3⟩ := Four.kept hb1))
        refine bodyPost_ret (v := .tuple #[.agg #[.int .i64 1, .string (s.extract 0 n), .int .i64 0, .int .i64 0], .int .i64 n, .int .i64 0]) (by simp [results, Tryd.results15, go_sem, y0, y1, y2, y3]) rfl ⟨⟨0, rfl⟩, (((hP.alloc _).on hb1).set4 (Nat.le_refl _) _ _ _ _).2⟩
      | false =>
        rw [hlt] at cl
        rw [if_neg (by simp)]
        cases hdg : isDigit s[0] with
        | true =>
          rw [hdg] at cd
          rw [if_pos rfl]
          have cn := number2 s hs _ (hE1 #[.int .i64 0, .string ⟨#[]⟩, .int .i64 0, .int .i64 0] 33)
          cases hq : number 2 s.data.toList 18446744073709551615 0 with
          | ok k b z =>
            rw [hq] at cn
            have eN : cutV (.ok k b z) = .tuple #[.agg #[.int .i64 k, .string (str b), .int .i64 0, .int .i64 0], .int .i64 z, .int .i64 0] := rfl
            have eV : ∀ x : Nat, cutW x (.ok k b z) = .tuple #[.agg #[.int .i64 k, .string (str b), .int .i64 0, .int .i64 0], .int .i64 z, .int .i64 0] := fun _ => rfl
            rw [eN] at cn
            simp only [eV]
            go_enter Tryd.func15, Tryd.ntmps15
            go_wp2_with (first
              | ((with_reducible refine (cm _).mono ?_); rintro e w' ⟨rfl, rfl⟩)
              | ((with_reducible refine (cl _).mono ?_); rintro e w' ⟨rfl, rfl⟩)
              | ((with_reducible refine (cd _).mono ?_); rintro e w' ⟨rfl, rfl⟩)
              | ((with_reducible refine cn.mono ?_); rintro e w1 ⟨rfl, hb1⟩; obtain ⟨zz, y0, y1, y2, y3, f0, f1, f2, f3⟩ := Four.kept hb1))
            refine bodyPost_ret (v := .tuple #[.agg #[.int .i64 k, .string (str b), .int .i64 0, .int .i64 0], .int .i64 z, .int .i64 0]) (by simp [results, Tryd.results15, go_sem, y0, y1, y2, y3]) rfl ⟨⟨0, rfl⟩, (((hP.alloc _).on hb1).set4 (Nat.le_refl _) _ _ _ _).2⟩
          | bad c =>
            rw [hq] at cn
            have eN : cutV (.bad c) = .tuple #[.agg #[.int .i64 0, .string ⟨#[]⟩, .int .i64 0, .int .i64 0], .int .i64 0, .int .i64 c] := rfl
            have eV : ∀ x : Nat, cutW x (.bad c) = .tuple #[.agg #[.int .i64 0, .string ⟨#[]⟩, .int .i64 0, .int .i64 0], .int .i64 (x : Nat), .int .i64 c] := fun _ => rfl
            rw [eN] at cn
            simp only [eV]
            go_enter Tryd.func15, Tryd.ntmps15
            go_wp2_with (first
              | ((with_reducible refine (cm _).mono ?_); rintro e w' ⟨rfl, rfl⟩)
              | ((with_reducible refine (cl _).mono ?_); rintro e w' ⟨rfl, rfl⟩)
              | ((with_reducible refine (cd _).mono ?_); rintro e w' ⟨rfl, rfl⟩)
              | ((with_reducible refine cn.mono ?_); rintro e w1 ⟨rfl, hb1⟩; obtain ⟨zz, y0, y1, y2, y3, f0, f1, f2, f3⟩ := Four.kept hb1))
            refine bodyPost_ret (v := .tuple #[.agg #[.int .i64 0, .string (⟨#[]⟩), .int .i64 0, .int .i64 0], .int .i64 0, .int .i64 c]) (by simp [results, Tryd.results15, go_sem, y0, y1, y2, y3]) rfl ⟨⟨0, rfl⟩, (((hP.alloc _).on hb1).set4 (Nat.le_refl _) _ _ _ _).2⟩
        | false =>
          rw [hdg] at cd
          rw [if_neg (by simp)]
          by_cases h37 : s[0].toNat = 37
          · have k37 : ((s[0].toNat : Int) == 37) = true := by rw [h37]; rfl
            rw [if_pos h37]
            clear h37
            have hd2 := from_data s 1
            rw [← hd2, number_pass]
            have cn := number3 (s.extract 1 s.size) (by rw [from_size]; omega) _ (hE1 #[.int .i64 0, .string ⟨#[]⟩, .int .i64 0, .int .i64 0] 33)
            cases hq : number 3 (s.extract 1 s.size).data.toList 4095 0 with
            | ok k b z =>
              have hz := (number_size hq).2.2.1
              have hr := runOf_le isDigit (s.extract 1 s.size).data.toList
              rw [← Lib.size_eq, from_size] at hr
              have hzb : z ≤ 281474976710656 := by omega
              clear hr hz
              rw [hq] at cn
              have eN : cutV (.ok k b z) = .tuple #[.agg #[.int .i64 k, .string (str b), .int .i64 0, .int .i64 0], .int .i64 z, .int .i64 0] := rfl
              have eV : ∀ x : Nat, cutW x (.ok k b z) = .tuple #[.agg #[.int .i64 k, .string (str b), .int .i64 0, .int .i64 0], .int .i64 z, .int .i64 0] := fun _ => rfl
              have eV2 : ∀ x : Nat, cutW x (.ok k b (1 + z)) = .tuple #[.agg #[.int .i64 k, .string (str b), .int .i64 0, .int .i64 0], .int .i64 (1 + (z : Int)), .int .i64 0] := fun _ => by simp [cutW, tokV]
              rw [eN] at cn
              dsimp only
              simp only [eV2]
              go_enter Tryd.func15, Tryd.ntmps15
              go_wp2_with (first
                | ((with_reducible refine (cm _).mono ?_); rintro e w' ⟨rfl, rfl⟩)
                | ((with_reducible refine (cl _).mono ?_); rintro e w' ⟨rfl, rfl⟩)
                | ((with_reducible refine (cd _).mono ?_); rintro e w' ⟨rfl, rfl⟩)
                | ((with_reducible refine cn.mono ?_); rintro e w1 ⟨rfl, hb1⟩; obtain ⟨zz, y0, y1, y2, y3, f0, f1, f2, f3⟩ := Four.kept hb1))
              obtain ⟨_, r0, r1, r2, r3, _⟩ := ((Four.kept hb1).set4 (.int .i64 k) (.string (str b)) (.int .i64 0) (.int .i64 0)).alloc (.cells #[.int .i64 k, .string (str b), .int .i64 0, .int .i64 0] 33)
              refine bodyPost_ret (v := .tuple #[.agg #[.int .i64 k, .string (str b), .int .i64 0, .int .i64 0], .int .i64 (1 + (z : Int)), .int .i64 0]) (by simp [results, Tryd.results15, go_sem, r0, r1, r2, r3]) rfl ⟨⟨0, rfl⟩, ((((hP.alloc _).on hb1).set4 (Nat.le_refl _) _ _ _ _).alloc _).2⟩
            | bad c =>
              rw [hq] at cn
              have eN : cutV (.bad c) = .tuple #[.agg #[.int .i64 0, .string ⟨#[]⟩, .int .i64 0, .int .i64 0], .int .i64 0, .int .i64 c] := rfl
              have eV : ∀ x : Nat, cutW x (.bad c) = .tuple #[.agg #[.int .i64 0, .string ⟨#[]⟩, .int .i64 0, .int .i64 0], .int .i64 (x : Nat), .int .i64 c] := fun _ => rfl
              rw [eN] at cn
              show Calls Tryd.prog 15 #[.string s] W fun e w' => (∃ x : Nat, e = .returned (cutW x (.bad c))) ∧ Below W.heap.size W w'
              simp only [eV]
              go_enter Tryd.func15, Tryd.ntmps15
              go_wp2_with (first
                | ((with_reducible refine (cm _).mono ?_); rintro e w' ⟨rfl, rfl⟩)
                | ((with_reducible refine (cl _).mono ?_); rintro e w' ⟨rfl, rfl⟩)
                | ((with_reducible refine (cd _).mono ?_); rintro e w' ⟨rfl, rfl⟩)
                | ((with_reducible refine cn.mono ?_); rintro e w1 ⟨rfl, hb1⟩; obtain ⟨zz, y0, y1, y2, y3, f0, f1, f2, f3⟩ := Four.kept hb1))
              obtain ⟨_, r0, r1, r2, r3, _⟩ := ((Four.kept hb1).set4 (.int .i64 0) (.string ⟨#[]⟩) (.int .i64 0) (.int .i64 0)).alloc (.cells #[.int .i64 0, .string ⟨#[]⟩, .int .i64 0, .int .i64 0] 33)
              refine bodyPost_ret (v := .tuple #[.agg #[.int .i64 0, .string ⟨#[]⟩, .int .i64 0, .int .i64 0], .int .i64 1, .int .i64 c]) (by simp [results, Tryd.results15, go_sem, r0, r1, r2, r3]) rfl ⟨⟨1, rfl⟩, ((((hP.alloc _).on hb1).set4 (Nat.le_refl _) _ _ _ _).alloc _).2⟩
          · have k37 : ((s[0].toNat : Int) == 37) = false := by simp; omega
            rw [if_neg h37]
            clear h37
            by_cases h64 : s[0].toNat = 64
            · have k64 : ((s[0].toNat : Int) == 64) = true := by rw [h64]; rfl
              have hd2 := from_data s 1
              rw [← hd2]
              have cw := wordSize_any (s.extract 1 s.size) (by rw [from_size]; omega)
              have hw := wordSize_le (s.extract 1 s.size).data.toList
              rw [← Lib.size_eq, from_size] at hw
              have hmd := mid_data s 1 (1 + wordSize (s.extract 1 s.size).data.toList)
              rw [Nat.add_sub_cancel_left, ← hd2] at hmd
              have h1s : (1 : Int) ≤ (s.size : Int) := by omega
              by_cases hwp : 0 < wordSize (s.extract 1 s.size).data.toList
              · rw [if_pos ⟨h64, hwp⟩, ← hmd]
                clear h64 hmd
                generalize wordSize (s.extract 1 s.size).data.toList = n at *
                have hwp' : (0 : Int) < (n : Int) := by omega
                have hns : 1 + (n : Int) ≤ (s.size : Int) := by omega
                have c1 := token_any 4 (s.extract 1 (1 + n)) (by rw [mid_size s 1 (1 + n) (by omega)]; omega)
                have eV : ∀ x : Nat, cutW x (.ok 4 (s.extract 1 (1 + n)).data.toList (1 + n)) = .tuple #[.agg #[.int .i64 4, .string (s.extract 1 (1 + n)), .int .i64 0, .int .i64 0], .int .i64 (1 + (n : Int)), .int .i64 0] := fun _ => by rw [cutW, tokV, str_data, Int.natCast_add]; rfl
                simp only [eV]
                go_enter Tryd.func15, Tryd.ntmps15
                go_wp2_with (first
                  | ((with_reducible refine (cm _).mono ?_); rintro e w' ⟨rfl, rfl⟩)
                  | ((with_reducible refine (cl _).mono ?_); rintro e w' ⟨rfl, rfl⟩)
                  | ((with_reducible refine (cd _).mono ?_); rintro e w' ⟨rfl, rfl⟩)
                  | ((with_reducible refine (cw _).mono ?_); rintro e w' ⟨rfl, rfl⟩)
                  | ((with_reducible refine (c1 _).mono ?_); rintro e w1 ⟨rfl, hb1⟩; obtain ⟨z, y0, y1, y2, y3, f0, f1, f2, f3⟩ := Four.kept hb1))
                refine bodyPost_ret (v := .tuple #[.agg #[.int .i64 4, .string (s.extract 1 (1 + n)), .int .i64 0, .int .i64 0], .int .i64 (1 + (n : Int)), .int .i64 0]) (by simp [results, Tryd.results15, go_sem, y0, y1, y2, y3]) rfl ⟨⟨0, rfl⟩, (((hP.alloc _).on hb1).set4 (Nat.le_refl _) _ _ _ _).2⟩
              · rw [if_neg (fun h => hwp h.2)]
                have h0w : wordSize (s.extract 1 s.size).data.toList = 0 := by omega
                have cw : ∀ W : World, Calls Tryd.prog 17 #[.string (s.extract 1 s.size)] W fun e w' => e = .returned (.int .i64 0) ∧ w' = W := fun W => by have h := cw W; rw [h0w] at h; exact h
                clear hmd hw h64
                have eV : ∀ x : Nat, cutW x (.bad 1) = .tuple #[.agg #[.int .i64 0, .string ⟨#[]⟩, .int .i64 0, .int .i64 0], .int .i64 (x : Nat), .int .i64 1] := fun _ => rfl
                simp only [eV]
                go_enter Tryd.func15, Tryd.ntmps15
                go_wp2_with (first
                  | ((with_reducible refine (cm _).mono ?_); rintro e w' ⟨rfl, rfl⟩)
                  | ((with_reducible refine (cl _).mono ?_); rintro e w' ⟨rfl, rfl⟩)
                  | ((with_reducible refine (cd _).mono ?_); rintro e w' ⟨rfl, rfl⟩)
                  | ((with_reducible refine (cw _).mono ?_); rintro e w' ⟨rfl, rfl⟩))
                refine bodyPost_ret (v := .tuple #[.agg #[.int .i64 0, .string ⟨#[]⟩, .int .i64 0, .int .i64 0], .int .i64 0, .int .i64 1]) (by simp [results, Tryd.results15, go_sem]) rfl ⟨⟨0, rfl⟩, (hP.alloc _).2⟩
            · have k64 : ((s[0].toNat : Int) == 64) = false := by simp; omega
              rw [if_neg (fun h => h64 h.1)]
              have eV : ∀ x : Nat, cutW x (.bad 1) = .tuple #[.agg #[.int .i64 0, .string ⟨#[]⟩, .int .i64 0, .int .i64 0], .int .i64 (x : Nat), .int .i64 1] := fun _ => rfl
              simp only [eV]
              go_enter Tryd.func15, Tryd.ntmps15
              go_wp2_with (first
                | ((with_reducible refine (cm _).mono ?_); rintro e w' ⟨rfl, rfl⟩)
                | ((with_reducible refine (cl _).mono ?_); rintro e w' ⟨rfl, rfl⟩)
                | ((with_reducible refine (cd _).mono ?_); rintro e w' ⟨rfl, rfl⟩))
              refine bodyPost_ret (v := .tuple #[.agg #[.int .i64 0, .string ⟨#[]⟩, .int .i64 0, .int .i64 0], .int .i64 0, .int .i64 1]) (by simp [results, Tryd.results15, go_sem]) rfl ⟨⟨0, rfl⟩, (hP.alloc _).2⟩
end Go.Proofs.YtombkcdoeiffiaaDoor
