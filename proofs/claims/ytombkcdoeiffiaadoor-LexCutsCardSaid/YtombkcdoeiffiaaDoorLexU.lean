/- The document's answers of layer 3: Number. -/
import Derived.Test.YtombkcdoeiffiaaDoorLexT
namespace Go.Proofs.YtombkcdoeiffiaaDoor
open Go.RowKit
set_option linter.unusedVariables false
set_option linter.unusedSimpArgs false

def numOk (l : List UInt8) : Option Nat :=
  if 1 < l.length ∧ (l.head?.map UInt8.toNat) = some 48 then none else match Go.Lib.parseUintB 64 l with
    | .ok u => some u
    | _ => none
def numV : Option Nat → Value
  | some u => .tuple #[.int .u64 u, .bool true]
  | none => .tuple #[.int .u64 0, .bool false]
theorem parse_step (acc : Nat) (c : UInt8) (r : List UInt8) (hc : isDigit c = true) : Lib.parseUint10 acc (c :: r) = if 1844674407370955161 < acc ∨ (acc = 1844674407370955161 ∧ 5 < c.toNat - 48) then .range else Lib.parseUint10 (acc * 10 + (c.toNat - 48)) r := by
  unfold isDigit at hc
  simp at hc
  simp only [Lib.parseUint10]
  rw [if_pos hc]
  by_cases h1 : 1844674407370955162 ≤ acc
  · rw [if_pos h1, if_pos (by omega)]
  · rw [if_neg h1]
    by_cases h2 : 18446744073709551616 ≤ acc * 10 + (c.toNat - 48)
    · rw [if_pos h2, if_pos (by omega)]
    · rw [if_neg h2, if_neg (by omega)]
theorem parse_ge : ∀ (l : List UInt8) (acc u : Nat), Lib.parseUint10 acc l = .ok u → acc * 10 ^ l.length ≤ u
  | [], acc, u, h => by simp only [Lib.parseUint10] at h; injection h with h; simp; omega
  | c :: r, acc, u, h => by
    simp only [Lib.parseUint10] at h
    split at h
    · split at h
      · cases h
      · split at h
        · cases h
        · have := parse_ge r _ u h
          rw [List.length_cons, Nat.pow_succ]
          calc acc * (10 ^ r.length * 10) = acc * 10 * 10 ^ r.length := by rw [Nat.mul_comm (10 ^ r.length), Nat.mul_assoc]
            _ ≤ (acc * 10 + (c.toNat - 48)) * 10 ^ r.length := Nat.mul_le_mul_right _ (by omega)
            _ ≤ u := this
    · cases h
theorem numOk_long (l : List UInt8) (h : 20 < l.length) (hd : ∀ c ∈ l, isDigit c = true) : numOk l = none := by
  unfold numOk
  split
  · rfl
  · rename_i hn
    rw [Lib.parseUintB_64]
    cases l with
    | nil => simp at h
    | cons c r =>
      cases hp : Lib.parseMag (c :: r) with
      | ok u =>
        exfalso
        have h1 := Lib.parseMag_lt hp
        unfold Lib.parseMag at hp
        rw [if_neg (by simp), parse_step 0 c r (hd c (by simp))] at hp
        rw [if_neg (by omega)] at hp
        have h2 := parse_ge r _ u hp
        have h3 : c.toNat ≠ 48 := fun e => hn ⟨by omega, by simp [e]⟩
        have h4 := hd c (by simp)
        unfold isDigit at h4
        simp at h4
        have h5 : 1 ≤ 0 * 10 + (c.toNat - 48) := by omega
        have h6 : 10 ^ 20 ≤ 10 ^ r.length := Nat.pow_le_pow_right (by decide) (by simp at h; omega)
        have h7 : 1 * 10 ^ r.length ≤ (0 * 10 + (c.toNat - 48)) * 10 ^ r.length := Nat.mul_le_mul_right _ h5
        have h8 : (10 : Nat) ^ 20 = 100000000000000000000 := by decide
        omega
      | _ => rfl

set_option maxHeartbeats 2000000 in
theorem Number_any (s : ByteArray) (hs : s.size ≤ 281474976710656) (hd : ∀ c ∈ s.data.toList, isDigit c = true) (W : World) :
    Calls Tryd.prog 28 #[.string s] W fun e w' => e = .returned (numV (numOk s.data.toList)) ∧ w' = W := by
  by_cases h0 : s.size = 0
  · have hz : s.data.toList = [] := List.length_eq_zero_iff.1 (by rw [← Lib.size_eq]; exact h0)
    have e : numOk s.data.toList = none := by rw [hz]; rfl
    have f0 : ((s.size : Int) == 0) = true := by rw [h0]; rfl
    rw [e]
    unfold numV
    go_enter Tryd.func28, Tryd.ntmps28
    go_wp2_with fail
    go_ret2
    exact ⟨rfl, rfl⟩
  · have f0 : ((s.size : Int) == 0) = false := beq_false_of_ne (by omega)
    by_cases h20 : 20 < s.size
    · have e := numOk_long s.data.toList (by rw [← Lib.size_eq]; exact h20) hd
      have f1 : (20 : Int) < (s.size : Int) := by omega
      rw [e]
      unfold numV
      go_enter Tryd.func28, Tryd.ntmps28
      go_wp2_with fail
      go_ret2
      exact ⟨rfl, rfl⟩
    · have f1 : decide ((20 : Int) < (s.size : Int)) = false := by simp; omega
      have hp0 : 0 < s.size := by omega
      have hhead : s.data.toList.head?.map UInt8.toNat = some s[0].toNat := by
        have := cons_of s 0 hp0
        rw [List.drop_zero] at this
        rw [this]; rfl
      by_cases h1 : 1 < s.size ∧ s[0].toNat = 48
      · have e : numOk s.data.toList = none := by
          unfold numOk
          rw [if_pos ⟨by rw [← Lib.size_eq]; exact h1.1, by rw [hhead, h1.2]⟩]
        have f2 : (1 : Int) < (s.size : Int) := by omega
        have f3 : ((s[0].toNat : Int) == 48) = true := by rw [h1.2]; rfl
        rw [e]
        unfold numV
        go_enter Tryd.func28, Tryd.ntmps28
        go_wp2_with fail
        go_ret2
        exact ⟨rfl, rfl⟩
      · have e : numOk s.data.toList = match Lib.parseUint10 0 s.data.toList with | .ok u => some u | _ => none := by
          unfold numOk
          rw [if_neg (fun h => h1 ⟨by rw [Lib.size_eq]; exact h.1, by have := h.2; rw [hhead] at this; injection this⟩), Lib.parseUintB_64]
          unfold Lib.parseMag
          rw [if_neg (fun h => h0 (by rw [Lib.size_eq, h]; rfl))]
        have HE := Lib.hid e
        clear e
        by_cases h2 : 1 < s.size
        · have f2 : (1 : Int) < (s.size : Int) := by omega
          have f3 : ((s[0].toNat : Int) == 48) = false := beq_false_of_ne (by intro h; exact h1 ⟨h2, by omega⟩)
          go_enter Tryd.func28, Tryd.ntmps28
          go_wp2_with fail
          go_loop [4, 5] (fun a b => ∃ k acc : Nat, k ≤ s.size ∧ acc < 18446744073709551616 ∧ a = .int .u64 acc ∧ b = .int .i64 k ∧ Lib.parseUint10 0 s.data.toList = Lib.parseUint10 acc (s.data.toList.drop k)) (fun _ b => s.size - (intOf b).toNat)
          case atStart => exact ⟨0, 0, Nat.zero_le _, by decide, rfl, rfl, by rw [List.drop_zero]⟩
          case round =>
            obtain ⟨k, acc, hk, hacc, rfl, rfl, hpar⟩ := hrel
            have HP := Lib.hid hpar
            clear hpar
            by_cases hks : k < s.size
            · have hdk : isDigit s[k] = true := hd s[k] (by have h' : k < s.data.toList.length := by rw [← Lib.size_eq]; exact hks
                                                            exact List.getElem_mem h')
              have hst := parse_step acc s[k] (s.data.toList.drop (k + 1)) hdk
              rw [← cons_of s k hks] at hst
              have HST := Lib.hid hst
              unfold isDigit at hdk
              simp at hdk
              obtain ⟨g1, g2⟩ := hdk
              clear hst
              obtain ⟨c, hc⟩ : ∃ c, s[k].toNat = c := ⟨_, rfl⟩
              have HC := Lib.hid hc
              rw [hc] at g1 g2
              by_cases hA : 1844674407370955161 < acc
              · have hv : numV (numOk s.data.toList) = .tuple #[.int .u64 0, .bool false] := by
                  rw [HE.out, HP.out, HST.out, if_pos (.inl hA)]; rfl
                have HV := Lib.hid hv
                have f4 : (1844674407370955161 : Int) < (acc : Int) := by omega
                clear hv
                go_wp2_with fail
                go_ret2
                exact ⟨by rw [HV.out]; rfl, rfl⟩
              · have f4 : decide ((1844674407370955161 : Int) < (acc : Int)) = false := by simp; omega
                by_cases hB : acc = 1844674407370955161
                · subst hB
                  by_cases h5 : 5 < c - 48
                  · have hv : numV (numOk s.data.toList) = .tuple #[.int .u64 0, .bool false] := by
                      rw [HE.out, HP.out, HST.out, if_pos (.inr ⟨rfl, by rw [HC.out]; exact h5⟩)]; rfl
                    have HV := Lib.hid hv
                    have f6 : (5 : Int) < (c : Int) - 48 := by omega
                    clear hv f4
                    go_wp2_with fail
                    go_ret2
                    exact ⟨by rw [HV.out]; rfl, rfl⟩
                  · have hv : Lib.parseUint10 0 s.data.toList = Lib.parseUint10 (1844674407370955161 * 10 + (c - 48)) (s.data.toList.drop (k + 1)) := by
                      rw [HP.out, HST.out, if_neg (fun h => by rcases h with h | h <;> (rw [HC.out] at *; omega)), HC.out]
                    have HV := Lib.hid hv
                    have f6 : decide ((5 : Int) < (c : Int) - 48) = false := by simp; omega
                    clear hv f4
                    go_wp2_with fail
                    exact ⟨⟨k + 1, 1844674407370955161 * 10 + (c - 48), by omega, by omega, by go_num, by go_num, HV.out⟩, by simp [intOf]; omega⟩
                · have hv : Lib.parseUint10 0 s.data.toList = Lib.parseUint10 (acc * 10 + (c - 48)) (s.data.toList.drop (k + 1)) := by
                    rw [HP.out, HST.out, if_neg (fun h => by rcases h with h | h <;> omega), HC.out]
                  have HV := Lib.hid hv
                  have f5 : ((acc : Int) == 1844674407370955161) = false := beq_false_of_ne (by omega)
                  clear hv
                  go_wp2_with fail
                  exact ⟨⟨k + 1, acc * 10 + (c - 48), by omega, by omega, by go_num, by go_num, HV.out⟩, by simp [intOf]; omega⟩
            · obtain rfl : k = s.size := by omega
              have hv : numV (numOk s.data.toList) = .tuple #[.int .u64 acc, .bool true] := by
                have h := HP.out
                rw [List.drop_eq_nil_of_le (by rw [← Lib.size_eq]; exact Nat.le_refl _)] at h
                rw [HE.out, h]; rfl
              have HV := Lib.hid hv
              clear hv
              go_wp2_with fail
              go_ret2
              exact ⟨by rw [HV.out]; rfl, rfl⟩
        · have f2 : decide ((1 : Int) < (s.size : Int)) = false := by simp; omega
          go_enter Tryd.func28, Tryd.ntmps28
          go_wp2_with fail
          go_loop [4, 5] (fun a b => ∃ k acc : Nat, k ≤ s.size ∧ acc < 18446744073709551616 ∧ a = .int .u64 acc ∧ b = .int .i64 k ∧ Lib.parseUint10 0 s.data.toList = Lib.parseUint10 acc (s.data.toList.drop k)) (fun _ b => s.size - (intOf b).toNat)
          case atStart => exact ⟨0, 0, Nat.zero_le _, by decide, rfl, rfl, by rw [List.drop_zero]⟩
          case round =>
            obtain ⟨k, acc, hk, hacc, rfl, rfl, hpar⟩ := hrel
            have HP := Lib.hid hpar
            clear hpar
            by_cases hks : k < s.size
            · have hdk : isDigit s[k] = true := hd s[k] (by have h' : k < s.data.toList.length := by rw [← Lib.size_eq]; exact hks
                                                            exact List.getElem_mem h')
              have hst := parse_step acc s[k] (s.data.toList.drop (k + 1)) hdk
              rw [← cons_of s k hks] at hst
              have HST := Lib.hid hst
              unfold isDigit at hdk
              simp at hdk
              obtain ⟨g1, g2⟩ := hdk
              clear hst
              obtain ⟨c, hc⟩ : ∃ c, s[k].toNat = c := ⟨_, rfl⟩
              have HC := Lib.hid hc
              rw [hc] at g1 g2
              by_cases hA : 1844674407370955161 < acc
              · have hv : numV (numOk s.data.toList) = .tuple #[.int .u64 0, .bool false] := by
                  rw [HE.out, HP.out, HST.out, if_pos (.inl hA)]; rfl
                have HV := Lib.hid hv
                have f4 : (1844674407370955161 : Int) < (acc : Int) := by omega
                clear hv
                go_wp2_with fail
                go_ret2
                exact ⟨by rw [HV.out]; rfl, rfl⟩
              · have f4 : decide ((1844674407370955161 : Int) < (acc : Int)) = false := by simp; omega
                by_cases hB : acc = 1844674407370955161
                · subst hB
                  by_cases h5 : 5 < c - 48
                  · have hv : numV (numOk s.data.toList) = .tuple #[.int .u64 0, .bool false] := by
                      rw [HE.out, HP.out, HST.out, if_pos (.inr ⟨rfl, by rw [HC.out]; exact h5⟩)]; rfl
                    have HV := Lib.hid hv
                    have f6 : (5 : Int) < (c : Int) - 48 := by omega
                    clear hv f4
                    go_wp2_with fail
                    go_ret2
                    exact ⟨by rw [HV.out]; rfl, rfl⟩
                  · have hv : Lib.parseUint10 0 s.data.toList = Lib.parseUint10 (1844674407370955161 * 10 + (c - 48)) (s.data.toList.drop (k + 1)) := by
                      rw [HP.out, HST.out, if_neg (fun h => by rcases h with h | h <;> (rw [HC.out] at *; omega)), HC.out]
                    have HV := Lib.hid hv
                    have f6 : decide ((5 : Int) < (c : Int) - 48) = false := by simp; omega
                    clear hv f4
                    go_wp2_with fail
                    exact ⟨⟨k + 1, 1844674407370955161 * 10 + (c - 48), by omega, by omega, by go_num, by go_num, HV.out⟩, by simp [intOf]; omega⟩
                · have hv : Lib.parseUint10 0 s.data.toList = Lib.parseUint10 (acc * 10 + (c - 48)) (s.data.toList.drop (k + 1)) := by
                    rw [HP.out, HST.out, if_neg (fun h => by rcases h with h | h <;> omega), HC.out]
                  have HV := Lib.hid hv
                  have f5 : ((acc : Int) == 1844674407370955161) = false := beq_false_of_ne (by omega)
                  clear hv
                  go_wp2_with fail
                  exact ⟨⟨k + 1, acc * 10 + (c - 48), by omega, by omega, by go_num, by go_num, HV.out⟩, by simp [intOf]; omega⟩
            · obtain rfl : k = s.size := by omega
              have hv : numV (numOk s.data.toList) = .tuple #[.int .u64 acc, .bool true] := by
                have h := HP.out
                rw [List.drop_eq_nil_of_le (by rw [← Lib.size_eq]; exact Nat.le_refl _)] at h
                rw [HE.out, h]; rfl
              have HV := Lib.hid hv
              clear hv
              go_wp2_with fail
              go_ret2
              exact ⟨by rw [HV.out]; rfl, rfl⟩
end Go.Proofs.YtombkcdoeiffiaaDoor
