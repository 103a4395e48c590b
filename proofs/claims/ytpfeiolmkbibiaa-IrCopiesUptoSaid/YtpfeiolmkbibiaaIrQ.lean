/- The document's Uses, Def, Fresh (package latheref02), of any function. -/
import Derived.Test.YtpfeiolmkbibiaaIrP
namespace Go.Proofs.Ytpfeiolmkbibiaa
open Go.RowKit Go.Maps
set_option linter.unusedVariables false
set_option linter.unusedSimpArgs false

set_option maxRecDepth 100000 in
set_option maxHeartbeats 2000000 in
theorem rUses_any (W : World) (s0 : ByteArray) (p1 : Option Addr) (n1 c1 : Nat) (rt reg : Int) (p2 : Option Addr) (n2 c2 : Nat) (l : List (List Ins)) (hl : BlocksAt W.heap.size W (.slice p2 n2 c2) l) (ha : AllArgs W.heap.size W l) (hn : cnt l.flatten ≤ 1048576) (T : Nat) (eT : usesOf reg l.flatten = T) :
    Calls Try.prog 32 #[.agg #[.string s0, .slice p1 n1 c1, .int .i64 rt, .slice p2 n2 c2], .int .i64 reg] W fun e w' => e = .returned (.int .i64 T) ∧ Below W.heap.size W w' := by
  have hc : l.flatten.length ≤ 1048576 := by unfold cnt at hn; omega
  have hg : argsNum l.flatten ≤ 1048576 := by unfold cnt at hn; omega
  have hP := (Past.refl (Nat.le_refl W.heap.size)).alloc (.cells #[.string s0, .slice p1 n1 c1, .int .i64 rt, .slice p2 n2 c2] 41)
  have cC := Code_any (W.alloc (.cells #[.string s0, .slice p1 n1 c1, .int .i64 rt, .slice p2 n2 c2] 41)) s0 p1 n1 c1 rt p2 n2 c2 l ((hl.below hP.2).mono hP.size) hc
  have ha1 : AllArgs W.heap.size (W.alloc (.cells #[.string s0, .slice p1 n1 c1, .int .i64 rt, .slice p2 n2 c2] 41)) l := ha.below hP.2
  obtain ⟨L, eL⟩ : ∃ L, l.flatten = L := ⟨_, rfl⟩
  have ET : Hid (usesOf reg L = T) := Lib.hid (by rw [← eL]; exact eT)
  have HG : Hid (argsNum L ≤ 1048576) := Lib.hid (by rw [← eL]; exact hg)
  have hc' : L.length ≤ 1048576 := by rw [← eL]; exact hc
  clear hn eT hg
  go_enter Try.func32, Try.ntmps32
  go_wp2_with fail
  refine cC.mono ?_
  rintro e w1 ⟨vl, vp, rfl, hb1, hr1, hr2⟩
  have HC := Lib.hid (codeAt_flat eL hr1)
  have hP1 := hP.trans ⟨hP.size, hb1.mono hP.size⟩
  have HA := Lib.hid ((ha.below hP1.2).flatL eL)
  clear cC hl ha ha1 hr1 hr2 hb1 hP
  clear eL hc
  obtain ⟨q, cap, rfl, hd1, hd2, hcd⟩ := HC.out
  unfold maxLen at hd2
  have HCD := Lib.hid hcd
  clear hcd HC
  have hz := hP1.size
  go_wp2_with fail
  go_loopw [5, 8] (fun u t wr => ∃ i : Nat, i ≤ L.length ∧ t = .int .i64 i ∧ u = .int .i64 (usesOf reg (L.take i) : Nat) ∧ wr = w1) (fun _ t _ => L.length - (intOf t).toNat)
  case atStart => exact ⟨0, Nat.zero_le _, rfl, rfl, rfl⟩
  case round =>
    obtain ⟨i, hi, rfl, rfl, rfl⟩ := hrel
    by_cases hlt : i < L.length
    · obtain ⟨a, rfl, hab, hins⟩ := HCD.out i hlt
      obtain ⟨f0, f1, f2, f3, f4, f5, f6⟩ := hins
      obtain ⟨g1, g2, g3, g4⟩ := HA.out i hlt
      rw [g1] at f5
      unfold maxLen at g3
      have hs := usesOf_cons reg L i hlt
      have hm := argsNum_cons L i hlt
      have hle := usesOf_le reg (L.take i)
      have HL : Hid (usesOf reg (L.take i) + L[i].args.length ≤ 1048576) := Lib.hid (by have := HG.out; omega)
      have HS := Lib.hid hs
      have HARG := Lib.hid g4
      clear hs hm hle g4 f0 f1 f2 f3 f4 f6
      go_wp2_with fail
      go_loopw [5, 9] (fun u t wi => ∃ k : Nat, k ≤ L[i].args.length ∧ t = .int .i64 k ∧ u = .int .i64 (usesOf reg (L.take i) + usesIn reg (L[i].args.take k) : Nat) ∧ wi = wr) (fun _ t _ => L[i].args.length - (intOf t).toNat)
      case atStart => exact ⟨0, Nat.zero_le _, rfl, by simp [usesIn], rfl⟩
      case round =>
        obtain ⟨k, hk, rfl, rfl, rfl⟩ := hrel
        by_cases hkl : k < L[i].args.length
        · obtain ⟨a2, e2, ha2, hat⟩ := HARG.out k hkl
          rw [e2] at f5
          obtain ⟨b0, b1, b2⟩ := hat
          have hs := usesIn_succ reg L[i].args k hkl
          have hle := usesIn_le reg (L[i].args.take k)
          have hle2 : (L[i].args.take k).length ≤ k := by simp; omega
          have hl2 : usesOf reg (L.take i) + usesIn reg (L[i].args.take k) + 1 ≤ 1048576 := by have := HL.out; omega
          have HS2 := Lib.hid hs
          clear hs hle hle2
          by_cases hK : L[i].args[k].kind = 1
          · by_cases hN : L[i].args[k].n = reg
            · rw [hK] at b0
              rw [hN] at b1
              go_wp2_with fail
              exact ⟨⟨k + 1, by omega, by go_num, by rw [HS2.out]; simp [isU, hK, hN]; go_num, by trivial⟩, by simp [intOf]; omega⟩
            · have hN2 : (L[i].args[k].n == reg) = false := by simpa using hN
              rw [hK] at b0
              go_wp2_with fail
              exact ⟨⟨k + 1, by omega, by go_num, by rw [HS2.out]; simp [isU, hK, hN], by trivial⟩, by simp [intOf]; omega⟩
          · have hK2 : (L[i].args[k].kind == 1) = false := by simpa using hK
            go_wp2_with fail
            exact ⟨⟨k + 1, by omega, by go_num, by rw [HS2.out]; simp [isU, hK2], by trivial⟩, by simp [intOf]; omega⟩
        · obtain rfl : k = L[i].args.length := by omega
          go_wp2_with fail
          exact ⟨⟨i + 1, by omega, by go_num, by rw [HS.out, List.take_length], by trivial⟩, by simp [intOf]; omega⟩
    · obtain rfl : i = L.length := by omega
      have e := ET.out
      rw [List.take_length, e]
      go_wp2_with fail
      go_ret
      exact ⟨rfl, hP1.2⟩
end Go.Proofs.Ytpfeiolmkbibiaa
