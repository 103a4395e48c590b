/- The law's package: Few, of a module of one function. -/
import Derived.Test.YtpfeiolmkbibiaaIrL
import Derived.LoopN
namespace Go.Proofs.Ytpfeiolmkbibiaa
open Go.RowKit Go.Maps
set_option linter.unusedVariables false
set_option linter.unusedSimpArgs false

/-- Some bool, and nothing that was there has changed. -/
def SomeBool (W : World) (e : Ending) (w' : World) : Prop := ∃ b : Bool, e = .returned (.bool b) ∧ Below W.heap.size W w'

set_option maxRecDepth 100000 in
set_option maxHeartbeats 4000000 in
theorem Few_one (W : World) (g : Nat) (s0 : ByteArray) (p1 : Option Addr) (n1 c1 : Nat) (rt : Int) (p2 : Option Addr) (n2 c2 : Nat) (l : List (List Ins)) (hg : g < W.heap.size)
    (f0 : W.cell? ⟨g, 0, none⟩ = some (.string s0)) (f1 : W.cell? ⟨g, 1, none⟩ = some (.slice p1 n1 c1)) (f2 : W.cell? ⟨g, 2, none⟩ = some (.int .i64 rt)) (f3 : W.cell? ⟨g, 3, none⟩ = some (.slice p2 n2 c2))
    (hl : BlocksAt W.heap.size W (.slice p2 n2 c2) l) (hn : cnt l.flatten + n1 ≤ 1048576) :
    Calls Try.prog 19 #[.agg #[.slice none 0 0, .slice none 0 0, .slice (some ⟨g, 0, none⟩) 1 1], .int .i64 20000] W (SomeBool W) := by
  obtain ⟨p, cap, he, hc1, hc2, hbl⟩ := hl
  injection he with he1 he2 he3
  subst he1 he2 he3
  unfold maxLen at hc2
  have HBL := Lib.hid hbl
  have HN := Lib.hid hn
  clear hbl hn
  go_enter Try.func19, Try.ntmps19
  go_wp2_with fail
  refine wp_loop_rounds 1 ?_
  rw [rounds_succ]
  go_wp2_with fail
  refine wp_loop_rounds 2 ?_
  rw [rounds_succ]
  go_wp2_with fail
  have hP : Past W.heap.size W ((W.alloc (.cells #[.slice none 0 0, .slice none 0 0, .slice (some ⟨g, 0, none⟩) 1 1] 34)).alloc (.cells #[.string s0, .slice p1 n1 c1, .int .i64 rt, .slice p2 l.length c2] 41)) := ((Past.refl (Nat.le_refl _)).alloc _).alloc _
  go_loopw [5, 57] (fun m t wr => ∃ (v : Int) (b : Nat), b ≤ l.length ∧ m = .int .i64 v ∧ t = .int .i64 b ∧ Past W.heap.size W wr) (fun _ t _ => l.length - (intOf t).toNat)
  case atStart => exact ⟨_, 0, Nat.zero_le _, rfl, rfl, hP⟩
  case round =>
    obtain ⟨v, b, hb, rfl, rfl, hbe⟩ := hrel
    by_cases hlt : b < l.length
    · obtain ⟨a, x, rfl, hab, hcell, hcode⟩ := HBL.out b hlt
      obtain ⟨q2, cap2, rfl, hd1, hd2, hcd⟩ := hcode
      unfold maxLen at hd2
      have k1 : wr.cell? (a.add b) = some (.slice q2 l[b].length cap2) := (hbe.2.cell (p := a.add b) (by rw [add_block]; exact hab)).trans hcell
      have HCD := Lib.hid hcd
      have b1 := hbe.alloc (.cells #[.slice q2 l[b].length cap2] 67)
      clear hcd hcell
      go_wp2_with fail
      go_loopw [5, 69] (fun m t wi => ∃ (v : Int) (k : Nat), k ≤ l[b].length ∧ m = .int .i64 v ∧ t = .int .i64 k ∧ Past W.heap.size W wi) (fun _ t _ => l[b].length - (intOf t).toNat)
      case atStart => exact ⟨_, 0, Nat.zero_le _, rfl, rfl, b1⟩
      case round =>
        obtain ⟨v2, k, hk, rfl, rfl, hbi⟩ := hrel
        by_cases hkl : k < l[b].length
        · obtain ⟨a2, rfl, ha2, hins⟩ := HCD.out k hkl
          obtain ⟨z0, z1, z2, z3, z4, z5, z6⟩ := hins.below hbi.2 (by rw [add_block]; exact ha2)
          clear hins
          go_wp2_with fail
          · go_ret
            exact ⟨false, rfl, (hbi.alloc _).2⟩
          · exact ⟨⟨_, k + 1, by omega, rfl, by go_num, hbi.alloc _⟩, by simp [intOf]; omega⟩
        · obtain rfl : k = l[b].length := by omega
          go_wp2_with fail
          exact ⟨⟨_, b + 1, by omega, rfl, by go_num, hbi⟩, by simp [intOf]; omega⟩
    · obtain rfl : b = l.length := by omega
      go_wp2_with fail
      rw [rounds_succ]
      go_wp2_with fail
      go_ret
      exact ⟨_, rfl, hbe.2⟩
end Go.Proofs.Ytpfeiolmkbibiaa
