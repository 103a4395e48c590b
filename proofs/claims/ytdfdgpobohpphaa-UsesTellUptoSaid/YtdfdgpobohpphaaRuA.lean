/- The document's answer for uses: which instructions are needed, round by round. -/
import Derived.Test.YtdfdgpobohpphaaUsG
namespace Go.Proofs.Ytdfdgpobohpphaa
open Go.RowKit Go.Maps
set_option linter.unusedVariables false
set_option linter.unusedSimpArgs false
set_option maxRecDepth 100000
set_option maxHeartbeats 2000000

def nfI (d : Ins) : Nf := ⟨idleB d.op, resV d.op d.ty != 0, d.reg, fun r => d.args.any (isU r)⟩
theorem any_take (l : List Arg) (r : Int) (k : Nat) (h : k < l.length) : (l.take (k + 1)).any (isU r) = ((l.take k).any (isU r) || isU r l[k]) := by
  rw [List.take_succ_eq_append_getElem h, List.any_append]; simp
/-- Does an instruction use a register? -/
theorem rUses_tells (d : Ins) (r : Int) (W : World) (h : ListIn argC NoMem W.heap.size W d.ap d.al d.ac d.args) :
    Calls Try.prog 35 #[.agg (insC d).toArray, .int .i64 r] W fun e w' => e = .returned (.bool (d.args.any (isU r))) ∧ Below W.heap.size W w' := by
  obtain ⟨op, rg, ty, n, fl, ap, al, ac, tp, tl, tc, args⟩ := d
  simp only at h
  obtain rfl : al = args.length := h.1
  have k1 : args.length ≤ ac := h.2.1
  have k2 : ac ≤ maxLen := h.2.2.1
  unfold maxLen at k2
  show Calls _ _ #[.agg #[.int .i64 op, .int .i64 rg, .int .i64 ty, .int .i64 n, .int .i64 fl, .slice ap args.length ac, .slice tp tl tc], .int .i64 r] W _
  have hb : Below W.heap.size W (W.alloc (.cells #[.int .i64 op, .int .i64 rg, .int .i64 ty, .int .i64 n, .int .i64 fl, .slice ap args.length ac, .slice tp tl tc] 46)) := (Below.refl _ _).alloc (Nat.le_refl _) _
  have hx : Box W.heap.size [.int .i64 op, .int .i64 rg, .int .i64 ty, .int .i64 n, .int .i64 fl, .slice ap args.length ac, .slice tp tl tc] (W.alloc (.cells #[.int .i64 op, .int .i64 rg, .int .i64 ty, .int .i64 n, .int .i64 fl, .slice ap args.length ac, .slice tp tl tc] 46)) := Box.new W rfl _ _
  have c5 := hx.get 5 _ rfl
  have H := Lib.hid (h.lasts lasts_NoMem hb hb.size)
  have HB := Lib.hid hb
  clear h hb hx
  go_enter Try.func35, Try.ntmps35
  go_wp2_with fail
  generalize (W.alloc (.cells #[.int .i64 op, .int .i64 rg, .int .i64 ty, .int .i64 n, .int .i64 fl, .slice ap args.length ac, .slice tp tl tc] 46)) = W1 at *
  obtain ⟨gI, egI⟩ : ∃ gI, gI = W.heap.size := ⟨_, rfl⟩
  rw [← egI] at c5
  simp only [← egI]
  have EG := Lib.hid egI
  clear egI
  have h0 : Hid ((args.take 0).any (isU r) = false) := Lib.hid (by simp)
  go_loop [5] (fun t => ∃ k : Nat, k ≤ args.length ∧ t = .int .i64 k ∧ Hid ((args.take k).any (isU r) = false)) (fun t => args.length - (intOf t).toNat)
  case atStart => exact ⟨0, Nat.zero_le _, rfl, h0⟩
  case round =>
    obtain ⟨k, hk, rfl, hP⟩ := hrel
    by_cases hlt : k < args.length
    · obtain ⟨a, rfl, hab, y0, y1, y2⟩ := arg_row H.out k hlt
      have hs := any_take args r k hlt
      rw [hP.out] at hs
      obtain ⟨v, ev⟩ : ∃ v, args[k] = v := ⟨_, rfl⟩
      have hvm : v ∈ args := by rw [← ev]; exact List.getElem_mem hlt
      rw [ev] at y0 y1 y2 hs
      obtain ⟨vk, vn, vb⟩ := v
      simp only at y0 y1 y2
      have HS := Lib.hid (And.intro hs hvm)
      clear hs hvm ev hP
      by_cases e1 : vk = 1
      · by_cases e2 : vn = r
        · subst e1 e2
          have ht : args.any (isU vn) = true := List.any_eq_true.2 ⟨_, HS.out.2, by unfold isU; simp⟩
          have HT := Lib.hid ht
          clear ht
          go_wp2_with fail
          go_ret
          exact ⟨ret_bool HT.out.symm, HB.out⟩
        · have hb2 : (vn == r) = false := by simpa using e2
          have hf : Hid ((args.take (k + 1)).any (isU r) = false) := Lib.hid (by rw [HS.out.1]; unfold isU; simp [hb2])
          subst e1
          go_wp2_with fail
          go_round
          case rel => exact ⟨k + 1, by omega, by go_num, hf⟩
          case measure => simp [intOf]; omega
      · have hb1 : (vk == 1) = false := by simpa using e1
        have hf : Hid ((args.take (k + 1)).any (isU r) = false) := Lib.hid (by rw [HS.out.1]; unfold isU; simp [hb1])
        go_wp2_with fail
        go_round
        case rel => exact ⟨k + 1, by omega, by go_num, hf⟩
        case measure => simp [intOf]; omega
    · obtain rfl : k = args.length := by omega
      have hf : args.any (isU r) = false := by have := hP.out; rwa [List.take_length] at this
      have HF := Lib.hid hf
      clear hf
      go_wp2_with fail
      go_ret
      exact ⟨ret_bool HF.out.symm, HB.out⟩
end Go.Proofs.Ytdfdgpobohpphaa
