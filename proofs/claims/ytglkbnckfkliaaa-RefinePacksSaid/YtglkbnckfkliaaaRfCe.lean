/- Package refine: rows held against rows (slices.EqualFunc of values, bytes, rows of bytes, events). -/
import Derived.Test.YtglkbnckfkliaaaRfC
namespace Go.Proofs.Ytglkbnckfkliaaa
open Go.RowKit Go.Maps
set_option linter.unusedVariables false
set_option linter.unusedSimpArgs false
set_option maxRecDepth 100000
set_option maxHeartbeats 2000000

theorem Eq_ev (h : FuncId) (hen : ∀ (args : Array Value) (w : World), (callFunc h args).run Try.prog w = .ok (.enter h args) w) (hcall : ∀ x y w, EvIn w.heap.size w x → EvIn w.heap.size w y → Calls Try.prog h #[x.val, y.val] w fun e w' => e = .returned (.bool (refE x y)) ∧ Below w.heap.size w w')
    (W : World) (p p' : Option Addr) (n n' c c' : Nat) (xs ys : List LEv) (hx : ListIn evC EvIn W.heap.size W p n c xs) (hy : ListIn evC EvIn W.heap.size W p' n' c' ys) :
    Calls Try.prog 28 #[.slice p n c, .slice p' n' c', .func (.func h) #[] #[]] W fun e w' => e = .returned (.bool (allB refE xs ys)) ∧ Below W.heap.size W w' := by
  obtain rfl : n = xs.length := hx.1
  obtain rfl : n' = ys.length := hy.1
  have k2 := hx.2.1
  have k3 := hx.2.2.1
  have k2' := hy.2.1
  have k3' := hy.2.2.1
  unfold maxLen at k3 k3'
  have H := Lib.hid hx
  have H' := Lib.hid hy
  have HC := Lib.hid hcall
  clear hx hy hcall
  by_cases hl : xs.length = ys.length
  · have HR : Hid (allB refE xs ys = true ∨ ∃ k, ∃ h1 : k < xs.length, ∃ h2 : k < ys.length, refE xs[k] ys[k] = false ∧ allB refE xs ys = false) := Lib.hid (by
      by_cases q : ∀ i (h1 : i < xs.length) (h2 : i < ys.length), refE xs[i] ys[i] = true
      · exact .inl (allB_all hl q)
      · obtain ⟨i, q⟩ := Classical.not_forall.1 q
        obtain ⟨h1, q⟩ := Classical.not_forall.1 q
        obtain ⟨h2, q⟩ := Classical.not_forall.1 q
        have q2 : refE xs[i] ys[i] = false := by simpa using q
        exact .inr ⟨i, h1, h2, q2, allB_not i h1 h2 q2⟩)
    have HL := Lib.hid hl
    have hl2 : ((xs.length : Int) != (ys.length : Int)) = false := by simp [hl]
    clear hl
    go_enter Try.func28, Try.ntmps28
    go_wp2_with fail
    go_loopw [17] (fun t wr => ∃ k : Nat, k ≤ xs.length ∧ t = .int .i64 k ∧ Past W.heap.size W wr ∧ Hid (∀ i (h1 : i < xs.length) (h2 : i < ys.length), i < k → refE xs[i] ys[i] = true)) (fun t _ => xs.length - (intOf t).toNat)
    case atStart => exact ⟨0, Nat.zero_le _, rfl, Past.refl (Nat.le_refl _), Lib.hid (fun i _ _ h => absurd h (Nat.not_lt_zero i))⟩
    case round =>
      obtain ⟨k, hk, rfl, hb, hE⟩ := hrel
      by_cases hlt : k < xs.length
      · have hlt' : k < ys.length := by have := HL.out; omega
        obtain ⟨a, rfl, ha, zc0, zc1, zc2⟩ := ev_row H.out k hlt
        obtain ⟨a', rfl, ha', yc0, yc1, yc2⟩ := ev_row H'.out k hlt'
        have z0 := (hb.2.cell (p := a.add (k * 3)) (blk_ad a _ ha)).trans zc0
        have y0 := (hb.2.cell (p := a'.add (k * 3)) (blk_ad a' _ ha')).trans yc0
        have z1 := (hb.2.cell (p := ⟨(a.add (k * 3)).block, (a.add (k * 3)).off + 1, none⟩) (blk_ad a _ ha)).trans zc1
        have y1 := (hb.2.cell (p := ⟨(a'.add (k * 3)).block, (a'.add (k * 3)).off + 1, none⟩) (blk_ad a' _ ha')).trans yc1
        have z2 := (hb.2.cell (p := ⟨(a.add (k * 3)).block, (a.add (k * 3)).off + 2, none⟩) (blk_ad a _ ha)).trans zc2
        have y2 := (hb.2.cell (p := ⟨(a'.add (k * 3)).block, (a'.add (k * 3)).off + 2, none⟩) (blk_ad a' _ ha')).trans yc2
        clear zc0 yc0 zc1 yc1 zc2 yc2
        have hw := hb.2.size
        have u1 : (a'.add (k * 3)).block < wr.heap.size := by rw [add_block]; omega
        have u2 : a'.block < wr.heap.size := by omega
        have u3 : (a.add (k * 3)).block < wr.heap.size := by rw [add_block]; omega
        have u4 : a.block < wr.heap.size := by omega
        have e1 := H.out.2.2.2.2 _ (List.getElem_mem hlt)
        have e2 := H'.out.2.2.2.2 _ (List.getElem_mem hlt')
        have P2 := (hb.alloc (.cells #[.int .i64 xs[k].ext, .slice xs[k].ap xs[k].an xs[k].ac, .slice xs[k].vp xs[k].vn xs[k].vc] 45)).alloc (.cells #[.int .i64 ys[k].ext, .slice ys[k].ap ys[k].an ys[k].ac, .slice ys[k].vp ys[k].vn ys[k].vc] 45)
        have hcc := HC.out xs[k] ys[k] _ (past_lasts lasts_Ev e1 P2) (past_lasts lasts_Ev e2 P2)
        have HCC := Lib.hid hcc
        clear e1 e2 hcc
        go_wp2_with fail
        refine HCC.out.mono ?_
        rintro e w2 ⟨rfl, hb2⟩
        have P3 := P2.trans ⟨P2.size, hb2.mono P2.size⟩
        cases hbt : refE xs[k] ys[k]
        · have er := Lib.hid (allB_not k hlt hlt' hbt)
          clear hbt
          go_wp2_with fail
          go_ret
          rw [er.out]
          exact ⟨rfl, P3.2⟩
        · have HQ := Lib.hid hbt
          clear hbt
          go_wp2_with fail
          exact ⟨⟨k + 1, by omega, by go_num, P3, Lib.hid (fun i h1 h2 h3 => by
            by_cases e : i = k
            · subst e; exact HQ.out
            · exact hE.out i h1 h2 (by omega))⟩, by simp [intOf]; omega⟩
      · go_wp2_with fail
        go_ret
        have er : allB refE xs ys = true := allB_all HL.out (fun i h1 h2 => hE.out i h1 h2 (by omega))
        rw [er]
        exact ⟨rfl, hb.2⟩
  · have er := Lib.hid (allB_len (f := refE) hl)
    have hl2 : ((xs.length : Int) != (ys.length : Int)) = true := by simp; omega
    have HL := Lib.hid hl
    clear hl
    go_enter Try.func28, Try.ntmps28
    go_wp2_with fail
    go_ret
    rw [er.out]
    exact ⟨rfl, Below.refl _ _⟩
end Go.Proofs.Ytglkbnckfkliaaa
