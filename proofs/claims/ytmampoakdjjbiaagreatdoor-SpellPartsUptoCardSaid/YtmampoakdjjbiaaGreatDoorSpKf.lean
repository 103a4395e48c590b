/- Append of a list of strings of one's own onto another; slices.Concat of two. -/
import Derived.Test.YtmampoakdjjbiaaGreatDoorSpKe
namespace Go.Proofs.YtmampoakdjjbiaaGreatDoor
open Go.RowKit Go.Maps
set_option linter.unusedVariables false
set_option linter.unusedSimpArgs false

theorem OS.heap_le {W : World} {B : Nat} {v : Value} {xs : List ByteArray} (h : OS W B v xs) : ∀ k, v.ownBlock = some k → B ≤ k := fun k hk => (h.lt k hk).1
theorem wpList_append_OS {w : World} {ops : Array Oper} {rest : List Oper} {o : Oper} {a : Act} {Q : Exit → Act → World → Prop} (hgd : o.guard = none) (s x : Operand)
    (ho : o.op = .call { callee := .builtin .append, args := #[s, x], argTypes := #[95, 95] }) (B C : Nat) (v vx : Value) (xs ys : List ByteArray) (hs : a.eval s = v) (hown : OS w B v xs) (hx : a.eval x = vx) (hsrc : OS w C vx ys)
    (hlen : xs.length + ys.length ≤ 4194304) (hB : B ≤ w.heap.size) (h : ∀ v' w', OS w' B v' (xs ++ ys) → Below B w w' → wpList Tryz.prog ops Q rest (a.put o.dst v') w') : wpList Tryz.prog ops Q (o :: rest) a w := by
  obtain ⟨i0, hi, hz0, hz1, hz2⟩ := info_parts infoStr
  rcases hsrc.2 with ⟨rfl, hz⟩ | ⟨g, cap, cur, rfl, hr⟩
  · have hl0 : ys = [] := List.length_eq_zero_iff.1 hz
    refine wpList_append_own_none hgd s x 95 ho B 9 i0 1 Tryz.underlying95 hi v xs.length _ hs hown hx (h v w ?_ (Below.refl _ _))
    rw [hl0, List.append_nil]
    exact hown
  · refine wpList_append_own _ hgd s x 95 ho B 9 i0 (.string ⟨#[]⟩) 1 16 Tryz.underlying95 hi hz0 hz1 hz2 rfl (by decide) v xs.length _ hs hown ⟨g, 0, none⟩ ys.length cap (ys.map .string) hx (by simp) (fun j u hj => hsrc.cells (g := g) rfl j u hj) (fun u hu => ?_) (by unfold maxLen; omega) (by omega) hB (fun v' w' h1 h2 _ => h v' w' ?_ ?_)
    · obtain ⟨t, _, rfl⟩ := List.mem_map.1 hu
      rfl
    · unfold OS
      rw [List.length_append, List.map_append]
      exact h1
    · exact (Below.refl B w).grown h2 hB (fun k hk => hown.heap_le k hk)
set_option maxHeartbeats 4000000 in
set_option maxRecDepth 100000 in
theorem concat_any (va vb : Value) (xs ys : List ByteArray) (g B : Nat) (W : World) (c0 : W.cell? ⟨g, 0, none⟩ = some va) (c1 : W.cell? ⟨g, 1, none⟩ = some vb) (hg : g < W.heap.size) (h1 : OS W B va xs) (h2 : OS W B vb ys) (hx : xs.length ≤ 1048576) (hy : ys.length ≤ 1048576) :
    Calls Tryz.prog 125 #[.slice (some ⟨g, 0, none⟩) 2 2] W (OwnS (xs ++ ys) W) := by
  obtain ⟨p, cc, rfl⟩ := h1.sl.slice
  obtain ⟨q, cd, rfl⟩ := h2.sl.slice
  have H12 := Lib.hid (And.intro h1 h2)
  have cG := Grow_none (xs.length + ys.length) (by omega) W
  have hs1 : IntKind.i64.wrap ((xs.length : Int) + (ys.length : Int)) = ((xs.length + ys.length : Nat) : Int) := by rw [IntKind.wrap_i64]; omega
  have hb0 : ∀ w, Below W.heap.size W w → w.cell? ⟨g, 0, none⟩ = some (.slice p xs.length cc) ∧ w.cell? ⟨g, 1, none⟩ = some (.slice q ys.length cd) := fun w hb => ⟨(hb.cell (p := ⟨g, 0, none⟩) hg).trans c0, (hb.cell (p := ⟨g, 1, none⟩) hg).trans c1⟩
  have HC := Lib.hid hb0
  clear h1 h2 hb0
  obtain ⟨nx, ex⟩ : ∃ n, xs.length = n := ⟨_, rfl⟩
  obtain ⟨ny, ey⟩ : ∃ n, ys.length = n := ⟨_, rfl⟩
  have HX := Lib.hid (And.intro ex ey)
  rw [ex] at hx H12 HC cG hs1 c0
  rw [ey] at hy H12 HC cG hs1 c1
  clear ex ey
  obtain ⟨nz, ez⟩ : ∃ n, nx + ny = n := ⟨_, rfl⟩
  rw [ez] at cG hs1
  have hnz : nz ≤ 2097152 := by omega
  have hnn : decide ((nz : Int) < 0) = false := by simp
  have hnx : decide ((nx : Int) < 0) = false := by simp
  have HZ := Lib.hid ez
  clear ez
  go_enter Tryz.func125, Tryz.ntmps125
  go_wp2_with fail
  go_loopw [3, 11] (fun ts ti wr => ∃ i : Nat, (i = 0 ∧ ts = .int .i64 0 ∨ i = 1 ∧ ts = .int .i64 (nx : Int) ∨ i = 2 ∧ ts = .int .i64 (nz : Int)) ∧ ti = .int .i64 i ∧ wr = W) (fun _ ti _ => 2 - (intOf ti).toNat)
  case atStart => exact ⟨0, .inl ⟨rfl, rfl⟩, rfl, rfl⟩
  case round =>
    obtain ⟨i, ⟨rfl, rfl⟩ | ⟨rfl, rfl⟩ | ⟨rfl, rfl⟩, rfl, rfl⟩ := hrel
    · go_wp2_with fail
      exact ⟨⟨1, .inr (.inl ⟨rfl, by first | rfl | simp⟩), by go_num, by first | rfl | trivial⟩, by simp [intOf]⟩
    · go_wp2_with fail
      exact ⟨⟨2, .inr (.inr ⟨rfl, by first | rfl | simp⟩), by go_num, by first | rfl | trivial⟩, by simp [intOf]⟩
    · go_wp2_with fail
      refine cG.mono ?_
      rintro e w1 ⟨v0, rfl, hO, hb⟩
      have HS := Lib.hid (And.intro hO hb)
      clear hO hb cG c0 c1
      generalize wr = W at *
      go_wp2_with fail
      go_loopw [6, 27] (fun tv ti wx => ∃ i : Nat, Hid (i = 0 ∧ OS wx W.heap.size tv [] ∨ i = 1 ∧ OS wx W.heap.size tv xs ∨ i = 2 ∧ OS wx W.heap.size tv (xs ++ ys)) ∧ ti = .int .i64 i ∧ Below W.heap.size W wx) (fun _ ti _ => 2 - (intOf ti).toNat)
      case atStart => exact ⟨0, Lib.hid (.inl ⟨rfl, HS.out.1⟩), rfl, HS.out.2⟩
      case round =>
        obtain ⟨i, ho, rfl, hb⟩ := hrel
        obtain ⟨c0, c1⟩ := HC.out _ hb
        have HB := Lib.hid hb
        rcases ho.out with ⟨rfl, hO⟩ | ⟨rfl, hO⟩ | ⟨rfl, hO⟩
        · have HO := Lib.hid (And.intro hO (OS.later H12.out.1 HB.out))
          clear ho hO hb
          go_wp2_with (at_builtin; refine wpList_append_OS rfl _ _ rfl W.heap.size B _ _ [] xs rfl HO.out.1 rfl HO.out.2 (by have := HX.out; simp; omega) HB.out.size ?_)
          intro v' w2 hn hb2
          have HN := Lib.hid (And.intro hn (HB.out.trans hb2))
          clear hn hb2
          go_wp2_with fail
          exact ⟨⟨1, Lib.hid (.inr (.inl ⟨rfl, by simpa using HN.out.1⟩)), by go_num, HN.out.2⟩, by simp [intOf]⟩
        · have HO := Lib.hid (And.intro hO (OS.later H12.out.2 HB.out))
          clear ho hO hb
          go_wp2_with (at_builtin; refine wpList_append_OS rfl _ _ rfl W.heap.size B _ _ xs ys rfl HO.out.1 rfl HO.out.2 (by have := HX.out; omega) HB.out.size ?_)
          intro v' w2 hn hb2
          have HN := Lib.hid (And.intro hn (HB.out.trans hb2))
          clear hn hb2
          go_wp2_with fail
          exact ⟨⟨2, Lib.hid (.inr (.inr ⟨rfl, by simpa using HN.out.1⟩)), by go_num, HN.out.2⟩, by simp [intOf]⟩
        · have HO := Lib.hid hO
          clear ho hO hb
          go_wp2_with fail
          go_ret
          exact ⟨_, rfl, HO.out, HB.out⟩
end Go.Proofs.YtmampoakdjjbiaaGreatDoor
