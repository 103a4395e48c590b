/- RefineTells, RefineOrders: their lives and much. -/
import Derived.Test.YtglkbnckfkliaaaRfJ
namespace Go.Proofs.Ytglkbnckfkliaaa
open Go.RowKit Go.Maps
set_option linter.unusedVariables false
set_option linter.unusedSimpArgs false
set_option maxRecDepth 100000
set_option maxHeartbeats 4000000

def zL (l : List LBy) : Nat := (l.map fun x => x.l.length + 1).sum
def zE (e : LEv) : Nat := e.args.length + 1 + zL e.vars
def zS (l : List LEv) : Nat := (l.map zE).sum
theorem zL_succ (l : List LBy) (k : Nat) (h : k < l.length) : zL (l.take (k + 1)) = zL (l.take k) + (l[k].l.length + 1) := by
  unfold zL; rw [List.take_succ_eq_append_getElem h, List.map_append, List.sum_append]; simp
theorem zS_succ (l : List LEv) (k : Nat) (h : k < l.length) : zS (l.take (k + 1)) = zS (l.take k) + zE l[k] := by
  unfold zS; rw [List.take_succ_eq_append_getElem h, List.map_append, List.sum_append]; simp
theorem zL_le (l : List LBy) (k : Nat) : zL (l.take k) ≤ zL l := by
  have h : zL l = zL (l.take k) + zL (l.drop k) := by unfold zL; rw [← List.sum_append, ← List.map_append, List.take_append_drop]
  omega
theorem zS_le (l : List LEv) (k : Nat) : zS (l.take k) ≤ zS l := by
  have h : zS l = zS (l.take k) + zS (l.drop k) := by unfold zS; rw [← List.sum_append, ← List.map_append, List.take_append_drop]
  omega
/-- It answers some bool, and turns nothing. -/
def SomeB (W : World) (e : Ending) (w' : World) : Prop := ∃ b : Bool, e = .returned (.bool b) ∧ Below W.heap.size W w'
theorem much_any (o : LOut) (W : World) (hx : OutIn W.heap.size W o) (hz : zS o.evs + zL o.vars ≤ 4194304) : Calls Try.prog 7 #[o.val] W (SomeB W) := by
  obtain ⟨s, ⟨rk, rb, rbk, ro⟩, ep, en, ec, evs, vp, vn, vc, vars, steps⟩ := o
  have hv : EvsIn W.heap.size W ep en ec evs := hx.1
  have hv' : LLIn W.heap.size W vp vn vc vars := hx.2
  obtain rfl : en = evs.length := hv.1
  obtain rfl : vn = vars.length := hv'.1
  have k2 := hv.2.1
  have k3 := hv.2.2.1
  have k2' := hv'.2.1
  have k3' := hv'.2.2.1
  unfold maxLen at k3 k3'
  simp only at hz
  have F := (Fr.start W).push (g := W.heap.size) (by simp) [.int .i64 s, .int .i64 rk, .int .u64 rb, .int .i64 rbk, .int .i64 ro, .slice ep evs.length ec, .slice vp vars.length vc, .int .i64 steps] 30
  have H := Lib.hid hv
  have H' := Lib.hid hv'
  have HF := Lib.hid F
  have HZ := Lib.hid hz
  clear hv hv' hx F hz
  show Calls _ _ #[.agg #[.int .i64 s, .int .i64 rk, .int .u64 rb, .int .i64 rbk, .int .i64 ro, .slice ep evs.length ec, .slice vp vars.length vc, .int .i64 steps]] W _
  go_enter Try.func7, Try.ntmps7
  go_wp2_with fail
  go_loopw [3, 13] (fun tn ti wr => ∃ (m i : Nat), i ≤ evs.length ∧ ti = .int .i64 i ∧ tn = .int .i64 m ∧ Hid (m ≤ zS (evs.take i)) ∧ Hid (Fr W [(W.heap.size, [.int .i64 s, .int .i64 rk, .int .u64 rb, .int .i64 rbk, .int .i64 ro, .slice ep evs.length ec, .slice vp vars.length vc, .int .i64 steps])] wr)) (fun _ ti _ => evs.length - (intOf ti).toNat)
  case atStart => exact ⟨0, 0, Nat.zero_le _, rfl, rfl, Lib.hid (Nat.zero_le _), HF⟩
  case round =>
    obtain ⟨m, i, hi, rfl, rfl, hM, hF⟩ := hrel
    obtain ⟨a0, a1, a2, a3, a4, a5, a6, a7⟩ := hF.out.c8 0 rfl
    by_cases hlt : i < evs.length
    · have hb := hF.out.past
      obtain ⟨ax, rfl, hax, u0, u1, u2⟩ := ev_row H.out i hlt
      have hax2 : (ax.add (i * 3)).block < W.heap.size := by rw [add_block]; exact hax
      have u0 := (hb.2.cell (p := ax.add (i * 3)) hax2).trans u0
      have u1 := (hb.2.cell (p := ⟨(ax.add (i * 3)).block, (ax.add (i * 3)).off + 1, none⟩) hax2).trans u1
      have u2 := (hb.2.cell (p := ⟨(ax.add (i * 3)).block, (ax.add (i * 3)).off + 2, none⟩) hax2).trans u2
      have e1 := H.out.2.2.2.2 _ (List.getElem_mem hlt)
      have hs := zS_succ evs i hlt
      have hle := zS_le evs (i + 1)
      obtain ⟨⟨ext, ap, an, ac, args, p, n, c, l⟩, ex⟩ : ∃ x, evs[i] = x := ⟨_, rfl⟩
      rw [ex] at e1 u0 u1 u2 hs
      obtain rfl : an = args.length := e1.1.1
      obtain rfl : n = l.length := e1.2.1
      simp only at u0 u1 u2
      have E1 := Lib.hid (show LLIn W.heap.size W p l.length c l from e1.2)
      have q2 := e1.2.2.1
      have q3 := e1.2.2.2.1
      unfold maxLen at q3
      simp only at q2 q3
      have HS : Hid (zS (evs.take (i + 1)) = zS (evs.take i) + (args.length + 1 + zL l) ∧ zS (evs.take (i + 1)) ≤ 4194304) := Lib.hid ⟨hs, by have := HZ.out; omega⟩
      have hm1 : m ≤ 4194304 := by have := hM.out; have := HS.out; omega
      have hm2 : args.length ≤ 4194304 := by have := HS.out; omega
      have hm3 : l.length ≤ 9223372036854775807 := by omega
      have hF2 := Lib.hid (hF.out.push (g := wr.heap.size) rfl [.int .i64 ext, .slice ap args.length ac, .slice p l.length c] 45)
      clear hb e1 hs hle ex hax2
      go_wp2_with fail
      generalize wr = wo at *
      go_loopw [3, 26] (fun tn ti wr => ∃ (m2 k : Nat), k ≤ l.length ∧ ti = .int .i64 k ∧ tn = .int .i64 m2 ∧ Hid (m2 ≤ zS (evs.take i) + (args.length + 1 + zL (l.take k))) ∧ Hid (Fr W [(wo.heap.size, [.int .i64 ext, .slice ap args.length ac, .slice p l.length c]), (W.heap.size, [.int .i64 s, .int .i64 rk, .int .u64 rb, .int .i64 rbk, .int .i64 ro, .slice (some ax) evs.length ec, .slice vp vars.length vc, .int .i64 steps])] wr)) (fun _ ti _ => l.length - (intOf ti).toNat)
      case atStart => exact ⟨m + (args.length + 1), 0, Nat.zero_le _, rfl, by go_num, Lib.hid (by have := hM.out; omega), hF2⟩
      case round =>
        obtain ⟨m2, k, hk, rfl, rfl, hM2, hF3⟩ := hrel
        by_cases klt : k < l.length
        · have hb := hF3.out.past
          obtain ⟨ay, rfl, hay, v0⟩ := lb_row E1.out k klt
          have v0 := (hb.2.cell (p := ay.add k) (by rw [add_block]; exact hay)).trans v0
          have e2 : l[k].n = l[k].l.length := (E1.out.2.2.2.2 _ (List.getElem_mem klt)).1
          rw [e2] at v0
          have hs := zL_succ l k klt
          have hle := zL_le l (k + 1)
          obtain ⟨y, ey⟩ : ∃ y, l[k].l.length = y := ⟨_, rfl⟩
          rw [ey] at v0 hs
          have HS2 := Lib.hid hs
          have hn1 : m2 ≤ 4194304 := by have := hM2.out; have := HS.out; omega
          have hn2 : y ≤ 4194304 := by have := HS.out; omega
          clear hs hle ey e2 hb
          go_wp2_with fail
          exact ⟨⟨m2 + (y + 1), k + 1, by omega, by go_num, by go_num, Lib.hid (by have := hM2.out; have := HS2.out; omega), hF3⟩, by simp [intOf]; omega⟩
        · have ek : l.take k = l := List.take_of_length_le (by omega)
          have hM3 := hM2.out
          rw [ek] at hM3
          have HM3 := Lib.hid hM3
          clear hM3 ek
          go_wp2_with fail
          exact ⟨⟨m2, i + 1, by omega, by go_num, rfl, Lib.hid (by have := HM3.out; have := HS.out; omega), Lib.hid ⟨hF3.out.1, fun x hx => hF3.out.2 x (List.mem_cons_of_mem _ hx)⟩⟩, by simp [intOf]; omega⟩
    · have ek : evs.take i = evs := List.take_of_length_le (by omega)
      have hM3 := hM.out
      rw [ek] at hM3
      have HM3 := Lib.hid hM3
      clear hM3 ek hM
      go_wp2_with fail
      generalize wr = wo at *
      go_loopw [3, 40] (fun tn ti wr => ∃ (m2 k : Nat), k ≤ vars.length ∧ ti = .int .i64 k ∧ tn = .int .i64 m2 ∧ Hid (m2 ≤ zS evs + zL (vars.take k)) ∧ Hid (Fr W [(W.heap.size, [.int .i64 s, .int .i64 rk, .int .u64 rb, .int .i64 rbk, .int .i64 ro, .slice ep evs.length ec, .slice vp vars.length vc, .int .i64 steps])] wr)) (fun _ ti _ => vars.length - (intOf ti).toNat)
      case atStart => exact ⟨m, 0, Nat.zero_le _, rfl, rfl, Lib.hid (by have := HM3.out; omega), hF⟩
      case round =>
        obtain ⟨m2, k, hk, rfl, rfl, hM2, hF3⟩ := hrel
        by_cases klt : k < vars.length
        · have hb := hF3.out.past
          obtain ⟨ay, rfl, hay, v0⟩ := lb_row H'.out k klt
          have v0 := (hb.2.cell (p := ay.add k) (by rw [add_block]; exact hay)).trans v0
          have e2 : vars[k].n = vars[k].l.length := (H'.out.2.2.2.2 _ (List.getElem_mem klt)).1
          rw [e2] at v0
          have hs := zL_succ vars k klt
          have hle := zL_le vars (k + 1)
          obtain ⟨y, ey⟩ : ∃ y, vars[k].l.length = y := ⟨_, rfl⟩
          rw [ey] at v0 hs
          have HS2 := Lib.hid hs
          have hn1 : m2 ≤ 4194304 := by have := hM2.out; have := HZ.out; omega
          have hn2 : y ≤ 4194304 := by have := HZ.out; omega
          clear hs hle ey e2 hb
          go_wp2_with fail
          exact ⟨⟨m2 + (y + 1), k + 1, by omega, by go_num, by go_num, Lib.hid (by have := hM2.out; have := HS2.out; omega), hF3⟩, by simp [intOf]; omega⟩
        · go_wp2_with fail
          go_ret
          exact ⟨_, rfl, hF3.out.1⟩
theorem bO0 (w : World) : (Instr.build 30 #[]).run Try.prog w = .ok (.agg #[.int .i64 0, .int .i64 0, .int .u64 0, .int .i64 0, .int .i64 0, .slice none 0 0, .slice none 0 0, .int .i64 0]) w := run_build _ _ _ _ (by kernel_rfl)
theorem bO1 (w : World) (k : Int) : (Instr.build 30 #[(0, .int .i64 k)]).run Try.prog w = .ok (.agg #[.int .i64 k, .int .i64 0, .int .u64 0, .int .i64 0, .int .i64 0, .slice none 0 0, .slice none 0 0, .int .i64 0]) w := run_build _ _ _ _ (by kernel_rfl)
theorem bO2 (w : World) (k b c d : Int) : (Instr.build 30 #[(1, .agg #[.int .i64 k, .int .u64 b, .int .i64 c, .int .i64 d])]).run Try.prog w = .ok (.agg #[.int .i64 0, .int .i64 k, .int .u64 b, .int .i64 c, .int .i64 d, .slice none 0 0, .slice none 0 0, .int .i64 0]) w := run_build _ _ _ _ (by kernel_rfl)
def oN (s : Int) (v : Vl) : LOut := ⟨s, v, none, 0, 0, [], none, 0, 0, [], 0⟩
theorem nil_in {α : Type} {cel : α → List Value} {E : Nat → World → α → Prop} {B : Nat} {w : World} : ListIn cel E B w none 0 0 [] := ⟨rfl, Nat.le_refl _, Nat.zero_le _, fun j u hu => by simp at hu, fun x hx => absurd hx (by simp)⟩
theorem oN_in (s : Int) (v : Vl) (B : Nat) (w : World) : OutIn B w (oN s v) := ⟨nil_in, nil_in⟩
theorem lives_any (W : World) : Calls Try.prog 6 #[] W fun e w' => e = .returned (.bool true) ∧ Below W.heap.size W w' := by
  have b0 := bV0
  have b1 := bV1
  have b2 := bV2
  have b3 := bO0
  have b4 := bO1
  have b5 := bO2
  have F := Lib.hid ((Fr.start W).push (g := W.heap.size) (by simp) [.int .i64 1, .int .u64 5, .int .i64 0, .int .i64 0] 24)
  have c1 : ∀ w, Calls Try.prog 8 #[.agg #[.int .i64 0, .int .u64 0, .int .i64 0, .int .i64 0], .agg #[.int .i64 1, .int .u64 5, .int .i64 0, .int .i64 0]] w fun e w' => e = .returned (.bool true) ∧ Below w.heap.size w w' := fun w => Value_any ⟨0, 0, 0, 0⟩ ⟨1, 5, 0, 0⟩ w
  have c2 : ∀ w, Calls Try.prog 8 #[.agg #[.int .i64 3, .int .u64 0, .int .i64 0, .int .i64 0], .agg #[.int .i64 1, .int .u64 5, .int .i64 0, .int .i64 0]] w fun e w' => e = .returned (.bool true) ∧ Below w.heap.size w w' := fun w => Value_any ⟨3, 0, 0, 0⟩ ⟨1, 5, 0, 0⟩ w
  have c3 : ∀ w, Calls Try.prog 8 #[.agg #[.int .i64 1, .int .u64 5, .int .i64 0, .int .i64 0], .agg #[.int .i64 3, .int .u64 0, .int .i64 0, .int .i64 0]] w fun e w' => e = .returned (.bool false) ∧ Below w.heap.size w w' := fun w => Value_any ⟨1, 5, 0, 0⟩ ⟨3, 0, 0, 0⟩ w
  have c4 : ∀ w, Calls Try.prog 12 #[.agg #[.int .i64 1, .int .i64 0, .int .u64 0, .int .i64 0, .int .i64 0, .slice none 0 0, .slice none 0 0, .int .i64 0], .agg #[.int .i64 0, .int .i64 0, .int .u64 0, .int .i64 0, .int .i64 0, .slice none 0 0, .slice none 0 0, .int .i64 0]] w fun e w' => e = .returned (.bool true) ∧ Below w.heap.size w w' := fun w => Refines_any (oN 1 p0) (oN 0 p0) w (oN_in _ _ _ _) (oN_in _ _ _ _)
  have c5 : ∀ w, Calls Try.prog 12 #[.agg #[.int .i64 0, .int .i64 1, .int .u64 5, .int .i64 0, .int .i64 0, .slice none 0 0, .slice none 0 0, .int .i64 0], .agg #[.int .i64 0, .int .i64 0, .int .u64 0, .int .i64 0, .int .i64 0, .slice none 0 0, .slice none 0 0, .int .i64 0]] w fun e w' => e = .returned (.bool false) ∧ Below w.heap.size w w' := fun w => Refines_any (oN 0 ⟨1, 5, 0, 0⟩) (oN 0 p0) w (oN_in _ _ _ _) (oN_in _ _ _ _)
  go_enter Try.func6, Try.ntmps6
  go_wp2_with (first
    | ((with_reducible refine (c1 _).mono ?_); rintro e w1 ⟨rfl, hb⟩; replace F := Lib.hid (F.out.later hb); obtain ⟨a0, a1, a2, a3, a4⟩ := F.out.c4 0 rfl)
    | ((with_reducible refine (c2 _).mono ?_); rintro e w2 ⟨rfl, hb⟩; replace F := Lib.hid (F.out.later hb); obtain ⟨a0, a1, a2, a3, a4⟩ := F.out.c4 0 rfl)
    | ((with_reducible refine (c3 _).mono ?_); rintro e w3 ⟨rfl, hb⟩; replace F := Lib.hid (F.out.later hb); obtain ⟨a0, a1, a2, a3, a4⟩ := F.out.c4 0 rfl)
    | ((with_reducible refine (c4 _).mono ?_); rintro e w4 ⟨rfl, hb⟩; replace F := Lib.hid (F.out.later hb); obtain ⟨a0, a1, a2, a3, a4⟩ := F.out.c4 0 rfl)
    | ((with_reducible refine (c5 _).mono ?_); rintro e w5 ⟨rfl, hb⟩; replace F := Lib.hid (F.out.later hb); obtain ⟨a0, a1, a2, a3, a4⟩ := F.out.c4 0 rfl))
  go_ret
  exact ⟨rfl, F.out.1⟩
end Go.Proofs.Ytglkbnckfkliaaa
