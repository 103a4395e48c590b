/- FoldEvals: the walk. -/
import Derived.Test.YtpjfkmaceaikbaaFlL
namespace Go.Proofs.Ytpjfkmaceaikbaa
open Go.RowKit Go.Maps
set_option linter.unusedVariables false
set_option linter.unusedSimpArgs false
set_option maxRecDepth 100000
set_option maxHeartbeats 2000000

theorem evals_len (op rg ty n fl : Int) (ap : Option Addr) (al ac : Nat) (tp : Option Addr) (tl tc : Nat) (W : World) (h : 3 < (al : Int)) : Calls Try.prog 4 #[.agg #[.int .i64 op, .int .i64 rg, .int .i64 ty, .int .i64 n, .int .i64 fl, .slice ap al ac, .slice tp tl tc]] W fun e w' => e = .returned (.bool true) ∧ Below W.heap.size W w' := by
  have G0 := Lib.hid ((Fr.start W).push (g := W.heap.size) rfl [.int .i64 op, .int .i64 rg, .int .i64 ty, .int .i64 n, .int .i64 fl, .slice ap al ac, .slice tp tl tc] 25)
  go_enter Try.func4, Try.ntmps4
  go_wp2_with (first
    | ((with_reducible refine (livesF_any _).mono ?_); rintro e w1 ⟨rfl, hb⟩; have F := G0.out.later hb; obtain ⟨i0, i1, i2, i3, i4, i5, i6⟩ := F.c7 0 rfl; have iz := (F.at 0 rfl).2.1; have G1 := Lib.hid F; clear F hb))
  go_ret
  exact ⟨rfl, G1.out.1⟩
theorem evals_no (op rg ty n fl : Int) (ap : Option Addr) (al ac : Nat) (tp : Option Addr) (tl tc : Nat) (W : World) (h : ¬ 3 < (al : Int)) (cF : ∀ w, Below W.heap.size W w → Calls Try.prog 6 #[.agg #[.int .i64 op, .int .i64 rg, .int .i64 ty, .int .i64 n, .int .i64 fl, .slice ap al ac, .slice tp tl tc]] w fun e w' => e = .returned (.tuple #[.agg #[.int .i64 0, .int .i64 0, .int .u64 0], .bool false]) ∧ Below w.heap.size w w') : Calls Try.prog 4 #[.agg #[.int .i64 op, .int .i64 rg, .int .i64 ty, .int .i64 n, .int .i64 fl, .slice ap al ac, .slice tp tl tc]] W fun e w' => e = .returned (.bool true) ∧ Below W.heap.size W w' := by
  have b0 := bO0
  have G0 := Lib.hid ((Fr.start W).push (g := W.heap.size) rfl [.int .i64 op, .int .i64 rg, .int .i64 ty, .int .i64 n, .int .i64 fl, .slice ap al ac, .slice tp tl tc] 25)
  go_enter Try.func4, Try.ntmps4
  go_wp2_with (first
    | ((with_reducible refine (livesF_any _).mono ?_); rintro e w1 ⟨rfl, hb⟩; have F := G0.out.later hb; obtain ⟨i0, i1, i2, i3, i4, i5, i6⟩ := F.c7 0 rfl; have iz := (F.at 0 rfl).2.1; have d1 := cF _ F.1; have G1 := Lib.hid F; clear F hb)
    | ((with_reducible refine d1.mono ?_); rintro e w2 ⟨rfl, hb⟩; have F := G1.out.later hb; have G2 := Lib.hid F; clear F hb))
  go_ret
  exact ⟨rfl, (G2.out.alloc _).1⟩
theorem evals_poi (op rg ty n fl : Int) (ap : Option Addr) (m ac : Nat) (tp : Option Addr) (tl tc : Nat) (W : World) (hm : ¬ 3 < (m : Int)) (args : List Arg) (hl : ListIn argC NoMem W.heap.size W ap m ac args) (cF : ∀ w, Below W.heap.size W w → Calls Try.prog 6 #[.agg #[.int .i64 op, .int .i64 rg, .int .i64 ty, .int .i64 n, .int .i64 fl, .slice ap m ac, .slice tp tl tc]] w fun e w' => e = .returned (.tuple #[.agg #[.int .i64 3, .int .i64 0, .int .u64 0], .bool true]) ∧ Below w.heap.size w w')
    (cE : ∀ q d w, VlsIn w.heap.size w q m d (args.map lvD) → Calls Try.prog 9 #[.agg #[.int .i64 op, .int .i64 rg, .int .i64 ty, .int .i64 n, .int .i64 fl, .slice ap m ac, .slice tp tl tc], .slice q m d] w fun e w' => e = .returned (.tuple #[.agg #[.int .i64 0, .int .u64 0, .int .i64 0, .int .i64 0], .int .i64 0]) ∧ Below w.heap.size w w')
    (cG : ∀ w, Calls Try.prog 8 #[.agg #[.int .i64 3, .int .i64 0, .int .u64 0]] w fun e w' => e = .returned (.agg #[.int .i64 0, .int .u64 0, .int .i64 0, .int .i64 0]) ∧ Below w.heap.size w w')
    (cC : ∀ W, Calls Try.prog 10 #[.int .i64 op] W fun e w' => e = .returned (.bool true) ∧ W = w') : Calls Try.prog 4 #[.agg #[.int .i64 op, .int .i64 rg, .int .i64 ty, .int .i64 n, .int .i64 fl, .slice ap m ac, .slice tp tl tc]] W fun e w' => e = .returned (.bool true) ∧ Below W.heap.size W w' := by
  have H := Lib.hid hl
  have hc1 := hl.2.1
  have hc2 := hl.2.2.1
  unfold maxLen at hc2
  obtain ⟨iV, hiV⟩ := info_parts infoVal
  have HI := Lib.hid hiV
  have EM := Lib.hid hl.1
  have hz : m ≤ 3 := by omega
  clear hl hiV
  have G0 := Lib.hid ((Fr.start W).push (g := W.heap.size) rfl [.int .i64 op, .int .i64 rg, .int .i64 ty, .int .i64 n, .int .i64 fl, .slice ap m ac, .slice tp tl tc] 25)
  go_enter Try.func4, Try.ntmps4
  go_wp2_with (first
    | ((with_reducible refine (livesF_any _).mono ?_); rintro e w1 ⟨rfl, hb⟩; have F := G0.out.later hb; obtain ⟨i0, i1, i2, i3, i4, i5, i6⟩ := F.c7 0 rfl; have iz := (F.at 0 rfl).2.1; have d1 := cF _ F.1; have G1 := Lib.hid F; clear F hb)
    | ((with_reducible refine d1.mono ?_); rintro e w2 ⟨rfl, hb⟩; have F := G1.out.later hb; clear i0 i1 i2 i3 i4 i5 i6 iz; obtain ⟨i0, i1, i2, i3, i4, i5, i6⟩ := F.c7 0 rfl; have iz := (F.at 0 rfl).2.1; have G2 := Lib.hid F; clear F hb))
  obtain ⟨gx, egx⟩ : ∃ gx, w2.heap.size = gx := ⟨_, rfl⟩
  have hS0 : St W.heap.size W (As.and (bx gx [.int .i64 3, .int .i64 0, .int .u64 0]) (As.and (bx W.heap.size [.int .i64 op, .int .i64 rg, .int .i64 ty, .int .i64 n, .int .i64 fl, .slice ap m ac, .slice tp tl tc]) As.emp)) (w2.alloc (.cells #[.int .i64 3, .int .i64 0, .int .u64 0] 29)) := by
    have h1 : St W.heap.size W (As.and (bx W.heap.size [.int .i64 op, .int .i64 rg, .int .i64 ty, .int .i64 n, .int .i64 fl, .slice ap m ac, .slice tp tl tc]) As.emp) w2 := by
      refine ⟨G2.out.1, G2.out.1.size, ⟨(G2.out.at 0 rfl).2, trivial⟩, fun k => ?_, fun k hk => ?_⟩
      · simp only [As.and_c, bx_c, As.emp_c]; split <;> omega
      · simp only [As.and_c, bx_c, As.emp_c] at hk; split at hk <;> omega
    exact h1.push egx.symm [.int .i64 3, .int .i64 0, .int .u64 0] 29
  have HS0 : Hid (St W.heap.size W (As.and (rw' W.heap.size 35 4 vlC none 0 0 ((args.map lvD).take 0)) (As.and (bx gx [.int .i64 3, .int .i64 0, .int .u64 0]) (As.and (bx W.heap.size [.int .i64 op, .int .i64 rg, .int .i64 ty, .int .i64 n, .int .i64 fl, .slice ap m ac, .slice tp tl tc]) As.emp))) (w2.alloc (.cells #[.int .i64 3, .int .i64 0, .int .u64 0] 29))) := Lib.hid (hS0.imp ⟨fun w x => ⟨rw_nil w, x⟩, fun k => by simp only [As.and_c, rw_c, cR]; omega⟩)
  simp only [egx]
  clear hS0 egx G2
  go_loopw [5, 30] (fun s u wr => ∃ (k : Nat) (q : Option Addr) (d : Nat), k ≤ m ∧ s = .slice q k d ∧ u = .int .i64 k ∧ St W.heap.size W (As.and (rw' W.heap.size 35 4 vlC q k d ((args.map lvD).take k)) (As.and (bx gx [.int .i64 3, .int .i64 0, .int .u64 0]) (As.and (bx W.heap.size [.int .i64 op, .int .i64 rg, .int .i64 ty, .int .i64 n, .int .i64 fl, .slice ap m ac, .slice tp tl tc]) As.emp))) wr) (fun _ u _ => m - (intOf u).toNat)
  case atStart => exact ⟨0, none, 0, Nat.zero_le _, rfl, rfl, HS0.out⟩
  case round =>
    clear HS0 i0 i1 i2 i3 i4 i5 i6 iz
    obtain ⟨k, q, d, hk, rfl, rfl, hS⟩ := hrel
    have hb0 : Box W.heap.size [.int .i64 op, .int .i64 rg, .int .i64 ty, .int .i64 n, .int .i64 fl, .slice ap m ac, .slice tp tl tc] wr := hS.sat.2.2.1
    have hb1 : Box gx [.int .i64 3, .int .i64 0, .int .u64 0] wr := hS.sat.2.1
    have i0 := hb0.get 0 _ rfl
    have i1 := hb0.get 1 _ rfl
    have i2 := hb0.get 2 _ rfl
    have i3 := hb0.get 3 _ rfl
    have i4 := hb0.get 4 _ rfl
    have i5 := hb0.get 5 _ rfl
    have i6 := hb0.get 6 _ rfl
    have v0 := hb1.get 0 _ rfl
    have v1 := hb1.get 1 _ rfl
    have v2 := hb1.get 2 _ rfl
    clear hb0 hb1
    by_cases hkm : k < m
    · have hka : k < args.length := by have := EM.out; omega
      obtain ⟨a, rfl, ha, hA⟩ := arg_row H.out k hka
      obtain ⟨⟨ak, an, ab⟩, ev⟩ : ∃ v, args[k] = v := ⟨_, rfl⟩
      rw [ev] at hA
      have hA2 := hA.below hS.below (by rw [add_block]; exact ha)
      obtain ⟨f0, f1, f2⟩ := hA2
      simp only at f0 f1 f2
      have awr := Nat.lt_of_lt_of_le ha hS.below.size
      have cL := fun W => value_any ⟨ak, an, ab⟩ W
      have hlen : ((args.map lvD).take k).length = k := by rw [List.length_take, List.length_map]; omega
      have hnx : (args.map lvD).take k ++ [lvD ⟨ak, an, ab⟩] = (args.map lvD).take (k + 1) := by rw [List.take_add_one, List.getElem?_map, List.getElem?_eq_getElem hka, ev]; rfl
      obtain ⟨⟨vk, vb, vbk, vo⟩, el⟩ : ∃ v, lvD ⟨ak, an, ab⟩ = v := ⟨_, rfl⟩
      rw [el] at hnx
      rw [el] at cL
      replace cL : ∀ W, Calls Try.prog 8 #[.agg #[.int .i64 ak, .int .i64 an, .int .u64 ab]] W fun e w' => e = .returned (.agg #[.int .i64 vk, .int .u64 vb, .int .i64 vbk, .int .i64 vo]) ∧ Below W.heap.size W w' := cL
      have HL := Lib.hid (And.intro hlen (And.intro hnx (And.intro hk hz)))
      have HS := Lib.hid hS
      clear hS hnx hlen hA ev el cG cE cC cF
      go_wp2_with (first
        | ((with_reducible refine (cL _).mono ?_); rintro e w4 ⟨rfl, hb⟩; have S1 := Lib.hid ((HS.out.alloc _).later hb); clear hb)
        | (at_builtin; refine wpList_app rfl (.tmp 34) (.tmp 37) 33 rfl iV _ 32 Try.underlying33 HI.out.1 HI.out.2.1 HI.out.2.2.1 HI.out.2.2.2 rfl (by decide) rfl (S1.out.alloc _) ⟨vk, vb, vbk, vo⟩ _ 1 rfl rfl (lit_cells _ _ _) (vlC_one _) (by have := HL.out.1; have := HL.out.2.2.2; unfold maxLen; omega) (by have := HL.out.1; have := HL.out.2.2.2; omega) ?_; intro p' c' w' hS'; have HS9 := Lib.hid hS'; clear hS'))
      have hS9 : Hid (St W.heap.size W (As.and (rw' W.heap.size 35 4 vlC p' (k + 1) c' ((args.map lvD).take (k + 1))) (As.and (bx gx [.int .i64 3, .int .i64 0, .int .u64 0]) (As.and (bx W.heap.size [.int .i64 op, .int .i64 rg, .int .i64 ty, .int .i64 n, .int .i64 fl, .slice (some a) m ac, .slice tp tl tc]) As.emp))) w') := Lib.hid (by have h := HS9.out; rw [HL.out.1, HL.out.2.1] at h; exact h)
      exact ⟨⟨k + 1, _, _, by omega, by have := EM.out; first | rfl | rw [HL.out.1] | rw [Nat.min_eq_left (by omega)], by go_num, hS9.out⟩, by simp [intOf]; omega⟩
    · obtain rfl : k = m := by omega
      have e1 : (args.map lvD).take k = args.map lvD := List.take_of_length_le (by rw [List.length_map]; have := EM.out; omega)
      rw [e1] at hS
      have hin : VlsIn wr.heap.size wr q k d (args.map lvD) := rowP_in vlC_len hS.sat.1 (fun _ _ => trivial)
      have dE := cE _ _ _ hin
      have F : Fr W [(gx, [.int .i64 3, .int .i64 0, .int .u64 0]), (W.heap.size, [.int .i64 op, .int .i64 rg, .int .i64 ty, .int .i64 n, .int .i64 fl, .slice ap k ac, .slice tp tl tc])] wr := ⟨hS.below, fun x hx => by
        simp only [List.mem_cons, List.not_mem_nil, or_false] at hx
        rcases hx with rfl | rfl
        · exact ⟨hS.own gx (by simp only [As.and_c, bx_c, if_true]; omega), hS.sat.2.1⟩
        · exact ⟨Nat.le_refl _, hS.sat.2.2.1⟩⟩
      have G3 := Lib.hid F
      clear hS hin e1 F cE cF
      go_wp2_with (first
        | ((with_reducible refine dE.mono ?_); rintro e w4 ⟨rfl, hb⟩; have F := G3.out.later hb; clear i0 i1 i2 i3 i4 i5 i6 v0 v1 v2; obtain ⟨i0, i1, i2, i3, i4, i5, i6⟩ := F.c7 1 rfl; obtain ⟨v0, v1, v2, -⟩ := F.c3 0 rfl; have vz := (F.at 0 rfl).2.1; have iz := (F.at 1 rfl).2.1; have G4 := Lib.hid (F.push (g := w4.heap.size) rfl [.int .i64 0, .int .u64 0, .int .i64 0, .int .i64 0] 35); clear F hb)
        | ((with_reducible refine (cG _).mono ?_); rintro e w5 ⟨rfl, hb⟩; have F := G4.out.later hb; clear i0 i1 i2 i3 i4 i5 i6 v0 v1 v2 vz iz; obtain ⟨i0, i1, i2, i3, i4, i5, i6⟩ := F.c7 2 rfl; obtain ⟨v0, v1, v2, -⟩ := F.c3 1 rfl; obtain ⟨x0, x1, x2, x3, -⟩ := F.c4 0 rfl; have xz := (F.at 0 rfl).2.1; have vz := (F.at 1 rfl).2.1; have iz := (F.at 2 rfl).2.1; have G5 := Lib.hid (F.push (g := w5.heap.size) rfl [.int .i64 0, .int .u64 0, .int .i64 0, .int .i64 0] 35); clear F hb)
        | ((with_reducible refine (cC _).mono ?_); rintro e w6 ⟨rfl, rfl⟩))
      go_ret
      exact ⟨rfl, G5.out.1⟩
theorem evals_num (op rg ty n fl : Int) (ap : Option Addr) (m ac : Nat) (tp : Option Addr) (tl tc : Nat) (W : World) (hm : ¬ 3 < (m : Int)) (x : Int) (args : List Arg) (hl : ListIn argC NoMem W.heap.size W ap m ac args) (cF : ∀ w, Below W.heap.size W w → Calls Try.prog 6 #[.agg #[.int .i64 op, .int .i64 rg, .int .i64 ty, .int .i64 n, .int .i64 fl, .slice ap m ac, .slice tp tl tc]] w fun e w' => e = .returned (.tuple #[.agg #[.int .i64 2, .int .i64 0, .int .u64 x], .bool true]) ∧ Below w.heap.size w w')
    (cE : ∀ q d w, VlsIn w.heap.size w q m d (args.map lvD) → Calls Try.prog 9 #[.agg #[.int .i64 op, .int .i64 rg, .int .i64 ty, .int .i64 n, .int .i64 fl, .slice ap m ac, .slice tp tl tc], .slice q m d] w fun e w' => e = .returned (.tuple #[.agg #[.int .i64 1, .int .u64 x, .int .i64 0, .int .i64 0], .int .i64 0]) ∧ Below w.heap.size w w')
    (cG : ∀ w, Calls Try.prog 8 #[.agg #[.int .i64 2, .int .i64 0, .int .u64 x]] w fun e w' => e = .returned (.agg #[.int .i64 1, .int .u64 x, .int .i64 0, .int .i64 0]) ∧ Below w.heap.size w w')
    (cC : ∀ W, Calls Try.prog 10 #[.int .i64 op] W fun e w' => e = .returned (.bool true) ∧ W = w') : Calls Try.prog 4 #[.agg #[.int .i64 op, .int .i64 rg, .int .i64 ty, .int .i64 n, .int .i64 fl, .slice ap m ac, .slice tp tl tc]] W fun e w' => e = .returned (.bool true) ∧ Below W.heap.size W w' := by
  have H := Lib.hid hl
  have hc1 := hl.2.1
  have hc2 := hl.2.2.1
  unfold maxLen at hc2
  obtain ⟨iV, hiV⟩ := info_parts infoVal
  have HI := Lib.hid hiV
  have EM := Lib.hid hl.1
  have hz : m ≤ 3 := by omega
  clear hl hiV
  have G0 := Lib.hid ((Fr.start W).push (g := W.heap.size) rfl [.int .i64 op, .int .i64 rg, .int .i64 ty, .int .i64 n, .int .i64 fl, .slice ap m ac, .slice tp tl tc] 25)
  go_enter Try.func4, Try.ntmps4
  go_wp2_with (first
    | ((with_reducible refine (livesF_any _).mono ?_); rintro e w1 ⟨rfl, hb⟩; have F := G0.out.later hb; obtain ⟨i0, i1, i2, i3, i4, i5, i6⟩ := F.c7 0 rfl; have iz := (F.at 0 rfl).2.1; have d1 := cF _ F.1; have G1 := Lib.hid F; clear F hb)
    | ((with_reducible refine d1.mono ?_); rintro e w2 ⟨rfl, hb⟩; have F := G1.out.later hb; clear i0 i1 i2 i3 i4 i5 i6 iz; obtain ⟨i0, i1, i2, i3, i4, i5, i6⟩ := F.c7 0 rfl; have iz := (F.at 0 rfl).2.1; have G2 := Lib.hid F; clear F hb))
  obtain ⟨gx, egx⟩ : ∃ gx, w2.heap.size = gx := ⟨_, rfl⟩
  have hS0 : St W.heap.size W (As.and (bx gx [.int .i64 2, .int .i64 0, .int .u64 x]) (As.and (bx W.heap.size [.int .i64 op, .int .i64 rg, .int .i64 ty, .int .i64 n, .int .i64 fl, .slice ap m ac, .slice tp tl tc]) As.emp)) (w2.alloc (.cells #[.int .i64 2, .int .i64 0, .int .u64 x] 29)) := by
    have h1 : St W.heap.size W (As.and (bx W.heap.size [.int .i64 op, .int .i64 rg, .int .i64 ty, .int .i64 n, .int .i64 fl, .slice ap m ac, .slice tp tl tc]) As.emp) w2 := by
      refine ⟨G2.out.1, G2.out.1.size, ⟨(G2.out.at 0 rfl).2, trivial⟩, fun k => ?_, fun k hk => ?_⟩
      · simp only [As.and_c, bx_c, As.emp_c]; split <;> omega
      · simp only [As.and_c, bx_c, As.emp_c] at hk; split at hk <;> omega
    exact h1.push egx.symm [.int .i64 2, .int .i64 0, .int .u64 x] 29
  have HS0 : Hid (St W.heap.size W (As.and (rw' W.heap.size 35 4 vlC none 0 0 ((args.map lvD).take 0)) (As.and (bx gx [.int .i64 2, .int .i64 0, .int .u64 x]) (As.and (bx W.heap.size [.int .i64 op, .int .i64 rg, .int .i64 ty, .int .i64 n, .int .i64 fl, .slice ap m ac, .slice tp tl tc]) As.emp))) (w2.alloc (.cells #[.int .i64 2, .int .i64 0, .int .u64 x] 29))) := Lib.hid (hS0.imp ⟨fun w x => ⟨rw_nil w, x⟩, fun k => by simp only [As.and_c, rw_c, cR]; omega⟩)
  simp only [egx]
  clear hS0 egx G2
  go_loopw [5, 30] (fun s u wr => ∃ (k : Nat) (q : Option Addr) (d : Nat), k ≤ m ∧ s = .slice q k d ∧ u = .int .i64 k ∧ St W.heap.size W (As.and (rw' W.heap.size 35 4 vlC q k d ((args.map lvD).take k)) (As.and (bx gx [.int .i64 2, .int .i64 0, .int .u64 x]) (As.and (bx W.heap.size [.int .i64 op, .int .i64 rg, .int .i64 ty, .int .i64 n, .int .i64 fl, .slice ap m ac, .slice tp tl tc]) As.emp))) wr) (fun _ u _ => m - (intOf u).toNat)
  case atStart => exact ⟨0, none, 0, Nat.zero_le _, rfl, rfl, HS0.out⟩
  case round =>
    clear HS0 i0 i1 i2 i3 i4 i5 i6 iz
    obtain ⟨k, q, d, hk, rfl, rfl, hS⟩ := hrel
    have hb0 : Box W.heap.size [.int .i64 op, .int .i64 rg, .int .i64 ty, .int .i64 n, .int .i64 fl, .slice ap m ac, .slice tp tl tc] wr := hS.sat.2.2.1
    have hb1 : Box gx [.int .i64 2, .int .i64 0, .int .u64 x] wr := hS.sat.2.1
    have i0 := hb0.get 0 _ rfl
    have i1 := hb0.get 1 _ rfl
    have i2 := hb0.get 2 _ rfl
    have i3 := hb0.get 3 _ rfl
    have i4 := hb0.get 4 _ rfl
    have i5 := hb0.get 5 _ rfl
    have i6 := hb0.get 6 _ rfl
    have v0 := hb1.get 0 _ rfl
    have v1 := hb1.get 1 _ rfl
    have v2 := hb1.get 2 _ rfl
    clear hb0 hb1
    by_cases hkm : k < m
    · have hka : k < args.length := by have := EM.out; omega
      obtain ⟨a, rfl, ha, hA⟩ := arg_row H.out k hka
      obtain ⟨⟨ak, an, ab⟩, ev⟩ : ∃ v, args[k] = v := ⟨_, rfl⟩
      rw [ev] at hA
      have hA2 := hA.below hS.below (by rw [add_block]; exact ha)
      obtain ⟨f0, f1, f2⟩ := hA2
      simp only at f0 f1 f2
      have awr := Nat.lt_of_lt_of_le ha hS.below.size
      have cL := fun W => value_any ⟨ak, an, ab⟩ W
      have hlen : ((args.map lvD).take k).length = k := by rw [List.length_take, List.length_map]; omega
      have hnx : (args.map lvD).take k ++ [lvD ⟨ak, an, ab⟩] = (args.map lvD).take (k + 1) := by rw [List.take_add_one, List.getElem?_map, List.getElem?_eq_getElem hka, ev]; rfl
      obtain ⟨⟨vk, vb, vbk, vo⟩, el⟩ : ∃ v, lvD ⟨ak, an, ab⟩ = v := ⟨_, rfl⟩
      rw [el] at hnx
      rw [el] at cL
      replace cL : ∀ W, Calls Try.prog 8 #[.agg #[.int .i64 ak, .int .i64 an, .int .u64 ab]] W fun e w' => e = .returned (.agg #[.int .i64 vk, .int .u64 vb, .int .i64 vbk, .int .i64 vo]) ∧ Below W.heap.size W w' := cL
      have HL := Lib.hid (And.intro hlen (And.intro hnx (And.intro hk hz)))
      have HS := Lib.hid hS
      clear hS hnx hlen hA ev el cG cE cC cF
      go_wp2_with (first
        | ((with_reducible refine (cL _).mono ?_); rintro e w4 ⟨rfl, hb⟩; have S1 := Lib.hid ((HS.out.alloc _).later hb); clear hb)
        | (at_builtin; refine wpList_app rfl (.tmp 34) (.tmp 37) 33 rfl iV _ 32 Try.underlying33 HI.out.1 HI.out.2.1 HI.out.2.2.1 HI.out.2.2.2 rfl (by decide) rfl (S1.out.alloc _) ⟨vk, vb, vbk, vo⟩ _ 1 rfl rfl (lit_cells _ _ _) (vlC_one _) (by have := HL.out.1; have := HL.out.2.2.2; unfold maxLen; omega) (by have := HL.out.1; have := HL.out.2.2.2; omega) ?_; intro p' c' w' hS'; have HS9 := Lib.hid hS'; clear hS'))
      have hS9 : Hid (St W.heap.size W (As.and (rw' W.heap.size 35 4 vlC p' (k + 1) c' ((args.map lvD).take (k + 1))) (As.and (bx gx [.int .i64 2, .int .i64 0, .int .u64 x]) (As.and (bx W.heap.size [.int .i64 op, .int .i64 rg, .int .i64 ty, .int .i64 n, .int .i64 fl, .slice (some a) m ac, .slice tp tl tc]) As.emp))) w') := Lib.hid (by have h := HS9.out; rw [HL.out.1, HL.out.2.1] at h; exact h)
      exact ⟨⟨k + 1, _, _, by omega, by have := EM.out; first | rfl | rw [HL.out.1] | rw [Nat.min_eq_left (by omega)], by go_num, hS9.out⟩, by simp [intOf]; omega⟩
    · obtain rfl : k = m := by omega
      have e1 : (args.map lvD).take k = args.map lvD := List.take_of_length_le (by rw [List.length_map]; have := EM.out; omega)
      rw [e1] at hS
      have hin : VlsIn wr.heap.size wr q k d (args.map lvD) := rowP_in vlC_len hS.sat.1 (fun _ _ => trivial)
      have dE := cE _ _ _ hin
      have F : Fr W [(gx, [.int .i64 2, .int .i64 0, .int .u64 x]), (W.heap.size, [.int .i64 op, .int .i64 rg, .int .i64 ty, .int .i64 n, .int .i64 fl, .slice ap k ac, .slice tp tl tc])] wr := ⟨hS.below, fun x hx => by
        simp only [List.mem_cons, List.not_mem_nil, or_false] at hx
        rcases hx with rfl | rfl
        · exact ⟨hS.own gx (by simp only [As.and_c, bx_c, if_true]; omega), hS.sat.2.1⟩
        · exact ⟨Nat.le_refl _, hS.sat.2.2.1⟩⟩
      have G3 := Lib.hid F
      clear hS hin e1 F cE cF
      go_wp2_with (first
        | ((with_reducible refine dE.mono ?_); rintro e w4 ⟨rfl, hb⟩; have F := G3.out.later hb; clear i0 i1 i2 i3 i4 i5 i6 v0 v1 v2; obtain ⟨i0, i1, i2, i3, i4, i5, i6⟩ := F.c7 1 rfl; obtain ⟨v0, v1, v2, -⟩ := F.c3 0 rfl; have vz := (F.at 0 rfl).2.1; have iz := (F.at 1 rfl).2.1; have G4 := Lib.hid (F.push (g := w4.heap.size) rfl [.int .i64 1, .int .u64 x, .int .i64 0, .int .i64 0] 35); clear F hb)
        | ((with_reducible refine (cG _).mono ?_); rintro e w5 ⟨rfl, hb⟩; have F := G4.out.later hb; clear i0 i1 i2 i3 i4 i5 i6 v0 v1 v2 vz iz; obtain ⟨i0, i1, i2, i3, i4, i5, i6⟩ := F.c7 2 rfl; obtain ⟨v0, v1, v2, -⟩ := F.c3 1 rfl; obtain ⟨x0, x1, x2, x3, -⟩ := F.c4 0 rfl; have xz := (F.at 0 rfl).2.1; have vz := (F.at 1 rfl).2.1; have iz := (F.at 2 rfl).2.1; have G5 := Lib.hid (F.push (g := w5.heap.size) rfl [.int .i64 1, .int .u64 x, .int .i64 0, .int .i64 0] 35); clear F hb)
        | ((with_reducible refine (cC _).mono ?_); rintro e w6 ⟨rfl, rfl⟩))
      go_ret
      exact ⟨rfl, G5.out.1⟩
theorem evals_nul (op rg ty n fl : Int) (ap : Option Addr) (m ac : Nat) (tp : Option Addr) (tl tc : Nat) (W : World) (hm : ¬ 3 < (m : Int)) (args : List Arg) (hl : ListIn argC NoMem W.heap.size W ap m ac args) (cF : ∀ w, Below W.heap.size W w → Calls Try.prog 6 #[.agg #[.int .i64 op, .int .i64 rg, .int .i64 ty, .int .i64 n, .int .i64 fl, .slice ap m ac, .slice tp tl tc]] w fun e w' => e = .returned (.tuple #[.agg #[.int .i64 4, .int .i64 0, .int .u64 0], .bool true]) ∧ Below w.heap.size w w')
    (cE : ∀ q d w, VlsIn w.heap.size w q m d (args.map lvD) → Calls Try.prog 9 #[.agg #[.int .i64 op, .int .i64 rg, .int .i64 ty, .int .i64 n, .int .i64 fl, .slice ap m ac, .slice tp tl tc], .slice q m d] w fun e w' => e = .returned (.tuple #[.agg #[.int .i64 2, .int .u64 0, .int .i64 (-1), .int .i64 0], .int .i64 0]) ∧ Below w.heap.size w w')
    (cG : ∀ w, Calls Try.prog 8 #[.agg #[.int .i64 4, .int .i64 0, .int .u64 0]] w fun e w' => e = .returned (.agg #[.int .i64 2, .int .u64 0, .int .i64 (-1), .int .i64 0]) ∧ Below w.heap.size w w')
    (cC : ∀ W, Calls Try.prog 10 #[.int .i64 op] W fun e w' => e = .returned (.bool true) ∧ W = w') : Calls Try.prog 4 #[.agg #[.int .i64 op, .int .i64 rg, .int .i64 ty, .int .i64 n, .int .i64 fl, .slice ap m ac, .slice tp tl tc]] W fun e w' => e = .returned (.bool true) ∧ Below W.heap.size W w' := by
  have H := Lib.hid hl
  have hc1 := hl.2.1
  have hc2 := hl.2.2.1
  unfold maxLen at hc2
  obtain ⟨iV, hiV⟩ := info_parts infoVal
  have HI := Lib.hid hiV
  have EM := Lib.hid hl.1
  have hz : m ≤ 3 := by omega
  clear hl hiV
  have G0 := Lib.hid ((Fr.start W).push (g := W.heap.size) rfl [.int .i64 op, .int .i64 rg, .int .i64 ty, .int .i64 n, .int .i64 fl, .slice ap m ac, .slice tp tl tc] 25)
  go_enter Try.func4, Try.ntmps4
  go_wp2_with (first
    | ((with_reducible refine (livesF_any _).mono ?_); rintro e w1 ⟨rfl, hb⟩; have F := G0.out.later hb; obtain ⟨i0, i1, i2, i3, i4, i5, i6⟩ := F.c7 0 rfl; have iz := (F.at 0 rfl).2.1; have d1 := cF _ F.1; have G1 := Lib.hid F; clear F hb)
    | ((with_reducible refine d1.mono ?_); rintro e w2 ⟨rfl, hb⟩; have F := G1.out.later hb; clear i0 i1 i2 i3 i4 i5 i6 iz; obtain ⟨i0, i1, i2, i3, i4, i5, i6⟩ := F.c7 0 rfl; have iz := (F.at 0 rfl).2.1; have G2 := Lib.hid F; clear F hb))
  obtain ⟨gx, egx⟩ : ∃ gx, w2.heap.size = gx := ⟨_, rfl⟩
  have hS0 : St W.heap.size W (As.and (bx gx [.int .i64 4, .int .i64 0, .int .u64 0]) (As.and (bx W.heap.size [.int .i64 op, .int .i64 rg, .int .i64 ty, .int .i64 n, .int .i64 fl, .slice ap m ac, .slice tp tl tc]) As.emp)) (w2.alloc (.cells #[.int .i64 4, .int .i64 0, .int .u64 0] 29)) := by
    have h1 : St W.heap.size W (As.and (bx W.heap.size [.int .i64 op, .int .i64 rg, .int .i64 ty, .int .i64 n, .int .i64 fl, .slice ap m ac, .slice tp tl tc]) As.emp) w2 := by
      refine ⟨G2.out.1, G2.out.1.size, ⟨(G2.out.at 0 rfl).2, trivial⟩, fun k => ?_, fun k hk => ?_⟩
      · simp only [As.and_c, bx_c, As.emp_c]; split <;> omega
      · simp only [As.and_c, bx_c, As.emp_c] at hk; split at hk <;> omega
    exact h1.push egx.symm [.int .i64 4, .int .i64 0, .int .u64 0] 29
  have HS0 : Hid (St W.heap.size W (As.and (rw' W.heap.size 35 4 vlC none 0 0 ((args.map lvD).take 0)) (As.and (bx gx [.int .i64 4, .int .i64 0, .int .u64 0]) (As.and (bx W.heap.size [.int .i64 op, .int .i64 rg, .int .i64 ty, .int .i64 n, .int .i64 fl, .slice ap m ac, .slice tp tl tc]) As.emp))) (w2.alloc (.cells #[.int .i64 4, .int .i64 0, .int .u64 0] 29))) := Lib.hid (hS0.imp ⟨fun w x => ⟨rw_nil w, x⟩, fun k => by simp only [As.and_c, rw_c, cR]; omega⟩)
  simp only [egx]
  clear hS0 egx G2
  go_loopw [5, 30] (fun s u wr => ∃ (k : Nat) (q : Option Addr) (d : Nat), k ≤ m ∧ s = .slice q k d ∧ u = .int .i64 k ∧ St W.heap.size W (As.and (rw' W.heap.size 35 4 vlC q k d ((args.map lvD).take k)) (As.and (bx gx [.int .i64 4, .int .i64 0, .int .u64 0]) (As.and (bx W.heap.size [.int .i64 op, .int .i64 rg, .int .i64 ty, .int .i64 n, .int .i64 fl, .slice ap m ac, .slice tp tl tc]) As.emp))) wr) (fun _ u _ => m - (intOf u).toNat)
  case atStart => exact ⟨0, none, 0, Nat.zero_le _, rfl, rfl, HS0.out⟩
  case round =>
    clear HS0 i0 i1 i2 i3 i4 i5 i6 iz
    obtain ⟨k, q, d, hk, rfl, rfl, hS⟩ := hrel
    have hb0 : Box W.heap.size [.int .i64 op, .int .i64 rg, .int .i64 ty, .int .i64 n, .int .i64 fl, .slice ap m ac, .slice tp tl tc] wr := hS.sat.2.2.1
    have hb1 : Box gx [.int .i64 4, .int .i64 0, .int .u64 0] wr := hS.sat.2.1
    have i0 := hb0.get 0 _ rfl
    have i1 := hb0.get 1 _ rfl
    have i2 := hb0.get 2 _ rfl
    have i3 := hb0.get 3 _ rfl
    have i4 := hb0.get 4 _ rfl
    have i5 := hb0.get 5 _ rfl
    have i6 := hb0.get 6 _ rfl
    have v0 := hb1.get 0 _ rfl
    have v1 := hb1.get 1 _ rfl
    have v2 := hb1.get 2 _ rfl
    clear hb0 hb1
    by_cases hkm : k < m
    · have hka : k < args.length := by have := EM.out; omega
      obtain ⟨a, rfl, ha, hA⟩ := arg_row H.out k hka
      obtain ⟨⟨ak, an, ab⟩, ev⟩ : ∃ v, args[k] = v := ⟨_, rfl⟩
      rw [ev] at hA
      have hA2 := hA.below hS.below (by rw [add_block]; exact ha)
      obtain ⟨f0, f1, f2⟩ := hA2
      simp only at f0 f1 f2
      have awr := Nat.lt_of_lt_of_le ha hS.below.size
      have cL := fun W => value_any ⟨ak, an, ab⟩ W
      have hlen : ((args.map lvD).take k).length = k := by rw [List.length_take, List.length_map]; omega
      have hnx : (args.map lvD).take k ++ [lvD ⟨ak, an, ab⟩] = (args.map lvD).take (k + 1) := by rw [List.take_add_one, List.getElem?_map, List.getElem?_eq_getElem hka, ev]; rfl
      obtain ⟨⟨vk, vb, vbk, vo⟩, el⟩ : ∃ v, lvD ⟨ak, an, ab⟩ = v := ⟨_, rfl⟩
      rw [el] at hnx
      rw [el] at cL
      replace cL : ∀ W, Calls Try.prog 8 #[.agg #[.int .i64 ak, .int .i64 an, .int .u64 ab]] W fun e w' => e = .returned (.agg #[.int .i64 vk, .int .u64 vb, .int .i64 vbk, .int .i64 vo]) ∧ Below W.heap.size W w' := cL
      have HL := Lib.hid (And.intro hlen (And.intro hnx (And.intro hk hz)))
      have HS := Lib.hid hS
      clear hS hnx hlen hA ev el cG cE cC cF
      go_wp2_with (first
        | ((with_reducible refine (cL _).mono ?_); rintro e w4 ⟨rfl, hb⟩; have S1 := Lib.hid ((HS.out.alloc _).later hb); clear hb)
        | (at_builtin; refine wpList_app rfl (.tmp 34) (.tmp 37) 33 rfl iV _ 32 Try.underlying33 HI.out.1 HI.out.2.1 HI.out.2.2.1 HI.out.2.2.2 rfl (by decide) rfl (S1.out.alloc _) ⟨vk, vb, vbk, vo⟩ _ 1 rfl rfl (lit_cells _ _ _) (vlC_one _) (by have := HL.out.1; have := HL.out.2.2.2; unfold maxLen; omega) (by have := HL.out.1; have := HL.out.2.2.2; omega) ?_; intro p' c' w' hS'; have HS9 := Lib.hid hS'; clear hS'))
      have hS9 : Hid (St W.heap.size W (As.and (rw' W.heap.size 35 4 vlC p' (k + 1) c' ((args.map lvD).take (k + 1))) (As.and (bx gx [.int .i64 4, .int .i64 0, .int .u64 0]) (As.and (bx W.heap.size [.int .i64 op, .int .i64 rg, .int .i64 ty, .int .i64 n, .int .i64 fl, .slice (some a) m ac, .slice tp tl tc]) As.emp))) w') := Lib.hid (by have h := HS9.out; rw [HL.out.1, HL.out.2.1] at h; exact h)
      exact ⟨⟨k + 1, _, _, by omega, by have := EM.out; first | rfl | rw [HL.out.1] | rw [Nat.min_eq_left (by omega)], by go_num, hS9.out⟩, by simp [intOf]; omega⟩
    · obtain rfl : k = m := by omega
      have e1 : (args.map lvD).take k = args.map lvD := List.take_of_length_le (by rw [List.length_map]; have := EM.out; omega)
      rw [e1] at hS
      have hin : VlsIn wr.heap.size wr q k d (args.map lvD) := rowP_in vlC_len hS.sat.1 (fun _ _ => trivial)
      have dE := cE _ _ _ hin
      have F : Fr W [(gx, [.int .i64 4, .int .i64 0, .int .u64 0]), (W.heap.size, [.int .i64 op, .int .i64 rg, .int .i64 ty, .int .i64 n, .int .i64 fl, .slice ap k ac, .slice tp tl tc])] wr := ⟨hS.below, fun x hx => by
        simp only [List.mem_cons, List.not_mem_nil, or_false] at hx
        rcases hx with rfl | rfl
        · exact ⟨hS.own gx (by simp only [As.and_c, bx_c, if_true]; omega), hS.sat.2.1⟩
        · exact ⟨Nat.le_refl _, hS.sat.2.2.1⟩⟩
      have G3 := Lib.hid F
      clear hS hin e1 F cE cF
      go_wp2_with (first
        | ((with_reducible refine dE.mono ?_); rintro e w4 ⟨rfl, hb⟩; have F := G3.out.later hb; clear i0 i1 i2 i3 i4 i5 i6 v0 v1 v2; obtain ⟨i0, i1, i2, i3, i4, i5, i6⟩ := F.c7 1 rfl; obtain ⟨v0, v1, v2, -⟩ := F.c3 0 rfl; have vz := (F.at 0 rfl).2.1; have iz := (F.at 1 rfl).2.1; have G4 := Lib.hid (F.push (g := w4.heap.size) rfl [.int .i64 2, .int .u64 0, .int .i64 (-1), .int .i64 0] 35); clear F hb)
        | ((with_reducible refine (cG _).mono ?_); rintro e w5 ⟨rfl, hb⟩; have F := G4.out.later hb; clear i0 i1 i2 i3 i4 i5 i6 v0 v1 v2 vz iz; obtain ⟨i0, i1, i2, i3, i4, i5, i6⟩ := F.c7 2 rfl; obtain ⟨v0, v1, v2, -⟩ := F.c3 1 rfl; obtain ⟨x0, x1, x2, x3, -⟩ := F.c4 0 rfl; have xz := (F.at 0 rfl).2.1; have vz := (F.at 1 rfl).2.1; have iz := (F.at 2 rfl).2.1; have G5 := Lib.hid (F.push (g := w5.heap.size) rfl [.int .i64 2, .int .u64 0, .int .i64 (-1), .int .i64 0] 35); clear F hb)
        | ((with_reducible refine (cC _).mono ?_); rintro e w6 ⟨rfl, rfl⟩))
      go_ret
      exact ⟨rfl, G5.out.1⟩
theorem evals_glo (op rg ty n fl : Int) (ap : Option Addr) (m ac : Nat) (tp : Option Addr) (tl tc : Nat) (W : World) (hm : ¬ 3 < (m : Int)) (g : Int) (args : List Arg) (hl : ListIn argC NoMem W.heap.size W ap m ac args) (cF : ∀ w, Below W.heap.size W w → Calls Try.prog 6 #[.agg #[.int .i64 op, .int .i64 rg, .int .i64 ty, .int .i64 n, .int .i64 fl, .slice ap m ac, .slice tp tl tc]] w fun e w' => e = .returned (.tuple #[.agg #[.int .i64 5, .int .i64 g, .int .u64 0], .bool true]) ∧ Below w.heap.size w w')
    (cE : ∀ q d w, VlsIn w.heap.size w q m d (args.map lvD) → Calls Try.prog 9 #[.agg #[.int .i64 op, .int .i64 rg, .int .i64 ty, .int .i64 n, .int .i64 fl, .slice ap m ac, .slice tp tl tc], .slice q m d] w fun e w' => e = .returned (.tuple #[.agg #[.int .i64 2, .int .u64 0, .int .i64 g, .int .i64 0], .int .i64 0]) ∧ Below w.heap.size w w')
    (cG : ∀ w, Calls Try.prog 8 #[.agg #[.int .i64 5, .int .i64 g, .int .u64 0]] w fun e w' => e = .returned (.agg #[.int .i64 2, .int .u64 0, .int .i64 g, .int .i64 0]) ∧ Below w.heap.size w w')
    (cC : ∀ W, Calls Try.prog 10 #[.int .i64 op] W fun e w' => e = .returned (.bool true) ∧ W = w') : Calls Try.prog 4 #[.agg #[.int .i64 op, .int .i64 rg, .int .i64 ty, .int .i64 n, .int .i64 fl, .slice ap m ac, .slice tp tl tc]] W fun e w' => e = .returned (.bool true) ∧ Below W.heap.size W w' := by
  have H := Lib.hid hl
  have hc1 := hl.2.1
  have hc2 := hl.2.2.1
  unfold maxLen at hc2
  obtain ⟨iV, hiV⟩ := info_parts infoVal
  have HI := Lib.hid hiV
  have EM := Lib.hid hl.1
  have hz : m ≤ 3 := by omega
  clear hl hiV
  have G0 := Lib.hid ((Fr.start W).push (g := W.heap.size) rfl [.int .i64 op, .int .i64 rg, .int .i64 ty, .int .i64 n, .int .i64 fl, .slice ap m ac, .slice tp tl tc] 25)
  go_enter Try.func4, Try.ntmps4
  go_wp2_with (first
    | ((with_reducible refine (livesF_any _).mono ?_); rintro e w1 ⟨rfl, hb⟩; have F := G0.out.later hb; obtain ⟨i0, i1, i2, i3, i4, i5, i6⟩ := F.c7 0 rfl; have iz := (F.at 0 rfl).2.1; have d1 := cF _ F.1; have G1 := Lib.hid F; clear F hb)
    | ((with_reducible refine d1.mono ?_); rintro e w2 ⟨rfl, hb⟩; have F := G1.out.later hb; clear i0 i1 i2 i3 i4 i5 i6 iz; obtain ⟨i0, i1, i2, i3, i4, i5, i6⟩ := F.c7 0 rfl; have iz := (F.at 0 rfl).2.1; have G2 := Lib.hid F; clear F hb))
  obtain ⟨gx, egx⟩ : ∃ gx, w2.heap.size = gx := ⟨_, rfl⟩
  have hS0 : St W.heap.size W (As.and (bx gx [.int .i64 5, .int .i64 g, .int .u64 0]) (As.and (bx W.heap.size [.int .i64 op, .int .i64 rg, .int .i64 ty, .int .i64 n, .int .i64 fl, .slice ap m ac, .slice tp tl tc]) As.emp)) (w2.alloc (.cells #[.int .i64 5, .int .i64 g, .int .u64 0] 29)) := by
    have h1 : St W.heap.size W (As.and (bx W.heap.size [.int .i64 op, .int .i64 rg, .int .i64 ty, .int .i64 n, .int .i64 fl, .slice ap m ac, .slice tp tl tc]) As.emp) w2 := by
      refine ⟨G2.out.1, G2.out.1.size, ⟨(G2.out.at 0 rfl).2, trivial⟩, fun k => ?_, fun k hk => ?_⟩
      · simp only [As.and_c, bx_c, As.emp_c]; split <;> omega
      · simp only [As.and_c, bx_c, As.emp_c] at hk; split at hk <;> omega
    exact h1.push egx.symm [.int .i64 5, .int .i64 g, .int .u64 0] 29
  have HS0 : Hid (St W.heap.size W (As.and (rw' W.heap.size 35 4 vlC none 0 0 ((args.map lvD).take 0)) (As.and (bx gx [.int .i64 5, .int .i64 g, .int .u64 0]) (As.and (bx W.heap.size [.int .i64 op, .int .i64 rg, .int .i64 ty, .int .i64 n, .int .i64 fl, .slice ap m ac, .slice tp tl tc]) As.emp))) (w2.alloc (.cells #[.int .i64 5, .int .i64 g, .int .u64 0] 29))) := Lib.hid (hS0.imp ⟨fun w x => ⟨rw_nil w, x⟩, fun k => by simp only [As.and_c, rw_c, cR]; omega⟩)
  simp only [egx]
  clear hS0 egx G2
  go_loopw [5, 30] (fun s u wr => ∃ (k : Nat) (q : Option Addr) (d : Nat), k ≤ m ∧ s = .slice q k d ∧ u = .int .i64 k ∧ St W.heap.size W (As.and (rw' W.heap.size 35 4 vlC q k d ((args.map lvD).take k)) (As.and (bx gx [.int .i64 5, .int .i64 g, .int .u64 0]) (As.and (bx W.heap.size [.int .i64 op, .int .i64 rg, .int .i64 ty, .int .i64 n, .int .i64 fl, .slice ap m ac, .slice tp tl tc]) As.emp))) wr) (fun _ u _ => m - (intOf u).toNat)
  case atStart => exact ⟨0, none, 0, Nat.zero_le _, rfl, rfl, HS0.out⟩
  case round =>
    clear HS0 i0 i1 i2 i3 i4 i5 i6 iz
    obtain ⟨k, q, d, hk, rfl, rfl, hS⟩ := hrel
    have hb0 : Box W.heap.size [.int .i64 op, .int .i64 rg, .int .i64 ty, .int .i64 n, .int .i64 fl, .slice ap m ac, .slice tp tl tc] wr := hS.sat.2.2.1
    have hb1 : Box gx [.int .i64 5, .int .i64 g, .int .u64 0] wr := hS.sat.2.1
    have i0 := hb0.get 0 _ rfl
    have i1 := hb0.get 1 _ rfl
    have i2 := hb0.get 2 _ rfl
    have i3 := hb0.get 3 _ rfl
    have i4 := hb0.get 4 _ rfl
    have i5 := hb0.get 5 _ rfl
    have i6 := hb0.get 6 _ rfl
    have v0 := hb1.get 0 _ rfl
    have v1 := hb1.get 1 _ rfl
    have v2 := hb1.get 2 _ rfl
    clear hb0 hb1
    by_cases hkm : k < m
    · have hka : k < args.length := by have := EM.out; omega
      obtain ⟨a, rfl, ha, hA⟩ := arg_row H.out k hka
      obtain ⟨⟨ak, an, ab⟩, ev⟩ : ∃ v, args[k] = v := ⟨_, rfl⟩
      rw [ev] at hA
      have hA2 := hA.below hS.below (by rw [add_block]; exact ha)
      obtain ⟨f0, f1, f2⟩ := hA2
      simp only at f0 f1 f2
      have awr := Nat.lt_of_lt_of_le ha hS.below.size
      have cL := fun W => value_any ⟨ak, an, ab⟩ W
      have hlen : ((args.map lvD).take k).length = k := by rw [List.length_take, List.length_map]; omega
      have hnx : (args.map lvD).take k ++ [lvD ⟨ak, an, ab⟩] = (args.map lvD).take (k + 1) := by rw [List.take_add_one, List.getElem?_map, List.getElem?_eq_getElem hka, ev]; rfl
      obtain ⟨⟨vk, vb, vbk, vo⟩, el⟩ : ∃ v, lvD ⟨ak, an, ab⟩ = v := ⟨_, rfl⟩
      rw [el] at hnx
      rw [el] at cL
      replace cL : ∀ W, Calls Try.prog 8 #[.agg #[.int .i64 ak, .int .i64 an, .int .u64 ab]] W fun e w' => e = .returned (.agg #[.int .i64 vk, .int .u64 vb, .int .i64 vbk, .int .i64 vo]) ∧ Below W.heap.size W w' := cL
      have HL := Lib.hid (And.intro hlen (And.intro hnx (And.intro hk hz)))
      have HS := Lib.hid hS
      clear hS hnx hlen hA ev el cG cE cC cF
      go_wp2_with (first
        | ((with_reducible refine (cL _).mono ?_); rintro e w4 ⟨rfl, hb⟩; have S1 := Lib.hid ((HS.out.alloc _).later hb); clear hb)
        | (at_builtin; refine wpList_app rfl (.tmp 34) (.tmp 37) 33 rfl iV _ 32 Try.underlying33 HI.out.1 HI.out.2.1 HI.out.2.2.1 HI.out.2.2.2 rfl (by decide) rfl (S1.out.alloc _) ⟨vk, vb, vbk, vo⟩ _ 1 rfl rfl (lit_cells _ _ _) (vlC_one _) (by have := HL.out.1; have := HL.out.2.2.2; unfold maxLen; omega) (by have := HL.out.1; have := HL.out.2.2.2; omega) ?_; intro p' c' w' hS'; have HS9 := Lib.hid hS'; clear hS'))
      have hS9 : Hid (St W.heap.size W (As.and (rw' W.heap.size 35 4 vlC p' (k + 1) c' ((args.map lvD).take (k + 1))) (As.and (bx gx [.int .i64 5, .int .i64 g, .int .u64 0]) (As.and (bx W.heap.size [.int .i64 op, .int .i64 rg, .int .i64 ty, .int .i64 n, .int .i64 fl, .slice (some a) m ac, .slice tp tl tc]) As.emp))) w') := Lib.hid (by have h := HS9.out; rw [HL.out.1, HL.out.2.1] at h; exact h)
      exact ⟨⟨k + 1, _, _, by omega, by have := EM.out; first | rfl | rw [HL.out.1] | rw [Nat.min_eq_left (by omega)], by go_num, hS9.out⟩, by simp [intOf]; omega⟩
    · obtain rfl : k = m := by omega
      have e1 : (args.map lvD).take k = args.map lvD := List.take_of_length_le (by rw [List.length_map]; have := EM.out; omega)
      rw [e1] at hS
      have hin : VlsIn wr.heap.size wr q k d (args.map lvD) := rowP_in vlC_len hS.sat.1 (fun _ _ => trivial)
      have dE := cE _ _ _ hin
      have F : Fr W [(gx, [.int .i64 5, .int .i64 g, .int .u64 0]), (W.heap.size, [.int .i64 op, .int .i64 rg, .int .i64 ty, .int .i64 n, .int .i64 fl, .slice ap k ac, .slice tp tl tc])] wr := ⟨hS.below, fun x hx => by
        simp only [List.mem_cons, List.not_mem_nil, or_false] at hx
        rcases hx with rfl | rfl
        · exact ⟨hS.own gx (by simp only [As.and_c, bx_c, if_true]; omega), hS.sat.2.1⟩
        · exact ⟨Nat.le_refl _, hS.sat.2.2.1⟩⟩
      have G3 := Lib.hid F
      clear hS hin e1 F cE cF
      go_wp2_with (first
        | ((with_reducible refine dE.mono ?_); rintro e w4 ⟨rfl, hb⟩; have F := G3.out.later hb; clear i0 i1 i2 i3 i4 i5 i6 v0 v1 v2; obtain ⟨i0, i1, i2, i3, i4, i5, i6⟩ := F.c7 1 rfl; obtain ⟨v0, v1, v2, -⟩ := F.c3 0 rfl; have vz := (F.at 0 rfl).2.1; have iz := (F.at 1 rfl).2.1; have G4 := Lib.hid (F.push (g := w4.heap.size) rfl [.int .i64 2, .int .u64 0, .int .i64 g, .int .i64 0] 35); clear F hb)
        | ((with_reducible refine (cG _).mono ?_); rintro e w5 ⟨rfl, hb⟩; have F := G4.out.later hb; clear i0 i1 i2 i3 i4 i5 i6 v0 v1 v2 vz iz; obtain ⟨i0, i1, i2, i3, i4, i5, i6⟩ := F.c7 2 rfl; obtain ⟨v0, v1, v2, -⟩ := F.c3 1 rfl; obtain ⟨x0, x1, x2, x3, -⟩ := F.c4 0 rfl; have xz := (F.at 0 rfl).2.1; have vz := (F.at 1 rfl).2.1; have iz := (F.at 2 rfl).2.1; have G5 := Lib.hid (F.push (g := w5.heap.size) rfl [.int .i64 2, .int .u64 0, .int .i64 g, .int .i64 0] 35); clear F hb)
        | ((with_reducible refine (cC _).mono ?_); rintro e w6 ⟨rfl, rfl⟩))
      go_ret
      exact ⟨rfl, G5.out.1⟩
theorem evals_anp (op rg ty n fl : Int) (ap : Option Addr) (m ac : Nat) (tp : Option Addr) (tl tc : Nat) (W : World) (hm : ¬ 3 < (m : Int)) (args : List Arg) (hl : ListIn argC NoMem W.heap.size W ap m ac args) (cF : ∀ w, Below W.heap.size W w → Calls Try.prog 6 #[.agg #[.int .i64 op, .int .i64 rg, .int .i64 ty, .int .i64 n, .int .i64 fl, .slice ap m ac, .slice tp tl tc]] w fun e w' => e = .returned (.tuple #[.agg #[.int .i64 4, .int .i64 0, .int .u64 0], .bool true]) ∧ Below w.heap.size w w')
    (cE : ∀ q d w, VlsIn w.heap.size w q m d (args.map lvD) → Calls Try.prog 9 #[.agg #[.int .i64 op, .int .i64 rg, .int .i64 ty, .int .i64 n, .int .i64 fl, .slice ap m ac, .slice tp tl tc], .slice q m d] w fun e w' => e = .returned (.tuple #[.agg #[.int .i64 3, .int .u64 0, .int .i64 0, .int .i64 0], .int .i64 0]) ∧ Below w.heap.size w w')
    (cG : ∀ w, Calls Try.prog 8 #[.agg #[.int .i64 4, .int .i64 0, .int .u64 0]] w fun e w' => e = .returned (.agg #[.int .i64 2, .int .u64 0, .int .i64 (-1), .int .i64 0]) ∧ Below w.heap.size w w')
    (cC : ∀ W, Calls Try.prog 10 #[.int .i64 op] W fun e w' => e = .returned (.bool true) ∧ W = w') : Calls Try.prog 4 #[.agg #[.int .i64 op, .int .i64 rg, .int .i64 ty, .int .i64 n, .int .i64 fl, .slice ap m ac, .slice tp tl tc]] W fun e w' => e = .returned (.bool true) ∧ Below W.heap.size W w' := by
  have H := Lib.hid hl
  have hc1 := hl.2.1
  have hc2 := hl.2.2.1
  unfold maxLen at hc2
  obtain ⟨iV, hiV⟩ := info_parts infoVal
  have HI := Lib.hid hiV
  have EM := Lib.hid hl.1
  have hz : m ≤ 3 := by omega
  clear hl hiV
  have G0 := Lib.hid ((Fr.start W).push (g := W.heap.size) rfl [.int .i64 op, .int .i64 rg, .int .i64 ty, .int .i64 n, .int .i64 fl, .slice ap m ac, .slice tp tl tc] 25)
  go_enter Try.func4, Try.ntmps4
  go_wp2_with (first
    | ((with_reducible refine (livesF_any _).mono ?_); rintro e w1 ⟨rfl, hb⟩; have F := G0.out.later hb; obtain ⟨i0, i1, i2, i3, i4, i5, i6⟩ := F.c7 0 rfl; have iz := (F.at 0 rfl).2.1; have d1 := cF _ F.1; have G1 := Lib.hid F; clear F hb)
    | ((with_reducible refine d1.mono ?_); rintro e w2 ⟨rfl, hb⟩; have F := G1.out.later hb; clear i0 i1 i2 i3 i4 i5 i6 iz; obtain ⟨i0, i1, i2, i3, i4, i5, i6⟩ := F.c7 0 rfl; have iz := (F.at 0 rfl).2.1; have G2 := Lib.hid F; clear F hb))
  obtain ⟨gx, egx⟩ : ∃ gx, w2.heap.size = gx := ⟨_, rfl⟩
  have hS0 : St W.heap.size W (As.and (bx gx [.int .i64 4, .int .i64 0, .int .u64 0]) (As.and (bx W.heap.size [.int .i64 op, .int .i64 rg, .int .i64 ty, .int .i64 n, .int .i64 fl, .slice ap m ac, .slice tp tl tc]) As.emp)) (w2.alloc (.cells #[.int .i64 4, .int .i64 0, .int .u64 0] 29)) := by
    have h1 : St W.heap.size W (As.and (bx W.heap.size [.int .i64 op, .int .i64 rg, .int .i64 ty, .int .i64 n, .int .i64 fl, .slice ap m ac, .slice tp tl tc]) As.emp) w2 := by
      refine ⟨G2.out.1, G2.out.1.size, ⟨(G2.out.at 0 rfl).2, trivial⟩, fun k => ?_, fun k hk => ?_⟩
      · simp only [As.and_c, bx_c, As.emp_c]; split <;> omega
      · simp only [As.and_c, bx_c, As.emp_c] at hk; split at hk <;> omega
    exact h1.push egx.symm [.int .i64 4, .int .i64 0, .int .u64 0] 29
  have HS0 : Hid (St W.heap.size W (As.and (rw' W.heap.size 35 4 vlC none 0 0 ((args.map lvD).take 0)) (As.and (bx gx [.int .i64 4, .int .i64 0, .int .u64 0]) (As.and (bx W.heap.size [.int .i64 op, .int .i64 rg, .int .i64 ty, .int .i64 n, .int .i64 fl, .slice ap m ac, .slice tp tl tc]) As.emp))) (w2.alloc (.cells #[.int .i64 4, .int .i64 0, .int .u64 0] 29))) := Lib.hid (hS0.imp ⟨fun w x => ⟨rw_nil w, x⟩, fun k => by simp only [As.and_c, rw_c, cR]; omega⟩)
  simp only [egx]
  clear hS0 egx G2
  go_loopw [5, 30] (fun s u wr => ∃ (k : Nat) (q : Option Addr) (d : Nat), k ≤ m ∧ s = .slice q k d ∧ u = .int .i64 k ∧ St W.heap.size W (As.and (rw' W.heap.size 35 4 vlC q k d ((args.map lvD).take k)) (As.and (bx gx [.int .i64 4, .int .i64 0, .int .u64 0]) (As.and (bx W.heap.size [.int .i64 op, .int .i64 rg, .int .i64 ty, .int .i64 n, .int .i64 fl, .slice ap m ac, .slice tp tl tc]) As.emp))) wr) (fun _ u _ => m - (intOf u).toNat)
  case atStart => exact ⟨0, none, 0, Nat.zero_le _, rfl, rfl, HS0.out⟩
  case round =>
    clear HS0 i0 i1 i2 i3 i4 i5 i6 iz
    obtain ⟨k, q, d, hk, rfl, rfl, hS⟩ := hrel
    have hb0 : Box W.heap.size [.int .i64 op, .int .i64 rg, .int .i64 ty, .int .i64 n, .int .i64 fl, .slice ap m ac, .slice tp tl tc] wr := hS.sat.2.2.1
    have hb1 : Box gx [.int .i64 4, .int .i64 0, .int .u64 0] wr := hS.sat.2.1
    have i0 := hb0.get 0 _ rfl
    have i1 := hb0.get 1 _ rfl
    have i2 := hb0.get 2 _ rfl
    have i3 := hb0.get 3 _ rfl
    have i4 := hb0.get 4 _ rfl
    have i5 := hb0.get 5 _ rfl
    have i6 := hb0.get 6 _ rfl
    have v0 := hb1.get 0 _ rfl
    have v1 := hb1.get 1 _ rfl
    have v2 := hb1.get 2 _ rfl
    clear hb0 hb1
    by_cases hkm : k < m
    · have hka : k < args.length := by have := EM.out; omega
      obtain ⟨a, rfl, ha, hA⟩ := arg_row H.out k hka
      obtain ⟨⟨ak, an, ab⟩, ev⟩ : ∃ v, args[k] = v := ⟨_, rfl⟩
      rw [ev] at hA
      have hA2 := hA.below hS.below (by rw [add_block]; exact ha)
      obtain ⟨f0, f1, f2⟩ := hA2
      simp only at f0 f1 f2
      have awr := Nat.lt_of_lt_of_le ha hS.below.size
      have cL := fun W => value_any ⟨ak, an, ab⟩ W
      have hlen : ((args.map lvD).take k).length = k := by rw [List.length_take, List.length_map]; omega
      have hnx : (args.map lvD).take k ++ [lvD ⟨ak, an, ab⟩] = (args.map lvD).take (k + 1) := by rw [List.take_add_one, List.getElem?_map, List.getElem?_eq_getElem hka, ev]; rfl
      obtain ⟨⟨vk, vb, vbk, vo⟩, el⟩ : ∃ v, lvD ⟨ak, an, ab⟩ = v := ⟨_, rfl⟩
      rw [el] at hnx
      rw [el] at cL
      replace cL : ∀ W, Calls Try.prog 8 #[.agg #[.int .i64 ak, .int .i64 an, .int .u64 ab]] W fun e w' => e = .returned (.agg #[.int .i64 vk, .int .u64 vb, .int .i64 vbk, .int .i64 vo]) ∧ Below W.heap.size W w' := cL
      have HL := Lib.hid (And.intro hlen (And.intro hnx (And.intro hk hz)))
      have HS := Lib.hid hS
      clear hS hnx hlen hA ev el cG cE cC cF
      go_wp2_with (first
        | ((with_reducible refine (cL _).mono ?_); rintro e w4 ⟨rfl, hb⟩; have S1 := Lib.hid ((HS.out.alloc _).later hb); clear hb)
        | (at_builtin; refine wpList_app rfl (.tmp 34) (.tmp 37) 33 rfl iV _ 32 Try.underlying33 HI.out.1 HI.out.2.1 HI.out.2.2.1 HI.out.2.2.2 rfl (by decide) rfl (S1.out.alloc _) ⟨vk, vb, vbk, vo⟩ _ 1 rfl rfl (lit_cells _ _ _) (vlC_one _) (by have := HL.out.1; have := HL.out.2.2.2; unfold maxLen; omega) (by have := HL.out.1; have := HL.out.2.2.2; omega) ?_; intro p' c' w' hS'; have HS9 := Lib.hid hS'; clear hS'))
      have hS9 : Hid (St W.heap.size W (As.and (rw' W.heap.size 35 4 vlC p' (k + 1) c' ((args.map lvD).take (k + 1))) (As.and (bx gx [.int .i64 4, .int .i64 0, .int .u64 0]) (As.and (bx W.heap.size [.int .i64 op, .int .i64 rg, .int .i64 ty, .int .i64 n, .int .i64 fl, .slice (some a) m ac, .slice tp tl tc]) As.emp))) w') := Lib.hid (by have h := HS9.out; rw [HL.out.1, HL.out.2.1] at h; exact h)
      exact ⟨⟨k + 1, _, _, by omega, by have := EM.out; first | rfl | rw [HL.out.1] | rw [Nat.min_eq_left (by omega)], by go_num, hS9.out⟩, by simp [intOf]; omega⟩
    · obtain rfl : k = m := by omega
      have e1 : (args.map lvD).take k = args.map lvD := List.take_of_length_le (by rw [List.length_map]; have := EM.out; omega)
      rw [e1] at hS
      have hin : VlsIn wr.heap.size wr q k d (args.map lvD) := rowP_in vlC_len hS.sat.1 (fun _ _ => trivial)
      have dE := cE _ _ _ hin
      have F : Fr W [(gx, [.int .i64 4, .int .i64 0, .int .u64 0]), (W.heap.size, [.int .i64 op, .int .i64 rg, .int .i64 ty, .int .i64 n, .int .i64 fl, .slice ap k ac, .slice tp tl tc])] wr := ⟨hS.below, fun x hx => by
        simp only [List.mem_cons, List.not_mem_nil, or_false] at hx
        rcases hx with rfl | rfl
        · exact ⟨hS.own gx (by simp only [As.and_c, bx_c, if_true]; omega), hS.sat.2.1⟩
        · exact ⟨Nat.le_refl _, hS.sat.2.2.1⟩⟩
      have G3 := Lib.hid F
      clear hS hin e1 F cE cF
      go_wp2_with (first
        | ((with_reducible refine dE.mono ?_); rintro e w4 ⟨rfl, hb⟩; have F := G3.out.later hb; clear i0 i1 i2 i3 i4 i5 i6 v0 v1 v2; obtain ⟨i0, i1, i2, i3, i4, i5, i6⟩ := F.c7 1 rfl; obtain ⟨v0, v1, v2, -⟩ := F.c3 0 rfl; have vz := (F.at 0 rfl).2.1; have iz := (F.at 1 rfl).2.1; have G4 := Lib.hid (F.push (g := w4.heap.size) rfl [.int .i64 3, .int .u64 0, .int .i64 0, .int .i64 0] 35); clear F hb)
        | ((with_reducible refine (cG _).mono ?_); rintro e w5 ⟨rfl, hb⟩; have F := G4.out.later hb; clear i0 i1 i2 i3 i4 i5 i6 v0 v1 v2 vz iz; obtain ⟨i0, i1, i2, i3, i4, i5, i6⟩ := F.c7 2 rfl; obtain ⟨v0, v1, v2, -⟩ := F.c3 1 rfl; obtain ⟨x0, x1, x2, x3, -⟩ := F.c4 0 rfl; have xz := (F.at 0 rfl).2.1; have vz := (F.at 1 rfl).2.1; have iz := (F.at 2 rfl).2.1; have G5 := Lib.hid (F.push (g := w5.heap.size) rfl [.int .i64 2, .int .u64 0, .int .i64 (-1), .int .i64 0] 35); clear F hb)
        | ((with_reducible refine (cC _).mono ?_); rintro e w6 ⟨rfl, rfl⟩))
      go_ret
      exact ⟨rfl, G5.out.1⟩
theorem evals_ann (op rg ty n fl : Int) (ap : Option Addr) (m ac : Nat) (tp : Option Addr) (tl tc : Nat) (W : World) (hm : ¬ 3 < (m : Int)) (args : List Arg) (hl : ListIn argC NoMem W.heap.size W ap m ac args) (cF : ∀ w, Below W.heap.size W w → Calls Try.prog 6 #[.agg #[.int .i64 op, .int .i64 rg, .int .i64 ty, .int .i64 n, .int .i64 fl, .slice ap m ac, .slice tp tl tc]] w fun e w' => e = .returned (.tuple #[.agg #[.int .i64 2, .int .i64 0, .int .u64 0], .bool true]) ∧ Below w.heap.size w w')
    (cE : ∀ q d w, VlsIn w.heap.size w q m d (args.map lvD) → Calls Try.prog 9 #[.agg #[.int .i64 op, .int .i64 rg, .int .i64 ty, .int .i64 n, .int .i64 fl, .slice ap m ac, .slice tp tl tc], .slice q m d] w fun e w' => e = .returned (.tuple #[.agg #[.int .i64 3, .int .u64 0, .int .i64 0, .int .i64 0], .int .i64 0]) ∧ Below w.heap.size w w')
    (cG : ∀ w, Calls Try.prog 8 #[.agg #[.int .i64 2, .int .i64 0, .int .u64 0]] w fun e w' => e = .returned (.agg #[.int .i64 1, .int .u64 0, .int .i64 0, .int .i64 0]) ∧ Below w.heap.size w w')
    (cC : ∀ W, Calls Try.prog 10 #[.int .i64 op] W fun e w' => e = .returned (.bool true) ∧ W = w') : Calls Try.prog 4 #[.agg #[.int .i64 op, .int .i64 rg, .int .i64 ty, .int .i64 n, .int .i64 fl, .slice ap m ac, .slice tp tl tc]] W fun e w' => e = .returned (.bool true) ∧ Below W.heap.size W w' := by
  have H := Lib.hid hl
  have hc1 := hl.2.1
  have hc2 := hl.2.2.1
  unfold maxLen at hc2
  obtain ⟨iV, hiV⟩ := info_parts infoVal
  have HI := Lib.hid hiV
  have EM := Lib.hid hl.1
  have hz : m ≤ 3 := by omega
  clear hl hiV
  have G0 := Lib.hid ((Fr.start W).push (g := W.heap.size) rfl [.int .i64 op, .int .i64 rg, .int .i64 ty, .int .i64 n, .int .i64 fl, .slice ap m ac, .slice tp tl tc] 25)
  go_enter Try.func4, Try.ntmps4
  go_wp2_with (first
    | ((with_reducible refine (livesF_any _).mono ?_); rintro e w1 ⟨rfl, hb⟩; have F := G0.out.later hb; obtain ⟨i0, i1, i2, i3, i4, i5, i6⟩ := F.c7 0 rfl; have iz := (F.at 0 rfl).2.1; have d1 := cF _ F.1; have G1 := Lib.hid F; clear F hb)
    | ((with_reducible refine d1.mono ?_); rintro e w2 ⟨rfl, hb⟩; have F := G1.out.later hb; clear i0 i1 i2 i3 i4 i5 i6 iz; obtain ⟨i0, i1, i2, i3, i4, i5, i6⟩ := F.c7 0 rfl; have iz := (F.at 0 rfl).2.1; have G2 := Lib.hid F; clear F hb))
  obtain ⟨gx, egx⟩ : ∃ gx, w2.heap.size = gx := ⟨_, rfl⟩
  have hS0 : St W.heap.size W (As.and (bx gx [.int .i64 2, .int .i64 0, .int .u64 0]) (As.and (bx W.heap.size [.int .i64 op, .int .i64 rg, .int .i64 ty, .int .i64 n, .int .i64 fl, .slice ap m ac, .slice tp tl tc]) As.emp)) (w2.alloc (.cells #[.int .i64 2, .int .i64 0, .int .u64 0] 29)) := by
    have h1 : St W.heap.size W (As.and (bx W.heap.size [.int .i64 op, .int .i64 rg, .int .i64 ty, .int .i64 n, .int .i64 fl, .slice ap m ac, .slice tp tl tc]) As.emp) w2 := by
      refine ⟨G2.out.1, G2.out.1.size, ⟨(G2.out.at 0 rfl).2, trivial⟩, fun k => ?_, fun k hk => ?_⟩
      · simp only [As.and_c, bx_c, As.emp_c]; split <;> omega
      · simp only [As.and_c, bx_c, As.emp_c] at hk; split at hk <;> omega
    exact h1.push egx.symm [.int .i64 2, .int .i64 0, .int .u64 0] 29
  have HS0 : Hid (St W.heap.size W (As.and (rw' W.heap.size 35 4 vlC none 0 0 ((args.map lvD).take 0)) (As.and (bx gx [.int .i64 2, .int .i64 0, .int .u64 0]) (As.and (bx W.heap.size [.int .i64 op, .int .i64 rg, .int .i64 ty, .int .i64 n, .int .i64 fl, .slice ap m ac, .slice tp tl tc]) As.emp))) (w2.alloc (.cells #[.int .i64 2, .int .i64 0, .int .u64 0] 29))) := Lib.hid (hS0.imp ⟨fun w x => ⟨rw_nil w, x⟩, fun k => by simp only [As.and_c, rw_c, cR]; omega⟩)
  simp only [egx]
  clear hS0 egx G2
  go_loopw [5, 30] (fun s u wr => ∃ (k : Nat) (q : Option Addr) (d : Nat), k ≤ m ∧ s = .slice q k d ∧ u = .int .i64 k ∧ St W.heap.size W (As.and (rw' W.heap.size 35 4 vlC q k d ((args.map lvD).take k)) (As.and (bx gx [.int .i64 2, .int .i64 0, .int .u64 0]) (As.and (bx W.heap.size [.int .i64 op, .int .i64 rg, .int .i64 ty, .int .i64 n, .int .i64 fl, .slice ap m ac, .slice tp tl tc]) As.emp))) wr) (fun _ u _ => m - (intOf u).toNat)
  case atStart => exact ⟨0, none, 0, Nat.zero_le _, rfl, rfl, HS0.out⟩
  case round =>
    clear HS0 i0 i1 i2 i3 i4 i5 i6 iz
    obtain ⟨k, q, d, hk, rfl, rfl, hS⟩ := hrel
    have hb0 : Box W.heap.size [.int .i64 op, .int .i64 rg, .int .i64 ty, .int .i64 n, .int .i64 fl, .slice ap m ac, .slice tp tl tc] wr := hS.sat.2.2.1
    have hb1 : Box gx [.int .i64 2, .int .i64 0, .int .u64 0] wr := hS.sat.2.1
    have i0 := hb0.get 0 _ rfl
    have i1 := hb0.get 1 _ rfl
    have i2 := hb0.get 2 _ rfl
    have i3 := hb0.get 3 _ rfl
    have i4 := hb0.get 4 _ rfl
    have i5 := hb0.get 5 _ rfl
    have i6 := hb0.get 6 _ rfl
    have v0 := hb1.get 0 _ rfl
    have v1 := hb1.get 1 _ rfl
    have v2 := hb1.get 2 _ rfl
    clear hb0 hb1
    by_cases hkm : k < m
    · have hka : k < args.length := by have := EM.out; omega
      obtain ⟨a, rfl, ha, hA⟩ := arg_row H.out k hka
      obtain ⟨⟨ak, an, ab⟩, ev⟩ : ∃ v, args[k] = v := ⟨_, rfl⟩
      rw [ev] at hA
      have hA2 := hA.below hS.below (by rw [add_block]; exact ha)
      obtain ⟨f0, f1, f2⟩ := hA2
      simp only at f0 f1 f2
      have awr := Nat.lt_of_lt_of_le ha hS.below.size
      have cL := fun W => value_any ⟨ak, an, ab⟩ W
      have hlen : ((args.map lvD).take k).length = k := by rw [List.length_take, List.length_map]; omega
      have hnx : (args.map lvD).take k ++ [lvD ⟨ak, an, ab⟩] = (args.map lvD).take (k + 1) := by rw [List.take_add_one, List.getElem?_map, List.getElem?_eq_getElem hka, ev]; rfl
      obtain ⟨⟨vk, vb, vbk, vo⟩, el⟩ : ∃ v, lvD ⟨ak, an, ab⟩ = v := ⟨_, rfl⟩
      rw [el] at hnx
      rw [el] at cL
      replace cL : ∀ W, Calls Try.prog 8 #[.agg #[.int .i64 ak, .int .i64 an, .int .u64 ab]] W fun e w' => e = .returned (.agg #[.int .i64 vk, .int .u64 vb, .int .i64 vbk, .int .i64 vo]) ∧ Below W.heap.size W w' := cL
      have HL := Lib.hid (And.intro hlen (And.intro hnx (And.intro hk hz)))
      have HS := Lib.hid hS
      clear hS hnx hlen hA ev el cG cE cC cF
      go_wp2_with (first
        | ((with_reducible refine (cL _).mono ?_); rintro e w4 ⟨rfl, hb⟩; have S1 := Lib.hid ((HS.out.alloc _).later hb); clear hb)
        | (at_builtin; refine wpList_app rfl (.tmp 34) (.tmp 37) 33 rfl iV _ 32 Try.underlying33 HI.out.1 HI.out.2.1 HI.out.2.2.1 HI.out.2.2.2 rfl (by decide) rfl (S1.out.alloc _) ⟨vk, vb, vbk, vo⟩ _ 1 rfl rfl (lit_cells _ _ _) (vlC_one _) (by have := HL.out.1; have := HL.out.2.2.2; unfold maxLen; omega) (by have := HL.out.1; have := HL.out.2.2.2; omega) ?_; intro p' c' w' hS'; have HS9 := Lib.hid hS'; clear hS'))
      have hS9 : Hid (St W.heap.size W (As.and (rw' W.heap.size 35 4 vlC p' (k + 1) c' ((args.map lvD).take (k + 1))) (As.and (bx gx [.int .i64 2, .int .i64 0, .int .u64 0]) (As.and (bx W.heap.size [.int .i64 op, .int .i64 rg, .int .i64 ty, .int .i64 n, .int .i64 fl, .slice (some a) m ac, .slice tp tl tc]) As.emp))) w') := Lib.hid (by have h := HS9.out; rw [HL.out.1, HL.out.2.1] at h; exact h)
      exact ⟨⟨k + 1, _, _, by omega, by have := EM.out; first | rfl | rw [HL.out.1] | rw [Nat.min_eq_left (by omega)], by go_num, hS9.out⟩, by simp [intOf]; omega⟩
    · obtain rfl : k = m := by omega
      have e1 : (args.map lvD).take k = args.map lvD := List.take_of_length_le (by rw [List.length_map]; have := EM.out; omega)
      rw [e1] at hS
      have hin : VlsIn wr.heap.size wr q k d (args.map lvD) := rowP_in vlC_len hS.sat.1 (fun _ _ => trivial)
      have dE := cE _ _ _ hin
      have F : Fr W [(gx, [.int .i64 2, .int .i64 0, .int .u64 0]), (W.heap.size, [.int .i64 op, .int .i64 rg, .int .i64 ty, .int .i64 n, .int .i64 fl, .slice ap k ac, .slice tp tl tc])] wr := ⟨hS.below, fun x hx => by
        simp only [List.mem_cons, List.not_mem_nil, or_false] at hx
        rcases hx with rfl | rfl
        · exact ⟨hS.own gx (by simp only [As.and_c, bx_c, if_true]; omega), hS.sat.2.1⟩
        · exact ⟨Nat.le_refl _, hS.sat.2.2.1⟩⟩
      have G3 := Lib.hid F
      clear hS hin e1 F cE cF
      go_wp2_with (first
        | ((with_reducible refine dE.mono ?_); rintro e w4 ⟨rfl, hb⟩; have F := G3.out.later hb; clear i0 i1 i2 i3 i4 i5 i6 v0 v1 v2; obtain ⟨i0, i1, i2, i3, i4, i5, i6⟩ := F.c7 1 rfl; obtain ⟨v0, v1, v2, -⟩ := F.c3 0 rfl; have vz := (F.at 0 rfl).2.1; have iz := (F.at 1 rfl).2.1; have G4 := Lib.hid (F.push (g := w4.heap.size) rfl [.int .i64 3, .int .u64 0, .int .i64 0, .int .i64 0] 35); clear F hb)
        | ((with_reducible refine (cG _).mono ?_); rintro e w5 ⟨rfl, hb⟩; have F := G4.out.later hb; clear i0 i1 i2 i3 i4 i5 i6 v0 v1 v2 vz iz; obtain ⟨i0, i1, i2, i3, i4, i5, i6⟩ := F.c7 2 rfl; obtain ⟨v0, v1, v2, -⟩ := F.c3 1 rfl; obtain ⟨x0, x1, x2, x3, -⟩ := F.c4 0 rfl; have xz := (F.at 0 rfl).2.1; have vz := (F.at 1 rfl).2.1; have iz := (F.at 2 rfl).2.1; have G5 := Lib.hid (F.push (g := w5.heap.size) rfl [.int .i64 1, .int .u64 0, .int .i64 0, .int .i64 0] 35); clear F hb)
        | ((with_reducible refine (cC _).mono ?_); rintro e w6 ⟨rfl, rfl⟩))
      go_ret
      exact ⟨rfl, G5.out.1⟩
end Go.Proofs.Ytpjfkmaceaikbaa
