/- The document's Fold (latheref15): ends. -/
import Derived.Test.YtpjfkmaceaikbaaFlRM
namespace Go.Proofs.Ytpjfkmaceaikbaa
open Go.RowKit Go.Maps
set_option linter.unusedVariables false
set_option linter.unusedSimpArgs false
set_option maxRecDepth 100000
set_option maxHeartbeats 4000000

theorem rfold_num (op rg ty n fl : Int) (ap : Option Addr) (m ac : Nat) (tp : Option Addr) (tl tc : Nat) (W : World) (args : List Arg) (hl : ListIn argC NoMem W.heap.size W ap m ac args) (hz : m ≤ 1048576) (cC : ∀ w, Calls Try.prog 13 #[.int .i64 op] w fun e w' => e = .returned (.bool true) ∧ Below w.heap.size w w') (hall : args.all isLit = true) (x : Int)  (cE : ∀ q d w, VlsIn w.heap.size w q m d (args.map lvD) → Calls Try.prog 14 #[.agg #[.int .i64 op, .int .i64 rg, .int .i64 ty, .int .i64 n, .int .i64 fl, .slice ap m ac, .slice tp tl tc], .slice q m d] w fun e w' => e = .returned (.tuple #[.agg #[.int .i64 1, .int .u64 x, .int .i64 0, .int .i64 0], .int .i64 0]) ∧ Below w.heap.size w w') :
    Calls Try.prog 7 #[.agg #[.int .i64 op, .int .i64 rg, .int .i64 ty, .int .i64 n, .int .i64 fl, .slice ap m ac, .slice tp tl tc]] W fun e w' => e = .returned (.tuple #[.agg #[.int .i64 2, .int .i64 0, .int .u64 x], .bool true]) ∧ Below W.heap.size W w' := by
  have H := Lib.hid hl
  have hc1 := hl.2.1
  have hc2 := hl.2.2.1
  unfold maxLen at hc2
  obtain ⟨iV, hiV⟩ := info_parts infoVal
  have HI := Lib.hid hiV
  have EM := Lib.hid hl.1
  have b0 := bV0
  have b1 := bV2
  have b2 := bVb
  have h0 := bO0
  have G := Lib.hid ((((Fr.start W).push (g := W.heap.size) (by simp) [.int .i64 op, .int .i64 rg, .int .i64 ty, .int .i64 n, .int .i64 fl, .slice ap m ac, .slice tp tl tc] 25).push (g := W.heap.size + 1) (by simp) [.int .i64 0, .int .i64 0, .int .u64 0] 29).push (g := W.heap.size + 1 + 1) (by simp) [.int .i64 0, .int .i64 0, .int .u64 0] 29)
  have S0 : Hid (St W.heap.size W (As.and (rw' W.heap.size 35 4 vlC none 0 0 ((args.map lvD).take 0)) (As.and (bx (W.heap.size + 1 + 1) [.int .i64 0, .int .i64 0, .int .u64 0]) (As.and (bx (W.heap.size + 1) [.int .i64 0, .int .i64 0, .int .u64 0]) (As.and (bx W.heap.size [.int .i64 op, .int .i64 rg, .int .i64 ty, .int .i64 n, .int .i64 fl, .slice ap m ac, .slice tp tl tc]) As.emp)))) (((W.alloc (.cells #[.int .i64 op, .int .i64 rg, .int .i64 ty, .int .i64 n, .int .i64 fl, .slice ap m ac, .slice tp tl tc] 25)).alloc (.cells #[.int .i64 0, .int .i64 0, .int .u64 0] 29)).alloc (.cells #[.int .i64 0, .int .i64 0, .int .u64 0] 29))) := Lib.hid (((((St.start W).push (g := W.heap.size) rfl [.int .i64 op, .int .i64 rg, .int .i64 ty, .int .i64 n, .int .i64 fl, .slice ap m ac, .slice tp tl tc] 25).push (g := W.heap.size + 1) (by simp) [.int .i64 0, .int .i64 0, .int .u64 0] 29).push (g := W.heap.size + 1 + 1) (by simp) [.int .i64 0, .int .i64 0, .int .u64 0] 29).imp ⟨fun w x => ⟨rw_nil w, x⟩, fun k => by simp only [As.and_c, rw_c, cR]; omega⟩)
  clear hl hiV
  go_enter Try.func7, Try.ntmps7
  go_wp2_with (first
    | ((with_reducible refine (cC _).mono ?_); rintro e w1 ⟨rfl, hb⟩; have F := G.out.later hb; (try clear i0 i1 i2 i3 i4 i5 i6 r0 r1 r2 rf z0 z1 z2 zf); obtain ⟨i0, i1, i2, i3, i4, i5, i6⟩ := F.c7 2 rfl; obtain ⟨r0, r1, r2, rf⟩ := F.c3 1 rfl; obtain ⟨z0, z1, z2, zf⟩ := F.c3 0 rfl; replace G := Lib.hid F; have S1 := Lib.hid (S0.out.later hb); clear F hb))
  clear cC S0
  go_loopw [6, 7] (fun s u wr => ∃ (k : Nat) (q : Option Addr) (d : Nat), k ≤ m ∧ s = .slice q k d ∧ u = .int .i64 k ∧ St W.heap.size W (As.and (rw' W.heap.size 35 4 vlC q k d ((args.map lvD).take k)) (As.and (bx (W.heap.size + 1 + 1) [.int .i64 0, .int .i64 0, .int .u64 0]) (As.and (bx (W.heap.size + 1) [.int .i64 0, .int .i64 0, .int .u64 0]) (As.and (bx W.heap.size [.int .i64 op, .int .i64 rg, .int .i64 ty, .int .i64 n, .int .i64 fl, .slice ap m ac, .slice tp tl tc]) As.emp)))) wr) (fun _ u _ => m - (intOf u).toNat)
  case atStart => exact ⟨0, none, 0, Nat.zero_le _, rfl, rfl, S1.out⟩
  case round =>
    clear S1 G i0 i1 i2 i3 i4 i5 i6 r0 r1 r2 rf z0 z1 z2 zf
    obtain ⟨k, q, d, hk, rfl, rfl, hS⟩ := hrel
    have F : Fr W [(W.heap.size + 1 + 1, [.int .i64 0, .int .i64 0, .int .u64 0]), (W.heap.size + 1, [.int .i64 0, .int .i64 0, .int .u64 0]), (W.heap.size, [.int .i64 op, .int .i64 rg, .int .i64 ty, .int .i64 n, .int .i64 fl, .slice ap m ac, .slice tp tl tc])] wr := ⟨hS.below, fun x hx => by
      simp only [List.mem_cons, List.not_mem_nil, or_false] at hx
      rcases hx with rfl | rfl | rfl
      · exact ⟨by simp only; omega, hS.sat.2.1⟩
      · exact ⟨by simp only; omega, hS.sat.2.2.1⟩
      · exact ⟨Nat.le_refl _, hS.sat.2.2.2.1⟩⟩
    obtain ⟨i0, i1, i2, i3, i4, i5, i6⟩ := F.c7 2 rfl
    obtain ⟨r0, r1, r2, rf⟩ := F.c3 1 rfl
    obtain ⟨z0, z1, z2, zf⟩ := F.c3 0 rfl
    have iz := (F.at 2 rfl).2.1
    have rz := (F.at 1 rfl).2.1
    have zz := (F.at 0 rfl).2.1
    have G := Lib.hid F
    clear F
    by_cases hkm : k < m
    · have hka : k < args.length := by have := EM.out; omega
      obtain ⟨a, rfl, ha, hA⟩ := arg_row H.out k hka
      obtain ⟨⟨ak, an, ab⟩, ev⟩ : ∃ v, args[k] = v := ⟨_, rfl⟩
      rw [ev] at hA
      have hA2 := hA.below hS.below (by rw [add_block]; exact ha)
      obtain ⟨f0, f1, f2⟩ := hA2
      simp only at f0 f1 f2
      have awr := Nat.lt_of_lt_of_le ha hS.below.size
      have hlen : ((args.map lvD).take k).length = k := by rw [List.length_take, List.length_map]; omega
      have hno : isLit ⟨ak, an, ab⟩ = true := by have := List.all_eq_true.1 hall args[k] (List.getElem_mem hka); rwa [ev] at this
      by_cases h2 : ak = 2
      · subst h2
        have hnx : (args.map lvD).take k ++ [⟨1, ab, 0, 0⟩] = (args.map lvD).take (k + 1) := by rw [List.take_add_one, List.getElem?_map, List.getElem?_eq_getElem hka, ev]; rfl
        have hal : True := trivial
        have HL := Lib.hid (And.intro hlen (And.intro hnx (And.intro hk (And.intro hz hal))))
        have HS := Lib.hid hS
        clear hS hnx hlen hal hA ev hno cE
        go_wp2_with (first
          | (at_builtin; refine wpList_app rfl (.tmp 34) (.tmp 38) 33 rfl iV _ 32 Try.underlying33 HI.out.1 HI.out.2.1 HI.out.2.2.1 HI.out.2.2.2 rfl (by decide) rfl ((HS.out.alloc _).alloc _) ⟨1, ab, 0, 0⟩ _ 1 rfl rfl (lit_cells2 _ _ _ _) (vlC_one _) (by have := HL.out.1; have := HL.out.2.2.2.1; unfold maxLen; omega) (by have := HL.out.1; have := HL.out.2.2.2.1; omega) ?_; intro p' c' w' hS'; have HS9 := Lib.hid hS'; clear hS'))
        have hS9 : Hid (St W.heap.size W (As.and (rw' W.heap.size 35 4 vlC p' (k + 1) c' ((args.map lvD).take (k + 1))) (As.and (bx (W.heap.size + 1 + 1) [.int .i64 0, .int .i64 0, .int .u64 0]) (As.and (bx (W.heap.size + 1) [.int .i64 0, .int .i64 0, .int .u64 0]) (As.and (bx W.heap.size [.int .i64 op, .int .i64 rg, .int .i64 ty, .int .i64 n, .int .i64 fl, .slice (some a) m ac, .slice tp tl tc]) As.emp)))) w') := Lib.hid (by have h := HS9.out; rw [HL.out.1, HL.out.2.1] at h; exact h)
        exact ⟨⟨k + 1, _, _, by omega, by have := EM.out; first | rfl | rw [HL.out.1] | rw [Nat.min_eq_left (by omega)], by go_num, hS9.out⟩, by simp [intOf]; omega⟩
      by_cases h3 : ak = 3
      · subst h3
        have hnx : (args.map lvD).take k ++ [⟨0, 0, 0, 0⟩] = (args.map lvD).take (k + 1) := by rw [List.take_add_one, List.getElem?_map, List.getElem?_eq_getElem hka, ev]; rfl
        have hal : True := trivial
        have HL := Lib.hid (And.intro hlen (And.intro hnx (And.intro hk (And.intro hz hal))))
        have HS := Lib.hid hS
        clear hS hnx hlen hal hA ev hno cE
        go_wp2_with (first
          | (at_builtin; refine wpList_app rfl (.tmp 42) (.tmp 44) 33 rfl iV _ 32 Try.underlying33 HI.out.1 HI.out.2.1 HI.out.2.2.1 HI.out.2.2.2 rfl (by decide) rfl ((HS.out.alloc _).alloc _) ⟨0, 0, 0, 0⟩ _ 1 rfl rfl (lit_cells2 _ _ _ _) (vlC_one _) (by have := HL.out.1; have := HL.out.2.2.2.1; unfold maxLen; omega) (by have := HL.out.1; have := HL.out.2.2.2.1; omega) ?_; intro p' c' w' hS'; have HS9 := Lib.hid hS'; clear hS'))
        have hS9 : Hid (St W.heap.size W (As.and (rw' W.heap.size 35 4 vlC p' (k + 1) c' ((args.map lvD).take (k + 1))) (As.and (bx (W.heap.size + 1 + 1) [.int .i64 0, .int .i64 0, .int .u64 0]) (As.and (bx (W.heap.size + 1) [.int .i64 0, .int .i64 0, .int .u64 0]) (As.and (bx W.heap.size [.int .i64 op, .int .i64 rg, .int .i64 ty, .int .i64 n, .int .i64 fl, .slice (some a) m ac, .slice tp tl tc]) As.emp)))) w') := Lib.hid (by have h := HS9.out; rw [HL.out.1, HL.out.2.1] at h; exact h)
        exact ⟨⟨k + 1, _, _, by omega, by have := EM.out; first | rfl | rw [HL.out.1] | rw [Nat.min_eq_left (by omega)], by go_num, hS9.out⟩, by simp [intOf]; omega⟩
      by_cases h4 : ak = 4
      · subst h4
        have hnx : (args.map lvD).take k ++ [⟨2, 0, -1, 0⟩] = (args.map lvD).take (k + 1) := by rw [List.take_add_one, List.getElem?_map, List.getElem?_eq_getElem hka, ev]; rfl
        have hal : True := trivial
        have HL := Lib.hid (And.intro hlen (And.intro hnx (And.intro hk (And.intro hz hal))))
        have HS := Lib.hid hS
        clear hS hnx hlen hal hA ev hno cE
        go_wp2_with (first
          | (at_builtin; refine wpList_app rfl (.tmp 48) (.tmp 50) 33 rfl iV _ 32 Try.underlying33 HI.out.1 HI.out.2.1 HI.out.2.2.1 HI.out.2.2.2 rfl (by decide) rfl ((HS.out.alloc _).alloc _) ⟨2, 0, -1, 0⟩ _ 1 rfl rfl (lit_cells2 _ _ _ _) (vlC_one _) (by have := HL.out.1; have := HL.out.2.2.2.1; unfold maxLen; omega) (by have := HL.out.1; have := HL.out.2.2.2.1; omega) ?_; intro p' c' w' hS'; have HS9 := Lib.hid hS'; clear hS'))
        have hS9 : Hid (St W.heap.size W (As.and (rw' W.heap.size 35 4 vlC p' (k + 1) c' ((args.map lvD).take (k + 1))) (As.and (bx (W.heap.size + 1 + 1) [.int .i64 0, .int .i64 0, .int .u64 0]) (As.and (bx (W.heap.size + 1) [.int .i64 0, .int .i64 0, .int .u64 0]) (As.and (bx W.heap.size [.int .i64 op, .int .i64 rg, .int .i64 ty, .int .i64 n, .int .i64 fl, .slice (some a) m ac, .slice tp tl tc]) As.emp)))) w') := Lib.hid (by have h := HS9.out; rw [HL.out.1, HL.out.2.1] at h; exact h)
        exact ⟨⟨k + 1, _, _, by omega, by have := EM.out; first | rfl | rw [HL.out.1] | rw [Nat.min_eq_left (by omega)], by go_num, hS9.out⟩, by simp [intOf]; omega⟩
      by_cases h5 : ak = 5
      · subst h5
        have hnx : (args.map lvD).take k ++ [⟨2, 0, an, 0⟩] = (args.map lvD).take (k + 1) := by rw [List.take_add_one, List.getElem?_map, List.getElem?_eq_getElem hka, ev]; rfl
        have hal : True := trivial
        have HL := Lib.hid (And.intro hlen (And.intro hnx (And.intro hk (And.intro hz hal))))
        have HS := Lib.hid hS
        clear hS hnx hlen hal hA ev hno cE
        go_wp2_with (first
          | (at_builtin; refine wpList_app rfl (.tmp 54) (.tmp 58) 33 rfl iV _ 32 Try.underlying33 HI.out.1 HI.out.2.1 HI.out.2.2.1 HI.out.2.2.2 rfl (by decide) rfl ((HS.out.alloc _).alloc _) ⟨2, 0, an, 0⟩ _ 1 rfl rfl (lit_cells2 _ _ _ _) (vlC_one _) (by have := HL.out.1; have := HL.out.2.2.2.1; unfold maxLen; omega) (by have := HL.out.1; have := HL.out.2.2.2.1; omega) ?_; intro p' c' w' hS'; have HS9 := Lib.hid hS'; clear hS'))
        have hS9 : Hid (St W.heap.size W (As.and (rw' W.heap.size 35 4 vlC p' (k + 1) c' ((args.map lvD).take (k + 1))) (As.and (bx (W.heap.size + 1 + 1) [.int .i64 0, .int .i64 0, .int .u64 0]) (As.and (bx (W.heap.size + 1) [.int .i64 0, .int .i64 0, .int .u64 0]) (As.and (bx W.heap.size [.int .i64 op, .int .i64 rg, .int .i64 ty, .int .i64 n, .int .i64 fl, .slice (some a) m ac, .slice tp tl tc]) As.emp)))) w') := Lib.hid (by have h := HS9.out; rw [HL.out.1, HL.out.2.1] at h; exact h)
        exact ⟨⟨k + 1, _, _, by omega, by have := EM.out; first | rfl | rw [HL.out.1] | rw [Nat.min_eq_left (by omega)], by go_num, hS9.out⟩, by simp [intOf]; omega⟩
      exact absurd hno (by unfold isLit; simp only [decide_eq_true_eq]; omega)
    · obtain rfl : k = m := by omega
      have e1 : (args.map lvD).take k = args.map lvD := List.take_of_length_le (by rw [List.length_map]; have := EM.out; omega)
      have e2 : args.take k = args := List.take_of_length_le (by have := EM.out; omega)
      rw [e1] at hS
      have hin : VlsIn wr.heap.size wr q k d (args.map lvD) := rowP_in vlC_len hS.sat.1 (fun _ _ => trivial)
      have dE := cE _ _ _ hin
      have o1 := bO1
      have o2 := bO2
      have o3 := bO3
      clear hS hin e1 e2 cE
      go_wp2_with (first
        | ((with_reducible refine dE.mono ?_); rintro e w4 ⟨rfl, hb⟩; have F := G.out.later hb; (try clear i0 i1 i2 i3 i4 i5 i6 r0 r1 r2 rf z0 z1 z2 zf iz rz zz); obtain ⟨i0, i1, i2, i3, i4, i5, i6⟩ := F.c7 2 rfl; obtain ⟨r0, r1, r2, rf⟩ := F.c3 1 rfl; obtain ⟨z0, z1, z2, zf⟩ := F.c3 0 rfl; have iz := (F.at 2 rfl).2.1; have rz := (F.at 1 rfl).2.1; have zz := (F.at 0 rfl).2.1; have F2 := Fr.push (g := w4.heap.size) F rfl [.int .i64 1, .int .u64 x, .int .i64 0, .int .i64 0] 35; replace G := Lib.hid F; have G2 := Lib.hid F2; clear F F2 hb))
      exact bodyPost_ret (v := .tuple #[.agg #[.int .i64 2, .int .i64 0, .int .u64 x], .bool true]) (by simp [results, Try.results7, go_sem, *]) rfl ⟨rfl, (Fr.set3a G.out 1 rfl _ _ _ _)⟩
theorem rfold_poi (op rg ty n fl : Int) (ap : Option Addr) (m ac : Nat) (tp : Option Addr) (tl tc : Nat) (W : World) (args : List Arg) (hl : ListIn argC NoMem W.heap.size W ap m ac args) (hz : m ≤ 1048576) (cC : ∀ w, Calls Try.prog 13 #[.int .i64 op] w fun e w' => e = .returned (.bool true) ∧ Below w.heap.size w w') (hall : args.all isLit = true)  (cE : ∀ q d w, VlsIn w.heap.size w q m d (args.map lvD) → Calls Try.prog 14 #[.agg #[.int .i64 op, .int .i64 rg, .int .i64 ty, .int .i64 n, .int .i64 fl, .slice ap m ac, .slice tp tl tc], .slice q m d] w fun e w' => e = .returned (.tuple #[.agg #[.int .i64 0, .int .u64 0, .int .i64 0, .int .i64 0], .int .i64 0]) ∧ Below w.heap.size w w') :
    Calls Try.prog 7 #[.agg #[.int .i64 op, .int .i64 rg, .int .i64 ty, .int .i64 n, .int .i64 fl, .slice ap m ac, .slice tp tl tc]] W fun e w' => e = .returned (.tuple #[.agg #[.int .i64 3, .int .i64 0, .int .u64 0], .bool true]) ∧ Below W.heap.size W w' := by
  have H := Lib.hid hl
  have hc1 := hl.2.1
  have hc2 := hl.2.2.1
  unfold maxLen at hc2
  obtain ⟨iV, hiV⟩ := info_parts infoVal
  have HI := Lib.hid hiV
  have EM := Lib.hid hl.1
  have b0 := bV0
  have b1 := bV2
  have b2 := bVb
  have h0 := bO0
  have G := Lib.hid ((((Fr.start W).push (g := W.heap.size) (by simp) [.int .i64 op, .int .i64 rg, .int .i64 ty, .int .i64 n, .int .i64 fl, .slice ap m ac, .slice tp tl tc] 25).push (g := W.heap.size + 1) (by simp) [.int .i64 0, .int .i64 0, .int .u64 0] 29).push (g := W.heap.size + 1 + 1) (by simp) [.int .i64 0, .int .i64 0, .int .u64 0] 29)
  have S0 : Hid (St W.heap.size W (As.and (rw' W.heap.size 35 4 vlC none 0 0 ((args.map lvD).take 0)) (As.and (bx (W.heap.size + 1 + 1) [.int .i64 0, .int .i64 0, .int .u64 0]) (As.and (bx (W.heap.size + 1) [.int .i64 0, .int .i64 0, .int .u64 0]) (As.and (bx W.heap.size [.int .i64 op, .int .i64 rg, .int .i64 ty, .int .i64 n, .int .i64 fl, .slice ap m ac, .slice tp tl tc]) As.emp)))) (((W.alloc (.cells #[.int .i64 op, .int .i64 rg, .int .i64 ty, .int .i64 n, .int .i64 fl, .slice ap m ac, .slice tp tl tc] 25)).alloc (.cells #[.int .i64 0, .int .i64 0, .int .u64 0] 29)).alloc (.cells #[.int .i64 0, .int .i64 0, .int .u64 0] 29))) := Lib.hid (((((St.start W).push (g := W.heap.size) rfl [.int .i64 op, .int .i64 rg, .int .i64 ty, .int .i64 n, .int .i64 fl, .slice ap m ac, .slice tp tl tc] 25).push (g := W.heap.size + 1) (by simp) [.int .i64 0, .int .i64 0, .int .u64 0] 29).push (g := W.heap.size + 1 + 1) (by simp) [.int .i64 0, .int .i64 0, .int .u64 0] 29).imp ⟨fun w x => ⟨rw_nil w, x⟩, fun k => by simp only [As.and_c, rw_c, cR]; omega⟩)
  clear hl hiV
  go_enter Try.func7, Try.ntmps7
  go_wp2_with (first
    | ((with_reducible refine (cC _).mono ?_); rintro e w1 ⟨rfl, hb⟩; have F := G.out.later hb; (try clear i0 i1 i2 i3 i4 i5 i6 r0 r1 r2 rf z0 z1 z2 zf); obtain ⟨i0, i1, i2, i3, i4, i5, i6⟩ := F.c7 2 rfl; obtain ⟨r0, r1, r2, rf⟩ := F.c3 1 rfl; obtain ⟨z0, z1, z2, zf⟩ := F.c3 0 rfl; replace G := Lib.hid F; have S1 := Lib.hid (S0.out.later hb); clear F hb))
  clear cC S0
  go_loopw [6, 7] (fun s u wr => ∃ (k : Nat) (q : Option Addr) (d : Nat), k ≤ m ∧ s = .slice q k d ∧ u = .int .i64 k ∧ St W.heap.size W (As.and (rw' W.heap.size 35 4 vlC q k d ((args.map lvD).take k)) (As.and (bx (W.heap.size + 1 + 1) [.int .i64 0, .int .i64 0, .int .u64 0]) (As.and (bx (W.heap.size + 1) [.int .i64 0, .int .i64 0, .int .u64 0]) (As.and (bx W.heap.size [.int .i64 op, .int .i64 rg, .int .i64 ty, .int .i64 n, .int .i64 fl, .slice ap m ac, .slice tp tl tc]) As.emp)))) wr) (fun _ u _ => m - (intOf u).toNat)
  case atStart => exact ⟨0, none, 0, Nat.zero_le _, rfl, rfl, S1.out⟩
  case round =>
    clear S1 G i0 i1 i2 i3 i4 i5 i6 r0 r1 r2 rf z0 z1 z2 zf
    obtain ⟨k, q, d, hk, rfl, rfl, hS⟩ := hrel
    have F : Fr W [(W.heap.size + 1 + 1, [.int .i64 0, .int .i64 0, .int .u64 0]), (W.heap.size + 1, [.int .i64 0, .int .i64 0, .int .u64 0]), (W.heap.size, [.int .i64 op, .int .i64 rg, .int .i64 ty, .int .i64 n, .int .i64 fl, .slice ap m ac, .slice tp tl tc])] wr := ⟨hS.below, fun x hx => by
      simp only [List.mem_cons, List.not_mem_nil, or_false] at hx
      rcases hx with rfl | rfl | rfl
      · exact ⟨by simp only; omega, hS.sat.2.1⟩
      · exact ⟨by simp only; omega, hS.sat.2.2.1⟩
      · exact ⟨Nat.le_refl _, hS.sat.2.2.2.1⟩⟩
    obtain ⟨i0, i1, i2, i3, i4, i5, i6⟩ := F.c7 2 rfl
    obtain ⟨r0, r1, r2, rf⟩ := F.c3 1 rfl
    obtain ⟨z0, z1, z2, zf⟩ := F.c3 0 rfl
    have iz := (F.at 2 rfl).2.1
    have rz := (F.at 1 rfl).2.1
    have zz := (F.at 0 rfl).2.1
    have G := Lib.hid F
    clear F
    by_cases hkm : k < m
    · have hka : k < args.length := by have := EM.out; omega
      obtain ⟨a, rfl, ha, hA⟩ := arg_row H.out k hka
      obtain ⟨⟨ak, an, ab⟩, ev⟩ : ∃ v, args[k] = v := ⟨_, rfl⟩
      rw [ev] at hA
      have hA2 := hA.below hS.below (by rw [add_block]; exact ha)
      obtain ⟨f0, f1, f2⟩ := hA2
      simp only at f0 f1 f2
      have awr := Nat.lt_of_lt_of_le ha hS.below.size
      have hlen : ((args.map lvD).take k).length = k := by rw [List.length_take, List.length_map]; omega
      have hno : isLit ⟨ak, an, ab⟩ = true := by have := List.all_eq_true.1 hall args[k] (List.getElem_mem hka); rwa [ev] at this
      by_cases h2 : ak = 2
      · subst h2
        have hnx : (args.map lvD).take k ++ [⟨1, ab, 0, 0⟩] = (args.map lvD).take (k + 1) := by rw [List.take_add_one, List.getElem?_map, List.getElem?_eq_getElem hka, ev]; rfl
        have hal : True := trivial
        have HL := Lib.hid (And.intro hlen (And.intro hnx (And.intro hk (And.intro hz hal))))
        have HS := Lib.hid hS
        clear hS hnx hlen hal hA ev hno cE
        go_wp2_with (first
          | (at_builtin; refine wpList_app rfl (.tmp 34) (.tmp 38) 33 rfl iV _ 32 Try.underlying33 HI.out.1 HI.out.2.1 HI.out.2.2.1 HI.out.2.2.2 rfl (by decide) rfl ((HS.out.alloc _).alloc _) ⟨1, ab, 0, 0⟩ _ 1 rfl rfl (lit_cells2 _ _ _ _) (vlC_one _) (by have := HL.out.1; have := HL.out.2.2.2.1; unfold maxLen; omega) (by have := HL.out.1; have := HL.out.2.2.2.1; omega) ?_; intro p' c' w' hS'; have HS9 := Lib.hid hS'; clear hS'))
        have hS9 : Hid (St W.heap.size W (As.and (rw' W.heap.size 35 4 vlC p' (k + 1) c' ((args.map lvD).take (k + 1))) (As.and (bx (W.heap.size + 1 + 1) [.int .i64 0, .int .i64 0, .int .u64 0]) (As.and (bx (W.heap.size + 1) [.int .i64 0, .int .i64 0, .int .u64 0]) (As.and (bx W.heap.size [.int .i64 op, .int .i64 rg, .int .i64 ty, .int .i64 n, .int .i64 fl, .slice (some a) m ac, .slice tp tl tc]) As.emp)))) w') := Lib.hid (by have h := HS9.out; rw [HL.out.1, HL.out.2.1] at h; exact h)
        exact ⟨⟨k + 1, _, _, by omega, by have := EM.out; first | rfl | rw [HL.out.1] | rw [Nat.min_eq_left (by omega)], by go_num, hS9.out⟩, by simp [intOf]; omega⟩
      by_cases h3 : ak = 3
      · subst h3
        have hnx : (args.map lvD).take k ++ [⟨0, 0, 0, 0⟩] = (args.map lvD).take (k + 1) := by rw [List.take_add_one, List.getElem?_map, List.getElem?_eq_getElem hka, ev]; rfl
        have hal : True := trivial
        have HL := Lib.hid (And.intro hlen (And.intro hnx (And.intro hk (And.intro hz hal))))
        have HS := Lib.hid hS
        clear hS hnx hlen hal hA ev hno cE
        go_wp2_with (first
          | (at_builtin; refine wpList_app rfl (.tmp 42) (.tmp 44) 33 rfl iV _ 32 Try.underlying33 HI.out.1 HI.out.2.1 HI.out.2.2.1 HI.out.2.2.2 rfl (by decide) rfl ((HS.out.alloc _).alloc _) ⟨0, 0, 0, 0⟩ _ 1 rfl rfl (lit_cells2 _ _ _ _) (vlC_one _) (by have := HL.out.1; have := HL.out.2.2.2.1; unfold maxLen; omega) (by have := HL.out.1; have := HL.out.2.2.2.1; omega) ?_; intro p' c' w' hS'; have HS9 := Lib.hid hS'; clear hS'))
        have hS9 : Hid (St W.heap.size W (As.and (rw' W.heap.size 35 4 vlC p' (k + 1) c' ((args.map lvD).take (k + 1))) (As.and (bx (W.heap.size + 1 + 1) [.int .i64 0, .int .i64 0, .int .u64 0]) (As.and (bx (W.heap.size + 1) [.int .i64 0, .int .i64 0, .int .u64 0]) (As.and (bx W.heap.size [.int .i64 op, .int .i64 rg, .int .i64 ty, .int .i64 n, .int .i64 fl, .slice (some a) m ac, .slice tp tl tc]) As.emp)))) w') := Lib.hid (by have h := HS9.out; rw [HL.out.1, HL.out.2.1] at h; exact h)
        exact ⟨⟨k + 1, _, _, by omega, by have := EM.out; first | rfl | rw [HL.out.1] | rw [Nat.min_eq_left (by omega)], by go_num, hS9.out⟩, by simp [intOf]; omega⟩
      by_cases h4 : ak = 4
      · subst h4
        have hnx : (args.map lvD).take k ++ [⟨2, 0, -1, 0⟩] = (args.map lvD).take (k + 1) := by rw [List.take_add_one, List.getElem?_map, List.getElem?_eq_getElem hka, ev]; rfl
        have hal : True := trivial
        have HL := Lib.hid (And.intro hlen (And.intro hnx (And.intro hk (And.intro hz hal))))
        have HS := Lib.hid hS
        clear hS hnx hlen hal hA ev hno cE
        go_wp2_with (first
          | (at_builtin; refine wpList_app rfl (.tmp 48) (.tmp 50) 33 rfl iV _ 32 Try.underlying33 HI.out.1 HI.out.2.1 HI.out.2.2.1 HI.out.2.2.2 rfl (by decide) rfl ((HS.out.alloc _).alloc _) ⟨2, 0, -1, 0⟩ _ 1 rfl rfl (lit_cells2 _ _ _ _) (vlC_one _) (by have := HL.out.1; have := HL.out.2.2.2.1; unfold maxLen; omega) (by have := HL.out.1; have := HL.out.2.2.2.1; omega) ?_; intro p' c' w' hS'; have HS9 := Lib.hid hS'; clear hS'))
        have hS9 : Hid (St W.heap.size W (As.and (rw' W.heap.size 35 4 vlC p' (k + 1) c' ((args.map lvD).take (k + 1))) (As.and (bx (W.heap.size + 1 + 1) [.int .i64 0, .int .i64 0, .int .u64 0]) (As.and (bx (W.heap.size + 1) [.int .i64 0, .int .i64 0, .int .u64 0]) (As.and (bx W.heap.size [.int .i64 op, .int .i64 rg, .int .i64 ty, .int .i64 n, .int .i64 fl, .slice (some a) m ac, .slice tp tl tc]) As.emp)))) w') := Lib.hid (by have h := HS9.out; rw [HL.out.1, HL.out.2.1] at h; exact h)
        exact ⟨⟨k + 1, _, _, by omega, by have := EM.out; first | rfl | rw [HL.out.1] | rw [Nat.min_eq_left (by omega)], by go_num, hS9.out⟩, by simp [intOf]; omega⟩
      by_cases h5 : ak = 5
      · subst h5
        have hnx : (args.map lvD).take k ++ [⟨2, 0, an, 0⟩] = (args.map lvD).take (k + 1) := by rw [List.take_add_one, List.getElem?_map, List.getElem?_eq_getElem hka, ev]; rfl
        have hal : True := trivial
        have HL := Lib.hid (And.intro hlen (And.intro hnx (And.intro hk (And.intro hz hal))))
        have HS := Lib.hid hS
        clear hS hnx hlen hal hA ev hno cE
        go_wp2_with (first
          | (at_builtin; refine wpList_app rfl (.tmp 54) (.tmp 58) 33 rfl iV _ 32 Try.underlying33 HI.out.1 HI.out.2.1 HI.out.2.2.1 HI.out.2.2.2 rfl (by decide) rfl ((HS.out.alloc _).alloc _) ⟨2, 0, an, 0⟩ _ 1 rfl rfl (lit_cells2 _ _ _ _) (vlC_one _) (by have := HL.out.1; have := HL.out.2.2.2.1; unfold maxLen; omega) (by have := HL.out.1; have := HL.out.2.2.2.1; omega) ?_; intro p' c' w' hS'; have HS9 := Lib.hid hS'; clear hS'))
        have hS9 : Hid (St W.heap.size W (As.and (rw' W.heap.size 35 4 vlC p' (k + 1) c' ((args.map lvD).take (k + 1))) (As.and (bx (W.heap.size + 1 + 1) [.int .i64 0, .int .i64 0, .int .u64 0]) (As.and (bx (W.heap.size + 1) [.int .i64 0, .int .i64 0, .int .u64 0]) (As.and (bx W.heap.size [.int .i64 op, .int .i64 rg, .int .i64 ty, .int .i64 n, .int .i64 fl, .slice (some a) m ac, .slice tp tl tc]) As.emp)))) w') := Lib.hid (by have h := HS9.out; rw [HL.out.1, HL.out.2.1] at h; exact h)
        exact ⟨⟨k + 1, _, _, by omega, by have := EM.out; first | rfl | rw [HL.out.1] | rw [Nat.min_eq_left (by omega)], by go_num, hS9.out⟩, by simp [intOf]; omega⟩
      exact absurd hno (by unfold isLit; simp only [decide_eq_true_eq]; omega)
    · obtain rfl : k = m := by omega
      have e1 : (args.map lvD).take k = args.map lvD := List.take_of_length_le (by rw [List.length_map]; have := EM.out; omega)
      have e2 : args.take k = args := List.take_of_length_le (by have := EM.out; omega)
      rw [e1] at hS
      have hin : VlsIn wr.heap.size wr q k d (args.map lvD) := rowP_in vlC_len hS.sat.1 (fun _ _ => trivial)
      have dE := cE _ _ _ hin
      have o1 := bO1
      have o2 := bO2
      have o3 := bO3
      clear hS hin e1 e2 cE
      go_wp2_with (first
        | ((with_reducible refine dE.mono ?_); rintro e w4 ⟨rfl, hb⟩; have F := G.out.later hb; (try clear i0 i1 i2 i3 i4 i5 i6 r0 r1 r2 rf z0 z1 z2 zf iz rz zz); obtain ⟨i0, i1, i2, i3, i4, i5, i6⟩ := F.c7 2 rfl; obtain ⟨r0, r1, r2, rf⟩ := F.c3 1 rfl; obtain ⟨z0, z1, z2, zf⟩ := F.c3 0 rfl; have iz := (F.at 2 rfl).2.1; have rz := (F.at 1 rfl).2.1; have zz := (F.at 0 rfl).2.1; have F2 := Fr.push (g := w4.heap.size) F rfl [.int .i64 0, .int .u64 0, .int .i64 0, .int .i64 0] 35; replace G := Lib.hid F; have G2 := Lib.hid F2; clear F F2 hb))
      exact bodyPost_ret (v := .tuple #[.agg #[.int .i64 3, .int .i64 0, .int .u64 0], .bool true]) (by simp [results, Try.results7, go_sem, *]) rfl ⟨rfl, (Fr.set3a G.out 1 rfl _ _ _ _)⟩
theorem rfold_nul (op rg ty n fl : Int) (ap : Option Addr) (m ac : Nat) (tp : Option Addr) (tl tc : Nat) (W : World) (args : List Arg) (hl : ListIn argC NoMem W.heap.size W ap m ac args) (hz : m ≤ 1048576) (cC : ∀ w, Calls Try.prog 13 #[.int .i64 op] w fun e w' => e = .returned (.bool true) ∧ Below w.heap.size w w') (hall : args.all isLit = true)  (cE : ∀ q d w, VlsIn w.heap.size w q m d (args.map lvD) → Calls Try.prog 14 #[.agg #[.int .i64 op, .int .i64 rg, .int .i64 ty, .int .i64 n, .int .i64 fl, .slice ap m ac, .slice tp tl tc], .slice q m d] w fun e w' => e = .returned (.tuple #[.agg #[.int .i64 2, .int .u64 0, .int .i64 (-1), .int .i64 0], .int .i64 0]) ∧ Below w.heap.size w w') :
    Calls Try.prog 7 #[.agg #[.int .i64 op, .int .i64 rg, .int .i64 ty, .int .i64 n, .int .i64 fl, .slice ap m ac, .slice tp tl tc]] W fun e w' => e = .returned (.tuple #[.agg #[.int .i64 4, .int .i64 0, .int .u64 0], .bool true]) ∧ Below W.heap.size W w' := by
  have H := Lib.hid hl
  have hc1 := hl.2.1
  have hc2 := hl.2.2.1
  unfold maxLen at hc2
  obtain ⟨iV, hiV⟩ := info_parts infoVal
  have HI := Lib.hid hiV
  have EM := Lib.hid hl.1
  have b0 := bV0
  have b1 := bV2
  have b2 := bVb
  have h0 := bO0
  have G := Lib.hid ((((Fr.start W).push (g := W.heap.size) (by simp) [.int .i64 op, .int .i64 rg, .int .i64 ty, .int .i64 n, .int .i64 fl, .slice ap m ac, .slice tp tl tc] 25).push (g := W.heap.size + 1) (by simp) [.int .i64 0, .int .i64 0, .int .u64 0] 29).push (g := W.heap.size + 1 + 1) (by simp) [.int .i64 0, .int .i64 0, .int .u64 0] 29)
  have S0 : Hid (St W.heap.size W (As.and (rw' W.heap.size 35 4 vlC none 0 0 ((args.map lvD).take 0)) (As.and (bx (W.heap.size + 1 + 1) [.int .i64 0, .int .i64 0, .int .u64 0]) (As.and (bx (W.heap.size + 1) [.int .i64 0, .int .i64 0, .int .u64 0]) (As.and (bx W.heap.size [.int .i64 op, .int .i64 rg, .int .i64 ty, .int .i64 n, .int .i64 fl, .slice ap m ac, .slice tp tl tc]) As.emp)))) (((W.alloc (.cells #[.int .i64 op, .int .i64 rg, .int .i64 ty, .int .i64 n, .int .i64 fl, .slice ap m ac, .slice tp tl tc] 25)).alloc (.cells #[.int .i64 0, .int .i64 0, .int .u64 0] 29)).alloc (.cells #[.int .i64 0, .int .i64 0, .int .u64 0] 29))) := Lib.hid (((((St.start W).push (g := W.heap.size) rfl [.int .i64 op, .int .i64 rg, .int .i64 ty, .int .i64 n, .int .i64 fl, .slice ap m ac, .slice tp tl tc] 25).push (g := W.heap.size + 1) (by simp) [.int .i64 0, .int .i64 0, .int .u64 0] 29).push (g := W.heap.size + 1 + 1) (by simp) [.int .i64 0, .int .i64 0, .int .u64 0] 29).imp ⟨fun w x => ⟨rw_nil w, x⟩, fun k => by simp only [As.and_c, rw_c, cR]; omega⟩)
  clear hl hiV
  go_enter Try.func7, Try.ntmps7
  go_wp2_with (first
    | ((with_reducible refine (cC _).mono ?_); rintro e w1 ⟨rfl, hb⟩; have F := G.out.later hb; (try clear i0 i1 i2 i3 i4 i5 i6 r0 r1 r2 rf z0 z1 z2 zf); obtain ⟨i0, i1, i2, i3, i4, i5, i6⟩ := F.c7 2 rfl; obtain ⟨r0, r1, r2, rf⟩ := F.c3 1 rfl; obtain ⟨z0, z1, z2, zf⟩ := F.c3 0 rfl; replace G := Lib.hid F; have S1 := Lib.hid (S0.out.later hb); clear F hb))
  clear cC S0
  go_loopw [6, 7] (fun s u wr => ∃ (k : Nat) (q : Option Addr) (d : Nat), k ≤ m ∧ s = .slice q k d ∧ u = .int .i64 k ∧ St W.heap.size W (As.and (rw' W.heap.size 35 4 vlC q k d ((args.map lvD).take k)) (As.and (bx (W.heap.size + 1 + 1) [.int .i64 0, .int .i64 0, .int .u64 0]) (As.and (bx (W.heap.size + 1) [.int .i64 0, .int .i64 0, .int .u64 0]) (As.and (bx W.heap.size [.int .i64 op, .int .i64 rg, .int .i64 ty, .int .i64 n, .int .i64 fl, .slice ap m ac, .slice tp tl tc]) As.emp)))) wr) (fun _ u _ => m - (intOf u).toNat)
  case atStart => exact ⟨0, none, 0, Nat.zero_le _, rfl, rfl, S1.out⟩
  case round =>
    clear S1 G i0 i1 i2 i3 i4 i5 i6 r0 r1 r2 rf z0 z1 z2 zf
    obtain ⟨k, q, d, hk, rfl, rfl, hS⟩ := hrel
    have F : Fr W [(W.heap.size + 1 + 1, [.int .i64 0, .int .i64 0, .int .u64 0]), (W.heap.size + 1, [.int .i64 0, .int .i64 0, .int .u64 0]), (W.heap.size, [.int .i64 op, .int .i64 rg, .int .i64 ty, .int .i64 n, .int .i64 fl, .slice ap m ac, .slice tp tl tc])] wr := ⟨hS.below, fun x hx => by
      simp only [List.mem_cons, List.not_mem_nil, or_false] at hx
      rcases hx with rfl | rfl | rfl
      · exact ⟨by simp only; omega, hS.sat.2.1⟩
      · exact ⟨by simp only; omega, hS.sat.2.2.1⟩
      · exact ⟨Nat.le_refl _, hS.sat.2.2.2.1⟩⟩
    obtain ⟨i0, i1, i2, i3, i4, i5, i6⟩ := F.c7 2 rfl
    obtain ⟨r0, r1, r2, rf⟩ := F.c3 1 rfl
    obtain ⟨z0, z1, z2, zf⟩ := F.c3 0 rfl
    have iz := (F.at 2 rfl).2.1
    have rz := (F.at 1 rfl).2.1
    have zz := (F.at 0 rfl).2.1
    have G := Lib.hid F
    clear F
    by_cases hkm : k < m
    · have hka : k < args.length := by have := EM.out; omega
      obtain ⟨a, rfl, ha, hA⟩ := arg_row H.out k hka
      obtain ⟨⟨ak, an, ab⟩, ev⟩ : ∃ v, args[k] = v := ⟨_, rfl⟩
      rw [ev] at hA
      have hA2 := hA.below hS.below (by rw [add_block]; exact ha)
      obtain ⟨f0, f1, f2⟩ := hA2
      simp only at f0 f1 f2
      have awr := Nat.lt_of_lt_of_le ha hS.below.size
      have hlen : ((args.map lvD).take k).length = k := by rw [List.length_take, List.length_map]; omega
      have hno : isLit ⟨ak, an, ab⟩ = true := by have := List.all_eq_true.1 hall args[k] (List.getElem_mem hka); rwa [ev] at this
      by_cases h2 : ak = 2
      · subst h2
        have hnx : (args.map lvD).take k ++ [⟨1, ab, 0, 0⟩] = (args.map lvD).take (k + 1) := by rw [List.take_add_one, List.getElem?_map, List.getElem?_eq_getElem hka, ev]; rfl
        have hal : True := trivial
        have HL := Lib.hid (And.intro hlen (And.intro hnx (And.intro hk (And.intro hz hal))))
        have HS := Lib.hid hS
        clear hS hnx hlen hal hA ev hno cE
        go_wp2_with (first
          | (at_builtin; refine wpList_app rfl (.tmp 34) (.tmp 38) 33 rfl iV _ 32 Try.underlying33 HI.out.1 HI.out.2.1 HI.out.2.2.1 HI.out.2.2.2 rfl (by decide) rfl ((HS.out.alloc _).alloc _) ⟨1, ab, 0, 0⟩ _ 1 rfl rfl (lit_cells2 _ _ _ _) (vlC_one _) (by have := HL.out.1; have := HL.out.2.2.2.1; unfold maxLen; omega) (by have := HL.out.1; have := HL.out.2.2.2.1; omega) ?_; intro p' c' w' hS'; have HS9 := Lib.hid hS'; clear hS'))
        have hS9 : Hid (St W.heap.size W (As.and (rw' W.heap.size 35 4 vlC p' (k + 1) c' ((args.map lvD).take (k + 1))) (As.and (bx (W.heap.size + 1 + 1) [.int .i64 0, .int .i64 0, .int .u64 0]) (As.and (bx (W.heap.size + 1) [.int .i64 0, .int .i64 0, .int .u64 0]) (As.and (bx W.heap.size [.int .i64 op, .int .i64 rg, .int .i64 ty, .int .i64 n, .int .i64 fl, .slice (some a) m ac, .slice tp tl tc]) As.emp)))) w') := Lib.hid (by have h := HS9.out; rw [HL.out.1, HL.out.2.1] at h; exact h)
        exact ⟨⟨k + 1, _, _, by omega, by have := EM.out; first | rfl | rw [HL.out.1] | rw [Nat.min_eq_left (by omega)], by go_num, hS9.out⟩, by simp [intOf]; omega⟩
      by_cases h3 : ak = 3
      · subst h3
        have hnx : (args.map lvD).take k ++ [⟨0, 0, 0, 0⟩] = (args.map lvD).take (k + 1) := by rw [List.take_add_one, List.getElem?_map, List.getElem?_eq_getElem hka, ev]; rfl
        have hal : True := trivial
        have HL := Lib.hid (And.intro hlen (And.intro hnx (And.intro hk (And.intro hz hal))))
        have HS := Lib.hid hS
        clear hS hnx hlen hal hA ev hno cE
        go_wp2_with (first
          | (at_builtin; refine wpList_app rfl (.tmp 42) (.tmp 44) 33 rfl iV _ 32 Try.underlying33 HI.out.1 HI.out.2.1 HI.out.2.2.1 HI.out.2.2.2 rfl (by decide) rfl ((HS.out.alloc _).alloc _) ⟨0, 0, 0, 0⟩ _ 1 rfl rfl (lit_cells2 _ _ _ _) (vlC_one _) (by have := HL.out.1; have := HL.out.2.2.2.1; unfold maxLen; omega) (by have := HL.out.1; have := HL.out.2.2.2.1; omega) ?_; intro p' c' w' hS'; have HS9 := Lib.hid hS'; clear hS'))
        have hS9 : Hid (St W.heap.size W (As.and (rw' W.heap.size 35 4 vlC p' (k + 1) c' ((args.map lvD).take (k + 1))) (As.and (bx (W.heap.size + 1 + 1) [.int .i64 0, .int .i64 0, .int .u64 0]) (As.and (bx (W.heap.size + 1) [.int .i64 0, .int .i64 0, .int .u64 0]) (As.and (bx W.heap.size [.int .i64 op, .int .i64 rg, .int .i64 ty, .int .i64 n, .int .i64 fl, .slice (some a) m ac, .slice tp tl tc]) As.emp)))) w') := Lib.hid (by have h := HS9.out; rw [HL.out.1, HL.out.2.1] at h; exact h)
        exact ⟨⟨k + 1, _, _, by omega, by have := EM.out; first | rfl | rw [HL.out.1] | rw [Nat.min_eq_left (by omega)], by go_num, hS9.out⟩, by simp [intOf]; omega⟩
      by_cases h4 : ak = 4
      · subst h4
        have hnx : (args.map lvD).take k ++ [⟨2, 0, -1, 0⟩] = (args.map lvD).take (k + 1) := by rw [List.take_add_one, List.getElem?_map, List.getElem?_eq_getElem hka, ev]; rfl
        have hal : True := trivial
        have HL := Lib.hid (And.intro hlen (And.intro hnx (And.intro hk (And.intro hz hal))))
        have HS := Lib.hid hS
        clear hS hnx hlen hal hA ev hno cE
        go_wp2_with (first
          | (at_builtin; refine wpList_app rfl (.tmp 48) (.tmp 50) 33 rfl iV _ 32 Try.underlying33 HI.out.1 HI.out.2.1 HI.out.2.2.1 HI.out.2.2.2 rfl (by decide) rfl ((HS.out.alloc _).alloc _) ⟨2, 0, -1, 0⟩ _ 1 rfl rfl (lit_cells2 _ _ _ _) (vlC_one _) (by have := HL.out.1; have := HL.out.2.2.2.1; unfold maxLen; omega) (by have := HL.out.1; have := HL.out.2.2.2.1; omega) ?_; intro p' c' w' hS'; have HS9 := Lib.hid hS'; clear hS'))
        have hS9 : Hid (St W.heap.size W (As.and (rw' W.heap.size 35 4 vlC p' (k + 1) c' ((args.map lvD).take (k + 1))) (As.and (bx (W.heap.size + 1 + 1) [.int .i64 0, .int .i64 0, .int .u64 0]) (As.and (bx (W.heap.size + 1) [.int .i64 0, .int .i64 0, .int .u64 0]) (As.and (bx W.heap.size [.int .i64 op, .int .i64 rg, .int .i64 ty, .int .i64 n, .int .i64 fl, .slice (some a) m ac, .slice tp tl tc]) As.emp)))) w') := Lib.hid (by have h := HS9.out; rw [HL.out.1, HL.out.2.1] at h; exact h)
        exact ⟨⟨k + 1, _, _, by omega, by have := EM.out; first | rfl | rw [HL.out.1] | rw [Nat.min_eq_left (by omega)], by go_num, hS9.out⟩, by simp [intOf]; omega⟩
      by_cases h5 : ak = 5
      · subst h5
        have hnx : (args.map lvD).take k ++ [⟨2, 0, an, 0⟩] = (args.map lvD).take (k + 1) := by rw [List.take_add_one, List.getElem?_map, List.getElem?_eq_getElem hka, ev]; rfl
        have hal : True := trivial
        have HL := Lib.hid (And.intro hlen (And.intro hnx (And.intro hk (And.intro hz hal))))
        have HS := Lib.hid hS
        clear hS hnx hlen hal hA ev hno cE
        go_wp2_with (first
          | (at_builtin; refine wpList_app rfl (.tmp 54) (.tmp 58) 33 rfl iV _ 32 Try.underlying33 HI.out.1 HI.out.2.1 HI.out.2.2.1 HI.out.2.2.2 rfl (by decide) rfl ((HS.out.alloc _).alloc _) ⟨2, 0, an, 0⟩ _ 1 rfl rfl (lit_cells2 _ _ _ _) (vlC_one _) (by have := HL.out.1; have := HL.out.2.2.2.1; unfold maxLen; omega) (by have := HL.out.1; have := HL.out.2.2.2.1; omega) ?_; intro p' c' w' hS'; have HS9 := Lib.hid hS'; clear hS'))
        have hS9 : Hid (St W.heap.size W (As.and (rw' W.heap.size 35 4 vlC p' (k + 1) c' ((args.map lvD).take (k + 1))) (As.and (bx (W.heap.size + 1 + 1) [.int .i64 0, .int .i64 0, .int .u64 0]) (As.and (bx (W.heap.size + 1) [.int .i64 0, .int .i64 0, .int .u64 0]) (As.and (bx W.heap.size [.int .i64 op, .int .i64 rg, .int .i64 ty, .int .i64 n, .int .i64 fl, .slice (some a) m ac, .slice tp tl tc]) As.emp)))) w') := Lib.hid (by have h := HS9.out; rw [HL.out.1, HL.out.2.1] at h; exact h)
        exact ⟨⟨k + 1, _, _, by omega, by have := EM.out; first | rfl | rw [HL.out.1] | rw [Nat.min_eq_left (by omega)], by go_num, hS9.out⟩, by simp [intOf]; omega⟩
      exact absurd hno (by unfold isLit; simp only [decide_eq_true_eq]; omega)
    · obtain rfl : k = m := by omega
      have e1 : (args.map lvD).take k = args.map lvD := List.take_of_length_le (by rw [List.length_map]; have := EM.out; omega)
      have e2 : args.take k = args := List.take_of_length_le (by have := EM.out; omega)
      rw [e1] at hS
      have hin : VlsIn wr.heap.size wr q k d (args.map lvD) := rowP_in vlC_len hS.sat.1 (fun _ _ => trivial)
      have dE := cE _ _ _ hin
      have o1 := bO1
      have o2 := bO2
      have o3 := bO3
      clear hS hin e1 e2 cE
      go_wp2_with (first
        | ((with_reducible refine dE.mono ?_); rintro e w4 ⟨rfl, hb⟩; have F := G.out.later hb; (try clear i0 i1 i2 i3 i4 i5 i6 r0 r1 r2 rf z0 z1 z2 zf iz rz zz); obtain ⟨i0, i1, i2, i3, i4, i5, i6⟩ := F.c7 2 rfl; obtain ⟨r0, r1, r2, rf⟩ := F.c3 1 rfl; obtain ⟨z0, z1, z2, zf⟩ := F.c3 0 rfl; have iz := (F.at 2 rfl).2.1; have rz := (F.at 1 rfl).2.1; have zz := (F.at 0 rfl).2.1; have F2 := Fr.push (g := w4.heap.size) F rfl [.int .i64 2, .int .u64 0, .int .i64 (-1), .int .i64 0] 35; replace G := Lib.hid F; have G2 := Lib.hid F2; clear F F2 hb))
      exact bodyPost_ret (v := .tuple #[.agg #[.int .i64 4, .int .i64 0, .int .u64 0], .bool true]) (by simp [results, Try.results7, go_sem, *]) rfl ⟨rfl, (Fr.set3a G.out 1 rfl _ _ _ _)⟩
end Go.Proofs.Ytpjfkmaceaikbaa
