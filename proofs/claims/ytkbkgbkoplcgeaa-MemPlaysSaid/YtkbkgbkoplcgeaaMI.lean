/- The document's Unpack: numbers. -/
import Derived.Test.YtkbkgbkoplcgeaaMH
namespace Go.Proofs.Ytkbkgbkoplcgeaa
open Go.RowKit Go.Maps
set_option linter.unusedVariables false
set_option linter.unusedSimpArgs false

theorem drop_mem {l : List By} {m : Nat} (h : m < l.length) (y : By) : y ∈ l.drop m ↔ y = l[m] ∨ y ∈ l.drop (m + 1) := by rw [List.drop_eq_getElem_cons h]; exact List.mem_cons
theorem wrV_any {t : Int} {l : List By} (ha : ∀ y ∈ l, y.k = 1 ∨ y.k = 3) (h3 : ∃ y ∈ l, y.k = 3) : wrV t l = ⟨3, 0, 0, 0⟩ := by
  unfold wrV
  rw [if_neg (fun ⟨y, hy, x1, x2⟩ => (ha y hy).elim x1 x2), if_pos h3]
theorem wrV_num {t : Int} {l : List By} (ha : ∀ y ∈ l, y.k = 1 ∨ y.k = 3) (h3 : ¬ ∃ y ∈ l, y.k = 3) : wrV t l = ⟨1, num l % pw t.toNat, 0, 0⟩ := by
  unfold wrV
  rw [if_neg (fun ⟨y, hy, x1, x2⟩ => (ha y hy).elim x1 x2), if_neg h3]
theorem wrV_bad {t : Int} {l : List By} {y : By} (hy : y ∈ l) (h1 : y.k ≠ 1) (h3 : y.k ≠ 3) : wrV t l = p0 := by
  unfold wrV
  rw [if_pos ⟨y, hy, h1, h3⟩]
set_option maxHeartbeats 2000000 in
theorem rUnpack_num (t : Int) (W : World) (p : Option Addr) (c : Nat) (l : List By) (h : BysIn W.heap.size W p l.length c l) (hok : ∀ y ∈ l, y.ok) (hW : isW t = true) (hlw : l.length = wd t) :
    Calls Try.prog 19 #[.int .i64 t, .slice p l.length c] W fun e w' => e = .returned (wrV t l).val ∧ Below W.heap.size W w' := by
  have b0 := bV0
  have b1 := bV1
  have b2 := bV2
  have hcap := h.2.1
  have hmx := h.2.2.1
  unfold maxLen at hmx
  have H := Lib.hid h
  have OK := Lib.hid hok
  have hI := isW_iff.1 hW
  have hl8 : l.length ≤ 8 := by rw [hlw]; exact wd_le t
  have hpos : 0 < l.length := by rw [hlw]; exact (wd_pos t).2 (by omega)
  have hP : Past (W.heap.size + 1) (W.alloc (.cells #[.int .i64 0, .int .u64 0, .int .i64 0, .int .i64 0] 24)) (W.alloc (.cells #[.int .i64 0, .int .u64 0, .int .i64 0, .int .i64 0] 24)) := Past.refl (by simp)
  have R0 : Box W.heap.size [.int .i64 0, .int .u64 0, .int .i64 0, .int .i64 0] (W.alloc (.cells #[.int .i64 0, .int .u64 0, .int .i64 0, .int .i64 0] 24)) := Box.new W rfl _ _
  have HR := Lib.hid R0
  have c1 : ∀ w, Calls Try.prog 44 #[.int .i64 t] w fun e w' => e = .returned (.int .i64 l.length) ∧ w = w' := fun w => by rw [hlw]; exact rCount_any t w
  have c2 : ∀ v w, 0 ≤ v → v ≤ 18446744073709551615 → Calls Try.prog 47 #[.int .i64 t, .int .u64 v] w fun e w' => e = .returned (.int .u64 (v % pw t.toNat)) ∧ w = w' := fun v w a b => rCut_any t v w hI.1 hI.2 a b
  have g65 : (t == 65) = false := by simp; omega
  have g0 : ((l.length : Int) == 0) = false := beq_eq_false_iff_ne.2 (by omega)
  have HT := Lib.hid hI
  have HLW := Lib.hid hlw
  clear h R0 hok hI hW hlw
  go_enter Try.func19, Try.ntmps19
  go_wp2_with (first
    | ((with_reducible refine (c1 _).mono ?_); rintro e w' ⟨rfl, rfl⟩))
  go_loopw [7, 8, 9] (fun vv va u wr => ∃ (j : Nat) (f : Bool), j ≤ l.length ∧ u = .int .i64 ((j : Int) - 1) ∧ vv = .int .u64 (num (l.drop j)) ∧ va = .bool f ∧ Past (W.heap.size + 1) (W.alloc (.cells #[.int .i64 0, .int .u64 0, .int .i64 0, .int .i64 0] 24)) wr ∧ (∀ y ∈ l.drop j, y.k = 1 ∨ y.k = 3) ∧ (f = true ↔ ∃ y ∈ l.drop j, y.k = 3)) (fun _ _ u _ => ((intOf u) + 1).toNat)
  case atStart => exact ⟨l.length, false, Nat.le_refl _, rfl, by rw [List.drop_length]; rfl, rfl, hP, by rw [List.drop_length]; exact ⟨fun y hy => (by cases hy), ⟨fun h => (by cases h), fun ⟨y, hy, _⟩ => (by cases hy)⟩⟩⟩
  case round =>
    obtain ⟨j, f, hj, rfl, rfl, rfl, hb, hall, hf⟩ := hrel
    have hWp : Past W.heap.size W wr := ((Past.refl (Nat.le_refl _)).alloc _).trans ⟨by simp, hb.2.mono (Nat.le_succ _)⟩
    have hR := HR.out.below hb.2 (Nat.lt_succ_self _)
    have r0 := hR.get 0 _ rfl
    have r1 := hR.get 1 _ rfl
    have r2 := hR.get 2 _ rfl
    have r3 := hR.get 3 _ rfl
    have rf := hR.2.1
    have HP := Lib.hid hWp
    have HB := Lib.hid hb
    have hs := num_small (drop_ok OK.out j) (by rw [List.length_drop]; omega)
    have HAL := Lib.hid hall
    have HF := Lib.hid hf
    clear hWp hR hb hall hf
    cases j with
    | zero =>
      rw [List.drop_zero] at *
      have e1 : ((0 : Nat) : Int) - 1 = -1 := rfl
      obtain ⟨V, eV⟩ : ∃ V, num l = V := ⟨_, rfl⟩
      rw [eV] at hs ⊢
      have c3 := fun w => c2 V w hs.1 hs.2
      cases f with
      | true =>
        have HZ : Hid (wrV t l = ⟨3, 0, 0, 0⟩) := Lib.hid (wrV_any HAL.out (HF.out.1 rfl))
        clear eV
        go_wp2_with fail
        rw [HZ.out]
        exact bodyPost_ret (v := .agg #[.int .i64 3, .int .u64 0, .int .i64 0, .int .i64 0]) (by simp [results, Try.results19, go_sem, *]) rfl ⟨rfl, ((((HP.out.set (Nat.le_refl _) _).set (Nat.le_refl _) _).set (Nat.le_refl _) _).set (Nat.le_refl _) _).2⟩
      | false =>
        have HZ : Hid (wrV t l = ⟨1, V % pw t.toNat, 0, 0⟩) := Lib.hid (by rw [← eV]; exact wrV_num HAL.out (fun h => by have := HF.out.2 h; cases this))
        clear eV
        go_wp2_with (first
          | ((with_reducible refine (c3 _).mono ?_); rintro e w' ⟨rfl, rfl⟩))
        rw [HZ.out]
        exact bodyPost_ret (v := .agg #[.int .i64 1, .int .u64 (V % pw t.toNat), .int .i64 0, .int .i64 0]) (by simp [results, Try.results19, go_sem, *]) rfl ⟨rfl, ((((HP.out.set (Nat.le_refl _) _).set (Nat.le_refl _) _).set (Nat.le_refl _) _).set (Nat.le_refl _) _).2⟩
    | succ m =>
      have hlt : m < l.length := by omega
      obtain ⟨a, rfl, ha, hy⟩ := by_row H.out m hlt
      have hmem : l[m] ∈ l := List.getElem_mem hlt
      have hyk := OK.out _ hmem
      have hs2 := num_small (drop_ok OK.out m) (by rw [List.length_drop]; omega)
      have hnd := num_drop hlt
      have hdm := drop_mem hlt
      obtain ⟨⟨yk, yb, ybk, yo, yi⟩, ek⟩ : ∃ x, l[m] = x := ⟨_, rfl⟩
      rw [ek] at hy hmem hyk hnd hdm
      obtain ⟨f0, f1, f2, f3, f4⟩ : ByAt wr (a.add (m * 5)) ⟨yk, yb, ybk, yo, yi⟩ := by_at hy HP.out.2 (by rw [add_block]; exact ha)
      simp only at f0 f1 f2 f3 f4 hnd
      obtain ⟨V, eV⟩ : ∃ V, num (l.drop (m + 1)) = V := ⟨_, rfl⟩
      rw [eV] at hs hnd ⊢
      have ee : ((m + 1 : Nat) : Int) - 1 = m := by omega
      rw [ee]
      have HM := Lib.hid hmem
      have HND := Lib.hid hnd
      have HDM := Lib.hid hdm
      have hv0 := hs.1
      obtain ⟨hy0, hy1⟩ : 0 ≤ yb ∧ yb ≤ 255 := hyk
      have hv1 : V * 256 + yb ≤ 18446744073709551615 := by have := hs2.2; rw [hnd] at this; omega
      clear hy hmem hnd hdm ek eV ee hs hs2
      by_cases k1 : yk = 1
      · have hd1 : (yk != 1) = false := by rw [k1]; rfl
        have hd3 : (yk == 3) = false := by rw [k1]; rfl
        have K1 := Lib.hid k1
        clear k1
        cases f
        all_goals
          go_wp2_with fail
          refine ⟨⟨m, _, by omega, by go_num, by rw [HND.out]; go_num, rfl, HB.out, ?_, ?_⟩, by simp [intOf]⟩
          · intro y hy
            rcases (HDM.out y).1 hy with rfl | h
            · exact .inl K1.out
            · exact HAL.out y h
          · rw [HF.out]
            constructor
            · rintro ⟨y, hy, e⟩
              exact ⟨y, (HDM.out y).2 (.inr hy), e⟩
            · rintro ⟨y, hy, e⟩
              rcases (HDM.out y).1 hy with rfl | h
              · have := K1.out; simp only at e; omega
              · exact ⟨y, h, e⟩
      · have hd1 : (yk != 1) = true := by simpa using k1
        by_cases k3 : yk = 3
        · have hd2 : (yk != 3) = false := by rw [k3]; rfl
          have hd3 : (yk == 3) = true := by rw [k3]; rfl
          have K3 := Lib.hid k3
          clear k1 k3
          cases f
          all_goals
            go_wp2_with fail
            refine ⟨⟨m, true, by omega, by go_num, by rw [HND.out]; go_num, rfl, HB.out, ?_, ?_⟩, by simp [intOf]⟩
            · intro y hy
              rcases (HDM.out y).1 hy with rfl | h
              · exact .inr K3.out
              · exact HAL.out y h
            · exact ⟨fun _ => ⟨_, (HDM.out _).2 (.inl rfl), K3.out⟩, fun _ => rfl⟩
        · have hd2 : (yk != 3) = true := by simpa using k3
          have HZ : Hid (wrV t l = p0) := Lib.hid (wrV_bad HM.out k1 k3)
          clear k1 k3
          go_wp2_with fail
          rw [HZ.out]
          exact bodyPost_ret (v := .agg #[.int .i64 0, .int .u64 0, .int .i64 0, .int .i64 0]) (by simp [results, Try.results19, go_sem, *]) rfl ⟨rfl, ((((HP.out.set (Nat.le_refl _) _).set (Nat.le_refl _) _).set (Nat.le_refl _) _).set (Nat.le_refl _) _).2⟩
theorem rUnpack_any (t : Int) (W : World) (p : Option Addr) (c : Nat) (l : List By) (h : BysIn W.heap.size W p l.length c l) (hok : ∀ y ∈ l, y.ok) :
    Calls Try.prog 19 #[.int .i64 t, .slice p l.length c] W fun e w' => e = .returned (unpack t l).val ∧ Below W.heap.size W w' := by
  have b0 := bV0
  have hU := unpack_eq t l
  by_cases hz : wd t = 0 ∨ wd t ≠ l.length
  · rw [hU, if_pos (by rcases hz with h | h <;> omega)]
    have hcap := h.2.1
    have hmx := h.2.2.1
    unfold maxLen at hmx
    have c1 := fun w => rCount_any t w
    have hwd := wd_le t
    obtain ⟨n, hn⟩ : ∃ n, wd t = n := ⟨_, rfl⟩
    rw [hn] at hz hwd
    simp only [hn] at c1
    clear h hU hok hn
    show Calls _ _ _ W fun e w' => e = .returned (.agg #[.int .i64 0, .int .u64 0, .int .i64 0, .int .i64 0]) ∧ _
    by_cases h0 : n = 0
    · subst h0
      clear hz
      go_enter Try.func19, Try.ntmps19
      go_wp2_with (first
        | ((with_reducible refine (c1 _).mono ?_); rintro e w' ⟨rfl, rfl⟩))
      exact bodyPost_ret (v := .agg #[.int .i64 0, .int .u64 0, .int .i64 0, .int .i64 0]) (by simp [results, Try.results19, go_sem]) rfl ⟨rfl, below1 _ _⟩
    · have g1 : ((n : Int) == 0) = false := by simp; omega
      have g2 : ((n : Int) != (l.length : Int)) = true := by simp; omega
      clear hz h0
      go_enter Try.func19, Try.ntmps19
      go_wp2_with (first
        | ((with_reducible refine (c1 _).mono ?_); rintro e w' ⟨rfl, rfl⟩))
      exact bodyPost_ret (v := .agg #[.int .i64 0, .int .u64 0, .int .i64 0, .int .i64 0]) (by simp [results, Try.results19, go_sem]) rfl ⟨rfl, below1 _ _⟩
  · rw [hU, if_neg (fun x => hz (by rcases x with h | h <;> omega))]
    by_cases ht : t = 65
    · subst ht
      rw [if_pos rfl]
      exact rUnpack_addr W p c l h (by rw [← wd_65]; omega)
    · rw [if_neg ht]
      exact rUnpack_num t W p c l h hok (isW_iff.2 (by have := (wd_pos t).1 (by omega); omega)) (by omega)
end Go.Proofs.Ytkbkgbkoplcgeaa
