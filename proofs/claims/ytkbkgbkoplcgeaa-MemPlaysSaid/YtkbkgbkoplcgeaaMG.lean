/- The document's Pack. -/
import Derived.Test.YtkbkgbkoplcgeaaME
namespace Go.Proofs.Ytkbkgbkoplcgeaa
open Go.RowKit Go.Maps
set_option linter.unusedVariables false
set_option linter.unusedSimpArgs false

theorem pk_snoc (t : Int) (x : Vl) (k : Nat) : (List.range (k + 1)).map (packAt t x) = (List.range k).map (packAt t x) ++ [packAt t x k] := by rw [List.range_succ, List.map_append]; rfl
theorem by_snoc (L : List By) (y : By) : (L ++ [y]).flatMap byC = L.flatMap byC ++ byC y := by rw [List.flatMap_append]; simp
theorem box_kept {w w' : World} {g : Nat} {cs : List Value} {row : Option Nat} (h : Box g cs w) (hg : w.grownBy w' row) (hne : some g ≠ row) : Box g cs w' := by
  have hb := hg.block g h.1 hne
  exact ⟨Nat.lt_of_lt_of_le h.1 hg.size, fun i => (World.frozen?_of_block (a := ⟨g, i, none⟩) hb).trans (h.2.1 i), fun i u e => (World.cell?_of_block (a := ⟨g, i, none⟩) hb).trans (h.2.2 i u e)⟩
theorem left_up (b : Int) (k : Nat) : b / pw (8 * k) / 256 = b / pw (8 * (k + 1)) := by
  rw [pw_up, Int.mul_comm, Int.ediv_ediv_of_nonneg (by have := pw_pos (8 * k); omega)]
theorem left_ok {b : Int} (h0 : 0 ≤ b) (h1 : b ≤ 18446744073709551615) (k : Nat) : 0 ≤ b / pw (8 * k) ∧ b / pw (8 * k) ≤ 18446744073709551615 := by
  have hp := pw_pos (8 * k)
  exact ⟨Int.ediv_nonneg h0 (by omega), Int.le_trans (Int.ediv_le_self _ h0) h1⟩
set_option maxHeartbeats 1000000 in
theorem rPack_any (t : Int) (v : Vl) (W : World) (hv : v.ok) :
    Calls Try.prog 16 #[.int .i64 t, v.val] W fun e w' => ∃ p c, e = .returned (.slice p (wd t) c) ∧ w'.ownsRow W.heap.size 32 5 (.slice p (wd t) c) (wd t) ((pack t v).flatMap byC) ∧ Below W.heap.size W w' := by
  obtain ⟨iV, hiV, hz0, hz1, hz2⟩ := info_parts infoBy
  have HI := Lib.hid (And.intro hiV (And.intro hz0 (And.intro hz1 hz2)))
  clear hiV hz0 hz1 hz2
  have hwd := wd_le t
  have c1 := fun w => rCount_any t w
  have HO := Lib.hid (norm_ok t v)
  have HPK : Hid (pack t v = (List.range (wd t)).map (packAt t (norm t v))) := Lib.hid rfl
  have c2 := fun w => rNorm_any t v w hv
  have HW : Hid (0 < wd t ∧ isW t = false → t = 65) := Lib.hid (fun h => by
    have := (wd_pos t).1 h.1
    have h2 : ¬ (1 ≤ t ∧ t ≤ 64) := isW_not.1 h.2
    omega)
  obtain ⟨n, hn⟩ : ∃ n, wd t = n := ⟨_, rfl⟩
  simp only [hn] at c1 hwd HPK HW ⊢
  obtain ⟨x, hx⟩ : ∃ x, norm t v = x := ⟨_, rfl⟩
  simp only [hx] at c2 HO HPK
  have HK : Hid (x.k = 1 ∨ x.k = 2 ∨ x.k = 3 ∨ x = p0) := Lib.hid (by
    rw [← hx]
    rcases norm_k t v with ⟨h, _⟩ | ⟨h, _⟩ | ⟨h, _⟩ | h
    · exact .inl h
    · exact .inr (.inl h)
    · exact .inr (.inr (.inl h))
    · exact .inr (.inr (.inr h)))
  clear hn hx hv
  obtain ⟨vk, vb, vbk, vo⟩ := v
  obtain ⟨xk, xb, xbk, xo⟩ := x
  have c3 : ∀ w, Calls Try.prog 21 #[.int .i64 t, .agg #[.int .i64 vk, .int .u64 vb, .int .i64 vbk, .int .i64 vo]] w fun e w' => e = .returned (.agg #[.int .i64 xk, .int .u64 xb, .int .i64 xbk, .int .i64 xo]) ∧ Below w.heap.size w w' := c2
  clear c2
  have b0 := bB1
  have b4 := bB4
  have P1 := Lib.hid ((Past.refl (Nat.le_refl W.heap.size)).alloc (.cells #[.int .i64 vk, .int .u64 vb, .int .i64 vbk, .int .i64 vo] 24))
  show Calls _ _ #[.int .i64 t, .agg #[.int .i64 vk, .int .u64 vb, .int .i64 vbk, .int .i64 vo]] W _
  go_enter Try.func16, Try.ntmps16
  go_wp2_with (first
    | ((with_reducible refine (c1 _).mono ?_); rintro e w' ⟨rfl, rfl⟩)
    | ((with_reducible refine (c3 _).mono ?_); rintro e w2 ⟨rfl, hb2⟩))
  have P2 : Past W.heap.size W w2 := P1.out.trans ⟨P1.out.size, hb2.mono P1.out.size⟩
  have P3 := P2.alloc (.cells #[.int .i64 xk, .int .u64 xb, .int .i64 xbk, .int .i64 xo] 24)
  have X0 : Box w2.heap.size [.int .i64 xk, .int .u64 xb, .int .i64 xbk, .int .i64 xo] (w2.alloc (.cells #[.int .i64 xk, .int .u64 xb, .int .i64 xbk, .int .i64 xo] 24)) := Box.new w2 rfl _ _
  have hge := P2.size
  clear hb2 P2 P1
  have h64 := HO.out.2
  have h0 := HO.out.1
  simp only at h0 h64
  have HX := Lib.hid (And.intro h0 h64)
  obtain ⟨g, hg⟩ : ∃ g, w2.heap.size = g := ⟨_, rfl⟩
  obtain ⟨w3, hw3⟩ : ∃ w3, w2.alloc (.cells #[.int .i64 xk, .int .u64 xb, .int .i64 xbk, .int .i64 xo] 24) = w3 := ⟨_, rfl⟩
  simp only [hg, hw3] at *
  clear hg hw3
  go_loopw [5, 7, 8] (fun vl vx u wr => ∃ (k : Nat) (p : Option Addr) (c : Nat), k ≤ n ∧ u = .int .i64 k ∧ vx = .int .u64 (xb / pw (8 * k)) ∧ vl = .slice p k c ∧ Past W.heap.size W wr ∧ Box g [.int .i64 xk, .int .u64 xb, .int .i64 xbk, .int .i64 xo] wr ∧ (∀ j, (Value.slice p k c).ownBlock = some j → j ≠ g) ∧ wr.ownsRow W.heap.size 32 5 (.slice p k c) k (((List.range k).map (packAt t ⟨xk, xb, xbk, xo⟩)).flatMap byC)) (fun _ _ u _ => n - (intOf u).toNat)
  case atStart => exact ⟨0, none, 0, Nat.zero_le _, rfl, by show Value.int .u64 xb = .int .u64 (xb / pw 0); rw [pw_0, Int.ediv_one], rfl, P3, X0, fun j h => by simp [Value.ownBlock] at h, World.ownsRow_nil _ _ _ _⟩
  case round =>
    obtain ⟨k, p, c, hk, rfl, rfl, rfl, hp, hbx, hne, hr⟩ := hrel
    have r0 := hbx.get 0 _ rfl
    have r1 := hbx.get 1 _ rfl
    have r2 := hbx.get 2 _ rfl
    have r3 := hbx.get 3 _ rfl
    have glt := hbx.1
    have hL := left_ok h0 h64 k
    have HU := Lib.hid (left_up xb k)
    obtain ⟨L, eL⟩ : ∃ L, xb / pw (8 * k) = L := ⟨_, rfl⟩
    rw [eL] at hL HU
    simp only [eL]
    have EL := Lib.hid eL
    obtain ⟨hL0, hL1⟩ := hL
    have HB := Lib.hid hbx
    have HP := Lib.hid hp
    have HR := Lib.hid hr
    have HN := Lib.hid hne
    clear hp hbx hr hne eL
    by_cases hlt : k < n
    · have h63 : Hid (k + 1 ≤ maxLen) := Lib.hid (by unfold maxLen; omega)
      have hb1 : Hid ((k + 1) * 40 ≤ 140737488355328) := Lib.hid (by omega)
      by_cases k1 : xk = 1
      · have HY : Hid (packAt t ⟨xk, xb, xbk, xo⟩ k = ⟨xk, L % 256, 0, 0, 0⟩) := Lib.hid (by rw [← EL.out]; exact (if_pos k1).trans (by rw [k1]))
        have hd1 : (xk == 1) = true := by rw [k1]; rfl
        have hd2 : (xk == 2) = false := by rw [k1]; rfl
        have hd3 : (xk == 3) = false := by rw [k1]; rfl
        clear k1
        go_wp2_with (first
          | ((with_reducible refine (c1 _).mono ?_); rintro e w' ⟨rfl, rfl⟩)
          | (at_builtin; refine wpList_append_at rfl (.tmp 50) (.tmp 52) 25 rfl W.heap.size 32 iV _ 5 40 Try.underlying25 HI.out.1 HI.out.2.1 HI.out.2.2.1 HI.out.2.2.2 rfl (by decide) (.slice p k c) k _ rfl ((HR.out.alloc _).alloc _) (some ⟨wr.heap.size + 1, 0, none⟩) 1 1 (byC ⟨xk, L % 256, 0, 0, 0⟩) rfl rfl (lit_at' _ (by simp) _ _) (byC_one _) h63.out hb1.out (by have := HP.out.size; simp; omega) ?_; intro v8 w8 hown8 hgrow8 hmv8))
        obtain ⟨q8, c8, rfl⟩ := row_slice hown8
        rw [← HY.out, ← by_snoc, ← pk_snoc] at hown8
        exact ⟨⟨k + 1, q8, c8, hlt, by go_num, by rw [← HU.out], rfl, ((HP.out.alloc _).alloc _).grownRow hgrow8 (fun j e => (HR.out.lt j e).1), box_kept ((HB.out.alloc _).alloc _) hgrow8 (fun e => HN.out _ e.symm rfl), fun j e => by
          rcases hmv8 with h | h
          · exact HN.out j (h.symm.trans e)
          · rw [h] at e; injection e with e; simp at e; omega, hown8⟩, by simp [intOf]; omega⟩
      · by_cases k2 : xk = 2
        · have HY : Hid (packAt t ⟨xk, xb, xbk, xo⟩ k = ⟨2, 0, xbk, xo, k⟩) := Lib.hid ((if_neg k1).trans (if_pos k2))
          have hd1 : (xk == 1) = false := by simpa using k1
          have hd2 : (xk == 2) = true := by rw [k2]; rfl
          have hd3 : (xk == 3) = false := by rw [k2]; rfl
          clear k1 k2
          go_wp2_with (first
            | ((with_reducible refine (c1 _).mono ?_); rintro e w' ⟨rfl, rfl⟩)
            | (at_builtin; refine wpList_append_at rfl (.tmp 50) (.tmp 52) 25 rfl W.heap.size 32 iV _ 5 40 Try.underlying25 HI.out.1 HI.out.2.1 HI.out.2.2.1 HI.out.2.2.2 rfl (by decide) (.slice p k c) k _ rfl ((HR.out.alloc _).alloc _) (some ⟨wr.heap.size + 1, 0, none⟩) 1 1 (byC ⟨2, 0, xbk, xo, k⟩) rfl rfl (lit_at' _ (by simp) _ _) (byC_one _) h63.out hb1.out (by have := HP.out.size; simp; omega) ?_; intro v8 w8 hown8 hgrow8 hmv8))
          obtain ⟨q8, c8, rfl⟩ := row_slice hown8
          rw [← HY.out, ← by_snoc, ← pk_snoc] at hown8
          exact ⟨⟨k + 1, q8, c8, hlt, by go_num, by rw [← HU.out], rfl, ((HP.out.alloc _).alloc _).grownRow hgrow8 (fun j e => (HR.out.lt j e).1), box_kept ((HB.out.alloc _).alloc _) hgrow8 (fun e => HN.out _ e.symm rfl), fun j e => by
            rcases hmv8 with h | h
            · exact HN.out j (h.symm.trans e)
            · rw [h] at e; injection e with e; simp at e; omega, hown8⟩, by simp [intOf]; omega⟩
        · have hd1 : (xk == 1) = false := by simpa using k1
          have hd2 : (xk == 2) = false := by simpa using k2
          by_cases k3 : xk = 3
          · have hd3 : (xk == 3) = true := by rw [k3]; rfl
            by_cases ht : t = 65
            · have HY : Hid (packAt t ⟨xk, xb, xbk, xo⟩ k = ⟨0, 0, 0, 0, 0⟩) := Lib.hid ((((if_neg k1).trans (if_neg k2)).trans (if_neg (fun x => by rw [ht, isW_65] at x; exact absurd x.2 (by decide)))))
              have hd4 : (t == 65) = true := by rw [ht]; rfl
              clear k1 k2 k3 ht
              go_wp2_with (first
                | ((with_reducible refine (c1 _).mono ?_); rintro e w' ⟨rfl, rfl⟩)
                | (at_builtin; refine wpList_append_at rfl (.tmp 50) (.tmp 52) 25 rfl W.heap.size 32 iV _ 5 40 Try.underlying25 HI.out.1 HI.out.2.1 HI.out.2.2.1 HI.out.2.2.2 rfl (by decide) (.slice p k c) k _ rfl ((HR.out.alloc _).alloc _) (some ⟨wr.heap.size + 1, 0, none⟩) 1 1 (byC ⟨0, 0, 0, 0, 0⟩) rfl rfl (lit_at' _ (by simp) _ _) (byC_one _) h63.out hb1.out (by have := HP.out.size; simp; omega) ?_; intro v8 w8 hown8 hgrow8 hmv8))
              obtain ⟨q8, c8, rfl⟩ := row_slice hown8
              rw [← HY.out, ← by_snoc, ← pk_snoc] at hown8
              exact ⟨⟨k + 1, q8, c8, hlt, by go_num, by rw [← HU.out], rfl, ((HP.out.alloc _).alloc _).grownRow hgrow8 (fun j e => (HR.out.lt j e).1), box_kept ((HB.out.alloc _).alloc _) hgrow8 (fun e => HN.out _ e.symm rfl), fun j e => by
                rcases hmv8 with h | h
                · exact HN.out j (h.symm.trans e)
                · rw [h] at e; injection e with e; simp at e; omega, hown8⟩, by simp [intOf]; omega⟩
            · have HY : Hid (packAt t ⟨xk, xb, xbk, xo⟩ k = ⟨xk, 0, 0, 0, 0⟩) := Lib.hid ((((if_neg k1).trans (if_neg k2)).trans (if_pos ⟨k3, by cases h : isW t with | true => rfl | false => exact absurd (HW.out ⟨by omega, h⟩) ht⟩)).trans (by rw [k3]))
              have hd4 : (t == 65) = false := by simpa using ht
              clear k1 k2 k3 ht
              go_wp2_with (first
                | ((with_reducible refine (c1 _).mono ?_); rintro e w' ⟨rfl, rfl⟩)
                | (at_builtin; refine wpList_append_at rfl (.tmp 50) (.tmp 52) 25 rfl W.heap.size 32 iV _ 5 40 Try.underlying25 HI.out.1 HI.out.2.1 HI.out.2.2.1 HI.out.2.2.2 rfl (by decide) (.slice p k c) k _ rfl ((HR.out.alloc _).alloc _) (some ⟨wr.heap.size + 1, 0, none⟩) 1 1 (byC ⟨xk, 0, 0, 0, 0⟩) rfl rfl (lit_at' _ (by simp) _ _) (byC_one _) h63.out hb1.out (by have := HP.out.size; simp; omega) ?_; intro v8 w8 hown8 hgrow8 hmv8))
              obtain ⟨q8, c8, rfl⟩ := row_slice hown8
              rw [← HY.out, ← by_snoc, ← pk_snoc] at hown8
              exact ⟨⟨k + 1, q8, c8, hlt, by go_num, by rw [← HU.out], rfl, ((HP.out.alloc _).alloc _).grownRow hgrow8 (fun j e => (HR.out.lt j e).1), box_kept ((HB.out.alloc _).alloc _) hgrow8 (fun e => HN.out _ e.symm rfl), fun j e => by
                rcases hmv8 with h | h
                · exact HN.out j (h.symm.trans e)
                · rw [h] at e; injection e with e; simp at e; omega, hown8⟩, by simp [intOf]; omega⟩
          · have HY : Hid (packAt t ⟨xk, xb, xbk, xo⟩ k = ⟨xk, 0, 0, 0, 0⟩) := Lib.hid ((((if_neg k1).trans (if_neg k2)).trans (if_neg (fun x => k3 x.1))).trans (by have e : xk = 0 := (by rcases HK.out with h | h | h | h <;> first | exact absurd h k1 | exact absurd h k2 | exact absurd h k3 | exact congrArg Vl.k h); rw [e]; rfl))
            have hd3 : (xk == 3) = false := by simpa using k3
            clear k1 k2 k3
            go_wp2_with (first
              | ((with_reducible refine (c1 _).mono ?_); rintro e w' ⟨rfl, rfl⟩)
              | (at_builtin; refine wpList_append_at rfl (.tmp 50) (.tmp 52) 25 rfl W.heap.size 32 iV _ 5 40 Try.underlying25 HI.out.1 HI.out.2.1 HI.out.2.2.1 HI.out.2.2.2 rfl (by decide) (.slice p k c) k _ rfl ((HR.out.alloc _).alloc _) (some ⟨wr.heap.size + 1, 0, none⟩) 1 1 (byC ⟨xk, 0, 0, 0, 0⟩) rfl rfl (lit_at' _ (by simp) _ _) (byC_one _) h63.out hb1.out (by have := HP.out.size; simp; omega) ?_; intro v8 w8 hown8 hgrow8 hmv8))
            obtain ⟨q8, c8, rfl⟩ := row_slice hown8
            rw [← HY.out, ← by_snoc, ← pk_snoc] at hown8
            exact ⟨⟨k + 1, q8, c8, hlt, by go_num, by rw [← HU.out], rfl, ((HP.out.alloc _).alloc _).grownRow hgrow8 (fun j e => (HR.out.lt j e).1), box_kept ((HB.out.alloc _).alloc _) hgrow8 (fun e => HN.out _ e.symm rfl), fun j e => by
              rcases hmv8 with h | h
              · exact HN.out j (h.symm.trans e)
              · rw [h] at e; injection e with e; simp at e; omega, hown8⟩, by simp [intOf]; omega⟩
    · obtain rfl : k = n := by omega
      go_wp2_with (first
        | ((with_reducible refine (c1 _).mono ?_); rintro e w' ⟨rfl, rfl⟩))
      go_ret
      exact ⟨_, _, rfl, by rw [HPK.out]; exact HR.out, HP.out.2⟩
end Go.Proofs.Ytkbkgbkoplcgeaa
