/- MemBack: the walk. -/
import Derived.Test.YtdepgjonbodjlaaMV
namespace Go.Proofs.Ytdepgjonbodjlaa
open Go.RowKit Go.Maps
set_option linter.unusedVariables false
set_option linter.unusedSimpArgs false

theorem row_bytes {B n : Nat} {w : World} {p : Option Addr} {c : Nat} {ys : List By} (h : w.ownsRow B 32 5 (.slice p n c) n (ys.flatMap byC)) (hn : ys.length = n) : BysIn w.heap.size w p n c ys := bytes_in h hn.symm
/-- The end: both are told alike. -/
def BackEnds (t : Int) (v : Vl) (g g5 : Nat) (W : World) (w : World) : Prop := Past W.heap.size W w ∧ Box g (vlC v) w ∧ Box g5 (vlC (back t v)) w
theorem BackEnds.later {t : Int} {v : Vl} {g g5 : Nat} {W w w' : World} (h : BackEnds t v g g5 W w) (hb : Below w.heap.size w w') : BackEnds t v g g5 W w' :=
  ⟨h.1.trans ⟨h.1.size, hb.mono h.1.size⟩, h.2.1.later hb, h.2.2.later hb⟩
theorem BackEnds.drew {t : Int} {v : Vl} {g g5 : Nat} {W w : World} (h : BackEnds t v g g5 W w) : BackEnds t v g g5 W w.drew := h.later (below_drew (Below.refl _ _))
set_option maxHeartbeats 4000000 in
theorem memBack_walk (t : Int) (v : Vl) (W : World) (hv : v.ok) (hw : wf64 v.bk) :
    Calls Try.prog 4 #[.int .i64 t, v.val] W fun e w' => e = .returned (.bool true) ∧ Below W.heap.size W w' := by
  have b0 := bV0
  obtain ⟨vk, vb, vbk, vo⟩ := v
  have B1 := below1 W (.cells #[.int .i64 vk, .int .u64 vb, .int .i64 vbk, .int .i64 vo] 24)
  have V1 : Box W.heap.size (vlC ⟨vk, vb, vbk, vo⟩) (W.alloc (.cells #[.int .i64 vk, .int .u64 vb, .int .i64 vbk, .int .i64 vo] 24)) := Box.new W rfl _ _
  have c0 := lives_any (W.alloc (.cells #[.int .i64 vk, .int .u64 vb, .int .i64 vbk, .int .i64 vo] 24))
  have c1 : ∀ w, Calls Try.prog 15 #[.int .i64 t, .agg #[.int .i64 vk, .int .u64 vb, .int .i64 vbk, .int .i64 vo]] w fun e w' => e = .returned (.agg #[.int .i64 (norm t ⟨vk, vb, vbk, vo⟩).k, .int .u64 (norm t ⟨vk, vb, vbk, vo⟩).b, .int .i64 (norm t ⟨vk, vb, vbk, vo⟩).bk, .int .i64 (norm t ⟨vk, vb, vbk, vo⟩).o]) ∧ Below w.heap.size w w' := fun w => Norm_any t ⟨vk, vb, vbk, vo⟩ w hv
  have c2 : ∀ w, Calls Try.prog 15 #[.int .i64 t, .agg #[.int .i64 (norm t ⟨vk, vb, vbk, vo⟩).k, .int .u64 (norm t ⟨vk, vb, vbk, vo⟩).b, .int .i64 (norm t ⟨vk, vb, vbk, vo⟩).bk, .int .i64 (norm t ⟨vk, vb, vbk, vo⟩).o]] w fun e w' => e = .returned (.agg #[.int .i64 (norm t ⟨vk, vb, vbk, vo⟩).k, .int .u64 (norm t ⟨vk, vb, vbk, vo⟩).b, .int .i64 (norm t ⟨vk, vb, vbk, vo⟩).bk, .int .i64 (norm t ⟨vk, vb, vbk, vo⟩).o]) ∧ Below w.heap.size w w' := fun w => by
    have := Norm_any t (norm t ⟨vk, vb, vbk, vo⟩) w (norm_ok _ _)
    rw [norm_norm] at this
    exact this
  have hpl := pack_len t ⟨vk, vb, vbk, vo⟩
  have c3 : ∀ w, Calls Try.prog 10 #[.int .i64 t, .agg #[.int .i64 vk, .int .u64 vb, .int .i64 vbk, .int .i64 vo]] w fun e w' => ∃ p c, e = .returned (.slice p (wd t) c) ∧ BysIn w'.heap.size w' p (wd t) c (pack t ⟨vk, vb, vbk, vo⟩) ∧ Below w.heap.size w w' := fun w => by
    refine (Pack_any t ⟨vk, vb, vbk, vo⟩ w hv).mono ?_
    rintro e w' ⟨p, c, rfl, h, hb⟩
    exact ⟨p, c, rfl, row_bytes h hpl, hb⟩
  have c4 : ∀ w p c, BysIn w.heap.size w p (wd t) c (pack t ⟨vk, vb, vbk, vo⟩) → Calls Try.prog 13 #[.int .i64 t, .slice p (wd t) c] w fun e w' => e = .returned (.agg #[.int .i64 (back t ⟨vk, vb, vbk, vo⟩).k, .int .u64 (back t ⟨vk, vb, vbk, vo⟩).b, .int .i64 (back t ⟨vk, vb, vbk, vo⟩).bk, .int .i64 (back t ⟨vk, vb, vbk, vo⟩).o]) ∧ Below w.heap.size w w' := fun w p c h => by
    have := Unpack_any t w p c (pack t ⟨vk, vb, vbk, vo⟩) (by rw [hpl]; exact h) (pack_ok _ _)
    rw [hpl, unpack_pack] at this
    exact this
  have hbk : (t = 65 ∧ vk = 3 → back t ⟨vk, vb, vbk, vo⟩ = p0) ∧ (¬ (t = 65 ∧ vk = 3) → back t ⟨vk, vb, vbk, vo⟩ = norm t ⟨vk, vb, vbk, vo⟩) := ⟨fun h => if_pos h, fun h => if_neg h⟩
  have HB0 : ∀ w, Past W.heap.size W w → Box W.heap.size (vlC ⟨vk, vb, vbk, vo⟩) w → ∀ g5, Box g5 (vlC (back t ⟨vk, vb, vbk, vo⟩)) w → BackEnds t ⟨vk, vb, vbk, vo⟩ W.heap.size g5 W w := fun w a b g5 c => ⟨a, b, c⟩
  obtain ⟨n, en⟩ : ∃ n, norm t ⟨vk, vb, vbk, vo⟩ = n := ⟨_, rfl⟩
  simp only [en] at c1 c2 hbk
  obtain ⟨q, eq⟩ : ∃ q, back t ⟨vk, vb, vbk, vo⟩ = q := ⟨_, rfl⟩
  simp only [eq] at c4 hbk HB0
  obtain ⟨nk, nb, nbk, no⟩ := n
  obtain ⟨qk, qb, qbk, qo⟩ := q
  simp only at c1 c2 c4
  have EQ := Lib.hid eq
  have HB := Lib.hid B1
  have HV := Lib.hid V1
  have HK := Lib.hid hbk
  have HH := Lib.hid HB0
  clear B1 V1 hbk HB0 hpl en eq
  show Calls _ _ #[.int .i64 t, .agg #[.int .i64 vk, .int .u64 vb, .int .i64 vbk, .int .i64 vo]] W _
  by_cases h65 : t = 65
  · have e1 : (t == 65) = true := by rw [h65]; rfl
    by_cases h3 : vk = 3
    · have hq := HK.out.1 ⟨h65, h3⟩
      injection hq with q0 q1 q2 q3
      subst q0 q1 q2 q3
      have e3 : (vk == 3) = true := by rw [h3]; rfl
      clear h65 h3
      go_enter Try.func4, Try.ntmps4
      go_upto_region 6 with (first
        | ((with_reducible refine c0.mono ?_); rintro e w1 ⟨rfl, hb1⟩; have V2 := HV.out.later hb1; have v0 := V2.get 0 _ rfl; have v1 := V2.get 1 _ rfl; have v2 := V2.get 2 _ rfl; have v3 := V2.get 3 _ rfl)
        | ((with_reducible refine (c1 _).mono ?_); rintro e w2 ⟨rfl, hb2⟩; have V3 := V2.later hb2; have v0 := V3.get 0 _ rfl; have v1 := V3.get 1 _ rfl; have v2 := V3.get 2 _ rfl; have v3 := V3.get 3 _ rfl; have vlt := V3.1))
      have P1 : Past W.heap.size W w1 := ⟨Nat.le_refl _, HB.out.trans (hb1.mono HB.out.size)⟩
      have P2 : Past W.heap.size W w2 := P1.trans ⟨P1.size, hb2.mono P1.size⟩
      have E3 := HH.out _ (P2.alloc (.cells #[.int .i64 0, .int .u64 0, .int .i64 0, .int .i64 0] 24)) (V3.alloc _) w2.heap.size (Box.new w2 rfl _ _)
      obtain ⟨g5, eg⟩ : ∃ g, w2.heap.size = g := ⟨_, rfl⟩
      obtain ⟨w3, ew⟩ : ∃ w3, w2.alloc (.cells #[.int .i64 0, .int .u64 0, .int .i64 0, .int .i64 0] 24) = w3 := ⟨_, rfl⟩
      simp only [eg, ew] at E3 ⊢
      clear v0 v1 v2 v3 vlt V2 V3 P1 P2 hb1 hb2 eg ew
      have EQ2 := EQ.out
      have v0 := E3.2.1.get 0 _ rfl
      have v1 := E3.2.1.get 1 _ rfl
      have v2 := E3.2.1.get 2 _ rfl
      have v3 := E3.2.1.get 3 _ rfl
      have k0 := E3.2.2.get 0 _ rfl
      have k1 := E3.2.2.get 1 _ rfl
      have k2 := E3.2.2.get 2 _ rfl
      have k3 := E3.2.2.get 3 _ rfl
      rw [EQ2] at k0 k1 k2 k3
      simp only at v0 v1 v2 v3 k0 k1 k2 k3
      clear EQ2
      have HE := Lib.hid E3
      clear E3
      go_region_law (first
        | (go_simp
           (with_reducible refine (c3 _).mono ?_)
           rintro e w6 ⟨p6, k6, rfl, hr6, hb6⟩
           have E6 := HE.out.drew.later hb6
           have c5 := c4 w6 p6 k6 hr6
           have v0 := E6.2.1.get 0 _ rfl
           have v1 := E6.2.1.get 1 _ rfl
           have v2 := E6.2.1.get 2 _ rfl
           have v3 := E6.2.1.get 3 _ rfl
           have k0 := E6.2.2.get 0 _ rfl
           have k1 := E6.2.2.get 1 _ rfl
           have k2 := E6.2.2.get 2 _ rfl
           have k3 := E6.2.2.get 3 _ rfl
           rw [EQ.out] at k0 k1 k2 k3
           simp only at v0 v1 v2 v3 k0 k1 k2 k3
           have HE := Lib.hid E6
           clear hr6 hb6 E6)
        | (go_simp
           (with_reducible refine c5.mono ?_)
           rintro e w7 ⟨rfl, hb7⟩
           have E6 := HE.out.later hb7
           have v0 := E6.2.1.get 0 _ rfl
           have v1 := E6.2.1.get 1 _ rfl
           have v2 := E6.2.1.get 2 _ rfl
           have v3 := E6.2.1.get 3 _ rfl
           have k0 := E6.2.2.get 0 _ rfl
           have k1 := E6.2.2.get 1 _ rfl
           have k2 := E6.2.2.get 2 _ rfl
           have k3 := E6.2.2.get 3 _ rfl
           rw [EQ.out] at k0 k1 k2 k3
           simp only at v0 v1 v2 v3 k0 k1 k2 k3
           have HE := Lib.hid E6
           clear hb7 E6)
        | (go_simp
           (with_reducible refine (c2 _).mono ?_)
           rintro e w8 ⟨rfl, hb8⟩
           have E6 := HE.out.later hb8
           have v0 := E6.2.1.get 0 _ rfl
           have v1 := E6.2.1.get 1 _ rfl
           have v2 := E6.2.1.get 2 _ rfl
           have v3 := E6.2.1.get 3 _ rfl
           have k0 := E6.2.2.get 0 _ rfl
           have k1 := E6.2.2.get 1 _ rfl
           have k2 := E6.2.2.get 2 _ rfl
           have k3 := E6.2.2.get 3 _ rfl
           rw [EQ.out] at k0 k1 k2 k3
           simp only at v0 v1 v2 v3 k0 k1 k2 k3
           have HE := Lib.hid E6
           clear hb8 E6)
        | (go_simp
           (with_reducible refine (c1 _).mono ?_)
           rintro e w9 ⟨rfl, hb9⟩
           have E6 := HE.out.later hb9
           have v0 := E6.2.1.get 0 _ rfl
           have v1 := E6.2.1.get 1 _ rfl
           have v2 := E6.2.1.get 2 _ rfl
           have v3 := E6.2.1.get 3 _ rfl
           have k0 := E6.2.2.get 0 _ rfl
           have k1 := E6.2.2.get 1 _ rfl
           have k2 := E6.2.2.get 2 _ rfl
           have k3 := E6.2.2.get 3 _ rfl
           rw [EQ.out] at k0 k1 k2 k3
           simp only at v0 v1 v2 v3 k0 k1 k2 k3
           have HE := Lib.hid E6
           clear hb9 E6))
      all_goals
        go_wp2_with fail
        go_ret
        exact ⟨rfl, HE.out.1.2⟩
    · have hq := HK.out.2 (fun x => h3 x.2)
      injection hq with q0 q1 q2 q3
      subst q0 q1 q2 q3
      have e3 : (vk == 3) = false := by simpa using h3
      clear h65 h3
      go_enter Try.func4, Try.ntmps4
      go_upto_region 6 with (first
        | ((with_reducible refine c0.mono ?_); rintro e w1 ⟨rfl, hb1⟩; have V2 := HV.out.later hb1; have v0 := V2.get 0 _ rfl; have v1 := V2.get 1 _ rfl; have v2 := V2.get 2 _ rfl; have v3 := V2.get 3 _ rfl)
        | ((with_reducible refine (c1 _).mono ?_); rintro e w2 ⟨rfl, hb2⟩; have V3 := V2.later hb2; have v0 := V3.get 0 _ rfl; have v1 := V3.get 1 _ rfl; have v2 := V3.get 2 _ rfl; have v3 := V3.get 3 _ rfl; have vlt := V3.1))
      have P1 : Past W.heap.size W w1 := ⟨Nat.le_refl _, HB.out.trans (hb1.mono HB.out.size)⟩
      have P2 : Past W.heap.size W w2 := P1.trans ⟨P1.size, hb2.mono P1.size⟩
      have E3 := HH.out _ (P2.alloc (.cells #[.int .i64 qk, .int .u64 qb, .int .i64 qbk, .int .i64 qo] 24)) (V3.alloc _) w2.heap.size (Box.new w2 rfl _ _)
      obtain ⟨g5, eg⟩ : ∃ g, w2.heap.size = g := ⟨_, rfl⟩
      obtain ⟨w3, ew⟩ : ∃ w3, w2.alloc (.cells #[.int .i64 qk, .int .u64 qb, .int .i64 qbk, .int .i64 qo] 24) = w3 := ⟨_, rfl⟩
      simp only [eg, ew] at E3 ⊢
      clear v0 v1 v2 v3 vlt V2 V3 P1 P2 hb1 hb2 eg ew
      have EQ2 := EQ.out
      have v0 := E3.2.1.get 0 _ rfl
      have v1 := E3.2.1.get 1 _ rfl
      have v2 := E3.2.1.get 2 _ rfl
      have v3 := E3.2.1.get 3 _ rfl
      have k0 := E3.2.2.get 0 _ rfl
      have k1 := E3.2.2.get 1 _ rfl
      have k2 := E3.2.2.get 2 _ rfl
      have k3 := E3.2.2.get 3 _ rfl
      rw [EQ2] at k0 k1 k2 k3
      simp only at v0 v1 v2 v3 k0 k1 k2 k3
      clear EQ2
      have HE := Lib.hid E3
      clear E3
      go_region_law (first
        | (go_simp
           (with_reducible refine (c3 _).mono ?_)
           rintro e w6 ⟨p6, k6, rfl, hr6, hb6⟩
           have E6 := HE.out.drew.later hb6
           have c5 := c4 w6 p6 k6 hr6
           have v0 := E6.2.1.get 0 _ rfl
           have v1 := E6.2.1.get 1 _ rfl
           have v2 := E6.2.1.get 2 _ rfl
           have v3 := E6.2.1.get 3 _ rfl
           have k0 := E6.2.2.get 0 _ rfl
           have k1 := E6.2.2.get 1 _ rfl
           have k2 := E6.2.2.get 2 _ rfl
           have k3 := E6.2.2.get 3 _ rfl
           rw [EQ.out] at k0 k1 k2 k3
           simp only at v0 v1 v2 v3 k0 k1 k2 k3
           have HE := Lib.hid E6
           clear hr6 hb6 E6)
        | (go_simp
           (with_reducible refine c5.mono ?_)
           rintro e w7 ⟨rfl, hb7⟩
           have E6 := HE.out.later hb7
           have v0 := E6.2.1.get 0 _ rfl
           have v1 := E6.2.1.get 1 _ rfl
           have v2 := E6.2.1.get 2 _ rfl
           have v3 := E6.2.1.get 3 _ rfl
           have k0 := E6.2.2.get 0 _ rfl
           have k1 := E6.2.2.get 1 _ rfl
           have k2 := E6.2.2.get 2 _ rfl
           have k3 := E6.2.2.get 3 _ rfl
           rw [EQ.out] at k0 k1 k2 k3
           simp only at v0 v1 v2 v3 k0 k1 k2 k3
           have HE := Lib.hid E6
           clear hb7 E6)
        | (go_simp
           (with_reducible refine (c2 _).mono ?_)
           rintro e w8 ⟨rfl, hb8⟩
           have E6 := HE.out.later hb8
           have v0 := E6.2.1.get 0 _ rfl
           have v1 := E6.2.1.get 1 _ rfl
           have v2 := E6.2.1.get 2 _ rfl
           have v3 := E6.2.1.get 3 _ rfl
           have k0 := E6.2.2.get 0 _ rfl
           have k1 := E6.2.2.get 1 _ rfl
           have k2 := E6.2.2.get 2 _ rfl
           have k3 := E6.2.2.get 3 _ rfl
           rw [EQ.out] at k0 k1 k2 k3
           simp only at v0 v1 v2 v3 k0 k1 k2 k3
           have HE := Lib.hid E6
           clear hb8 E6)
        | (go_simp
           (with_reducible refine (c1 _).mono ?_)
           rintro e w9 ⟨rfl, hb9⟩
           have E6 := HE.out.later hb9
           have v0 := E6.2.1.get 0 _ rfl
           have v1 := E6.2.1.get 1 _ rfl
           have v2 := E6.2.1.get 2 _ rfl
           have v3 := E6.2.1.get 3 _ rfl
           have k0 := E6.2.2.get 0 _ rfl
           have k1 := E6.2.2.get 1 _ rfl
           have k2 := E6.2.2.get 2 _ rfl
           have k3 := E6.2.2.get 3 _ rfl
           rw [EQ.out] at k0 k1 k2 k3
           simp only at v0 v1 v2 v3 k0 k1 k2 k3
           have HE := Lib.hid E6
           clear hb9 E6))
      all_goals
        go_wp2_with fail
        go_ret
        exact ⟨rfl, HE.out.1.2⟩
  · have hq := HK.out.2 (fun x => h65 x.1)
    injection hq with q0 q1 q2 q3
    subst q0 q1 q2 q3
    have e1 : (t == 65) = false := by simpa using h65
    clear h65
    go_enter Try.func4, Try.ntmps4
    go_upto_region 6 with (first
      | ((with_reducible refine c0.mono ?_); rintro e w1 ⟨rfl, hb1⟩; have V2 := HV.out.later hb1; have v0 := V2.get 0 _ rfl; have v1 := V2.get 1 _ rfl; have v2 := V2.get 2 _ rfl; have v3 := V2.get 3 _ rfl)
      | ((with_reducible refine (c1 _).mono ?_); rintro e w2 ⟨rfl, hb2⟩; have V3 := V2.later hb2; have v0 := V3.get 0 _ rfl; have v1 := V3.get 1 _ rfl; have v2 := V3.get 2 _ rfl; have v3 := V3.get 3 _ rfl; have vlt := V3.1))
    have P1 : Past W.heap.size W w1 := ⟨Nat.le_refl _, HB.out.trans (hb1.mono HB.out.size)⟩
    have P2 : Past W.heap.size W w2 := P1.trans ⟨P1.size, hb2.mono P1.size⟩
    have E3 := HH.out _ (P2.alloc (.cells #[.int .i64 qk, .int .u64 qb, .int .i64 qbk, .int .i64 qo] 24)) (V3.alloc _) w2.heap.size (Box.new w2 rfl _ _)
    obtain ⟨g5, eg⟩ : ∃ g, w2.heap.size = g := ⟨_, rfl⟩
    obtain ⟨w3, ew⟩ : ∃ w3, w2.alloc (.cells #[.int .i64 qk, .int .u64 qb, .int .i64 qbk, .int .i64 qo] 24) = w3 := ⟨_, rfl⟩
    simp only [eg, ew] at E3 ⊢
    clear v0 v1 v2 v3 vlt V2 V3 P1 P2 hb1 hb2 eg ew
    have EQ2 := EQ.out
    have v0 := E3.2.1.get 0 _ rfl
    have v1 := E3.2.1.get 1 _ rfl
    have v2 := E3.2.1.get 2 _ rfl
    have v3 := E3.2.1.get 3 _ rfl
    have k0 := E3.2.2.get 0 _ rfl
    have k1 := E3.2.2.get 1 _ rfl
    have k2 := E3.2.2.get 2 _ rfl
    have k3 := E3.2.2.get 3 _ rfl
    rw [EQ2] at k0 k1 k2 k3
    simp only at v0 v1 v2 v3 k0 k1 k2 k3
    clear EQ2
    have HE := Lib.hid E3
    clear E3
    go_region_law (first
      | (go_simp
         (with_reducible refine (c3 _).mono ?_)
         rintro e w6 ⟨p6, k6, rfl, hr6, hb6⟩
         have E6 := HE.out.drew.later hb6
         have c5 := c4 w6 p6 k6 hr6
         have v0 := E6.2.1.get 0 _ rfl
         have v1 := E6.2.1.get 1 _ rfl
         have v2 := E6.2.1.get 2 _ rfl
         have v3 := E6.2.1.get 3 _ rfl
         have k0 := E6.2.2.get 0 _ rfl
         have k1 := E6.2.2.get 1 _ rfl
         have k2 := E6.2.2.get 2 _ rfl
         have k3 := E6.2.2.get 3 _ rfl
         rw [EQ.out] at k0 k1 k2 k3
         simp only at v0 v1 v2 v3 k0 k1 k2 k3
         have HE := Lib.hid E6
         clear hr6 hb6 E6)
      | (go_simp
         (with_reducible refine c5.mono ?_)
         rintro e w7 ⟨rfl, hb7⟩
         have E6 := HE.out.later hb7
         have v0 := E6.2.1.get 0 _ rfl
         have v1 := E6.2.1.get 1 _ rfl
         have v2 := E6.2.1.get 2 _ rfl
         have v3 := E6.2.1.get 3 _ rfl
         have k0 := E6.2.2.get 0 _ rfl
         have k1 := E6.2.2.get 1 _ rfl
         have k2 := E6.2.2.get 2 _ rfl
         have k3 := E6.2.2.get 3 _ rfl
         rw [EQ.out] at k0 k1 k2 k3
         simp only at v0 v1 v2 v3 k0 k1 k2 k3
         have HE := Lib.hid E6
         clear hb7 E6)
      | (go_simp
         (with_reducible refine (c2 _).mono ?_)
         rintro e w8 ⟨rfl, hb8⟩
         have E6 := HE.out.later hb8
         have v0 := E6.2.1.get 0 _ rfl
         have v1 := E6.2.1.get 1 _ rfl
         have v2 := E6.2.1.get 2 _ rfl
         have v3 := E6.2.1.get 3 _ rfl
         have k0 := E6.2.2.get 0 _ rfl
         have k1 := E6.2.2.get 1 _ rfl
         have k2 := E6.2.2.get 2 _ rfl
         have k3 := E6.2.2.get 3 _ rfl
         rw [EQ.out] at k0 k1 k2 k3
         simp only at v0 v1 v2 v3 k0 k1 k2 k3
         have HE := Lib.hid E6
         clear hb8 E6)
      | (go_simp
         (with_reducible refine (c1 _).mono ?_)
         rintro e w9 ⟨rfl, hb9⟩
         have E6 := HE.out.later hb9
         have v0 := E6.2.1.get 0 _ rfl
         have v1 := E6.2.1.get 1 _ rfl
         have v2 := E6.2.1.get 2 _ rfl
         have v3 := E6.2.1.get 3 _ rfl
         have k0 := E6.2.2.get 0 _ rfl
         have k1 := E6.2.2.get 1 _ rfl
         have k2 := E6.2.2.get 2 _ rfl
         have k3 := E6.2.2.get 3 _ rfl
         rw [EQ.out] at k0 k1 k2 k3
         simp only at v0 v1 v2 v3 k0 k1 k2 k3
         have HE := Lib.hid E6
         clear hb9 E6))
    all_goals
      go_wp2_with fail
      go_ret
      exact ⟨rfl, HE.out.1.2⟩
end Go.Proofs.Ytdepgjonbodjlaa
