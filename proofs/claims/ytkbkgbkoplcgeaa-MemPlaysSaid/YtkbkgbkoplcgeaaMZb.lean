/- The document's memory: inside. -/
import Derived.Test.YtkbkgbkoplcgeaaMZa
import Derived.Test.YtkbkgbkoplcgeaaME
namespace Go.Proofs.Ytkbkgbkoplcgeaa
open Go.RowKit Go.Maps
set_option linter.unusedVariables false
set_option linter.unusedSimpArgs false

theorem alive_in {W : World} {p : Option Addr} {c : Nat} {xs : List Rk} {D : Dm} {k : Int} (h : RmIn W p c xs D) (hA : dAlive D k = true) : ∃ i : Nat, ∃ hi : i < xs.length, k = (i : Int) ∧ atD D k = some xs[i].l ∧ xs[i].a = true := by
  have hin : 0 ≤ k ∧ k < xs.length := by
    refine Classical.byContradiction fun hn => ?_
    unfold dAlive at hA
    rw [h.out k hn] at hA
    cases hA
  have hi : k.toNat < xs.length := by omega
  have e : k = (k.toNat : Int) := by omega
  have ha := h.alive k.toNat hi
  rw [← e, hA] at ha
  refine ⟨k.toNat, hi, e, ?_, ha.symm⟩
  have := h.at k.toNat hi
  rw [← e] at this
  rw [this]
  unfold rkD
  rw [if_pos ha.symm]
theorem in_dead {D : Dm} {t : Int} {v : Vl} (h : dAlive D v.bk = false) : dIn D t v = false := by
  unfold dAlive at h
  unfold dIn
  cases e : atD D v.bk with
  | none => rfl
  | some l => rw [e] at h; cases h
theorem in_not {D : Dm} {t : Int} {v : Vl} (h : ∀ l, atD D v.bk = some l → ¬ (v.k = 2 ∧ wd t ≠ 0 ∧ 0 ≤ v.o ∧ v.o + wd t ≤ l.length)) : dIn D t v = false := by
  unfold dIn
  cases e : atD D v.bk with
  | none => rfl
  | some l => exact decide_eq_false (h l e)
set_option maxHeartbeats 2000000 in
theorem rInside_any (W : World) (p : Option Addr) (c : Nat) (xs : List Rk) (D : Dm) (t : Int) (v : Vl) (h : RmIn W p c xs D) :
    Calls Try.prog 70 #[.slice p xs.length c, .int .i64 t, v.val] W fun e w' => e = .returned (.bool (dIn D t v)) ∧ Below W.heap.size W w' := by
  have hc := h.row.2.1
  have hc2 := h.row.2.2.1
  unfold maxLen at hc2
  obtain ⟨vk, vb, vbk, vo⟩ := v
  have B1 := below1 W (.cells #[.int .i64 vk, .int .u64 vb, .int .i64 vbk, .int .i64 vo] 24)
  have V1 : Box W.heap.size (vlC ⟨vk, vb, vbk, vo⟩) (W.alloc (.cells #[.int .i64 vk, .int .u64 vb, .int .i64 vbk, .int .i64 vo] 24)) := Box.new W rfl _ _
  have hN := wd_le t
  have c0 := fun w => rCount_any t w
  have c1 : ∀ w, Below W.heap.size W w → Calls Try.prog 69 #[.slice p xs.length c, .int .i64 vbk] w fun e w' => e = .returned (.bool (dAlive D vbk)) ∧ w = w' := fun w hb => rAlive_any w p c xs D vbk (h.later hb)
  have HB := Lib.hid B1
  have HV := Lib.hid V1
  have HH := Lib.hid h
  obtain ⟨N, eN⟩ : ∃ N, wd t = N := ⟨_, rfl⟩
  have EN := Lib.hid eN
  simp only [eN] at c0 hN
  have v0 := V1.get 0 _ rfl
  have v2 := V1.get 2 _ rfl
  have v3 := V1.get 3 _ rfl
  have c1' := c1 _ B1
  clear B1 V1 h eN c1
  show Calls _ _ #[.slice p xs.length c, .int .i64 t, .agg #[.int .i64 vk, .int .u64 vb, .int .i64 vbk, .int .i64 vo]] W _
  by_cases q1 : vk = 2
  · have q1' : (vk != 2) = false := by rw [q1]; rfl
    by_cases q2 : N = 0
    · have q2' : ((N : Int) == 0) = true := by rw [q2]; rfl
      have HF : Hid (dIn D t ⟨vk, vb, vbk, vo⟩ = false) := Lib.hid (in_not fun l _ x => x.2.1 (by rw [EN.out]; exact q2))
      clear q1 q2
      go_enter Try.func70, Try.ntmps70
      go_wp2_with (first
        | ((with_reducible refine (c0 _).mono ?_); rintro e w1 ⟨rfl, rfl⟩))
      go_ret
      exact ⟨by rw [HF.out]; rfl, HB.out⟩
    · have q2' : ((N : Int) == 0) = false := by simpa using q2
      cases hA : dAlive D vbk with
      | false =>
        have HF : Hid (dIn D t ⟨vk, vb, vbk, vo⟩ = false) := Lib.hid (in_dead hA)
        simp only [hA] at c1'
        clear q1 q2 hA
        go_enter Try.func70, Try.ntmps70
        go_wp2_with (first
          | ((with_reducible refine (c0 _).mono ?_); rintro e w1 ⟨rfl, rfl⟩)
          | ((with_reducible refine c1'.mono ?_); rintro e w2 ⟨rfl, rfl⟩))
        go_ret
        exact ⟨by rw [HF.out]; rfl, HB.out⟩
      | true =>
        obtain ⟨i, hi, rfl, hat, hal⟩ := alive_in HH.out hA
        simp only [hA] at c1'
        have hsm := HH.out.small _ (List.getElem_mem hi)
        by_cases q3 : vo < 0
        · have HF : Hid (dIn D t ⟨vk, vb, i, vo⟩ = false) := Lib.hid (in_not fun l _ x => absurd x.2.2.1 (by simp only; omega))
          clear q1 q2 hA hat hal
          go_enter Try.func70, Try.ntmps70
          go_wp2_with (first
            | ((with_reducible refine (c0 _).mono ?_); rintro e w1 ⟨rfl, rfl⟩)
            | ((with_reducible refine c1'.mono ?_); rintro e w2 ⟨rfl, rfl⟩))
          go_ret
          exact ⟨by rw [HF.out]; rfl, HB.out⟩
        · by_cases q4 : 4096 < vo
          · have HF : Hid (dIn D t ⟨vk, vb, i, vo⟩ = false) := Lib.hid (in_not fun l e x => by rw [hat] at e; injection e with e; subst e; have := x.2.2.2; simp only at this; omega)
            clear q1 q2 hA hat hal
            go_enter Try.func70, Try.ntmps70
            go_wp2_with (first
              | ((with_reducible refine (c0 _).mono ?_); rintro e w1 ⟨rfl, rfl⟩)
              | ((with_reducible refine c1'.mono ?_); rintro e w2 ⟨rfl, rfl⟩))
            go_ret
            exact ⟨by rw [HF.out]; rfl, HB.out⟩
          · have HF : Hid (dIn D t ⟨vk, vb, i, vo⟩ = decide (vo + (N : Int) ≤ (xs[i].l.length : Int))) := Lib.hid (by
              unfold dIn
              rw [hat]
              show decide _ = decide _
              refine decide_eq_decide.2 ⟨fun x => by have := x.2.2.2; rw [EN.out] at this; exact this, fun x => ⟨q1, by rw [EN.out]; exact q2, by simp only; omega, by rw [EN.out]; exact x⟩⟩)
            have ew : IntKind.i64.wrap (vo + (N : Int)) = vo + (N : Int) := by rw [IntKind.wrap_i64]; omega
            have ti : (i : Int) < (xs.length : Int) := by omega
            have HC : Hid (∀ w, Below W.heap.size W w → ∃ a, p = some a ∧ a.block < w.heap.size ∧ w.cell? ⟨(a.add (i * 2)).block, (a.add (i * 2)).off + 1, none⟩ = some (.slice xs[i].p xs[i].l.length xs[i].c)) := Lib.hid (fun w hb => by
              obtain ⟨a, e, h0, _, h1, _⟩ := (HH.out.later hb).cell i hi
              exact ⟨a, e, h0, h1⟩)
            obtain ⟨⟨A, q, d, l⟩, eA⟩ : ∃ A, xs[i] = A := ⟨_, rfl⟩
            rw [eA] at HF HC
            have hp : Hid (∀ a, p = some a → True) := Lib.hid (fun _ _ => trivial)
            obtain ⟨a, ea, ha, _⟩ := HC.out W (Below.refl _ _)
            subst ea
            clear q1 q2 hA hat hal eA hp hsm
            simp only at HC HF
            go_enter Try.func70, Try.ntmps70
            go_wp2_with (first
              | ((with_reducible refine (c0 _).mono ?_); rintro e w1 ⟨rfl, rfl⟩)
              | ((with_reducible refine c1'.mono ?_); rintro e w2 ⟨rfl, rfl⟩))
            obtain ⟨a', ea', _, f1⟩ := HC.out _ HB.out
            obtain rfl : a = a' := by injection ea'
            clear ea'
            go_region
            go_wp2_with fail
            go_ret
            exact ⟨by rw [HF.out]; rfl, HB.out.trans (below_drew (Below.refl _ _))⟩
  · have q1' : (vk != 2) = true := by simpa using q1
    have HF : Hid (dIn D t ⟨vk, vb, vbk, vo⟩ = false) := Lib.hid (in_not fun l _ x => q1 x.1)
    clear q1
    go_enter Try.func70, Try.ntmps70
    go_wp2_with (first
      | ((with_reducible refine (c0 _).mono ?_); rintro e w1 ⟨rfl, rfl⟩))
    go_ret
    exact ⟨by rw [HF.out]; rfl, HB.out⟩
end Go.Proofs.Ytkbkgbkoplcgeaa
