/- The document's eval (latheref10), by EV: applied, shifted, pair, chosen. -/
import Derived.Test.YtpjfkmaceaikbaaReBM
import Derived.Test.YtpjfkmaceaikbaaReB2M
import Derived.Test.YtpjfkmaceaikbaaReCM
import Derived.Test.YtpjfkmaceaikbaaBitsUM
namespace Go.Proofs.Ytpjfkmaceaikbaa
open Go.RowKit Go.Maps
set_option linter.unusedVariables false
set_option linter.unusedSimpArgs false
set_option maxRecDepth 100000
set_option maxHeartbeats 1000000

theorem aplE_012 (k : Nat) (op fl x y : Int) : aplE k op fl x y = 0 ∨ aplE k op fl x y = 1 ∨ aplE k op fl x y = 2 := by
  have h : plE k op x y = 0 ∨ plE k op x y = 1 ∨ plE k op x y = 2 := by
    unfold plE
    split
    · split <;> simp
    · split
      · split <;> simp
      · split
        · split <;> simp
        · simp
  unfold aplE
  rcases h with h | h | h
  · rw [if_pos h]; split <;> simp
  · rw [if_neg (by rw [h]; decide)]; exact .inr (.inl h)
  · rw [if_neg (by rw [h]; decide)]; exact .inr (.inr h)
theorem rApplied_any (d : Ins) (x y : Int) (o1 : 1 ≤ d.op) (o2 : d.op ≤ 19) (f0 : -9223372036854775808 ≤ d.fl) (f1 : d.fl ≤ 9223372036854775807) (hf : bits .andNot .i64 d.fl (flg d.op) = 0) (fx : Fit d.ty (.num x)) (fy : Fit d.ty (.num y)) (W : World) :
    Calls Try.prog 50 #[d.val, .int .u64 x, .int .u64 y] W fun e w' => e = .returned (.tuple #[(appE d.op d.ty d.fl x y).1.vl.val, .int .i64 (appE d.op d.ty d.fl x y).2]) ∧ Below W.heap.size W w' := by
  obtain ⟨op, rg, ty, n, fl, ap, al, ac, tp, tl, tc, ars⟩ := d
  simp only at o1 o2 f0 f1 hf fx fy
  have hE := aplE_012 ty.toNat op fl x y
  have hx := Fit.num_in fx
  have hy := Fit.num_in fy
  have hA := rApply_doc op ty fl x y o1 o2 hx.1 hx.2.1 f0 f1 hf hx.2.2.1 hx.2.2.2.1 hy.2.2.1 hy.2.2.2.1
  unfold aplT at hA
  rw [hx.2.2.2.2, hy.2.2.2.2] at hA
  show Calls _ _ #[.agg #[.int .i64 op, .int .i64 rg, .int .i64 ty, .int .i64 n, .int .i64 fl, .slice ap al ac, .slice tp tl tc], .int .u64 x, .int .u64 y] W fun e w' => e = .returned (.tuple #[(appE op ty fl x y).1.vl.val, .int .i64 (appE op ty fl x y).2]) ∧ _
  unfold appE
  unfold aplR at hA
  obtain ⟨E, eE⟩ : ∃ E, aplE ty.toNat op fl x y = E := ⟨_, rfl⟩
  obtain ⟨R, eR⟩ : ∃ R, plV ty.toNat op x y = R := ⟨_, rfl⟩
  rw [eE, eR] at hA
  rw [eE] at hE
  rw [eE, eR]
  clear eE eR hx hy fx fy o1 o2 f0 f1 hf
  have c1 : ∀ W, Calls Try.prog 67 #[.int .i64 op, .int .i64 ty, .int .i64 fl, .int .u64 x, .int .u64 y] W fun e w' => e = .returned (.tuple #[.int .u64 (if E = 0 then R else 0), .int .i64 E]) ∧ Below W.heap.size W w' := fun W => (hA W).mono fun e w' ⟨h1, h2⟩ => ⟨h1, h2.1⟩
  clear hA
  rcases hE with rfl | rfl | rfl
  · exact rApplied_v op rg ty n fl ap al ac tp tl tc x y R W c1
  · exact rApplied_p op rg ty n fl ap al ac tp tl tc x y 0 W c1
  · exact rApplied_d op rg ty n fl ap al ac tp tl tc x y 0 W c1

theorem rShifted_any (d : Ins) (a b : EV) (fa : Fit d.ty a) (fb : Fit d.ty b) (ho : d.op = 11 ∨ d.op = 12 ∨ d.op = 13) (hw : isW d.ty = true) (f0 : -9223372036854775808 ≤ d.fl) (f1 : d.fl ≤ 9223372036854775807) (hf : bits .andNot .i64 d.fl (flg d.op) = 0) (W : World) :
    Calls Try.prog 29 #[d.val, a.vl.val, b.vl.val] W fun e w' => e = .returned (.tuple #[(shfE d.op d.ty d.fl a b).1.vl.val, .int .i64 (shfE d.op d.ty d.fl a b).2]) ∧ Below W.heap.size W w' := by
  have num : ∀ x y, Fit d.ty (.num x) → Fit d.ty (.num y) → ∀ W, Calls Try.prog 50 #[d.val, .int .u64 x, .int .u64 y] W fun e w' => e = .returned (.tuple #[(appE d.op d.ty d.fl x y).1.vl.val, .int .i64 (appE d.op d.ty d.fl x y).2]) ∧ Below W.heap.size W w' := fun x y fx fy W => rApplied_any d x y (by omega) (by omega) f0 f1 hf fx fy W
  obtain ⟨op, rg, ty, n, fl, ap, al, ac, tp, tl, tc, ars⟩ := d
  simp only at fa fb ho hw f0 f1 hf num
  obtain ⟨t1, t2⟩ := isW_iff.1 hw
  cases a with
  | poi =>
    have e : shfE op ty fl .poi b = (.poi, 0) := by
      cases b <;> simp [shfE, joinE]
    rw [e]
    exact rShift_p op rg ty n fl ap al ac tp tl tc 0 0 0 b.vl.k b.vl.b b.vl.bk b.vl.o W
  | adr c o => exact absurd (show ty = 65 from fa) (by omega)
  | num x =>
    cases b with
    | poi => exact rShift_b op rg ty n fl ap al ac tp tl tc 1 x 0 0 0 0 0 0 W rfl rfl
    | any => exact rShift_b op rg ty n fl ap al ac tp tl tc 1 x 0 0 3 0 0 0 W rfl rfl
    | adr c o => exact absurd (show ty = 65 from fb) (by omega)
    | num y =>
      by_cases hg : ty ≤ y
      · have e : shfE op ty fl (.num x) (.num y) = (.poi, 0) := by simp [shfE, hg]
        rw [e]
        exact rShift_g op rg ty n fl ap al ac tp tl tc 1 x 0 0 y W rfl t1 t2 hg
      · have e : shfE op ty fl (.num x) (.num y) = appE op ty fl x y := by simp [shfE, hg, joinE]
        rw [e]
        exact rShift_n op rg ty n fl ap al ac tp tl tc x y _ _ _ _ _ W t1 t2 hg (num x y fa fb)
  | any =>
    cases b with
    | poi => exact rShift_b op rg ty n fl ap al ac tp tl tc 3 0 0 0 0 0 0 0 W rfl rfl
    | any => exact rShift_b op rg ty n fl ap al ac tp tl tc 3 0 0 0 3 0 0 0 W rfl rfl
    | adr c o => exact absurd (show ty = 65 from fb) (by omega)
    | num y =>
      by_cases hg : ty ≤ y
      · have e : shfE op ty fl .any (.num y) = (.poi, 0) := by simp [shfE, hg]
        rw [e]
        exact rShift_g op rg ty n fl ap al ac tp tl tc 3 0 0 0 y W rfl t1 t2 hg
      · have e : shfE op ty fl .any (.num y) = (unfE fl, 0) := by simp [shfE, hg, joinE]
        rw [e]
        unfold unfE
        by_cases h0 : fl = 0
        · rw [if_pos h0]
          exact rShift_a op rg ty n fl ap al ac tp tl tc y W t1 t2 hg (by simpa using h0)
        · rw [if_neg h0]
          exact rShift_u op rg ty n fl ap al ac tp tl tc y W t1 t2 hg (by simpa using h0)
theorem rPair_join (d : Ins) (a b : EV) (fa : Fit d.ty a) (fb : Fit d.ty b) (hn : isW d.ty = true → 1 ≤ d.op ∧ d.op ≤ 19) (h29 : d.op ≠ 29) (f0 : -9223372036854775808 ≤ d.fl) (f1 : d.fl ≤ 9223372036854775807) (hf : bits .andNot .i64 d.fl (flg d.op) = 0) (W : World) :
    Calls Try.prog 34 #[d.val, a.vl.val, b.vl.val] W fun e w' => e = .returned (.tuple #[(joinE d.op d.ty d.fl a b).1.vl.val, .int .i64 (joinE d.op d.ty d.fl a b).2]) ∧ Below W.heap.size W w' := by
  have num : ∀ x y, Fit d.ty (.num x) → Fit d.ty (.num y) → ∀ W, Calls Try.prog 50 #[d.val, .int .u64 x, .int .u64 y] W fun e w' => e = .returned (.tuple #[(appE d.op d.ty d.fl x y).1.vl.val, .int .i64 (appE d.op d.ty d.fl x y).2]) ∧ Below W.heap.size W w' := fun x y fx fy W => rApplied_any d x y (hn fx.1).1 (hn fx.1).2 f0 f1 hf fx fy W
  obtain ⟨op, rg, ty, n, fl, ap, al, ac, tp, tl, tc, ars⟩ := d
  simp only at fa fb hn h29 f0 f1 hf num
  have g29 : (op == 29) = false := by simpa using h29
  have mix : ∀ x c o, Fit ty (.num x) → Fit ty (.adr c o) → False := fun x c o h1 h2 => by
    have h3 := isW_iff.1 h1.1
    have h4 : ty = 65 := h2
    omega
  cases a with
  | poi =>
    have e : joinE op ty fl .poi b = (.poi, 0) := by cases b <;> rfl
    rw [e]
    exact rPair_p op rg ty n fl ap al ac tp tl tc 0 0 0 b.vl.k b.vl.b b.vl.bk b.vl.o W
  | num x =>
    cases b with
    | poi => exact rPair_q op rg ty n fl ap al ac tp tl tc 1 x 0 0 0 0 0 W rfl
    | any =>
      show Calls _ _ _ W fun e w' => e = .returned (.tuple #[(unfE fl).vl.val, .int .i64 0]) ∧ _
      unfold unfE
      by_cases h0 : fl = 0
      · rw [if_pos h0]; exact rPair_ba op rg ty n fl ap al ac tp tl tc 1 x 0 0 0 0 0 W rfl rfl (by simpa using h0)
      · rw [if_neg h0]; exact rPair_bu op rg ty n fl ap al ac tp tl tc 1 x 0 0 0 0 0 W rfl rfl (by simpa using h0)
    | num y => exact rPair_n op rg ty n fl ap al ac tp tl tc x y _ _ _ _ _ W g29 (by have := isW_iff.1 fa.1; simp; omega) (num x y fa fb)
    | adr g h => exact (mix _ _ _ fa fb).elim
  | adr c u =>
    cases b with
    | poi => exact rPair_q op rg ty n fl ap al ac tp tl tc 2 0 c u 0 0 0 W rfl
    | any =>
      show Calls _ _ _ W fun e w' => e = .returned (.tuple #[(unfE fl).vl.val, .int .i64 0]) ∧ _
      unfold unfE
      by_cases h0 : fl = 0
      · rw [if_pos h0]; exact rPair_ba op rg ty n fl ap al ac tp tl tc 2 0 c u 0 0 0 W rfl rfl (by simpa using h0)
      · rw [if_neg h0]; exact rPair_bu op rg ty n fl ap al ac tp tl tc 2 0 c u 0 0 0 W rfl rfl (by simpa using h0)
    | num y => exact (mix _ _ _ fb fa).elim
    | adr g v =>
      obtain rfl : ty = 65 := fa
      show Calls _ _ _ W fun r w' => r = .returned (.tuple #[(EV.num (if (decide (c = g) && decide (u = v)) = decide (op = 14) then 1 else 0)).vl.val, .int .i64 0]) ∧ _
      by_cases h1 : c = g
      · by_cases h2 : u = v
        · by_cases h3 : op = 14
          · have e : (if (decide (c = g) && decide (u = v)) = decide (op = 14) then (1 : Int) else 0) = 1 := by simp [h1, h2, h3]
            rw [e]
            exact rPair_ptr111 op rg n fl ap al ac tp tl tc c u g v W g29 (by simpa using h1) (by simpa using h2) (by simpa using h3)
          · have e : (if (decide (c = g) && decide (u = v)) = decide (op = 14) then (1 : Int) else 0) = 0 := by simp [h1, h2, h3]
            rw [e]
            exact rPair_ptr110 op rg n fl ap al ac tp tl tc c u g v W g29 (by simpa using h1) (by simpa using h2) (by simpa using h3)
        · by_cases h3 : op = 14
          · have e : (if (decide (c = g) && decide (u = v)) = decide (op = 14) then (1 : Int) else 0) = 0 := by simp [h1, h2, h3]
            rw [e]
            exact rPair_ptr101 op rg n fl ap al ac tp tl tc c u g v W g29 (by simpa using h1) (by simpa using h2) (by simpa using h3)
          · have e : (if (decide (c = g) && decide (u = v)) = decide (op = 14) then (1 : Int) else 0) = 1 := by simp [h1, h2, h3]
            rw [e]
            exact rPair_ptr100 op rg n fl ap al ac tp tl tc c u g v W g29 (by simpa using h1) (by simpa using h2) (by simpa using h3)
      · by_cases h2 : u = v
        · by_cases h3 : op = 14
          · have e : (if (decide (c = g) && decide (u = v)) = decide (op = 14) then (1 : Int) else 0) = 0 := by simp [h1, h2, h3]
            rw [e]
            exact rPair_ptr011 op rg n fl ap al ac tp tl tc c u g v W g29 (by simpa using h1) (by simpa using h2) (by simpa using h3)
          · have e : (if (decide (c = g) && decide (u = v)) = decide (op = 14) then (1 : Int) else 0) = 1 := by simp [h1, h2, h3]
            rw [e]
            exact rPair_ptr010 op rg n fl ap al ac tp tl tc c u g v W g29 (by simpa using h1) (by simpa using h2) (by simpa using h3)
        · by_cases h3 : op = 14
          · have e : (if (decide (c = g) && decide (u = v)) = decide (op = 14) then (1 : Int) else 0) = 0 := by simp [h1, h2, h3]
            rw [e]
            exact rPair_ptr001 op rg n fl ap al ac tp tl tc c u g v W g29 (by simpa using h1) (by simpa using h2) (by simpa using h3)
          · have e : (if (decide (c = g) && decide (u = v)) = decide (op = 14) then (1 : Int) else 0) = 1 := by simp [h1, h2, h3]
            rw [e]
            exact rPair_ptr000 op rg n fl ap al ac tp tl tc c u g v W g29 (by simpa using h1) (by simpa using h2) (by simpa using h3)
  | any =>
    cases b with
    | poi => exact rPair_q op rg ty n fl ap al ac tp tl tc 3 0 0 0 0 0 0 W rfl
    | num y =>
      show Calls _ _ _ W fun e w' => e = .returned (.tuple #[(unfE fl).vl.val, .int .i64 0]) ∧ _
      unfold unfE
      by_cases h0 : fl = 0
      · rw [if_pos h0]; exact rPair_aa op rg ty n fl ap al ac tp tl tc 0 0 0 1 y 0 0 W rfl (by simpa using h0)
      · rw [if_neg h0]; exact rPair_au op rg ty n fl ap al ac tp tl tc 0 0 0 1 y 0 0 W rfl (by simpa using h0)
    | adr g v =>
      show Calls _ _ _ W fun e w' => e = .returned (.tuple #[(unfE fl).vl.val, .int .i64 0]) ∧ _
      unfold unfE
      by_cases h0 : fl = 0
      · rw [if_pos h0]; exact rPair_aa op rg ty n fl ap al ac tp tl tc 0 0 0 2 0 g v W rfl (by simpa using h0)
      · rw [if_neg h0]; exact rPair_au op rg ty n fl ap al ac tp tl tc 0 0 0 2 0 g v W rfl (by simpa using h0)
    | any =>
      show Calls _ _ _ W fun e w' => e = .returned (.tuple #[(unfE fl).vl.val, .int .i64 0]) ∧ _
      unfold unfE
      by_cases h0 : fl = 0
      · rw [if_pos h0]; exact rPair_aa op rg ty n fl ap al ac tp tl tc 0 0 0 3 0 0 0 W rfl (by simpa using h0)
      · rw [if_neg h0]; exact rPair_au op rg ty n fl ap al ac tp tl tc 0 0 0 3 0 0 0 W rfl (by simpa using h0)
theorem rChosen_gen (ak ab abk ao : Int) (h0 : (ak == 0) = false) (h1 : (ak == 1) = false) (b c : EV) (W : World) :
    Calls Try.prog 30 #[.agg #[.int .i64 ak, .int .u64 ab, .int .i64 abk, .int .i64 ao], b.vl.val, c.vl.val] W fun e w' => e = .returned (if eqE b c = true then b else if eqE b .poi = true ∨ eqE c .poi = true then .poi else .any).vl.val ∧ Below W.heap.size W w' := by
  have ne' : ∀ {x y : Int}, x ≠ y → (x == y) = false := fun h => by simpa using h
  cases b with
  | poi =>
    cases c with
    | poi => exact rChosen_e ak ab abk ao 0 0 0 0 W h0 h1
    | num x2 => exact rChosen_k1 ak ab abk ao 0 0 0 1 x2 0 0 W h0 h1 rfl
    | adr p2 q2 => exact rChosen_k1 ak ab abk ao 0 0 0 2 0 p2 q2 W h0 h1 rfl
    | any => exact rChosen_k1 ak ab abk ao 0 0 0 3 0 0 0 W h0 h1 rfl
  | num x1 =>
    cases c with
    | poi => exact rChosen_k2 ak ab abk ao 1 x1 0 0 0 0 0 W h0 h1 rfl
    | num x2 => 
      by_cases h : x1 = x2
      · subst h
        rw [if_pos (eqE_refl _)]
        exact rChosen_e ak ab abk ao 1 x1 0 0 W h0 h1
      · rw [if_neg (by simpa [eqE] using h), if_neg (by simp [eqE])]
        exact rChosen_n ak ab abk ao x1 x2 W h0 h1 (ne' h)
    | adr p2 q2 => exact rChosen_k3 ak ab abk ao 1 x1 0 0 2 0 p2 q2 W h0 h1 rfl rfl rfl
    | any => exact rChosen_k3 ak ab abk ao 1 x1 0 0 3 0 0 0 W h0 h1 rfl rfl rfl
  | adr p1 q1 =>
    cases c with
    | poi => exact rChosen_k2 ak ab abk ao 2 0 p1 q1 0 0 0 W h0 h1 rfl
    | num x2 => exact rChosen_k3 ak ab abk ao 2 0 p1 q1 1 x2 0 0 W h0 h1 rfl rfl rfl
    | adr p2 q2 => 
      by_cases h : p1 = p2
      · subst h
        by_cases h2 : q1 = q2
        · subst h2
          rw [if_pos (eqE_refl _)]
          exact rChosen_e ak ab abk ao 2 0 p1 q1 W h0 h1
        · rw [if_neg (by simpa [eqE] using h2), if_neg (by simp [eqE])]
          exact rChosen_d2 ak ab abk ao p1 q1 q2 W h0 h1 (ne' h2)
      · rw [if_neg (by simp [eqE, h]), if_neg (by simp [eqE])]
        exact rChosen_d1 ak ab abk ao p1 q1 p2 q2 W h0 h1 (ne' h)
    | any => exact rChosen_k3 ak ab abk ao 2 0 p1 q1 3 0 0 0 W h0 h1 rfl rfl rfl
  | any =>
    cases c with
    | poi => exact rChosen_k2 ak ab abk ao 3 0 0 0 0 0 0 W h0 h1 rfl
    | num x2 => exact rChosen_k3 ak ab abk ao 3 0 0 0 1 x2 0 0 W h0 h1 rfl rfl rfl
    | adr p2 q2 => exact rChosen_k3 ak ab abk ao 3 0 0 0 2 0 p2 q2 W h0 h1 rfl rfl rfl
    | any => exact rChosen_e ak ab abk ao 3 0 0 0 W h0 h1
theorem rChosen_any (a b c : EV) (fa : Fit 1 a) (W : World) :
    Calls Try.prog 30 #[a.vl.val, b.vl.val, c.vl.val] W fun e w' => e = .returned (choE a b c).vl.val ∧ Below W.heap.size W w' := by
  cases a with
  | poi => exact rChosen_p 0 0 0 b.vl.k b.vl.b b.vl.bk b.vl.o c.vl.k c.vl.b c.vl.bk c.vl.o W
  | num x =>
    have h := fa.2
    have e : pw (1 : Int).toNat = 2 := by decide +kernel
    rw [e] at h
    by_cases h1 : x = 1
    · subst h1; exact rChosen_1 0 0 b.vl.k b.vl.b b.vl.bk b.vl.o c.vl.k c.vl.b c.vl.bk c.vl.o W
    · obtain rfl : x = 0 := by omega
      exact rChosen_0 0 0 0 b.vl.k b.vl.b b.vl.bk b.vl.o c.vl.k c.vl.b c.vl.bk c.vl.o W rfl
  | any => exact rChosen_gen 3 0 0 0 rfl rfl b c W
  | adr p q => exact rChosen_gen 2 0 p q rfl rfl b c W
end Go.Proofs.Ytpjfkmaceaikbaa
