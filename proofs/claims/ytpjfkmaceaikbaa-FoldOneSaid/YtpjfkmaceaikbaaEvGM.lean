/- Package eval: what each part answers of values that were read. -/
import Derived.Test.YtpjfkmaceaikbaaEvCM
import Derived.Test.YtpjfkmaceaikbaaEvDM
import Derived.Test.YtpjfkmaceaikbaaEvDbM
import Derived.Test.YtpjfkmaceaikbaaEvDcM
import Derived.Test.YtpjfkmaceaikbaaEvSM
import Derived.Test.YtpjfkmaceaikbaaEvEM
import Derived.Test.YtpjfkmaceaikbaaEvHM
import Derived.Test.YtpjfkmaceaikbaaEvMM
namespace Go.Proofs.Ytpjfkmaceaikbaa
open Go.RowKit Go.Maps
set_option linter.unusedVariables false
set_option linter.unusedSimpArgs false
set_option maxRecDepth 100000
set_option maxHeartbeats 1000000


theorem unf_val (fl : Int) : (unfE fl).vl.val = .agg #[.int .i64 (unfE fl).vl.k, .int .u64 0, .int .i64 0, .int .i64 0] := by unfold unfE; split <;> rfl
theorem ne0 {x : Int} (h : x ≠ 0) : (x == 0) = false := by simpa using h
theorem ne' {x y : Int} (h : x ≠ y) : (x == y) = false := by simpa using h

theorem joined_any (d : Ins) (a b : EV) (fa : Fit d.ty a) (fb : Fit d.ty b) (hn : isW d.ty = true → 1 ≤ d.op ∧ d.op ≤ 19) (f0 : -9223372036854775808 ≤ d.fl) (f1 : d.fl ≤ 9223372036854775807) (hf : bits .andNot .i64 d.fl (flg d.op) = 0) (W : World) :
    Calls Try.prog 46 #[d.val, a.vl.val, b.vl.val] W fun e w' => e = .returned (.tuple #[(joinE d.op d.ty d.fl a b).1.vl.val, .int .i64 (joinE d.op d.ty d.fl a b).2]) ∧ Below W.heap.size W w' := by
  have num : ∀ x y, Fit d.ty (.num x) → Fit d.ty (.num y) → ∀ W, Calls Try.prog 66 #[d.val, (EV.num x).vl.val, (EV.num y).vl.val] W fun e w' => e = .returned (.tuple #[(appE d.op d.ty d.fl x y).1.vl.val, .int .i64 (appE d.op d.ty d.fl x y).2]) ∧ Below W.heap.size W w' := fun x y fx fy W => applied_any d x y (hn fx.1).1 (hn fx.1).2 f0 f1 hf fx fy W
  obtain ⟨op, rg, ty, n, fl, ap, al, ac, tp, tl, tc, ars⟩ := d
  simp only at fa fb hn f0 f1 hf num
  cases a with
  | poi => rw [join_poi (.inl rfl)]; exact joined_p1 op rg ty n fl ap al ac tp tl tc 0 0 0 b.vl.k b.vl.b b.vl.bk b.vl.o W
  | num x =>
    cases b with
    | poi => rw [join_poi (.inr rfl)]; exact joined_p2 op rg ty n fl ap al ac tp tl tc 1 x 0 0 0 0 0 rfl W
    | any => rw [join_any (fun e => by cases e) (fun e => by cases e) (.inr rfl)]; simp only [unf_val]; exact joined_a2 op rg ty n fl ap al ac tp tl tc 1 x 0 0 0 0 0 _ rfl rfl rfl W
    | num y => exact joined_n op rg ty n fl ap al ac tp tl tc x y _ _ _ _ _ (ne' (by have := Fit.num_in fa; omega)) (num x y fa fb) W
    | adr g h => exact (fit_mix fa fb).elim
  | adr c e =>
    cases b with
    | poi => rw [join_poi (.inr rfl)]; exact joined_p2 op rg ty n fl ap al ac tp tl tc 2 0 c e 0 0 0 rfl W
    | any => rw [join_any (fun e => by cases e) (fun e => by cases e) (.inr rfl)]; simp only [unf_val]; exact joined_a2 op rg ty n fl ap al ac tp tl tc 2 0 c e 0 0 0 _ rfl rfl rfl W
    | num y => exact (fit_mix fb fa).elim
    | adr g h =>
      have ht : ty = 65 := fa
      have ht' : (ty == 65) = true := by rw [ht]; rfl
      show Calls _ _ _ W fun r w' => r = .returned (.tuple #[(EV.num (if (decide (c = g) && decide (e = h)) = decide (op = 14) then 1 else 0)).vl.val, .int .i64 0]) ∧ _
      by_cases h1 : c = g
      · subst h1
        by_cases h2 : e = h
        · subst h2
          by_cases h3 : op = 14
          · rw [if_pos (by simp [h3])]; exact joined_s_t op rg ty n fl ap al ac tp tl tc c e c e ht' (by simpa using h3) W
          · rw [if_neg (by simp [h3])]; exact joined_s_f op rg ty n fl ap al ac tp tl tc c e c e ht' (ne' h3) W
        · by_cases h3 : op = 14
          · rw [if_neg (by simp [h2, h3])]; exact joined_d2_t op rg ty n fl ap al ac tp tl tc c e c h ht' (ne' h2) (by simpa using h3) W
          · rw [if_pos (by simp [h2, h3])]; exact joined_d2_f op rg ty n fl ap al ac tp tl tc c e c h ht' (ne' h2) (ne' h3) W
      · by_cases h3 : op = 14
        · rw [if_neg (by simp [h1, h3])]; exact joined_d1_t op rg ty n fl ap al ac tp tl tc c e g h ht' (ne' h1) (by simpa using h3) W
        · rw [if_pos (by simp [h1, h3])]; exact joined_d1_f op rg ty n fl ap al ac tp tl tc c e g h ht' (ne' h1) (ne' h3) W
  | any =>
    by_cases hb : b = .poi
    · subst hb; rw [join_poi (.inr rfl)]; exact joined_p2 op rg ty n fl ap al ac tp tl tc 3 0 0 0 0 0 0 rfl W
    · rw [join_any (fun e => by cases e) hb (.inl rfl)]
      simp only [unf_val]
      exact joined_a1 op rg ty n fl ap al ac tp tl tc 0 0 0 b.vl.k b.vl.b b.vl.bk b.vl.o _ (by cases b <;> first | rfl | exact absurd rfl hb) rfl W
theorem divided_any (d : Ins) (a b : EV) (fa : Fit d.ty a) (fb : Fit d.ty b) (ho : d.op = 4 ∨ d.op = 5 ∨ d.op = 6 ∨ d.op = 7) (hw : isW d.ty = true) (f0 : -9223372036854775808 ≤ d.fl) (f1 : d.fl ≤ 9223372036854775807) (hf : bits .andNot .i64 d.fl (flg d.op) = 0) (W : World) :
    Calls Try.prog 40 #[d.val, a.vl.val, b.vl.val] W fun e w' => e = .returned (.tuple #[(divE d.op d.ty d.fl a b).1.vl.val, .int .i64 (divE d.op d.ty d.fl a b).2]) ∧ Below W.heap.size W w' := by
  have c5 := fun W => joined_any d a b fa fb (fun _ => by omega) f0 f1 hf W
  obtain ⟨op, rg, ty, n, fl, ap, al, ac, tp, tl, tc, ars⟩ := d
  simp only at fa fb ho hw f0 f1 hf c5
  have hI := isW_iff.1 hw
  cases b with
  | poi => exact divided_p op rg ty n fl ap al ac tp tl tc a.vl.k a.vl.b a.vl.bk a.vl.o 0 0 0 W
  | any => exact divided_a op rg ty n fl ap al ac tp tl tc a.vl.k a.vl.b a.vl.bk a.vl.o 0 0 0 W
  | adr g h => have : ty = 65 := fb; omega
  | num y =>
    unfold divE
    by_cases h0 : y = 0
    · subst h0
      simp only [if_pos]
      exact divided_0 op rg ty n fl ap al ac tp tl tc a.vl.k a.vl.b a.vl.bk a.vl.o W
    · simp only [if_neg h0]
      by_cases h1 : op = 5 ∨ op = 7
      · have q5 : (op == 5) = true ∨ (op == 5) = false ∧ (op == 7) = true := by
          rcases h1 with rfl | rfl
          · exact .inl rfl
          · exact .inr ⟨rfl, rfl⟩
        by_cases h2 : y = msk ty
        · have cM : ∀ W, Calls Try.prog 38 #[.int .i64 ty] W fun e w' => e = .returned (.int .u64 y) ∧ W = w' := fun W => by rw [h2]; exact Mask_any ty W
          simp only [if_pos (show (op = 5 ∨ op = 7) ∧ y = msk ty from ⟨h1, h2⟩)]
          cases a with
          | poi => exact divided_mp op rg ty n fl ap al ac tp tl tc 0 0 0 y (ne0 h0) q5 cM W
          | any => exact divided_ma op rg ty n fl ap al ac tp tl tc 0 0 0 y (ne0 h0) q5 cM W
          | adr g h => have : ty = 65 := fa; omega
          | num x => exact divided_mn op rg ty n fl ap al ac tp tl tc 1 x 0 0 y _ _ _ _ _ (ne0 h0) q5 cM rfl rfl c5 W
        · simp only [if_neg (show ¬ ((op = 5 ∨ op = 7) ∧ y = msk ty) from fun e => h2 e.2)]
          exact divided_s op rg ty n fl ap al ac tp tl tc a.vl.k a.vl.b a.vl.bk a.vl.o y _ _ _ _ _ (ne0 h0) q5 (msk ty) (fun W => Mask_any ty W) (ne' h2) c5 W
      · simp only [if_neg (show ¬ ((op = 5 ∨ op = 7) ∧ y = msk ty) from fun e => h1 e.1)]
        exact divided_u op rg ty n fl ap al ac tp tl tc a.vl.k a.vl.b a.vl.bk a.vl.o y _ _ _ _ _ (ne0 h0) (ne' (fun e => h1 (.inl e))) (ne' (fun e => h1 (.inr e))) c5 W
theorem shifted_any (d : Ins) (a b : EV) (fa : Fit d.ty a) (fb : Fit d.ty b) (ho : d.op = 11 ∨ d.op = 12 ∨ d.op = 13) (hw : isW d.ty = true) (f0 : -9223372036854775808 ≤ d.fl) (f1 : d.fl ≤ 9223372036854775807) (hf : bits .andNot .i64 d.fl (flg d.op) = 0) (W : World) :
    Calls Try.prog 41 #[d.val, a.vl.val, b.vl.val] W fun e w' => e = .returned (.tuple #[(shfE d.op d.ty d.fl a b).1.vl.val, .int .i64 (shfE d.op d.ty d.fl a b).2]) ∧ Below W.heap.size W w' := by
  have c5 := fun W => joined_any d a b fa fb (fun _ => by omega) f0 f1 hf W
  obtain ⟨op, rg, ty, n, fl, ap, al, ac, tp, tl, tc, ars⟩ := d
  simp only at fa fb ho hw f0 f1 hf c5
  have hI := isW_iff.1 hw
  cases b with
  | poi => exact shifted_o op rg ty n fl ap al ac tp tl tc a.vl.k a.vl.b a.vl.bk a.vl.o 0 0 0 0 _ _ _ _ _ rfl rfl c5 W
  | any => exact shifted_a op rg ty n fl ap al ac tp tl tc a.vl.k a.vl.b a.vl.bk a.vl.o 0 0 0 W
  | adr g h => have : ty = 65 := fb; omega
  | num y =>
    unfold shfE
    by_cases h : ty ≤ y
    · simp only [if_pos h]
      exact shifted_g op rg ty n fl ap al ac tp tl tc a.vl.k a.vl.b a.vl.bk a.vl.o y hI.1 hI.2 h W
    · simp only [if_neg h]
      exact shifted_n op rg ty n fl ap al ac tp tl tc a.vl.k a.vl.b a.vl.bk a.vl.o y _ _ _ _ _ hI.1 hI.2 (by omega) c5 W
theorem converted_any (d : Ins) (a : EV) (fa : Fit d.n a) (W : World) :
    Calls Try.prog 42 #[d.val, a.vl.val] W fun e w' => e = .returned (conE d.op d.n d.ty a).vl.val ∧ Below W.heap.size W w' := by
  obtain ⟨op, rg, ty, n, fl, ap, al, ac, tp, tl, tc, ars⟩ := d
  simp only at fa
  cases a with
  | num x => exact converted_n op rg ty n fl ap al ac tp tl tc x (Fit.num_in fa).2.2.1 (Fit.num_in fa).2.2.2.1 W
  | poi => exact converted_o op rg ty n fl ap al ac tp tl tc 0 0 0 0 rfl W
  | any => exact converted_o op rg ty n fl ap al ac tp tl tc 3 0 0 0 rfl W
  | adr c e => exact converted_o op rg ty n fl ap al ac tp tl tc 2 0 c e rfl W
theorem frozen_any (a : EV) (W : World) :
    Calls Try.prog 44 #[a.vl.val] W fun e w' => e = .returned (froE a).vl.val ∧ Below W.heap.size W w' := by
  cases a with
  | poi => exact frozen_p 0 0 0 W
  | num x => exact frozen_o 1 x 0 0 rfl W
  | any => exact frozen_o 3 0 0 0 rfl W
  | adr c e => exact frozen_o 2 0 c e rfl W
theorem moved_any (a b : EV) (fa : Fit 65 a) (fb : Fit 64 b) (W : World) :
    Calls Try.prog 45 #[a.vl.val, b.vl.val] W fun e w' => e = .returned (movE a b).vl.val ∧ Below W.heap.size W w' := by
  by_cases ha : a = .poi
  · subst ha; exact moved_p1 0 0 0 b.vl.k b.vl.b b.vl.bk b.vl.o W
  · have na : (a.vl.k == 0) = false := by cases a <;> first | rfl | exact absurd rfl ha
    by_cases hb : b = .poi
    · subst hb; rw [mov_poi (.inr rfl)]; exact moved_p2 a.vl.k a.vl.b a.vl.bk a.vl.o 0 0 0 na W
    · have nb : (b.vl.k == 0) = false := by cases b <;> first | rfl | exact absurd rfl hb
      by_cases h2 : a = .any
      · subst h2; rw [mov_any ha hb (.inl rfl) fa]; exact moved_a1 0 0 0 b.vl.k b.vl.b b.vl.bk b.vl.o nb W
      · have na3 : (a.vl.k == 3) = false := by cases a <;> first | rfl | exact absurd rfl h2
        by_cases h3 : b = .any
        · subst h3; rw [mov_any ha hb (.inr rfl) fa]; exact moved_a2 a.vl.k a.vl.b a.vl.bk a.vl.o 0 0 0 na na3 W
        · cases a with
          | poi => exact absurd rfl ha
          | any => exact absurd rfl h2
          | num x => have := Fit.num_in fa; omega
          | adr c e =>
            cases b with
            | poi => exact absurd rfl hb
            | any => exact absurd rfl h3
            | adr g h => exact absurd (show (64 : Int) = 65 from fb) (by decide)
            | num y => exact moved_n c e y W
theorem chosen_gen (ak ab abk ao : Int) (h0 : (ak == 0) = false) (h1 : (ak == 1) = false) (b c : EV) (W : World) :
    Calls Try.prog 43 #[.agg #[.int .i64 ak, .int .u64 ab, .int .i64 abk, .int .i64 ao], b.vl.val, c.vl.val] W fun e w' => e = .returned (if eqE b c = true then b else if eqE b .poi = true ∨ eqE c .poi = true then .poi else .any).vl.val ∧ Below W.heap.size W w' := by
  cases b with
  | poi =>
    cases c with
    | poi => exact chosen_e ak ab abk ao 0 0 0 0 h0 h1 W
    | num x2 => exact chosen_k1 ak ab abk ao 0 0 0 1 x2 0 0 h0 h1 rfl W
    | adr p2 q2 => exact chosen_k1 ak ab abk ao 0 0 0 2 0 p2 q2 h0 h1 rfl W
    | any => exact chosen_k1 ak ab abk ao 0 0 0 3 0 0 0 h0 h1 rfl W
  | num x1 =>
    cases c with
    | poi => exact chosen_k2 ak ab abk ao 1 x1 0 0 0 0 0 h0 h1 rfl W
    | num x2 => 
      by_cases h : x1 = x2
      · subst h
        rw [if_pos (eqE_refl _)]
        exact chosen_e ak ab abk ao 1 x1 0 0 h0 h1 W
      · rw [if_neg (by simpa [eqE] using h), if_neg (by simp [eqE])]
        exact chosen_n ak ab abk ao x1 x2 h0 h1 (ne' h) W
    | adr p2 q2 => exact chosen_k3 ak ab abk ao 1 x1 0 0 2 0 p2 q2 h0 h1 rfl rfl rfl W
    | any => exact chosen_k3 ak ab abk ao 1 x1 0 0 3 0 0 0 h0 h1 rfl rfl rfl W
  | adr p1 q1 =>
    cases c with
    | poi => exact chosen_k2 ak ab abk ao 2 0 p1 q1 0 0 0 h0 h1 rfl W
    | num x2 => exact chosen_k3 ak ab abk ao 2 0 p1 q1 1 x2 0 0 h0 h1 rfl rfl rfl W
    | adr p2 q2 => 
      by_cases h : p1 = p2
      · subst h
        by_cases h2 : q1 = q2
        · subst h2
          rw [if_pos (eqE_refl _)]
          exact chosen_e ak ab abk ao 2 0 p1 q1 h0 h1 W
        · rw [if_neg (by simpa [eqE] using h2), if_neg (by simp [eqE])]
          exact chosen_d2 ak ab abk ao p1 q1 q2 h0 h1 (ne' h2) W
      · rw [if_neg (by simp [eqE, h]), if_neg (by simp [eqE])]
        exact chosen_d1 ak ab abk ao p1 q1 p2 q2 h0 h1 (ne' h) W
    | any => exact chosen_k3 ak ab abk ao 2 0 p1 q1 3 0 0 0 h0 h1 rfl rfl rfl W
  | any =>
    cases c with
    | poi => exact chosen_k2 ak ab abk ao 3 0 0 0 0 0 0 h0 h1 rfl W
    | num x2 => exact chosen_k3 ak ab abk ao 3 0 0 0 1 x2 0 0 h0 h1 rfl rfl rfl W
    | adr p2 q2 => exact chosen_k3 ak ab abk ao 3 0 0 0 2 0 p2 q2 h0 h1 rfl rfl rfl W
    | any => exact chosen_e ak ab abk ao 3 0 0 0 h0 h1 W
theorem chosen_any (a b c : EV) (fa : Fit 1 a) (W : World) :
    Calls Try.prog 43 #[a.vl.val, b.vl.val, c.vl.val] W fun e w' => e = .returned (choE a b c).vl.val ∧ Below W.heap.size W w' := by
  cases a with
  | poi => exact chosen_p b.vl.k b.vl.b b.vl.bk b.vl.o c.vl.k c.vl.b c.vl.bk c.vl.o W
  | num x =>
    have h := fa.2
    have e : pw (1 : Int).toNat = 2 := by decide +kernel
    rw [e] at h
    by_cases h1 : x = 1
    · subst h1; exact chosen_1 b.vl.k b.vl.b b.vl.bk b.vl.o c.vl.k c.vl.b c.vl.bk c.vl.o W
    · obtain rfl : x = 0 := by omega
      exact chosen_0 b.vl.k b.vl.b b.vl.bk b.vl.o c.vl.k c.vl.b c.vl.bk c.vl.o W
  | any => exact chosen_gen 3 0 0 0 rfl rfl b c W
  | adr p q => exact chosen_gen 2 0 p q rfl rfl b c W
end Go.Proofs.Ytpjfkmaceaikbaa
