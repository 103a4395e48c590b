/- Package eval: conversions one behind the other. -/
import Derived.Test.YtpjfkmaceaikbaaEvQ
namespace Go.Proofs.Ytpjfkmaceaikbaa
open Go.RowKit Go.Maps
set_option linter.unusedVariables false
set_option linter.unusedSimpArgs false

theorem sgn_wide {w v a : Int} (h1 : 1 ≤ w) (h : w < v) (h2 : v ≤ 64) : sgn v (sgn w a % pw v.toNat) = sgn w a := by
  rw [sgn_in _ (by omega) h2, Int.emod_emod]
  have hq := pw_pos w.toNat
  have hb : -pw (w.toNat - 1) ≤ sgn w a ∧ sgn w a < pw (w.toNat - 1) := by
    rw [sgn_in a h1 (by omega)]
    exact sg_bd (by omega) (Int.emod_nonneg a (by omega)) (Int.emod_lt_of_pos a hq)
  have hm := pw_mono (m := w.toNat - 1) (n := v.toNat - 1) (by omega)
  exact sg_uniq (by omega) ⟨0, by omega⟩ (by omega) (by omega)
theorem sgn_cut {w a : Int} (h1 : 1 ≤ w) (h2 : w ≤ 64) : sgn w a % pw w.toNat = a % pw w.toNat := by
  rw [sgn_in a h1 h2, sg_mod, Int.emod_emod]
theorem pw_dvd {m n : Nat} (h : m ≤ n) : pw m ∣ pw n := ⟨pw (n - m), by rw [← pw_add]; congr 1; omega⟩
theorem cvB_20 {f t : Int} (h1 : 1 ≤ f) (h : f < t) (h2 : t ≤ 64) : cvB 20 f t = true := by
  have e1 : isW f = true := isW_iff.2 ⟨h1, by omega⟩
  have e2 : isW t = true := isW_iff.2 ⟨by omega, h2⟩
  simp [cvB, e1, e2, h]
theorem cvB_21 {f t : Int} (h1 : 1 ≤ f) (h : f < t) (h2 : t ≤ 64) : cvB 21 f t = true := by
  have e1 : isW f = true := isW_iff.2 ⟨h1, by omega⟩
  have e2 : isW t = true := isW_iff.2 ⟨by omega, h2⟩
  simp [cvB, e1, e2, h]
theorem cvB_22 {f t : Int} (h1 : 1 ≤ t) (h : t < f) (h2 : f ≤ 64) : cvB 22 f t = true := by
  have e1 : isW f = true := isW_iff.2 ⟨by omega, h2⟩
  have e2 : isW t = true := isW_iff.2 ⟨h1, by omega⟩
  simp [cvB, e1, e2, h]
theorem cvV_20 {f t : Int} (h1 : 1 ≤ f) (h : f < t) (h2 : t ≤ 64) (x : Int) : cvV 20 f t x = x % pw f.toNat := by
  unfold cvV; rw [cvB_20 h1 h h2]; rfl
theorem cvV_21 {f t : Int} (h1 : 1 ≤ f) (h : f < t) (h2 : t ≤ 64) (x : Int) : cvV 21 f t x = sgn f x % pw t.toNat := by
  unfold cvV; rw [cvB_21 h1 h h2]; rfl
theorem cvV_22 {f t : Int} (h1 : 1 ≤ t) (h : t < f) (h2 : f ≤ 64) (x : Int) : cvV 22 f t x = x % pw t.toNat := by
  unfold cvV; rw [cvB_22 h1 h h2]; rfl
theorem con_fit {op f t : Int} (hc : cvB op f t = true) {a : EV} (fa : Fit f a) : Fit t (conE op f t a) := by
  have hw : isW f = true ∧ isW t = true := by
    unfold cvB at hc
    simp at hc
    exact hc.1
  have h2 := isW_iff.1 hw.2
  have hp := pw_pos t.toNat
  cases a with
  | poi => trivial
  | any => exact (wd_pos t).2 (by omega)
  | adr x y => have := isW_iff.1 hw.1; have : f = 65 := fa; omega
  | num x =>
    have hx := Fit.num_in fa
    have hbd : 0 ≤ cvV op f t x ∧ cvV op f t x < pw t.toNat := by
      unfold cvV
      rw [hc]
      have e0 := Int.emod_nonneg x (show pw t.toNat ≠ 0 by omega)
      have e1 := Int.emod_lt_of_pos x hp
      have e2 := Int.emod_nonneg (sgn f x) (show pw t.toNat ≠ 0 by omega)
      have e3 := Int.emod_lt_of_pos (sgn f x) hp
      show 0 ≤ (if op = 20 then x % pw f.toNat else if op = 21 then sgn f x % pw t.toNat else x % pw t.toNat) ∧ (if op = 20 then x % pw f.toNat else if op = 21 then sgn f x % pw t.toNat else x % pw t.toNat) < pw t.toNat
      by_cases c1 : op = 20
      · rw [if_pos c1, hx.2.2.2.2]
        subst c1
        have hft : f < t := by
          unfold cvB at hc
          simp at hc
          exact hc.2
        have := pw_mono (m := f.toNat) (n := t.toNat) (by omega)
        have := fa.2.2
        exact ⟨hx.2.2.1, by omega⟩
      · rw [if_neg c1]
        by_cases c2 : op = 21
        · rw [if_pos c2]; exact ⟨e2, e3⟩
        · rw [if_neg c2]; exact ⟨e0, e1⟩
    exact ⟨hw.2, hbd.1, hbd.2⟩
/-- Wider twice, and cut again. -/
theorem con_chain {op t u w : Int} (ho : op = 20 ∨ op = 21) (h1 : 1 ≤ t) (h2 : t < u) (h3 : u < w) (h4 : w ≤ 64) {a : EV} (fa : Fit t a) :
    conE op u w (conE op t u a) = conE op t w a ∧ conE 22 w t (conE op t w a) = a ∧ conE 22 u t (conE 22 w u (conE op t w a)) = a := by
  cases a with
  | poi => exact ⟨rfl, rfl, rfl⟩
  | any => exact ⟨rfl, rfl, rfl⟩
  | adr x y => exact ⟨rfl, rfl, rfl⟩
  | num x =>
    have hx := (Fit.num_in fa).2.2.2.2
    have hu : x % pw u.toNat = x := by
      have := pw_mono (m := t.toNat) (n := u.toNat) (by omega)
      exact Int.emod_eq_of_lt fa.2.1 (Int.lt_of_lt_of_le fa.2.2 this)
    have d1 := pw_dvd (m := t.toNat) (n := w.toNat) (by omega)
    have d2 := pw_dvd (m := t.toNat) (n := u.toNat) (by omega)
    have d3 := pw_dvd (m := u.toNat) (n := w.toNat) (by omega)
    show EV.num (cvV op u w (cvV op t u x)) = EV.num (cvV op t w x) ∧ EV.num (cvV 22 w t (cvV op t w x)) = EV.num x ∧ EV.num (cvV 22 u t (cvV 22 w u (cvV op t w x))) = EV.num x
    rcases ho with rfl | rfl
    · rw [cvV_20 (by omega) h3 h4, cvV_20 h1 h2 (by omega), cvV_20 h1 (by omega) h4, cvV_22 h1 (by omega) h4, cvV_22 (by omega) h3 h4, cvV_22 h1 h2 (by omega), hx, hu, hx]
      exact ⟨rfl, rfl, rfl⟩
    · rw [cvV_21 (by omega) h3 h4, cvV_21 h1 h2 (by omega), cvV_21 h1 (by omega) h4, cvV_22 h1 (by omega) h4, cvV_22 (by omega) h3 h4, cvV_22 h1 h2 (by omega)]
      rw [sgn_wide h1 h2 (by omega), Int.emod_emod_of_dvd _ d1, Int.emod_emod_of_dvd _ d3, Int.emod_emod_of_dvd _ d2, sgn_cut h1 (by omega), hx]
      exact ⟨rfl, rfl, rfl⟩
/-- A conversion of a value as Eval answers it. -/
theorem eval_con {op f t : Int} (hc : cvB op f t = true) (v : Vl) : evalE op t f 0 [v] = (conE op f t (nf f v), 0) := by
  have ho : op = 20 ∨ op = 21 ∨ op = 22 := by
    unfold cvB at hc
    simp at hc
    omega
  have hf : frmE op t f 0 = true := by
    unfold frmE typE
    rw [andNot_0, if_neg (by omega), if_pos ho, hc]
    rfl
  have hl : (([v] : List Vl).length : Int) = cntE op := by unfold cntE; rw [if_pos (by omega)]; rfl
  unfold evalE
  rw [if_pos ⟨hf, hl⟩]
  unfold madE wntE
  rw [if_neg (by omega), if_neg (by omega), if_pos ho, if_pos ho]
  rfl
/-- A value as an operand of a type reads it. -/
theorem eval_read {t : Int} (h1 : 1 ≤ t) (h2 : t ≤ 65) (n : Int) (v : Vl) : evalE 23 t n 0 [⟨1, 1, 0, 0⟩, v, p0] = (nf t v, 0) := by
  have hf : frmE 23 t n 0 = true := by
    unfold frmE typE
    rw [andNot_0, if_pos (by decide)]
    simp [h1, h2]
  unfold evalE
  rw [if_pos ⟨hf, rfl⟩]
  rfl
theorem eval_read_no {t : Int} (h : ¬ (1 ≤ t ∧ t ≤ 65)) (n : Int) (l : List Vl) : evalE 23 t n 0 l = (.poi, 3) := by
  unfold evalE
  rw [if_neg]
  rintro ⟨hf, _⟩
  unfold frmE typE at hf
  rw [if_pos (by decide)] at hf
  simp at hf
  omega
end Go.Proofs.Ytpjfkmaceaikbaa
