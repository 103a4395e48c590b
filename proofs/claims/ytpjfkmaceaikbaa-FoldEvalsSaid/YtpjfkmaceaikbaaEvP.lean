/- Package eval: values that were read, what an instruction makes of them, as plain data. -/
import Derived.Test.YtpjfkmaceaikbaaMPure
namespace Go.Proofs.Ytpjfkmaceaikbaa
open Go.RowKit Go.Maps
set_option linter.unusedVariables false
set_option linter.unusedSimpArgs false

/-- A value that was read as one of a type. -/
inductive EV where
  | poi
  | num (x : Int)
  | adr (bk o : Int)
  | any
def EV.vl : EV → Vl
  | .poi => p0
  | .num x => ⟨1, x, 0, 0⟩
  | .adr bk o => ⟨2, 0, bk, o⟩
  | .any => ⟨3, 0, 0, 0⟩
def nf (t : Int) (v : Vl) : EV := if v.k = 1 ∧ isW t = true then .num (v.b % pw t.toNat) else if v.k = 2 ∧ t = 65 then .adr v.bk v.o else if v.k = 3 ∧ 0 < wd t then .any else .poi
theorem nf_vl (t : Int) (v : Vl) : (nf t v).vl = norm t v := by
  unfold nf norm
  split
  · rfl
  · split
    · rfl
    · split <;> rfl
theorem nf_p0 (t : Int) : nf t p0 = .poi := by
  unfold nf
  rw [if_neg (fun x => absurd (show (0 : Int) = 1 from x.1) (by decide)), if_neg (fun x => absurd (show (0 : Int) = 2 from x.1) (by decide)), if_neg (fun x => absurd (show (0 : Int) = 3 from x.1) (by decide))]
/-- It may be what a type's value reads. -/
def Fit (t : Int) : EV → Prop
  | .poi => True
  | .num x => isW t = true ∧ 0 ≤ x ∧ x < pw t.toNat
  | .adr _ _ => t = 65
  | .any => 0 < wd t
theorem nf_fit (t : Int) (v : Vl) : Fit t (nf t v) := by
  unfold nf
  split
  · rename_i h
    exact ⟨h.2, Int.emod_nonneg _ (by have := pw_pos t.toNat; omega), Int.emod_lt_of_pos _ (pw_pos _)⟩
  · split
    · rename_i h; exact h.2
    · split
      · rename_i h; exact h.2
      · trivial
theorem Fit.num_in {t x : Int} (h : Fit t (.num x)) : 1 ≤ t ∧ t ≤ 64 ∧ 0 ≤ x ∧ x ≤ 18446744073709551615 ∧ x % pw t.toNat = x := by
  obtain ⟨h1, h2, h3⟩ := h
  have h4 := isW_iff.1 h1
  have h5 := pw_le64 (n := t.toNat) (by omega)
  exact ⟨h4.1, h4.2, h2, by omega, Int.emod_eq_of_lt h2 h3⟩
theorem Fit.ok {t : Int} {a : EV} (h : Fit t a) : a.vl.ok := by
  cases a with
  | num x => have := Fit.num_in h; exact ⟨this.2.2.1, this.2.2.2.1⟩
  | _ => exact ⟨by show (0 : Int) ≤ 0; decide, by show (0 : Int) ≤ _; decide⟩
/-- Reading again changes nothing. -/
theorem nf_again {t : Int} {a : EV} (h : Fit t a) : nf t a.vl = a := by
  cases a with
  | poi => exact nf_p0 t
  | num x =>
    have h2 := Fit.num_in h
    unfold nf
    rw [if_pos ⟨rfl, h.1⟩]
    show EV.num (x % pw t.toNat) = _
    rw [h2.2.2.2.2]
  | adr bk o =>
    unfold nf
    rw [if_neg (fun x => absurd (show (2 : Int) = 1 from x.1) (by decide)), if_pos ⟨rfl, h⟩]
    rfl
  | any =>
    unfold nf
    rw [if_neg (fun x => absurd (show (3 : Int) = 1 from x.1) (by decide)), if_neg (fun x => absurd (show (3 : Int) = 2 from x.1) (by decide)), if_pos ⟨rfl, h⟩]
/-- The same value? -/
def eqE : EV → EV → Bool
  | .poi, .poi => true
  | .num x, .num y => decide (x = y)
  | .adr a b, .adr c d => decide (a = c) && decide (b = d)
  | .any, .any => true
  | _, _ => false
theorem eqE_iff {a b : EV} : eqE a b = true ↔ a = b := by
  cases a <;> cases b <;> simp [eqE]
theorem eqE_refl (a : EV) : eqE a a = true := eqE_iff.2 rfl
/-- Does the second refine the first? -/
def betE : EV → EV → Bool
  | .poi, _ => true
  | .any, .poi => false
  | .any, _ => true
  | a, b => eqE a b
theorem betE_refl (a : EV) : betE a a = true := by cases a <;> simp [betE, eqE]
def unfE (fl : Int) : EV := if fl = 0 then .any else .poi
/-- What comes of two numbers; how it ends. -/
def appE (op ty fl x y : Int) : EV × Int :=
  if aplE ty.toNat op fl x y = 0 then (.num (plV ty.toNat op x y), 0) else if aplE ty.toNat op fl x y = 1 then (.poi, 0) else (.poi, aplE ty.toNat op fl x y)
def joinE (op ty fl : Int) : EV → EV → EV × Int
  | .poi, _ => (.poi, 0)
  | .num _, .poi => (.poi, 0)
  | .adr _ _, .poi => (.poi, 0)
  | .any, .poi => (.poi, 0)
  | .any, _ => (unfE fl, 0)
  | .num _, .any => (unfE fl, 0)
  | .adr _ _, .any => (unfE fl, 0)
  | .num x, .num y => appE op ty fl x y
  | .adr a b, .adr c d => (.num (if (decide (a = c) && decide (b = d)) = decide (op = 14) then 1 else 0), 0)
  | .num _, .adr _ _ => (.poi, 0)
  | .adr _ _, .num _ => (.poi, 0)
def divE (op ty fl : Int) (a b : EV) : EV × Int :=
  match b with
  | .poi => (.poi, 2)
  | .any => (.poi, 4)
  | .adr _ _ => (.poi, 2)
  | .num y => if y = 0 then (.poi, 2) else if (op = 5 ∨ op = 7) ∧ y = msk ty then (match a with | .poi => (.poi, 2) | .any => (.poi, 4) | _ => joinE op ty fl a b) else joinE op ty fl a b
def shfE (op ty fl : Int) (a b : EV) : EV × Int :=
  match b with
  | .any => (.poi, 0)
  | .num y => if ty ≤ y then (.poi, 0) else joinE op ty fl a b
  | _ => joinE op ty fl a b
def conE (op n ty : Int) : EV → EV
  | .num x => .num (cvV op n ty x)
  | a => a
def choE (a b c : EV) : EV :=
  match a with
  | .poi => .poi
  | .num x => if x = 1 then b else c
  | _ => if eqE b c = true then b else if eqE b .poi = true ∨ eqE c .poi = true then .poi else .any
def froE : EV → EV
  | .poi => .any
  | a => a
def movE : EV → EV → EV
  | .poi, _ => .poi
  | .num _, .poi => .poi
  | .adr _ _, .poi => .poi
  | .any, .poi => .poi
  | .any, _ => .any
  | .num _, .any => .any
  | .adr _ _, .any => .any
  | .adr bk o, .num y => .adr bk (wrap64 (o + sgn 64 y))
  | .num _, _ => .poi
  | .adr _ _, .adr _ _ => .poi
/-- What an instruction makes of the values that were read; how it ends. -/
def madE (op ty n fl : Int) (a b c : EV) : EV × Int :=
  if op = 4 ∨ op = 5 ∨ op = 6 ∨ op = 7 then divE op ty fl a b
  else if op = 11 ∨ op = 12 ∨ op = 13 then shfE op ty fl a b
  else if op = 20 ∨ op = 21 ∨ op = 22 then (conE op n ty a, 0)
  else if op = 23 then (choE a b c, 0)
  else if op = 24 then (froE a, 0)
  else if op = 29 then (movE a b, 0)
  else joinE op ty fl a b
def typE (op ty n : Int) : Bool :=
  if op = 14 ∨ op = 15 ∨ op = 23 ∨ op = 24 then decide (1 ≤ ty) && decide (ty ≤ 65)
  else if op = 20 ∨ op = 21 ∨ op = 22 then cvB op n ty
  else if op = 29 then decide (ty = 65)
  else (decide (1 ≤ op) && decide (op ≤ 19)) && (decide (1 ≤ ty) && decide (ty ≤ 64))
def cntE (op : Int) : Int := if op = 20 ∨ op = 21 ∨ op = 22 ∨ op = 24 then 1 else if op = 23 then 3 else 2
def wntE (op ty n i : Int) : Int :=
  if op = 20 ∨ op = 21 ∨ op = 22 then n else if op = 23 then (if i = 0 then 1 else ty) else if op = 29 then (if i = 1 then 64 else ty) else ty
def frmE (op ty n fl : Int) : Bool := decide (bits .andNot .i64 fl (flg op) = 0) && typE op ty n
/-- What Eval answers. -/
def evalE (op ty n fl : Int) (l : List Vl) : EV × Int :=
  if frmE op ty n fl = true ∧ (l.length : Int) = cntE op then
    madE op ty n fl (nf (wntE op ty n 0) (l.getD 0 p0)) (nf (wntE op ty n 1) (l.getD 1 p0)) (nf (wntE op ty n 2) (l.getD 2 p0))
  else (.poi, 3)
end Go.Proofs.Ytpjfkmaceaikbaa
