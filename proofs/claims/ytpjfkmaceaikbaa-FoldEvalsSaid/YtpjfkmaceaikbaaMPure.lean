/- Package mem: values, bytes, what is packed and unpacked, as plain data. -/
import Derived.Test.YtpjfkmaceaikbaaBaseE
import Derived.Test.YtpjfkmaceaikbaaBitsM
namespace Go.Proofs.Ytpjfkmaceaikbaa
open Go.RowKit Go.Maps
set_option linter.unusedVariables false
set_option linter.unusedSimpArgs false

/-- A value. -/
structure Vl where
  k : Int
  b : Int
  bk : Int
  o : Int
/-- A byte. -/
structure By where
  k : Int
  b : Int
  bk : Int
  o : Int
  i : Int
def vlC (v : Vl) : List Value := [.int .i64 v.k, .int .u64 v.b, .int .i64 v.bk, .int .i64 v.o]
def byC (y : By) : List Value := [.int .i64 y.k, .int .u8 y.b, .int .i64 y.bk, .int .i64 y.o, .int .i64 y.i]
def Vl.val (v : Vl) : Value := .agg #[.int .i64 v.k, .int .u64 v.b, .int .i64 v.bk, .int .i64 v.o]
def By.val (y : By) : Value := .agg #[.int .i64 y.k, .int .u8 y.b, .int .i64 y.bk, .int .i64 y.o, .int .i64 y.i]
/-- The number of a value, of a byte is one of its type. -/
def Vl.ok (v : Vl) : Prop := 0 ≤ v.b ∧ v.b ≤ 18446744073709551615
def By.ok (y : By) : Prop := 0 ≤ y.b ∧ y.b ≤ 255
def p0 : Vl := ⟨0, 0, 0, 0⟩
def q0 : By := ⟨0, 0, 0, 0, 0⟩
theorem byC_one (y : By) : ∀ u ∈ byC y, u.oneCell' = true := by intro u hu; unfold byC at hu; simp at hu; rcases hu with rfl | rfl | rfl | rfl | rfl <;> rfl
theorem byC_len (y : By) : (byC y).length = 5 := rfl
theorem vl_ext {a b : Vl} (h0 : a.k = b.k) (h1 : a.b = b.b) (h2 : a.bk = b.bk) (h3 : a.o = b.o) : a = b := by cases a; cases b; simp_all
theorem by_ext {a b : By} (h0 : a.k = b.k) (h1 : a.b = b.b) (h2 : a.bk = b.bk) (h3 : a.o = b.o) (h4 : a.i = b.i) : a = b := by cases a; cases b; simp_all

/-- How many bytes a type has. -/
def wd (t : Int) : Nat := if isW t then (t.toNat + 7) / 8 else if t = 65 then 8 else 0
theorem wd_le (t : Int) : wd t ≤ 8 := by
  unfold wd
  split
  · rename_i h; have := isW_iff.1 h; omega
  · split <;> omega
theorem wd_pos (t : Int) : 0 < wd t ↔ 1 ≤ t ∧ t ≤ 65 := by
  unfold wd
  by_cases h : isW t = true
  · rw [if_pos h]; have := isW_iff.1 h; omega
  · rw [if_neg h]
    have h2 : ¬ (1 ≤ t ∧ t ≤ 64) := fun x => h (isW_iff.2 x)
    split <;> omega
theorem wd_in {t : Int} (h1 : 1 ≤ t) (h2 : t ≤ 64) : wd t = (t.toNat + 7) / 8 := by unfold wd; rw [if_pos (isW_iff.2 ⟨h1, h2⟩)]
/-- A value as one of a type. -/
def norm (t : Int) (v : Vl) : Vl :=
  if v.k = 1 ∧ isW t = true then ⟨1, v.b % pw t.toNat, 0, 0⟩ else if v.k = 2 ∧ t = 65 then ⟨2, 0, v.bk, v.o⟩ else if v.k = 3 ∧ 0 < wd t then ⟨3, 0, 0, 0⟩ else p0
theorem norm_ok (t : Int) (v : Vl) : (norm t v).ok := by
  unfold norm Vl.ok
  split
  · rename_i h
    have h1 := isW_iff.1 h.2
    have h2 := pw_pos t.toNat
    have h3 := pw_le64 (n := t.toNat) (by omega)
    have h4 := Int.emod_nonneg v.b (show pw t.toNat ≠ 0 by omega)
    have h5 := Int.emod_lt_of_pos v.b h2
    exact ⟨h4, by show v.b % pw t.toNat ≤ _; omega⟩
  · split
    · exact ⟨by show (0 : Int) ≤ 0; decide, by show (0 : Int) ≤ _; decide⟩
    · split <;> exact ⟨by decide, by decide⟩
/-- The byte at a place of a value that is one of the type. -/
def packAt (t : Int) (x : Vl) (i : Nat) : By :=
  if x.k = 1 then ⟨1, x.b / pw (8 * i) % 256, 0, 0, 0⟩ else if x.k = 2 then ⟨2, 0, x.bk, x.o, i⟩ else if x.k = 3 ∧ isW t = true then ⟨3, 0, 0, 0, 0⟩ else q0
def pack (t : Int) (v : Vl) : List By := (List.range (wd t)).map (packAt t (norm t v))
theorem pack_len (t : Int) (v : Vl) : (pack t v).length = wd t := by unfold pack; simp
theorem packAt_ok (t : Int) (x : Vl) (i : Nat) : (packAt t x i).ok := by
  unfold packAt By.ok
  split
  · exact ⟨Int.emod_nonneg _ (by decide), by have := Int.emod_lt_of_pos (x.b / pw (8 * i)) (show (0 : Int) < 256 by decide); show x.b / pw (8 * i) % 256 ≤ 255; omega⟩
  · split
    · exact ⟨by show (0 : Int) ≤ 0; decide, by show (0 : Int) ≤ _; decide⟩
    · split <;> exact ⟨by decide, by decide⟩
theorem pack_ok (t : Int) (v : Vl) : ∀ y ∈ pack t v, y.ok := fun y hy => by
  unfold pack at hy
  obtain ⟨i, _, rfl⟩ := List.mem_map.1 hy
  exact packAt_ok _ _ _
/-- The number that bytes write, the lowest first. -/
def num : List By → Int
  | [] => 0
  | y :: l => y.b + 256 * num l
/-- The first n bytes are pieces of the address, in order. -/
def AdOk (l : List By) (bk o : Int) (n : Nat) : Prop := ∀ j, j < n → ∃ y, l[j]? = some y ∧ y.k = 2 ∧ y.bk = bk ∧ y.o = o ∧ y.i = j
open Classical in
/-- The value that bytes are. -/
noncomputable def unpack (t : Int) (l : List By) : Vl :=
  if l.length = 0 ∨ l.length ≠ wd t then p0 else
    if t = 65 then (if AdOk l (l.headD q0).bk (l.headD q0).o l.length then ⟨2, 0, (l.headD q0).bk, (l.headD q0).o⟩ else p0) else
      if ∃ y ∈ l, y.k ≠ 1 ∧ y.k ≠ 3 then p0 else if ∃ y ∈ l, y.k = 3 then ⟨3, 0, 0, 0⟩ else ⟨1, num l % pw t.toNat, 0, 0⟩
theorem num_nonneg : ∀ l : List By, (∀ y ∈ l, y.ok) → 0 ≤ num l
  | [], _ => Int.le_refl _
  | y :: l, h => by
    have := num_nonneg l (fun z hz => h z (List.mem_cons_of_mem _ hz))
    have := (h y (List.mem_cons_self ..)).1
    unfold num
    omega
theorem num_lt : ∀ l : List By, (∀ y ∈ l, y.ok) → num l < pw (8 * l.length)
  | [], _ => by decide +kernel
  | y :: l, h => by
    have h1 := num_lt l (fun z hz => h z (List.mem_cons_of_mem _ hz))
    have h2 := (h y (List.mem_cons_self ..)).2
    unfold num
    have e : 8 * (y :: l).length = 8 + 8 * l.length := by simp; omega
    have e2 : pw 8 = 256 := by decide +kernel
    rw [e, pw_add, e2]
    omega
theorem num_app : ∀ l m : List By, num (l ++ m) = num l + pw (8 * l.length) * num m
  | [], m => by show num m = 0 + pw 0 * num m; rw [pw_0]; omega
  | y :: l, m => by
    show y.b + 256 * num (l ++ m) = y.b + 256 * num l + pw (8 * (y :: l).length) * num m
    have e : 8 * (y :: l).length = 8 + 8 * l.length := by simp; omega
    have e2 : pw 8 = 256 := by decide +kernel
    rw [num_app l m, e, pw_add, e2, Int.mul_add, Int.mul_assoc, Int.add_assoc]
/-! A value comes back from its bytes. -/
def back (t : Int) (v : Vl) : Vl := if t = 65 ∧ v.k = 3 then p0 else norm t v
theorem digit_step (b M : Int) (hM : 0 < M) : b % M + M * (b / M % 256) = b % (M * 256) := by
  have h1 := Int.mul_ediv_add_emod b M
  have h2 := Int.mul_ediv_add_emod (b / M) 256
  have h3 := Int.emod_nonneg b (show M ≠ 0 by omega)
  have h4 := Int.emod_lt_of_pos b hM
  have h5 := Int.emod_nonneg (b / M) (show (256 : Int) ≠ 0 by decide)
  have h6 := Int.emod_lt_of_pos (b / M) (show (0 : Int) < 256 by decide)
  generalize b % M = r at *
  generalize b / M % 256 = d at *
  have e : b = (r + M * d) + (M * 256) * (b / M / 256) := by
    generalize b / M / 256 = z at *
    rw [Int.mul_assoc]
    have : M * (256 * z + d) = M * (256 * z) + M * d := Int.mul_add _ _ _
    rw [h2] at this
    omega
  have h7 : 0 ≤ M * d := Int.mul_nonneg (by omega) h5
  have h8 : M * d ≤ M * 255 := Int.mul_le_mul_of_nonneg_left (by omega) (by omega)
  have e2 : b % (M * 256) = ((r + M * d) + (M * 256) * (b / M / 256)) % (M * 256) := by rw [← e]
  rw [e2, Int.add_mul_emod_self_left, Int.emod_eq_of_lt (by omega) (by omega)]
theorem num_digits (b : Int) (hb : 0 ≤ b) : ∀ n : Nat, num ((List.range n).map fun i => (⟨1, b / pw (8 * i) % 256, 0, 0, 0⟩ : By)) = b % pw (8 * n)
  | 0 => by show (0 : Int) = b % pw 0; rw [pw_0]; omega
  | n + 1 => by
    rw [List.range_succ, List.map_append, num_app, num_digits b hb n]
    simp only [List.length_map, List.length_range, List.map_cons, List.map_nil]
    show b % pw (8 * n) + pw (8 * n) * (b / pw (8 * n) % 256 + 256 * 0) = b % pw (8 * (n + 1))
    have e2 : pw 8 = 256 := by decide +kernel
    rw [show 8 * (n + 1) = 8 * n + 8 by omega, pw_add, e2, Int.mul_zero, Int.add_zero]
    exact digit_step b _ (pw_pos _)
theorem norm_k (t : Int) (v : Vl) : ((norm t v).k = 1 ∧ isW t = true ∧ v.k = 1) ∨ ((norm t v).k = 2 ∧ t = 65 ∧ v.k = 2) ∨ ((norm t v).k = 3 ∧ 0 < wd t ∧ v.k = 3) ∨ norm t v = p0 := by
  unfold norm
  split
  · rename_i h; exact .inl ⟨rfl, h.2, h.1⟩
  · split
    · rename_i h; exact .inr (.inl ⟨rfl, h.2, h.1⟩)
    · split
      · rename_i h; exact .inr (.inr (.inl ⟨rfl, h.2, h.1⟩))
      · exact .inr (.inr (.inr rfl))
theorem isW_65 : isW 65 = false := by decide
theorem wd_65 : wd 65 = 8 := by decide
theorem norm_num {t : Int} {v : Vl} (h : v.k = 1) (ht : isW t = true) : norm t v = ⟨1, v.b % pw t.toNat, 0, 0⟩ := by unfold norm; rw [if_pos ⟨h, ht⟩]
theorem norm_addr {v : Vl} (h : v.k = 2) : norm 65 v = ⟨2, 0, v.bk, v.o⟩ := by unfold norm; rw [if_neg (fun x => by rw [h] at x; exact absurd x.1 (by decide)), if_pos ⟨h, rfl⟩]
theorem norm_any {t : Int} {v : Vl} (h : v.k = 3) (ht : 0 < wd t) : norm t v = ⟨3, 0, 0, 0⟩ := by
  unfold norm; rw [if_neg (fun x => by rw [h] at x; exact absurd x.1 (by decide)), if_neg (fun x => by rw [h] at x; exact absurd x.1 (by decide)), if_pos ⟨h, ht⟩]
theorem norm_norm (t : Int) (v : Vl) : norm t (norm t v) = norm t v := by
  rcases norm_k t v with ⟨h, ht, h2⟩ | ⟨h, rfl, h2⟩ | ⟨h, ht, h2⟩ | h
  · rw [norm_num h ht, norm_num h2 ht]
    show Vl.mk 1 (v.b % pw t.toNat % pw t.toNat) 0 0 = _
    rw [Int.emod_emod_of_dvd _ (Int.dvd_refl _)]
  · rw [norm_addr h, norm_addr h2]
  · rw [norm_any h ht, norm_any h2 ht]
  · rw [h]
    unfold norm
    rw [if_neg (fun x => absurd x.1 (by decide)), if_neg (fun x => absurd x.1 (by decide)), if_neg (fun x => absurd x.1 (by decide))]
theorem emod_pw {b : Int} {m n : Nat} (h : n ≤ m) : b % pw m % pw n = b % pw n := by
  obtain ⟨d, rfl⟩ : ∃ d, m = n + d := ⟨m - n, by omega⟩
  rw [pw_add]
  exact Int.emod_emod_of_dvd _ (Int.dvd_mul_right _ _)
theorem emod_small {b : Int} {m n : Nat} (h : n ≤ m) : b % pw n % pw m = b % pw n := by
  have h1 := pw_pos n
  have h2 := pw_mono h
  exact Int.emod_eq_of_lt (Int.emod_nonneg _ (by omega)) (by have := Int.emod_lt_of_pos b h1; omega)
theorem unpack_pack (t : Int) (v : Vl) : unpack t (pack t v) = back t v := by
  have hlen := pack_len t v
  unfold unpack
  by_cases h0 : wd t = 0
  · rw [if_pos (.inl (by rw [hlen]; exact h0))]
    have hw : ¬ (1 ≤ t ∧ t ≤ 65) := fun x => by have := (wd_pos t).2 x; omega
    have hn : norm t v = p0 := by
      rcases norm_k t v with ⟨_, ht, _⟩ | ⟨_, rfl, _⟩ | ⟨_, ht, _⟩ | h
      · have := isW_iff.1 ht; omega
      · omega
      · omega
      · exact h
    unfold back
    split
    · rfl
    · exact hn.symm
  · have hp : 0 < wd t := by omega
    rw [if_neg (by rw [hlen]; omega)]
    by_cases ht : t = 65
    · subst ht
      rw [if_pos rfl]
      have hh : (pack 65 v).headD q0 = packAt 65 (norm 65 v) 0 := by unfold pack; rw [wd_65]; rfl
      rw [hh, hlen, wd_65]
      rcases norm_k 65 v with ⟨_, ht, _⟩ | ⟨h, _, h2⟩ | ⟨h, _, h2⟩ | h
      · rw [isW_65] at ht; cases ht
      · have e : ∀ i, packAt 65 (norm 65 v) i = ⟨2, 0, v.bk, v.o, i⟩ := fun i => by rw [norm_addr h2]; rfl
        rw [e 0, if_pos]
        · unfold back; rw [if_neg (fun x => by rw [h2] at x; exact absurd x.2 (by decide)), norm_addr h2]
        · intro j hj
          refine ⟨packAt 65 (norm 65 v) j, ?_, ?_⟩
          · unfold pack; rw [List.getElem?_map, wd_65, List.getElem?_range hj]; rfl
          · rw [e]; exact ⟨rfl, rfl, rfl, rfl⟩
      · rw [if_neg]
        · unfold back; rw [if_pos ⟨rfl, h2⟩]
        · intro x
          obtain ⟨y, e1, e2, _⟩ := x 0 (by decide)
          have : y = q0 := by
            unfold pack at e1
            rw [List.getElem?_map, wd_65, List.getElem?_range (by decide), norm_any h2 (by decide)] at e1
            injection e1 with e1
            rw [← e1]
            unfold packAt
            rw [if_neg (by decide), if_neg (by decide), if_neg (by rw [isW_65]; decide)]
          rw [this] at e2
          exact absurd e2 (by decide)
      · rw [if_neg]
        · unfold back; split
          · rfl
          · exact h.symm
        · intro x
          obtain ⟨y, e1, e2, _⟩ := x 0 (by decide)
          have : y = q0 := by
            unfold pack at e1
            rw [List.getElem?_map, wd_65, List.getElem?_range (by decide), h] at e1
            injection e1 with e1
            exact e1.symm
          rw [this] at e2
          exact absurd e2 (by decide)
    · rw [if_neg ht]
      have hW : isW t = true := isW_iff.2 (by have := (wd_pos t).1 hp; omega)
      have hI := isW_iff.1 hW
      have hb : back t v = norm t v := by unfold back; rw [if_neg (fun x => ht x.1)]
      rw [hb]
      have hmem : ∀ y ∈ pack t v, ∃ i, y = packAt t (norm t v) i := fun y hy => by
        unfold pack at hy
        obtain ⟨i, _, rfl⟩ := List.mem_map.1 hy
        exact ⟨i, rfl⟩
      have h0m : packAt t (norm t v) 0 ∈ pack t v := List.mem_map_of_mem (List.mem_range.2 hp)
      rcases norm_k t v with ⟨h, _, h2⟩ | ⟨h, h3, _⟩ | ⟨h, _, h2⟩ | h
      · have e : ∀ i, packAt t (norm t v) i = ⟨1, (norm t v).b / pw (8 * i) % 256, 0, 0, 0⟩ := fun i => by unfold packAt; rw [if_pos h]
        rw [if_neg (fun ⟨y, hy, x1, _⟩ => by obtain ⟨i, rfl⟩ := hmem y hy; rw [e] at x1; exact x1 rfl), if_neg (fun ⟨y, hy, x1⟩ => by obtain ⟨i, rfl⟩ := hmem y hy; rw [e] at x1; exact absurd (show (1 : Int) = 3 from x1) (by decide))]
        have e2 : pack t v = (List.range (wd t)).map fun i => (⟨1, (norm t v).b / pw (8 * i) % 256, 0, 0, 0⟩ : By) := List.map_congr_left fun i _ => e i
        rw [e2, num_digits _ (norm_ok t v).1, emod_pw (by rw [wd_in hI.1 hI.2]; omega), norm_num h2 hW]
        show Vl.mk 1 (v.b % pw t.toNat % pw t.toNat) 0 0 = _
        rw [Int.emod_emod_of_dvd _ (Int.dvd_refl _)]
      · exact absurd h3 ht
      · have e : ∀ i, packAt t (norm t v) i = ⟨3, 0, 0, 0, 0⟩ := fun i => by rw [norm_any h2 hp]; unfold packAt; rw [if_neg (by decide), if_neg (by decide), if_pos ⟨rfl, hW⟩]
        rw [if_neg (fun ⟨y, hy, _, x1⟩ => by obtain ⟨i, rfl⟩ := hmem y hy; rw [e] at x1; exact x1 rfl), if_pos ⟨_, h0m, by rw [e]⟩, norm_any h2 hp]
      · rw [if_pos ⟨_, h0m, by rw [h]; exact ⟨show (0 : Int) ≠ 1 by decide, show (0 : Int) ≠ 3 by decide⟩⟩, h]
end Go.Proofs.Ytpjfkmaceaikbaa
