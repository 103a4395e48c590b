/- Several texts in one: PgE, PgC, PgF, PgG, PgR, PgH, PgI. -/
import Derived.Lib.AppendIntMem
import Derived.Lib.ParseIntBTie
import Derived.Lib.ItoaMem
import Derived.Lib.AtoiAllCases
import Derived.Deep.RegionLaw
import Derived.Test.YtjomihlnjobndaaGreatDoorMg9
/- The parser's numerals, words of blocks, of types. -/
namespace Go.Proofs.YtjomihlnjobndaaGreatDoor
open Go.RowKit Go.Maps
set_option linter.unusedVariables false
set_option linter.unusedSimpArgs false

/-- The table of powers that numerals read; what stands in memory from the first. -/
def TabK (W : World) : Prop := Lib.TabIs Tryz.prog W "internal/strconv.uint64pow10" .u64 Lib.pow10Tab
theorem TabK.later {W w : World} (h : TabK W) (hb : Below W.heap.size W w) : TabK w := by
  unfold TabK Lib.TabIs World.var? at *
  cases hg : Tryz.prog.globalNamed "internal/strconv.uint64pow10" with
  | none => simp [hg] at h
  | some g =>
    simp only [hg, Option.bind_some] at h ⊢
    have hlt : g < W.heap.size := by
      rcases Nat.lt_or_ge g W.heap.size with h' | h'
      · exact h'
      · rw [Array.getElem?_eq_none h'] at h; simp at h
    rw [hb.block g hlt]
    exact h
/-- The words of operations. -/
def OpsK (W : World) : Prop := ∀ k, k < 35 → W.cell? ⟨0, k, none⟩ = some (.string ⟨(opT k).toArray⟩)
theorem OpsK.later {W w : World} (h : OpsK W) (hb : Below W.heap.size W w) : OpsK w := fun k hk => (hb.cell (p := ⟨0, k, none⟩) (World.block_lt_of_cell? W _ (h k hk))).trans (h k hk)
def Stc (W : World) : Prop := Errs W ∧ TabK W ∧ OpsK W
theorem Stc.later {W w : World} (h : Stc W) (hb : Below W.heap.size W w) : Stc w := ⟨h.1.below hb (Nat.le_refl _), h.2.1.later hb, h.2.2.later hb⟩
theorem str_size (b : Tx) : (str b).size = b.length := by show b.toArray.size = _; simp
theorem str_list (b : Tx) : (str b).data.toList = b := by simp [str]
def nuB (b : Tx) : Nat := match Go.Lib.parseUintB 64 b with | .ok u => u | _ => 0
theorem parseUint_any (b : Tx) (hb : b.length ≤ 65536) (hr : Go.Lib.parseUintB 64 b ≠ .range) (W : World) (hE : Errs W) :
    Calls Tryz.prog 104 #[.string (str b), .int .i64 10, .int .i64 64] W fun e w' => ∃ v, e = .returned (.tuple #[.int .u64 (nuB b), v]) ∧ Below W.heap.size W w' := by
  unfold nuB
  cases h : Go.Lib.parseUintB 64 b
  · rename_i u
    refine (Tryz.strconv_ParseUint_10_at64_ok (str b) (by rw [str_size]; omega) u (by rw [str_list]; exact h) W).mono ?_
    rintro e w' ⟨rfl, rfl | rfl⟩
    · exact ⟨_, rfl, Below.refl _ _⟩
    · exact ⟨_, rfl, Lib.bytesWorld_below _ _ _⟩
  · obtain ⟨h0, h1, t, p, t', p', h2, h3⟩ := hE
    refine (Tryz.strconv_ParseUint_10_at64_syntax (str b) (by rw [str_size]; omega) (fun u => by rw [str_list, h]; intro e; cases e) (by rw [str_list, h]; intro e; cases e) _ W h2 (.inr ⟨_, _, rfl⟩)).mono ?_
    rintro e w' ⟨N, rfl, _, _, hb⟩
    exact ⟨_, rfl, hb⟩
  · exact absurd h hr
theorem atoi_any (b : Tx) (hb : b.length ≤ 65536) (W : World) (hE : Errs W) :
    Calls Tryz.prog 195 #[.string (str b)] W fun e w' => Below W.heap.size W w' ∧ ((∃ n, Go.Lib.atoiAll b = .ok n ∧ e = .returned (.tuple #[.int .i64 n, .nilIface])) ∨ ((∀ n, Go.Lib.atoiAll b ≠ .ok n) ∧ ∃ n t p, e = .returned (.tuple #[.int .i64 n, .iface t p]))) := by
  cases h : Go.Lib.atoiAll b
  · rename_i u
    refine (Tryz.strconv_Atoi_ok (str b) (by rw [str_size]; omega) u (by rw [str_list]; exact h) W).mono ?_
    rintro e w' ⟨rfl, rfl | ⟨t, rfl⟩⟩
    · exact ⟨Below.refl _ _, .inl ⟨_, rfl, rfl⟩⟩
    · exact ⟨Lib.bytesWorld_below _ _ _, .inl ⟨_, rfl, rfl⟩⟩
  · obtain ⟨h0, h1, t, p, t', p', h2, h3⟩ := hE
    refine (Tryz.strconv_Atoi_syntax (str b) (by rw [str_size]; omega) (fun u => by rw [str_list, h]; intro e; cases e) (by rw [str_list, h]; intro e; cases e) _ W h2 (.inr ⟨_, _, rfl⟩)).mono ?_
    rintro e w' ⟨N, rfl, _, _, hb⟩
    exact ⟨hb, .inr ⟨fun n x => (by cases x), _, _, _, rfl⟩⟩
  · obtain ⟨h0, h1, t, p, t', p', h2, h3⟩ := hE
    refine (Tryz.strconv_Atoi_range (str b) (by rw [str_size]; omega) (by rw [str_list]; exact h) _ W h3 (.inr ⟨_, _, rfl⟩)).mono ?_
    rintro e w' ⟨N, rfl, _, _, hb⟩
    exact ⟨hb, .inr ⟨fun n x => (by cases x), _, _, _, rfl⟩⟩
theorem itoaK (k : Nat) (hk : k ≤ 9223372036854775807) (W : World) (hT : TabK W) : Calls Tryz.prog 35 #[.int .i64 (k : Int)] W fun e w' => e = .returned (.string (str (Lib.decDigits k))) ∧ Below W.heap.size W w' := by
  refine (Tryz.strconv_Itoa (k : Int) (by omega) (by omega) W hT).mono ?_
  rintro e w' ⟨rfl, n, os, rfl⟩
  refine ⟨?_, Lib.below_grow _ _ (Nat.le_refl _) _ _⟩
  rw [Lib.itoa_nonneg]
  rfl
/-! Plain facts of numerals. -/
theorem atoi_dec {k : Nat} (hk : k ≤ 9223372036854775807) : Go.Lib.atoiAll (Lib.decDigits k) = .ok (k : Int) := by
  have hd := dec_digit k
  have hp : Go.Lib.parseUintB 64 (Lib.decDigits k) = .ok k := by
    unfold Go.Lib.parseUintB
    rw [if_neg (dec_ne k), parse_dec (by decide) k (by omega)]
  rw [← Lib.parseIntB_64]
  cases e : Lib.decDigits k with
  | nil => exact absurd e (dec_ne k)
  | cons c r =>
    rw [e] at hp hd
    have hc := digit_nat (hd c (by simp))
    unfold Go.Lib.parseIntB
    simp only
    rw [if_neg (by omega), hp]
    simp only
    rw [if_neg (by rintro ⟨_, h⟩; have : (2 : Nat) ^ (64 - 1) = 9223372036854775808 := by decide
                   omega), if_neg (by rintro ⟨h, _⟩; omega), if_neg (by omega)]
theorem atoi_nonneg {l : Tx} {n : Int} (h45 : ∀ d ∈ l, d.toNat ≠ 45) (h : Go.Lib.atoiAll l = .ok n) : 0 ≤ n ∧ n ≤ 9223372036854775807 := by
  refine ⟨?_, (Lib.atoiAll_bounds h).2⟩
  unfold Go.Lib.atoiAll at h
  cases l with
  | nil => cases h
  | cons c r =>
    simp only at h
    split at h
    · cases h
    · cases h
    · split at h
      · cases h
      · split at h
        · cases h
        · injection h with h
          rw [if_neg (h45 c (by simp))] at h
          omega
/-- What stands behind the letter. -/
theorem behind_spec {r : Tx} (c : UInt8) {most : Nat} (hm : most ≤ 999) :
    (∀ n : Nat, Go.Lib.atoiAll r = .ok (n : Int) → n ≤ most → Lib.decDigits n = r → numBehind c (c :: r) most = some n) ∧
    ((∀ n : Nat, Go.Lib.atoiAll r = .ok (n : Int) → n ≤ most → Lib.decDigits n ≠ r) → numBehind c (c :: r) most = none) := by
  refine ⟨fun n _ hn h => ?_, fun h => ?_⟩
  · rw [← h]; exact numBehind_dec hn (by omega)
  · unfold numBehind
    simp only [if_pos]
    rw [List.find?_eq_none]
    intro n hn hd
    have hd : Lib.decDigits n = r := by simpa using hd
    have hn2 : n < most + 1 := List.mem_range.1 hn
    exact h n (by rw [← hd]; exact atoi_dec (by omega)) (by omega) hd
set_option maxRecDepth 100000 in
set_option maxHeartbeats 1000000 in
theorem numberOf_any (t : Tok) (ht : Gt t) (W : World) (hE : Errs W) : Calls Tryz.prog 143 #[tkV t] W fun e w' => e = .returned (.int .u64 (numOf t)) ∧ Below W.heap.size W w' := by
  have C := fun w hb => parseUint_any t.body ht.2.1 ht.2.2.1 w (hE.below hb (Nat.le_refl _))
  have e : numOf t = nuB t.body := rfl
  rw [e]
  unfold tkV
  have hb1 := (Below.refl W.heap.size W).alloc (Nat.le_refl _) (.cells #[.int .i64 t.kind, .string (str t.body), .int .i64 t.line, .int .i64 t.col] 30)
  have HB := Lib.hid hb1
  have C1 := C _ hb1
  clear C hb1 ht hE e
  go_enter Tryz.func143, Tryz.ntmps143
  go_wp2_with ((with_reducible refine C1.mono ?_); rintro e w1 ⟨v, rfl, h1⟩)
  go_ret
  exact ⟨rfl, HB.out.trans (h1.mono HB.out.size)⟩
/-- A word without a minus. -/
def Nm (x : Tx) : Prop := x.length ≤ 65536 ∧ ∀ d ∈ x, d.toNat ≠ 45
set_option maxRecDepth 100000 in
set_option maxHeartbeats 2000000 in
theorem numberBehind_any (c : UInt8) (x : Tx) (most : Nat) (hm : most ≤ 999) (hx : Nm x) (W : World) (hS : Stc W) :
    Calls Tryz.prog 179 #[.string (str [c]), .string (str x), .int .i64 most] W fun e w' => e = .returned (.tuple #[.int .i64 ((numBehind c x most).getD 0 : Nat), .bool (numBehind c x most).isSome]) ∧ Below W.heap.size W w' := by
  have CP := fun w => Tryz.strings_CutPrefix (str x) (str [c]) w
  rw [str_list, str_list] at CP
  have C2 : ∀ (y : Tx), y.length ≤ 65536 → ∀ w, Below W.heap.size W w → _ := fun y hy w hb => atoi_any y hy w (hS.1.below hb (Nat.le_refl _))
  have C3 : ∀ (k : Nat), k ≤ 9223372036854775807 → ∀ w, Below W.heap.size W w → _ := fun k hk w hb => itoaK k hk w (hS.2.1.later hb)
  have HS := Lib.hid hS
  clear hS
  by_cases hp : Lib.hasPrefix x [c] = true
  · obtain ⟨r, rfl⟩ : ∃ r, x = c :: r := by
      cases x with
      | nil => simp [Lib.hasPrefix] at hp
      | cons d r => simp [Lib.hasPrefix] at hp; exact ⟨r, by rw [hp]⟩
    have etr : Lib.trimPrefix (c :: r) [c] = r := by unfold Lib.trimPrefix; rw [if_pos hp]; rfl
    rw [etr, hp] at CP
    obtain ⟨b1, b2⟩ := behind_spec (r := r) c hm
    have D2 := C2 r (by have := hx.1; simp at this; omega)
    have h45 : ∀ d ∈ r, d.toNat ≠ 45 := fun d hd => hx.2 d (by simp [hd])
    have eb : (⟨r.toArray⟩ : ByteArray) = str r := rfl
    simp only [eb] at CP
    clear C2 hx hp etr
    by_cases hok : ∃ n : Nat, Go.Lib.atoiAll r = .ok (n : Int) ∧ n ≤ most ∧ Lib.decDigits n = r
    · obtain ⟨n, h1, h2, h3⟩ := hok
      rw [b1 n h1 h2 h3]
      have e1 : decide (most < n) = false := by simp; omega
      have D3 := C3 n (by omega)
      rw [h3] at D3
      clear b1 b2 C3
      go_enter Tryz.func179, Tryz.ntmps179
      go_wp2_with (first | ((with_reducible refine (CP _).mono ?_); rintro e w1 ⟨rfl, rfl⟩) | ((with_reducible refine (D2 _ (Below.refl _ _)).mono ?_); rintro e w2 ⟨hb, ⟨n', hn', rfl⟩ | ⟨hn', _⟩⟩; rotate_left; exact absurd h1 (hn' _); cases hn'.symm.trans h1) | ((with_reducible refine (D3 _ hb).mono ?_); rintro e w3 ⟨rfl, hb3⟩))
      go_ret2
      exact ⟨rfl, hb.trans (hb3.mono hb.size)⟩
    · rw [b2 (fun n k1 k2 k3 => hok ⟨n, k1, k2, k3⟩)]
      clear b1 b2
      cases hat : Go.Lib.atoiAll r with
      | ok n0 =>
        obtain ⟨n, rfl⟩ : ∃ n : Nat, n0 = (n : Int) := ⟨n0.toNat, by have := (atoi_nonneg h45 hat).1; omega⟩
        have hnb := (atoi_nonneg h45 hat).2
        by_cases hm2 : most < n
        · have e1 : decide (most < n) = true := by simpa using hm2
          clear C3
          go_enter Tryz.func179, Tryz.ntmps179
          go_wp2_with (first | ((with_reducible refine (CP _).mono ?_); rintro e w1 ⟨rfl, rfl⟩) | ((with_reducible refine (D2 _ (Below.refl _ _)).mono ?_); rintro e w2 ⟨hb, ⟨n', hn', rfl⟩ | ⟨hn', _⟩⟩; rotate_left; exact absurd hat (hn' _); cases hn'.symm.trans hat))
          go_ret2
          exact ⟨rfl, hb⟩
        · have e1 : decide (most < n) = false := by simpa using hm2
          have hne : ((str (Lib.decDigits n)).toList == (str r).toList) = false := by
            rw [ByteArray.toList_eq, ByteArray.toList_eq, str_list, str_list]
            exact beq_false_of_ne (fun x => hok ⟨n, hat, by omega, x⟩)
          have D3 := C3 n (by omega)
          clear C3
          go_enter Tryz.func179, Tryz.ntmps179
          go_wp2_with (first | ((with_reducible refine (CP _).mono ?_); rintro e w1 ⟨rfl, rfl⟩) | ((with_reducible refine (D2 _ (Below.refl _ _)).mono ?_); rintro e w2 ⟨hb, ⟨n', hn', rfl⟩ | ⟨hn', _⟩⟩; rotate_left; exact absurd hat (hn' _); cases hn'.symm.trans hat) | ((with_reducible refine (D3 _ hb).mono ?_); rintro e w3 ⟨rfl, hb3⟩))
          go_ret2
          exact ⟨rfl, hb.trans (hb3.mono hb.size)⟩
      | _ =>
        clear C3
        go_enter Tryz.func179, Tryz.ntmps179
        go_wp2_with (first | ((with_reducible refine (CP _).mono ?_); rintro e w1 ⟨rfl, rfl⟩) | ((with_reducible refine (D2 _ (Below.refl _ _)).mono ?_); rintro e w2 ⟨hb, ⟨n', hn', rfl⟩ | ⟨hn', n', t', p', rfl⟩⟩; (cases hn'.symm.trans hat)))
        go_ret2
        exact ⟨rfl, hb⟩
  · have hp' : Lib.hasPrefix x [c] = false := by simpa using hp
    have etr : Lib.trimPrefix x [c] = x := by unfold Lib.trimPrefix; rw [if_neg hp]
    rw [etr, hp'] at CP
    have en : numBehind c x most = none := by
      unfold numBehind
      cases x with
      | nil => rfl
      | cons d r =>
        simp [Lib.hasPrefix] at hp
        simp only
        rw [if_neg (fun e => hp e.symm)]
    rw [en]
    have D2 := C2 x hx.1
    have eb : (⟨x.toArray⟩ : ByteArray) = str x := rfl
    simp only [eb] at CP
    clear C2 C3 hp hp' etr en
    go_enter Tryz.func179, Tryz.ntmps179
    go_wp2_with (first | ((with_reducible refine (CP _).mono ?_); rintro e w1 ⟨rfl, rfl⟩) | ((with_reducible refine (D2 _ (Below.refl _ _)).mono ?_); rintro e w2 ⟨hb, hq⟩; obtain ⟨n', v', rfl⟩ : ∃ n' v', e = .returned (.tuple #[.int .i64 n', v']) := (by rcases hq with ⟨n', _, h⟩ | ⟨_, n', t', p', h⟩ <;> exact ⟨_, _, h⟩)))
    go_ret2
    exact ⟨rfl, hb⟩
theorem gt_nm {t : Tok} (h : Gt t) : Nm t.body := ⟨h.2.1, h.2.2.2⟩
set_option maxRecDepth 100000 in
set_option maxHeartbeats 1000000 in
theorem blockOf_any (t : Tok) (ht : Gt t) (W : World) (hS : Stc W) :
    Calls Tryz.prog 149 #[tkV t] W fun e w' => e = .returned (.tuple #[.int .i64 ((blockOfP t).getD 0 : Nat), .bool (blockOfP t).isSome]) ∧ Below W.heap.size W w' := by
  unfold blockOfP
  by_cases hk : t.kind = 1
  · rw [if_pos (by simp [hk])]
    have hb1 := (Below.refl W.heap.size W).alloc (Nat.le_refl _) (.cells #[.int .i64 t.kind, .string (str t.body), .int .i64 t.line, .int .i64 t.col] 30)
    have C : Calls Tryz.prog 179 #[.string ⟨#[98]⟩, .string (str t.body), .int .i64 999] _ _ := numberBehind_any 98 t.body 999 (Nat.le_refl _) (gt_nm ht) _ (hS.later hb1)
    have HB := Lib.hid hb1
    have e2 : ((t.kind : Int) == 1) = true := by rw [hk]; rfl
    clear hb1 ht hS hk
    unfold tkV
    go_enter Tryz.func149, Tryz.ntmps149
    go_wp2_with ((with_reducible refine C.mono ?_); rintro e w1 ⟨rfl, h1⟩)
    go_ret2
    exact ⟨rfl, HB.out.trans (h1.mono HB.out.size)⟩
  · rw [if_neg (by simpa using hk)]
    have e2 : ((t.kind : Int) == 1) = false := beq_false_of_ne (by omega)
    unfold tkV
    go_enter Tryz.func149, Tryz.ntmps149
    go_wp2_with fail
    go_ret2
    exact ⟨rfl, (Below.refl W.heap.size W).alloc (Nat.le_refl _) _⟩
set_option maxRecDepth 100000 in
set_option maxHeartbeats 1000000 in
theorem typeOf_any (x : Tx) (hx : Nm x) (W : World) (hS : Stc W) :
    Calls Tryz.prog 178 #[.string (str x)] W fun e w' => e = .returned (.tuple #[.int .i64 ((typeOfP x).getD 0 : Nat), .bool (typeOfP x).isSome]) ∧ Below W.heap.size W w' := by
  unfold typeOfP
  have fs : ∀ y : Tx, ((str x).toList == (str y).toList) = decide (x = y) := fun y => by
    rw [ByteArray.toList_eq, ByteArray.toList_eq, str_list, str_list]
    by_cases h : x = y <;> simp [h]
  have s0 : (⟨#[118, 111, 105, 100]⟩ : ByteArray) = str [118, 111, 105, 100] := rfl
  have s1 : (⟨#[112, 116, 114]⟩ : ByteArray) = str [112, 116, 114] := rfl
  have C : Calls Tryz.prog 179 #[.string ⟨#[105]⟩, .string (str x), .int .i64 64] _ _ := numberBehind_any 105 x 64 (by decide) hx W hS
  clear hS hx
  by_cases h0 : x = [118, 111, 105, 100]
  · have f0 := fs [118, 111, 105, 100]
    rw [decide_eq_true h0] at f0
    rw [if_pos h0]
    clear fs C h0
    go_enter Tryz.func178, Tryz.ntmps178
    rw [s0]
    go_wp2_with fail
    go_ret2
    exact ⟨rfl, Below.refl _ _⟩
  · have f0 := fs [118, 111, 105, 100]
    rw [decide_eq_false h0] at f0
    rw [if_neg h0]
    by_cases h1 : x = [112, 116, 114]
    · have f1 := fs [112, 116, 114]
      rw [decide_eq_true h1] at f1
      rw [if_pos h1]
      clear fs C h0 h1
      go_enter Tryz.func178, Tryz.ntmps178
      rw [s0, s1]
      go_wp2_with fail
      go_ret2
      exact ⟨rfl, Below.refl _ _⟩
    · have f1 := fs [112, 116, 114]
      rw [decide_eq_false h1] at f1
      rw [if_neg h1]
      clear fs h0 h1
      cases hb : numBehind 105 x 64 with
      | none =>
        rw [hb] at C
        go_enter Tryz.func178, Tryz.ntmps178
        rw [s0, s1]
        go_wp2_with ((with_reducible refine C.mono ?_); rintro e w1 ⟨rfl, h1⟩)
        go_ret2
        exact ⟨rfl, h1⟩
      | some n =>
        rw [hb] at C
        by_cases hn : 0 < n
        · have e1 : decide (0 < n) = true := decide_eq_true hn
          have e3 : (some n).filter (fun n => decide (0 < n)) = some n := by simp [hn]
          rw [e3]
          go_enter Tryz.func178, Tryz.ntmps178
          rw [s0, s1]
          go_wp2_with ((with_reducible refine C.mono ?_); rintro e w1 ⟨rfl, h1⟩)
          go_ret2
          exact ⟨by simp, h1⟩
        · obtain rfl : n = 0 := by omega
          go_enter Tryz.func178, Tryz.ntmps178
          rw [s0, s1]
          go_wp2_with ((with_reducible refine C.mono ?_); rintro e w1 ⟨rfl, h1⟩)
          go_ret2
          exact ⟨rfl, h1⟩
end Go.Proofs.YtjomihlnjobndaaGreatDoor
/- Boxes beside the parser's state. -/
namespace Go.Proofs.YtjomihlnjobndaaGreatDoor
open Go.RowKit Go.Maps
set_option linter.unusedVariables false
set_option linter.unusedSimpArgs false

/-- append of one element, at a step of a region that draws its order. -/
theorem step_app {P : Program} {α : Type} {B : Nat} {ty : TypeId} {m : Nat} {cel : α → List Value} {p : Option Addr} {n c : Nat} {xs : List α} {W w : World} {Y : As} {ops : Array Oper} {o : Oper} {a : Act} {K : Act → World → Prop} {Q : Exit → Act → World → Prop} {E : Prop} (hgd : o.guard = none) (s x : Operand) (t : TypeId)
    (ho : o.op = .call { callee := .builtin .append, args := #[s, x], argTypes := #[t, t] })
    (i : TypeInfo) (z : Value) (bytes : Nat) (ht : P.underlying t = some (.slice ty)) (hi : P.info? ty = some i) (hz : i.zero = some z) (hsize : i.size = m) (hby : i.bytes = bytes) (hzs : z.cells.size = m) (hm : 0 < m)
    (hs : a.eval s = .slice p n c) (h : St B W ((As.and (rw' B ty m cel p n c xs) Y)) w) (y : α) (q : Addr) (cx : Nat) (hx : a.eval x = .slice (some q) 1 cx) (hc : (cel y).length = m) (hq : ∀ j u, (cel y)[j]? = some u → w.cell? (q.add j) = some u) (h1 : ∀ u ∈ cel y, u.oneCell' = true)
    (h63 : xs.length + 1 ≤ maxLen) (hbytes : (xs.length + 1) * bytes ≤ 140737488355328)
    (k : ∀ p' c' w', St B W ((As.and (rw' B ty m cel p' (xs.length + 1) c' (xs ++ [y])) Y)) w' → K (a.put o.dst (.slice p' (xs.length + 1) c')) w') :
    if Region.wanted o (yielded ops a.tmps) = true then Oper.wp P o a w K Q else E := by
  have hn : n = xs.length := h.sat.1.1
  subst hn
  have hw : Region.wanted o (yielded ops a.tmps) = true := by simp [Region.wanted, hgd]
  rw [if_pos hw]
  obtain ⟨v', w', hr, h2, h3, -⟩ := run_append_own (P := P) w B t o.type ty i z m bytes ht hi hz hsize hby hzs hm (.slice p xs.length c) xs.length (xs.flatMap cel) h.sat.1.2 q 1 cx (cel y) (by rw [hc, Nat.one_mul]) hq h1 h63 hbytes h.le
  have h4 := append_where w B t o.type ty i z m bytes ht hi hz hsize hby hm (.slice p xs.length c) xs.length (xs.flatMap cel) h.sat.1.2 q 1 cx (cel y) (by rw [hc, Nat.one_mul]) hq h1 h63 hbytes v' w' hr
  unfold Oper.wp execOp
  simp only [ho, resolve, invoke, builtin, Sem.run_bind, Sem.run_pure, Result.andThen_ok, List.map_toArray, List.map_cons, List.map_nil, hs, hx, hr]
  obtain ⟨p', c', rfl, hS⟩ := h.grown (ys := [y]) (k := xs.length + 1) rfl (by simpa using h2) h3 h4
  exact k p' c' w' hS
theorem As.asl (a b c : As) : ((As.and ((As.and a b)) c)).le ((As.and a (As.and b c))) := ⟨fun w x => ⟨x.1.1, x.1.2, x.2⟩, fun k => by simp only [As.and_c]; omega⟩
theorem As.asr (a b c : As) : ((As.and a (As.and b c))).le ((As.and ((As.and a b)) c)) := ⟨fun w x => ⟨⟨x.1, x.2.1⟩, x.2.2⟩, fun k => by simp only [As.and_c]; omega⟩
theorem As.drop (a b : As) : ((As.and a b)).le b := ⟨fun w x => x.2, fun k => by simp only [As.and_c]; omega⟩
def bxs (bs : List (Nat × List Value)) : As := As.all (fun x => bx x.1 x.2) bs
theorem As.nob (b : As) : b.le ((As.and (bxs []) b)) := ⟨fun w x => ⟨trivial, x⟩, fun k => by show 0 + b.c k ≤ b.c k; omega⟩
theorem As.dropb (bs : List (Nat × List Value)) (b : As) : ((As.and (bxs bs) b)).le b := As.drop _ _
section
variable {B : Nat} {W w : World} {Y : As} {bs : List (Nat × List Value)}
theorem St.bpush (h : St B W ((As.and (bxs bs) Y)) w) {g : Nat} (hg : g = w.heap.size) (cs : List Value) (t : TypeId) : St B W ((As.and (bxs ((g, cs) :: bs)) Y)) (w.alloc (.cells cs.toArray t)) :=
  (h.push hg cs t).imp ⟨fun w x => ⟨⟨x.1, x.2.1⟩, x.2.2⟩, fun k => by simp only [bxs, As.all_cons, As.and_c]; omega⟩
theorem St.bget (h : St B W ((As.and (bxs bs) Y)) w) (i : Nat) {g : Nat} {cs : List Value} (e : bs[i]? = some (g, cs)) : Box g cs w := As.all_mem _ h.sat.1 (g, cs) (List.mem_of_getElem? e)
theorem St.bput (h : St B W ((As.and (bxs bs) Y)) w) (i : Nat) {g : Nat} {cs : List Value} (e : bs[i]? = some (g, cs)) (j : Nat) (v : Value) : St B W ((As.and (bxs (bs.set i (g, cs.set j v))) Y)) (w.setCell ⟨g, j, none⟩ v) := by
  obtain ⟨hi, e⟩ := List.getElem?_eq_some_iff.1 e
  have e1 : bs = bs.take i ++ (g, cs) :: bs.drop (i + 1) := by rw [← e, List.getElem_cons_drop, List.take_append_drop]
  have e2 : bs.set i (g, cs.set j v) = bs.take i ++ (g, cs.set j v) :: bs.drop (i + 1) := by rw [List.set_eq_take_append_cons_drop, if_pos hi]
  have h1 : St B W ((As.and (bx g cs) ((As.and (bxs (bs.take i)) (As.and (bxs (bs.drop (i + 1))) Y))))) w := by
    refine St.imp (X := (As.and (bxs (bs.take i ++ (g, cs) :: bs.drop (i + 1))) Y)) (by rw [← e1]; exact h) ⟨fun w x => ?_, fun k => ?_⟩
    · have := (As.all_at_app _ w _ _).1 x.1
      exact ⟨this.2.1, this.1, this.2.2, x.2⟩
    · simp only [As.and_c, bxs, As.all_c_app, As.all_cons]; omega
  rw [e2]
  refine (h1.set j v).imp ⟨fun w x => ⟨(As.all_at_app _ w _ _).2 ⟨x.2.1, x.1, x.2.2.1⟩, x.2.2.2⟩, fun k => ?_⟩
  simp only [As.and_c, bxs, As.all_c_app, As.all_cons, bx_c]; omega
end
section
variable {B b : Nat} {W w : World} {en : Tok} {m0 m1 m2 r : Value} {s : RS} {Z : As} {bs : List (Nat × List Value)}
theorem Rd.b0 (h : Rd B W b en m0 m1 m2 r s Z w) : Rd B W b en m0 m1 m2 r s ((As.and (bxs []) Z)) w := h.imp (As.nob _)
theorem Rd.nobx (h : Rd B W b en m0 m1 m2 r s ((As.and (bxs bs) Z)) w) : Rd B W b en m0 m1 m2 r s Z w := h.imp (As.drop _ _)
theorem Rd.bpush (h : Rd B W b en m0 m1 m2 r s ((As.and (bxs bs) Z)) w) {g : Nat} (hg : g = w.heap.size) (cs : List Value) (t : TypeId) : Rd B W b en m0 m1 m2 r s ((As.and (bxs ((g, cs) :: bs)) Z)) (w.alloc (.cells cs.toArray t)) := by
  obtain ⟨Y, hs, back⟩ := h.st
  exact back _ _ (((hs.imp (As.asl _ _ _)).bpush hg cs t).imp (As.asr _ _ _))
theorem Rd.bget (h : Rd B W b en m0 m1 m2 r s ((As.and (bxs bs) Z)) w) (i : Nat) {g : Nat} {cs : List Value} (e : bs[i]? = some (g, cs)) : Box g cs w := by
  obtain ⟨Y, hs, back⟩ := h.st
  exact (hs.imp (As.asl _ _ _)).bget i e
theorem Rd.bput (h : Rd B W b en m0 m1 m2 r s ((As.and (bxs bs) Z)) w) (i : Nat) {g : Nat} {cs : List Value} (e : bs[i]? = some (g, cs)) (j : Nat) (v : Value) : Rd B W b en m0 m1 m2 r s ((As.and (bxs (bs.set i (g, cs.set j v))) Z)) (w.setCell ⟨g, j, none⟩ v) := by
  obtain ⟨Y, hs, back⟩ := h.st
  exact back _ _ (((hs.imp (As.asl _ _ _)).bput i e j v).imp (As.asr _ _ _))
end
section
variable {B b : Nat} {W w : World} {en : Tok} {m0 m1 m2 : Value} {s : RS} {Z : As} {bs : List (Nat × List Value)}
theorem Pk.b0 (h : Pk B W b en m0 m1 m2 s Z w) : Pk B W b en m0 m1 m2 s ((As.and (bxs []) Z)) w := h.imp (As.nob _)
theorem Pk.nobx (h : Pk B W b en m0 m1 m2 s ((As.and (bxs bs) Z)) w) : Pk B W b en m0 m1 m2 s Z w := h.imp (As.drop _ _)
theorem Pk.bpush (h : Pk B W b en m0 m1 m2 s ((As.and (bxs bs) Z)) w) {g : Nat} (hg : g = w.heap.size) (cs : List Value) (t : TypeId) : Pk B W b en m0 m1 m2 s ((As.and (bxs ((g, cs) :: bs)) Z)) (w.alloc (.cells cs.toArray t)) := by
  obtain ⟨Y, hs, back⟩ := h.st
  exact back _ _ (((hs.imp (As.asl _ _ _)).bpush hg cs t).imp (As.asr _ _ _))
theorem Pk.bget (h : Pk B W b en m0 m1 m2 s ((As.and (bxs bs) Z)) w) (i : Nat) {g : Nat} {cs : List Value} (e : bs[i]? = some (g, cs)) : Box g cs w := by
  obtain ⟨Y, hs, back⟩ := h.st
  exact (hs.imp (As.asl _ _ _)).bget i e
theorem Pk.bput (h : Pk B W b en m0 m1 m2 s ((As.and (bxs bs) Z)) w) (i : Nat) {g : Nat} {cs : List Value} (e : bs[i]? = some (g, cs)) (j : Nat) (v : Value) : Pk B W b en m0 m1 m2 s ((As.and (bxs (bs.set i (g, cs.set j v))) Z)) (w.setCell ⟨g, j, none⟩ v) := by
  obtain ⟨Y, hs, back⟩ := h.st
  exact back _ _ (((hs.imp (As.asl _ _ _)).bput i e j v).imp (As.asr _ _ _))
end
section
variable {B b : Nat} {W w : World} {en : Tok} {m0 m1 m2 : Value} {g0 : Nat} {p : PIns × RS} {Z : As} {bs : List (Nat × List Value)}
theorem Ik.b0 (h : Ik B W b en m0 m1 m2 g0 p Z w) : Ik B W b en m0 m1 m2 g0 p ((As.and (bxs []) Z)) w := h.imp (As.nob _)
theorem Ik.nobx (h : Ik B W b en m0 m1 m2 g0 p ((As.and (bxs bs) Z)) w) : Ik B W b en m0 m1 m2 g0 p Z w := h.imp (As.drop _ _)
theorem Ik.bpush (h : Ik B W b en m0 m1 m2 g0 p ((As.and (bxs bs) Z)) w) {g : Nat} (hg : g = w.heap.size) (cs : List Value) (t : TypeId) : Ik B W b en m0 m1 m2 g0 p ((As.and (bxs ((g, cs) :: bs)) Z)) (w.alloc (.cells cs.toArray t)) := by
  obtain ⟨Y, hs, back⟩ := h.st
  exact back _ _ (((hs.imp (As.asl _ _ _)).bpush hg cs t).imp (As.asr _ _ _))
theorem Ik.bget (h : Ik B W b en m0 m1 m2 g0 p ((As.and (bxs bs) Z)) w) (i : Nat) {g : Nat} {cs : List Value} (e : bs[i]? = some (g, cs)) : Box g cs w := by
  obtain ⟨Y, hs, back⟩ := h.st
  exact (hs.imp (As.asl _ _ _)).bget i e
theorem Ik.bput (h : Ik B W b en m0 m1 m2 g0 p ((As.and (bxs bs) Z)) w) (i : Nat) {g : Nat} {cs : List Value} (e : bs[i]? = some (g, cs)) (j : Nat) (v : Value) : Ik B W b en m0 m1 m2 g0 p ((As.and (bxs (bs.set i (g, cs.set j v))) Z)) (w.setCell ⟨g, j, none⟩ v) := by
  obtain ⟨Y, hs, back⟩ := h.st
  exact back _ _ (((hs.imp (As.asl _ _ _)).bput i e j v).imp (As.asr _ _ _))
end
end Go.Proofs.YtjomihlnjobndaaGreatDoor
/- The parser's reader: passed, want and what is wanted. -/
namespace Go.Proofs.YtjomihlnjobndaaGreatDoor
open Go.RowKit Go.Maps
set_option linter.unusedVariables false
set_option linter.unusedSimpArgs false

theorem str_tl (b : Tx) : (str b).toList = b := by rw [ByteArray.toList_eq]; simp [str]
abbrev tkC (t : Tok) : List Value := [.int .i64 t.kind, .string (str t.body), .int .i64 t.line, .int .i64 t.col]
section
variable {B b : Nat} {W w : World} {en : Tok} {m0 m1 m2 r : Value} {s : RS} {Z : As}
set_option maxRecDepth 100000 in
set_option maxHeartbeats 1000000 in
theorem passed_any (h : Rd B W b en m0 m1 m2 r s Z w) (k : Nat) (x : Tx) :
    Calls Tryz.prog 61 #[.pointer (some ⟨b, 0, none⟩), .int .i64 k, .string (str x)] w (fun e w' => e = .returned (.bool (isTk k x (nx en s))) ∧ Rd B W b en m0 m1 m2 r (sPassed en k x s) Z w') := by
  unfold sPassed
  have C := next_any h
  have HH := Lib.hid h
  clear h
  obtain ⟨t, et⟩ : ∃ t, nx en s = t := ⟨_, rfl⟩
  rw [et] at C ⊢
  clear et
  unfold isTk
  unfold tkV at C
  by_cases hk : t.kind = k
  · by_cases hx : t.body = x
    · have e : (t.kind == k && t.body == x) = true := by simp [hk, hx]
      rw [e, if_pos rfl]
      clear e
      subst hk hx
      go_enter Tryz.func61, Tryz.ntmps61
      go_wp2_with (first | ((with_reducible refine C.mono ?_); rintro e w1 ⟨rfl, h1⟩) | ((with_reducible refine (pass_any ((HH.out.later h1).alloc _)).mono ?_); rintro e w2 ⟨rfl, h2⟩))
      go_ret
      exact ⟨rfl, h2⟩
    · have e : (t.kind == k && t.body == x) = false := by simp [hx]
      have e2 : ((str t.body).toList == (str x).toList) = false := by rw [str_tl, str_tl]; simpa using hx
      rw [e, if_neg (by decide)]
      clear e
      subst hk
      go_enter Tryz.func61, Tryz.ntmps61
      go_wp2_with ((with_reducible refine C.mono ?_); rintro e w1 ⟨rfl, h1⟩)
      go_ret
      exact ⟨rfl, (HH.out.later h1).alloc _⟩
  · have e : (t.kind == k && t.body == x) = false := by simp [hk]
    have e2 : ((t.kind : Int) == (k : Int)) = false := beq_false_of_ne (by omega)
    rw [e, if_neg (by decide)]
    clear e
    go_enter Tryz.func61, Tryz.ntmps61
    go_wp2_with ((with_reducible refine C.mono ?_); rintro e w1 ⟨rfl, h1⟩)
    go_ret
    exact ⟨rfl, (HH.out.later h1).alloc _⟩
set_option maxRecDepth 100000 in
set_option maxHeartbeats 1000000 in
theorem want_any (h : Rd B W b en m0 m1 m2 r s Z w) (k : Nat) :
    Calls Tryz.prog 141 #[.pointer (some ⟨b, 0, none⟩), .int .i64 k] w (fun e w' => e = .returned (tkV (nx en s)) ∧ Rd B W b en m0 m1 m2 r (sWant en k s) Z w') := by
  unfold sWant
  have h0 := h.b0.bpush rfl [.int .i64 0, .string ⟨#[]⟩, .int .i64 0, .int .i64 0] 30
  have C := next_any h0
  obtain ⟨t, et⟩ : ∃ t, nx en s = t := ⟨_, rfl⟩
  rw [et] at C ⊢
  have HH := Lib.hid (And.intro h0 et)
  obtain ⟨z, ez⟩ : ∃ z, w.heap.size = z := ⟨_, rfl⟩
  rw [ez] at HH
  clear h et h0
  have EZ := Lib.hid ez
  try simp only [ez] at C
  unfold tkV at C ⊢
  have fin : ∀ (q : RS) (g : Nat) w3, Rd B W b en m0 m1 m2 r q ((As.and (bxs [(g, tkC t), (z, [.int .i64 0, .string ⟨#[]⟩, .int .i64 0, .int .i64 0])]) Z)) w3 →
      (w3.cell? ⟨g, 0, none⟩ = some (.int .i64 t.kind) ∧ w3.cell? ⟨g, 1, none⟩ = some (.string (str t.body)) ∧ w3.cell? ⟨g, 2, none⟩ = some (.int .i64 t.line) ∧ w3.cell? ⟨g, 3, none⟩ = some (.int .i64 t.col)) ∧
      (w3.cell? ⟨z, 0, none⟩ = some (.int .i64 0) ∧ w3.cell? ⟨z, 1, none⟩ = some (.string ⟨#[]⟩) ∧ w3.cell? ⟨z, 2, none⟩ = some (.int .i64 0) ∧ w3.cell? ⟨z, 3, none⟩ = some (.int .i64 0)) ∧ (∀ i, w3.frozen? ⟨z, i, none⟩ = false) ∧
      Rd B W b en m0 m1 m2 r q Z ((((w3.setCell ⟨z, 0, none⟩ (.int .i64 t.kind)).setCell ⟨z, 1, none⟩ (.string (str t.body))).setCell ⟨z, 2, none⟩ (.int .i64 t.line)).setCell ⟨z, 3, none⟩ (.int .i64 t.col)) := by
    intro q g w3 h3
    have b0 := h3.bget 0 rfl
    have b1 := h3.bget 1 rfl
    exact ⟨⟨b0.get 0 _ rfl, b0.get 1 _ rfl, b0.get 2 _ rfl, b0.get 3 _ rfl⟩, ⟨b1.get 0 _ rfl, b1.get 1 _ rfl, b1.get 2 _ rfl, b1.get 3 _ rfl⟩, b1.2.1, ((((h3.bput 1 rfl 0 _).bput 1 rfl 1 _).bput 1 rfl 2 _).bput 1 rfl 3 _).nobx⟩
  have FIN := Lib.hid fin
  clear fin
  by_cases hk : t.kind = k
  · rw [if_pos hk]
    subst hk
    go_enter Tryz.func141, Tryz.ntmps141
    go_wp2_with (first | ((with_reducible refine C.mono ?_); rintro e w1 ⟨rfl, h1⟩) | ((with_reducible refine (pass_any ((HH.out.1.later h1).bpush rfl (tkC t) 30)).mono ?_); rintro e w2 ⟨rfl, h2⟩; obtain ⟨⟨y0, y1, y2, y3⟩, ⟨x0, x1, x2, x3⟩, fz, hF⟩ := FIN.out _ _ _ h2))
    refine bodyPost_ret (v := tkV t) (by simp [results, Tryz.results141, go_sem, tkV, x0, x1, x2, x3]) rfl ⟨rfl, hF⟩
  · rw [if_neg hk]
    have e2 : ((t.kind : Int) == (k : Int)) = false := beq_false_of_ne (by omega)
    go_enter Tryz.func141, Tryz.ntmps141
    go_wp2_with (first | ((with_reducible refine C.mono ?_); rintro e w1 ⟨rfl, h1⟩) | ((with_reducible refine (refuse3 ((HH.out.1.later h1).bpush rfl (tkC t) 30) t).mono ?_); rintro e w2 ⟨rfl, h2⟩; obtain ⟨⟨y0, y1, y2, y3⟩, _⟩ := FIN.out _ _ _ h2) | ((with_reducible refine (pass_any h2).mono ?_); rintro e w3 ⟨rfl, h3⟩; obtain ⟨⟨y0, y1, y2, y3⟩, ⟨x0, x1, x2, x3⟩, fz, hF⟩ := FIN.out _ _ _ h3))
    refine bodyPost_ret (v := tkV t) (by simp [results, Tryz.results141, go_sem, tkV, x0, x1, x2, x3]) rfl ⟨rfl, hF⟩
end
end Go.Proofs.YtjomihlnjobndaaGreatDoor
/- The parser's reader: marks, words, line ends, blocks, types, sizes. -/
namespace Go.Proofs.YtjomihlnjobndaaGreatDoor
open Go.RowKit Go.Maps
set_option linter.unusedVariables false
set_option linter.unusedSimpArgs false

/-- What is known from the first. -/
def Kn (B : Nat) (W : World) (en : Tok) : Prop := Stc W ∧ W.heap.size ≤ B ∧ Gt en ∧ en.kind = 6
section
variable {B b : Nat} {W w : World} {en : Tok} {m0 m1 m2 r : Value} {s : RS} {Z : As}
theorem Rd.stc (h : Rd B W b en m0 m1 m2 r s Z w) (K : Kn B W en) : Stc w := K.1.later (h.below.mono K.2.1)
theorem Rd.tk4 {g : Nat} {t : Tok} {bs : List (Nat × List Value)} (h : Rd B W b en m0 m1 m2 r s ((As.and (bxs ((g, tkC t) :: bs)) Z)) w) :
    w.cell? ⟨g, 0, none⟩ = some (.int .i64 t.kind) ∧ w.cell? ⟨g, 1, none⟩ = some (.string (str t.body)) ∧ w.cell? ⟨g, 2, none⟩ = some (.int .i64 t.line) ∧ w.cell? ⟨g, 3, none⟩ = some (.int .i64 t.col) := by
  have b0 := h.bget 0 rfl
  exact ⟨b0.get 0 _ rfl, b0.get 1 _ rfl, b0.get 2 _ rfl, b0.get 3 _ rfl⟩
set_option maxRecDepth 100000 in
set_option maxHeartbeats 1000000 in
theorem wantMark_any (h : Rd B W b en m0 m1 m2 r s Z w) (x : Tx) :
    Calls Tryz.prog 176 #[.pointer (some ⟨b, 0, none⟩), .string (str x)] w (fun e w' => e = .returned (.tuple #[]) ∧ Rd B W b en m0 m1 m2 r (sThis en 5 x s) Z w') := by
  have C : Calls Tryz.prog 61 #[.pointer (some ⟨b, 0, none⟩), .int .i64 5, .string (str x)] _ _ := passed_any h 5 x
  unfold sThis
  unfold sPassed at C
  cases hk : isTk 5 x (nx en s) with
  | true =>
    rw [hk, if_pos rfl] at C
    rw [if_pos rfl]
    clear h hk
    go_enter Tryz.func176, Tryz.ntmps176
    go_wp2_with ((with_reducible refine C.mono ?_); rintro e w1 ⟨rfl, h1⟩)
    go_end0
    exact ⟨rfl, h1⟩
  | false =>
    rw [hk, if_neg (by decide)] at C
    rw [if_neg (by decide)]
    clear h hk
    go_enter Tryz.func176, Tryz.ntmps176
    go_wp2_with (first | ((with_reducible refine C.mono ?_); rintro e w1 ⟨rfl, h1⟩) | ((with_reducible refine (next_any h1).mono ?_); rintro e w2 ⟨rfl, h2⟩) | ((with_reducible refine (refuse3 (h1.later h2) _).mono ?_); rintro e w3 ⟨rfl, h3⟩))
    go_end0
    exact ⟨rfl, h3⟩
set_option maxRecDepth 100000 in
set_option maxHeartbeats 1000000 in
theorem wantWord_any (h : Rd B W b en m0 m1 m2 r s Z w) (x : Tx) :
    Calls Tryz.prog 198 #[.pointer (some ⟨b, 0, none⟩), .string (str x)] w (fun e w' => e = .returned (.tuple #[]) ∧ Rd B W b en m0 m1 m2 r (sThis en 1 x s) Z w') := by
  have C : Calls Tryz.prog 61 #[.pointer (some ⟨b, 0, none⟩), .int .i64 1, .string (str x)] _ _ := passed_any h 1 x
  unfold sThis
  unfold sPassed at C
  cases hk : isTk 1 x (nx en s) with
  | true =>
    rw [hk, if_pos rfl] at C
    rw [if_pos rfl]
    clear h hk
    go_enter Tryz.func198, Tryz.ntmps198
    go_wp2_with ((with_reducible refine C.mono ?_); rintro e w1 ⟨rfl, h1⟩)
    go_end0
    exact ⟨rfl, h1⟩
  | false =>
    rw [hk, if_neg (by decide)] at C
    rw [if_neg (by decide)]
    clear h hk
    go_enter Tryz.func198, Tryz.ntmps198
    go_wp2_with (first | ((with_reducible refine C.mono ?_); rintro e w1 ⟨rfl, h1⟩) | ((with_reducible refine (next_any h1).mono ?_); rintro e w2 ⟨rfl, h2⟩) | ((with_reducible refine (refuse3 (h1.later h2) _).mono ?_); rintro e w3 ⟨rfl, h3⟩))
    go_end0
    exact ⟨rfl, h3⟩
set_option maxRecDepth 100000 in
set_option maxHeartbeats 1000000 in
theorem wantLineEnd_any (h : Rd B W b en m0 m1 m2 r s Z w) :
    Calls Tryz.prog 113 #[.pointer (some ⟨b, 0, none⟩)] w (fun e w' => e = .returned (.tuple #[]) ∧ Rd B W b en m0 m1 m2 r (sWant en 6 s) Z w') := by
  have C : Calls Tryz.prog 141 #[.pointer (some ⟨b, 0, none⟩), .int .i64 6] _ _ := want_any h 6
  clear h
  go_enter Tryz.func113, Tryz.ntmps113
  go_wp2_with ((with_reducible refine C.mono ?_); rintro e w1 ⟨rfl, h1⟩)
  go_end0
  exact ⟨rfl, h1⟩
set_option maxRecDepth 100000 in
set_option maxHeartbeats 1000000 in
theorem wantBlock_any (K : Kn B W en) (h : Rd B W b en m0 m1 m2 r s Z w) :
    Calls Tryz.prog 213 #[.pointer (some ⟨b, 0, none⟩)] w (fun e w' => e = .returned (.int .i64 (vBlock en s)) ∧ Rd B W b en m0 m1 m2 r (sBlock en s) Z w') := by
  unfold vBlock sBlock
  have ht := h.nx_gt K.2.2.1
  have C := next_any h.b0
  have HH := Lib.hid (And.intro h.b0 (And.intro K ht))
  clear h K ht
  obtain ⟨t, et⟩ : ∃ t, nx en s = t := ⟨_, rfl⟩
  rw [et] at C HH ⊢
  clear et
  have C2 := fun w1 h1 => blockOf_any t HH.out.2.2 _ ((((HH.out.1.later (w' := w1) h1).bpush rfl (tkC t) 30)).stc HH.out.2.1)
  cases hk : (blockOfP t) with
  | some n =>
    simp only [hk] at C2
    simp only [Option.isSome_some, if_true]
    go_enter Tryz.func213, Tryz.ntmps213
    go_wp2_with (first | ((with_reducible refine C.mono ?_); rintro e w1 ⟨rfl, h1⟩) | ((with_reducible refine (C2 _ h1).mono ?_); rintro e w2 ⟨rfl, h2⟩) | ((with_reducible refine (pass_any (((HH.out.1.later h1).bpush rfl (tkC t) 30).later h2)).mono ?_); rintro e w3 ⟨rfl, h3⟩))
    go_ret
    exact ⟨rfl, h3.nobx⟩
  | none =>
    simp only [hk] at C2
    simp only [Option.isSome_none, Bool.false_eq_true, if_false]
    go_enter Tryz.func213, Tryz.ntmps213
    go_wp2_with (first | ((with_reducible refine C.mono ?_); rintro e w1 ⟨rfl, h1⟩) | ((with_reducible refine (C2 _ h1).mono ?_); rintro e w2 ⟨rfl, h2⟩; obtain ⟨y0, y1, y2, y3⟩ := (((HH.out.1.later h1).bpush rfl (tkC t) 30).later h2).tk4) | ((with_reducible refine (refuse3 (((HH.out.1.later h1).bpush rfl (tkC t) 30).later h2) t).mono ?_); rintro e w3 ⟨rfl, h3⟩) | ((with_reducible refine (pass_any h3).mono ?_); rintro e w4 ⟨rfl, h4⟩))
    go_ret
    exact ⟨rfl, h4.nobx⟩
set_option maxRecDepth 100000 in
set_option maxHeartbeats 1000000 in
theorem wantType_any (K : Kn B W en) (h : Rd B W b en m0 m1 m2 r s Z w) :
    Calls Tryz.prog 148 #[.pointer (some ⟨b, 0, none⟩)] w (fun e w' => e = .returned (.int .i64 (vType en s)) ∧ Rd B W b en m0 m1 m2 r (sType en s) Z w') := by
  unfold vType sType
  have ht := h.nx_gt K.2.2.1
  have C : Calls Tryz.prog 141 #[.pointer (some ⟨b, 0, none⟩), .int .i64 1] _ _ := want_any h.b0 1
  have HH := Lib.hid (And.intro K ht)
  clear h K ht
  obtain ⟨t, et⟩ : ∃ t, nx en s = t := ⟨_, rfl⟩
  rw [et] at C HH ⊢
  clear et
  have C2 := fun w1 (h1 : Rd B W b en m0 m1 m2 r (sWant en 1 s) ((As.and (bxs []) Z)) w1) => typeOf_any t.body (gt_nm HH.out.2) _ ((h1.bpush rfl (tkC t) 30).stc HH.out.1)
  cases hk : (typeOfP t.body) with
  | some n =>
    simp only [hk] at C2
    simp only [Option.isSome_some, if_true]
    go_enter Tryz.func148, Tryz.ntmps148
    go_wp2_with (first | ((with_reducible refine C.mono ?_); rintro e w1 ⟨rfl, h1⟩) | ((with_reducible refine (C2 _ h1).mono ?_); rintro e w2 ⟨rfl, h2⟩))
    go_ret
    exact ⟨rfl, ((h1.bpush rfl (tkC t) 30).later h2).nobx⟩
  | none =>
    simp only [hk] at C2
    simp only [Option.isSome_none, Bool.false_eq_true, if_false]
    go_enter Tryz.func148, Tryz.ntmps148
    go_wp2_with (first | ((with_reducible refine C.mono ?_); rintro e w1 ⟨rfl, h1⟩) | ((with_reducible refine (C2 _ h1).mono ?_); rintro e w2 ⟨rfl, h2⟩; obtain ⟨y0, y1, y2, y3⟩ := ((h1.bpush rfl (tkC t) 30).later h2).tk4) | ((with_reducible refine (refuse7 ((h1.bpush rfl (tkC t) 30).later h2) t).mono ?_); rintro e w3 ⟨rfl, h3⟩))
    go_ret
    exact ⟨rfl, h3.nobx⟩
set_option maxRecDepth 100000 in
set_option maxHeartbeats 1000000 in
theorem wantSize_any (K : Kn B W en) (h : Rd B W b en m0 m1 m2 r s Z w) :
    Calls Tryz.prog 112 #[.pointer (some ⟨b, 0, none⟩)] w (fun e w' => e = .returned (.int .i64 (vSize en s)) ∧ Rd B W b en m0 m1 m2 r (sSize en s) Z w') := by
  unfold vSize sSize
  have ht := h.nx_gt K.2.2.1
  have C : Calls Tryz.prog 141 #[.pointer (some ⟨b, 0, none⟩), .int .i64 2] _ _ := want_any h.b0 2
  have HH := Lib.hid (And.intro K ht)
  clear h K ht
  obtain ⟨t, et⟩ : ∃ t, nx en s = t := ⟨_, rfl⟩
  rw [et] at C HH ⊢
  clear et
  have C2 := fun w1 (h1 : Rd B W b en m0 m1 m2 r (sWant en 2 s) ((As.and (bxs []) Z)) w1) => numberOf_any t HH.out.2 _ ((h1.bpush rfl (tkC t) 30).stc HH.out.1).1
  obtain ⟨n, en⟩ : ∃ n, numOf t = n := ⟨_, rfl⟩
  simp only [en] at C2 ⊢
  clear en
  by_cases hk : n = 0 ∨ 64 < n
  · rw [if_pos hk]
    by_cases h0 : n = 0
    · subst h0
      go_enter Tryz.func112, Tryz.ntmps112
      go_wp2_with (first | ((with_reducible refine C.mono ?_); rintro e w1 ⟨rfl, h1⟩) | ((with_reducible refine (C2 _ h1).mono ?_); rintro e w2 ⟨rfl, h2⟩; obtain ⟨y0, y1, y2, y3⟩ := ((h1.bpush rfl (tkC t) 30).later h2).tk4) | ((with_reducible refine (refuse6 ((h1.bpush rfl (tkC t) 30).later h2) t).mono ?_); rintro e w3 ⟨rfl, h3⟩))
      go_ret
      exact ⟨rfl, h3.nobx⟩
    · have e0 : ((n : Int) == 0) = false := beq_false_of_ne (by omega)
      have e1 : (64 : Int) < (n : Int) := by omega
      go_enter Tryz.func112, Tryz.ntmps112
      go_wp2_with (first | ((with_reducible refine C.mono ?_); rintro e w1 ⟨rfl, h1⟩) | ((with_reducible refine (C2 _ h1).mono ?_); rintro e w2 ⟨rfl, h2⟩; obtain ⟨y0, y1, y2, y3⟩ := ((h1.bpush rfl (tkC t) 30).later h2).tk4) | ((with_reducible refine (refuse6 ((h1.bpush rfl (tkC t) 30).later h2) t).mono ?_); rintro e w3 ⟨rfl, h3⟩))
      go_ret
      exact ⟨ret_int (by first | rfl | simp [wrap64, IntKind.wrap_i64]), h3.nobx⟩
  · rw [if_neg hk]
    have e0 : ((n : Int) == 0) = false := beq_false_of_ne (by omega)
    have e1 : ¬ (64 : Int) < (n : Int) := by omega
    go_enter Tryz.func112, Tryz.ntmps112
    go_wp2_with (first | ((with_reducible refine C.mono ?_); rintro e w1 ⟨rfl, h1⟩) | ((with_reducible refine (C2 _ h1).mono ?_); rintro e w2 ⟨rfl, h2⟩))
    go_ret
    exact ⟨ret_int (by rw [IntKind.wrap_i64]; omega), ((h1.bpush rfl (tkC t) 30).later h2).nobx⟩
end
end Go.Proofs.YtjomihlnjobndaaGreatDoor
/- Steps that leave the names asked as they are. No program here. -/
namespace Go.Proofs.YtjomihlnjobndaaGreatDoor
set_option linter.unusedVariables false
set_option linter.unusedSimpArgs false

theorem as_ps (s : RS) : (ps s).asked = s.asked := rfl
theorem as_bd (c : Nat) (t : Tok) (s : RS) : (bd c t s).asked = s.asked := rfl
theorem as_this (en : Tok) (k : Nat) (b : Tx) (s : RS) : (sThis en k b s).asked = s.asked := by unfold sThis; split <;> rfl
theorem as_want (en : Tok) (k : Nat) (s : RS) : (sWant en k s).asked = s.asked := by unfold sWant; split <;> rfl
theorem as_passed (en : Tok) (k : Nat) (b : Tx) (s : RS) : (sPassed en k b s).asked = s.asked := by unfold sPassed; split <;> rfl
theorem as_block (en : Tok) (s : RS) : (sBlock en s).asked = s.asked := by unfold sBlock; split <;> rfl
theorem as_type (en : Tok) (s : RS) : (sType en s).asked = s.asked := by unfold sType; split; exact as_want _ _ _; exact as_want _ _ _
theorem as_size (en : Tok) (s : RS) : (sSize en s).asked = s.asked := by unfold sSize; split; exact as_want _ _ _; exact as_want _ _ _
theorem as_flags (en : Tok) (s : RS) : (sFlags en s).asked = s.asked := by unfold sFlags; rw [as_passed, as_passed, as_passed]
theorem as_reg (en : Tok) (s : RS) : (sReg en s).asked = s.asked := by unfold sReg; split; rw [as_this, as_want]; rfl
theorem as_word (en : Tok) (r : Int) (s : RS) : (sWord en r s).asked = s.asked := by unfold sWord; rw [as_ps]; split <;> rfl
theorem as_bdIf (c : Prop) [Decidable c] (k : Nat) (en : Tok) (s : RS) : (bdIf c k en s).asked = s.asked := by unfold bdIf; split <;> rfl
theorem as_label (en : Tok) (len n : Nat) (s : RS) : (sLabel en len n s).asked = s.asked := by unfold sLabel; rw [as_want, as_this, as_ps, as_bdIf, as_bdIf]
theorem as_name (en : Tok) (f : Bool) (told : Tx → Bool) (s : RS) : (sName en f told s).asked = s.asked := by
  unfold sName
  dsimp only
  split <;> (try rw [as_bd]) <;> split <;> (try rw [as_bd]) <;> rw [as_want]
theorem as_param (en : Tok) (p : List Int × RS) : (iParam en p).2.asked = p.2.asked := by
  unfold iParam
  dsimp only
  split
  · rw [as_bd, as_type]
  · rw [as_type]
theorem as_more {β : Type} (en : Tok) {item : β × RS → β × RS} (hi : ∀ p, (item p).2.asked = p.2.asked) : ∀ (k : Nat) (p : β × RS), (sMore en item k p).2.asked = p.2.asked
  | 0, p => rfl
  | k + 1, p => by
    unfold sMore
    split
    · rw [as_more en hi k, hi]; rfl
    · rfl
theorem as_commas {β : Type} (en : Tok) {item : β × RS → β × RS} (hi : ∀ p, (item p).2.asked = p.2.asked) (p : β × RS) : (sCommas en item p).2.asked = p.2.asked := by unfold sCommas; rw [as_more en hi, hi]
theorem as_brackets {β : Type} (en : Tok) {item : β × RS → β × RS} (hi : ∀ p, (item p).2.asked = p.2.asked) (p : β × RS) : (sBrackets en item p).2.asked = p.2.asked := by
  unfold sBrackets
  split
  · dsimp only; rw [as_ps, as_this]
  · dsimp only; rw [as_this, as_commas en hi, as_this]
theorem as_types (en : Tok) (s : RS) : (sTypes en s).asked = s.asked := by unfold sTypes; rw [as_type, as_brackets en (as_param en)]
end Go.Proofs.YtjomihlnjobndaaGreatDoor
/- The parser: names that are asked. -/
namespace Go.Proofs.YtjomihlnjobndaaGreatDoor
open Go.RowKit Go.Maps
set_option linter.unusedVariables false
set_option linter.unusedSimpArgs false

section
variable {B b : Nat} {W w : World} {en : Tok} {m0 m1 m2 : Value} {s : RS} {Z : As}
theorem tokC_lit (w : World) (t : Tok) : ∀ j u, (tokC t)[j]? = some u → (w.alloc (.cells #[.int .i64 t.kind, .string (str t.body), .int .i64 t.line, .int .i64 t.col] 30)).cell? ((⟨w.heap.size, 0, none⟩ : Addr).add j) = some u := lit_cells w _ _
theorem cell_drew (w : World) (a : Addr) : w.drew.cell? a = w.cell? a := by rw [World.cell?_drew]
theorem tokC_lit2 (w : World) (o : Obj) (t : Tok) : ∀ j u, (tokC t)[j]? = some u → (((w.alloc o).alloc (.cells #[.int .i64 t.kind, .string (str t.body), .int .i64 t.line, .int .i64 t.col] 30)).drew).cell? ((⟨w.heap.size + 1, 0, none⟩ : Addr).add j) = some u := fun j u h => by
  rw [World.cell?_drew]; exact lit_cells2 w o _ _ j u h
set_option maxRecDepth 100000 in
set_option maxHeartbeats 4000000 in
theorem ask_any (t : Tok) (ht : Gt t) (hl : s.asked.length ≤ 1000000) (h : Pk B W b en m0 m1 m2 s Z w) :
    Calls Tryz.prog 202 #[.pointer (some ⟨b, 0, none⟩), tkV t] w (fun e w' => e = .returned (.int .i64 (s.asked.length : Nat)) ∧ Pk B W b en m0 m1 m2 (sAsk t s) Z w') := by
  obtain ⟨iT, hiT, hz0, hz1, hz2⟩ := info_parts infoT
  have HI := Lib.hid (And.intro hiT (And.intro hz0 (And.intro hz1 hz2)))
  obtain ⟨ap, ac, Y, c11, f11, hlt, hS, hbx, back⟩ := ((h.alloc (.cells #[.int .i64 t.kind, .string (str t.body), .int .i64 t.line, .int .i64 t.col] 30))).asked
  have HS := Lib.hid (And.intro hS (And.intro hbx (And.intro back ht)))
  have hlt0 : b < w.heap.size := by obtain ⟨_, _, _, _, _, z, _⟩ := h.asked; exact z
  clear hiT hz0 hz1 hz2 h hS hbx back hlt ht
  have HL := Lib.hid hl
  obtain ⟨n, en⟩ : ∃ n, s.asked.length = n := ⟨_, rfl⟩
  rw [en] at c11 hl ⊢
  have EN := Lib.hid en
  clear en
  go_enter Tryz.func202, Tryz.ntmps202
  go_wp2_with fail
  go_region_law (first | (refine step_app rfl (.tmp 9) (.tmp 11) 23 rfl iT _ 40 Tryz.underlying23 HI.out.1 HI.out.2.1 HI.out.2.2.1 HI.out.2.2.2 rfl (by decide) (by rw [← EN.out]; rfl) ((HS.out.1.alloc _).drew) t _ 1 rfl rfl (tokC_lit2 _ _ t) (tokC_one t) (by have := HL.out; unfold maxLen; omega) (by have := HL.out; omega) ?_; intro p' c' w' hS'; obtain ⟨k0, k1, k2⟩ := HS.out.2.1 _ _ hS'; rw [EN.out] at k0))
  all_goals
    go_wp2_with fail
    go_ret
    refine ⟨ret_int (by first | rfl | (have := EN.out; unfold wrap64; omega)), ?_⟩
    have q := HS.out.2.2.1 p' c' t w' HS.out.2.2.2 (by unfold askRow; rw [List.length_append]; exact hS')
    rw [EN.out] at q ⊢
    exact q
end
end Go.Proofs.YtjomihlnjobndaaGreatDoor
/- The reader's methods at the parser's state, and at an instruction's. -/
namespace Go.Proofs.YtjomihlnjobndaaGreatDoor
open Go.RowKit Go.Maps
set_option linter.unusedVariables false
set_option linter.unusedSimpArgs false

section
variable {B b : Nat} {W w : World} {en : Tok} {m0 m1 m2 : Value} {s : RS} {Z : As}
theorem Pk.stc (h : Pk B W b en m0 m1 m2 s Z w) (K : Kn B W en) : Stc w := K.1.later (h.below.mono K.2.1)
theorem Pk.nx_gt (h : Pk B W b en m0 m1 m2 s Z w) (K : Kn B W en) : Gt (nx en s) := by
  obtain ⟨r, Z', hr, back⟩ := h.rd
  exact hr.nx_gt K.2.2.1
theorem Pk.tk4 {g' : Nat} {t : Tok} {bs : List (Nat × List Value)} (h : Pk B W b en m0 m1 m2 s ((As.and (bxs ((g', tkC t) :: bs)) Z)) w) :
    w.cell? ⟨g', 0, none⟩ = some (.int .i64 t.kind) ∧ w.cell? ⟨g', 1, none⟩ = some (.string (str t.body)) ∧ w.cell? ⟨g', 2, none⟩ = some (.int .i64 t.line) ∧ w.cell? ⟨g', 3, none⟩ = some (.int .i64 t.col) := by
  have b0 := h.bget 0 rfl
  exact ⟨b0.get 0 _ rfl, b0.get 1 _ rfl, b0.get 2 _ rfl, b0.get 3 _ rfl⟩
theorem Pk.next (h : Pk B W b en m0 m1 m2 s Z w) : Calls Tryz.prog 66 #[.pointer (some ⟨b, 0, none⟩)] w (fun e w' => e = .returned (tkV (nx en s)) ∧ Pk B W b en m0 m1 m2 s Z w') := by
  obtain ⟨r, Z', hr, back⟩ := h.rd
  exact (next_any hr).mono fun e w' ⟨h1, h2⟩ => ⟨h1, h.later h2⟩
theorem Pk.pass (h : Pk B W b en m0 m1 m2 s Z w)  : Calls Tryz.prog 109 #[.pointer (some ⟨b, 0, none⟩)] w (fun e w' => e = .returned (.tuple #[]) ∧ Pk B W b en m0 m1 m2 (ps s) Z w') := by
  obtain ⟨r, Z', hr, back⟩ := h.rd
  have C : Calls Tryz.prog 109 #[.pointer (some ⟨b, 0, none⟩)] w (fun e w' => e = .returned (.tuple #[]) ∧ Rd B W b en m0 m1 m2 r (ps s) Z' w') := pass_any hr
  exact C.mono fun e w' ⟨h1, h2⟩ => ⟨h1, back _ _ (as_ps _) h2⟩
theorem Pk.refuse3 (h : Pk B W b en m0 m1 m2 s Z w) (t : Tok) : Calls Tryz.prog 65 #[.pointer (some ⟨b, 0, none⟩), .int .i64 3, tkV t] w (fun e w' => e = .returned (.tuple #[]) ∧ Pk B W b en m0 m1 m2 (bd 3 t s) Z w') := by
  obtain ⟨r, Z', hr, back⟩ := h.rd
  have C : Calls Tryz.prog 65 #[.pointer (some ⟨b, 0, none⟩), .int .i64 3, tkV t] w (fun e w' => e = .returned (.tuple #[]) ∧ Rd B W b en m0 m1 m2 r (bd 3 t s) Z' w') := Go.Proofs.YtjomihlnjobndaaGreatDoor.refuse3 hr t
  exact C.mono fun e w' ⟨h1, h2⟩ => ⟨h1, back _ _ (as_bd _ _ _) h2⟩
theorem Pk.refuse5 (h : Pk B W b en m0 m1 m2 s Z w) (t : Tok) : Calls Tryz.prog 65 #[.pointer (some ⟨b, 0, none⟩), .int .i64 5, tkV t] w (fun e w' => e = .returned (.tuple #[]) ∧ Pk B W b en m0 m1 m2 (bd 5 t s) Z w') := by
  obtain ⟨r, Z', hr, back⟩ := h.rd
  have C : Calls Tryz.prog 65 #[.pointer (some ⟨b, 0, none⟩), .int .i64 5, tkV t] w (fun e w' => e = .returned (.tuple #[]) ∧ Rd B W b en m0 m1 m2 r (bd 5 t s) Z' w') := Go.Proofs.YtjomihlnjobndaaGreatDoor.refuse5 hr t
  exact C.mono fun e w' ⟨h1, h2⟩ => ⟨h1, back _ _ (as_bd _ _ _) h2⟩
theorem Pk.refuse6 (h : Pk B W b en m0 m1 m2 s Z w) (t : Tok) : Calls Tryz.prog 65 #[.pointer (some ⟨b, 0, none⟩), .int .i64 6, tkV t] w (fun e w' => e = .returned (.tuple #[]) ∧ Pk B W b en m0 m1 m2 (bd 6 t s) Z w') := by
  obtain ⟨r, Z', hr, back⟩ := h.rd
  have C : Calls Tryz.prog 65 #[.pointer (some ⟨b, 0, none⟩), .int .i64 6, tkV t] w (fun e w' => e = .returned (.tuple #[]) ∧ Rd B W b en m0 m1 m2 r (bd 6 t s) Z' w') := Go.Proofs.YtjomihlnjobndaaGreatDoor.refuse6 hr t
  exact C.mono fun e w' ⟨h1, h2⟩ => ⟨h1, back _ _ (as_bd _ _ _) h2⟩
theorem Pk.refuse8 (h : Pk B W b en m0 m1 m2 s Z w) (t : Tok) : Calls Tryz.prog 65 #[.pointer (some ⟨b, 0, none⟩), .int .i64 8, tkV t] w (fun e w' => e = .returned (.tuple #[]) ∧ Pk B W b en m0 m1 m2 (bd 8 t s) Z w') := by
  obtain ⟨r, Z', hr, back⟩ := h.rd
  have C : Calls Tryz.prog 65 #[.pointer (some ⟨b, 0, none⟩), .int .i64 8, tkV t] w (fun e w' => e = .returned (.tuple #[]) ∧ Rd B W b en m0 m1 m2 r (bd 8 t s) Z' w') := Go.Proofs.YtjomihlnjobndaaGreatDoor.refuse8 hr t
  exact C.mono fun e w' ⟨h1, h2⟩ => ⟨h1, back _ _ (as_bd _ _ _) h2⟩
theorem Pk.passed (h : Pk B W b en m0 m1 m2 s Z w) (k : Nat) (x : Tx) (ki : Int) (xi : ByteArray) (ek : ki = (k : Int)) (ex : xi = str x) : Calls Tryz.prog 61 #[.pointer (some ⟨b, 0, none⟩), .int .i64 ki, .string xi] w (fun e w' => e = .returned (.bool (isTk k x (nx en s))) ∧ Pk B W b en m0 m1 m2 (sPassed en k x s) Z w') := by
  obtain ⟨r, Z', hr, back⟩ := h.rd
  have C : Calls Tryz.prog 61 #[.pointer (some ⟨b, 0, none⟩), .int .i64 ki, .string xi] w (fun e w' => e = .returned (.bool (isTk k x (nx en s))) ∧ Rd B W b en m0 m1 m2 r (sPassed en k x s) Z' w') := (by rw [ek, ex]; exact passed_any hr k x)
  exact C.mono fun e w' ⟨h1, h2⟩ => ⟨h1, back _ _ (as_passed _ _ _ _) h2⟩
theorem Pk.want (h : Pk B W b en m0 m1 m2 s Z w) (k : Nat) (ki : Int) (ek : ki = (k : Int)) : Calls Tryz.prog 141 #[.pointer (some ⟨b, 0, none⟩), .int .i64 ki] w (fun e w' => e = .returned (tkV (nx en s)) ∧ Pk B W b en m0 m1 m2 (sWant en k s) Z w') := by
  obtain ⟨r, Z', hr, back⟩ := h.rd
  have C : Calls Tryz.prog 141 #[.pointer (some ⟨b, 0, none⟩), .int .i64 ki] w (fun e w' => e = .returned (tkV (nx en s)) ∧ Rd B W b en m0 m1 m2 r (sWant en k s) Z' w') := (by rw [ek]; exact want_any hr k)
  exact C.mono fun e w' ⟨h1, h2⟩ => ⟨h1, back _ _ (as_want _ _ _) h2⟩
theorem Pk.wantMark (h : Pk B W b en m0 m1 m2 s Z w) (x : Tx) (xi : ByteArray) (ex : xi = str x) : Calls Tryz.prog 176 #[.pointer (some ⟨b, 0, none⟩), .string xi] w (fun e w' => e = .returned (.tuple #[]) ∧ Pk B W b en m0 m1 m2 (sThis en 5 x s) Z w') := by
  obtain ⟨r, Z', hr, back⟩ := h.rd
  have C : Calls Tryz.prog 176 #[.pointer (some ⟨b, 0, none⟩), .string xi] w (fun e w' => e = .returned (.tuple #[]) ∧ Rd B W b en m0 m1 m2 r (sThis en 5 x s) Z' w') := (by rw [ex]; exact wantMark_any hr x)
  exact C.mono fun e w' ⟨h1, h2⟩ => ⟨h1, back _ _ (as_this _ _ _ _) h2⟩
theorem Pk.wantWord (h : Pk B W b en m0 m1 m2 s Z w) (x : Tx) (xi : ByteArray) (ex : xi = str x) : Calls Tryz.prog 198 #[.pointer (some ⟨b, 0, none⟩), .string xi] w (fun e w' => e = .returned (.tuple #[]) ∧ Pk B W b en m0 m1 m2 (sThis en 1 x s) Z w') := by
  obtain ⟨r, Z', hr, back⟩ := h.rd
  have C : Calls Tryz.prog 198 #[.pointer (some ⟨b, 0, none⟩), .string xi] w (fun e w' => e = .returned (.tuple #[]) ∧ Rd B W b en m0 m1 m2 r (sThis en 1 x s) Z' w') := (by rw [ex]; exact wantWord_any hr x)
  exact C.mono fun e w' ⟨h1, h2⟩ => ⟨h1, back _ _ (as_this _ _ _ _) h2⟩
theorem Pk.wantLineEnd (h : Pk B W b en m0 m1 m2 s Z w)  : Calls Tryz.prog 113 #[.pointer (some ⟨b, 0, none⟩)] w (fun e w' => e = .returned (.tuple #[]) ∧ Pk B W b en m0 m1 m2 (sWant en 6 s) Z w') := by
  obtain ⟨r, Z', hr, back⟩ := h.rd
  have C : Calls Tryz.prog 113 #[.pointer (some ⟨b, 0, none⟩)] w (fun e w' => e = .returned (.tuple #[]) ∧ Rd B W b en m0 m1 m2 r (sWant en 6 s) Z' w') := wantLineEnd_any hr
  exact C.mono fun e w' ⟨h1, h2⟩ => ⟨h1, back _ _ (as_want _ _ _) h2⟩
theorem Pk.wantBlock (h : Pk B W b en m0 m1 m2 s Z w) (Kk : Kn B W en) : Calls Tryz.prog 213 #[.pointer (some ⟨b, 0, none⟩)] w (fun e w' => e = .returned (.int .i64 (vBlock en s)) ∧ Pk B W b en m0 m1 m2 (sBlock en s) Z w') := by
  obtain ⟨r, Z', hr, back⟩ := h.rd
  have C : Calls Tryz.prog 213 #[.pointer (some ⟨b, 0, none⟩)] w (fun e w' => e = .returned (.int .i64 (vBlock en s)) ∧ Rd B W b en m0 m1 m2 r (sBlock en s) Z' w') := wantBlock_any Kk hr
  exact C.mono fun e w' ⟨h1, h2⟩ => ⟨h1, back _ _ (as_block _ _) h2⟩
theorem Pk.wantType (h : Pk B W b en m0 m1 m2 s Z w) (Kk : Kn B W en) : Calls Tryz.prog 148 #[.pointer (some ⟨b, 0, none⟩)] w (fun e w' => e = .returned (.int .i64 (vType en s)) ∧ Pk B W b en m0 m1 m2 (sType en s) Z w') := by
  obtain ⟨r, Z', hr, back⟩ := h.rd
  have C : Calls Tryz.prog 148 #[.pointer (some ⟨b, 0, none⟩)] w (fun e w' => e = .returned (.int .i64 (vType en s)) ∧ Rd B W b en m0 m1 m2 r (sType en s) Z' w') := wantType_any Kk hr
  exact C.mono fun e w' ⟨h1, h2⟩ => ⟨h1, back _ _ (as_type _ _) h2⟩
theorem Pk.wantSize (h : Pk B W b en m0 m1 m2 s Z w) (Kk : Kn B W en) : Calls Tryz.prog 112 #[.pointer (some ⟨b, 0, none⟩)] w (fun e w' => e = .returned (.int .i64 (vSize en s)) ∧ Pk B W b en m0 m1 m2 (sSize en s) Z w') := by
  obtain ⟨r, Z', hr, back⟩ := h.rd
  have C : Calls Tryz.prog 112 #[.pointer (some ⟨b, 0, none⟩)] w (fun e w' => e = .returned (.int .i64 (vSize en s)) ∧ Rd B W b en m0 m1 m2 r (sSize en s) Z' w') := wantSize_any Kk hr
  exact C.mono fun e w' ⟨h1, h2⟩ => ⟨h1, back _ _ (as_size _ _) h2⟩
end
section
variable {B b : Nat} {W w : World} {en : Tok} {m0 m1 m2 : Value} {g : Nat} {p : PIns × RS} {Z : As}
theorem Ik.stc (h : Ik B W b en m0 m1 m2 g p Z w) (K : Kn B W en) : Stc w := K.1.later (h.below.mono K.2.1)
theorem Ik.nx_gt (h : Ik B W b en m0 m1 m2 g p Z w) (K : Kn B W en) : Gt (nx en p.2) := by
  obtain ⟨r, Z', hr, back⟩ := h.rd
  exact hr.nx_gt K.2.2.1
theorem Ik.tk4 {g' : Nat} {t : Tok} {bs : List (Nat × List Value)} (h : Ik B W b en m0 m1 m2 g p ((As.and (bxs ((g', tkC t) :: bs)) Z)) w) :
    w.cell? ⟨g', 0, none⟩ = some (.int .i64 t.kind) ∧ w.cell? ⟨g', 1, none⟩ = some (.string (str t.body)) ∧ w.cell? ⟨g', 2, none⟩ = some (.int .i64 t.line) ∧ w.cell? ⟨g', 3, none⟩ = some (.int .i64 t.col) := by
  have b0 := h.bget 0 rfl
  exact ⟨b0.get 0 _ rfl, b0.get 1 _ rfl, b0.get 2 _ rfl, b0.get 3 _ rfl⟩
theorem Ik.next (h : Ik B W b en m0 m1 m2 g p Z w) : Calls Tryz.prog 66 #[.pointer (some ⟨b, 0, none⟩)] w (fun e w' => e = .returned (tkV (nx en p.2)) ∧ Ik B W b en m0 m1 m2 g p Z w') := by
  obtain ⟨r, Z', hr, back⟩ := h.rd
  exact (next_any hr).mono fun e w' ⟨h1, h2⟩ => ⟨h1, h.later h2⟩
theorem Ik.pass (h : Ik B W b en m0 m1 m2 g p Z w)  : Calls Tryz.prog 109 #[.pointer (some ⟨b, 0, none⟩)] w (fun e w' => e = .returned (.tuple #[]) ∧ Ik B W b en m0 m1 m2 g (p.1, ps p.2) Z w') := by
  obtain ⟨r, Z', hr, back⟩ := h.rd
  have C : Calls Tryz.prog 109 #[.pointer (some ⟨b, 0, none⟩)] w (fun e w' => e = .returned (.tuple #[]) ∧ Rd B W b en m0 m1 m2 r (ps p.2) Z' w') := pass_any hr
  exact C.mono fun e w' ⟨h1, h2⟩ => ⟨h1, back _ _ (as_ps _) h2⟩
theorem Ik.refuse3 (h : Ik B W b en m0 m1 m2 g p Z w) (t : Tok) : Calls Tryz.prog 65 #[.pointer (some ⟨b, 0, none⟩), .int .i64 3, tkV t] w (fun e w' => e = .returned (.tuple #[]) ∧ Ik B W b en m0 m1 m2 g (p.1, bd 3 t p.2) Z w') := by
  obtain ⟨r, Z', hr, back⟩ := h.rd
  have C : Calls Tryz.prog 65 #[.pointer (some ⟨b, 0, none⟩), .int .i64 3, tkV t] w (fun e w' => e = .returned (.tuple #[]) ∧ Rd B W b en m0 m1 m2 r (bd 3 t p.2) Z' w') := Go.Proofs.YtjomihlnjobndaaGreatDoor.refuse3 hr t
  exact C.mono fun e w' ⟨h1, h2⟩ => ⟨h1, back _ _ (as_bd _ _ _) h2⟩
theorem Ik.refuse5 (h : Ik B W b en m0 m1 m2 g p Z w) (t : Tok) : Calls Tryz.prog 65 #[.pointer (some ⟨b, 0, none⟩), .int .i64 5, tkV t] w (fun e w' => e = .returned (.tuple #[]) ∧ Ik B W b en m0 m1 m2 g (p.1, bd 5 t p.2) Z w') := by
  obtain ⟨r, Z', hr, back⟩ := h.rd
  have C : Calls Tryz.prog 65 #[.pointer (some ⟨b, 0, none⟩), .int .i64 5, tkV t] w (fun e w' => e = .returned (.tuple #[]) ∧ Rd B W b en m0 m1 m2 r (bd 5 t p.2) Z' w') := Go.Proofs.YtjomihlnjobndaaGreatDoor.refuse5 hr t
  exact C.mono fun e w' ⟨h1, h2⟩ => ⟨h1, back _ _ (as_bd _ _ _) h2⟩
theorem Ik.refuse6 (h : Ik B W b en m0 m1 m2 g p Z w) (t : Tok) : Calls Tryz.prog 65 #[.pointer (some ⟨b, 0, none⟩), .int .i64 6, tkV t] w (fun e w' => e = .returned (.tuple #[]) ∧ Ik B W b en m0 m1 m2 g (p.1, bd 6 t p.2) Z w') := by
  obtain ⟨r, Z', hr, back⟩ := h.rd
  have C : Calls Tryz.prog 65 #[.pointer (some ⟨b, 0, none⟩), .int .i64 6, tkV t] w (fun e w' => e = .returned (.tuple #[]) ∧ Rd B W b en m0 m1 m2 r (bd 6 t p.2) Z' w') := Go.Proofs.YtjomihlnjobndaaGreatDoor.refuse6 hr t
  exact C.mono fun e w' ⟨h1, h2⟩ => ⟨h1, back _ _ (as_bd _ _ _) h2⟩
theorem Ik.refuse8 (h : Ik B W b en m0 m1 m2 g p Z w) (t : Tok) : Calls Tryz.prog 65 #[.pointer (some ⟨b, 0, none⟩), .int .i64 8, tkV t] w (fun e w' => e = .returned (.tuple #[]) ∧ Ik B W b en m0 m1 m2 g (p.1, bd 8 t p.2) Z w') := by
  obtain ⟨r, Z', hr, back⟩ := h.rd
  have C : Calls Tryz.prog 65 #[.pointer (some ⟨b, 0, none⟩), .int .i64 8, tkV t] w (fun e w' => e = .returned (.tuple #[]) ∧ Rd B W b en m0 m1 m2 r (bd 8 t p.2) Z' w') := Go.Proofs.YtjomihlnjobndaaGreatDoor.refuse8 hr t
  exact C.mono fun e w' ⟨h1, h2⟩ => ⟨h1, back _ _ (as_bd _ _ _) h2⟩
theorem Ik.passed (h : Ik B W b en m0 m1 m2 g p Z w) (k : Nat) (x : Tx) (ki : Int) (xi : ByteArray) (ek : ki = (k : Int)) (ex : xi = str x) : Calls Tryz.prog 61 #[.pointer (some ⟨b, 0, none⟩), .int .i64 ki, .string xi] w (fun e w' => e = .returned (.bool (isTk k x (nx en p.2))) ∧ Ik B W b en m0 m1 m2 g (p.1, sPassed en k x p.2) Z w') := by
  obtain ⟨r, Z', hr, back⟩ := h.rd
  have C : Calls Tryz.prog 61 #[.pointer (some ⟨b, 0, none⟩), .int .i64 ki, .string xi] w (fun e w' => e = .returned (.bool (isTk k x (nx en p.2))) ∧ Rd B W b en m0 m1 m2 r (sPassed en k x p.2) Z' w') := (by rw [ek, ex]; exact passed_any hr k x)
  exact C.mono fun e w' ⟨h1, h2⟩ => ⟨h1, back _ _ (as_passed _ _ _ _) h2⟩
theorem Ik.want (h : Ik B W b en m0 m1 m2 g p Z w) (k : Nat) (ki : Int) (ek : ki = (k : Int)) : Calls Tryz.prog 141 #[.pointer (some ⟨b, 0, none⟩), .int .i64 ki] w (fun e w' => e = .returned (tkV (nx en p.2)) ∧ Ik B W b en m0 m1 m2 g (p.1, sWant en k p.2) Z w') := by
  obtain ⟨r, Z', hr, back⟩ := h.rd
  have C : Calls Tryz.prog 141 #[.pointer (some ⟨b, 0, none⟩), .int .i64 ki] w (fun e w' => e = .returned (tkV (nx en p.2)) ∧ Rd B W b en m0 m1 m2 r (sWant en k p.2) Z' w') := (by rw [ek]; exact want_any hr k)
  exact C.mono fun e w' ⟨h1, h2⟩ => ⟨h1, back _ _ (as_want _ _ _) h2⟩
theorem Ik.wantMark (h : Ik B W b en m0 m1 m2 g p Z w) (x : Tx) (xi : ByteArray) (ex : xi = str x) : Calls Tryz.prog 176 #[.pointer (some ⟨b, 0, none⟩), .string xi] w (fun e w' => e = .returned (.tuple #[]) ∧ Ik B W b en m0 m1 m2 g (p.1, sThis en 5 x p.2) Z w') := by
  obtain ⟨r, Z', hr, back⟩ := h.rd
  have C : Calls Tryz.prog 176 #[.pointer (some ⟨b, 0, none⟩), .string xi] w (fun e w' => e = .returned (.tuple #[]) ∧ Rd B W b en m0 m1 m2 r (sThis en 5 x p.2) Z' w') := (by rw [ex]; exact wantMark_any hr x)
  exact C.mono fun e w' ⟨h1, h2⟩ => ⟨h1, back _ _ (as_this _ _ _ _) h2⟩
theorem Ik.wantWord (h : Ik B W b en m0 m1 m2 g p Z w) (x : Tx) (xi : ByteArray) (ex : xi = str x) : Calls Tryz.prog 198 #[.pointer (some ⟨b, 0, none⟩), .string xi] w (fun e w' => e = .returned (.tuple #[]) ∧ Ik B W b en m0 m1 m2 g (p.1, sThis en 1 x p.2) Z w') := by
  obtain ⟨r, Z', hr, back⟩ := h.rd
  have C : Calls Tryz.prog 198 #[.pointer (some ⟨b, 0, none⟩), .string xi] w (fun e w' => e = .returned (.tuple #[]) ∧ Rd B W b en m0 m1 m2 r (sThis en 1 x p.2) Z' w') := (by rw [ex]; exact wantWord_any hr x)
  exact C.mono fun e w' ⟨h1, h2⟩ => ⟨h1, back _ _ (as_this _ _ _ _) h2⟩
theorem Ik.wantLineEnd (h : Ik B W b en m0 m1 m2 g p Z w)  : Calls Tryz.prog 113 #[.pointer (some ⟨b, 0, none⟩)] w (fun e w' => e = .returned (.tuple #[]) ∧ Ik B W b en m0 m1 m2 g (p.1, sWant en 6 p.2) Z w') := by
  obtain ⟨r, Z', hr, back⟩ := h.rd
  have C : Calls Tryz.prog 113 #[.pointer (some ⟨b, 0, none⟩)] w (fun e w' => e = .returned (.tuple #[]) ∧ Rd B W b en m0 m1 m2 r (sWant en 6 p.2) Z' w') := wantLineEnd_any hr
  exact C.mono fun e w' ⟨h1, h2⟩ => ⟨h1, back _ _ (as_want _ _ _) h2⟩
theorem Ik.wantBlock (h : Ik B W b en m0 m1 m2 g p Z w) (Kk : Kn B W en) : Calls Tryz.prog 213 #[.pointer (some ⟨b, 0, none⟩)] w (fun e w' => e = .returned (.int .i64 (vBlock en p.2)) ∧ Ik B W b en m0 m1 m2 g (p.1, sBlock en p.2) Z w') := by
  obtain ⟨r, Z', hr, back⟩ := h.rd
  have C : Calls Tryz.prog 213 #[.pointer (some ⟨b, 0, none⟩)] w (fun e w' => e = .returned (.int .i64 (vBlock en p.2)) ∧ Rd B W b en m0 m1 m2 r (sBlock en p.2) Z' w') := wantBlock_any Kk hr
  exact C.mono fun e w' ⟨h1, h2⟩ => ⟨h1, back _ _ (as_block _ _) h2⟩
theorem Ik.wantType (h : Ik B W b en m0 m1 m2 g p Z w) (Kk : Kn B W en) : Calls Tryz.prog 148 #[.pointer (some ⟨b, 0, none⟩)] w (fun e w' => e = .returned (.int .i64 (vType en p.2)) ∧ Ik B W b en m0 m1 m2 g (p.1, sType en p.2) Z w') := by
  obtain ⟨r, Z', hr, back⟩ := h.rd
  have C : Calls Tryz.prog 148 #[.pointer (some ⟨b, 0, none⟩)] w (fun e w' => e = .returned (.int .i64 (vType en p.2)) ∧ Rd B W b en m0 m1 m2 r (sType en p.2) Z' w') := wantType_any Kk hr
  exact C.mono fun e w' ⟨h1, h2⟩ => ⟨h1, back _ _ (as_type _ _) h2⟩
theorem Ik.wantSize (h : Ik B W b en m0 m1 m2 g p Z w) (Kk : Kn B W en) : Calls Tryz.prog 112 #[.pointer (some ⟨b, 0, none⟩)] w (fun e w' => e = .returned (.int .i64 (vSize en p.2)) ∧ Ik B W b en m0 m1 m2 g (p.1, sSize en p.2) Z w') := by
  obtain ⟨r, Z', hr, back⟩ := h.rd
  have C : Calls Tryz.prog 112 #[.pointer (some ⟨b, 0, none⟩)] w (fun e w' => e = .returned (.int .i64 (vSize en p.2)) ∧ Rd B W b en m0 m1 m2 r (sSize en p.2) Z' w') := wantSize_any Kk hr
  exact C.mono fun e w' ⟨h1, h2⟩ => ⟨h1, back _ _ (as_size _ _) h2⟩
end
end Go.Proofs.YtjomihlnjobndaaGreatDoor
