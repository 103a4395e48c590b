/- The program's numerals, joined lists, words of types, registers, blocks. -/
import Derived.Test.YtmampoakdjjbiaaGreatDoorSpU
import Derived.Test.YtmampoakdjjbiaaGreatDoorSpLen
import Derived.Test.YtmampoakdjjbiaaGreatDoorShelf
import Derived.Lib.AppendIntMem
namespace Go.Proofs.YtmampoakdjjbiaaGreatDoor
open Go.RowKit Go.Maps Go.Sort
set_option linter.unusedVariables false
set_option linter.unusedSimpArgs false

/-- The table of powers that numerals read. -/
def TabOk (W : World) : Prop := Lib.TabIs Tryz.prog W "internal/strconv.uint64pow10" .u64 Lib.pow10Tab
theorem TabOk.later {W w : World} (h : TabOk W) (hb : Below W.heap.size W w) : TabOk w := by
  unfold TabOk Lib.TabIs World.var? at *
  cases hg : Tryz.prog.globalNamed "internal/strconv.uint64pow10" with
  | none => simp [hg] at h
  | some g =>
    simp only [hg, Option.bind_some] at h ⊢
    have hlt : g < W.heap.size := by
      rcases Nat.lt_or_ge g W.heap.size with h' | h'
      · exact h'
      · rw [Array.getElem?_eq_none h'] at h; simp at h
    rw [hb.block g hlt]
    exact h
theorem itoa_any (k : Nat) (hk : k ≤ 9223372036854775807) (W : World) (hT : TabOk W) : Calls Tryz.prog 33 #[.int .i64 (k : Int)] W (StrV (mkS (Lib.decDigits k)) W) := by
  refine (Tryz.strconv_Itoa (k : Int) (by omega) (by omega) W hT).mono ?_
  rintro e w' ⟨rfl, n, os, rfl⟩
  refine ⟨?_, Lib.below_grow _ _ (Nat.le_refl _) _ _⟩
  rw [Lib.itoa_nonneg]
  rfl
set_option maxHeartbeats 2000000 in
set_option maxRecDepth 100000 in
theorem ufmt_any (u : Nat) (hu : u < 18446744073709551616) (W : World) (hT : TabOk W) : Calls Tryz.prog 139 #[.int .u64 (u : Int), .int .i64 10] W (StrV (mkS (Lib.decDigits u)) W) := by
  by_cases hs : u < 100
  · have c := fun w => Tryz.internal_strconv_small u hs w
    have hw1 : IntKind.i64.wrap (u : Int) = (u : Int) := by rw [IntKind.wrap_i64]; omega
    go_enter Tryz.func139, Tryz.ntmps139
    go_wp2_with fail
    refine (c _).mono ?_
    rintro e w' ⟨rfl, rfl⟩
    go_wp2_with fail
    go_ret
    exact ⟨rfl, Below.refl _ _⟩
  · have hu1 : 1 ≤ u := by omega
    have hnd20 : Lib.nDigits u ≤ 20 := by have := Lib.numDigits_eq u hu1 hu; split at this <;> omega
    have hb3 : Lib.nDigits u ≤ 24 := by omega
    have hal : Tryz.prog.arrayLen 129 = 24 := by kernel_rfl
    have hH0 := Lib.holds_zero0 W 129 (Lib.nDigits u) (by omega)
    have hfmt := Tryz.internal_strconv_formatBase10 W.heap.size 0 24 u (Array.replicate (Lib.nDigits u) 0) (W.alloc (.cells Lib.zeros24 129)) hH0 (by rw [Array.size_replicate]; exact Lib.lt_pow_nDigits u) hu (by rw [Array.size_replicate]; omega)
    rw [Array.size_replicate] at hfmt
    have hnd := fun w h => Tryz.internal_strconv_numDigits u hu1 hu w h
    have HH0 := Lib.hid hH0
    have hsl1 : ∀ w, (Instr.sliceAt 129 (.pointer (some ⟨W.heap.size, 0, none⟩)) none (some (.int .i64 (Lib.nDigits u : Int))) none).run Tryz.prog w = .ok (.slice (some ⟨W.heap.size, 0, none⟩) (Lib.nDigits u) 24) w := fun w => by
      rw [run_sliceAt_array_h w 129 ⟨W.heap.size, 0, none⟩ Tryz.underlying129 .i64 (Lib.nDigits u : Int) (by omega) (by rw [hal]; omega)]
      go_simp
    have HU := Lib.hid hs
    have HT := Lib.hid hT
    have hul : ¬ ((u : Int) < 100) := by omega
    clear hH0 hal hs hT
    go_enter Tryz.func139, Tryz.ntmps139
    go_wp2_with fail
    refine (hnd _ (Lib.tabIs_alloc HT.out _)).mono ?_
    rintro e w' ⟨rfl, rfl⟩
    go_wp2_with fail
    refine hfmt.mono ?_
    rintro e w' ⟨rfl, k, v', dk, rfl, hF⟩
    have hcv : (convert 67 9 (.slice (some ⟨W.heap.size, 0, none⟩) (Lib.nDigits u) 24)).run Tryz.prog ((putRow (fun (b : UInt8) => Value.int .u8 (b.toNat : Int)) (W.alloc (.cells Lib.zeros24 129)) W.heap.size 0 dk).drewN k) = .ok (.string (mkS (Lib.decDigits u))) ((putRow (fun (b : UInt8) => Value.int .u8 (b.toNat : Int)) (W.alloc (.cells Lib.zeros24 129)) W.heap.size 0 dk).drewN k) := by
      have h := run_convert_bytes_back (P := Tryz.prog) ((putRow (fun (b : UInt8) => Value.int .u8 (b.toNat : Int)) (W.alloc (.cells Lib.zeros24 129)) W.heap.size 0 dk).drewN k) 67 9 5 ⟨W.heap.size, 0, none⟩ 24 (Lib.decDigits u) Tryz.underlying67 Tryz.underlying5 Tryz.underlying9 (fun j hj => by
        rw [Lib.row_is_numeral hF j hj, Lib.add_plain, World.cell?_drewN]
        exact cell?_putRow (fun (b : UInt8) => Value.int .u8 (b.toNat : Int)) _ W.heap.size 0 _ dk HH0.out (by rw [hF.size, Array.size_replicate]) j (by rw [hF.size]; rw [Lib.decDigits_length] at hj; exact hj))
      rw [Lib.decDigits_length] at h
      exact h
    go_wp2_with fail
    go_ret
    refine ⟨rfl, ?_⟩
    rw [alloc_eq_grow]
    obtain ⟨os', _, e⟩ := putRow_grow_new (fun (b : UInt8) => Value.int .u8 (b.toNat : Int)) W #[.cells Lib.zeros24 129] W.heap.size 0 dk (Nat.le_refl _)
    rw [e]
    exact Lib.below_grow _ _ (Nat.le_refl _) _ _
set_option maxRecDepth 100000 in
theorem formatUint_any (u : Nat) (hu : u < 18446744073709551616) (W : World) (hT : TabOk W) : Calls Tryz.prog 134 #[.int .u64 (u : Int), .int .i64 10] W (StrV (mkS (Lib.decDigits u)) W) := by
  have c := ufmt_any u hu W hT
  obtain ⟨s, es⟩ : ∃ s, mkS (Lib.decDigits u) = s := ⟨_, rfl⟩
  rw [es] at c ⊢
  clear es hT
  go_enter Tryz.func134, Tryz.ntmps134
  go_wp2_with fail
  refine c.mono ?_
  rintro e w2 ⟨rfl, hb⟩
  have HB := Lib.hid hb
  clear hb c
  go_wp2_with fail
  go_ret
  exact ⟨rfl, HB.out⟩
/-- A list of strings in memory. -/
def SL (W : World) (v : Value) (xs : List ByteArray) : Prop :=
  (xs = [] ∧ ∃ p c, v = .slice p 0 c) ∨ ∃ g c, v = .slice (some ⟨g, 0, none⟩) xs.length c ∧ xs.length ≤ c ∧ c ≤ maxLen ∧ g < W.heap.size ∧ ∀ j x, xs[j]? = some x → W.cell? ⟨g, j, none⟩ = some (.string x)
theorem SL.later {W w : World} {v : Value} {xs : List ByteArray} (h : SL W v xs) (hb : Below W.heap.size W w) : SL w v xs := by
  rcases h with h | ⟨g, c, h1, h2, h3, h4, h5⟩
  · exact .inl h
  · exact .inr ⟨g, c, h1, h2, h3, Nat.lt_of_lt_of_le h4 hb.size, fun j x hj => (hb.cell (p := ⟨g, j, none⟩) h4).trans (h5 j x hj)⟩
theorem SL.slice {W : World} {v : Value} {xs : List ByteArray} (h : SL W v xs) : ∃ p c, v = .slice p xs.length c := by
  rcases h with ⟨rfl, p, c, rfl⟩ | ⟨g, c, h1, _⟩
  · exact ⟨p, c, rfl⟩
  · exact ⟨_, c, h1⟩
theorem join_sep (sep : Tx) : ∀ l : List Tx, Lib.join l sep = sepBy sep l
  | [] => rfl
  | [x] => by simp [Lib.join, sepBy]
  | x :: y :: l => by
    have h := join_sep sep (y :: l)
    unfold Lib.join at h ⊢
    rw [List.intercalate_cons_cons, h]
    simp [sepBy]
set_option maxRecDepth 100000 in
theorem list_any (v : Value) (xs : List ByteArray) (W : World) (h : SL W v xs) (hn : xs.length ≤ 140737488355328) (hlen : (listT (xs.map byt)).length ≤ 140737488355328) : Calls Tryz.prog 77 #[v] W (StrV (mkS (listT (xs.map byt))) W) := by
  have c : Calls Tryz.prog 104 #[v, .string ⟨#[44, 32]⟩] W (StrV (mkS (listT (xs.map byt))) W) := by
    rcases h with ⟨rfl, p, c, rfl⟩ | ⟨g, c, rfl, h2, h3, h4, h5⟩
    · exact (Tryz.strings_Join_none p c _ W).mono fun e w' ⟨he, hw⟩ => ⟨he, hw ▸ Below.refl _ _⟩
    · have e : Lib.join (xs.map (·.data.toList)) (⟨#[44, 32]⟩ : ByteArray).data.toList = listT (xs.map byt) := join_sep _ _
      have := Tryz.strings_Join g 0 c xs ⟨#[44, 32]⟩ W (fun j x hj => by rw [Nat.zero_add]; exact h5 j x hj) h4 hn h2 (by rw [e]; exact hlen)
      rw [e] at this
      exact this
  obtain ⟨p, cc, rfl⟩ := h.slice
  obtain ⟨s, es⟩ : ∃ s, mkS (listT (xs.map byt)) = s := ⟨_, rfl⟩
  rw [es] at c ⊢
  clear es h hlen
  obtain ⟨n, en⟩ : ∃ n, xs.length = n := ⟨_, rfl⟩
  rw [en] at c ⊢
  clear en
  go_enter Tryz.func77, Tryz.ntmps77
  go_wp2_with fail
  refine c.mono ?_
  rintro e w2 ⟨rfl, hb⟩
  have HB := Lib.hid hb
  clear hb c
  go_wp2_with fail
  go_ret
  exact ⟨rfl, HB.out⟩
set_option maxRecDepth 100000 in
theorem sRegister_any (k : Nat) (hk : k ≤ 9223372036854775807) (W : World) (hT : TabOk W) : Calls Tryz.prog 106 #[.int .i64 (k : Int)] W (StrV (mkS (regT (k : Int))) W) := by
  have c := itoa_any k hk W hT
  have HF : Hid (⟨#[37]⟩ ++ mkS (Lib.decDigits k) = mkS (regT (k : Int))) := Lib.hid (by rw [show (⟨#[37]⟩ : ByteArray) = mkS [37] from rfl, mkS_app]; rfl)
  have hl : (mkS (Lib.decDigits k)).size ≤ 20 := by rw [size_mkS]; exact dec_20 (by omega)
  obtain ⟨s, es⟩ : ∃ s, mkS (Lib.decDigits k) = s := ⟨_, rfl⟩
  obtain ⟨T, eT⟩ : ∃ T, mkS (regT (k : Int)) = T := ⟨_, rfl⟩
  rw [eT] at HF ⊢
  rw [es] at c hl HF
  clear es eT hT
  go_enter Tryz.func106, Tryz.ntmps106
  go_wp2_with fail
  refine c.mono ?_
  rintro e w2 ⟨rfl, hb⟩
  have HB := Lib.hid hb
  clear hb c
  go_wp2_with fail
  go_ret
  exact ⟨by rw [← HF.out]; rfl, HB.out⟩
set_option maxRecDepth 100000 in
theorem sBlock_any (k : Nat) (hk : k ≤ 9223372036854775807) (W : World) (hT : TabOk W) : Calls Tryz.prog 79 #[.int .i64 (k : Int)] W (StrV (mkS (blockT (k : Int))) W) := by
  have c := itoa_any k hk W hT
  have HF : Hid (⟨#[98]⟩ ++ mkS (Lib.decDigits k) = mkS (blockT (k : Int))) := Lib.hid (by rw [show (⟨#[98]⟩ : ByteArray) = mkS [98] from rfl, mkS_app]; rfl)
  have hl : (mkS (Lib.decDigits k)).size ≤ 20 := by rw [size_mkS]; exact dec_20 (by omega)
  obtain ⟨s, es⟩ : ∃ s, mkS (Lib.decDigits k) = s := ⟨_, rfl⟩
  obtain ⟨T, eT⟩ : ∃ T, mkS (blockT (k : Int)) = T := ⟨_, rfl⟩
  rw [eT] at HF ⊢
  rw [es] at c hl HF
  clear es eT hT
  go_enter Tryz.func79, Tryz.ntmps79
  go_wp2_with fail
  refine c.mono ?_
  rintro e w2 ⟨rfl, hb⟩
  have HB := Lib.hid hb
  clear hb c
  go_wp2_with fail
  go_ret
  exact ⟨by rw [← HF.out]; rfl, HB.out⟩
set_option maxRecDepth 100000 in
theorem sType_any (t : Int) (W : World) (hT : TabOk W) : Calls Tryz.prog 12 #[.int .i64 t] W (StrV (mkS (typeT t)) W) := by
  have ct := isType_any t W
  by_cases h0 : t = 0
  · subst h0
    go_enter Tryz.func12, Tryz.ntmps12
    go_wp2_with fail
    go_ret
    exact ⟨rfl, Below.refl _ _⟩
  have d0 : (t == (0 : Int)) = false := by simp; exact h0
  by_cases h1 : t = 65
  · subst h1
    go_enter Tryz.func12, Tryz.ntmps12
    go_wp2_with fail
    go_ret
    exact ⟨rfl, Below.refl _ _⟩
  have d1 : (t == (65 : Int)) = false := by simp; exact h1
  by_cases h2 : 0 < t ∧ t < 65
  · rw [show tyB t = true by unfold tyB; simp; omega] at ct
    obtain ⟨k, rfl⟩ : ∃ k : Nat, t = k := ⟨t.toNat, by omega⟩
    have HF : Hid (⟨#[105]⟩ ++ mkS (Lib.decDigits k) = mkS (typeT (k : Int))) := Lib.hid (by
      rw [show (⟨#[105]⟩ : ByteArray) = mkS [105] from rfl, mkS_app]
      unfold typeT
      rw [if_neg h0, if_neg h1, if_pos h2]
      rfl)
    have c := itoa_any k (by omega) W hT
    have hk : k < 65 := by omega
    have hl : (mkS (Lib.decDigits k)).size ≤ 20 := by rw [size_mkS]; exact dec_20 (by omega)
    obtain ⟨s, es⟩ : ∃ s, mkS (Lib.decDigits k) = s := ⟨_, rfl⟩
    obtain ⟨T, eT⟩ : ∃ T, mkS (typeT (k : Int)) = T := ⟨_, rfl⟩
    rw [eT] at HF ⊢
    rw [es] at c hl HF
    clear h0 h1 h2 es eT hT
    have C := Lib.hid c
    clear c
    go_enter Tryz.func12, Tryz.ntmps12
    go_wp2_with fail
    refine ct.mono ?_
    rintro e w1 ⟨rfl, rfl⟩
    go_wp2_with fail
    refine C.out.mono ?_
    rintro e w1 ⟨rfl, hb⟩
    have HB := Lib.hid hb
    clear hb
    go_wp2_with fail
    go_ret
    exact ⟨by rw [← HF.out]; rfl, HB.out⟩
  · rw [show tyB t = false by unfold tyB; simp; omega] at ct
    have hty : typeT t = [] := by
      unfold typeT
      rw [if_neg h0, if_neg h1, if_neg h2]
    rw [hty]
    clear h0 h1 h2 hty hT
    go_enter Tryz.func12, Tryz.ntmps12
    go_wp2_with fail
    refine ct.mono ?_
    rintro e w1 ⟨rfl, rfl⟩
    go_wp2_with fail
    go_ret
    exact ⟨rfl, Below.refl _ _⟩
end Go.Proofs.YtmampoakdjjbiaaGreatDoor
