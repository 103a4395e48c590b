/- For any text: it is a word just if it is one piece of that kind: lathelaw03.LexWords returns true, and leaves its argument as it was. No conditions but those of the row. -/
import Derived.Test.YtombkcdoeiffiaaDoorLexF
import Derived.Test.YtombkcdoeiffiaaDoorLexN
import Derived.Deep.QuietTactic
import Derived.BigQuiet
namespace Go.Proofs.YtombkcdoeiffiaaDoor
open Go.RowKit Go.Maps
set_option linter.unusedVariables false
set_option linter.unusedSimpArgs false

theorem lexed_code {l line col ts f} (h : Lexed l line col ts f) : ∀ x, f = some x → x.code = 1 ∨ x.code = 2 := by
  induction h with
  | done _ => intro x h; cases h
  | bad _ h1 => intro x h; injection h with h; subst h; exact first_bad h1
  | step _ _ _ ih => exact ih
theorem toks_code {l ts x} (h : Toks l ts (some x)) : 0 < x.code ∧ ts = [] ∧ x.code ≤ 6 := by
  rcases h with ⟨_, h1, h2⟩ | ⟨_, t, h1, h2⟩
  · injection h2 with h2; subst h2; exact ⟨by decide, h1, by decide⟩
  · rcases lexed_code h1 x rfl with h3 | h3
    · exact ⟨by omega, by simpa using h2, by omega⟩
    · exact ⟨by omega, by simpa using h2, by omega⟩
theorem word_false {l : List UInt8} {ts : List Tok} {f : Option Flt} (h : Toks l ts f) (hl : l.length ≤ 65536) (hn : ∀ t, f = none → ts = [t] → ¬ (t.kind = 1 ∧ t.body = l)) : (decide (0 < l.length) && decide (wordSize l = l.length)) = false := by
  rw [Bool.eq_false_iff]
  intro hb
  simp at hb
  have h2 := word_lexed l hb.1 hb.2
  obtain ⟨h3, h4⟩ := h.unique (.inr ⟨hl, _, h2, rfl⟩)
  subst h4
  exact hn _ rfl h3 ⟨rfl, rfl⟩
theorem word_true {l : List UInt8} {t : Tok} (h : Toks l [t] none) (hk : t.kind = 1) (hb : t.body = l) : (decide (0 < l.length) && decide (wordSize l = l.length)) = true := by
  rcases h with ⟨_, h1, _⟩ | ⟨_, ts, h1, h2⟩
  · cases h1
  · simp at h2
    subst h2
    obtain ⟨h3, h4⟩ := lexed_word h1 hk hb
    simp [h4, h3]

theorem Past.drewN {B : Nat} {W w : World} (h : Past B W w) (n : Nat) : Past B W (w.drewN n) := ⟨h.1, ⟨h.2.os, h.2.tape, h.2.output, h.2.size, h.2.block⟩⟩
theorem row_shape {w : World} {B e s n : Nat} {v : Value} {xs : List Value} (h : w.ownsRow B e s v n xs) : ∃ (p : Option Addr) (cap : Nat), v = .slice p n cap := by
  rcases h.2 with ⟨rfl, rfl⟩ | ⟨g, cap, cur, rfl, _⟩
  · exact ⟨none, 0, rfl⟩
  · exact ⟨_, cap, rfl⟩
set_option maxHeartbeats 4000000 in
theorem words_walk (s : ByteArray) (hs : s.size ≤ 281474976710656) (W : World) (hE : Errs W) :
    Calls Tryd.prog 7 #[.string s] W fun e w' => e = .returned (.bool true) ∧ Below W.heap.size W w' := by
  have hP := Past.refl (Nat.le_refl W.heap.size)
  have cl := lives_any W hE
  by_cases h1 : (60000 : Int) < (s.size : Int)
  · go_enter Tryd.func7, Tryd.ntmps7
    go_wp2_with ((with_reducible refine cl.mono ?_); rintro e w1 ⟨rfl, hb1⟩)
    go_ret
    exact ⟨rfl, hb1⟩
  · have c1 := fun W hE => Tokens_any s (by omega) W hE
    have cw := Word_any s (by omega)
    rw [Lib.size_eq] at cw
    have hsl : s.data.toList.length ≤ 65536 := by rw [← Lib.size_eq]; omega
    go_enter Tryd.func7, Tryd.ntmps7
    go_wp2_with ((with_reducible refine cl.mono ?_); rintro e w1 ⟨rfl, hb1⟩)
    refine (c1 _ (hE.below hb1 (Nat.le_refl _))).mono ?_
    rintro e w2 ⟨ts, f, v, ht, rfl, hb2, hr⟩
    have P2 := (hP.on hb1).on hb2
    cases f with
    | some x =>
      obtain ⟨hc, rfl, _⟩ := toks_code ht
      rw [word_false ht hsl (fun t h => by cases h)] at cw
      have hc0 : ((x.code : Int) == 0) = false := by simp; omega
      unfold fltV
      obtain ⟨z, d0, d1, d2, _⟩ := Three.new w2 (.int .i64 x.code) (.int .i64 x.line) (.int .i64 x.col) 26
      go_wp2_with fail
      go_quiet (with_reducible exact Calls.quiet_of_same (cw _))
      go_wp2_with fail
      go_ret
      exact ⟨rfl, ((P2.alloc _).drewN _).2⟩
    | none =>
      obtain ⟨z, d0, d1, d2, _⟩ := Three.new w2 (.int .i64 0) (.int .i64 0) (.int .i64 0) 26
      unfold fltV
      match ts, ht, hr with
      | [], ht, hr =>
        rw [word_false ht hsl (fun t _ h => by cases h)] at cw
        obtain ⟨pp, cap, rfl⟩ := row_shape hr
        go_wp2_with fail
        go_quiet (with_reducible exact Calls.quiet_of_same (cw _))
        go_wp2_with fail
        go_ret
        exact ⟨rfl, ((P2.alloc _).drewN _).2⟩
      | t :: t' :: r, ht, hr =>
        rw [word_false ht hsl (fun t _ h => by cases h)] at cw
        have h2 : 2 ≤ (t :: t' :: r).length := by simp
        generalize (t :: t' :: r).length = n at hr h2
        obtain ⟨pp, cap, rfl⟩ := row_shape hr
        have hn1 : ((n : Int) == 1) = false := by simp; omega
        go_wp2_with fail
        go_quiet (with_reducible exact Calls.quiet_of_same (cw _))
        go_wp2_with fail
        go_ret
        exact ⟨rfl, ((P2.alloc _).drewN _).2⟩
      | [t], ht, hr =>
        obtain ⟨g, cap, rfl, hg1, hg2⟩ := hr.form (by simp)
        have r0 := row_at hr 0 (by simp)
        obtain ⟨k0, k1, k2, k3⟩ := r0
        by_cases hk : t.kind = 1
        · by_cases hbd : t.body = s.data.toList
          · have hs2 : str t.body = s := by rw [hbd, str_data]
            rw [word_true ht hk hbd] at cw
            have k0' : w2.cell? ⟨g, 0, none⟩ = some (.int .i64 1) := by rw [← Nat.zero_mul 4]; rw [k0]; simp [hk]
            have k1' : w2.cell? ⟨g, 1, none⟩ = some (.string s) := by rw [← Nat.zero_add 1, ← Nat.zero_mul 4]; rw [k1]; simp [hs2]
            clear k0 k1 k2 k3 hbd hs2 hk
            go_wp2_with fail
            go_quiet (with_reducible exact Calls.quiet_of_same (cw _))
            go_wp2_with fail
            go_ret
            exact ⟨rfl, ((P2.alloc _).drewN _).2⟩
          · rw [word_false ht hsl (fun t' _ h => by injection h with h; subst h; exact fun h => hbd h.2)] at cw
            have k0' : w2.cell? ⟨g, 0, none⟩ = some (.int .i64 1) := by rw [← Nat.zero_mul 4]; rw [k0]; simp [hk]
            have k1' : w2.cell? ⟨g, 1, none⟩ = some (.string (str t.body)) := by rw [← Nat.zero_add 1, ← Nat.zero_mul 4]; rw [k1]; rfl
            have hne : ((str t.body).toList == s.toList) = false := by
              rw [Lib.toList_data, Lib.toList_data]
              show (t.body == s.data.toList) = false
              simpa using hbd
            clear k0 k1 k2 k3 hbd hk
            go_wp2_with fail
            go_quiet (with_reducible exact Calls.quiet_of_same (cw _))
            go_wp2_with fail
            go_ret
            exact ⟨rfl, ((P2.alloc _).drewN _).2⟩
        · rw [word_false ht hsl (fun t' _ h => by injection h with h; subst h; exact fun h => hk h.1)] at cw
          have k0' : w2.cell? ⟨g, 0, none⟩ = some (.int .i64 t.kind) := by rw [← Nat.zero_mul 4]; rw [k0]; rfl
          have hk' : ((t.kind : Int) == 1) = false := by simp; omega
          go_wp2_with fail
          go_quiet (with_reducible exact Calls.quiet_of_same (cw _))
          go_wp2_with fail
          go_ret
          exact ⟨rfl, ((P2.alloc _).drewN _).2⟩
end Go.Proofs.YtombkcdoeiffiaaDoor
