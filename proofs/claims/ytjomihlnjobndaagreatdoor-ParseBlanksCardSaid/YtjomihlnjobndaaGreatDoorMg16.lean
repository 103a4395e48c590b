/- Several texts in one: PgZ1, PsRef, PsRefB, PsRefC, PsRefD, PsRefE, PsRefF, PgZ2. -/
import Derived.Test.YtjomihlnjobndaaGreatDoorMg15
/- The parser: the lines. -/
namespace Go.Proofs.YtjomihlnjobndaaGreatDoor
open Go.RowKit Go.Maps
set_option linter.unusedVariables false
set_option linter.unusedSimpArgs false

section
variable {en : Tok} (h6 : en.kind = 6)
include h6
theorem l2_body : ∀ (k : Nat) (q : List (List PIns) × RS), Le2 q.2 (iBody en k q).2
  | 0, q => l2_bd _ _ _
  | k + 1, q => by
    unfold iBody
    split
    · exact l2_bd _ _ _
    · rename_i f l hts
      have hn : tsl q.2 ≠ 0 := by unfold tsl; rw [hts]; simp
      split
      · exact (l2_ps q.2).trans (l2_body k _)
      · split
        · rename_i n hb
          have h1 := label_le (en := en) q.1.length n q.2 hn
          have h0 : Le2 q.2 (sLabel en q.1.length n q.2) := ⟨h1.1, by have := h1.2; omega⟩
          exact h0.trans (l2_body k _)
        · split
          · exact (l2_bd 3 f q.2).trans (l2_body k _)
          · split
            · exact (l2_ps q.2).trans (l2_want _ _ _)
            · split
              · exact (l2_bd 6 f q.2).trans (l2_body k _)
              · have h1 := instr_le h6 q.2 hn
                have h0 : Le2 q.2 (iInstr en q.2).2 := ⟨h1.1, by have := h1.2; omega⟩
                exact h0.trans (l2_body k (addLast q.1 (iInstr en q.2).1, (iInstr en q.2).2))
omit h6 in
theorem l2_global (p : PMod × RS) : Le2 p.2 (iGlobal en p).2 := (l2_name en _ _ p.2).trans ((l2_size en _).trans (l2_want _ _ _))
theorem l2_extern (p : PMod × RS) : Le2 p.2 (iExtern en p).2 := (l2_name en _ _ p.2).trans ((l2_types h6 _).trans (l2_want _ _ _))
theorem l2_func (p : PMod × RS) : Le2 p.2 (iFunc en p).2 := by
  have h1 : Le2 p.2 (sHead en p) := (l2_name en _ _ p.2).trans ((l2_types h6 _).trans (l2_want _ _ _))
  exact h1.trans (l2_body h6 _ ([], sHead en p))
end
theorem il_nil {en : Tok} {k : Nat} {p : PMod × RS} (h : p.2.ts = []) : iLines en (k + 1) p = p := by unfold iLines; rw [h]
theorem il_end {en : Tok} {k : Nat} {p : PMod × RS} {f : Tok} {l : List Tok} (h : p.2.ts = f :: l)  (c0 : isTk 6 [] f = true) : iLines en (k + 1) p = iLines en k (p.1, ps p.2) := by
  conv => lhs; unfold iLines
  rw [h]; simp only [c0, Bool.false_eq_true, if_false, if_true]
theorem il_global {en : Tok} {k : Nat} {p : PMod × RS} {f : Tok} {l : List Tok} (h : p.2.ts = f :: l) (c0 : isTk 6 [] f = false) (c1 : isTk 1 [103, 108, 111, 98, 97, 108] f = true) : iLines en (k + 1) p = iLines en k (iGlobal en (p.1, ps p.2)) := by
  conv => lhs; unfold iLines
  rw [h]; simp only [c0, c1, Bool.false_eq_true, if_false, if_true]
theorem il_extern {en : Tok} {k : Nat} {p : PMod × RS} {f : Tok} {l : List Tok} (h : p.2.ts = f :: l) (c0 : isTk 6 [] f = false) (c1 : isTk 1 [103, 108, 111, 98, 97, 108] f = false) (c2 : isTk 1 [101, 120, 116, 101, 114, 110] f = true) : iLines en (k + 1) p = iLines en k (iExtern en (p.1, ps p.2)) := by
  conv => lhs; unfold iLines
  rw [h]; simp only [c0, c1, c2, Bool.false_eq_true, if_false, if_true]
theorem il_func {en : Tok} {k : Nat} {p : PMod × RS} {f : Tok} {l : List Tok} (h : p.2.ts = f :: l) (c0 : isTk 6 [] f = false) (c1 : isTk 1 [103, 108, 111, 98, 97, 108] f = false) (c2 : isTk 1 [101, 120, 116, 101, 114, 110] f = false) (c3 : isTk 1 [102, 117, 110, 99] f = true) : iLines en (k + 1) p = iLines en k (iFunc en (p.1, ps p.2)) := by
  conv => lhs; unfold iLines
  rw [h]; simp only [c0, c1, c2, c3, Bool.false_eq_true, if_false, if_true]
theorem il_else {en : Tok} {k : Nat} {p : PMod × RS} {f : Tok} {l : List Tok} (h : p.2.ts = f :: l) (c0 : isTk 6 [] f = false) (c1 : isTk 1 [103, 108, 111, 98, 97, 108] f = false) (c2 : isTk 1 [101, 120, 116, 101, 114, 110] f = false) (c3 : isTk 1 [102, 117, 110, 99] f = false) : iLines en (k + 1) p = iLines en k (p.1, bd 3 f p.2) := by
  conv => lhs; unfold iLines
  rw [h]; simp only [c0, c1, c2, c3, Bool.false_eq_true, if_false, if_true]
section
variable {B b : Nat} {W w w' : World} {en : Tok} {mm : PMod} {s : RS} {Z Z' : As} {q : PMod × RS}
def mlen (m : PMod) : Nat := m.vs.length + m.xs.length + m.fs.length
/-- What is kept from round to round. -/
def Lk (en : Tok) (k0 : Nat) (q q' : PMod × RS) (k : Nat) : Prop :=
  tsl q'.2 < k ∧ iLines en k0 q = iLines en k q' ∧ sz q'.2 ≤ 300000 ∧ mlen q'.1 + tsl q'.2 ≤ 500000
theorem Lk.next {k0 k : Nat} {q q' q2 : PMod × RS} (h : Lk en k0 q q' (k + 1)) (e : iLines en (k + 1) q' = iLines en k q2) (h2 : sz q2.2 ≤ sz q'.2) (h3 : tsl q2.2 + 1 ≤ tsl q'.2) (h4 : mlen q2.1 ≤ mlen q'.1 + 1) : Lk en k0 q q2 k := by
  obtain ⟨a, c, d, f⟩ := h
  exact ⟨by omega, c.trans e, by omega, by omega⟩
theorem Mk.ends (h : Mk B W b en mm s Z w) : (∃ tp tc, w.cell? ⟨b, 0, none⟩ = some (.slice tp (tsl s) tc)) ∧ b < w.heap.size ∧ lenAt b w = tsl s := by
  obtain ⟨m0, m1, m2, r, Z', hr, _⟩ := h.rd
  have hlen := hr.len
  obtain ⟨_, _, tp, tn, tc, hs⟩ := hr
  have hb := hs.box
  have hn : tn = s.ts.length := hs.sat.2.1.1
  exact ⟨⟨tp, tc, by rw [hb.get 0 _ rfl, hn]; rfl⟩, hb.1, hlen⟩
set_option maxRecDepth 100000 in
set_option maxHeartbeats 8000000 in
theorem lines_any (K : Kn B W en) (k0 : Nat) (hk0 : tsl q.2 < k0) (hs0 : sz q.2 ≤ 300000) (hq0 : mlen q.1 + tsl q.2 ≤ 500000) (h : Mk B W b en q.1 q.2 Z w) :
    Calls Tryz.prog 22 #[.pointer (some ⟨b, 0, none⟩)] w (fun e w' => e = .returned (.tuple #[]) ∧ Mk B W b en (iLines en k0 q).1 (iLines en k0 q).2 Z w') := by
  have HK := Lib.hid K
  have H0 := Lib.hid (And.intro h (show Lk en k0 q q k0 from ⟨hk0, rfl, hs0, hq0⟩))
  clear h K hk0 hs0 hq0
  go_enter Tryz.func22, Tryz.ntmps22
  go_wp2_with fail
  go_loopw [2] (fun t2 wr => ∃ (q' : PMod × RS) (k : Nat), Mk B W b en q'.1 q'.2 Z wr ∧ Lk en k0 q q' k) (fun _ wr => lenAt b wr)
  case atStart => exact ⟨q, k0, H0.out.1, H0.out.2⟩
  case round =>
    obtain ⟨q', k, h, hk⟩ := hrel
    clear H0
    obtain ⟨k, rfl⟩ : ∃ k', k = k' + 1 := ⟨k - 1, by have := hk.1; omega⟩
    obtain ⟨⟨tp, tc, c0a⟩, bl, hlen⟩ := h.ends
    cases hts : q'.2.ts with
    | nil =>
      have hn : tsl q'.2 = 0 := by unfold tsl; rw [hts]; rfl
      rw [hn] at c0a
      have HH := Lib.hid (And.intro h (hk.2.1.trans (il_nil hts)))
      clear h hk hts hn hlen
      go_wp2_with fail
      go_end0
      rw [HH.out.2]
      exact ⟨rfl, HH.out.1⟩
    | cons f l =>
      have hn : tsl q'.2 ≠ 0 := by unfold tsl; rw [hts]; simp
      have hf := nx_cons (en := en) hts
      have hL0 : tsl (ps q'.2) + 1 ≤ tsl q'.2 := by unfold tsl ps at *; simp; omega
      have hS0 := sz_ps q'.2
      have hm1 : q'.1.vs.length ≤ 1000000 ∧ q'.1.xs.length ≤ 1000000 ∧ q'.1.fs.length ≤ 1000000 ∧ tsl (ps q'.2) ≤ 500000 ∧ sz (ps q'.2) ≤ 300000 := by
        obtain ⟨_, _, d, e⟩ := hk
        unfold mlen at e
        exact ⟨by omega, by omega, by omega, by omega, by omega⟩
      have hpos : (0 : Int) < (tsl q'.2 : Int) := by omega
      have C6 : ∀ {Z' : As} w1, Mk B W b en q'.1 q'.2 Z' w1 → Calls Tryz.prog 61 #[.pointer (some ⟨b, 0, none⟩), .int .i64 6, .string ⟨#[]⟩] w1 (fun e w' => e = .returned (.bool (isTk 6 [] f)) ∧ Mk B W b en q'.1 (if isTk 6 [] f then ps q'.2 else q'.2) Z' w') := fun w1 h1 => by
        have h9 := h1.passed 6 [] 6 ⟨#[]⟩ rfl rfl
        unfold sPassed at h9
        rw [hf] at h9
        exact h9
      have Cg : ∀ {Z' : As} w1, Mk B W b en q'.1 q'.2 Z' w1 → Calls Tryz.prog 61 #[.pointer (some ⟨b, 0, none⟩), .int .i64 1, .string ⟨#[103, 108, 111, 98, 97, 108]⟩] w1 (fun e w' => e = .returned (.bool (isTk 1 [103, 108, 111, 98, 97, 108] f)) ∧ Mk B W b en q'.1 (if isTk 1 [103, 108, 111, 98, 97, 108] f then ps q'.2 else q'.2) Z' w') := fun w1 h1 => by
        have h9 := h1.passed 1 [103, 108, 111, 98, 97, 108] 1 ⟨#[103, 108, 111, 98, 97, 108]⟩ rfl rfl
        unfold sPassed at h9
        rw [hf] at h9
        exact h9
      have Cx : ∀ {Z' : As} w1, Mk B W b en q'.1 q'.2 Z' w1 → Calls Tryz.prog 61 #[.pointer (some ⟨b, 0, none⟩), .int .i64 1, .string ⟨#[101, 120, 116, 101, 114, 110]⟩] w1 (fun e w' => e = .returned (.bool (isTk 1 [101, 120, 116, 101, 114, 110] f)) ∧ Mk B W b en q'.1 (if isTk 1 [101, 120, 116, 101, 114, 110] f then ps q'.2 else q'.2) Z' w') := fun w1 h1 => by
        have h9 := h1.passed 1 [101, 120, 116, 101, 114, 110] 1 ⟨#[101, 120, 116, 101, 114, 110]⟩ rfl rfl
        unfold sPassed at h9
        rw [hf] at h9
        exact h9
      have Cf : ∀ {Z' : As} w1, Mk B W b en q'.1 q'.2 Z' w1 → Calls Tryz.prog 61 #[.pointer (some ⟨b, 0, none⟩), .int .i64 1, .string ⟨#[102, 117, 110, 99]⟩] w1 (fun e w' => e = .returned (.bool (isTk 1 [102, 117, 110, 99] f)) ∧ Mk B W b en q'.1 (if isTk 1 [102, 117, 110, 99] f then ps q'.2 else q'.2) Z' w') := fun w1 h1 => by
        have h9 := h1.passed 1 [102, 117, 110, 99] 1 ⟨#[102, 117, 110, 99]⟩ rfl rfl
        unfold sPassed at h9
        rw [hf] at h9
        exact h9
      obtain ⟨nl, enl⟩ : ∃ nl, tsl q'.2 = nl := ⟨_, rfl⟩
      rw [enl] at c0a hpos
      cases c0 : isTk 6 [] f with
      | true =>
        have hN := hk.next (il_end hts c0) hS0 hL0 (Nat.le_succ _)
        simp only [c0, if_true] at C6
        have hT : tsl (q'.1, ps q'.2).2 < nl := by rw [← enl]; exact Nat.lt_of_succ_le hL0
        have HB := Lib.hid (And.intro hN (And.intro hT (And.intro hlen enl)))
        have HH := Lib.hid h
        clear h hk hN hT hts hn hf hL0 hS0 hm1 enl hlen c0 Cg Cx Cf
        go_wp2_with (first | ((with_reducible refine (C6 _ HH.out).mono ?_); rintro e v0 ⟨rfl, p0⟩; obtain ⟨_, bl0, hl0⟩ := p0.ends; have HL0 := Lib.hid hl0; clear hl0))
        obtain ⟨_, _, hl9⟩ := p0.ends
        refine ⟨⟨_, k, p0, HB.out.1⟩, ?_⟩
        rw [hl9, HB.out.2.2.1, HB.out.2.2.2]
        exact HB.out.2.1
      | false =>
        simp only [c0, Bool.false_eq_true, if_false] at C6
        cases c1 : isTk 1 [103, 108, 111, 98, 97, 108] f with
        | true =>
          have hN := hk.next (il_global hts c0 c1) (Nat.le_trans (l2_global (en := en) (q'.1, ps q'.2)).1 hS0) (Nat.le_trans (Nat.succ_le_succ (l2_global (en := en) (q'.1, ps q'.2)).2) hL0) (by unfold iGlobal mlen; simp <;> omega)
          have CC : ∀ {Z' : As} w1, Mk B W b en q'.1 (ps q'.2) Z' w1 → _ := fun {Z'} w1 h1 => global_any HK.out hm1.1 h1
          simp only [c1, if_true] at Cg
          have hT : tsl (iGlobal en (q'.1, ps q'.2)).2 < nl := by rw [← enl]; exact Nat.lt_of_succ_le (Nat.le_trans (Nat.succ_le_succ (l2_global (en := en) (q'.1, ps q'.2)).2) hL0)
          have HB := Lib.hid (And.intro hN (And.intro hT (And.intro hlen enl)))
          have HH := Lib.hid h
          clear h hk hN hT hts hn hf hL0 hS0 hm1 enl hlen c0 c1 Cx Cf
          go_wp2_with (first | ((with_reducible refine (C6 _ HH.out).mono ?_); rintro e v0 ⟨rfl, p0⟩; obtain ⟨_, bl0, hl0⟩ := p0.ends; have HL0 := Lib.hid hl0; clear hl0) | ((with_reducible refine (Cg _ p0).mono ?_); rintro e v1 ⟨rfl, p1⟩; obtain ⟨_, bl1, hl1⟩ := p1.ends; have HL1 := Lib.hid hl1; clear hl1) | ((with_reducible refine (CC _ p1).mono ?_); rintro e v9 ⟨rfl, p9⟩))
          obtain ⟨_, _, hl9⟩ := p9.ends
          refine ⟨⟨_, k, p9, HB.out.1⟩, ?_⟩
          rw [hl9, HB.out.2.2.1, HB.out.2.2.2]
          exact HB.out.2.1
        | false =>
          simp only [c1, Bool.false_eq_true, if_false] at Cg
          cases c2 : isTk 1 [101, 120, 116, 101, 114, 110] f with
          | true =>
            have hN := hk.next (il_extern hts c0 c1 c2) (Nat.le_trans (l2_extern HK.out.2.2.2 (q'.1, ps q'.2)).1 hS0) (Nat.le_trans (Nat.succ_le_succ (l2_extern HK.out.2.2.2 (q'.1, ps q'.2)).2) hL0) (by unfold iExtern mlen; simp <;> omega)
            have CC : ∀ {Z' : As} w1, Mk B W b en q'.1 (ps q'.2) Z' w1 → _ := fun {Z'} w1 h1 => extern_any HK.out hm1.2.1 hm1.2.2.2.1 h1
            simp only [c2, if_true] at Cx
            have hT : tsl (iExtern en (q'.1, ps q'.2)).2 < nl := by rw [← enl]; exact Nat.lt_of_succ_le (Nat.le_trans (Nat.succ_le_succ (l2_extern HK.out.2.2.2 (q'.1, ps q'.2)).2) hL0)
            have HB := Lib.hid (And.intro hN (And.intro hT (And.intro hlen enl)))
            have HH := Lib.hid h
            clear h hk hN hT hts hn hf hL0 hS0 hm1 enl hlen c0 c1 c2 Cf
            go_wp2_with (first | ((with_reducible refine (C6 _ HH.out).mono ?_); rintro e v0 ⟨rfl, p0⟩; obtain ⟨_, bl0, hl0⟩ := p0.ends; have HL0 := Lib.hid hl0; clear hl0) | ((with_reducible refine (Cg _ p0).mono ?_); rintro e v1 ⟨rfl, p1⟩; obtain ⟨_, bl1, hl1⟩ := p1.ends; have HL1 := Lib.hid hl1; clear hl1) | ((with_reducible refine (Cx _ p1).mono ?_); rintro e v2 ⟨rfl, p2⟩; obtain ⟨_, bl2, hl2⟩ := p2.ends; have HL2 := Lib.hid hl2; clear hl2) | ((with_reducible refine (CC _ p2).mono ?_); rintro e v9 ⟨rfl, p9⟩))
            obtain ⟨_, _, hl9⟩ := p9.ends
            refine ⟨⟨_, k, p9, HB.out.1⟩, ?_⟩
            rw [hl9, HB.out.2.2.1, HB.out.2.2.2]
            exact HB.out.2.1
          | false =>
            simp only [c2, Bool.false_eq_true, if_false] at Cx
            cases c3 : isTk 1 [102, 117, 110, 99] f with
            | true =>
              have hN := hk.next (il_func hts c0 c1 c2 c3) (Nat.le_trans (l2_func HK.out.2.2.2 (q'.1, ps q'.2)).1 hS0) (Nat.le_trans (Nat.succ_le_succ (l2_func HK.out.2.2.2 (q'.1, ps q'.2)).2) hL0) (by unfold iFunc mlen; simp <;> omega)
              have CC : ∀ {Z' : As} w1, Mk B W b en q'.1 (ps q'.2) Z' w1 → _ := fun {Z'} w1 h1 => function_any HK.out hm1.2.2.1 hm1.2.2.2.1 hm1.2.2.2.2 h1
              simp only [c3, if_true] at Cf
              have hT : tsl (iFunc en (q'.1, ps q'.2)).2 < nl := by rw [← enl]; exact Nat.lt_of_succ_le (Nat.le_trans (Nat.succ_le_succ (l2_func HK.out.2.2.2 (q'.1, ps q'.2)).2) hL0)
              have HB := Lib.hid (And.intro hN (And.intro hT (And.intro hlen enl)))
              have HH := Lib.hid h
              clear h hk hN hT hts hn hf hL0 hS0 hm1 enl hlen c0 c1 c2 c3 
              go_wp2_with (first | ((with_reducible refine (C6 _ HH.out).mono ?_); rintro e v0 ⟨rfl, p0⟩; obtain ⟨_, bl0, hl0⟩ := p0.ends; have HL0 := Lib.hid hl0; clear hl0) | ((with_reducible refine (Cg _ p0).mono ?_); rintro e v1 ⟨rfl, p1⟩; obtain ⟨_, bl1, hl1⟩ := p1.ends; have HL1 := Lib.hid hl1; clear hl1) | ((with_reducible refine (Cx _ p1).mono ?_); rintro e v2 ⟨rfl, p2⟩; obtain ⟨_, bl2, hl2⟩ := p2.ends; have HL2 := Lib.hid hl2; clear hl2) | ((with_reducible refine (Cf _ p2).mono ?_); rintro e v3 ⟨rfl, p3⟩; obtain ⟨_, bl3, hl3⟩ := p3.ends; have HL3 := Lib.hid hl3; clear hl3) | ((with_reducible refine (CC _ p3).mono ?_); rintro e v9 ⟨rfl, p9⟩))
              obtain ⟨_, _, hl9⟩ := p9.ends
              refine ⟨⟨_, k, p9, HB.out.1⟩, ?_⟩
              rw [hl9, HB.out.2.2.1, HB.out.2.2.2]
              exact HB.out.2.1
            | false =>
              simp only [c3, Bool.false_eq_true, if_false] at Cf
              have hN := hk.next (il_else hts c0 c1 c2 c3) (sz_bd 3 f q'.2) (by show 0 + 1 ≤ _; omega) (Nat.le_succ _)
              have hT : tsl (bd 3 f q'.2) < nl := by rw [← enl]; show 0 < _; omega
              have HB := Lib.hid (And.intro hN (And.intro hT (And.intro hlen (And.intro enl hf))))
              have HH := Lib.hid h
              clear h hk hN hT hts hn hf hL0 hS0 hm1 enl hlen c0 c1 c2 c3
              go_wp2_with (first | ((with_reducible refine (C6 _ HH.out).mono ?_); rintro e v0 ⟨rfl, p0⟩; obtain ⟨_, bl0, hl0⟩ := p0.ends; have HL0 := Lib.hid hl0; clear hl0) | ((with_reducible refine (Cg _ p0).mono ?_); rintro e v1 ⟨rfl, p1⟩; obtain ⟨_, bl1, hl1⟩ := p1.ends; have HL1 := Lib.hid hl1; clear hl1) | ((with_reducible refine (Cx _ p1).mono ?_); rintro e v2 ⟨rfl, p2⟩; obtain ⟨_, bl2, hl2⟩ := p2.ends; have HL2 := Lib.hid hl2; clear hl2) | ((with_reducible refine (Cf _ p2).mono ?_); rintro e v3 ⟨rfl, p3⟩; obtain ⟨_, bl3, hl3⟩ := p3.ends; have HL3 := Lib.hid hl3; clear hl3))
              go_region_law (first | (go_simp; (with_reducible refine (p3.drew.next).mono ?_); rintro e v5 ⟨rfl, p5⟩; have bl5 := p5.lt) | (go_simp; (with_reducible refine (p5.refuse3 _).mono ?_); rintro e v6 ⟨rfl, p6⟩))
              all_goals
                go_wp2_with fail
                rw [HB.out.2.2.2.2] at p6
                obtain ⟨_, _, hl9⟩ := p6.ends
                refine ⟨⟨_, k, p6, HB.out.1⟩, ?_⟩
                rw [hl9, HB.out.2.2.1, HB.out.2.2.2.1]
                exact HB.out.2.1
end
end Go.Proofs.YtjomihlnjobndaaGreatDoor
/- The parser's own steps answer what the pure parser answers, and keep the first fault. No program here. -/
namespace Go.Proofs.YtjomihlnjobndaaGreatDoor
set_option linter.unusedVariables false
set_option linter.unusedSimpArgs false

def toPS (s : RS) : PS := ⟨s.ts, s.asked⟩
/-- The one ends as the other. -/
def Ref {α : Type} (v : α) (s' : RS) : Except Flt (α × PS) → Prop
  | .ok (a, q) => v = a ∧ toPS s' = q ∧ s'.flt = none
  | .error f => s'.flt = some f ∧ s'.ts = []
/-- A fault stands. -/
def Dd (f : Flt) (s : RS) : Prop := s.flt = some f ∧ s.ts = []
section
variable {α β : Type}
theorem Ref.bind {p : PM α} {g : α → PM β} {q : PS} {v : α} {s' : RS} {w : β} {s2 : RS} (h : Ref v s' (p q)) (k : s'.flt = none → Ref w s2 (g v (toPS s'))) (d : ∀ f, Dd f s' → Dd f s2) : Ref w s2 ((p >>= g) q) := by
  show Ref w s2 (p q >>= fun x => g x.1 x.2)
  cases hp : p q with
  | error e =>
    rw [hp] at h
    exact d e h
  | ok x =>
    obtain ⟨a, q1⟩ := x
    rw [hp] at h
    obtain ⟨rfl, rfl, hf⟩ := h
    exact k hf
theorem Ref.pure {s : RS} (h : s.flt = none) (v : α) : Ref v s ((Pure.pure v : PM α) (toPS s)) := ⟨rfl, rfl, h⟩
theorem Ref.bad {s : RS} (h : s.flt = none) (v : α) (c : Nat) (t : Tok) : Ref v (bd c t s) ((qBad c t : PM α) (toPS s)) := ⟨by unfold bd; rw [h]; rfl, rfl⟩
theorem Ref.bad' {s s' : RS} {c : Nat} {t : Tok} (h : s'.flt = some (fltAt c t) ∧ s'.ts = []) (v : α) : Ref v s' ((qBad c t : PM α) (toPS s)) := h
theorem Ref.next {s : RS} (h : s.flt = none) (en : Tok) : Ref (nx en s) s (qNext en (toPS s)) := ⟨rfl, rfl, h⟩
theorem Ref.pass {s : RS} (h : s.flt = none) : Ref () (ps s) (qPass (toPS s)) := ⟨rfl, rfl, h⟩
theorem Ref.ite {c : Prop} [Decidable c] {p q : PM α} {v : α} {s s' : RS} (h : c → Ref v s' (p (toPS s))) (k : ¬ c → Ref v s' (q (toPS s))) : Ref v s' ((if c then p else q) (toPS s)) := by
  by_cases e : c
  · rw [if_pos e]; exact h e
  · rw [if_neg e]; exact k e
end
/-! Behind a fault. -/
theorem dd_ps {f : Flt} {s : RS} (h : Dd f s) : Dd f (ps s) := ⟨h.1, by unfold ps; rw [h.2]; rfl⟩
theorem dd_bd {f : Flt} {s : RS} (h : Dd f s) (c : Nat) (t : Tok) : Dd f (bd c t s) := ⟨by unfold bd; rw [h.1]; rfl, rfl⟩
theorem dd_ask {f : Flt} {s : RS} (h : Dd f s) (t : Tok) : Dd f (sAsk t s) := ⟨h.1, h.2⟩
theorem dd_this {f : Flt} {s : RS} (h : Dd f s) (en : Tok) (k : Nat) (b : Tx) : Dd f (sThis en k b s) := by
  unfold sThis; split
  · exact dd_ps h
  · exact dd_bd h _ _
theorem dd_want {f : Flt} {s : RS} (h : Dd f s) (en : Tok) (k : Nat) : Dd f (sWant en k s) := by
  unfold sWant; split
  · exact dd_ps h
  · exact dd_ps (dd_bd h _ _)
theorem dd_passed {f : Flt} {s : RS} (h : Dd f s) (en : Tok) (k : Nat) (b : Tx) : Dd f (sPassed en k b s) := by
  unfold sPassed; split
  · exact dd_ps h
  · exact h
theorem dd_block {f : Flt} {s : RS} (h : Dd f s) (en : Tok) : Dd f (sBlock en s) := by
  unfold sBlock; split
  · exact dd_ps h
  · exact dd_ps (dd_bd h _ _)
theorem dd_type {f : Flt} {s : RS} (h : Dd f s) (en : Tok) : Dd f (sType en s) := by
  unfold sType; split
  · exact dd_want h _ _
  · exact dd_bd (dd_want h _ _) _ _
theorem dd_size {f : Flt} {s : RS} (h : Dd f s) (en : Tok) : Dd f (sSize en s) := by
  unfold sSize; split
  · exact dd_bd (dd_want h _ _) _ _
  · exact dd_want h _ _
theorem dd_operand {f : Flt} {s : RS} (h : Dd f s) (en : Tok) : Dd f (sOperand en s) := by
  unfold sOperand; split
  · exact dd_ps h
  split
  · exact dd_ps (dd_ask h _)
  split
  · exact dd_ps h
  · exact dd_ps (dd_bd h _ _)
theorem dd_ops {f : Flt} (en : Tok) : ∀ (k : Nat) {s : RS}, Dd f s → Dd f (sOps en k s)
  | 0, _, h => h
  | k + 1, _, h => dd_ops en k (dd_operand (dd_this h _ _ _) _)
theorem dd_operands {f : Flt} (en : Tok) {k : Nat} {s : RS} (h : Dd f s) : Dd f (sOperands en k s) := by
  cases k with
  | zero => exact h
  | succ k => exact dd_ops en k (dd_operand h _)
theorem dd_more {β : Type} {f : Flt} {en : Tok} {item : β × RS → β × RS} (hi : ∀ p, Dd f p.2 → Dd f (item p).2) : ∀ (k : Nat) (p : β × RS), Dd f p.2 → Dd f (sMore en item k p).2
  | 0, _, h => h
  | k + 1, p, h => by
    unfold sMore
    split
    · exact dd_more hi k _ (hi _ (dd_ps h))
    · exact h
theorem dd_commas {β : Type} {f : Flt} {en : Tok} {item : β × RS → β × RS} (hi : ∀ p, Dd f p.2 → Dd f (item p).2) (p : β × RS) (h : Dd f p.2) : Dd f (sCommas en item p).2 := dd_more hi _ _ (hi p h)
theorem dd_brackets {β : Type} {f : Flt} {en : Tok} {item : β × RS → β × RS} (hi : ∀ p, Dd f p.2 → Dd f (item p).2) (p : β × RS) (h : Dd f p.2) : Dd f (sBrackets en item p).2 := by
  unfold sBrackets
  split
  · exact dd_ps (dd_this h _ _ _)
  · exact dd_this (dd_commas hi (p.1, _) (dd_this h _ _ _)) _ _ _
theorem dd_flags {f : Flt} {s : RS} (h : Dd f s) (en : Tok) : Dd f (sFlags en s) := dd_passed (dd_passed (dd_passed h _ _ _) _ _ _) _ _ _
theorem dd_arg {f : Flt} {en : Tok} (p : PIns × RS) (h : Dd f p.2) : Dd f (iArg en p).2 := dd_operand h _
theorem dd_tg {f : Flt} {en : Tok} (p : PIns × RS) (h : Dd f p.2) : Dd f (iTg en p).2 := dd_block h _
theorem dd_pair {f : Flt} {en : Tok} (p : PIns × RS) (h : Dd f p.2) : Dd f (iPair en p).2 := dd_arg _ (dd_tg _ h)
theorem dd_args {f : Flt} {en : Tok} {n : Nat} (p : PIns × RS) (h : Dd f p.2) : Dd f (iArgs en n p).2 := dd_operands en h
theorem dd_typed {f : Flt} {en : Tok} {n : Nat} (p : PIns × RS) (h : Dd f p.2) : Dd f (iTyped en n p).2 := dd_args _ (dd_type h _)
theorem dd_phi {f : Flt} {en : Tok} (p : PIns × RS) (h : Dd f p.2) : Dd f (iPhi en p).2 := by
  unfold iPhi
  by_cases k : (nx en (sType en p.2)).kind = 6
  · rw [if_pos k]; exact dd_type h _
  · rw [if_neg k]; exact dd_commas (fun p d => dd_pair p d) _ (dd_type h _)
theorem dd_form {f : Flt} {en : Tok} (p : PIns × RS) (h : Dd f p.2) : Dd f (iForm en p).2 := by
  unfold iForm
  by_cases c : 20 ≤ p.1.op ∧ p.1.op ≤ 22
  · rw [if_pos c]
    exact dd_type (dd_this (dd_arg _ (dd_type h _)) _ _ _) _
  rw [if_neg c]
  by_cases c : p.1.op = 23
  · rw [if_pos c]
    exact dd_typed _ h
  rw [if_neg c]
  by_cases c : p.1.op = 24 ∨ p.1.op = 27
  · rw [if_pos c]
    exact dd_typed _ h
  rw [if_neg c]
  by_cases c : p.1.op = 25
  · rw [if_pos c]
    exact dd_phi p h
  rw [if_neg c]
  by_cases c : p.1.op = 26
  · rw [if_pos c]
    exact dd_size h _
  rw [if_neg c]
  by_cases c : p.1.op = 29
  · rw [if_pos c]
    exact dd_args _ h
  rw [if_neg c]
  by_cases c : p.1.op = 30
  · rw [if_pos c]
    exact dd_brackets (fun p d => dd_arg p d) _ (dd_ask (dd_want h _ _) _)
  rw [if_neg c]
  by_cases c : p.1.op = 32
  · rw [if_pos c]
    exact dd_tg _ (dd_this (dd_tg _ (dd_this (dd_arg _ h) _ _ _)) _ _ _)
  rw [if_neg c]
  by_cases c : p.1.op = 31
  · rw [if_pos c]
    exact dd_tg _ h
  rw [if_neg c]
  by_cases c : p.1.op = 33
  · rw [if_pos c]
    by_cases k : (nx en p.2).kind ≠ 6
    · rw [if_pos k]; exact dd_typed _ h
    · rw [if_neg k]; exact h
  rw [if_neg c]
  by_cases c : p.1.op = 34
  · rw [if_pos c]
    exact h
  rw [if_neg c]
  by_cases c : p.1.op ≤ 13
  · rw [if_pos c]
    exact dd_typed _ (dd_flags h _)
  rw [if_neg c]
  exact dd_typed _ h
theorem dd_reg {f : Flt} {s : RS} (h : Dd f s) (en : Tok) : Dd f (sReg en s) := by
  unfold sReg; split
  · exact dd_this (dd_want h _ _) _ _ _
  · exact h
theorem dd_word {f : Flt} {s : RS} (h : Dd f s) (en : Tok) (r : Int) : Dd f (sWord en r s) := by
  unfold sWord; split
  · exact dd_ps h
  · exact dd_ps (dd_bd h _ _)
theorem dd_instr {f : Flt} {s : RS} (h : Dd f s) (en : Tok) : Dd f (iInstr en s).2 := dd_want (dd_form _ (dd_word (dd_reg h _) _ _)) _ _
theorem dd_bdIf {f : Flt} {s : RS} (h : Dd f s) (en : Tok) (c : Prop) [Decidable c] (k : Nat) : Dd f (bdIf c k en s) := by
  unfold bdIf; split
  · exact dd_bd h _ _
  · exact h
theorem dd_label {f : Flt} {s : RS} (h : Dd f s) (en : Tok) (len n : Nat) : Dd f (sLabel en len n s) := dd_want (dd_this (dd_ps (dd_bdIf (dd_bdIf h _ _ _) _ _ _)) _ _ _) _ _
theorem dd_body {f : Flt} (en : Tok) (k : Nat) (p : List (List PIns) × RS) (h : Dd f p.2) : Dd f (iBody en k p).2 := by
  cases k with
  | zero => exact dd_bd h _ _
  | succ k =>
    unfold iBody
    simp only [h.2]
    exact dd_bd h _ _
theorem dd_param {f : Flt} {en : Tok} (p : List Int × RS) (h : Dd f p.2) : Dd f (iParam en p).2 := by
  unfold iParam
  dsimp only
  split
  · exact dd_bd (dd_type h _) _ _
  · exact dd_type h _
theorem dd_types {f : Flt} {s : RS} (h : Dd f s) (en : Tok) : Dd f (sTypes en s) := dd_type (dd_brackets dd_param ([], s) h) _
theorem dd_name {f : Flt} {s : RS} (h : Dd f s) (en : Tok) (full : Bool) (told : Tx → Bool) : Dd f (sName en full told s) := by
  unfold sName
  dsimp only
  split
  · refine dd_bd ?_ _ _
    split
    · exact dd_bd (dd_want h _ _) _ _
    · exact dd_want h _ _
  · split
    · exact dd_bd (dd_want h _ _) _ _
    · exact dd_want h _ _
/-! Without a fault. -/
section
variable {s : RS} {en : Tok}
theorem ref_this (h : s.flt = none) (k : Nat) (b : Tx) : Ref () (sThis en k b s) (qThis en k b (toPS s)) := by
  unfold qThis
  refine (Ref.next h en).bind (fun _ => ?_) (fun f d => dd_this d _ _ _)
  refine Ref.ite (fun e => ?_) (fun e => ?_)
  · rw [show sThis en k b s = ps s from if_pos e]; exact Ref.pass h
  · rw [show sThis en k b s = bd 3 (nx en s) s from if_neg e]; exact Ref.bad h _ _ _
theorem ref_want (h : s.flt = none) (k : Nat) : Ref (nx en s) (sWant en k s) (qWant en k (toPS s)) := by
  unfold qWant
  refine (Ref.next h en).bind (fun _ => ?_) (fun f d => dd_want d _ _)
  refine Ref.ite (fun e => ?_) (fun e => ?_)
  · rw [show sWant en k s = ps s from if_pos (by simpa using e)]
    exact (Ref.pass h).bind (fun h2 => Ref.pure h2 _) (fun f d => d)
  · rw [show sWant en k s = ps (bd 3 (nx en s) s) from if_neg (by simpa using e)]
    exact Ref.bad' (dd_ps (f := fltAt 3 (nx en s)) (Ref.bad (α := Unit) h () 3 (nx en s))) _
theorem ref_end (h : s.flt = none) : Ref () (sWant en 6 s) (qLineEnd en (toPS s)) := by
  unfold qLineEnd
  exact (ref_want h 6).bind (fun h2 => Ref.pure h2 ()) (fun f d => d)
theorem ref_passed (h : s.flt = none) (k : Nat) (b : Tx) : Ref (isTk k b (nx en s)) (sPassed en k b s) (qPassed en k b (toPS s)) := by
  unfold qPassed
  refine (Ref.next h en).bind (fun _ => ?_) (fun f d => dd_passed d _ _ _)
  refine Ref.ite (fun e => ?_) (fun e => ?_)
  · rw [show sPassed en k b s = ps s from if_pos e, e]
    exact (Ref.pass h).bind (fun h2 => Ref.pure h2 _) (fun f d => d)
  · rw [show sPassed en k b s = s from if_neg e, Bool.eq_false_iff.2 e]
    exact Ref.pure h _
theorem ref_block (h : s.flt = none) : Ref (vBlock en s) (sBlock en s) (qBlock en (toPS s)) := by
  unfold qBlock
  refine (Ref.next h en).bind (fun _ => ?_) (fun f d => dd_block d _)
  unfold vBlock sBlock
  cases e : blockOfP (nx en s) with
  | some n =>
    rw [if_pos (show (some n).isSome = true from rfl)]
    exact (Ref.pass h).bind (fun h2 => Ref.pure h2 _) (fun f d => d)
  | none =>
    rw [if_neg (show ¬ (none : Option Nat).isSome = true by simp)]
    exact Ref.bad' (dd_ps (f := fltAt 3 (nx en s)) (Ref.bad (α := Unit) h () 3 (nx en s))) _
theorem ref_type (h : s.flt = none) : Ref (vType en s) (sType en s) (qType en (toPS s)) := by
  unfold qType
  refine (ref_want h 1).bind (fun h1 => ?_) (fun f d => ?_)
  · unfold vType sType
    cases e : typeOfP (nx en s).body with
    | some n => rw [if_pos (show (some n).isSome = true from rfl)]; exact Ref.pure h1 _
    | none => rw [if_neg (show ¬ (none : Option Nat).isSome = true by simp)]; exact Ref.bad h1 _ _ _
  · unfold sType; split
    · exact d
    · exact dd_bd d _ _
theorem num_small {n : Nat} (h : ¬ 64 < n) : Go.IntKind.i64.wrap (n : Int) = (n : Int) := by
  have h2 : n ≤ 64 := Nat.le_of_not_lt h
  have : ∀ j : Fin 65, Go.IntKind.i64.wrap (j.val : Int) = (j.val : Int) := by decide
  exact this ⟨n, Nat.lt_succ_of_le h2⟩
theorem ref_size (h : s.flt = none) : Ref (vSize en s) (sSize en s) (qSize en (toPS s)) := by
  unfold qSize
  refine (ref_want h 2).bind (fun h1 => ?_) (fun f d => ?_)
  · unfold vSize sSize
    refine Ref.ite (fun e => ?_) (fun e => ?_)
    · rw [if_pos e]; exact Ref.bad h1 _ _ _
    · rw [if_neg e, num_small (fun k => e (.inr k))]; exact Ref.pure h1 _
  · unfold sSize; split
    · exact dd_bd d _ _
    · exact d
theorem ref_ask (h : s.flt = none) (t : Tok) : Ref (s.asked.length : Int) (sAsk t s) (qAsk t (toPS s)) := ⟨rfl, rfl, h⟩
theorem ref_operand (h : s.flt = none) : Ref (vOperand en s) (sOperand en s) (qOperand en (toPS s)) := by
  unfold qOperand
  refine (Ref.next h en).bind (fun _ => ?_) (fun f d => dd_operand d _)
  unfold vOperand sOperand
  refine Ref.ite (fun e => ?_) (fun e => ?_)
  · have e := of_decide_eq_true e
    rw [if_pos e, if_pos (.inl e)]
    exact (Ref.pass h).bind (fun h2 => Ref.pure h2 _) (fun f d => d)
  have e := of_decide_eq_false (Bool.eq_false_iff.2 e)
  rw [if_neg e]
  refine Ref.ite (fun e2 => ?_) (fun e2 => ?_)
  · have e2 := of_decide_eq_true e2
    rw [if_pos e2, if_pos (.inr e2)]
    exact (Ref.pass h).bind (fun h2 => Ref.pure h2 _) (fun f d => d)
  have e2 := of_decide_eq_false (Bool.eq_false_iff.2 e2)
  rw [if_neg e2, if_neg (show ¬ ((nx en s).kind = 3 ∨ (nx en s).kind = 2) from fun k => k.elim e e2)]
  refine Ref.ite (fun e3 => ?_) (fun e3 => ?_)
  · have e3 := of_decide_eq_true e3
    rw [if_pos e3, if_pos e3]
    exact (ref_ask h _).bind (fun h2 => (Ref.pass h2).bind (fun h3 => Ref.pure h3 _) (fun f d => d)) (fun f d => dd_ps d)
  have e3 := of_decide_eq_false (Bool.eq_false_iff.2 e3)
  rw [if_neg e3, if_neg e3]
  refine Ref.ite (fun e4 => ?_) (fun e4 => ?_)
  · rw [if_pos e4, if_pos (.inl e4)]
    exact (Ref.pass h).bind (fun h2 => Ref.pure h2 _) (fun f d => d)
  rw [if_neg e4]
  refine Ref.ite (fun e5 => ?_) (fun e5 => ?_)
  · rw [if_pos e5, if_pos (.inr e5)]
    exact (Ref.pass h).bind (fun h2 => Ref.pure h2 _) (fun f d => d)
  rw [if_neg e5, if_neg (show ¬ (isTk 1 [112, 111, 105, 115, 111, 110] (nx en s) = true ∨ isTk 1 [110, 117, 108, 108] (nx en s) = true) from fun k => k.elim e4 e5)]
  exact Ref.bad' (dd_ps (f := fltAt 3 (nx en s)) (Ref.bad (α := Unit) h () 3 (nx en s))) _
end
end Go.Proofs.YtjomihlnjobndaaGreatDoor
/- The parser's own steps answer what the pure parser answers: items behind commas, operands, the forms of the instructions. No program here. -/
namespace Go.Proofs.YtjomihlnjobndaaGreatDoor
set_option linter.unusedVariables false
set_option linter.unusedSimpArgs false

theorem Ref.get {β : Type} {g : PS → PM β} {s s2 : RS} {w : β} (h : Ref w s2 (g (toPS s) (toPS s))) : Ref w s2 ((get >>= g) (toPS s)) := h
theorem ref_of {α : Type} {v w : α} {s t : RS} {r : Except Flt (α × PS)} (h : Ref v s r) (hv : v = w) (hs : s = t) : Ref w t r := by subst hv hs; exact h
/-- What an item makes of the items ahead: the pure one and the program's. -/
structure Itm {α β : Type} (put : List α → β) (q : List α → PM α) (i : β × RS → β × RS) (v : List α → RS → α) (t : List α → RS → RS) : Prop where
  is : ∀ acc s, i (put acc, s) = (put (acc ++ [v acc s]), t acc s)
  ref : ∀ acc s, s.flt = none → Ref (v acc s) (t acc s) (q acc (toPS s))
  dd : ∀ f p, Dd f p.2 → Dd f (i p).2
section
variable {α β : Type}
def lMore (en : Tok) (v : List α → RS → α) (t : List α → RS → RS) : Nat → List α → RS → List α
  | 0, acc, s => acc
  | k + 1, acc, s => if isTk 5 [44] (nx en s) then lMore en v t k (acc ++ [v acc (ps s)]) (t acc (ps s)) else acc
variable {en : Tok} {put : List α → β} {q : List α → PM α} {i : β × RS → β × RS} {v : List α → RS → α} {t : List α → RS → RS} (hI : Itm put q i v t)
include hI
theorem more_put : ∀ k acc s, (sMore en i k (put acc, s)).1 = put (lMore en v t k acc s) := by
  intro k
  induction k with
  | zero => intro acc s; rfl
  | succ k ih =>
    intro acc s
    unfold sMore lMore
    dsimp only
    by_cases e : isTk 5 [44] (nx en s) = true
    · rw [if_pos e, if_pos e, hI.is, ih]
    · rw [if_neg e, if_neg e]
theorem ref_more : ∀ k acc s, s.flt = none → Ref (lMore en v t k acc s) (sMore en i k (put acc, s)).2 (qMore en q k acc (toPS s)) := by
  intro k
  induction k with
  | zero => intro acc s h; exact Ref.pure h _
  | succ k ih =>
    intro acc s h
    unfold qMore
    refine (ref_passed h 5 [44]).bind (fun h2 => ?_) (fun f d => ?_)
    · unfold sMore lMore
      dsimp only
      by_cases e : isTk 5 [44] (nx en s) = true
      · rw [if_pos e, if_pos e, hI.is]
        have es : sPassed en 5 [44] s = ps s := if_pos e
        rw [es] at h2 ⊢
        rw [e, if_pos rfl]
        exact (hI.ref acc (ps s) h2).bind (fun h3 => ih _ _ h3) (fun f d => dd_more (fun p hp => hI.dd f p hp) k _ d)
      · have es : sPassed en 5 [44] s = s := if_neg e
        rw [es] at h2 ⊢
        rw [if_neg e, if_neg e, if_neg e]
        exact Ref.pure h2 _
    · by_cases e : isTk 5 [44] (nx en s) = true
      · have es : sPassed en 5 [44] s = ps s := if_pos e
        rw [es] at d
        unfold sMore
        dsimp only
        rw [if_pos e]
        exact dd_more (fun p hp => hI.dd f p hp) k _ (hI.dd f _ d)
      · have es : sPassed en 5 [44] s = s := if_neg e
        rw [es] at d
        exact dd_more (fun p hp => hI.dd f p hp) (k + 1) _ d
def lCommas (en : Tok) (v : List α → RS → α) (t : List α → RS → RS) (s : RS) : List α := lMore en v t ((t [] s).ts.length + 1) [v [] s] (t [] s)
omit hI in
theorem lCommas_is (s : RS) : lCommas en v t s = lMore en v t ((t [] s).ts.length + 1) [v [] s] (t [] s) := rfl
theorem commas_put (s : RS) : (sCommas en i (put [], s)).1 = put (lCommas en v t s) := by
  unfold sCommas
  rw [hI.is]
  exact more_put hI _ _ _
theorem ref_commas {s : RS} (h : s.flt = none) : Ref (lCommas en v t s) (sCommas en i (put [], s)).2 (qCommas en q (toPS s)) := by
  unfold sCommas qCommas
  rw [hI.is]
  exact (hI.ref [] s h).bind (fun h2 => Ref.get (ref_more hI _ _ _ h2)) (fun f d => dd_more (fun p hp => hI.dd f p hp) _ _ d)
def lBrackets (en : Tok) (v : List α → RS → α) (t : List α → RS → RS) (s : RS) : List α :=
  if isTk 5 [41] (nx en (sThis en 5 [40] s)) then [] else lCommas en v t (sThis en 5 [40] s)
theorem brackets_put (s : RS) : (sBrackets en i (put [], s)).1 = put (lBrackets en v t s) := by
  unfold sBrackets lBrackets
  dsimp only
  split
  · rfl
  · exact commas_put hI _
theorem ref_brackets {s : RS} (h : s.flt = none) : Ref (lBrackets en v t s) (sBrackets en i (put [], s)).2 (qBrackets en q (toPS s)) := by
  unfold qBrackets
  refine (ref_this h 5 [40]).bind (fun h2 => ?_) (fun f d => ?_)
  · refine (ref_passed h2 5 [41]).bind (fun h3 => ?_) (fun f d => ?_)
    · unfold sBrackets lBrackets
      dsimp only
      by_cases e : isTk 5 [41] (nx en (sThis en 5 [40] s)) = true
      · have es : sPassed en 5 [41] (sThis en 5 [40] s) = ps (sThis en 5 [40] s) := if_pos e
        rw [es] at h3 ⊢
        rw [if_pos e, if_pos e, if_pos e]
        exact Ref.pure h3 _
      · have es : sPassed en 5 [41] (sThis en 5 [40] s) = sThis en 5 [40] s := if_neg e
        rw [es] at h3 ⊢
        rw [if_neg e, if_neg e, if_neg e]
        exact (ref_commas hI h3).bind (fun h4 => (ref_this h4 5 [41]).bind (fun h5 => Ref.pure h5 _) (fun f d => d)) (fun f d => dd_this d _ _ _)
    · unfold sBrackets
      dsimp only
      by_cases e : isTk 5 [41] (nx en (sThis en 5 [40] s)) = true
      · rw [if_pos e]
        rw [show sPassed en 5 [41] (sThis en 5 [40] s) = ps (sThis en 5 [40] s) from if_pos e] at d
        exact d
      · rw [if_neg e]
        rw [show sPassed en 5 [41] (sThis en 5 [40] s) = sThis en 5 [40] s from if_neg e] at d
        exact dd_this (dd_commas (fun p hp => hI.dd f p hp) _ d) _ _ _
  · have d2 : Dd f (sBrackets en i (put [], s)).2 := by
      unfold sBrackets
      dsimp only
      split
      · exact dd_ps d
      · exact dd_this (dd_commas (fun p hp => hI.dd f p hp) _ d) _ _ _
    exact d2
end
section
variable {s : RS} {en : Tok}
theorem ref_operands : ∀ (n : Nat) {s : RS}, s.flt = none → Ref (vOperands en n s) (sOperands en n s) (qOperands en n (toPS s))
  | 0, s, h => Ref.pure h []
  | 1, s, h => (ref_operand h).bind (fun h2 => Ref.pure h2 _) (fun f d => d)
  | k + 2, s, h => (ref_operand h).bind
      (fun h2 => (ref_this h2 5 [44]).bind (fun h3 => (ref_operands (k + 1) h3).bind (fun h4 => Ref.pure h4 _) (fun f d => d)) (fun f d => dd_operands (k := k + 1) en d))
      (fun f d => dd_operands (k := k + 1) en (dd_this d _ _ _))
theorem ref_flags (h : s.flt = none) : Ref (vFlags en s) (sFlags en s) (qFlags en (toPS s)) := by
  unfold qFlags
  exact (ref_passed h _ _).bind (fun h2 => (ref_passed h2 _ _).bind (fun h3 => (ref_passed h3 _ _).bind (fun h4 => Ref.pure h4 _) (fun f d => d)) (fun f d => dd_passed d _ _ _)) (fun f d => dd_passed (dd_passed d _ _ _) _ _ _)
theorem ref_typed {x : PIns} (hx : x.args = []) (n : Nat) (h : s.flt = none) : Ref (iTyped en n (x, s)).1 (iTyped en n (x, s)).2 (qTyped en x n (toPS s)) := by
  unfold qTyped
  refine (ref_type h).bind (fun h2 => (ref_operands n h2).bind (fun h3 => ref_of (Ref.pure h3 _) ?_ rfl) (fun f d => d)) (fun f d => dd_operands en d)
  unfold iTyped iArgs
  simp [hx]
end
end Go.Proofs.YtjomihlnjobndaaGreatDoor
/- The parser's own steps answer what the pure parser answers: the forms of the instructions, an instruction. No program here. -/
namespace Go.Proofs.YtjomihlnjobndaaGreatDoor
set_option linter.unusedVariables false
set_option linter.unusedSimpArgs false

section
variable {s : RS} {en : Tok}
theorem itm_arg (x : PIns) : Itm (fun l : List Arg => { x with args := l }) (fun _ => qOperand en) (iArg en) (fun _ s => vOperand en s) (fun _ s => sOperand en s) where
  is := fun acc s => rfl
  ref := fun acc s h => ref_operand h
  dd := fun f p d => dd_arg p d
theorem itm_pair (x : PIns) : Itm (fun l : List (Int × Arg) => { x with tg := l.map Prod.fst, args := l.map Prod.snd }) (fun _ => (do let b ← qBlock en; let a ← qOperand en; return (b, a) : PM (Int × Arg))) (iPair en)
    (fun _ s => (vBlock en s, vOperand en (sBlock en s))) (fun _ s => sOperand en (sBlock en s)) where
  is := fun acc s => by simp [iPair, iArg, iTg]
  ref := fun acc s h => (ref_block h).bind (fun h2 => (ref_operand h2).bind (fun h3 => Ref.pure h3 _) (fun f d => d)) (fun f d => dd_operand d _)
  dd := fun f p d => dd_pair p d
theorem ref_form (op r : Int) (h : s.flt = none) : Ref (iForm en (⟨op, r, 0, 0, 0, [], []⟩, s)).1 (iForm en (⟨op, r, 0, 0, 0, [], []⟩, s)).2 (qForm en ⟨op, r, 0, 0, 0, [], []⟩ (toPS s)) := by
  unfold qForm iForm
  dsimp only
  refine Ref.ite (fun e => ?_) (fun e => ?_)
  · rw [if_pos e]
    exact (ref_type h).bind (fun h1 => (ref_operand h1).bind (fun h2 => (ref_this h2 1 _).bind (fun h3 => (ref_type h3).bind (fun h4 => Ref.pure h4 _) (fun f d => d)) (fun f d => dd_type d _)) (fun f d => dd_type (dd_this d _ _ _) _)) (fun f d => dd_type (dd_this (dd_operand d _) _ _ _) _)
  rw [if_neg e]
  refine Ref.ite (fun e => ?_) (fun e => ?_)
  · rw [if_pos e]
    exact ref_typed (x := ⟨op, r, 0, 0, 0, [], []⟩) rfl 3 h
  rw [if_neg e]
  refine Ref.ite (fun e => ?_) (fun e => ?_)
  · rw [if_pos e]
    exact ref_typed (x := ⟨op, r, 0, 0, 0, [], []⟩) rfl 1 h
  rw [if_neg e]
  refine Ref.ite (fun e => ?_) (fun e => ?_)
  · rw [if_pos e]
    refine (ref_type h).bind (fun h1 => (Ref.next h1 en).bind (fun h2 => ?_) (fun f d => ?_)) (fun f d => ?_)
    · refine Ref.ite (fun e2 => ?_) (fun e2 => ?_)
      · have e2 := of_decide_eq_true e2
        unfold iPhi
        dsimp only
        rw [if_pos e2]
        exact Ref.pure h2 _
      · have e2 := of_decide_eq_false (Bool.eq_false_iff.2 e2)
        unfold iPhi
        dsimp only
        rw [if_neg e2]
        have hI := itm_pair (en := en) ⟨op, r, vType en s, 0, 0, [], []⟩
        refine (ref_commas hI h2).bind (fun h3 => ref_of (Ref.pure h3 _) ?_ rfl) (fun f d => d)
        exact (commas_put hI (sType en s)).symm
    all_goals
      unfold iPhi
      dsimp only
      split
      · exact d
      · exact dd_commas (fun p hp => dd_pair p hp) _ d
  rw [if_neg e]
  refine Ref.ite (fun e => ?_) (fun e => ?_)
  · rw [if_pos e]
    exact (ref_size h).bind (fun h1 => Ref.pure h1 _) (fun f d => d)
  rw [if_neg e]
  refine Ref.ite (fun e => ?_) (fun e => ?_)
  · rw [if_pos e]
    exact (ref_operands 2 h).bind (fun h1 => Ref.pure h1 _) (fun f d => d)
  rw [if_neg e]
  refine Ref.ite (fun e => ?_) (fun e => ?_)
  · rw [if_pos e]
    have hI := itm_arg (en := en) ⟨op, r, 0, (sWant en 1 s).asked.length, 0, [], []⟩
    refine (ref_want h 1).bind (fun h1 => (ref_ask h1 _).bind (fun h2 => (ref_brackets hI h2).bind (fun h3 => ref_of (Ref.pure h3 _) ?_ rfl) (fun f d => d)) (fun f d => ?_)) (fun f d => ?_)
    · exact (brackets_put hI (sAsk (nx en s) (sWant en 1 s))).symm
    · exact dd_brackets (fun p hp => dd_arg p hp) _ d
    · exact dd_brackets (fun p hp => dd_arg p hp) _ (dd_ask d _)
  rw [if_neg e]
  refine Ref.ite (fun e => ?_) (fun e => ?_)
  · rw [if_pos e]
    exact (ref_operand h).bind (fun h1 => (ref_this h1 5 [44]).bind (fun h2 => (ref_block h2).bind (fun h3 => (ref_this h3 5 [44]).bind (fun h4 => (ref_block h4).bind (fun h5 => Ref.pure h5 _) (fun f d => d)) (fun f d => dd_block d _)) (fun f d => dd_block (dd_this d _ _ _) _)) (fun f d => dd_block (dd_this (dd_block d _) _ _ _) _))
      (fun f d => dd_block (dd_this (dd_block (dd_this d _ _ _) _) _ _ _) _)
  rw [if_neg e]
  refine Ref.ite (fun e => ?_) (fun e => ?_)
  · rw [if_pos e]
    exact (ref_block h).bind (fun h1 => Ref.pure h1 _) (fun f d => d)
  rw [if_neg e]
  refine Ref.ite (fun e => ?_) (fun e => ?_)
  · rw [if_pos e]
    refine (Ref.next h en).bind (fun h2 => ?_) (fun f d => ?_)
    · refine Ref.ite (fun e2 => ?_) (fun e2 => ?_)
      · have e2 := of_decide_eq_true e2
        rw [if_neg (fun k => k e2)]
        exact Ref.pure h2 _
      · have e2 := of_decide_eq_false (Bool.eq_false_iff.2 e2)
        rw [if_pos e2]
        exact ref_typed (x := ⟨op, r, 0, 0, 0, [], []⟩) rfl 1 h2
    · split
      · exact dd_typed _ d
      · exact d
  rw [if_neg e]
  refine Ref.ite (fun e => ?_) (fun e => ?_)
  · rw [if_pos e]
    exact Ref.pure h _
  rw [if_neg e]
  by_cases e : op ≤ 13
  · rw [if_pos e, if_pos e]
    exact (ref_flags h).bind (fun h2 => ref_typed (x := ⟨op, r, 0, 0, vFlags en s, [], []⟩) rfl 2 h2) (fun f d => dd_typed _ d)
  · rw [if_neg e, if_neg e]
    exact ref_typed (x := ⟨op, r, 0, 0, 0, [], []⟩) rfl 2 h
end
end Go.Proofs.YtjomihlnjobndaaGreatDoor
/- The parser's own steps answer what the pure parser answers: an instruction, a block's label, a function's lines, the lines of a module. No program here. -/
namespace Go.Proofs.YtjomihlnjobndaaGreatDoor
set_option linter.unusedVariables false
set_option linter.unusedSimpArgs false

theorem dd_formS {f : Flt} {en : Tok} {x : PIns} {s : RS} (h : Dd f s) : Dd f (iForm en (x, s)).2 := dd_form (x, s) h
theorem stands_iff (n : Nat) (r : Int) : standsP n r = true ↔ (n = 30 ∨ n ≠ 0 ∧ idleB n = decide (0 ≤ r)) := by
  unfold standsP
  simp only [Bool.or_eq_true, Bool.and_eq_true, decide_eq_true_eq, beq_iff_eq]
  constructor
  · rintro (h | ⟨h1, h2⟩)
    · exact .inl (by omega)
    · exact .inr ⟨by omega, h2⟩
  · rintro (h | ⟨h1, h2⟩)
    · exact .inl (by omega)
    · exact .inr ⟨by omega, h2⟩
theorem bad_dd {s : RS} (h : s.flt = none) (c : Nat) (t : Tok) : Dd (fltAt c t) (bd c t s) := Ref.bad (α := Unit) h () c t
section
variable {s : RS} {en : Tok}
theorem ref_reg3 (h : s.flt = none) (e : ((nx en s).kind == 3) = true) : Ref (vReg en s) (sReg en s) ((do qPass; qMark en 61; pure (numOf (nx en s) : Int) : PM Int) (toPS s)) := by
  have e := of_decide_eq_true e
  unfold vReg sReg
  rw [if_pos e, if_pos e, show sWant en 3 s = ps s from if_pos e]
  exact (Ref.pass h).bind (fun h2 => (ref_this h2 5 [61]).bind (fun h3 => Ref.pure h3 _) (fun f d => d)) (fun f d => dd_this d _ _ _)
theorem ref_reg0 (h : s.flt = none) (e : ¬ ((nx en s).kind == 3) = true) : Ref (vReg en s) (sReg en s) ((pure (-1) : PM Int) (toPS s)) := by
  have e := of_decide_eq_false (Bool.eq_false_iff.2 e)
  unfold vReg sReg
  rw [if_neg e, if_neg e]
  exact Ref.pure h _
theorem ref_instr (h : s.flt = none) : Ref (iInstr en s).1 (iInstr en s).2 (qInstr en (toPS s)) := by
  unfold qInstr
  refine (Ref.next h en).bind (fun _ => ?_) (fun f d => dd_instr d _)
  refine Ref.ite (fun e => (ref_reg3 h e).bind (fun h1 => ?_) (fun f d => dd_want (dd_formS (dd_word d _ _)) _ _)) (fun e => (ref_reg0 h e).bind (fun h1 => ?_) (fun f d => dd_want (dd_formS (dd_word d _ _)) _ _))
  all_goals
    refine (Ref.next h1 en).bind (fun _ => ?_) (fun f d => dd_want (dd_formS (dd_word d _ _)) _ _)
    unfold iInstr
    dsimp only
    by_cases c : standsP (opOfP (nx en (sReg en s))) (vReg en s) = true
    · rw [if_neg (not_not_intro ((stands_iff _ _).1 c))]
      rw [show sWord en (vReg en s) (sReg en s) = ps (sReg en s) from congrArg ps (if_pos c)]
      exact (Ref.pass h1).bind (fun h2 => (ref_form _ _ h2).bind (fun h3 => (ref_end h3).bind (fun h4 => Ref.pure h4 _) (fun f d => d)) (fun f d => dd_want d _ _)) (fun f d => dd_want (dd_formS d) _ _)
    · rw [if_pos (fun k => c ((stands_iff _ _).2 k))]
      rw [show sWord en (vReg en s) (sReg en s) = ps (bd 3 (nx en (sReg en s)) (sReg en s)) from congrArg ps (if_neg c)]
      exact dd_want (dd_formS (dd_ps (bad_dd h1 3 _))) _ _
theorem ref_label (h : s.flt = none) (bs : List (List PIns)) (n : Nat) : Ref () (sLabel en bs.length n s) (qLabel en (nx en s) bs n (toPS s)) := by
  unfold qLabel
  by_cases c : bs.length = 64
  · rw [if_pos c]
    have hd : Dd (fltAt 6 (nx en s)) (bdIf (bs.length = 64) 6 en s) := by unfold bdIf; rw [if_pos c]; exact bad_dd h 6 _
    exact dd_want (dd_this (dd_ps (dd_bdIf hd _ _ _)) _ _ _) _ _
  rw [if_neg c]
  have hs : bdIf (bs.length = 64) 6 en s = s := if_neg c
  by_cases c2 : n ≠ bs.length
  · rw [if_pos c2]
    have hd : Dd (fltAt 8 (nx en s)) (bdIf (n ≠ bs.length) 8 en (bdIf (bs.length = 64) 6 en s)) := by rw [hs]; unfold bdIf; rw [if_pos c2]; exact bad_dd h 8 _
    exact dd_want (dd_this (dd_ps hd) _ _ _) _ _
  · rw [if_neg c2]
    unfold sLabel
    rw [hs, show bdIf (n ≠ bs.length) 8 en s = s from if_neg c2]
    exact (Ref.pass h).bind (fun h2 => (ref_this h2 5 [58]).bind (fun h3 => ref_end h3) (fun f d => dd_want d _ _)) (fun f d => dd_want (dd_this d _ _ _) _ _)
end
theorem ref_body (en : Tok) : ∀ (k : Nat) (bs : List (List PIns)) (s : RS), s.flt = none → Ref (iBody en k (bs, s)).1 (iBody en k (bs, s)).2 (qBody en k bs (toPS s)) := by
  intro k
  induction k with
  | zero => intro bs s h; exact Ref.bad h _ _ _
  | succ k ih =>
    intro bs s h
    unfold qBody iBody
    refine Ref.get ?_
    have e1 : (toPS s).ts = s.ts := rfl
    rw [e1]
    dsimp only
    cases hts : s.ts with
    | nil => exact Ref.bad h _ _ _
    | cons front tl =>
      dsimp only
      have hn : nx en s = front := by unfold nx; rw [hts]; rfl
      refine Ref.ite (fun e => ?_) (fun e => ?_)
      · rw [if_pos e]
        exact (Ref.pass h).bind (fun h2 => ih _ _ h2) (fun f d => dd_body en k _ d)
      rw [if_neg e]
      cases hb : blockOfP front with
      | some n =>
        dsimp only
        rw [← hn]
        exact (ref_label h bs n).bind (fun h2 => ih _ _ h2) (fun f d => dd_body en k _ d)
      | none =>
        dsimp only
        refine Ref.ite (fun e2 => ?_) (fun e2 => ?_)
        · rw [if_pos e2]
          exact dd_body en k _ (bad_dd h 3 front)
        rw [if_neg e2]
        refine Ref.ite (fun e3 => ?_) (fun e3 => ?_)
        · rw [if_pos e3]
          exact (Ref.pass h).bind (fun h2 => (ref_end h2).bind (fun h3 => Ref.pure h3 _) (fun f d => d)) (fun f d => dd_want d _ _)
        rw [if_neg e3]
        refine Ref.ite (fun e4 => ?_) (fun e4 => ?_)
        · rw [if_pos e4]
          exact dd_body en k _ (bad_dd h 6 front)
        rw [if_neg e4]
        exact (ref_instr h).bind (fun h2 => ih _ _ h2) (fun f d => dd_body en k _ d)
section
variable {s : RS} {en : Tok}
theorem itm_param : Itm (fun l : List Int => l) (fun acc => do
      let p ← qNext en
      let t ← qType en
      if 8 ≤ acc.length then qBad 6 p
      return t) (iParam en)
    (fun _ s => vType en s) (fun acc s => if 8 < (acc ++ [vType en s]).length then bd 6 (nx en s) (sType en s) else sType en s) where
  is := fun acc s => rfl
  ref := fun acc s h => by
    refine (Ref.next h en).bind (fun _ => (ref_type h).bind (fun h2 => ?_) (fun f d => ?_)) (fun f d => ?_)
    · by_cases c : 8 ≤ acc.length
      · rw [if_pos c, if_pos (by simp; omega)]
        exact bad_dd h2 6 _
      · rw [if_neg c, if_neg (by simp; omega)]
        exact Ref.pure h2 _
    · split
      · exact dd_bd d _ _
      · exact d
    · split
      · exact dd_bd (dd_type d _) _ _
      · exact dd_type d _
  dd := fun f p d => dd_param p d
theorem ref_types (h : s.flt = none) : Ref (vTypes en s) (sTypes en s) (qTypes en (toPS s)) := by
  unfold qTypes
  have hI := itm_param (en := en)
  refine (ref_brackets hI h).bind (fun h2 => (ref_type h2).bind (fun h3 => ref_of (Ref.pure h3 _) ?_ rfl) (fun f d => d)) (fun f d => dd_type d _)
  unfold vTypes
  rw [brackets_put hI s]
theorem ref_name (h : s.flt = none) (full : Bool) (told : Tx → Bool) : Ref (vName en s) (sName en full told s) (qName en (fun _ => full) told (toPS s)) := by
  unfold qName
  refine (ref_want h 1).bind (fun h1 => ?_) (fun f d => ?_)
  · unfold sName
    dsimp only
    by_cases c : full = true
    · rw [if_pos c, if_pos c]
      have hd := bad_dd h1 6 (nx en s)
      show Dd _ _
      split
      · exact dd_bd hd _ _
      · exact hd
    rw [if_neg c, if_neg c]
    by_cases c2 : told (nx en s).body = true
    · rw [if_pos c2, if_pos c2]
      exact bad_dd h1 5 _
    · rw [if_neg c2, if_neg c2]
      exact Ref.pure h1 _
  · unfold sName
    dsimp only
    split <;> split <;> first | exact d | exact dd_bd d _ _ | exact dd_bd (dd_bd d _ _) _ _
end
end Go.Proofs.YtjomihlnjobndaaGreatDoor
/- The parser's own steps answer what the pure parser answers: the lines of a module, and the whole text. No program here. -/
namespace Go.Proofs.YtjomihlnjobndaaGreatDoor
set_option linter.unusedVariables false
set_option linter.unusedSimpArgs false

theorem dd_global {f : Flt} {en : Tok} (p : PMod × RS) (h : Dd f p.2) : Dd f (iGlobal en p).2 := dd_want (dd_size (dd_name h _ _ _) _) _ _
theorem dd_extern {f : Flt} {en : Tok} (p : PMod × RS) (h : Dd f p.2) : Dd f (iExtern en p).2 := dd_want (dd_types (dd_name h _ _ _) _) _ _
theorem dd_head {f : Flt} {en : Tok} (p : PMod × RS) (h : Dd f p.2) : Dd f (sHead en p) := dd_want (dd_types (dd_name h _ _ _) _) _ _
theorem dd_func {f : Flt} {en : Tok} (p : PMod × RS) (h : Dd f p.2) : Dd f (iFunc en p).2 := dd_body en _ _ (dd_head p h)
theorem dd_lines {f : Flt} (en : Tok) (k : Nat) (p : PMod × RS) (h : Dd f p.2) : Dd f (iLines en k p).2 := by
  cases k with
  | zero => exact h
  | succ k =>
    unfold iLines
    simp only [h.2]
    exact h
theorem ref_lines (en : Tok) : ∀ (k : Nat) (m : PMod) (s : RS), s.flt = none → Ref (iLines en k (m, s)).1 (iLines en k (m, s)).2 (qLines en k m (toPS s)) := by
  intro k
  induction k with
  | zero => intro m s h; exact Ref.pure h _
  | succ k ih =>
    intro m s h
    unfold qLines iLines
    refine Ref.get ?_
    have e1 : (toPS s).ts = s.ts := rfl
    rw [e1]
    dsimp only
    cases hts : s.ts with
    | nil => exact Ref.pure h _
    | cons front tl =>
      dsimp only
      refine Ref.ite (fun e => ?_) (fun e => ?_)
      · rw [if_pos e]
        exact (Ref.pass h).bind (fun h2 => ih _ _ h2) (fun f d => dd_lines en k _ d)
      rw [if_neg e]
      refine Ref.ite (fun e => ?_) (fun e => ?_)
      · rw [if_pos e]
        exact (Ref.pass h).bind (fun h1 => (ref_name h1 _ _).bind (fun h2 => (ref_size h2).bind (fun h3 => (ref_end h3).bind (fun h4 => ih _ _ h4)
          (fun f d => dd_lines en k _ d)) (fun f d => dd_lines en k _ (dd_want d _ _))) (fun f d => dd_lines en k _ (dd_want (dd_size d _) _ _))) (fun f d => dd_lines en k _ (dd_global _ d))
      rw [if_neg e]
      refine Ref.ite (fun e => ?_) (fun e => ?_)
      · rw [if_pos e]
        exact (Ref.pass h).bind (fun h1 => (ref_name h1 _ _).bind (fun h2 => (ref_types h2).bind (fun h3 => (ref_end h3).bind (fun h4 => ih _ _ h4)
          (fun f d => dd_lines en k _ d)) (fun f d => dd_lines en k _ (dd_want d _ _))) (fun f d => dd_lines en k _ (dd_want (dd_types d _) _ _))) (fun f d => dd_lines en k _ (dd_extern _ d))
      rw [if_neg e]
      refine Ref.ite (fun e => ?_) (fun e => ?_)
      · rw [if_pos e]
        exact (Ref.pass h).bind (fun h1 => (ref_name h1 _ _).bind (fun h2 => (ref_types h2).bind (fun h3 => (ref_end h3).bind (fun h4 => Ref.get ((ref_body en _ [] _ h4).bind (fun h5 => ih _ _ h5)
          (fun f d => dd_lines en k _ d))) (fun f d => dd_lines en k _ (dd_body en _ _ d))) (fun f d => dd_lines en k _ (dd_body en _ _ (dd_want d _ _)))) (fun f d => dd_lines en k _ (dd_body en _ _ (dd_want (dd_types d _) _ _)))) (fun f d => dd_lines en k _ (dd_func _ d))
      rw [if_neg e]
      exact dd_lines en k _ (bad_dd h 3 front)
/-- The state behind all lines, as the program steps. -/
def allLines (en : Tok) (ts : List Tok) : PMod × RS := iLines en (ts.length + 1) (⟨[], [], []⟩, ⟨ts, [], none⟩)
/-- What the pure parser answers, told by the program's steps. -/
theorem parseP_steps (en : Tok) (ts : List Tok) :
    (∃ f, (allLines en ts).2.flt = some f ∧ parseP en ts = .error f) ∨
    ((allLines en ts).2.flt = none ∧ parseP en ts = settleM en (allLines en ts).1 (allLines en ts).2.asked) := by
  have h := ref_lines en (ts.length + 1) ⟨[], [], []⟩ ⟨ts, [], none⟩ rfl
  have e : parseP en ts = ((qLines en (ts.length + 1) ⟨[], [], []⟩ (toPS ⟨ts, [], none⟩)) >>= fun x => settleM en x.1 x.2.asked) := rfl
  rw [e]
  cases hq : qLines en (ts.length + 1) ⟨[], [], []⟩ (toPS ⟨ts, [], none⟩) with
  | error f =>
    rw [hq] at h
    exact .inl ⟨f, h.1, rfl⟩
  | ok x =>
    obtain ⟨m, q⟩ := x
    rw [hq] at h
    obtain ⟨h1, h2, h3⟩ := h
    refine .inr ⟨h3, ?_⟩
    unfold allLines
    rw [h1]
    show settleM en m q.asked = _
    rw [← h2]
    rfl
end Go.Proofs.YtjomihlnjobndaaGreatDoor
/- The names are put in their places: the program's steps, which go on behind a fault, answer what the pure parser answers; so the whole parser. No program here. -/
namespace Go.Proofs.YtjomihlnjobndaaGreatDoor
set_option linter.unusedVariables false
set_option linter.unusedSimpArgs false

/-- The one ends as the other; what is kept is the first fault. -/
def RE {α : Type} (v : α) (f : Option Flt) : Except Flt α → Prop
  | .ok a => v = a ∧ f = none
  | .error e => f = some e
section
variable {α : Type}
/-- Each element in its turn; the fault goes along. -/
def sFold (g : α → Option Flt → α × Option Flt) : List α → Option Flt → List α × Option Flt
  | [], f => ([], f)
  | x :: xs, f => ((g x f).1 :: (sFold g xs (g x f).2).1, (sFold g xs (g x f).2).2)
theorem fold_keeps {g : α → Option Flt → α × Option Flt} (hk : ∀ x e, (g x (some e)).2 = some e) (e : Flt) : ∀ xs : List α, (sFold g xs (some e)).2 = some e
  | [] => rfl
  | x :: xs => by
    unfold sFold
    dsimp only
    rw [hk]
    exact fold_keeps hk e xs
theorem re_fold {g : α → Option Flt → α × Option Flt} {q : α → Except Flt α} (hg : ∀ x, RE (g x none).1 (g x none).2 (q x)) (hk : ∀ x e, (g x (some e)).2 = some e) :
    ∀ xs : List α, RE (sFold g xs none).1 (sFold g xs none).2 (xs.mapM q)
  | [] => ⟨rfl, rfl⟩
  | x :: xs => by
    rw [List.mapM_cons]
    unfold sFold
    dsimp only
    have h := hg x
    cases hq : q x with
    | error e =>
      rw [hq] at h
      rw [show (g x none).2 = some e from h, fold_keeps hk]
      exact rfl
    | ok y =>
      rw [hq] at h
      obtain ⟨h1, h2⟩ := h
      rw [h1, h2]
      have h3 := re_fold hg hk xs
      cases hm : xs.mapM q with
      | error e =>
        rw [hm] at h3
        rw [show (sFold g xs none).2 = some e from h3]
        exact rfl
      | ok ys =>
        rw [hm] at h3
        rw [h3.1, h3.2]
        exact ⟨rfl, rfl⟩
end
section
variable (en : Tok) (m : PMod) (asked : List Tok)
def nameOf (n : Int) : Tx := (asked.getD n.toNat en).body
def gA (a : Arg) (f : Option Flt) : Arg × Option Flt :=
  if a.kind = 5 then ({ a with n := (findVarP m (nameOf en asked a.n)).getD (-1) }, sAnswer en asked (findVarP m) a.n f) else (a, f)
def gC (x : PIns) (f : Option Flt) : PIns × Option Flt :=
  if x.op = 30 then ({ x with n := (findCalP m (nameOf en asked x.n)).getD (-1), ty := (calR m.xs m.fs ((findCalP m (nameOf en asked x.n)).getD (-1))).getD 0 }, sAnswer en asked (findCalP m) x.n f) else (x, f)
def gI (x : PIns) (f : Option Flt) : PIns × Option Flt :=
  ({ (gC en m asked x f).1 with args := (sFold (gA en m asked) (gC en m asked x f).1.args (gC en m asked x f).2).1 }, (sFold (gA en m asked) (gC en m asked x f).1.args (gC en m asked x f).2).2)
def gF (x : PFn) (f : Option Flt) : PFn × Option Flt :=
  ({ x with bs := (sFold (fun c => sFold (gI en m asked) c) x.bs f).1 }, (sFold (fun c => sFold (gI en m asked) c) x.bs f).2)
def gM (f : Option Flt) : PMod × Option Flt := ({ m with fs := (sFold (gF en m asked) m.fs f).1 }, (sFold (gF en m asked) m.fs f).2)
theorem answer_keeps (find : Tx → Option Int) (n : Int) (e : Flt) : sAnswer en asked find n (some e) = some e := by
  unfold sAnswer
  split <;> rfl
theorem re_answer (find : Tx → Option Int) (n : Int) : RE ((find (nameOf en asked n)).getD (-1)) (sAnswer en asked find n none) (answerP en asked find n) := by
  unfold sAnswer answerP nameOf
  dsimp only
  cases h : find (asked.getD n.toNat en).body with
  | some k => exact ⟨rfl, if_pos rfl⟩
  | none => exact if_neg (by simp)
theorem gA_keeps (a : Arg) (e : Flt) : (gA en m asked a (some e)).2 = some e := by
  unfold gA
  split
  · exact answer_keeps _ _ _ _ _
  · rfl
theorem re_gA (a : Arg) : RE (gA en m asked a none).1 (gA en m asked a none).2 (settleA en m asked a) := by
  unfold gA settleA
  by_cases c : a.kind = 5
  · rw [if_pos c, if_pos c]
    have h := re_answer en asked (findVarP m) a.n
    cases hq : answerP en asked (findVarP m) a.n with
    | error e => rw [hq] at h; exact h
    | ok k => rw [hq] at h; exact ⟨by rw [h.1], h.2⟩
  · rw [if_neg c, if_neg c]
    exact ⟨rfl, rfl⟩
theorem gC_keeps (x : PIns) (e : Flt) : (gC en m asked x (some e)).2 = some e := by
  unfold gC
  split
  · exact answer_keeps _ _ _ _ _
  · rfl
theorem gI_keeps (x : PIns) (e : Flt) : (gI en m asked x (some e)).2 = some e := by
  unfold gI
  dsimp only
  rw [gC_keeps]
  exact fold_keeps (gA_keeps en m asked) e _
theorem re_gI (x : PIns) : RE (gI en m asked x none).1 (gI en m asked x none).2 (settleI en m asked x) := by
  have hA := fun l : List Arg => re_fold (re_gA en m asked) (gA_keeps en m asked) l
  unfold gI settleI
  dsimp only
  by_cases c : x.op = 30
  · rw [if_pos c, show gC en m asked x none = ({ x with n := (findCalP m (nameOf en asked x.n)).getD (-1), ty := (calR m.xs m.fs ((findCalP m (nameOf en asked x.n)).getD (-1))).getD 0 }, sAnswer en asked (findCalP m) x.n none) from if_pos c]
    dsimp only
    have h := re_answer en asked (findCalP m) x.n
    cases hq : answerP en asked (findCalP m) x.n with
    | error e =>
      rw [hq] at h
      rw [show sAnswer en asked (findCalP m) x.n none = some e from h, fold_keeps (gA_keeps en m asked)]
      exact rfl
    | ok k =>
      rw [hq] at h
      rw [h.1, h.2]
      have h2 := hA x.args
      cases hm : x.args.mapM (settleA en m asked) with
      | error e =>
        rw [hm] at h2
        rw [show (sFold (gA en m asked) x.args none).2 = some e from h2]
        show RE _ _ (x.args.mapM (settleA en m asked) >>= _)
        rw [hm]
        exact rfl
      | ok l =>
        rw [hm] at h2
        rw [h2.1, h2.2]
        show RE _ _ (x.args.mapM (settleA en m asked) >>= _)
        rw [hm]
        exact ⟨rfl, rfl⟩
  · rw [if_neg c, show gC en m asked x none = (x, none) from if_neg c]
    dsimp only
    have h2 := hA x.args
    show RE _ _ (x.args.mapM (settleA en m asked) >>= _)
    cases hm : x.args.mapM (settleA en m asked) with
    | error e =>
      rw [hm] at h2
      rw [show (sFold (gA en m asked) x.args none).2 = some e from h2]
      exact rfl
    | ok l =>
      rw [hm] at h2
      rw [h2.1, h2.2]
      exact ⟨rfl, rfl⟩
theorem gF_keeps (x : PFn) (e : Flt) : (gF en m asked x (some e)).2 = some e := fold_keeps (fun c e => fold_keeps (gI_keeps en m asked) e c) e _
theorem re_gF (x : PFn) : RE (gF en m asked x none).1 (gF en m asked x none).2 (settleF en m asked x) := by
  have h := re_fold (g := fun c => sFold (gI en m asked) c) (q := fun c : List PIns => c.mapM (settleI en m asked)) (fun c => re_fold (re_gI en m asked) (gI_keeps en m asked) c) (fun c e => fold_keeps (gI_keeps en m asked) e c) x.bs
  unfold gF settleF
  dsimp only
  cases hm : x.bs.mapM (fun c : List PIns => c.mapM (settleI en m asked)) with
  | error e => rw [hm] at h; exact h
  | ok l => rw [hm] at h; rw [h.1, h.2]; exact ⟨rfl, rfl⟩
theorem gM_keeps (e : Flt) : (gM en m asked (some e)).2 = some e := fold_keeps (gF_keeps en m asked) e _
theorem re_gM : RE (gM en m asked none).1 (gM en m asked none).2 (settleM en m asked) := by
  have h := re_fold (re_gF en m asked) (gF_keeps en m asked) m.fs
  unfold gM settleM
  dsimp only
  cases hm : m.fs.mapM (settleF en m asked) with
  | error e => rw [hm] at h; exact h
  | ok l => rw [hm] at h; rw [h.1, h.2]; exact ⟨rfl, rfl⟩
end
/-- The whole parser, as the program steps: the module, and the fault that is kept. -/
def allP (en : Tok) (ts : List Tok) : PMod × Option Flt := gM en (allLines en ts).1 (allLines en ts).2.asked (allLines en ts).2.flt
/-- The program's steps answer the pure parser. -/
theorem parseP_all (en : Tok) (ts : List Tok) : RE (allP en ts).1 (allP en ts).2 (parseP en ts) := by
  unfold allP
  rcases parseP_steps en ts with ⟨f, h1, h2⟩ | ⟨h1, h2⟩
  · rw [h1, h2]
    exact gM_keeps _ _ _ _
  · rw [h1, h2]
    exact re_gM _ _ _
end Go.Proofs.YtjomihlnjobndaaGreatDoor
/- The parser: what a name is answered by. -/
namespace Go.Proofs.YtjomihlnjobndaaGreatDoor
open Go.RowKit Go.Maps
set_option linter.unusedVariables false
set_option linter.unusedSimpArgs false

section
variable {B b : Nat} {W w w' : World} {en : Tok} {m0 m1 m2 : Value} {m : LMod} {s : RS} {Z Z' : As}
/-- The parser with the module's places. -/
def Px (B : Nat) (W : World) (b : Nat) (en : Tok) (m : LMod) (s : RS) (Z : As) (w : World) : Prop :=
  Pk B W b en (.slice m.vp m.vn m.vc) (.slice m.xp m.xn m.xc) (.slice m.fp m.fn m.fc) s ((As.and (modAs B m) Z)) w
theorem Px.mk (h : Px B W b en m s Z w) : Mk B W b en (modD m) s Z w := ⟨m, rfl, h⟩
theorem Px.imp (h : Px B W b en m s Z w) (k : Z.le Z') : Px B W b en m s Z' w := Pk.imp h ((As.le.refl _).and k)
theorem Px.later (h : Px B W b en m s Z w) (hb : Below w.heap.size w w') : Px B W b en m s Z w' := Pk.later h hb
theorem Px.drew (h : Px B W b en m s Z w) : Px B W b en m s Z w.drew := Pk.drew h
theorem Px.b0 (h : Px B W b en m s Z w) : Px B W b en m s ((As.and (bxs []) Z)) w := h.imp (As.nob _)
theorem Px.nobx {bs : List (Nat × List Value)} (h : Px B W b en m s ((As.and (bxs bs) Z)) w) : Px B W b en m s Z w := h.imp (As.drop _ _)
theorem Px.st (h : Px B W b en m s Z w) : ∃ Y, St B W ((As.and Z Y)) w ∧ ∀ Z' w', St B W ((As.and Z' Y)) w' → Px B W b en m s Z' w' := by
  obtain ⟨Y, hs, back⟩ := Pk.st h
  exact ⟨(As.and (modAs B m) Y), hs.imp ⟨fun w x => ⟨x.1.2, x.1.1, x.2⟩, fun k => by simp only [As.and_c]; omega⟩, fun Z' w' h' => back _ _ (h'.imp ⟨fun w x => ⟨⟨x.2.1, x.1⟩, x.2.2⟩, fun k => by simp only [As.and_c]; omega⟩)⟩
theorem Px.bpush {bs : List (Nat × List Value)} (h : Px B W b en m s ((As.and (bxs bs) Z)) w) {g : Nat} (hg : g = w.heap.size) (cs : List Value) (t : TypeId) : Px B W b en m s ((As.and (bxs ((g, cs) :: bs)) Z)) (w.alloc (.cells cs.toArray t)) := by
  obtain ⟨Y, hs, back⟩ := h.st
  exact back _ _ (((hs.imp (As.asl _ _ _)).bpush hg cs t).imp (As.asr _ _ _))
theorem Px.bget {bs : List (Nat × List Value)} (h : Px B W b en m s ((As.and (bxs bs) Z)) w) (i : Nat) {g : Nat} {cs : List Value} (e : bs[i]? = some (g, cs)) : Box g cs w := h.mk.bget i e
theorem Px.refuse4 (h : Px B W b en m s Z w) (t : Tok) : Calls Tryz.prog 65 #[.pointer (some ⟨b, 0, none⟩), .int .i64 4, tkV t] w (fun e w' => e = .returned (.tuple #[]) ∧ Px B W b en m (bd 4 t s) Z w') := by
  obtain ⟨r, Z', hr, back⟩ := Pk.rd h
  exact (Go.Proofs.YtjomihlnjobndaaGreatDoor.refuse4 hr t).mono fun e w' ⟨h1, h2⟩ => ⟨h1, back _ _ (as_bd _ _ _) h2⟩
theorem Pk.ask_at (h : Pk B W b en m0 m1 m2 s Z w) (a : Nat) (ha : a < s.asked.length) : ∃ g ac, w.cell? ⟨b, 11, none⟩ = some (.slice (some ⟨g, 0, none⟩) s.asked.length ac) ∧ (w.cell? ⟨g, a * 4, none⟩ = some (.int .i64 s.asked[a].kind) ∧ w.cell? ⟨g, a * 4 + 1, none⟩ = some (.string (str s.asked[a].body)) ∧
      w.cell? ⟨g, a * 4 + 2, none⟩ = some (.int .i64 s.asked[a].line) ∧ w.cell? ⟨g, a * 4 + 3, none⟩ = some (.int .i64 s.asked[a].col)) ∧ g < w.heap.size ∧ s.asked.length ≤ ac ∧ ac ≤ maxLen := by
  obtain ⟨ap, ac, Y, c11, _, _, hS, _⟩ := h.asked
  have hr := hS.sat.1.2
  rcases id hr.2 with ⟨e, h0⟩ | ⟨g, cap, cur, e, hg, hh, k1, k2, _⟩
  · injection e with e1 e2 e3; omega
  · injection e with e1 e2 e3
    subst e1 e3
    have hcell : ∀ (r : Nat) (u : Value), r < 4 → (tokC s.asked[a])[r]? = some u → w.cell? ⟨g, a * 4 + r, none⟩ = some u := fun r u hr2 hu => by
      have := hr.cells (g := g) rfl (a * 4 + r) u (by rw [flat_get tokC 4 (fun _ => rfl) s.asked a ha r hr2]; exact hu)
      rw [Addr.add_mid, Nat.zero_add] at this
      exact this
    exact ⟨g, ac, c11, ⟨hcell 0 _ (by decide) rfl, hcell 1 _ (by decide) rfl, hcell 2 _ (by decide) rfl, hcell 3 _ (by decide) rfl⟩, (Array.getElem?_eq_some_iff.1 hh).1, k1, k2⟩
/-- A fault more, where no pieces are. -/
def wF (s : RS) (f : Option Flt) : RS := { s with flt := f }
theorem bd_wF {s : RS} (h : s.ts = []) (c : Nat) (t : Tok) : bd c t s = wF s (some (s.flt.getD (fltAt c t))) := by
  unfold bd wF
  rw [← h]
set_option maxRecDepth 100000 in
set_option maxHeartbeats 4000000 in
theorem answer_any (a : Nat) (ha : a < s.asked.length) (hts : s.ts = []) (ff : FuncId) (find : Tx → Option Int) (hen : ∀ (args : Array Value) (w : World), (callFunc ff args).run Tryz.prog w = .ok (.enter ff args) w)
    (hf : ∀ (x : Tx) (s1 : RS) (Z1 : As) (w1 : World), Mk B W b en (modD m) s1 Z1 w1 → Calls Tryz.prog ff #[.pointer (some ⟨b, 0, none⟩), .string (str x)] w1 (fun e w' => e = .returned (.tuple #[.int .i64 ((find x).getD (-1)), .bool (find x).isSome]) ∧ Below w1.heap.size w1 w')) (h : Px B W b en m s Z w) :
    Calls Tryz.prog 117 #[.pointer (some ⟨b, 0, none⟩), .int .i64 a, .func (.func ff) #[.pointer (some ⟨b, 0, none⟩)] #[]] w (fun e w' => e = .returned (.int .i64 ((find (nameOf en s.asked a)).getD (-1))) ∧ Px B W b en m (wF s (sAnswer en s.asked find a s.flt)) Z w') := by
  obtain ⟨g, ac, c11, ⟨d0, d1, d2, d3⟩, gl, hac, hmax⟩ := Pk.ask_at h a ha
  have bl := Pk.lt h
  have en1 : nameOf en s.asked a = s.asked[a].body := by unfold nameOf; simp [ha]
  have en2 : sAnswer en s.asked find a s.flt = if (find s.asked[a].body).isSome then s.flt else some (s.flt.getD (fltAt 4 s.asked[a])) := by unfold sAnswer; simp [ha]
  rw [en1, en2]
  obtain ⟨t, et⟩ : ∃ t, s.asked[a] = t := ⟨_, rfl⟩
  simp only [et] at d0 d1 d2 d3 ⊢
  obtain ⟨n, eN⟩ : ∃ n, s.asked.length = n := ⟨_, rfl⟩
  rw [eN] at c11 ha hac
  have h2 := h.b0.bpush rfl (tkC t) 30
  have C := hf t.body _ _ _ h2.mk
  obtain ⟨v, ev⟩ : ∃ v, (find t.body).getD (-1) = v := ⟨_, rfl⟩
  simp only [ev] at C ⊢
  have hd : decide ((a : Int) < (n : Int)) = true := by simp; omega
  unfold maxLen at hmax
  have HN := Lib.hid hac
  cases hF : (find t.body).isSome with
  | true =>
    rw [hF] at C
    rw [if_pos rfl]
    have H2 := Lib.hid h2
    clear h h2 en1 en2 et eN hf ev hF hts hac
    go_enter Tryz.func117, Tryz.ntmps117
    go_wp2_with ((with_reducible refine C.mono ?_); rintro e w5 ⟨rfl, hb5⟩)
    go_ret
    exact ⟨rfl, (H2.out.later hb5).nobx⟩
  | false =>
    rw [hF] at C
    rw [if_neg (by decide), ← bd_wF hts]
    have H2 := Lib.hid h2
    clear h h2 en1 en2 et eN hf ev hF hts hac
    go_enter Tryz.func117, Tryz.ntmps117
    go_wp2_with ((with_reducible refine C.mono ?_); rintro e w5 ⟨rfl, hb5⟩; have h5 := H2.out.later hb5; obtain ⟨y0, y1, y2, y3⟩ := h5.mk.tk4; have gl5 := (h5.bget 0 rfl).1)
    go_region_law (first | (go_simp; (with_reducible refine (h5.drew.refuse4 t).mono ?_); rintro e w6 ⟨rfl, h6⟩))
    all_goals
      go_wp2_with fail
      go_ret
      exact ⟨rfl, h6.nobx⟩
end
end Go.Proofs.YtjomihlnjobndaaGreatDoor
