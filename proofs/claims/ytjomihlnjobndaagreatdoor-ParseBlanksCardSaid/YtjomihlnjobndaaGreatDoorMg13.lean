/- Several texts in one: PgT2, PgT3, PgT4, PgT, PgU, PgU2, PgV, PgX0, PgX1. -/
import Derived.Test.YtjomihlnjobndaaGreatDoorMg12
/- The parser: a whole instruction. -/
namespace Go.Proofs.YtjomihlnjobndaaGreatDoor
open Go.RowKit Go.Maps
set_option linter.unusedVariables false
set_option linter.unusedSimpArgs false

section
variable {B b g : Nat} {W w : World} {en : Tok} {m0 m1 m2 : Value} {s : RS} {p : PIns × RS} {Z : As}
set_option maxRecDepth 100000 in
set_option maxHeartbeats 8000000 in
theorem instr_rf (K : Kn B W en) (hz : sz s ≤ 300000) (hk3 : (nx en s).kind = 3) (hst : standsP (opOfP (nx en (sReg en s))) (vReg en s) = false) (h : Pk B W b en m0 m1 m2 s Z w) :
    Calls Tryz.prog 151 #[.pointer (some ⟨b, 0, none⟩)] w (fun e w' => ∃ x : LI, insD x = (iInstr en s).1 ∧ e = .returned x.1.val ∧ Pk B W b en m0 m1 m2 (iInstr en s).2 ((As.and (insRow B x) Z)) w') := by
  have hfd := run_kind
  have ht := h.nx_gt K
  have h1 := Ik.new (g := w.heap.size + 1) (h.b0.bpush rfl z7 53) (by simp) 53
  have C1 := h1.next
  have hsz := Nat.le_trans (sz_word en (vReg en s) (sReg en s)) (sz_reg en s)
  unfold iInstr
  have hreg : sReg en s = sThis en 5 [61] (sWant en 3 s) := by unfold sReg; rw [if_pos hk3]
  have hvr : vReg en s = (numOf (nx en s) : Int) := by unfold vReg; rw [if_pos hk3]
  rw [hreg, hvr] at hst hsz ⊢
  obtain ⟨t0, et0⟩ : ∃ t0, nx en s = t0 := ⟨_, rfl⟩
  simp only [et0] at C1 hst hk3 ht hsz ⊢
  have hn4 : numOf t0 ≤ 4095 := ht.1.2 hk3
  have CW : ∀ w1, Ik B W b en m0 m1 m2 (w.heap.size + 1) (ins0, s) ((As.and (bxs [(w.heap.size, z7)]) Z)) w1 → Calls Tryz.prog 141 #[.pointer (some ⟨b, 0, none⟩), .int .i64 3] w1 (fun e w' => e = .returned (.agg #[.int .i64 3, .string (str t0.body), .int .i64 t0.line, .int .i64 t0.col]) ∧ Ik B W b en m0 m1 m2 (w.heap.size + 1) (ins0, sWant en 3 s) ((As.and (bxs [(w.heap.size, z7)]) Z)) w') := fun w1 h => by
    have := h.want 3 3 rfl
    simp only [et0] at this
    rw [show tkV t0 = .agg #[.int .i64 3, .string (str t0.body), .int .i64 t0.line, .int .i64 t0.col] by unfold tkV; rw [hk3]; rfl] at this
    exact this
  have CN : ∀ w1, Stc w1 → Calls Tryz.prog 143 #[.agg #[.int .i64 3, .string (str t0.body), .int .i64 t0.line, .int .i64 t0.col]] w1 fun e w' => e = .returned (.int .u64 (numOf t0)) ∧ Below w1.heap.size w1 w' := fun w1 hs => by
    have := numberOf_any t0 ht w1 hs.1
    rw [show tkV t0 = .agg #[.int .i64 3, .string (str t0.body), .int .i64 t0.line, .int .i64 t0.col] by unfold tkV; rw [hk3]; rfl] at this
    exact this
  rw [show tkV t0 = .agg #[.int .i64 3, .string (str t0.body), .int .i64 t0.line, .int .i64 t0.col] by unfold tkV; rw [hk3]; rfl] at C1
  obtain ⟨n, enn⟩ : ∃ n, numOf t0 = n := ⟨_, rfl⟩
  simp only [enn] at CN hn4 hst hsz ⊢
  clear enn
  obtain ⟨t, et⟩ : ∃ t, nx en (sThis en 5 [61] (sWant en 3 s)) = t := ⟨_, rfl⟩
  simp only [et] at hst ⊢
  have CX : ∀ w1, Ik B W b en m0 m1 m2 (w.heap.size + 1) (⟨0, (n : Int), 0, 0, 0, [], []⟩, (sThis en 5 [61] (sWant en 3 s))) ((As.and (bxs [(w.heap.size, z7)]) Z)) w1 → Calls Tryz.prog 66 #[.pointer (some ⟨b, 0, none⟩)] w1 (fun e w' => e = .returned (tkV t) ∧ Ik B W b en m0 m1 m2 (w.heap.size + 1) (⟨0, (n : Int), 0, 0, 0, [], []⟩, (sThis en 5 [61] (sWant en 3 s))) ((As.and (bxs [(w.heap.size, z7)]) Z)) w') := fun w1 h => by
    have := h.next
    simp only [et] at this
    exact this
  obtain ⟨op, eop⟩ : ∃ op, opOfP t = op := ⟨_, rfl⟩
  have CO : ∀ w1, Stc w1 → Calls Tryz.prog 180 #[tkV t] w1 fun e w' => e = .returned (.int .i64 (op : Nat)) ∧ Below w1.heap.size w1 w' := fun w1 hs => by rw [← eop]; exact opOf_any t w1 hs
  simp only [eop] at hst ⊢
  have hr : decide ((0 : Int) ≤ (n : Int)) = true := by simp
  have CST : ∀ w1, Calls Tryz.prog 181 #[.int .i64 (op : Nat), .bool true] w1 fun e w' => e = .returned (.bool false) ∧ w' = w1 := fun w1 => by
    have := standsBehind_any (op : Int) true w1
    unfold standsP at hst
    rw [hr] at hst
    rw [hst] at this
    exact this
  have hw : sWord en (n : Int) (sThis en 5 [61] (sWant en 3 s)) = ps (bd 3 t (sThis en 5 [61] (sWant en 3 s))) := by
    unfold sWord
    simp only [et, eop, hst]
    rfl
  rw [hw] at hsz ⊢
  have HK := Lib.hid (And.intro K (And.intro hz hsz))
  obtain ⟨d0, dg⟩ : w.heap.size < (w.alloc (.cells #[.int .i64 0, .int .i64 0] 3)).heap.size ∧ True := ⟨by simp, trivial⟩
  clear h h1 K hz hst ht et eop hsz hreg hvr hw et0 d0 dg hr
  have LF : Hid (Lim 800000 (((⟨op, (n : Int), 0, 0, 0, [], []⟩ : PIns), ps (bd 3 t (sThis en 5 [61] (sWant en 3 s)))) : PIns × RS)) := Lib.hid (by have a1 := HK.out.2.1; have a2 := HK.out.2.2; show 0 + 0 + 2 * sz (ps (bd 3 t (sThis en 5 [61] (sWant en 3 s)))) ≤ 800000; omega)
  go_enter Tryz.func151, Tryz.ntmps151
  go_wp2_with (first | ((with_reducible refine (C1).mono ?_); rintro e w2 ⟨rfl, h2⟩; have g1 := h2.cells.2.1; have gf := h2.frozen 1; have gg := h2.bget 0 rfl |>.1) | ((with_reducible refine (CW _ h2).mono ?_); rintro e w3 ⟨rfl, h3⟩) | ((with_reducible refine (CN _ (h3.stc HK.out.1)).mono ?_); rintro e w4 ⟨rfl, h4⟩; have h4b := (h3.later h4).reg (n : Int); have k1 := (h3.later h4).cells.2.1; have kf := (h3.later h4).frozen 1; have kg := (h3.later h4).bget 0 rfl |>.1) | ((with_reducible refine (h4b.wantMark [61] ⟨#[61]⟩ rfl).mono ?_); rintro e w5 ⟨rfl, h5⟩) | ((with_reducible refine (CX _ h5).mono ?_); rintro e w6 ⟨rfl, h6⟩; have h7 := h6.bpush rfl (tkC t) 30; have f0 := h7.cells.1; have f1 := h7.cells.2.1; have ff := h7.frozen 0; have fg := h7.bget 1 rfl |>.1; have fi : w.heap.size + 1 < _ := Ik.lt h7) | ((with_reducible refine (CO _ (h7.stc HK.out.1)).mono ?_); rintro e w8 ⟨rfl, h8⟩; have h8b := h7.later h8; have h9 := h8b.op (op : Nat); have y0 := h8b.cells.1; have y1 := h8b.cells.2.1; have yf := h8b.frozen 0; obtain ⟨v0, v1, v2, v3⟩ := h8b.tk4; obtain ⟨u0, u1, u2, u3⟩ := h9.tk4; have q0 := h9.cells.1; have q1 := h9.cells.2.1) | ((with_reducible refine (CST _).mono ?_); rintro e wx ⟨rfl, rfl⟩))
  go_region_law (first | (go_simp; (with_reducible refine (h9.drew.refuse3 t).mono ?_); rintro e w10 ⟨rfl, h10⟩))
  all_goals
    go_wp2_with (first | ((with_reducible refine (h10.pass).mono ?_); rintro e w11 ⟨rfl, h11⟩) | ((with_reducible refine (form_any HK.out.1 LF.out h11).mono ?_); rintro e w12 ⟨rfl, h12⟩) | ((with_reducible refine (h12.wantLineEnd).mono ?_); rintro e w13 ⟨rfl, h13⟩; obtain ⟨x, ex, ⟨a0, a1, a2, a3, a4, a5, a6⟩, ⟨b0, b1, b2, b3, b4, b5, b6, bf⟩, hF⟩ := h13.out))
    refine bodyPost_ret (v := x.1.val) (by simp [results, Tryz.results151, go_sem, Ins.val, b0, b1, b2, b3, b4, b5, b6]) rfl ⟨x, ex, rfl, hF⟩
end
end Go.Proofs.YtjomihlnjobndaaGreatDoor
/- The parser: a whole instruction. -/
namespace Go.Proofs.YtjomihlnjobndaaGreatDoor
open Go.RowKit Go.Maps
set_option linter.unusedVariables false
set_option linter.unusedSimpArgs false

section
variable {B b g : Nat} {W w : World} {en : Tok} {m0 m1 m2 : Value} {s : RS} {p : PIns × RS} {Z : As}
set_option maxRecDepth 100000 in
set_option maxHeartbeats 8000000 in
theorem instr_nt (K : Kn B W en) (hz : sz s ≤ 300000) (hk3 : (nx en s).kind ≠ 3) (hst : standsP (opOfP (nx en (sReg en s))) (vReg en s) = true) (h : Pk B W b en m0 m1 m2 s Z w) :
    Calls Tryz.prog 151 #[.pointer (some ⟨b, 0, none⟩)] w (fun e w' => ∃ x : LI, insD x = (iInstr en s).1 ∧ e = .returned x.1.val ∧ Pk B W b en m0 m1 m2 (iInstr en s).2 ((As.and (insRow B x) Z)) w') := by
  have hfd := run_kind
  have ht := h.nx_gt K
  have h1 := Ik.new (g := w.heap.size + 1) (h.b0.bpush rfl z7 53) (by simp) 53
  have C1 := h1.next
  have hsz := Nat.le_trans (sz_word en (vReg en s) (sReg en s)) (sz_reg en s)
  unfold iInstr
  have hreg : sReg en s = s := by unfold sReg; rw [if_neg hk3]
  have hvr : vReg en s = -1 := by unfold vReg; rw [if_neg hk3]
  rw [hreg, hvr] at hst hsz ⊢
  obtain ⟨t, et⟩ : ∃ t, nx en s = t := ⟨_, rfl⟩
  simp only [et] at C1 hst hk3 ht hsz ⊢
  have e3 : ((t.kind : Int) == 3) = false := beq_false_of_ne (by omega)
  unfold tkV at C1
  have et0 := et
  have CX : ∀ w1, Ik B W b en m0 m1 m2 (w.heap.size + 1) (⟨0, (-1), 0, 0, 0, [], []⟩, s) ((As.and (bxs [(w.heap.size, z7)]) Z)) w1 → Calls Tryz.prog 66 #[.pointer (some ⟨b, 0, none⟩)] w1 (fun e w' => e = .returned (tkV t) ∧ Ik B W b en m0 m1 m2 (w.heap.size + 1) (⟨0, (-1), 0, 0, 0, [], []⟩, s) ((As.and (bxs [(w.heap.size, z7)]) Z)) w') := fun w1 h => by
    have := h.next
    simp only [et] at this
    exact this
  obtain ⟨op, eop⟩ : ∃ op, opOfP t = op := ⟨_, rfl⟩
  have CO : ∀ w1, Stc w1 → Calls Tryz.prog 180 #[tkV t] w1 fun e w' => e = .returned (.int .i64 (op : Nat)) ∧ Below w1.heap.size w1 w' := fun w1 hs => by rw [← eop]; exact opOf_any t w1 hs
  simp only [eop] at hst ⊢
  have hr : decide ((0 : Int) ≤ (-1)) = false := by simp
  have CST : ∀ w1, Calls Tryz.prog 181 #[.int .i64 (op : Nat), .bool false] w1 fun e w' => e = .returned (.bool true) ∧ w' = w1 := fun w1 => by
    have := standsBehind_any (op : Int) false w1
    unfold standsP at hst
    rw [hr] at hst
    rw [hst] at this
    exact this
  have hw : sWord en (-1) s = ps s := by
    unfold sWord
    simp only [et, eop, hst]
    rfl
  rw [hw] at hsz ⊢
  have HK := Lib.hid (And.intro K (And.intro hz hsz))
  obtain ⟨d0, dg⟩ : w.heap.size < (w.alloc (.cells #[.int .i64 0, .int .i64 0] 3)).heap.size ∧ True := ⟨by simp, trivial⟩
  clear h h1 K hz hst ht et eop hsz hreg hvr hw et0 d0 dg hr
  have LF : Hid (Lim 800000 (((⟨op, (-1), 0, 0, 0, [], []⟩ : PIns), ps s) : PIns × RS)) := Lib.hid (by have a1 := HK.out.2.1; have a2 := HK.out.2.2; show 0 + 0 + 2 * sz (ps s) ≤ 800000; omega)
  go_enter Tryz.func151, Tryz.ntmps151
  go_wp2_with (first | ((with_reducible refine (C1).mono ?_); rintro e w2 ⟨rfl, h2⟩; have g1 := h2.cells.2.1; have gf := h2.frozen 1; have gg := h2.bget 0 rfl |>.1) | ((with_reducible refine (CX _ h2).mono ?_); rintro e w6 ⟨rfl, h6⟩; have h7 := h6.bpush rfl (tkC t) 30; have f0 := h7.cells.1; have f1 := h7.cells.2.1; have ff := h7.frozen 0; have fg := h7.bget 1 rfl |>.1; have fi : w.heap.size + 1 < _ := Ik.lt h7) | ((with_reducible refine (CO _ (h7.stc HK.out.1)).mono ?_); rintro e w8 ⟨rfl, h8⟩; have h8b := h7.later h8; have h9 := h8b.op (op : Nat); have y0 := h8b.cells.1; have y1 := h8b.cells.2.1; have yf := h8b.frozen 0; obtain ⟨v0, v1, v2, v3⟩ := h8b.tk4; obtain ⟨u0, u1, u2, u3⟩ := h9.tk4; have q0 := h9.cells.1; have q1 := h9.cells.2.1) | ((with_reducible refine (CST _).mono ?_); rintro e wx ⟨rfl, rfl⟩) | ((with_reducible refine (h9.pass).mono ?_); rintro e w11 ⟨rfl, h11⟩) | ((with_reducible refine (form_any HK.out.1 LF.out h11).mono ?_); rintro e w12 ⟨rfl, h12⟩) | ((with_reducible refine (h12.wantLineEnd).mono ?_); rintro e w13 ⟨rfl, h13⟩; obtain ⟨x, ex, ⟨a0, a1, a2, a3, a4, a5, a6⟩, ⟨b0, b1, b2, b3, b4, b5, b6, bf⟩, hF⟩ := h13.out))
  refine bodyPost_ret (v := x.1.val) (by simp [results, Tryz.results151, go_sem, Ins.val, b0, b1, b2, b3, b4, b5, b6]) rfl ⟨x, ex, rfl, hF⟩
end
end Go.Proofs.YtjomihlnjobndaaGreatDoor
/- The parser: a whole instruction. -/
namespace Go.Proofs.YtjomihlnjobndaaGreatDoor
open Go.RowKit Go.Maps
set_option linter.unusedVariables false
set_option linter.unusedSimpArgs false

section
variable {B b g : Nat} {W w : World} {en : Tok} {m0 m1 m2 : Value} {s : RS} {p : PIns × RS} {Z : As}
set_option maxRecDepth 100000 in
set_option maxHeartbeats 8000000 in
theorem instr_nf (K : Kn B W en) (hz : sz s ≤ 300000) (hk3 : (nx en s).kind ≠ 3) (hst : standsP (opOfP (nx en (sReg en s))) (vReg en s) = false) (h : Pk B W b en m0 m1 m2 s Z w) :
    Calls Tryz.prog 151 #[.pointer (some ⟨b, 0, none⟩)] w (fun e w' => ∃ x : LI, insD x = (iInstr en s).1 ∧ e = .returned x.1.val ∧ Pk B W b en m0 m1 m2 (iInstr en s).2 ((As.and (insRow B x) Z)) w') := by
  have hfd := run_kind
  have ht := h.nx_gt K
  have h1 := Ik.new (g := w.heap.size + 1) (h.b0.bpush rfl z7 53) (by simp) 53
  have C1 := h1.next
  have hsz := Nat.le_trans (sz_word en (vReg en s) (sReg en s)) (sz_reg en s)
  unfold iInstr
  have hreg : sReg en s = s := by unfold sReg; rw [if_neg hk3]
  have hvr : vReg en s = -1 := by unfold vReg; rw [if_neg hk3]
  rw [hreg, hvr] at hst hsz ⊢
  obtain ⟨t, et⟩ : ∃ t, nx en s = t := ⟨_, rfl⟩
  simp only [et] at C1 hst hk3 ht hsz ⊢
  have e3 : ((t.kind : Int) == 3) = false := beq_false_of_ne (by omega)
  unfold tkV at C1
  have et0 := et
  have CX : ∀ w1, Ik B W b en m0 m1 m2 (w.heap.size + 1) (⟨0, (-1), 0, 0, 0, [], []⟩, s) ((As.and (bxs [(w.heap.size, z7)]) Z)) w1 → Calls Tryz.prog 66 #[.pointer (some ⟨b, 0, none⟩)] w1 (fun e w' => e = .returned (tkV t) ∧ Ik B W b en m0 m1 m2 (w.heap.size + 1) (⟨0, (-1), 0, 0, 0, [], []⟩, s) ((As.and (bxs [(w.heap.size, z7)]) Z)) w') := fun w1 h => by
    have := h.next
    simp only [et] at this
    exact this
  obtain ⟨op, eop⟩ : ∃ op, opOfP t = op := ⟨_, rfl⟩
  have CO : ∀ w1, Stc w1 → Calls Tryz.prog 180 #[tkV t] w1 fun e w' => e = .returned (.int .i64 (op : Nat)) ∧ Below w1.heap.size w1 w' := fun w1 hs => by rw [← eop]; exact opOf_any t w1 hs
  simp only [eop] at hst ⊢
  have hr : decide ((0 : Int) ≤ (-1)) = false := by simp
  have CST : ∀ w1, Calls Tryz.prog 181 #[.int .i64 (op : Nat), .bool false] w1 fun e w' => e = .returned (.bool false) ∧ w' = w1 := fun w1 => by
    have := standsBehind_any (op : Int) false w1
    unfold standsP at hst
    rw [hr] at hst
    rw [hst] at this
    exact this
  have hw : sWord en (-1) s = ps (bd 3 t s) := by
    unfold sWord
    simp only [et, eop, hst]
    rfl
  rw [hw] at hsz ⊢
  have HK := Lib.hid (And.intro K (And.intro hz hsz))
  obtain ⟨d0, dg⟩ : w.heap.size < (w.alloc (.cells #[.int .i64 0, .int .i64 0] 3)).heap.size ∧ True := ⟨by simp, trivial⟩
  clear h h1 K hz hst ht et eop hsz hreg hvr hw et0 d0 dg hr
  have LF : Hid (Lim 800000 (((⟨op, (-1), 0, 0, 0, [], []⟩ : PIns), ps (bd 3 t s)) : PIns × RS)) := Lib.hid (by have a1 := HK.out.2.1; have a2 := HK.out.2.2; show 0 + 0 + 2 * sz (ps (bd 3 t s)) ≤ 800000; omega)
  go_enter Tryz.func151, Tryz.ntmps151
  go_wp2_with (first | ((with_reducible refine (C1).mono ?_); rintro e w2 ⟨rfl, h2⟩; have g1 := h2.cells.2.1; have gf := h2.frozen 1; have gg := h2.bget 0 rfl |>.1) | ((with_reducible refine (CX _ h2).mono ?_); rintro e w6 ⟨rfl, h6⟩; have h7 := h6.bpush rfl (tkC t) 30; have f0 := h7.cells.1; have f1 := h7.cells.2.1; have ff := h7.frozen 0; have fg := h7.bget 1 rfl |>.1; have fi : w.heap.size + 1 < _ := Ik.lt h7) | ((with_reducible refine (CO _ (h7.stc HK.out.1)).mono ?_); rintro e w8 ⟨rfl, h8⟩; have h8b := h7.later h8; have h9 := h8b.op (op : Nat); have y0 := h8b.cells.1; have y1 := h8b.cells.2.1; have yf := h8b.frozen 0; obtain ⟨v0, v1, v2, v3⟩ := h8b.tk4; obtain ⟨u0, u1, u2, u3⟩ := h9.tk4; have q0 := h9.cells.1; have q1 := h9.cells.2.1) | ((with_reducible refine (CST _).mono ?_); rintro e wx ⟨rfl, rfl⟩))
  go_region_law (first | (go_simp; (with_reducible refine (h9.drew.refuse3 t).mono ?_); rintro e w10 ⟨rfl, h10⟩))
  all_goals
    go_wp2_with (first | ((with_reducible refine (h10.pass).mono ?_); rintro e w11 ⟨rfl, h11⟩) | ((with_reducible refine (form_any HK.out.1 LF.out h11).mono ?_); rintro e w12 ⟨rfl, h12⟩) | ((with_reducible refine (h12.wantLineEnd).mono ?_); rintro e w13 ⟨rfl, h13⟩; obtain ⟨x, ex, ⟨a0, a1, a2, a3, a4, a5, a6⟩, ⟨b0, b1, b2, b3, b4, b5, b6, bf⟩, hF⟩ := h13.out))
    refine bodyPost_ret (v := x.1.val) (by simp [results, Tryz.results151, go_sem, Ins.val, b0, b1, b2, b3, b4, b5, b6]) rfl ⟨x, ex, rfl, hF⟩
end
end Go.Proofs.YtjomihlnjobndaaGreatDoor
/- The parser: a whole instruction. -/
namespace Go.Proofs.YtjomihlnjobndaaGreatDoor
open Go.RowKit Go.Maps
set_option linter.unusedVariables false
set_option linter.unusedSimpArgs false

section
variable {B b g : Nat} {W w : World} {en : Tok} {m0 m1 m2 : Value} {s : RS} {p : PIns × RS} {Z : As}
theorem instr_any (K : Kn B W en) (hz : sz s ≤ 300000) (h : Pk B W b en m0 m1 m2 s Z w) :
    Calls Tryz.prog 151 #[.pointer (some ⟨b, 0, none⟩)] w (fun e w' => ∃ x : LI, insD x = (iInstr en s).1 ∧ e = .returned x.1.val ∧ Pk B W b en m0 m1 m2 (iInstr en s).2 ((As.and (insRow B x) Z)) w') := by
  by_cases hk : (nx en s).kind = 3
  · cases hst : standsP (opOfP (nx en (sReg en s))) (vReg en s) with
    | true => exact instr_rt K hz hk hst h
    | false => exact instr_rf K hz hk hst h
  · cases hst : standsP (opOfP (nx en (sReg en s))) (vReg en s) with
    | true => exact instr_nt K hz hk hst h
    | false => exact instr_nf K hz hk hst h
end
end Go.Proofs.YtjomihlnjobndaaGreatDoor
/- The parser: a function that is being read; a label. -/
namespace Go.Proofs.YtjomihlnjobndaaGreatDoor
open Go.RowKit Go.Maps
set_option linter.unusedVariables false
set_option linter.unusedSimpArgs false

/-! What is owned lies in memory. -/
theorem row_in {α : Type} {B : Nat} {ty : TypeId} {m : Nat} {cel : α → List Value} {p : Option Addr} {n c : Nat} {xs : List α} {w : World} (hm : 0 < m) (hc : ∀ x, (cel x).length = m) (h : rowP B ty m cel p n c xs w) :
    n = xs.length ∧ n ≤ c ∧ c ≤ maxLen ∧ RowAt w.heap.size w p (xs.flatMap cel) := by
  obtain ⟨h1, h2⟩ := h
  rcases id h2.2 with ⟨e, h0⟩ | ⟨g, cap, cur, e, hg, hh, k1, k2, k3, k4⟩
  · injection e with e1 e2 e3
    subst e1 e2 e3
    have : xs = [] := List.eq_nil_of_length_eq_zero h1.symm
    subst this
    exact ⟨h1, Nat.le_refl _, Nat.zero_le _, fun j u hu => by simp at hu⟩
  · injection e with e1 e2 e3
    subst e1 e3
    refine ⟨h1, k1, k2, fun j u hu => ⟨⟨g, 0, none⟩, rfl, (Array.getElem?_eq_some_iff.1 hh).1, ?_⟩⟩
    have hj : j < n * m := by rw [h1, ← flat_len cel m hc]; exact (List.getElem?_eq_some_iff.1 hu).1
    rw [add0, h2.cellAt j hj]
    exact hu
theorem list_in {α : Type} {B : Nat} {ty : TypeId} {m : Nat} {cel : α → List Value} {p : Option Addr} {n c : Nat} {xs : List α} {w : World} {E : Nat → World → α → Prop} (hm : 0 < m) (hc : ∀ x, (cel x).length = m) (h : rowP B ty m cel p n c xs w) (hE : ∀ x ∈ xs, E w.heap.size w x) : ListIn cel E w.heap.size w p n c xs := by
  obtain ⟨h1, h2, h3, h4⟩ := row_in hm hc h
  exact ⟨h1, h2, h3, h4, hE⟩
theorem ins_in {B : Nat} {x : LI} {w : World} (h : (insRow B x).sat w) : InsIn w.heap.size w x :=
  ⟨list_in (m := 3) (by decide) (fun _ => rfl) h.1 (fun _ _ => trivial), list_in (m := 1) (by decide) (fun _ => rfl) h.2 (fun _ _ => trivial)⟩
/-- A block, a function's blocks. -/
def blkAs (B : Nat) (c : LB) : As := (As.and (rw' B 53 7 liC c.p c.n c.k c.code) (As.all (insRow B) c.code))
theorem blk_in {B : Nat} {x : LB} {w : World} (h : (blkAs B x).sat w) : BlkIn w.heap.size w x := list_in (m := 7) (by decide) (fun _ => rfl) h.1 (fun y hy => ins_in (As.all_mem _ h.2 y hy))
def blksAs (B : Nat) (bp : Option Addr) (bn bc : Nat) (bs : List LB) : As := (As.and (rw' B 50 1 blkC bp bn bc bs) (As.all (blkAs B) bs))
theorem blks_in {B : Nat} {bp : Option Addr} {bn bc : Nat} {bs : List LB} {w : World} (h : (blksAs B bp bn bc bs).sat w) : ListIn blkC BlkIn w.heap.size w bp bn bc bs := list_in (m := 1) (by decide) (fun _ => rfl) h.1 (fun y hy => blk_in (As.all_mem _ h.2 y hy))
/-- The function's box, and its blocks. -/
def Fk (B : Nat) (W : World) (b : Nat) (en : Tok) (m0 m1 m2 : Value) (gf : Nat) (nm : ByteArray) (pp : Option Addr) (pn pc : Nat) (rt : Int) (q : List (List PIns) × RS) (Z : As) (w : World) : Prop :=
  ∃ (bp : Option Addr) (bc : Nat) (bs : List LB), bs.map blkD = q.1 ∧ Pk B W b en m0 m1 m2 q.2 ((As.and (bx gf [.string nm, .slice pp pn pc, .int .i64 rt, .slice bp bs.length bc]) (As.and (blksAs B bp bs.length bc bs) Z))) w
section
variable {B b gf : Nat} {W w w' : World} {en : Tok} {m0 m1 m2 : Value} {nm : ByteArray} {pp : Option Addr} {pn pc : Nat} {rt : Int} {q : List (List PIns) × RS} {Z Z' : As}
theorem Fk.later (h : Fk B W b en m0 m1 m2 gf nm pp pn pc rt q Z w) (hb : Below w.heap.size w w') : Fk B W b en m0 m1 m2 gf nm pp pn pc rt q Z w' := by
  obtain ⟨bp, bc, bs, e, h⟩ := h
  exact ⟨bp, bc, bs, e, h.later hb⟩
theorem Fk.drew (h : Fk B W b en m0 m1 m2 gf nm pp pn pc rt q Z w) : Fk B W b en m0 m1 m2 gf nm pp pn pc rt q Z w.drew := h.later (below_drew (Below.refl _ _))
theorem Fk.alloc (h : Fk B W b en m0 m1 m2 gf nm pp pn pc rt q Z w) (o : Obj) : Fk B W b en m0 m1 m2 gf nm pp pn pc rt q Z (w.alloc o) := h.later ((Below.refl _ _).alloc (Nat.le_refl _) o)
theorem Fk.below (h : Fk B W b en m0 m1 m2 gf nm pp pn pc rt q Z w) : Below B W w := by obtain ⟨bp, bc, bs, e, h⟩ := h; exact h.below
theorem Fk.imp (h : Fk B W b en m0 m1 m2 gf nm pp pn pc rt q Z w) (k : Z.le Z') : Fk B W b en m0 m1 m2 gf nm pp pn pc rt q Z' w := by
  obtain ⟨bp, bc, bs, e, h⟩ := h
  exact ⟨bp, bc, bs, e, h.imp ((As.le.refl _).and ((As.le.refl _).and k))⟩
theorem Fk.pk (h : Fk B W b en m0 m1 m2 gf nm pp pn pc rt q Z w) : ∃ Z', Pk B W b en m0 m1 m2 q.2 Z' w ∧ ∀ s' w', Pk B W b en m0 m1 m2 s' Z' w' → Fk B W b en m0 m1 m2 gf nm pp pn pc rt (q.1, s') Z w' := by
  obtain ⟨bp, bc, bs, e, h⟩ := h
  exact ⟨_, h, fun s' w' h' => ⟨bp, bc, bs, e, h'⟩⟩
theorem Fk.rd (h : Fk B W b en m0 m1 m2 gf nm pp pn pc rt q Z w) : ∃ r Z', Rd B W b en m0 m1 m2 r q.2 Z' w ∧ ∀ s' w', s'.asked = q.2.asked → Rd B W b en m0 m1 m2 r s' Z' w' → Fk B W b en m0 m1 m2 gf nm pp pn pc rt (q.1, s') Z w' := by
  obtain ⟨Z1, h1, k1⟩ := h.pk
  obtain ⟨r, Z2, h2, k2⟩ := h1.rd
  exact ⟨r, Z2, h2, fun s' w' e h' => k1 _ _ (k2 _ _ e h')⟩
theorem Fk.st (h : Fk B W b en m0 m1 m2 gf nm pp pn pc rt q Z w) : ∃ Y, St B W ((As.and Z Y)) w ∧ ∀ Z' w', St B W ((As.and Z' Y)) w' → Fk B W b en m0 m1 m2 gf nm pp pn pc rt q Z' w' := by
  obtain ⟨bp, bc, bs, e, h⟩ := h
  obtain ⟨Y, hs, back⟩ := h.st
  refine ⟨(As.and (bx gf [.string nm, .slice pp pn pc, .int .i64 rt, .slice bp bs.length bc]) (As.and (blksAs B bp bs.length bc bs) Y)), hs.imp ⟨fun w x => ⟨x.1.2.2, x.1.1, x.1.2.1, x.2⟩, fun k => by simp only [As.and_c]; omega⟩, fun Z' w' h' => ⟨bp, bc, bs, e, back _ _ (h'.imp ⟨fun w x => ⟨⟨x.2.1, x.2.2.1, x.1⟩, x.2.2.2⟩, fun k => by simp only [As.and_c]; omega⟩)⟩⟩
/-- What is read of the function. -/
theorem Fk.cells (h : Fk B W b en m0 m1 m2 gf nm pp pn pc rt q Z w) : ∃ bp bc, w.cell? ⟨gf, 0, none⟩ = some (.string nm) ∧ w.cell? ⟨gf, 1, none⟩ = some (.slice pp pn pc) ∧ w.cell? ⟨gf, 2, none⟩ = some (.int .i64 rt) ∧ w.cell? ⟨gf, 3, none⟩ = some (.slice bp q.1.length bc) ∧ gf < w.heap.size ∧ w.frozen? ⟨gf, 3, none⟩ = false := by
  obtain ⟨bp, bc, bs, e, h⟩ := h
  have hb := h.box
  refine ⟨bp, bc, hb.get 0 _ rfl, hb.get 1 _ rfl, hb.get 2 _ rfl, ?_, hb.1, hb.2.1 3⟩
  rw [hb.get 3 _ rfl, ← e, List.length_map]
end
section
variable {B b : Nat} {W w : World} {en : Tok} {m0 m1 m2 : Value} {gf : Nat} {nm : ByteArray} {pp : Option Addr} {pn pc : Nat} {rt : Int} {p : List (List PIns) × RS} {Z : As} {bs : List (Nat × List Value)}
theorem Fk.b0 (h : Fk B W b en m0 m1 m2 gf nm pp pn pc rt p Z w) : Fk B W b en m0 m1 m2 gf nm pp pn pc rt p ((As.and (bxs []) Z)) w := h.imp (As.nob _)
theorem Fk.nobx (h : Fk B W b en m0 m1 m2 gf nm pp pn pc rt p ((As.and (bxs bs) Z)) w) : Fk B W b en m0 m1 m2 gf nm pp pn pc rt p Z w := h.imp (As.drop _ _)
theorem Fk.bpush (h : Fk B W b en m0 m1 m2 gf nm pp pn pc rt p ((As.and (bxs bs) Z)) w) {g : Nat} (hg : g = w.heap.size) (cs : List Value) (t : TypeId) : Fk B W b en m0 m1 m2 gf nm pp pn pc rt p ((As.and (bxs ((g, cs) :: bs)) Z)) (w.alloc (.cells cs.toArray t)) := by
  obtain ⟨Y, hs, back⟩ := h.st
  exact back _ _ (((hs.imp (As.asl _ _ _)).bpush hg cs t).imp (As.asr _ _ _))
theorem Fk.bget (h : Fk B W b en m0 m1 m2 gf nm pp pn pc rt p ((As.and (bxs bs) Z)) w) (i : Nat) {g : Nat} {cs : List Value} (e : bs[i]? = some (g, cs)) : Box g cs w := by
  obtain ⟨Y, hs, back⟩ := h.st
  exact (hs.imp (As.asl _ _ _)).bget i e
theorem Fk.bput (h : Fk B W b en m0 m1 m2 gf nm pp pn pc rt p ((As.and (bxs bs) Z)) w) (i : Nat) {g : Nat} {cs : List Value} (e : bs[i]? = some (g, cs)) (j : Nat) (v : Value) : Fk B W b en m0 m1 m2 gf nm pp pn pc rt p ((As.and (bxs (bs.set i (g, cs.set j v))) Z)) (w.setCell ⟨g, j, none⟩ v) := by
  obtain ⟨Y, hs, back⟩ := h.st
  exact back _ _ (((hs.imp (As.asl _ _ _)).bput i e j v).imp (As.asr _ _ _))
end
end Go.Proofs.YtjomihlnjobndaaGreatDoor
/- The reader's methods at a function's state. -/
namespace Go.Proofs.YtjomihlnjobndaaGreatDoor
open Go.RowKit Go.Maps
set_option linter.unusedVariables false
set_option linter.unusedSimpArgs false

section
variable {B b : Nat} {W w : World} {en : Tok} {m0 m1 m2 : Value} {gf : Nat} {nm : ByteArray} {pp : Option Addr} {pn pc : Nat} {rt : Int} {p : List (List PIns) × RS} {Z : As}
theorem Fk.stc (h : Fk B W b en m0 m1 m2 gf nm pp pn pc rt p Z w) (K : Kn B W en) : Stc w := K.1.later (h.below.mono K.2.1)
theorem Fk.nx_gt (h : Fk B W b en m0 m1 m2 gf nm pp pn pc rt p Z w) (K : Kn B W en) : Gt (nx en p.2) := by
  obtain ⟨r, Z', hr, back⟩ := h.rd
  exact hr.nx_gt K.2.2.1
theorem Fk.tk4 {g' : Nat} {t : Tok} {bs : List (Nat × List Value)} (h : Fk B W b en m0 m1 m2 gf nm pp pn pc rt p ((As.and (bxs ((g', tkC t) :: bs)) Z)) w) :
    w.cell? ⟨g', 0, none⟩ = some (.int .i64 t.kind) ∧ w.cell? ⟨g', 1, none⟩ = some (.string (str t.body)) ∧ w.cell? ⟨g', 2, none⟩ = some (.int .i64 t.line) ∧ w.cell? ⟨g', 3, none⟩ = some (.int .i64 t.col) := by
  have b0 := h.bget 0 rfl
  exact ⟨b0.get 0 _ rfl, b0.get 1 _ rfl, b0.get 2 _ rfl, b0.get 3 _ rfl⟩
theorem Fk.next (h : Fk B W b en m0 m1 m2 gf nm pp pn pc rt p Z w) : Calls Tryz.prog 66 #[.pointer (some ⟨b, 0, none⟩)] w (fun e w' => e = .returned (tkV (nx en p.2)) ∧ Fk B W b en m0 m1 m2 gf nm pp pn pc rt p Z w') := by
  obtain ⟨r, Z', hr, back⟩ := h.rd
  exact (next_any hr).mono fun e w' ⟨h1, h2⟩ => ⟨h1, h.later h2⟩
theorem Fk.pass (h : Fk B W b en m0 m1 m2 gf nm pp pn pc rt p Z w)  : Calls Tryz.prog 109 #[.pointer (some ⟨b, 0, none⟩)] w (fun e w' => e = .returned (.tuple #[]) ∧ Fk B W b en m0 m1 m2 gf nm pp pn pc rt (p.1, ps p.2) Z w') := by
  obtain ⟨r, Z', hr, back⟩ := h.rd
  have C : Calls Tryz.prog 109 #[.pointer (some ⟨b, 0, none⟩)] w (fun e w' => e = .returned (.tuple #[]) ∧ Rd B W b en m0 m1 m2 r (ps p.2) Z' w') := pass_any hr
  exact C.mono fun e w' ⟨h1, h2⟩ => ⟨h1, back _ _ (as_ps _) h2⟩
theorem Fk.refuse3 (h : Fk B W b en m0 m1 m2 gf nm pp pn pc rt p Z w) (t : Tok) : Calls Tryz.prog 65 #[.pointer (some ⟨b, 0, none⟩), .int .i64 3, tkV t] w (fun e w' => e = .returned (.tuple #[]) ∧ Fk B W b en m0 m1 m2 gf nm pp pn pc rt (p.1, bd 3 t p.2) Z w') := by
  obtain ⟨r, Z', hr, back⟩ := h.rd
  have C : Calls Tryz.prog 65 #[.pointer (some ⟨b, 0, none⟩), .int .i64 3, tkV t] w (fun e w' => e = .returned (.tuple #[]) ∧ Rd B W b en m0 m1 m2 r (bd 3 t p.2) Z' w') := Go.Proofs.YtjomihlnjobndaaGreatDoor.refuse3 hr t
  exact C.mono fun e w' ⟨h1, h2⟩ => ⟨h1, back _ _ (as_bd _ _ _) h2⟩
theorem Fk.refuse5 (h : Fk B W b en m0 m1 m2 gf nm pp pn pc rt p Z w) (t : Tok) : Calls Tryz.prog 65 #[.pointer (some ⟨b, 0, none⟩), .int .i64 5, tkV t] w (fun e w' => e = .returned (.tuple #[]) ∧ Fk B W b en m0 m1 m2 gf nm pp pn pc rt (p.1, bd 5 t p.2) Z w') := by
  obtain ⟨r, Z', hr, back⟩ := h.rd
  have C : Calls Tryz.prog 65 #[.pointer (some ⟨b, 0, none⟩), .int .i64 5, tkV t] w (fun e w' => e = .returned (.tuple #[]) ∧ Rd B W b en m0 m1 m2 r (bd 5 t p.2) Z' w') := Go.Proofs.YtjomihlnjobndaaGreatDoor.refuse5 hr t
  exact C.mono fun e w' ⟨h1, h2⟩ => ⟨h1, back _ _ (as_bd _ _ _) h2⟩
theorem Fk.refuse6 (h : Fk B W b en m0 m1 m2 gf nm pp pn pc rt p Z w) (t : Tok) : Calls Tryz.prog 65 #[.pointer (some ⟨b, 0, none⟩), .int .i64 6, tkV t] w (fun e w' => e = .returned (.tuple #[]) ∧ Fk B W b en m0 m1 m2 gf nm pp pn pc rt (p.1, bd 6 t p.2) Z w') := by
  obtain ⟨r, Z', hr, back⟩ := h.rd
  have C : Calls Tryz.prog 65 #[.pointer (some ⟨b, 0, none⟩), .int .i64 6, tkV t] w (fun e w' => e = .returned (.tuple #[]) ∧ Rd B W b en m0 m1 m2 r (bd 6 t p.2) Z' w') := Go.Proofs.YtjomihlnjobndaaGreatDoor.refuse6 hr t
  exact C.mono fun e w' ⟨h1, h2⟩ => ⟨h1, back _ _ (as_bd _ _ _) h2⟩
theorem Fk.refuse8 (h : Fk B W b en m0 m1 m2 gf nm pp pn pc rt p Z w) (t : Tok) : Calls Tryz.prog 65 #[.pointer (some ⟨b, 0, none⟩), .int .i64 8, tkV t] w (fun e w' => e = .returned (.tuple #[]) ∧ Fk B W b en m0 m1 m2 gf nm pp pn pc rt (p.1, bd 8 t p.2) Z w') := by
  obtain ⟨r, Z', hr, back⟩ := h.rd
  have C : Calls Tryz.prog 65 #[.pointer (some ⟨b, 0, none⟩), .int .i64 8, tkV t] w (fun e w' => e = .returned (.tuple #[]) ∧ Rd B W b en m0 m1 m2 r (bd 8 t p.2) Z' w') := Go.Proofs.YtjomihlnjobndaaGreatDoor.refuse8 hr t
  exact C.mono fun e w' ⟨h1, h2⟩ => ⟨h1, back _ _ (as_bd _ _ _) h2⟩
theorem Fk.passed (h : Fk B W b en m0 m1 m2 gf nm pp pn pc rt p Z w) (k : Nat) (x : Tx) (ki : Int) (xi : ByteArray) (ek : ki = (k : Int)) (ex : xi = str x) : Calls Tryz.prog 61 #[.pointer (some ⟨b, 0, none⟩), .int .i64 ki, .string xi] w (fun e w' => e = .returned (.bool (isTk k x (nx en p.2))) ∧ Fk B W b en m0 m1 m2 gf nm pp pn pc rt (p.1, sPassed en k x p.2) Z w') := by
  obtain ⟨r, Z', hr, back⟩ := h.rd
  have C : Calls Tryz.prog 61 #[.pointer (some ⟨b, 0, none⟩), .int .i64 ki, .string xi] w (fun e w' => e = .returned (.bool (isTk k x (nx en p.2))) ∧ Rd B W b en m0 m1 m2 r (sPassed en k x p.2) Z' w') := (by rw [ek, ex]; exact passed_any hr k x)
  exact C.mono fun e w' ⟨h1, h2⟩ => ⟨h1, back _ _ (as_passed _ _ _ _) h2⟩
theorem Fk.want (h : Fk B W b en m0 m1 m2 gf nm pp pn pc rt p Z w) (k : Nat) (ki : Int) (ek : ki = (k : Int)) : Calls Tryz.prog 141 #[.pointer (some ⟨b, 0, none⟩), .int .i64 ki] w (fun e w' => e = .returned (tkV (nx en p.2)) ∧ Fk B W b en m0 m1 m2 gf nm pp pn pc rt (p.1, sWant en k p.2) Z w') := by
  obtain ⟨r, Z', hr, back⟩ := h.rd
  have C : Calls Tryz.prog 141 #[.pointer (some ⟨b, 0, none⟩), .int .i64 ki] w (fun e w' => e = .returned (tkV (nx en p.2)) ∧ Rd B W b en m0 m1 m2 r (sWant en k p.2) Z' w') := (by rw [ek]; exact want_any hr k)
  exact C.mono fun e w' ⟨h1, h2⟩ => ⟨h1, back _ _ (as_want _ _ _) h2⟩
theorem Fk.wantMark (h : Fk B W b en m0 m1 m2 gf nm pp pn pc rt p Z w) (x : Tx) (xi : ByteArray) (ex : xi = str x) : Calls Tryz.prog 176 #[.pointer (some ⟨b, 0, none⟩), .string xi] w (fun e w' => e = .returned (.tuple #[]) ∧ Fk B W b en m0 m1 m2 gf nm pp pn pc rt (p.1, sThis en 5 x p.2) Z w') := by
  obtain ⟨r, Z', hr, back⟩ := h.rd
  have C : Calls Tryz.prog 176 #[.pointer (some ⟨b, 0, none⟩), .string xi] w (fun e w' => e = .returned (.tuple #[]) ∧ Rd B W b en m0 m1 m2 r (sThis en 5 x p.2) Z' w') := (by rw [ex]; exact wantMark_any hr x)
  exact C.mono fun e w' ⟨h1, h2⟩ => ⟨h1, back _ _ (as_this _ _ _ _) h2⟩
theorem Fk.wantWord (h : Fk B W b en m0 m1 m2 gf nm pp pn pc rt p Z w) (x : Tx) (xi : ByteArray) (ex : xi = str x) : Calls Tryz.prog 198 #[.pointer (some ⟨b, 0, none⟩), .string xi] w (fun e w' => e = .returned (.tuple #[]) ∧ Fk B W b en m0 m1 m2 gf nm pp pn pc rt (p.1, sThis en 1 x p.2) Z w') := by
  obtain ⟨r, Z', hr, back⟩ := h.rd
  have C : Calls Tryz.prog 198 #[.pointer (some ⟨b, 0, none⟩), .string xi] w (fun e w' => e = .returned (.tuple #[]) ∧ Rd B W b en m0 m1 m2 r (sThis en 1 x p.2) Z' w') := (by rw [ex]; exact wantWord_any hr x)
  exact C.mono fun e w' ⟨h1, h2⟩ => ⟨h1, back _ _ (as_this _ _ _ _) h2⟩
theorem Fk.wantLineEnd (h : Fk B W b en m0 m1 m2 gf nm pp pn pc rt p Z w)  : Calls Tryz.prog 113 #[.pointer (some ⟨b, 0, none⟩)] w (fun e w' => e = .returned (.tuple #[]) ∧ Fk B W b en m0 m1 m2 gf nm pp pn pc rt (p.1, sWant en 6 p.2) Z w') := by
  obtain ⟨r, Z', hr, back⟩ := h.rd
  have C : Calls Tryz.prog 113 #[.pointer (some ⟨b, 0, none⟩)] w (fun e w' => e = .returned (.tuple #[]) ∧ Rd B W b en m0 m1 m2 r (sWant en 6 p.2) Z' w') := wantLineEnd_any hr
  exact C.mono fun e w' ⟨h1, h2⟩ => ⟨h1, back _ _ (as_want _ _ _) h2⟩
theorem Fk.wantBlock (h : Fk B W b en m0 m1 m2 gf nm pp pn pc rt p Z w) (Kk : Kn B W en) : Calls Tryz.prog 213 #[.pointer (some ⟨b, 0, none⟩)] w (fun e w' => e = .returned (.int .i64 (vBlock en p.2)) ∧ Fk B W b en m0 m1 m2 gf nm pp pn pc rt (p.1, sBlock en p.2) Z w') := by
  obtain ⟨r, Z', hr, back⟩ := h.rd
  have C : Calls Tryz.prog 213 #[.pointer (some ⟨b, 0, none⟩)] w (fun e w' => e = .returned (.int .i64 (vBlock en p.2)) ∧ Rd B W b en m0 m1 m2 r (sBlock en p.2) Z' w') := wantBlock_any Kk hr
  exact C.mono fun e w' ⟨h1, h2⟩ => ⟨h1, back _ _ (as_block _ _) h2⟩
theorem Fk.wantType (h : Fk B W b en m0 m1 m2 gf nm pp pn pc rt p Z w) (Kk : Kn B W en) : Calls Tryz.prog 148 #[.pointer (some ⟨b, 0, none⟩)] w (fun e w' => e = .returned (.int .i64 (vType en p.2)) ∧ Fk B W b en m0 m1 m2 gf nm pp pn pc rt (p.1, sType en p.2) Z w') := by
  obtain ⟨r, Z', hr, back⟩ := h.rd
  have C : Calls Tryz.prog 148 #[.pointer (some ⟨b, 0, none⟩)] w (fun e w' => e = .returned (.int .i64 (vType en p.2)) ∧ Rd B W b en m0 m1 m2 r (sType en p.2) Z' w') := wantType_any Kk hr
  exact C.mono fun e w' ⟨h1, h2⟩ => ⟨h1, back _ _ (as_type _ _) h2⟩
theorem Fk.wantSize (h : Fk B W b en m0 m1 m2 gf nm pp pn pc rt p Z w) (Kk : Kn B W en) : Calls Tryz.prog 112 #[.pointer (some ⟨b, 0, none⟩)] w (fun e w' => e = .returned (.int .i64 (vSize en p.2)) ∧ Fk B W b en m0 m1 m2 gf nm pp pn pc rt (p.1, sSize en p.2) Z w') := by
  obtain ⟨r, Z', hr, back⟩ := h.rd
  have C : Calls Tryz.prog 112 #[.pointer (some ⟨b, 0, none⟩)] w (fun e w' => e = .returned (.int .i64 (vSize en p.2)) ∧ Rd B W b en m0 m1 m2 r (sSize en p.2) Z' w') := wantSize_any Kk hr
  exact C.mono fun e w' ⟨h1, h2⟩ => ⟨h1, back _ _ (as_size _ _) h2⟩
end
end Go.Proofs.YtjomihlnjobndaaGreatDoor
/- The parser: a label. -/
namespace Go.Proofs.YtjomihlnjobndaaGreatDoor
open Go.RowKit Go.Maps
set_option linter.unusedVariables false
set_option linter.unusedSimpArgs false

abbrev lb0 : LB := ⟨none, 0, 0, []⟩
theorem infoB : (Tryz.prog.info? 50).map (fun i => (i.zero, i.size, i.bytes)) = some (some (.agg #[.slice none 0 0]), 1, 24) := by kernel_rfl
theorem blk_lit (w : World) : ∀ j u, (blkC lb0)[j]? = some u → (w.alloc (.cells #[.slice none 0 0] 50)).cell? ((⟨w.heap.size, 0, none⟩ : Addr).add j) = some u := lit_cells w #[.slice none 0 0] _
section
variable {B b gf : Nat} {W w w' : World} {en : Tok} {m0 m1 m2 : Value} {nm : ByteArray} {pp : Option Addr} {pn pc : Nat} {rt : Int} {q : List (List PIns) × RS} {Z Z' : As}
/-- The blocks' row, that grows by an empty block. -/
theorem Fk.grow (h : Fk B W b en m0 m1 m2 gf nm pp pn pc rt q Z w) : ∃ bp bc bs Y, bs.map blkD = q.1 ∧ St B W ((As.and (rw' B 50 1 blkC bp bs.length bc bs) Y)) w ∧
    (∀ X w', St B W ((As.and X Y)) w' → w'.cell? ⟨gf, 3, none⟩ = some (.slice bp bs.length bc) ∧ w'.frozen? ⟨gf, 3, none⟩ = false ∧ gf < w'.heap.size) ∧
    ∀ bp' bc' w', St B W ((As.and (rw' B 50 1 blkC bp' (bs.length + 1) bc' (bs ++ [lb0])) Y)) w' → Fk B W b en m0 m1 m2 gf nm pp pn pc rt (q.1 ++ [[]], q.2) Z (w'.setCell ⟨gf, 3, none⟩ (.slice bp' (bs.length + 1) bc')) := by
  obtain ⟨bp, bc, bs, e, h⟩ := h
  obtain ⟨Y, hs, back⟩ := h.st
  refine ⟨bp, bc, bs, (As.and (bx gf [.string nm, .slice pp pn pc, .int .i64 rt, .slice bp bs.length bc]) (As.and (As.all (blkAs B) bs) (As.and Z Y))), e, hs.imp ⟨fun w x => ⟨x.1.2.1.1, x.1.1, x.1.2.1.2, x.1.2.2, x.2⟩, fun k => by simp only [As.and_c, blksAs]; omega⟩,
    fun X w' h' => (have hb : Box gf [.string nm, .slice pp pn pc, .int .i64 rt, .slice bp bs.length bc] w' := h'.sat.2.1; ⟨hb.get 3 _ rfl, hb.2.1 3, hb.1⟩), fun bp' bc' w' h' => ?_⟩
  refine ⟨bp', bc', bs ++ [lb0], by rw [List.map_append, e]; rfl, back _ _ ?_⟩
  have h4 : St B W ((As.and (bx gf [.string nm, .slice pp pn pc, .int .i64 rt, .slice bp bs.length bc]) (As.and (rw' B 50 1 blkC bp' (bs.length + 1) bc' (bs ++ [lb0])) (As.and (As.all (blkAs B) bs) (As.and Z Y))))) w' := h'.imp ⟨fun w x => ⟨x.2.1, x.1, x.2.2.1, x.2.2.2.1, x.2.2.2.2⟩, fun k => by simp only [As.and_c]; omega⟩
  have el : (bs ++ [lb0]).length = bs.length + 1 := by simp
  rw [el]
  refine (h4.set 3 (.slice bp' (bs.length + 1) bc')).imp ⟨fun w x => ⟨⟨x.1, ⟨x.2.1, (As.all_at_app _ w _ _).2 ⟨x.2.2.1, ⟨rw_nil w, trivial⟩, trivial⟩⟩, x.2.2.2.1⟩, x.2.2.2.2⟩, fun k => ?_⟩
  have e0 : (As.all (blkAs B) [lb0]).c k = 0 := rfl
  have e1 : (blksAs B bp' (bs.length + 1) bc' (bs ++ [lb0])).c k = (rw' B 50 1 blkC bp' (bs.length + 1) bc' (bs ++ [lb0])).c k + (As.all (blkAs B) bs).c k := by
    unfold blksAs
    have := As.all_c_app (blkAs B) k bs [lb0]
    rw [As.and_c]
    omega
  simp only [As.and_c, e1, bx_c]
  omega
set_option maxRecDepth 100000 in
set_option maxHeartbeats 4000000 in
theorem label_nn (K : Kn B W en) (n : Nat) (hq : q.1.length ≤ 1000000) (h64 : q.1.length ≠ 64) (hne : n = q.1.length) (h : Fk B W b en m0 m1 m2 gf nm pp pn pc rt q Z w) :
    Calls Tryz.prog 150 #[.pointer (some ⟨b, 0, none⟩), .pointer (some ⟨gf, 0, none⟩), .int .i64 n] w (fun e w' => e = .returned (.tuple #[]) ∧ Fk B W b en m0 m1 m2 gf nm pp pn pc rt (q.1 ++ [[]], sLabel en q.1.length n q.2) Z w') := by
  obtain ⟨iB, hiB, hz0, hz1, hz2⟩ := info_parts infoB
  have HI := Lib.hid (And.intro hiB (And.intro hz0 (And.intro hz1 hz2)))
  clear hiB hz0 hz1 hz2
  have es : sLabel en q.1.length n q.2 = sWant en 6 (sThis en 5 [58] (ps q.2)) := by
    unfold sLabel
    have a1 : bdIf (q.1.length = 64) 6 en q.2 = q.2 := by unfold bdIf; rw [if_neg h64]
    rw [a1]
    unfold bdIf
    rw [if_neg (by omega)]
  rw [es]
  obtain ⟨p0, c0, _, _, _, x0, y0, z0⟩ := h.cells
  obtain ⟨l, el⟩ : ∃ l, q.1.length = l := ⟨_, rfl⟩
  rw [el] at x0
  have f64 : ((l : Int) == 64) = false := beq_false_of_ne (by omega)
  have fne : (n : Int) = (l : Int) := by omega
  have HH := Lib.hid (And.intro h (And.intro el (And.intro hq K)))
  clear h el hq K es h64 hne
  go_enter Tryz.func150, Tryz.ntmps150
  go_wp2_with (first | ((with_reducible refine (HH.out.1.pass).mono ?_); rintro e w5 ⟨rfl, h5⟩) | ((with_reducible refine (h5.wantMark [58] ⟨#[58]⟩ rfl).mono ?_); rintro e w6 ⟨rfl, h6⟩) | ((with_reducible refine (h6.wantLineEnd).mono ?_); rintro e w7 ⟨rfl, h7⟩; obtain ⟨bp, bc, bs, Y, eb, hS, hbx, back⟩ := h7.grow; have HG := Lib.hid (And.intro eb (And.intro hS (And.intro hbx back))); have el2 : bs.length = l := (by have := congrArg List.length eb; rw [List.length_map, HH.out.2.1] at this; exact this); obtain ⟨k0, k1, k2⟩ := hbx _ _ hS; rw [el2] at k0; clear hS hbx back eb) | (at_builtin; refine wpList_app rfl _ _ 44 rfl iB _ 24 Tryz.underlying44 HI.out.1 HI.out.2.1 HI.out.2.2.1 HI.out.2.2.2 rfl (by decide) (by rw [← el2]; rfl) (HG.out.2.1.alloc _) lb0 _ 1 rfl rfl (blk_lit _) (blkC_one lb0) (by have := HH.out.2.2.1; have := HH.out.2.1; unfold maxLen; omega) (by have := HH.out.2.2.1; have := HH.out.2.1; omega) ?_; intro p' c' w8 hS8; obtain ⟨j0, j1, j2⟩ := HG.out.2.2.1 _ _ hS8; rw [el2] at j0))
  go_end0
  refine ⟨rfl, ?_⟩
  have q8 := HG.out.2.2.2 _ _ _ hS8
  rw [el2] at q8
  exact q8
set_option maxRecDepth 100000 in
set_option maxHeartbeats 4000000 in
theorem label_yn (K : Kn B W en) (n : Nat) (hq : q.1.length ≤ 1000000) (h64 : q.1.length = 64) (hne : n = q.1.length) (h : Fk B W b en m0 m1 m2 gf nm pp pn pc rt q Z w) :
    Calls Tryz.prog 150 #[.pointer (some ⟨b, 0, none⟩), .pointer (some ⟨gf, 0, none⟩), .int .i64 n] w (fun e w' => e = .returned (.tuple #[]) ∧ Fk B W b en m0 m1 m2 gf nm pp pn pc rt (q.1 ++ [[]], sLabel en q.1.length n q.2) Z w') := by
  obtain ⟨iB, hiB, hz0, hz1, hz2⟩ := info_parts infoB
  have HI := Lib.hid (And.intro hiB (And.intro hz0 (And.intro hz1 hz2)))
  clear hiB hz0 hz1 hz2
  have es : sLabel en q.1.length n q.2 = sWant en 6 (sThis en 5 [58] (ps (bd 6 (nx en q.2) q.2))) := by
    unfold sLabel
    have a1 : bdIf (q.1.length = 64) 6 en q.2 = bd 6 (nx en q.2) q.2 := by unfold bdIf; rw [if_pos h64]
    rw [a1]
    unfold bdIf
    rw [if_neg (by omega)]
  rw [es]
  obtain ⟨p0, c0, _, _, _, x0, y0, z0⟩ := h.cells
  obtain ⟨l, el⟩ : ∃ l, q.1.length = l := ⟨_, rfl⟩
  rw [el] at x0
  have f64 : ((l : Int) == 64) = true := by rw [← el, h64]; rfl
  have fne : (n : Int) = (l : Int) := by omega
  have HH := Lib.hid (And.intro h (And.intro el (And.intro hq K)))
  clear h el hq K es h64 hne
  go_enter Tryz.func150, Tryz.ntmps150
  go_wp2_with fail
  go_region_law (first | (go_simp; (with_reducible refine (HH.out.1.drew.next).mono ?_); rintro e w1 ⟨rfl, h1⟩) | (go_simp; (with_reducible refine (h1.refuse6 _).mono ?_); rintro e w2 ⟨rfl, h2⟩; obtain ⟨p2, c2, _, _, _, x2, y2, z2⟩ := (h2).cells; rw [HH.out.2.1] at x2))
  all_goals
    go_wp2_with (first | ((with_reducible refine (h2.pass).mono ?_); rintro e w5 ⟨rfl, h5⟩) | ((with_reducible refine (h5.wantMark [58] ⟨#[58]⟩ rfl).mono ?_); rintro e w6 ⟨rfl, h6⟩) | ((with_reducible refine (h6.wantLineEnd).mono ?_); rintro e w7 ⟨rfl, h7⟩; obtain ⟨bp, bc, bs, Y, eb, hS, hbx, back⟩ := h7.grow; have HG := Lib.hid (And.intro eb (And.intro hS (And.intro hbx back))); have el2 : bs.length = l := (by have := congrArg List.length eb; rw [List.length_map, HH.out.2.1] at this; exact this); obtain ⟨k0, k1, k2⟩ := hbx _ _ hS; rw [el2] at k0; clear hS hbx back eb) | (at_builtin; refine wpList_app rfl _ _ 44 rfl iB _ 24 Tryz.underlying44 HI.out.1 HI.out.2.1 HI.out.2.2.1 HI.out.2.2.2 rfl (by decide) (by rw [← el2]; rfl) (HG.out.2.1.alloc _) lb0 _ 1 rfl rfl (blk_lit _) (blkC_one lb0) (by have := HH.out.2.2.1; have := HH.out.2.1; unfold maxLen; omega) (by have := HH.out.2.2.1; have := HH.out.2.1; omega) ?_; intro p' c' w8 hS8; obtain ⟨j0, j1, j2⟩ := HG.out.2.2.1 _ _ hS8; rw [el2] at j0))
    go_end0
    refine ⟨rfl, ?_⟩
    have q8 := HG.out.2.2.2 _ _ _ hS8
    rw [el2] at q8
    exact q8
set_option maxRecDepth 100000 in
set_option maxHeartbeats 4000000 in
theorem label_ny (K : Kn B W en) (n : Nat) (hq : q.1.length ≤ 1000000) (h64 : q.1.length ≠ 64) (hne : n ≠ q.1.length) (h : Fk B W b en m0 m1 m2 gf nm pp pn pc rt q Z w) :
    Calls Tryz.prog 150 #[.pointer (some ⟨b, 0, none⟩), .pointer (some ⟨gf, 0, none⟩), .int .i64 n] w (fun e w' => e = .returned (.tuple #[]) ∧ Fk B W b en m0 m1 m2 gf nm pp pn pc rt (q.1 ++ [[]], sLabel en q.1.length n q.2) Z w') := by
  obtain ⟨iB, hiB, hz0, hz1, hz2⟩ := info_parts infoB
  have HI := Lib.hid (And.intro hiB (And.intro hz0 (And.intro hz1 hz2)))
  clear hiB hz0 hz1 hz2
  have es : sLabel en q.1.length n q.2 = sWant en 6 (sThis en 5 [58] (ps (bd 8 (nx en q.2) q.2))) := by
    unfold sLabel
    have a1 : bdIf (q.1.length = 64) 6 en q.2 = q.2 := by unfold bdIf; rw [if_neg h64]
    rw [a1]
    unfold bdIf
    rw [if_pos hne]
  rw [es]
  obtain ⟨p0, c0, _, _, _, x0, y0, z0⟩ := h.cells
  obtain ⟨l, el⟩ : ∃ l, q.1.length = l := ⟨_, rfl⟩
  rw [el] at x0
  have f64 : ((l : Int) == 64) = false := beq_false_of_ne (by omega)
  have fne : ((n : Int) != (l : Int)) = true := by simp; omega
  have HH := Lib.hid (And.intro h (And.intro el (And.intro hq K)))
  clear h el hq K es h64 hne
  go_enter Tryz.func150, Tryz.ntmps150
  go_wp2_with fail
  go_region_law (first | (go_simp; (with_reducible refine (HH.out.1.drew.next).mono ?_); rintro e w3 ⟨rfl, h3⟩) | (go_simp; (with_reducible refine (h3.refuse8 _).mono ?_); rintro e w4 ⟨rfl, h4⟩; obtain ⟨p4, c4, _, _, _, x4, y4, z4⟩ := (h4).cells; rw [HH.out.2.1] at x4))
  all_goals
    go_wp2_with (first | ((with_reducible refine (h4.pass).mono ?_); rintro e w5 ⟨rfl, h5⟩) | ((with_reducible refine (h5.wantMark [58] ⟨#[58]⟩ rfl).mono ?_); rintro e w6 ⟨rfl, h6⟩) | ((with_reducible refine (h6.wantLineEnd).mono ?_); rintro e w7 ⟨rfl, h7⟩; obtain ⟨bp, bc, bs, Y, eb, hS, hbx, back⟩ := h7.grow; have HG := Lib.hid (And.intro eb (And.intro hS (And.intro hbx back))); have el2 : bs.length = l := (by have := congrArg List.length eb; rw [List.length_map, HH.out.2.1] at this; exact this); obtain ⟨k0, k1, k2⟩ := hbx _ _ hS; rw [el2] at k0; clear hS hbx back eb) | (at_builtin; refine wpList_app rfl _ _ 44 rfl iB _ 24 Tryz.underlying44 HI.out.1 HI.out.2.1 HI.out.2.2.1 HI.out.2.2.2 rfl (by decide) (by rw [← el2]; rfl) (HG.out.2.1.alloc _) lb0 _ 1 rfl rfl (blk_lit _) (blkC_one lb0) (by have := HH.out.2.2.1; have := HH.out.2.1; unfold maxLen; omega) (by have := HH.out.2.2.1; have := HH.out.2.1; omega) ?_; intro p' c' w8 hS8; obtain ⟨j0, j1, j2⟩ := HG.out.2.2.1 _ _ hS8; rw [el2] at j0))
    go_end0
    refine ⟨rfl, ?_⟩
    have q8 := HG.out.2.2.2 _ _ _ hS8
    rw [el2] at q8
    exact q8
set_option maxRecDepth 100000 in
set_option maxHeartbeats 4000000 in
theorem label_yy (K : Kn B W en) (n : Nat) (hq : q.1.length ≤ 1000000) (h64 : q.1.length = 64) (hne : n ≠ q.1.length) (h : Fk B W b en m0 m1 m2 gf nm pp pn pc rt q Z w) :
    Calls Tryz.prog 150 #[.pointer (some ⟨b, 0, none⟩), .pointer (some ⟨gf, 0, none⟩), .int .i64 n] w (fun e w' => e = .returned (.tuple #[]) ∧ Fk B W b en m0 m1 m2 gf nm pp pn pc rt (q.1 ++ [[]], sLabel en q.1.length n q.2) Z w') := by
  obtain ⟨iB, hiB, hz0, hz1, hz2⟩ := info_parts infoB
  have HI := Lib.hid (And.intro hiB (And.intro hz0 (And.intro hz1 hz2)))
  clear hiB hz0 hz1 hz2
  have es : sLabel en q.1.length n q.2 = sWant en 6 (sThis en 5 [58] (ps (bd 8 (nx en (bd 6 (nx en q.2) q.2)) (bd 6 (nx en q.2) q.2)))) := by
    unfold sLabel
    have a1 : bdIf (q.1.length = 64) 6 en q.2 = bd 6 (nx en q.2) q.2 := by unfold bdIf; rw [if_pos h64]
    rw [a1]
    unfold bdIf
    rw [if_pos hne]
  rw [es]
  obtain ⟨p0, c0, _, _, _, x0, y0, z0⟩ := h.cells
  obtain ⟨l, el⟩ : ∃ l, q.1.length = l := ⟨_, rfl⟩
  rw [el] at x0
  have f64 : ((l : Int) == 64) = true := by rw [← el, h64]; rfl
  have fne : ((n : Int) != (l : Int)) = true := by simp; omega
  have HH := Lib.hid (And.intro h (And.intro el (And.intro hq K)))
  clear h el hq K es h64 hne
  go_enter Tryz.func150, Tryz.ntmps150
  go_wp2_with fail
  go_region_law (first | (go_simp; (with_reducible refine (HH.out.1.drew.next).mono ?_); rintro e w1 ⟨rfl, h1⟩) | (go_simp; (with_reducible refine (h1.refuse6 _).mono ?_); rintro e w2 ⟨rfl, h2⟩; obtain ⟨p2, c2, _, _, _, x2, y2, z2⟩ := (h2).cells; rw [HH.out.2.1] at x2))
  all_goals
    go_wp2_with fail
    go_region_law (first | (go_simp; (with_reducible refine (h2.drew.next).mono ?_); rintro e w3 ⟨rfl, h3⟩) | (go_simp; (with_reducible refine (h3.refuse8 _).mono ?_); rintro e w4 ⟨rfl, h4⟩; obtain ⟨p4, c4, _, _, _, x4, y4, z4⟩ := (h4).cells; rw [HH.out.2.1] at x4))
    all_goals
      go_wp2_with (first | ((with_reducible refine (h4.pass).mono ?_); rintro e w5 ⟨rfl, h5⟩) | ((with_reducible refine (h5.wantMark [58] ⟨#[58]⟩ rfl).mono ?_); rintro e w6 ⟨rfl, h6⟩) | ((with_reducible refine (h6.wantLineEnd).mono ?_); rintro e w7 ⟨rfl, h7⟩; obtain ⟨bp, bc, bs, Y, eb, hS, hbx, back⟩ := h7.grow; have HG := Lib.hid (And.intro eb (And.intro hS (And.intro hbx back))); have el2 : bs.length = l := (by have := congrArg List.length eb; rw [List.length_map, HH.out.2.1] at this; exact this); obtain ⟨k0, k1, k2⟩ := hbx _ _ hS; rw [el2] at k0; clear hS hbx back eb) | (at_builtin; refine wpList_app rfl _ _ 44 rfl iB _ 24 Tryz.underlying44 HI.out.1 HI.out.2.1 HI.out.2.2.1 HI.out.2.2.2 rfl (by decide) (by rw [← el2]; rfl) (HG.out.2.1.alloc _) lb0 _ 1 rfl rfl (blk_lit _) (blkC_one lb0) (by have := HH.out.2.2.1; have := HH.out.2.1; unfold maxLen; omega) (by have := HH.out.2.2.1; have := HH.out.2.1; omega) ?_; intro p' c' w8 hS8; obtain ⟨j0, j1, j2⟩ := HG.out.2.2.1 _ _ hS8; rw [el2] at j0))
      go_end0
      refine ⟨rfl, ?_⟩
      have q8 := HG.out.2.2.2 _ _ _ hS8
      rw [el2] at q8
      exact q8
theorem label_any (K : Kn B W en) (n : Nat) (hq : q.1.length ≤ 1000000) (h : Fk B W b en m0 m1 m2 gf nm pp pn pc rt q Z w) :
    Calls Tryz.prog 150 #[.pointer (some ⟨b, 0, none⟩), .pointer (some ⟨gf, 0, none⟩), .int .i64 n] w (fun e w' => e = .returned (.tuple #[]) ∧ Fk B W b en m0 m1 m2 gf nm pp pn pc rt (q.1 ++ [[]], sLabel en q.1.length n q.2) Z w') := by
  by_cases h64 : q.1.length = 64 <;> by_cases hne : n = q.1.length
  · exact label_yn K n hq h64 hne h
  · exact label_yy K n hq h64 hne h
  · exact label_nn K n hq h64 hne h
  · exact label_ny K n hq h64 hne h
end
end Go.Proofs.YtjomihlnjobndaaGreatDoor
/- The parser's own steps: pieces and names are no more than they were. No program here. -/
namespace Go.Proofs.YtjomihlnjobndaaGreatDoor
set_option linter.unusedVariables false
set_option linter.unusedSimpArgs false
set_option linter.unusedSectionVars false

theorem tsl_this (en : Tok) (k : Nat) (b : Tx) (s : RS) : tsl (sThis en k b s) ≤ tsl s := by unfold sThis; split; exact tsl_ps s; exact tsl_bd _ _ s
theorem tsl_passed (en : Tok) (k : Nat) (b : Tx) (s : RS) : tsl (sPassed en k b s) ≤ tsl s := by unfold sPassed; split; exact tsl_ps s; exact Nat.le_refl _
theorem tsl_size (en : Tok) (s : RS) : tsl (sSize en s) ≤ tsl s := by unfold sSize; split; exact Nat.le_trans (tsl_bd _ _ _) (tsl_want _ _ s); exact tsl_want _ _ s
/-- No more names with pieces, no more pieces. -/
def Le2 (s t : RS) : Prop := sz t ≤ sz s ∧ tsl t ≤ tsl s
theorem Le2.refl (s : RS) : Le2 s s := ⟨Nat.le_refl _, Nat.le_refl _⟩
theorem Le2.trans {a b c : RS} (h : Le2 a b) (k : Le2 b c) : Le2 a c := ⟨Nat.le_trans k.1 h.1, Nat.le_trans k.2 h.2⟩
theorem l2_this (en : Tok) (k : Nat) (b : Tx) (s : RS) : Le2 s (sThis en k b s) := ⟨sz_this _ _ _ _, tsl_this _ _ _ _⟩
theorem l2_want (en : Tok) (k : Nat) (s : RS) : Le2 s (sWant en k s) := ⟨sz_want _ _ _, tsl_want _ _ _⟩
theorem l2_type (en : Tok) (s : RS) : Le2 s (sType en s) := ⟨sz_type _ _, tsl_type _ _⟩
theorem l2_size (en : Tok) (s : RS) : Le2 s (sSize en s) := ⟨sz_size _ _, tsl_size _ _⟩
theorem l2_block (en : Tok) (s : RS) : Le2 s (sBlock en s) := ⟨sz_block _ _, tsl_block _ _⟩
theorem l2_passed (en : Tok) (k : Nat) (b : Tx) (s : RS) : Le2 s (sPassed en k b s) := ⟨sz_passed _ _ _ _, tsl_passed _ _ _ _⟩
theorem l2_ps (s : RS) : Le2 s (ps s) := ⟨sz_ps s, tsl_ps s⟩
theorem l2_bd (c : Nat) (t : Tok) (s : RS) : Le2 s (bd c t s) := ⟨sz_bd _ _ _, tsl_bd _ _ _⟩
theorem l2_flags (en : Tok) (s : RS) : Le2 s (sFlags en s) := ((l2_passed _ _ _ _).trans (l2_passed _ _ _ _)).trans (l2_passed _ _ _ _)
section
variable {en : Tok} (h6 : en.kind = 6)
include h6
theorem l2_operand (s : RS) : Le2 s (sOperand en s) := ⟨sz_operand h6 s, tsl_operand en s⟩
theorem l2_ops : ∀ (k : Nat) (s : RS), Le2 s (sOps en k s)
  | 0, s => Le2.refl s
  | k + 1, s => ((l2_this en 5 [44] s).trans (l2_operand h6 _)).trans (l2_ops k _)
theorem l2_operands : ∀ (k : Nat) (s : RS), Le2 s (sOperands en k s)
  | 0, s => Le2.refl s
  | k + 1, s => (l2_operand h6 s).trans (l2_ops h6 k _)
theorem l2_typed (n : Nat) (p : PIns × RS) : Le2 p.2 (iTyped en n p).2 := (l2_type en p.2).trans (l2_operands h6 n _)
theorem l2_more {β : Type} {item : β × RS → β × RS} (hi : ∀ p, Le2 p.2 (item p).2) : ∀ (k : Nat) (p : β × RS), Le2 p.2 (sMore en item k p).2
  | 0, p => Le2.refl _
  | k + 1, p => by
    unfold sMore
    split
    · exact ((l2_ps p.2).trans (hi (p.1, ps p.2))).trans (l2_more hi k _)
    · exact Le2.refl _
theorem l2_commas {β : Type} {item : β × RS → β × RS} (hi : ∀ p, Le2 p.2 (item p).2) (p : β × RS) : Le2 p.2 (sCommas en item p).2 := (hi p).trans (l2_more h6 hi _ _)
theorem l2_brackets {β : Type} {item : β × RS → β × RS} (hi : ∀ p, Le2 p.2 (item p).2) (p : β × RS) : Le2 p.2 (sBrackets en item p).2 := by
  unfold sBrackets
  split
  · exact (l2_this en 5 [40] p.2).trans (l2_ps _)
  · exact ((l2_this en 5 [40] p.2).trans (l2_commas h6 hi (p.1, sThis en 5 [40] p.2))).trans (l2_this en 5 [41] _)
theorem l2_phi (p : PIns × RS) : Le2 p.2 (iPhi en p).2 := by
  unfold iPhi
  split
  · exact l2_type en p.2
  · exact (l2_type en p.2).trans (l2_commas h6 (item := iPair en) (fun q => (l2_block en q.2).trans (l2_operand h6 _)) _)
theorem l2_form (p : PIns × RS) (h : p.1.op ≠ 30) : Le2 p.2 (iForm en p).2 := by
  unfold iForm
  by_cases c0 : 20 ≤ p.1.op ∧ p.1.op ≤ 22
  · rw [if_pos c0]
    exact (((l2_type en p.2).trans (l2_operand h6 _)).trans (l2_this en 1 [116, 111] _)).trans (l2_type en _)
  rw [if_neg c0]
  by_cases c1 : p.1.op = 23
  · rw [if_pos c1]; exact l2_typed h6 3 p
  rw [if_neg c1]
  by_cases c2 : p.1.op = 24 ∨ p.1.op = 27
  · rw [if_pos c2]; exact l2_typed h6 1 p
  rw [if_neg c2]
  by_cases c3 : p.1.op = 25
  · rw [if_pos c3]; exact l2_phi h6 p
  rw [if_neg c3]
  by_cases c4 : p.1.op = 26
  · rw [if_pos c4]; exact l2_size en p.2
  rw [if_neg c4]
  by_cases c5 : p.1.op = 29
  · rw [if_pos c5]; exact l2_operands h6 2 p.2
  rw [if_neg c5, if_neg h]
  by_cases c7 : p.1.op = 32
  · rw [if_pos c7]
    exact ((((l2_operand h6 p.2).trans (l2_this en 5 [44] _)).trans (l2_block en _)).trans (l2_this en 5 [44] _)).trans (l2_block en _)
  rw [if_neg c7]
  by_cases c8 : p.1.op = 31
  · rw [if_pos c8]; exact l2_block en p.2
  rw [if_neg c8]
  by_cases c9 : p.1.op = 33
  · rw [if_pos c9]
    split
    · exact l2_typed h6 1 p
    · exact Le2.refl _
  rw [if_neg c9]
  by_cases c10 : p.1.op = 34
  · rw [if_pos c10]; exact Le2.refl _
  rw [if_neg c10]
  by_cases c11 : p.1.op ≤ 13
  · rw [if_pos c11]
    exact (l2_flags en p.2).trans (l2_typed h6 2 ({ p.1 with fl := vFlags en p.2 }, sFlags en p.2))
  · rw [if_neg c11]; exact l2_typed h6 2 p
theorem call_le (p : PIns × RS) : sz (iCall en p).2 ≤ sz p.2 + 1 ∧ tsl (iCall en p).2 ≤ tsl p.2 := by
  unfold iCall
  have h1 := l2_brackets h6 (item := iArg en) (fun q => l2_operand h6 q.2) ({ p.1 with n := (sWant en 1 p.2).asked.length }, sAsk (nx en p.2) (sWant en 1 p.2))
  have h2 := l2_want en 1 p.2
  have h3 := sz_ask (nx en p.2) (sWant en 1 p.2)
  have h4 := tsl_ask (nx en p.2) (sWant en 1 p.2)
  obtain ⟨c, d⟩ := h2
  exact ⟨Nat.le_trans h1.1 (by show sz (sAsk (nx en p.2) (sWant en 1 p.2)) ≤ _; omega), Nat.le_trans h1.2 (by show tsl (sAsk (nx en p.2) (sWant en 1 p.2)) ≤ _; omega)⟩
/-- What an instruction reads: at least one piece, and no more names than pieces. -/
theorem instr_le (s : RS) (hs : tsl s ≠ 0) : sz (iInstr en s).2 ≤ sz s ∧ tsl (iInstr en s).2 + 1 ≤ tsl s := by
  have hreg : Le2 s (sReg en s) := by
    unfold sReg
    split
    · exact (l2_want en 3 s).trans (l2_this en 5 [61] _)
    · exact Le2.refl _
  unfold iInstr
  generalize hw : sWord en (vReg en s) (sReg en s) = s2
  have hl := l2_want en 6 (iForm en (⟨opOfP (nx en (sReg en s)), vReg en s, 0, 0, 0, [], []⟩, s2)).2
  have hword : Le2 (sReg en s) s2 ∧ (tsl (sReg en s) ≠ 0 → tsl s2 + 1 ≤ tsl (sReg en s)) := by
    rw [← hw]
    unfold sWord
    split
    · exact ⟨l2_ps _, fun h => by unfold tsl ps at *; simp; omega⟩
    · exact ⟨(l2_bd 3 _ _).trans (l2_ps _), fun h => by unfold tsl ps bd at *; simp; omega⟩
  have ht2 : tsl s2 + 1 ≤ tsl s := by
    by_cases h0 : tsl (sReg en s) = 0
    · have := hword.1.2; omega
    · have := hword.2 h0; have := hreg.2; omega
  by_cases h30 : opOfP (nx en (sReg en s)) = 30
  · have hst : standsP (30 : Nat) (vReg en s) = true := by unfold standsP; simp
    have e2 : s2 = ps (sReg en s) := by
      rw [← hw]
      unfold sWord
      rw [h30, hst]
      rfl
    have hne : (sReg en s).ts.length ≠ 0 := by
      refine ts_of_kind h6 (fun e => ?_)
      unfold opOfP at h30
      rw [e] at h30
      cases h30
    have h1 := sz_ps1 hne
    rw [h30] at hl ⊢
    have ef : iForm en (⟨((30 : Nat) : Int), vReg en s, 0, 0, 0, [], []⟩, s2) = iCall en (⟨((30 : Nat) : Int), vReg en s, 0, 0, 0, [], []⟩, s2) := rfl
    rw [ef] at hl ⊢
    have hc := call_le h6 (⟨((30 : Nat) : Int), vReg en s, 0, 0, 0, [], []⟩, s2)
    rw [← e2] at h1
    obtain ⟨a, b⟩ := hl
    obtain ⟨c, d⟩ := hc
    have := hreg.1
    dsimp only at c d ⊢
    exact ⟨by omega, by omega⟩
  · have hf := l2_form h6 (⟨opOfP (nx en (sReg en s)), vReg en s, 0, 0, 0, [], []⟩, s2) (fun e => h30 (Int.ofNat.inj e))
    obtain ⟨a, b⟩ := hl
    obtain ⟨c, d⟩ := hf
    have := hreg.1
    have := hword.1.1
    dsimp only at c d ⊢
    exact ⟨by omega, by omega⟩
omit h6 in
theorem label_le (len n : Nat) (s : RS) (hs : tsl s ≠ 0) : sz (sLabel en len n s) ≤ sz s ∧ tsl (sLabel en len n s) + 1 ≤ tsl s := by
  unfold sLabel
  have hb : ∀ (c : Prop) [Decidable c] (k : Nat) (s : RS), Le2 s (bdIf c k en s) := fun c _ k s => by unfold bdIf; split; exact l2_bd _ _ _; exact Le2.refl _
  have h1 := (hb (len = 64) 6 s).trans (hb (n ≠ len) 8 _)
  generalize bdIf (n ≠ len) 8 en (bdIf (len = 64) 6 en s) = s2 at *
  have h2 := (l2_this en 5 [58] (ps s2)).trans (l2_want en 6 _)
  have h3 : tsl (ps s2) + 1 ≤ tsl s := by
    have := h1.2
    unfold tsl ps at *
    simp
    omega
  have h4 := sz_ps s2
  exact ⟨Nat.le_trans h2.1 (Nat.le_trans h4 h1.1), by have := h2.2; omega⟩
end
end Go.Proofs.YtjomihlnjobndaaGreatDoor
/- The parser: a function's last block takes an instruction more; what the function's size is. -/
namespace Go.Proofs.YtjomihlnjobndaaGreatDoor
open Go.RowKit Go.Maps
set_option linter.unusedVariables false
set_option linter.unusedSimpArgs false

theorem infoIns : (Tryz.prog.info? 53).map (fun i => (i.zero, i.size, i.bytes)) = some (some (.agg #[.int .i64 0, .int .i64 0, .int .i64 0, .int .i64 0, .int .i64 0, .slice none 0 0, .slice none 0 0]), 7, 88) := by kernel_rfl
theorem ins_lit (w : World) (x : LI) : ∀ j u, (liC x)[j]? = some u → (w.alloc (.cells #[.int .i64 x.1.op, .int .i64 x.1.reg, .int .i64 x.1.ty, .int .i64 x.1.n, .int .i64 x.1.fl, .slice x.1.ap x.1.al x.1.ac, .slice x.1.tp x.1.tl x.1.tc] 53)).cell? ((⟨w.heap.size, 0, none⟩ : Addr).add j) = some u := lit_cells w _ _
section
variable {B b gf : Nat} {W w w' : World} {en : Tok} {m0 m1 m2 : Value} {nm : ByteArray} {pp : Option Addr} {pn pc : Nat} {rt : Int} {q : List (List PIns) × RS} {s s2 : RS} {Z Z' : As}
theorem Pk.satZ (h : Pk B W b en m0 m1 m2 s Z w) : Z.sat w := by
  obtain ⟨Y, hs, _⟩ := h.st
  exact hs.sat.1
/-- The function with its last block told. -/
def F0 (B gf : Nat) (nm : ByteArray) (pp : Option Addr) (pn pc : Nat) (rt : Int) (gB bc : Nat) (bs : List LB) (c : LB) (Z : As) : As :=
  (As.and (bx gf [.string nm, .slice pp pn pc, .int .i64 rt, .slice (some ⟨gB, 0, none⟩) (bs.length + 1) bc]) (As.and (rw' B 50 1 blkC (some ⟨gB, 0, none⟩) (bs.length + 1) bc (bs ++ [c])) (As.and (As.all (blkAs B) bs) (As.and (rw' B 53 7 liC c.p c.n c.k c.code) (As.and (As.all (insRow B) c.code) Z)))))
theorem F0.facts {gB bc : Nat} {bs : List LB} {c : LB} (h : (F0 B gf nm pp pn pc rt gB bc bs c Z).sat w) : w.cell? ⟨gf, 3, none⟩ = some (.slice (some ⟨gB, 0, none⟩) (bs.length + 1) bc) ∧ gf < w.heap.size ∧
    w.cell? ⟨gB, bs.length, none⟩ = some (.slice c.p c.n c.k) ∧ w.frozen? ⟨gB, bs.length, none⟩ = false ∧ gB < w.heap.size ∧ c.n = c.code.length ∧ bs.length + 1 ≤ bc ∧ bc ≤ maxLen := by
  obtain ⟨h1, h2, h3, h4, h5⟩ := h
  have hb : Box gf _ w := h1
  have hl : (bs ++ [c]).length = bs.length + 1 := by simp
  have hcc := h2.2.cells (g := gB) rfl bs.length (.slice c.p c.n c.k) (by
    rw [List.flatMap_append, List.getElem?_append_right (by rw [flat_len blkC 1 (fun _ => rfl)]; omega), flat_len blkC 1 (fun _ => rfl), Nat.mul_one, Nat.sub_self]
    rfl)
  rw [Addr.add_mid, Nat.zero_add] at hcc
  rcases h2.2.2 with ⟨e, _⟩ | ⟨g, cap, cur, e, hg, hh, k1, k2, k3, k4⟩
  · cases e
  · injection e with e1 e2 e3
    injection e1 with e1
    injection e1 with e1
    subst e1 e3
    exact ⟨hb.get 3 _ rfl, hb.1, hcc, by simp [World.frozen?, hh], (Array.getElem?_eq_some_iff.1 hh).1, h4.1, k1, k2⟩
theorem Fk.open (h : Fk B W b en m0 m1 m2 gf nm pp pn pc rt q Z w) (hq : q.1.length ≠ 0) : ∃ gB bc bs c, q.1 = bs.map blkD ++ [blkD c] ∧ Pk B W b en m0 m1 m2 q.2 (F0 B gf nm pp pn pc rt gB bc bs c Z) w := by
  obtain ⟨bp, bc, l, e, h⟩ := h
  have hl : l ≠ [] := fun e2 => hq (by rw [← e, e2]; rfl)
  obtain ⟨bs, c, rfl⟩ : ∃ bs c, l = bs ++ [c] := ⟨l.dropLast, l.getLast hl, (List.dropLast_concat_getLast hl).symm⟩
  have el : (bs ++ [c]).length = bs.length + 1 := by simp
  rw [el] at h
  have hr := h.satZ.2.1.1
  have : ∃ gB, bp = some ⟨gB, 0, none⟩ := by
    rcases hr.2.2 with ⟨e2, h0⟩ | ⟨g, cap, cur, e2, _⟩
    · injection e2 with e3 e4 e5; cases e4
    · injection e2 with e3 e4 e5; exact ⟨g, e3⟩
  obtain ⟨gB, rfl⟩ := this
  refine ⟨gB, bc, bs, c, by rw [← e, List.map_append]; rfl, h.imp ⟨fun w x => ⟨x.1, x.2.1.1, ?_, ?_, ?_, x.2.2⟩, fun k => ?_⟩⟩
  · exact ((As.all_at_app _ w _ _).1 x.2.1.2).1
  · exact ((As.all_at_app _ w _ _).1 x.2.1.2).2.1.1
  · exact ((As.all_at_app _ w _ _).1 x.2.1.2).2.1.2
  · have e1 := As.all_c_app (blkAs B) k bs [c]
    have e2 : (As.all (blkAs B) [c]).c k = (rw' B 53 7 liC c.p c.n c.k c.code).c k + (As.all (insRow B) c.code).c k + 0 := rfl
    simp only [F0, blksAs, As.and_c, e1, e2]
    omega
theorem Fk.close {gB bc : Nat} {bs : List LB} {c : LB} (h : Pk B W b en m0 m1 m2 s (F0 B gf nm pp pn pc rt gB bc bs c Z) w) : Fk B W b en m0 m1 m2 gf nm pp pn pc rt (bs.map blkD ++ [blkD c], s) Z w := by
  have el : (bs ++ [c]).length = bs.length + 1 := by simp
  refine ⟨some ⟨gB, 0, none⟩, bc, bs ++ [c], by rw [List.map_append]; rfl, ?_⟩
  rw [el]
  refine h.imp ⟨fun w x => ⟨x.1, ⟨x.2.1, (As.all_at_app _ w _ _).2 ⟨x.2.2.1, ⟨x.2.2.2.1, x.2.2.2.2.1⟩, trivial⟩⟩, x.2.2.2.2.2⟩, fun k => ?_⟩
  have e1 := As.all_c_app (blkAs B) k bs [c]
  have e2 : (As.all (blkAs B) [c]).c k = (rw' B 53 7 liC c.p c.n c.k c.code).c k + (As.all (insRow B) c.code).c k + 0 := rfl
  simp only [F0, blksAs, As.and_c, e1, e2]
  omega
/-- An instruction more. -/
theorem Fk.push1 {gB bc : Nat} {bs : List LB} {c : LB} {x : LI} (h : Pk B W b en m0 m1 m2 s ((As.and (insRow B x) (F0 B gf nm pp pn pc rt gB bc bs c Z))) w) : ∃ Y, St B W ((As.and (rw' B 53 7 liC c.p c.n c.k c.code) Y)) w ∧
    (∀ X w', St B W ((As.and X Y)) w' → w'.cell? ⟨gB, bs.length, none⟩ = some (.slice c.p c.n c.k) ∧ w'.frozen? ⟨gB, bs.length, none⟩ = false ∧ gB < w'.heap.size) ∧
    ∀ p' n' c' w', St B W ((As.and (rw' B 53 7 liC p' n' c' (c.code ++ [x])) Y)) w' → Fk B W b en m0 m1 m2 gf nm pp pn pc rt (bs.map blkD ++ [blkD c ++ [insD x]], s) Z (w'.setCell ⟨gB, bs.length, none⟩ (.slice p' n' c')) := by
  obtain ⟨Y, hs, back⟩ := h.st
  have hl : (bs ++ [c]).length = bs.length + 1 := by simp
  refine ⟨(As.and (insRow B x) (As.and (bx gf [.string nm, .slice pp pn pc, .int .i64 rt, .slice (some ⟨gB, 0, none⟩) (bs.length + 1) bc]) (As.and (rw' B 50 1 blkC (some ⟨gB, 0, none⟩) (bs.length + 1) bc (bs ++ [c])) (As.and (As.all (blkAs B) bs) (As.and (As.all (insRow B) c.code) (As.and Z Y)))))), ?_, fun X w' h' => ?_, fun p' n' c' w' h' => ?_⟩
  · exact hs.imp ⟨fun w x => ⟨x.1.2.2.2.2.1, x.1.1, x.1.2.1, x.1.2.2.1, x.1.2.2.2.1, x.1.2.2.2.2.2.1, x.1.2.2.2.2.2.2, x.2⟩, fun k => by simp only [F0, As.and_c]; omega⟩
  · have h2 := h'.sat.2.2.2.1
    have hcc := h2.2.cells (g := gB) rfl bs.length (.slice c.p c.n c.k) (by
      rw [List.flatMap_append, List.getElem?_append_right (by rw [flat_len blkC 1 (fun _ => rfl)]; omega), flat_len blkC 1 (fun _ => rfl), Nat.mul_one, Nat.sub_self]
      rfl)
    rw [Addr.add_mid, Nat.zero_add] at hcc
    rcases h2.2.2 with ⟨e, _⟩ | ⟨g, cap, cur, e, hg, hh, k1, k2, k3, k4⟩
    · cases e
    · injection e with e1 e2 e3
      injection e1 with e1
      injection e1 with e1
      subst e1
      exact ⟨hcc, by simp [World.frozen?, hh], (Array.getElem?_eq_some_iff.1 hh).1⟩
  · have h4 : St B W ((As.and (rw' B 50 1 blkC (some ⟨gB, 0, none⟩) (bs.length + 1) bc (bs ++ [c])) ((As.and (rw' B 53 7 liC p' n' c' (c.code ++ [x])) (As.and (insRow B x) (As.and (bx gf [.string nm, .slice pp pn pc, .int .i64 rt, .slice (some ⟨gB, 0, none⟩) (bs.length + 1) bc]) (As.and (As.all (blkAs B) bs) (As.and (As.all (insRow B) c.code) (As.and Z Y))))))))) w' :=
      h'.imp ⟨fun w x => ⟨x.2.2.2.1, x.1, x.2.1, x.2.2.1, x.2.2.2.2.1, x.2.2.2.2.2.1, x.2.2.2.2.2.2.1, x.2.2.2.2.2.2.2⟩, fun k => by simp only [As.and_c]; omega⟩
    have h5 := h4.upd1 bs.length 0 (.slice p' n' c') ⟨p', n', c', c.code ++ [x]⟩ (flat_set1 blkC 1 (by decide) (fun _ => rfl) (bs ++ [c]) bs.length 0 (by simp) (by decide) _ _ rfl)
    rw [Nat.mul_one, Nat.add_zero] at h5
    have es : (bs ++ [c]).set bs.length ⟨p', n', c', c.code ++ [x]⟩ = bs ++ [⟨p', n', c', c.code ++ [x]⟩] := by simp
    rw [es] at h5
    have e3 : blkD (⟨p', n', c', c.code ++ [x]⟩ : LB) = blkD c ++ [insD x] := by unfold blkD; simp
    rw [← e3]
    refine Fk.close (gB := gB) (bc := bc) (back _ _ (h5.imp ⟨fun w y => ?_, fun k => ?_⟩))
    · exact ⟨⟨y.2.2.2.1, y.1, y.2.2.2.2.1, y.2.1, (As.all_at_app _ w _ _).2 ⟨y.2.2.2.2.2.1, y.2.2.1, trivial⟩, y.2.2.2.2.2.2.1⟩, y.2.2.2.2.2.2.2⟩
    · have e1 := As.all_c_app (insRow B) k c.code [x]
      have e2 : (As.all (insRow B) [x]).c k = (insRow B x).c k + 0 := rfl
      simp only [F0, As.and_c, e1, e2]
      omega
/-- What ir.Size tells. -/
theorem located_len (bs : List LB) : (located bs).flatten.length = (bs.map blkD).flatten.length := by
  unfold located blkD
  induction bs with
  | nil => rfl
  | cons c bs ih => simp at ih ⊢; omega
theorem Fk.size (h : Fk B W b en m0 m1 m2 gf nm pp pn pc rt q Z w) (hq : q.1.flatten.length < 4611686018427387904) : ∃ bp bc, w.cell? ⟨gf, 0, none⟩ = some (.string nm) ∧ w.cell? ⟨gf, 1, none⟩ = some (.slice pp pn pc) ∧ w.cell? ⟨gf, 2, none⟩ = some (.int .i64 rt) ∧ w.cell? ⟨gf, 3, none⟩ = some (.slice bp q.1.length bc) ∧ gf < w.heap.size ∧
    Calls Tryz.prog 13 #[.agg #[.string nm, .slice pp pn pc, .int .i64 rt, .slice bp q.1.length bc]] w fun e w' => e = .returned (.int .i64 (q.1.flatten.length : Nat)) ∧ Below w.heap.size w w' := by
  obtain ⟨bp, bc, bs, e, h⟩ := h
  have hb := h.box
  have hl := blks_in h.satZ.2.1
  have hlen : q.1.length = bs.length := by rw [← e, List.length_map]
  rw [hlen]
  refine ⟨bp, bc, hb.get 0 _ rfl, hb.get 1 _ rfl, hb.get 2 _ rfl, hb.get 3 _ rfl, hb.1, ?_⟩
  have el := located_len bs
  rw [e] at el
  exact Size_any w.heap.size (located bs) w (.string nm) (.slice pp pn pc) rt nm pp pn pc bp bs.length bc (Nat.le_refl _) (blocksAt_in hl) _ el hq
/-- The text's end, as the parser holds it. -/
theorem Fk.ends (h : Fk B W b en m0 m1 m2 gf nm pp pn pc rt q Z w) : (∃ tp tc, w.cell? ⟨b, 0, none⟩ = some (.slice tp (tsl q.2) tc)) ∧ w.cell? ⟨b, 1, none⟩ = some (.int .i64 en.kind) ∧ w.cell? ⟨b, 2, none⟩ = some (.string (str en.body)) ∧ w.cell? ⟨b, 3, none⟩ = some (.int .i64 en.line) ∧ w.cell? ⟨b, 4, none⟩ = some (.int .i64 en.col) ∧ b < w.heap.size ∧ lenAt b w = tsl q.2 := by
  obtain ⟨r, Z', hr, _⟩ := h.rd
  have hlen := hr.len
  obtain ⟨_, _, tp, tn, tc, hs⟩ := hr
  have hb := hs.box
  have hn : tn = q.2.ts.length := hs.sat.2.1.1
  exact ⟨⟨tp, tc, by rw [hb.get 0 _ rfl, hn]; rfl⟩, hb.get 1 _ rfl, hb.get 2 _ rfl, hb.get 3 _ rfl, hb.get 4 _ rfl, hb.1, hlen⟩
end
end Go.Proofs.YtjomihlnjobndaaGreatDoor
