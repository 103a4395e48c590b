/- MemApart: the walk. -/
import Derived.Test.YtkbkgbkoplcgeaaMY
import Derived.Test.YtkbkgbkoplcgeaaMF
namespace Go.Proofs.Ytkbkgbkoplcgeaa
open Go.RowKit Go.Maps
set_option linter.unusedVariables false
set_option linter.unusedSimpArgs false

theorem MemD.only {o o2 : Nat → Nat} {mb : Nat} {D : Dm} {w w' : World} (h : MemD o2 mb D w) (g : Only o w w') (hd : ∀ k, o k = 0 ∨ o2 k = 0) : MemD o2 mb D w' := by
  obtain ⟨ab, st, h1, h2, h3⟩ := h
  exact ⟨ab, st, h1.same g.size (fun k hk => g.block k (h1.inside k hk) ((hd k).resolve_right hk)), h2, h3⟩
theorem MemD.inside {o : Nat → Nat} {mb : Nat} {D : Dm} {w : World} (h : MemD o mb D w) : ∀ k, o k ≠ 0 → k < w.heap.size := by
  obtain ⟨ab, st, h1, _, _⟩ := h
  exact h1.inside
theorem ext_apart {o o' o2 : Nat → Nat} {mb : Nat} {D : Dm} {w : World} (h : MemD o2 mb D w) (he : Ext o o' w) (hd : ∀ k, o k = 0 ∨ o2 k = 0) : ∀ k, o' k = 0 ∨ o2 k = 0 := fun k => by
  by_cases e : o2 k = 0
  · exact .inr e
  · left; rw [he k (h.inside k e)]; exact (hd k).resolve_right e
/-- Three memories that share nothing. -/
structure Ap (W : World) (oa ob oc : Nat → Nat) (ma m2 mc : Nat) (Da Db Dc : Dm) (w : World) : Prop where
  a : MemD oa ma Da w
  b : MemD ob m2 Db w
  c : MemD oc mc Dc w
  ab : ∀ k, oa k = 0 ∨ ob k = 0
  ac : ∀ k, oa k = 0 ∨ oc k = 0
  bc : ∀ k, ob k = 0 ∨ oc k = 0
  low : ∀ k, k < W.heap.size → oa k = 0 ∧ ob k = 0 ∧ oc k = 0
  past : Below W.heap.size W w
theorem only_past {o : Nat → Nat} {W w w' : World} (h : Below W.heap.size W w) (g : Only o w w') (ho : ∀ k, k < W.heap.size → o k = 0) : Below W.heap.size W w' := h.trans (g.below ho h.size)
theorem Ap.later {W : World} {oa ob oc : Nat → Nat} {ma m2 mc : Nat} {Da Db Dc : Dm} {w w' : World} (h : Ap W oa ob oc ma m2 mc Da Db Dc w) (hb : Below w.heap.size w w') : Ap W oa ob oc ma m2 mc Da Db Dc w' :=
  ⟨h.a.later hb, h.b.later hb, h.c.later hb, h.ab, h.ac, h.bc, h.low, h.past.trans (hb.mono h.past.size)⟩
theorem Ap.goA {W : World} {oa ob oc : Nat → Nat} {ma m2 mc : Nat} {Da Db Dc D' : Dm} {w w' : World} (h : Ap W oa ob oc ma m2 mc Da Db Dc w) (g : GoesD oa ma D' w w') : ∃ o', Ap W o' ob oc ma m2 mc D' Db Dc w' := by
  obtain ⟨o', g1, g2, g3⟩ := g
  exact ⟨o', g1, h.b.only g2 h.ab, h.c.only g2 h.ac, ext_apart h.b g3 h.ab, ext_apart h.c g3 h.ac, h.bc, fun k hk => ⟨(g3 k (Nat.lt_of_lt_of_le hk h.past.size)).trans (h.low k hk).1, (h.low k hk).2⟩, only_past h.past g2 (fun k hk => (h.low k hk).1)⟩
theorem Ap.goB {W : World} {oa ob oc : Nat → Nat} {ma m2 mc : Nat} {Da Db Dc D' : Dm} {w w' : World} (h : Ap W oa ob oc ma m2 mc Da Db Dc w) (g : GoesD ob m2 D' w w') : ∃ o', Ap W oa o' oc ma m2 mc Da D' Dc w' := by
  obtain ⟨o', g1, g2, g3⟩ := g
  exact ⟨o', h.a.only g2 (fun k => (h.ab k).symm), g1, h.c.only g2 h.bc, fun k => (ext_apart h.a g3 (fun k => (h.ab k).symm) k).symm, h.ac, ext_apart h.c g3 h.bc, fun k hk => ⟨(h.low k hk).1, (g3 k (Nat.lt_of_lt_of_le hk h.past.size)).trans (h.low k hk).2.1, (h.low k hk).2.2⟩, only_past h.past g2 (fun k hk => (h.low k hk).2.1)⟩
theorem Ap.goC {W : World} {oa ob oc : Nat → Nat} {ma m2 mc : Nat} {Da Db Dc D' : Dm} {w w' : World} (h : Ap W oa ob oc ma m2 mc Da Db Dc w) (g : GoesD oc mc D' w w') : ∃ o', Ap W oa ob o' ma m2 mc Da Db D' w' := by
  obtain ⟨o', g1, g2, g3⟩ := g
  exact ⟨o', h.a.only g2 (fun k => (h.ac k).symm), h.b.only g2 (fun k => (h.bc k).symm), g1, h.ab, fun k => (ext_apart h.a g3 (fun k => (h.ac k).symm) k).symm, fun k => (ext_apart h.b g3 (fun k => (h.bc k).symm) k).symm, fun k hk => ⟨(h.low k hk).1, (h.low k hk).2.1, (g3 k (Nat.lt_of_lt_of_le hk h.past.size)).trans (h.low k hk).2.2⟩, only_past h.past g2 (fun k hk => (h.low k hk).2.2)⟩
theorem dFree_len (D : Dm) (k : Int) : (dFree D k).length = D.length := by unfold dFree; split <;> simp
theorem dStore_len (D : Dm) (t : Int) (x v : Vl) : (dStore D t x v).length = D.length := by unfold dStore; split <;> simp
theorem dSet_len (D : Dm) (k a b : Int) : (dSet D k a b).length = D.length := by unfold dSet; split <;> simp
theorem dNew_len (D : Dm) (n : Int) (y : By) : (dNew D n y).length = D.length + 1 := by unfold dNew; simp
theorem doD_len (D : Dm) (s : Sp) : (doD D s).length = D.length + (if s.kind = 1 then 1 else 0) := by
  unfold doD
  split
  · exact dNew_len _ _ _
  · split
    · exact dFree_len _ _
    · split
      · exact dStore_len _ _ _ _
      · split
        · exact dSet_len _ _ _ _
        · rfl
theorem dNews_len (xs : List Int) : (dNews xs).length = xs.length := by unfold dNews; simp
set_option maxRecDepth 100000 in
set_option maxHeartbeats 4000000 in
theorem memApart_walk (p0 p1 p2 : Option Addr) (c0 c1 c2 : Nat) (xs : List Int) (l1 l2 : List Sp) (W : World) (hx : ListIn intC NoMem W.heap.size W p0 xs.length c0 xs) (hxw : ∀ x ∈ xs, wf64 x)
    (h1 : ListIn spC NoMem W.heap.size W p1 l1.length c1 l1) (h1w : ∀ s ∈ l1, SpOk s) (h2 : ListIn spC NoMem W.heap.size W p2 l2.length c2 l2) (h2w : ∀ s ∈ l2, SpOk s) :
    Calls Try.prog 8 #[.slice p0 xs.length c0, .slice p1 l1.length c1, .slice p2 l2.length c2] W fun e w' => e = .returned (.bool true) ∧ Below W.heap.size W w' := by
  have cl := lives_any W
  have k1 := h1.2.1
  have k2 := h1.2.2.1
  have k3 := h2.2.1
  have k4 := h2.2.2.1
  have k5 := hx.2.1
  have k6 := hx.2.2.1
  unfold maxLen at k2 k4 k6
  have H1 := Lib.hid h1
  have H2 := Lib.hid h2
  have HW1 := Lib.hid h1w
  have HW2 := Lib.hid h2w
  have cN : ∀ w, xs.length ≤ 1000 → Below W.heap.size W w → Calls Try.prog 22 #[.slice p0 xs.length c0] w fun e w' => ∃ o mb, e = .returned (.pointer (some ⟨mb, 0, none⟩)) ∧ MemD o mb (dNews xs) w' ∧ Below w.heap.size w w' ∧ (∀ k, k < w.heap.size → o k = 0) := fun w hl hb => NewD w p0 c0 xs (ListIn.lasts lasts_NoMem hx hb hb.size) hxw hl
  clear hx h1 h2 h1w h2w
  by_cases hb : 20 < xs.length ∨ 30 < l1.length ∨ 30 < l2.length
  · by_cases g1 : 20 < xs.length
    · have g1' : (20 : Int) < (xs.length : Int) := by omega
      clear hb g1
      go_enter Try.func8, Try.ntmps8
      go_wp2_with (first | ((with_reducible refine cl.mono ?_); rintro e w1 ⟨rfl, hb1⟩))
      go_ret
      exact ⟨rfl, hb1⟩
    · have g1' : ¬ (20 : Int) < (xs.length : Int) := by omega
      by_cases g2 : 30 < l1.length
      · have g2' : (30 : Int) < (l1.length : Int) := by omega
        clear hb g1 g2
        go_enter Try.func8, Try.ntmps8
        go_wp2_with (first | ((with_reducible refine cl.mono ?_); rintro e w1 ⟨rfl, hb1⟩))
        go_ret
        exact ⟨rfl, hb1⟩
      · have g2' : ¬ (30 : Int) < (l1.length : Int) := by omega
        have g3' : (30 : Int) < (l2.length : Int) := by omega
        clear hb g1 g2
        go_enter Try.func8, Try.ntmps8
        go_wp2_with (first | ((with_reducible refine cl.mono ?_); rintro e w1 ⟨rfl, hb1⟩))
        go_ret
        exact ⟨rfl, hb1⟩
  · have n1 : xs.length ≤ 20 := by omega
    have n2 : l1.length ≤ 30 := by omega
    have n3 : l2.length ≤ 30 := by omega
    have g1' : ¬ (20 : Int) < (xs.length : Int) := by omega
    have g2' : ¬ (30 : Int) < (l1.length : Int) := by omega
    have g3' : ¬ (30 : Int) < (l2.length : Int) := by omega
    have n4 : xs.length ≤ 1000 := by omega
    clear hb
    go_enter Try.func8, Try.ntmps8
    go_wp2_with (first
      | ((with_reducible refine cl.mono ?_); rintro e w1 ⟨rfl, hb1⟩; have d1 := cN w1 n4 hb1; have HB1 := Lib.hid hb1; clear hb1)
      | ((fail_if_success (have := A1)); (with_reducible refine d1.mono ?_); rintro e w2 ⟨oa, ma, rfl, hm2, hb2, ho2⟩; have d2 := cN w2 n4 (HB1.out.trans (hb2.mono HB1.out.size)); have A1 := Lib.hid (And.intro hm2 (And.intro hb2 ho2)); clear hm2 hb2 ho2)
      | ((fail_if_success (have := A2)); (with_reducible refine d2.mono ?_); rintro e w3 ⟨ob, m2, rfl, hm3, hb3, ho3⟩; have d3 := cN w3 n4 ((HB1.out.trans (A1.out.2.1.mono HB1.out.size)).trans (hb3.mono (Nat.le_trans HB1.out.size A1.out.2.1.size))); have A2 := Lib.hid (And.intro hm3 (And.intro hb3 ho3)); clear hm3 hb3 ho3)
      | ((with_reducible refine d3.mono ?_); rintro e w4 ⟨oc, mc, rfl, hm4, hb4, ho4⟩; have A3 := Lib.hid (And.intro hm4 (And.intro hb4 ho4)); clear hm4 hb4 ho4))
    have hA0 : Ap W oa ob oc ma m2 mc (dNews xs) (dNews xs) (dNews xs) w4 := by
      obtain ⟨a1, a2, a3⟩ := A1.out
      obtain ⟨b1, b2, b3⟩ := A2.out
      obtain ⟨c1, c2, c3⟩ := A3.out
      have s1 := HB1.out.size
      have s2 := a2.size
      have s3 := b2.size
      have s4 := c2.size
      have b2' : Below w2.heap.size w2 w4 := b2.trans (c2.mono s3)
      exact ⟨a1.later b2', b1.later c2, c1, fun k => by
          by_cases e : oa k = 0
          · exact .inl e
          · exact .inr (b3 k (a1.inside k e)), fun k => by
          by_cases e : oa k = 0
          · exact .inl e
          · exact .inr (c3 k (Nat.lt_of_lt_of_le (a1.inside k e) s3)), fun k => by
          by_cases e : ob k = 0
          · exact .inl e
          · exact .inr (c3 k (b1.inside k e)), fun k hk => ⟨a3 k (by omega), b3 k (by omega), c3 k (by omega)⟩, HB1.out.trans ((a2.trans (b2'.mono s2)).mono s1)⟩
    have HA0 := Lib.hid hA0
    have HXL := Lib.hid (dNews_len xs)
    clear hA0 cl cN d1 d2 d3
    go_loopw [11, 12] (fun vl vi wr => ∃ (k n : Nat) (oa ob oc : Nat → Nat) (Da Db : Dm), vi = .int .i64 k ∧ vl = .int .i64 ((n : Int) - 1) ∧ Da.length = n ∧ n ≤ 20 + k ∧ Db.length ≤ 20 + k ∧ (k ≤ l1.length ∨ k ≤ l2.length) ∧ Ap W oa ob oc ma m2 mc Da Db Da wr) (fun _ vi _ => 31 - (intOf vi).toNat)
    case atStart => exact ⟨0, xs.length, oa, ob, oc, dNews xs, dNews xs, rfl, rfl, HXL.out, by omega, by rw [HXL.out]; omega, .inl (Nat.zero_le _), HA0.out⟩
    case round =>
      clear HA0
      obtain ⟨k, n, oa, ob, oc, Da, Db, rfl, rfl, hDa, hn, hDb, hk, hA⟩ := hrel
      have HA := Lib.hid hA
      have HDa := Lib.hid hDa
      have hk30 : k ≤ 30 := by omega
      clear hA hDa
      by_cases t1 : k < l1.length
      · have t1' : (k : Int) < (l1.length : Int) := by omega
        obtain ⟨a1, ea1, ha1, hsp⟩ := sp_row H1.out HA.out.past k t1
        subst ea1
        have hwf := HW1.out _ (List.getElem_mem t1)
        obtain ⟨s, es⟩ : ∃ s, l1[k] = s := ⟨_, rfl⟩
        rw [es] at hsp hwf
        have cA : ∀ (o : Nat → Nat) m D w, D.length < 1000000 → MemD o m D w → Calls Try.prog 33 #[.pointer (some ⟨m, 0, none⟩), .agg #[.int .i64 s.kind, .int .i64 s.a, .int .i64 s.b, .int .i64 s.t, .int .i64 s.v.k, .int .u64 s.v.b, .int .i64 s.v.bk, .int .i64 s.v.o, .int .i64 s.at'.k, .int .u64 s.at'.b, .int .i64 s.at'.bk, .int .i64 s.at'.o, .int .u8 s.y]] w fun e w' => e = .returned (.int .i64 (doN D s)) ∧ GoesD o m (doD D s) w w' := fun o m D w hl h => do_any o m D w s hwf hl h
        have HSP : Hid (∀ w, Below W.heap.size W w → SpAt w (a1.add (k * 13)) s) := Lib.hid (fun w hb => by
          obtain ⟨a', e, _, h⟩ := sp_row H1.out hb k t1
          cases e
          rw [es] at h
          exact h)
        clear hsp es
        have hDn : doN Da s = if s.kind = 1 then (n : Int) else -1 := by unfold doN; rw [HDa.out]
        have hDl : (doD Da s).length = n + (if s.kind = 1 then 1 else 0) := by rw [doD_len, HDa.out]
        have HDN := Lib.hid hDn
        have HDL := Lib.hid hDl
        clear hDn hDl
        by_cases t2 : k < l2.length
        · have t2' : (k : Int) < (l2.length : Int) := by omega
          obtain ⟨a2, ea2, ha2, hsp2⟩ := sp_row H2.out HA.out.past k t2
          subst ea2
          have hwf2 := HW2.out _ (List.getElem_mem t2)
          obtain ⟨s2, es2⟩ : ∃ s, l2[k] = s := ⟨_, rfl⟩
          rw [es2] at hsp2 hwf2
          have cB : Calls Try.prog 33 #[.pointer (some ⟨m2, 0, none⟩), .agg #[.int .i64 s2.kind, .int .i64 s2.a, .int .i64 s2.b, .int .i64 s2.t, .int .i64 s2.v.k, .int .u64 s2.v.b, .int .i64 s2.v.bk, .int .i64 s2.v.o, .int .i64 s2.at'.k, .int .u64 s2.at'.b, .int .i64 s2.at'.bk, .int .i64 s2.at'.o, .int .u8 s2.y]] wr fun e w' => e = .returned (.int .i64 (doN Db s2)) ∧ GoesD ob m2 (doD Db s2) wr w' := do_any ob m2 Db wr s2 hwf2 (by omega) HA.out.b
          have HDB : Hid ((doD Db s2).length ≤ 20 + (k + 1)) := Lib.hid (by rw [doD_len]; split <;> omega)
          obtain ⟨z0, z1, z2, z3, z4, z5, z6, z7, z8, z9, z10, z11, z12⟩ := hsp2
          clear es2
          by_cases hkind : s.kind = 1
          · have HN : doN Da s = (n : Int) := HDN.out.trans (if_pos hkind)
            have e1 : (s.kind == 1) = true := by rw [hkind]; rfl
            have HL : Hid ((doD Da s).length = n + 1) := Lib.hid (by rw [HDL.out, if_pos hkind])
            clear hkind
            go_wp2_with (first
              | ((with_reducible refine cB.mono ?_); rintro e w5 ⟨rfl, gB⟩; obtain ⟨ob', hA5⟩ := HA.out.goB gB; have cA1 := cA oa ma Da w5 (by have := HDa.out; omega) hA5.a; obtain ⟨f0, f1, f2, f3, f4, f5, f6, f7, f8, f9, f10, f11, f12⟩ := HSP.out w5 hA5.past; have HA5 := Lib.hid hA5; clear gB hA5)
              | ((with_reducible refine cA1.mono ?_); rintro e w6 ⟨rfl, gA⟩; obtain ⟨oa', hA6⟩ := HA5.out.goA gA; have cA2 := cA oc mc Da w6 (by have := HDa.out; omega) hA6.c; obtain ⟨f0, f1, f2, f3, f4, f5, f6, f7, f8, f9, f10, f11, f12⟩ := HSP.out w6 hA6.past; have HA6 := Lib.hid hA6; clear gA hA6)
              | ((with_reducible refine cA2.mono ?_); rintro e w7 ⟨rfl, gC⟩; obtain ⟨oc', hA7⟩ := HA6.out.goC gC; obtain ⟨f0, f1, f2, f3, f4, f5, f6, f7, f8, f9, f10, f11, f12⟩ := HSP.out w7 hA7.past; have HA7 := Lib.hid hA7; clear gC hA7))
            exact ⟨⟨k + 1, n + 1, oa', ob', oc', doD Da s, doD Db s2, by go_num, by go_num, HL.out, by omega, HDB.out, by omega, HA7.out⟩, by simp [intOf]; omega⟩
          · have HN : doN Da s = -1 := HDN.out.trans (if_neg hkind)
            have e1 : (s.kind == 1) = false := by simpa using hkind
            have HL : Hid ((doD Da s).length = n) := Lib.hid (by rw [HDL.out, if_neg hkind]; rfl)
            clear hkind
            go_wp2_with (first
              | ((with_reducible refine cB.mono ?_); rintro e w5 ⟨rfl, gB⟩; obtain ⟨ob', hA5⟩ := HA.out.goB gB; have cA1 := cA oa ma Da w5 (by have := HDa.out; omega) hA5.a; obtain ⟨f0, f1, f2, f3, f4, f5, f6, f7, f8, f9, f10, f11, f12⟩ := HSP.out w5 hA5.past; have HA5 := Lib.hid hA5; clear gB hA5)
              | ((with_reducible refine cA1.mono ?_); rintro e w6 ⟨rfl, gA⟩; obtain ⟨oa', hA6⟩ := HA5.out.goA gA; have cA2 := cA oc mc Da w6 (by have := HDa.out; omega) hA6.c; obtain ⟨f0, f1, f2, f3, f4, f5, f6, f7, f8, f9, f10, f11, f12⟩ := HSP.out w6 hA6.past; have HA6 := Lib.hid hA6; clear gA hA6)
              | ((with_reducible refine cA2.mono ?_); rintro e w7 ⟨rfl, gC⟩; obtain ⟨oc', hA7⟩ := HA6.out.goC gC; obtain ⟨f0, f1, f2, f3, f4, f5, f6, f7, f8, f9, f10, f11, f12⟩ := HSP.out w7 hA7.past; have HA7 := Lib.hid hA7; clear gC hA7))
            exact ⟨⟨k + 1, n, oa', ob', oc', doD Da s, doD Db s2, by go_num, rfl, HL.out, by omega, HDB.out, by omega, HA7.out⟩, by simp [intOf]; omega⟩
        · have t2' : ¬ (k : Int) < (l2.length : Int) := by omega
          by_cases hkind : s.kind = 1
          · have HN : doN Da s = (n : Int) := HDN.out.trans (if_pos hkind)
            have e1 : (s.kind == 1) = true := by rw [hkind]; rfl
            have HL : Hid ((doD Da s).length = n + 1) := Lib.hid (by rw [HDL.out, if_pos hkind])
            clear hkind
            have cA1 := cA oa ma Da wr (by have := HDa.out; omega) HA.out.a
            have HA5 := HA
            obtain ⟨f0, f1, f2, f3, f4, f5, f6, f7, f8, f9, f10, f11, f12⟩ := HSP.out wr HA.out.past
            go_wp2_with (first
              | ((with_reducible refine cA1.mono ?_); rintro e w6 ⟨rfl, gA⟩; obtain ⟨oa', hA6⟩ := HA5.out.goA gA; have cA2 := cA oc mc Da w6 (by have := HDa.out; omega) hA6.c; obtain ⟨f0, f1, f2, f3, f4, f5, f6, f7, f8, f9, f10, f11, f12⟩ := HSP.out w6 hA6.past; have HA6 := Lib.hid hA6; clear gA hA6)
              | ((with_reducible refine cA2.mono ?_); rintro e w7 ⟨rfl, gC⟩; obtain ⟨oc', hA7⟩ := HA6.out.goC gC; obtain ⟨f0, f1, f2, f3, f4, f5, f6, f7, f8, f9, f10, f11, f12⟩ := HSP.out w7 hA7.past; have HA7 := Lib.hid hA7; clear gC hA7))
            exact ⟨⟨k + 1, n + 1, oa', ob, oc', doD Da s, Db, by go_num, by go_num, HL.out, by omega, by omega, by omega, HA7.out⟩, by simp [intOf]; omega⟩
          · have HN : doN Da s = -1 := HDN.out.trans (if_neg hkind)
            have e1 : (s.kind == 1) = false := by simpa using hkind
            have HL : Hid ((doD Da s).length = n) := Lib.hid (by rw [HDL.out, if_neg hkind]; rfl)
            clear hkind
            have cA1 := cA oa ma Da wr (by have := HDa.out; omega) HA.out.a
            have HA5 := HA
            obtain ⟨f0, f1, f2, f3, f4, f5, f6, f7, f8, f9, f10, f11, f12⟩ := HSP.out wr HA.out.past
            go_wp2_with (first
              | ((with_reducible refine cA1.mono ?_); rintro e w6 ⟨rfl, gA⟩; obtain ⟨oa', hA6⟩ := HA5.out.goA gA; have cA2 := cA oc mc Da w6 (by have := HDa.out; omega) hA6.c; obtain ⟨f0, f1, f2, f3, f4, f5, f6, f7, f8, f9, f10, f11, f12⟩ := HSP.out w6 hA6.past; have HA6 := Lib.hid hA6; clear gA hA6)
              | ((with_reducible refine cA2.mono ?_); rintro e w7 ⟨rfl, gC⟩; obtain ⟨oc', hA7⟩ := HA6.out.goC gC; obtain ⟨f0, f1, f2, f3, f4, f5, f6, f7, f8, f9, f10, f11, f12⟩ := HSP.out w7 hA7.past; have HA7 := Lib.hid hA7; clear gC hA7))
            exact ⟨⟨k + 1, n, oa', ob, oc', doD Da s, Db, by go_num, rfl, HL.out, by omega, by omega, by omega, HA7.out⟩, by simp [intOf]; omega⟩
      · have t1' : ¬ (k : Int) < (l1.length : Int) := by omega
        by_cases t2 : k < l2.length
        · have t2' : (k : Int) < (l2.length : Int) := by omega
          obtain ⟨a2, ea2, ha2, hsp2⟩ := sp_row H2.out HA.out.past k t2
          subst ea2
          have hwf2 := HW2.out _ (List.getElem_mem t2)
          obtain ⟨s2, es2⟩ : ∃ s, l2[k] = s := ⟨_, rfl⟩
          rw [es2] at hsp2 hwf2
          have cB : Calls Try.prog 33 #[.pointer (some ⟨m2, 0, none⟩), .agg #[.int .i64 s2.kind, .int .i64 s2.a, .int .i64 s2.b, .int .i64 s2.t, .int .i64 s2.v.k, .int .u64 s2.v.b, .int .i64 s2.v.bk, .int .i64 s2.v.o, .int .i64 s2.at'.k, .int .u64 s2.at'.b, .int .i64 s2.at'.bk, .int .i64 s2.at'.o, .int .u8 s2.y]] wr fun e w' => e = .returned (.int .i64 (doN Db s2)) ∧ GoesD ob m2 (doD Db s2) wr w' := do_any ob m2 Db wr s2 hwf2 (by omega) HA.out.b
          have HDB : Hid ((doD Db s2).length ≤ 20 + (k + 1)) := Lib.hid (by rw [doD_len]; split <;> omega)
          obtain ⟨z0, z1, z2, z3, z4, z5, z6, z7, z8, z9, z10, z11, z12⟩ := hsp2
          clear es2
          go_wp2_with (first
            | ((with_reducible refine cB.mono ?_); rintro e w5 ⟨rfl, gB⟩; obtain ⟨ob', hA5⟩ := HA.out.goB gB; have HA5 := Lib.hid hA5; clear gB hA5))
          exact ⟨⟨k + 1, n, oa, ob', oc, Da, doD Db s2, by go_num, rfl, HDa.out, by omega, HDB.out, by omega, HA5.out⟩, by simp [intOf]; omega⟩
        · have t2' : ¬ (k : Int) < (l2.length : Int) := by omega
          have hn50 : n ≤ 50 := by omega
          clear t1 t2 hn hDb hk hk30
          go_wp2_with fail
          clear t1' t2'
          go_loopw [14] (fun u wi => ∃ J : Int, -1 ≤ J ∧ J ≤ (n : Int) + 1 ∧ u = .int .i64 J ∧ Ap W oa ob oc ma m2 mc Da Db Da wi) (fun u _ => ((n : Int) + 1 - (intOf u)).toNat)
          case atStart => exact ⟨-1, by omega, by omega, rfl, HA.out⟩
          case round =>
            obtain ⟨J, hj, hj2, rfl, hB⟩ := hrel
            have HB := Lib.hid hB
            clear hB
            by_cases hjn : J ≤ (n : Int)
            · have hjn' : J ≤ (n : Int) - 1 + 1 := by omega
              have hwk : wf64 J := ⟨by omega, by omega⟩
              have d1 := SizeD oa ma Da wr J hwk HB.out.a
              have d2 := SizeD oc mc Da wr J hwk HB.out.c
              have d3 := BytesD oa ma Da wr J hwk HB.out.a
              obtain ⟨L, eL⟩ : ∃ L, dBytes Da J = L := ⟨_, rfl⟩
              rw [eL] at d3
              have d4 : ∀ w, Below wr.heap.size wr w → Calls Try.prog 26 #[.pointer (some ⟨mc, 0, none⟩), .int .i64 J] w fun e w' => ∃ p c, e = .returned (.slice p L.length c) ∧ w'.ownsRow w.heap.size 32 5 (.slice p L.length c) L.length (L.flatMap byC) ∧ Below w.heap.size w w' := fun w hb => by
                have := BytesD oc mc Da w J hwk (HB.out.later hb).c
                rw [eL] at this
                exact this
              have d6 : ∀ w p k p' k', BysIn w.heap.size w p L.length k L → BysIn w.heap.size w p' L.length k' L → Calls Try.prog 17 #[.slice p L.length k, .slice p' L.length k'] w fun e w' => e = .returned (.bool true) ∧ Below w.heap.size w w' := fun w p k p' k' h h' => by
                have := Same_any w p p' k k' L L h h'
                rw [sameB_true rfl] at this
                exact this
              clear eL hwk
              obtain ⟨S, eS⟩ : ∃ S, dSize Da J = S := ⟨_, rfl⟩
              rw [eS] at d1 d2
              clear eS
              go_wp2_with (first
                | ((with_reducible refine d1.mono ?_); rintro e w5 ⟨rfl, rfl⟩)
                | ((with_reducible refine d2.mono ?_); rintro e w6 ⟨rfl, rfl⟩)
                | ((with_reducible refine d3.mono ?_); rintro e w7 ⟨p7, c7, rfl, hr7, hb7⟩; have d5 := d4 w7 hb7; have X7 := Lib.hid (And.intro hr7 hb7); clear hr7 hb7)
                | ((with_reducible refine d5.mono ?_); rintro e w8 ⟨p8, c8, rfl, hr8, hb8⟩; have d7 := d6 w8 p7 c7 p8 c8 (bytes_in (ownsRow_below X7.out.1 hb8) rfl) (bytes_in hr8 rfl); have X8 := Lib.hid hb8; clear hr8 hb8)
                | ((with_reducible refine d7.mono ?_); rintro e w9 ⟨rfl, hb9⟩))
              exact ⟨⟨J + 1, by omega, by omega, by go_num, HB.out.later (X7.out.2.trans ((X8.out.trans (hb9.mono X8.out.size)).mono X7.out.2.size))⟩, by simp [intOf]; omega⟩
            · have hjn' : ¬ J ≤ (n : Int) - 1 + 1 := by omega
              go_wp2_with fail
              go_ret
              exact ⟨rfl, HB.out.past⟩
end Go.Proofs.Ytkbkgbkoplcgeaa
