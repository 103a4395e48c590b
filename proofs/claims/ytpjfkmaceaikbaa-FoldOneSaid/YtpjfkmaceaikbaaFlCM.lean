/- Package fold: Fold. -/
import Derived.Test.YtpjfkmaceaikbaaFlBM
namespace Go.Proofs.Ytpjfkmaceaikbaa
open Go.RowKit Go.Maps
set_option linter.unusedVariables false
set_option linter.unusedSimpArgs false
set_option maxRecDepth 100000
set_option maxHeartbeats 1000000

theorem Fr.set3a {W w : World} {bs : List (Nat × List Value)} (F : Fr W bs w) (i : Nat) {g : Nat} {cs : List Value} (h : bs[i]? = some (g, cs)) (u0 u1 u2 : Value) (ob : Obj) :
    Below W.heap.size W ((((w.setCell ⟨g, 0, none⟩ u0).setCell ⟨g, 1, none⟩ u1).setCell ⟨g, 2, none⟩ u2).alloc ob) := by
  have X := F.set3 i h u0 u1 u2
  exact X.alloc X.size _
theorem fold_calm (op rg ty n fl : Int) (ap : Option Addr) (al ac : Nat) (tp : Option Addr) (tl tc : Nat) (W : World) (cC : ∀ W, Calls Try.prog 10 #[.int .i64 op] W fun e w' => e = .returned (.bool false) ∧ W = w') :
    Calls Try.prog 6 #[.agg #[.int .i64 op, .int .i64 rg, .int .i64 ty, .int .i64 n, .int .i64 fl, .slice ap al ac, .slice tp tl tc]] W fun e w' => e = .returned (.tuple #[.agg #[.int .i64 0, .int .i64 0, .int .u64 0], .bool false]) ∧ Below W.heap.size W w' := by
  have h0 := bO0
  have G := Lib.hid (((Fr.start W).push (g := W.heap.size) (by simp) [.int .i64 op, .int .i64 rg, .int .i64 ty, .int .i64 n, .int .i64 fl, .slice ap al ac, .slice tp tl tc] 25).push (g := W.heap.size + 1) (by simp) [.int .i64 0, .int .i64 0, .int .u64 0] 29)
  go_enter Try.func6, Try.ntmps6
  go_wp2_with (first
    | ((with_reducible refine (cC _).mono ?_); rintro e w1 ⟨rfl, rfl⟩))
  exact bodyPost_ret (v := .tuple #[.agg #[.int .i64 0, .int .i64 0, .int .u64 0], .bool false]) (by simp [results, Try.results6, go_sem, *]) rfl ⟨rfl, below2 W _ _⟩
theorem fold_lits (op rg ty n fl : Int) (ap : Option Addr) (al ac : Nat) (tp : Option Addr) (tl tc : Nat) (W : World) (cC : ∀ W, Calls Try.prog 10 #[.int .i64 op] W fun e w' => e = .returned (.bool true) ∧ W = w') (cL : ∀ w, Below W.heap.size W w → Calls Try.prog 11 #[.slice ap al ac] w fun e w' => e = .returned (.tuple #[.slice none 0 0, .bool false]) ∧ Below w.heap.size w w') :
    Calls Try.prog 6 #[.agg #[.int .i64 op, .int .i64 rg, .int .i64 ty, .int .i64 n, .int .i64 fl, .slice ap al ac, .slice tp tl tc]] W fun e w' => e = .returned (.tuple #[.agg #[.int .i64 0, .int .i64 0, .int .u64 0], .bool false]) ∧ Below W.heap.size W w' := by
  have h0 := bO0
  have G := Lib.hid (((Fr.start W).push (g := W.heap.size) (by simp) [.int .i64 op, .int .i64 rg, .int .i64 ty, .int .i64 n, .int .i64 fl, .slice ap al ac, .slice tp tl tc] 25).push (g := W.heap.size + 1) (by simp) [.int .i64 0, .int .i64 0, .int .u64 0] 29)
  go_enter Try.func6, Try.ntmps6
  go_wp2_with (first
    | ((with_reducible refine (cC _).mono ?_); rintro e w1 ⟨rfl, rfl⟩; have dL := cL _ G.out.1)
    | ((with_reducible refine dL.mono ?_); rintro e w2 ⟨rfl, hb⟩; have F := G.out.later hb; (try clear i0 i1 i2 i3 i4 i5 i6 r0 r1 r2 rf); obtain ⟨i0, i1, i2, i3, i4, i5, i6⟩ := F.c7 1 rfl; obtain ⟨r0, r1, r2, rf⟩ := F.c3 0 rfl; replace G := Lib.hid F; clear F hb))
  exact bodyPost_ret (v := .tuple #[.agg #[.int .i64 0, .int .i64 0, .int .u64 0], .bool false]) (by simp [results, Try.results6, go_sem, *]) rfl ⟨rfl, G.out.set3 0 rfl _ _ _⟩
theorem fold_end (op rg ty n fl : Int) (ap : Option Addr) (al ac : Nat) (tp : Option Addr) (tl tc : Nat) (W : World) (cC : ∀ W, Calls Try.prog 10 #[.int .i64 op] W fun e w' => e = .returned (.bool true) ∧ W = w') (m : Nat) (l : List Vl) (cL : ∀ w, Below W.heap.size W w → Calls Try.prog 11 #[.slice ap al ac] w fun e w' => ∃ q d, e = .returned (.tuple #[.slice q m d, .bool true]) ∧ Below w.heap.size w w' ∧ VlsIn w'.heap.size w' q m d l) (xk xb xbk xo : Int) (E : Int) (hE : (E != 0) = true) (cE : ∀ q d w, VlsIn w.heap.size w q m d l → Calls Try.prog 9 #[.agg #[.int .i64 op, .int .i64 rg, .int .i64 ty, .int .i64 n, .int .i64 fl, .slice ap al ac, .slice tp tl tc], .slice q m d] w fun e w' => e = .returned (.tuple #[.agg #[.int .i64 xk, .int .u64 xb, .int .i64 xbk, .int .i64 xo], .int .i64 E]) ∧ Below w.heap.size w w') :
    Calls Try.prog 6 #[.agg #[.int .i64 op, .int .i64 rg, .int .i64 ty, .int .i64 n, .int .i64 fl, .slice ap al ac, .slice tp tl tc]] W fun e w' => e = .returned (.tuple #[.agg #[.int .i64 0, .int .i64 0, .int .u64 0], .bool false]) ∧ Below W.heap.size W w' := by
  have h0 := bO0
  have G := Lib.hid (((Fr.start W).push (g := W.heap.size) (by simp) [.int .i64 op, .int .i64 rg, .int .i64 ty, .int .i64 n, .int .i64 fl, .slice ap al ac, .slice tp tl tc] 25).push (g := W.heap.size + 1) (by simp) [.int .i64 0, .int .i64 0, .int .u64 0] 29)
  go_enter Try.func6, Try.ntmps6
  go_wp2_with (first
    | ((with_reducible refine (cC _).mono ?_); rintro e w1 ⟨rfl, rfl⟩; have dL := cL _ G.out.1)
    | ((with_reducible refine dL.mono ?_); rintro e w2 ⟨q, d, rfl, hb, hq⟩; have F := G.out.later hb; (try clear i0 i1 i2 i3 i4 i5 i6 r0 r1 r2 rf); obtain ⟨i0, i1, i2, i3, i4, i5, i6⟩ := F.c7 1 rfl; obtain ⟨r0, r1, r2, rf⟩ := F.c3 0 rfl; replace G := Lib.hid F; have dE := cE _ _ _ hq; clear F hb hq)
    | ((with_reducible refine dE.mono ?_); rintro e w3 ⟨rfl, hb⟩; have F := G.out.later hb; (try clear i0 i1 i2 i3 i4 i5 i6 r0 r1 r2 rf); obtain ⟨i0, i1, i2, i3, i4, i5, i6⟩ := F.c7 1 rfl; obtain ⟨r0, r1, r2, rf⟩ := F.c3 0 rfl; replace G := Lib.hid F; have rz := (F.at 0 rfl).2.1; have iz := (F.at 1 rfl).2.1; have F2 : Fr W _ (w3.alloc (.cells #[.int .i64 xk, .int .u64 xb, .int .i64 xbk, .int .i64 xo] 35)) := F.alloc _; have G2 := Lib.hid F2; clear F hb F2))
  exact bodyPost_ret (v := .tuple #[.agg #[.int .i64 0, .int .i64 0, .int .u64 0], .bool false]) (by simp [results, Try.results6, go_sem, *]) rfl ⟨rfl, (Fr.set3a G.out 0 rfl _ _ _ _)⟩
theorem fold_ok (op rg ty n fl : Int) (ap : Option Addr) (al ac : Nat) (tp : Option Addr) (tl tc : Nat) (W : World) (cC : ∀ W, Calls Try.prog 10 #[.int .i64 op] W fun e w' => e = .returned (.bool true) ∧ W = w') (m : Nat) (l : List Vl) (cL : ∀ w, Below W.heap.size W w → Calls Try.prog 11 #[.slice ap al ac] w fun e w' => ∃ q d, e = .returned (.tuple #[.slice q m d, .bool true]) ∧ Below w.heap.size w w' ∧ VlsIn w'.heap.size w' q m d l) (xk xb xbk xo : Int) (cE : ∀ q d w, VlsIn w.heap.size w q m d l → Calls Try.prog 9 #[.agg #[.int .i64 op, .int .i64 rg, .int .i64 ty, .int .i64 n, .int .i64 fl, .slice ap al ac, .slice tp tl tc], .slice q m d] w fun e w' => e = .returned (.tuple #[.agg #[.int .i64 xk, .int .u64 xb, .int .i64 xbk, .int .i64 xo], .int .i64 0]) ∧ Below w.heap.size w w') (yk yn yb : Int) (u : Bool) (cO : ∀ w, Calls Try.prog 12 #[.int .i64 ty, .agg #[.int .i64 xk, .int .u64 xb, .int .i64 xbk, .int .i64 xo]] w fun e w' => e = .returned (.tuple #[.agg #[.int .i64 yk, .int .i64 yn, .int .u64 yb], .bool u]) ∧ Below w.heap.size w w') :
    Calls Try.prog 6 #[.agg #[.int .i64 op, .int .i64 rg, .int .i64 ty, .int .i64 n, .int .i64 fl, .slice ap al ac, .slice tp tl tc]] W fun e w' => e = .returned (.tuple #[.agg #[.int .i64 yk, .int .i64 yn, .int .u64 yb], .bool u]) ∧ Below W.heap.size W w' := by
  have h0 := bO0
  have G := Lib.hid (((Fr.start W).push (g := W.heap.size) (by simp) [.int .i64 op, .int .i64 rg, .int .i64 ty, .int .i64 n, .int .i64 fl, .slice ap al ac, .slice tp tl tc] 25).push (g := W.heap.size + 1) (by simp) [.int .i64 0, .int .i64 0, .int .u64 0] 29)
  go_enter Try.func6, Try.ntmps6
  go_wp2_with (first
    | ((with_reducible refine (cC _).mono ?_); rintro e w1 ⟨rfl, rfl⟩; have dL := cL _ G.out.1)
    | ((with_reducible refine dL.mono ?_); rintro e w2 ⟨q, d, rfl, hb, hq⟩; have F := G.out.later hb; (try clear i0 i1 i2 i3 i4 i5 i6 r0 r1 r2 rf); obtain ⟨i0, i1, i2, i3, i4, i5, i6⟩ := F.c7 1 rfl; obtain ⟨r0, r1, r2, rf⟩ := F.c3 0 rfl; replace G := Lib.hid F; have dE := cE _ _ _ hq; clear F hb hq)
    | ((with_reducible refine dE.mono ?_); rintro e w3 ⟨rfl, hb⟩; have F := G.out.later hb; (try clear i0 i1 i2 i3 i4 i5 i6 r0 r1 r2 rf); obtain ⟨i0, i1, i2, i3, i4, i5, i6⟩ := F.c7 1 rfl; obtain ⟨r0, r1, r2, rf⟩ := F.c3 0 rfl; replace G := Lib.hid F; have rz := (F.at 0 rfl).2.1; have iz := (F.at 1 rfl).2.1; have F2 : Fr W _ (w3.alloc (.cells #[.int .i64 xk, .int .u64 xb, .int .i64 xbk, .int .i64 xo] 35)) := F.alloc _; have G2 := Lib.hid F2; clear F hb F2)
    | ((with_reducible refine (cO _).mono ?_); rintro e w4 ⟨rfl, hb⟩; have F := G2.out.later hb; (try clear i0 i1 i2 i3 i4 i5 i6 r0 r1 r2 rf); obtain ⟨i0, i1, i2, i3, i4, i5, i6⟩ := F.c7 1 rfl; obtain ⟨r0, r1, r2, rf⟩ := F.c3 0 rfl; replace G := Lib.hid F; clear F hb))
  exact bodyPost_ret (v := .tuple #[.agg #[.int .i64 yk, .int .i64 yn, .int .u64 yb], .bool u]) (by simp [results, Try.results6, go_sem, *]) rfl ⟨rfl, G.out.set3 0 rfl _ _ _⟩
theorem Fold_any (d : Ins) (f0 : -9223372036854775808 ≤ d.fl) (f1 : d.fl ≤ 9223372036854775807) (hal : d.al = d.args.length) (hz : d.args.length ≤ 1048576) (hok : ∀ a ∈ d.args, a.ok) (W : World) (hl : ListIn argC NoMem W.heap.size W d.ap d.al d.ac d.args) :
    Calls Try.prog 6 #[d.val] W fun e w' => e = .returned (.tuple #[(foldE d).1.val, .bool (foldE d).2]) ∧ Below W.heap.size W w' := by
  have cC := fun W => Calm_any d.op W
  have cL : ∀ w, Below W.heap.size W w → Calls Try.prog 11 #[.slice d.ap d.al d.ac] w (LitsEnds d.args w) := fun w hb => by
    rw [hal]
    exact literals_any d.args d.ap d.ac w (by rw [hal] at hl; exact hl.lasts lasts_NoMem hb hb.size) hz
  have cE : ∀ q e w, VlsIn w.heap.size w q d.args.length e (litsE d) → Calls Try.prog 9 #[d.val, .slice q d.args.length e] w fun e w' => e = .returned (.tuple #[(evalE d.op d.ty d.n d.fl (litsE d)).1.vl.val, .int .i64 (evalE d.op d.ty d.n d.fl (litsE d)).2]) ∧ Below w.heap.size w w' := fun q e w h => by
    have e1 : d.args.length = (litsE d).length := by unfold litsE; rw [List.length_map]
    rw [e1] at h ⊢
    exact Eval_any d f0 f1 (litsE d) q e (lits_ok hok) w h
  have cO := fun w => operand_any d.ty (evalE d.op d.ty d.n d.fl (litsE d)).1 w
  unfold foldE
  obtain ⟨op, rg, ty, n, fl, ap, al, ac, tp, tl, tc, args⟩ := d
  simp only at cC cL cE cO hal hz ⊢
  cases hc : calmB op with
  | false =>
    rw [hc] at cC
    rw [if_neg (by simp)]
    exact fold_calm op rg ty n fl ap al ac tp tl tc W cC
  | true =>
    rw [hc] at cC
    cases ha : args.all isLit with
    | false =>
      rw [if_neg (by simp)]
      exact fold_lits op rg ty n fl ap al ac tp tl tc W cC (fun w hb => (cL w hb).mono fun e w' ⟨h, h2⟩ => by
        rcases h with ⟨h, _⟩ | ⟨_, h⟩
        · rw [ha] at h; cases h
        · exact ⟨h, h2⟩)
    | true =>
      have dL : ∀ w, Below W.heap.size W w → Calls Try.prog 11 #[.slice ap al ac] w fun e w' => ∃ q d, e = .returned (.tuple #[.slice q args.length d, .bool true]) ∧ Below w.heap.size w w' ∧ VlsIn w'.heap.size w' q args.length d (args.map lvD) := fun w hb => (cL w hb).mono fun e w' ⟨h, h2⟩ => by
        rcases h with ⟨_, q, k, h3, h4⟩ | ⟨h, _⟩
        · exact ⟨q, k, h3, h2, h4⟩
        · rw [ha] at h; cases h
      generalize evalE op ty n fl (litsE ⟨op, rg, ty, n, fl, ap, al, ac, tp, tl, tc, args⟩) = x at *
      obtain ⟨v, E⟩ := x
      by_cases hE : E = 0
      · subst hE
        rw [if_pos ⟨rfl, rfl, rfl⟩]
        exact fold_ok op rg ty n fl ap al ac tp tl tc W cC _ _ dL _ _ _ _ cE _ _ _ _ cO
      · rw [if_neg (fun h => hE h.2.2)]
        exact fold_end op rg ty n fl ap al ac tp tl tc W cC _ _ dL _ _ _ _ E (by simpa using hE) cE
end Go.Proofs.Ytpjfkmaceaikbaa
