/- The document's Fold answers what Fold does; FoldOne. -/
import Derived.Test.YtpjfkmaceaikbaaFlS1M
import Derived.Test.YtpjfkmaceaikbaaFlS2M
import Derived.Test.YtpjfkmaceaikbaaFlS3M
namespace Go.Proofs.Ytpjfkmaceaikbaa
open Go.RowKit Go.Maps
set_option linter.unusedVariables false
set_option linter.unusedSimpArgs false
set_option maxRecDepth 100000
set_option maxHeartbeats 1000000

theorem rFold_any (d : Ins) (f0 : -9223372036854775808 ≤ d.fl) (f1 : d.fl ≤ 9223372036854775807) (hal : d.al = d.args.length) (hz : d.args.length ≤ 1048576) (hok : ∀ a ∈ d.args, a.ok) (W : World) (hl : ListIn argC NoMem W.heap.size W d.ap d.al d.ac d.args) :
    Calls Try.prog 7 #[d.val] W fun e w' => e = .returned (.tuple #[(foldE d).1.val, .bool (foldE d).2]) ∧ Below W.heap.size W w' := by
  have cC : ∀ w, Calls Try.prog 13 #[.int .i64 d.op] w fun e w' => e = .returned (.bool (calmB d.op)) ∧ Below w.heap.size w w' := fun w => (rCalm_any d.op w).mono fun e w' ⟨h1, h2⟩ => ⟨h1, by rw [h2]; exact below1 w _⟩
  have cE : ∀ q e w, VlsIn w.heap.size w q d.al e (d.args.map lvD) → Calls Try.prog 14 #[d.val, .slice q d.al e] w fun e w' => e = .returned (.tuple #[(evalE d.op d.ty d.n d.fl (litsE d)).1.vl.val, .int .i64 (evalE d.op d.ty d.n d.fl (litsE d)).2]) ∧ Below w.heap.size w w' := fun q e w h => by
    have e1 : d.al = (litsE d).length := by unfold litsE; rw [List.length_map]; exact hal
    rw [e1] at h ⊢
    exact rEval_any d f0 f1 (litsE d) q e (lits_ok hok) w h
  have cR : ∀ w, Calls Try.prog 15 #[d.val] w fun e w' => e = .returned (.int .i64 (resV d.op d.ty)) ∧ Below w.heap.size w w' := fun w => (rResult_any d.op d.reg d.ty d.n d.fl d.ap d.tp d.al d.ac d.tl d.tc w).mono fun e w' ⟨h1, h2⟩ => ⟨h1, by rw [h2]; exact below1 w _⟩
  have hra := fun h => res_any (d := d) h
  unfold foldE
  obtain ⟨op, rg, ty, n, fl, ap, al, ac, tp, tl, tc, args⟩ := d
  simp only at cC cE cR hal hz hl hra ⊢
  have hz' : al ≤ 1048576 := by omega
  cases hc : calmB op with
  | false =>
    rw [hc] at cC
    rw [if_neg (by simp)]
    exact rfold_calm op rg ty n fl ap al ac tp tl tc W cC
  | true =>
    rw [hc] at cC
    cases ha : args.all isLit with
    | false =>
      rw [if_neg (by simp)]
      exact rfold_lits op rg ty n fl ap al ac tp tl tc W args hl hz' cC ha
    | true =>
      generalize evalE op ty n fl (litsE ⟨op, rg, ty, n, fl, ap, al, ac, tp, tl, tc, args⟩) = x at *
      obtain ⟨v, E⟩ := x
      by_cases hE : E = 0
      · subst hE
        rw [if_pos ⟨rfl, rfl, rfl⟩]
        cases v with
        | poi => exact rfold_poi op rg ty n fl ap al ac tp tl tc W args hl hz' cC ha cE
        | num x => exact rfold_num op rg ty n fl ap al ac tp tl tc W args hl hz' cC ha x cE
        | any =>
          rw [hra rfl] at cR
          by_cases ht : ty = 65
          · subst ht
            exact rfold_anp op rg 65 n fl ap al ac tp tl tc W args hl hz' cC ha cR cE
          · have e : opdE ty .any = (⟨2, 0, 0⟩, true) := by unfold opdE; rw [if_neg ht]
            rw [e]
            exact rfold_ann op rg ty n fl ap al ac tp tl tc W args hl hz' cC ha ty (by simpa using ht) cR cE
        | adr g o =>
          unfold opdE
          dsimp only
          by_cases h0 : o = 0
          · subst h0
            by_cases h1 : g = -1
            · subst h1
              exact rfold_nul op rg ty n fl ap al ac tp tl tc W args hl hz' cC ha cE
            · by_cases h2 : 0 ≤ g
              · rw [if_neg (by omega), if_neg h1]
                exact rfold_glo op rg ty n fl ap al ac tp tl tc W args hl hz' cC ha g (by simpa using h1) h2 cE
              · rw [if_pos (by omega)]
                exact rfold_low op rg ty n fl ap al ac tp tl tc W args hl hz' cC ha g (by simpa using h1) h2 cE
          · rw [if_pos (Or.inl h0)]
            exact rfold_off op rg ty n fl ap al ac tp tl tc W args hl hz' cC ha g o (by simpa using h0) cE
      · rw [if_neg (fun h => hE h.2.2)]
        exact rfold_end op rg ty n fl ap al ac tp tl tc W args hl hz' cC ha _ _ _ _ E (by simpa using hE) cE
theorem one_len (op rg ty n fl : Int) (ap : Option Addr) (al ac : Nat) (tp : Option Addr) (tl tc : Nat) (W : World) (h : 1000 < (al : Int)) :
    Calls Try.prog 3 #[.agg #[.int .i64 op, .int .i64 rg, .int .i64 ty, .int .i64 n, .int .i64 fl, .slice ap al ac, .slice tp tl tc]] W fun e w' => e = .returned (.bool true) ∧ Below W.heap.size W w' := by
  have G0 := Lib.hid ((Fr.start W).push (g := W.heap.size) rfl [.int .i64 op, .int .i64 rg, .int .i64 ty, .int .i64 n, .int .i64 fl, .slice ap al ac, .slice tp tl tc] 25)
  go_enter Try.func3, Try.ntmps3
  go_wp2_with (first
    | ((with_reducible refine (livesF_any _).mono ?_); rintro e w1 ⟨rfl, hb⟩; have F := G0.out.later hb; obtain ⟨i0, i1, i2, i3, i4, i5, i6⟩ := F.c7 0 rfl; have G1 := Lib.hid F; clear F hb))
  go_ret
  exact ⟨rfl, G1.out.1⟩
theorem one_ok (op rg ty n fl : Int) (ap : Option Addr) (al ac : Nat) (tp : Option Addr) (tl tc : Nat) (W : World) (h : ¬ 1000 < (al : Int)) (yk yn yb : Int) (u : Bool)
    (cF : ∀ w, Below W.heap.size W w → Calls Try.prog 6 #[.agg #[.int .i64 op, .int .i64 rg, .int .i64 ty, .int .i64 n, .int .i64 fl, .slice ap al ac, .slice tp tl tc]] w fun e w' => e = .returned (.tuple #[.agg #[.int .i64 yk, .int .i64 yn, .int .u64 yb], .bool u]) ∧ Below w.heap.size w w')
    (cD : ∀ w, Below W.heap.size W w → Calls Try.prog 7 #[.agg #[.int .i64 op, .int .i64 rg, .int .i64 ty, .int .i64 n, .int .i64 fl, .slice ap al ac, .slice tp tl tc]] w fun e w' => e = .returned (.tuple #[.agg #[.int .i64 yk, .int .i64 yn, .int .u64 yb], .bool u]) ∧ Below w.heap.size w w') :
    Calls Try.prog 3 #[.agg #[.int .i64 op, .int .i64 rg, .int .i64 ty, .int .i64 n, .int .i64 fl, .slice ap al ac, .slice tp tl tc]] W fun e w' => e = .returned (.bool true) ∧ Below W.heap.size W w' := by
  have G0 := Lib.hid ((Fr.start W).push (g := W.heap.size) rfl [.int .i64 op, .int .i64 rg, .int .i64 ty, .int .i64 n, .int .i64 fl, .slice ap al ac, .slice tp tl tc] 25)
  cases u
  all_goals
    go_enter Try.func3, Try.ntmps3
    go_wp2_with (first
      | ((with_reducible refine (livesF_any _).mono ?_); rintro e w1 ⟨rfl, hb⟩; have F := G0.out.later hb; obtain ⟨i0, i1, i2, i3, i4, i5, i6⟩ := F.c7 0 rfl; have iz := (F.at 0 rfl).2.1; have d1 := cF _ F.1; have G1 := Lib.hid F; clear F hb)
      | ((with_reducible refine d1.mono ?_); rintro e w2 ⟨rfl, hb⟩; have F := G1.out.later hb; clear i0 i1 i2 i3 i4 i5 i6 iz; obtain ⟨i0, i1, i2, i3, i4, i5, i6⟩ := F.c7 0 rfl; have iz := (F.at 0 rfl).2.1; have G2 := Lib.hid (F.push (g := w2.heap.size) rfl [.int .i64 yk, .int .i64 yn, .int .u64 yb] 29); have d2 := cD _ G2.out.1; clear F hb)
      | ((with_reducible refine d2.mono ?_); rintro e w3 ⟨rfl, hb⟩; have F := G2.out.later hb; obtain ⟨x0, x1, x2, xf⟩ := F.c3 0 rfl; have xz := (F.at 0 rfl).2.1; have G3 := Lib.hid F; clear F hb))
    go_ret
    exact ⟨rfl, (G3.out.alloc _).1⟩
theorem one_walk (d : Ins) (f0 : -9223372036854775808 ≤ d.fl) (f1 : d.fl ≤ 9223372036854775807) (hal : d.al = d.args.length) (hok : ∀ a ∈ d.args, a.ok) (W : World) (hl : ListIn argC NoMem W.heap.size W d.ap d.al d.ac d.args) :
    Calls Try.prog 3 #[d.val] W fun e w' => e = .returned (.bool true) ∧ Below W.heap.size W w' := by
  by_cases h3 : 1000 < (d.al : Int)
  · obtain ⟨op, rg, ty, n, fl, ap, al, ac, tp, tl, tc, args⟩ := d
    exact one_len op rg ty n fl ap al ac tp tl tc W h3
  have cF : ∀ w, Below W.heap.size W w → _ := fun w hb => Fold_any d f0 f1 hal (by omega) hok w (hl.lasts lasts_NoMem hb hb.size)
  have cD : ∀ w, Below W.heap.size W w → _ := fun w hb => rFold_any d f0 f1 hal (by omega) hok w (hl.lasts lasts_NoMem hb hb.size)
  obtain ⟨op, rg, ty, n, fl, ap, al, ac, tp, tl, tc, args⟩ := d
  exact one_ok op rg ty n fl ap al ac tp tl tc W h3 _ _ _ _ cF cD
end Go.Proofs.Ytpjfkmaceaikbaa
