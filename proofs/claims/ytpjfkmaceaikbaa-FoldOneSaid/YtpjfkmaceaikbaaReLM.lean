/- The document's eval (latheref10): Eval answers evalE. -/
import Derived.Test.YtpjfkmaceaikbaaReKM
import Derived.Test.YtpjfkmaceaikbaaReK2M
import Derived.Test.YtpjfkmaceaikbaaReK3M
import Derived.Test.YtpjfkmaceaikbaaReK4M
import Derived.Test.YtpjfkmaceaikbaaReK5M
import Derived.Test.YtpjfkmaceaikbaaReGM
import Derived.Test.YtpjfkmaceaikbaaReHM
import Derived.Test.YtpjfkmaceaikbaaReIM
import Derived.Test.YtpjfkmaceaikbaaReJM
import Derived.Test.YtpjfkmaceaikbaaEvLM
namespace Go.Proofs.Ytpjfkmaceaikbaa
open Go.RowKit Go.Maps
set_option linter.unusedVariables false
set_option linter.unusedSimpArgs false
set_option maxRecDepth 100000
set_option maxHeartbeats 1000000

theorem rEval_no (op rg ty n fl : Int) (ap : Option Addr) (al ac : Nat) (tp : Option Addr) (tl tc : Nat) (p : Option Addr) (k c : Nat)
    (cS : ∀ W, Calls Try.prog 25 #[.agg #[.int .i64 op, .int .i64 rg, .int .i64 ty, .int .i64 n, .int .i64 fl, .slice ap al ac, .slice tp tl tc], .int .i64 k] W fun e w' => e = .returned (.bool false) ∧ Below W.heap.size W w') (W : World) :
    Calls Try.prog 14 #[.agg #[.int .i64 op, .int .i64 rg, .int .i64 ty, .int .i64 n, .int .i64 fl, .slice ap al ac, .slice tp tl tc], .slice p k c] W fun e w' => e = .returned (.tuple #[.agg #[.int .i64 0, .int .u64 0, .int .i64 0, .int .i64 0], .int .i64 3]) ∧ Below W.heap.size W w' := by
  have b0 := bV0
  have F := (((Fr.start W)).push (g := W.heap.size) (by simp) [.int .i64 op, .int .i64 rg, .int .i64 ty, .int .i64 n, .int .i64 fl, .slice ap al ac, .slice tp tl tc] 25).push (g := W.heap.size + 1) (by simp) [.int .i64 0, .int .u64 0, .int .i64 0, .int .i64 0] 35
  have G := Lib.hid F
  clear F
  go_enter Try.func14, Try.ntmps14
  go_wp2_with (first
    | ((with_reducible refine (cS _).mono ?_); rintro e w1 ⟨rfl, hb⟩; have F := G.out.later hb; (try clear i0 i1 i2 i3 i4 i5 i6 r0 r1 r2 r3 rf); obtain ⟨i0, i1, i2, i3, i4, i5, i6⟩ := F.c7 1 rfl; obtain ⟨r0, r1, r2, r3, rf⟩ := F.c4 0 rfl; replace G := Lib.hid F; clear F hb))
  exact bodyPost_ret (v := .tuple #[.agg #[.int .i64 0, .int .u64 0, .int .i64 0, .int .i64 0], .int .i64 3]) (by simp [results, Try.results14, go_sem, *]) rfl ⟨rfl, G.out.set4 0 rfl _ _ _ _⟩
theorem two_list {α : Type} {l : List α} (h : l.length = 2) : ∃ a b, l = [a, b] := by
  match l, h with
  | [a, b], _ => exact ⟨a, b, rfl⟩
theorem one_list {α : Type} {l : List α} (h : l.length = 1) : ∃ a, l = [a] := by
  match l, h with
  | [a], _ => exact ⟨a, rfl⟩
theorem three_list {α : Type} {l : List α} (h : l.length = 3) : ∃ a b c, l = [a, b, c] := by
  match l, h with
  | [a, b, c], _ => exact ⟨a, b, c, rfl⟩
theorem zs_at (t : Nat → Int) : ∀ (l : List Vl) (k i : Nat) (v z : Vl), l[i]? = some v → ((l.zipIdx k).map fun x => (nf (t x.2) x.1).vl)[i]? = some z → z = (nf (t (k + i)) v).vl := by
  intro l k i v z hv hz
  rw [List.getElem?_map, List.getElem?_zipIdx, hv] at hz
  simpa using hz.symm
theorem madE_d {op ty n fl : Int} {a b c : EV} (h : op = 4 ∨ op = 5 ∨ op = 6 ∨ op = 7) : madE op ty n fl a b c = divE op ty fl a b := by unfold madE; rw [if_pos h]
theorem madE_s {op ty n fl : Int} {a b c : EV} (h : op = 11 ∨ op = 12 ∨ op = 13) : madE op ty n fl a b c = shfE op ty fl a b := by unfold madE; rw [if_neg (by omega), if_pos h]
theorem madE_c {op ty n fl : Int} {a b c : EV} (h : op = 20 ∨ op = 21 ∨ op = 22) : madE op ty n fl a b c = (conE op n ty a, 0) := by unfold madE; rw [if_neg (by omega), if_neg (by omega), if_pos h]
theorem madE_j {op ty n fl : Int} {a b c : EV} (h : ¬ (op = 4 ∨ op = 5 ∨ op = 6 ∨ op = 7)) (h1 : ¬ (op = 11 ∨ op = 12 ∨ op = 13)) (h2 : ¬ (op = 20 ∨ op = 21 ∨ op = 22)) (h3 : op ≠ 23) (h4 : op ≠ 24) (h5 : op ≠ 29) : madE op ty n fl a b c = joinE op ty fl a b := by
  unfold madE; rw [if_neg h, if_neg h1, if_neg h2, if_neg h3, if_neg h4, if_neg h5]
theorem rEval_any (d : Ins) (f0 : -9223372036854775808 ≤ d.fl) (f1 : d.fl ≤ 9223372036854775807) (l : List Vl) (p : Option Addr) (c : Nat) (hok : ∀ v ∈ l, v.ok) (W : World) (hl : VlsIn W.heap.size W p l.length c l) :
    Calls Try.prog 14 #[d.val, .slice p l.length c] W fun e w' => e = .returned (.tuple #[(evalE d.op d.ty d.n d.fl l).1.vl.val, .int .i64 (evalE d.op d.ty d.n d.fl l).2]) ∧ Below W.heap.size W w' := by
  have cS : ∀ W, Calls Try.prog 25 #[d.val, .int .i64 l.length] W fun e w' => e = .returned (.bool (frmE d.op d.ty d.n d.fl && decide ((l.length : Int) = cntE d.op))) ∧ Below W.heap.size W w' := fun W => rSuch_any d.op d.reg d.ty d.n d.fl d.ap d.al d.ac d.tp d.tl d.tc l.length W
  have cW : ∀ (i : Nat) W, Calls Try.prog 27 #[d.val, .int .i64 i] W fun e w' => e = .returned (.int .i64 (wntE d.op d.ty d.n i)) ∧ Below W.heap.size W w' := fun i W => rKind_any d.op d.reg d.ty d.n d.fl d.ap d.al d.ac d.tp d.tl d.tc i W
  unfold evalE
  by_cases h : frmE d.op d.ty d.n d.fl = true ∧ (l.length : Int) = cntE d.op
  rotate_left
  · rw [if_neg h]
    have e : (frmE d.op d.ty d.n d.fl && decide ((l.length : Int) = cntE d.op)) = false := by
      rw [Bool.eq_false_iff]
      intro hh
      simp only [Bool.and_eq_true, decide_eq_true_eq] at hh
      exact h hh
    rw [e] at cS
    obtain ⟨op, rg, ty, n, fl, ap, al, ac, tp, tl, tc, ars⟩ := d
    exact rEval_no op rg ty n fl ap al ac tp tl tc p l.length c cS W
  rw [if_pos h]
  have e : (frmE d.op d.ty d.n d.fl && decide ((l.length : Int) = cntE d.op)) = true := by simp only [Bool.and_eq_true, decide_eq_true_eq]; exact h
  rw [e] at cS
  clear e
  have hf : bits .andNot .i64 d.fl (flg d.op) = 0 := by
    have := h.1
    unfold frmE at this
    simp only [Bool.and_eq_true, decide_eq_true_eq] at this
    exact this.1
  have hty : typE d.op d.ty d.n = true := by
    have := h.1
    unfold frmE at this
    simp only [Bool.and_eq_true, decide_eq_true_eq] at this
    exact this.2
  have hcn := h.2
  clear h
  obtain ⟨zs, ezs⟩ : ∃ zs, zs = (l.zipIdx 0).map fun x => (nf (wntE d.op d.ty d.n x.2) x.1).vl := ⟨_, rfl⟩
  have hzl : zs.length = l.length := by rw [ezs]; simp
  have cN : ∀ (i : Nat) (v z : Vl), l[i]? = some v → zs[i]? = some z → ∀ W, Calls Try.prog 26 #[.int .i64 (wntE d.op d.ty d.n i), v.val] W fun e w' => e = .returned z.val ∧ Below W.heap.size W w' := fun i v z hv hz W => by
    have ez : z = (nf (wntE d.op d.ty d.n i) v).vl := by
      have := zs_at (fun i => wntE d.op d.ty d.n i) l 0 i v z hv (by rw [← ezs]; exact hz)
      simpa using this
    rw [ez, nf_vl]
    exact rNorm_any _ v W (hok v (List.mem_of_getElem? hv))
  have hwn := fun i => nf_fit (wntE d.op d.ty d.n i) (l.getD i.toNat p0)
  have cnt : ∀ m, cntE d.op = m → (l.length : Int) = m := fun m e => e ▸ hcn
  by_cases c4 : d.op = 4 ∨ d.op = 5 ∨ d.op = 6 ∨ d.op = 7
  · have hl2 : l.length = 2 := by have := cnt 2 (by unfold cntE; rw [if_neg (by omega), if_neg (by omega)]); omega
    rw [madE_d c4]
    obtain ⟨x, y, rfl⟩ := two_list hl2
    have w0 : wntE d.op d.ty d.n 0 = d.ty := by unfold wntE; rw [if_neg (by omega), if_neg (by omega), if_neg (by omega)]
    have w1 : wntE d.op d.ty d.n 1 = d.ty := by unfold wntE; rw [if_neg (by omega), if_neg (by omega), if_neg (by omega)]
    have hw : isW d.ty = true := by
      unfold typE at hty; rw [if_neg (by omega), if_neg (by omega), if_neg (by omega)] at hty
      simp only [Bool.and_eq_true, decide_eq_true_eq] at hty; exact isW_iff.2 hty.2
    have ez : zs = [(nf d.ty x).vl, (nf d.ty y).vl] := by rw [ezs]; simp [w0, w1]
    have cX := fun W => rDivided_any d (nf d.ty x) (nf d.ty y) (nf_fit _ _) (nf_fit _ _) c4 hw f0 f1 hf W
    show Calls _ _ _ W fun e w' => e = .returned (.tuple #[(divE d.op d.ty d.fl (nf (wntE d.op d.ty d.n 0) x) (nf (wntE d.op d.ty d.n 1) y)).1.vl.val, .int .i64 (divE d.op d.ty d.fl (nf (wntE d.op d.ty d.n 0) x) (nf (wntE d.op d.ty d.n 1) y)).2]) ∧ _
    rw [w0, w1]
    clear hwn cnt hcn w0 w1 hty ezs
    obtain ⟨op, rg, ty, n, fl, ap, al, ac, tp, tl, tc, ars⟩ := d
    simp only at c4 cS cW cN cX hl ez ⊢
    rcases c4 with rfl | rfl | rfl | rfl
    · exact rEval_div4 rg ty n fl ap al ac tp tl tc p c _ zs rfl hzl _ cS cW cN _ _ _ _ _ _ _ _ _ _ _ _ _ ez cX W hl
    · exact rEval_div5 rg ty n fl ap al ac tp tl tc p c _ zs rfl hzl _ cS cW cN _ _ _ _ _ _ _ _ _ _ _ _ _ ez cX W hl
    · exact rEval_div6 rg ty n fl ap al ac tp tl tc p c _ zs rfl hzl _ cS cW cN _ _ _ _ _ _ _ _ _ _ _ _ _ ez cX W hl
    · exact rEval_div7 rg ty n fl ap al ac tp tl tc p c _ zs rfl hzl _ cS cW cN _ _ _ _ _ _ _ _ _ _ _ _ _ ez cX W hl
  by_cases c11 : d.op = 11 ∨ d.op = 12 ∨ d.op = 13
  · have hl2 : l.length = 2 := by have := cnt 2 (by unfold cntE; rw [if_neg (by omega), if_neg (by omega)]); omega
    rw [madE_s c11]
    obtain ⟨x, y, rfl⟩ := two_list hl2
    have w0 : wntE d.op d.ty d.n 0 = d.ty := by unfold wntE; rw [if_neg (by omega), if_neg (by omega), if_neg (by omega)]
    have w1 : wntE d.op d.ty d.n 1 = d.ty := by unfold wntE; rw [if_neg (by omega), if_neg (by omega), if_neg (by omega)]
    have hw : isW d.ty = true := by
      unfold typE at hty; rw [if_neg (by omega), if_neg (by omega), if_neg (by omega)] at hty
      simp only [Bool.and_eq_true, decide_eq_true_eq] at hty; exact isW_iff.2 hty.2
    have ez : zs = [(nf d.ty x).vl, (nf d.ty y).vl] := by rw [ezs]; simp [w0, w1]
    have cX := fun W => rShifted_any d (nf d.ty x) (nf d.ty y) (nf_fit _ _) (nf_fit _ _) c11 hw f0 f1 hf W
    show Calls _ _ _ W fun e w' => e = .returned (.tuple #[(shfE d.op d.ty d.fl (nf (wntE d.op d.ty d.n 0) x) (nf (wntE d.op d.ty d.n 1) y)).1.vl.val, .int .i64 (shfE d.op d.ty d.fl (nf (wntE d.op d.ty d.n 0) x) (nf (wntE d.op d.ty d.n 1) y)).2]) ∧ _
    rw [w0, w1]
    clear hwn cnt hcn w0 w1 hty ezs c4
    obtain ⟨op, rg, ty, n, fl, ap, al, ac, tp, tl, tc, ars⟩ := d
    simp only at c11 cS cW cN cX hl ez ⊢
    rcases c11 with rfl | rfl | rfl
    · exact rEval_shf11 rg ty n fl ap al ac tp tl tc p c _ zs rfl hzl _ cS cW cN _ _ _ _ _ _ _ _ _ _ _ _ _ ez cX W hl
    · exact rEval_shf12 rg ty n fl ap al ac tp tl tc p c _ zs rfl hzl _ cS cW cN _ _ _ _ _ _ _ _ _ _ _ _ _ ez cX W hl
    · exact rEval_shf13 rg ty n fl ap al ac tp tl tc p c _ zs rfl hzl _ cS cW cN _ _ _ _ _ _ _ _ _ _ _ _ _ ez cX W hl
  by_cases c20 : d.op = 20 ∨ d.op = 21 ∨ d.op = 22
  · have hl1 : l.length = 1 := by have := cnt 1 (by unfold cntE; rw [if_pos (by omega)]); omega
    rw [madE_c c20]
    obtain ⟨x, rfl⟩ := one_list hl1
    have w0 : wntE d.op d.ty d.n 0 = d.n := by unfold wntE; rw [if_pos (by omega)]
    have ez : zs = [(nf d.n x).vl] := by rw [ezs]; simp [w0]
    have fx := nf_fit d.n x
    have cc := fun v (h0 : 0 ≤ v) (h1 : v ≤ 18446744073709551615) W => (rConvert_any d.op d.n d.ty v h0 h1 W).mono fun e w' ⟨h1, h2⟩ => (⟨h1, h2.1⟩ : _ ∧ Below W.heap.size W w')
    show Calls _ _ _ W fun e w' => e = .returned (.tuple #[(conE d.op d.n d.ty (nf (wntE d.op d.ty d.n 0) x)).vl.val, .int .i64 0]) ∧ _
    rw [w0]
    clear hwn cnt hcn w0 hty ezs c4 c11
    obtain ⟨op, rg, ty, n, fl, ap, al, ac, tp, tl, tc, ars⟩ := d
    simp only at c20 cS cW cN cc hl ez fx ⊢
    generalize nf n x = v at *
    cases v with
    | num u =>
      have hu := Fit.num_in fx
      have cC := cc u hu.2.2.1 hu.2.2.2.1
      have cX := fun W => rNumber_any (cvV op n ty u) W
      rcases c20 with rfl | rfl | rfl
      · exact rEval_con20_1 rg ty n fl ap al ac tp tl tc p c _ zs rfl hzl _ cS cW cN _ _ _ _ _ ez cC cX W hl
      · exact rEval_con21_1 rg ty n fl ap al ac tp tl tc p c _ zs rfl hzl _ cS cW cN _ _ _ _ _ ez cC cX W hl
      · exact rEval_con22_1 rg ty n fl ap al ac tp tl tc p c _ zs rfl hzl _ cS cW cN _ _ _ _ _ ez cC cX W hl
    | poi =>
      rcases c20 with rfl | rfl | rfl
      · exact rEval_con20_n rg ty n fl ap al ac tp tl tc p c _ zs rfl hzl _ cS cW cN _ _ _ _ rfl ez W hl
      · exact rEval_con21_n rg ty n fl ap al ac tp tl tc p c _ zs rfl hzl _ cS cW cN _ _ _ _ rfl ez W hl
      · exact rEval_con22_n rg ty n fl ap al ac tp tl tc p c _ zs rfl hzl _ cS cW cN _ _ _ _ rfl ez W hl
    | any =>
      rcases c20 with rfl | rfl | rfl
      · exact rEval_con20_n rg ty n fl ap al ac tp tl tc p c _ zs rfl hzl _ cS cW cN _ _ _ _ rfl ez W hl
      · exact rEval_con21_n rg ty n fl ap al ac tp tl tc p c _ zs rfl hzl _ cS cW cN _ _ _ _ rfl ez W hl
      · exact rEval_con22_n rg ty n fl ap al ac tp tl tc p c _ zs rfl hzl _ cS cW cN _ _ _ _ rfl ez W hl
    | adr g q =>
      rcases c20 with rfl | rfl | rfl
      · exact rEval_con20_n rg ty n fl ap al ac tp tl tc p c _ zs rfl hzl _ cS cW cN _ _ _ _ rfl ez W hl
      · exact rEval_con21_n rg ty n fl ap al ac tp tl tc p c _ zs rfl hzl _ cS cW cN _ _ _ _ rfl ez W hl
      · exact rEval_con22_n rg ty n fl ap al ac tp tl tc p c _ zs rfl hzl _ cS cW cN _ _ _ _ rfl ez W hl
  by_cases c23 : d.op = 23
  · have hl3 : l.length = 3 := by have := cnt 3 (by unfold cntE; rw [if_neg (by omega), if_pos c23]); omega
    obtain ⟨x, y, z, rfl⟩ := three_list hl3
    have w0 : wntE d.op d.ty d.n 0 = 1 := by rw [c23]; rfl
    have w1 : wntE d.op d.ty d.n 1 = d.ty := by rw [c23]; rfl
    have w2 : wntE d.op d.ty d.n 2 = d.ty := by rw [c23]; rfl
    have ez : zs = [(nf 1 x).vl, (nf d.ty y).vl, (nf d.ty z).vl] := by rw [ezs]; simp [w0, w1, w2]
    have cX := fun W => rChosen_any (nf 1 x) (nf d.ty y) (nf d.ty z) (nf_fit _ _) W
    have em : madE d.op d.ty d.n d.fl (nf (wntE d.op d.ty d.n 0) x) (nf (wntE d.op d.ty d.n 1) y) (nf (wntE d.op d.ty d.n 2) z) = (choE (nf 1 x) (nf d.ty y) (nf d.ty z), 0) := by rw [w0, w1, w2, c23]; rfl
    show Calls _ _ _ W fun e w' => e = .returned (.tuple #[(madE d.op d.ty d.n d.fl (nf (wntE d.op d.ty d.n 0) x) (nf (wntE d.op d.ty d.n 1) y) (nf (wntE d.op d.ty d.n 2) z)).1.vl.val, .int .i64 (madE d.op d.ty d.n d.fl (nf (wntE d.op d.ty d.n 0) x) (nf (wntE d.op d.ty d.n 1) y) (nf (wntE d.op d.ty d.n 2) z)).2]) ∧ _
    rw [em]
    clear hwn cnt hcn w0 w1 w2 hty ezs c4 c11 c20 em
    obtain ⟨op, rg, ty, n, fl, ap, al, ac, tp, tl, tc, ars⟩ := d
    simp only at c23 cS cW cN cX hl ez ⊢
    subst c23
    exact rEval_cho rg ty n fl ap al ac tp tl tc p c _ zs rfl hzl _ cS cW cN _ _ _ _ _ _ _ _ _ _ _ _ _ _ _ _ ez cX W hl
  by_cases c24 : d.op = 24
  · have hl1 : l.length = 1 := by have := cnt 1 (by unfold cntE; rw [if_pos (by omega)]); omega
    obtain ⟨x, rfl⟩ := one_list hl1
    have w0 : wntE d.op d.ty d.n 0 = d.ty := by rw [c24]; rfl
    have ez : zs = [(nf d.ty x).vl] := by rw [ezs]; simp [w0]
    have cX := fun W => rAnyV_any W
    have em : madE d.op d.ty d.n d.fl (nf (wntE d.op d.ty d.n 0) x) (nf (wntE d.op d.ty d.n 1) p0) (nf (wntE d.op d.ty d.n 2) p0) = (froE (nf d.ty x), 0) := by rw [w0, c24]; rfl
    show Calls _ _ _ W fun e w' => e = .returned (.tuple #[(madE d.op d.ty d.n d.fl (nf (wntE d.op d.ty d.n 0) x) (nf (wntE d.op d.ty d.n 1) p0) (nf (wntE d.op d.ty d.n 2) p0)).1.vl.val, .int .i64 (madE d.op d.ty d.n d.fl (nf (wntE d.op d.ty d.n 0) x) (nf (wntE d.op d.ty d.n 1) p0) (nf (wntE d.op d.ty d.n 2) p0)).2]) ∧ _
    rw [em]
    clear hwn cnt hcn w0 hty ezs c4 c11 c20 em
    obtain ⟨op, rg, ty, n, fl, ap, al, ac, tp, tl, tc, ars⟩ := d
    simp only at c24 cS cW cN hl ez ⊢
    subst c24
    generalize nf ty x = v at *
    cases v with
    | poi => exact rEval_fro_p rg ty n fl ap al ac tp tl tc p c _ zs rfl hzl _ cS cW cN _ _ _ ez cX W hl
    | num u => exact rEval_fro_n rg ty n fl ap al ac tp tl tc p c _ zs rfl hzl _ cS cW cN _ _ _ _ rfl ez W hl
    | adr g q => exact rEval_fro_n rg ty n fl ap al ac tp tl tc p c _ zs rfl hzl _ cS cW cN _ _ _ _ rfl ez W hl
    | any => exact rEval_fro_n rg ty n fl ap al ac tp tl tc p c _ zs rfl hzl _ cS cW cN _ _ _ _ rfl ez W hl
  have hl2 : l.length = 2 := by have := cnt 2 (by unfold cntE; rw [if_neg (by omega), if_neg c23]); omega
  obtain ⟨x, y, rfl⟩ := two_list hl2
  have n4 : (d.op == 4) = false := by simp; omega
  have n5 : (d.op == 5) = false := by simp; omega
  have n6 : (d.op == 6) = false := by simp; omega
  have n7 : (d.op == 7) = false := by simp; omega
  have n11 : (d.op == 11) = false := by simp; omega
  have n12 : (d.op == 12) = false := by simp; omega
  have n13 : (d.op == 13) = false := by simp; omega
  have n23 : (d.op == 23) = false := by simpa using c23
  have n24 : (d.op == 24) = false := by simpa using c24
  have n20 : (d.op == 20) = false := by simp; omega
  have n21 : (d.op == 21) = false := by simp; omega
  have n22 : (d.op == 22) = false := by simp; omega
  show Calls _ _ _ W fun e w' => e = .returned (.tuple #[(madE d.op d.ty d.n d.fl (nf (wntE d.op d.ty d.n 0) x) (nf (wntE d.op d.ty d.n 1) y) (nf (wntE d.op d.ty d.n 2) p0)).1.vl.val, .int .i64 (madE d.op d.ty d.n d.fl (nf (wntE d.op d.ty d.n 0) x) (nf (wntE d.op d.ty d.n 1) y) (nf (wntE d.op d.ty d.n 2) p0)).2]) ∧ _
  by_cases c29 : d.op = 29
  · have w0 : wntE d.op d.ty d.n 0 = d.ty := by rw [c29]; rfl
    have w1 : wntE d.op d.ty d.n 1 = 64 := by rw [c29]; rfl
    have t65 : d.ty = 65 := by rw [c29] at hty; simpa [typE] using hty
    have em : madE d.op d.ty d.n d.fl (nf (wntE d.op d.ty d.n 0) x) (nf (wntE d.op d.ty d.n 1) y) (nf (wntE d.op d.ty d.n 2) p0) = (movE (nf 65 x) (nf 64 y), 0) := by rw [w0, w1, t65, c29]; rfl
    have ez : zs = [(nf 65 x).vl, (nf 64 y).vl] := by rw [ezs]; show [(nf (wntE d.op d.ty d.n 0) x).vl, (nf (wntE d.op d.ty d.n 1) y).vl] = _; rw [w0, w1, t65]
    have fl0 : d.fl = 0 := by rw [c29] at hf; exact flags_0 f0 f1 (by simpa [flg] using hf)
    rw [em]
    clear hwn cnt hcn w0 w1 hty ezs c4 c11 c20 em c23 c24
    obtain ⟨op, rg, ty, n, fl, ap, al, ac, tp, tl, tc, ars⟩ := d
    simp only at c29 cS cW cN hl ez t65 fl0 ⊢
    subst c29 fl0
    have cX := fun W => rPair_move rg ty n ap al ac tp tl tc (nf 65 x) (nf 64 y) (nf_fit _ _) (nf_fit _ _) W
    exact rEval_pair 29 rg ty n 0 ap al ac tp tl tc p c _ zs rfl hzl _ cS cW cN _ _ _ _ _ rfl rfl rfl rfl rfl rfl rfl rfl rfl rfl rfl rfl _ _ _ _ _ _ _ _ ez cX W hl
  · rw [madE_j c4 c11 c20 c23 c24 c29]
    have w0 : wntE d.op d.ty d.n 0 = d.ty := by unfold wntE; rw [if_neg c20, if_neg c23, if_neg c29]
    have w1 : wntE d.op d.ty d.n 1 = d.ty := by unfold wntE; rw [if_neg c20, if_neg c23, if_neg c29]
    have ez : zs = [(nf d.ty x).vl, (nf d.ty y).vl] := by rw [ezs]; simp [w0, w1]
    rw [w0, w1]
    have hn : isW d.ty = true → 1 ≤ d.op ∧ d.op ≤ 19 := fun _ => by
      unfold typE at hty
      by_cases c14 : d.op = 14 ∨ d.op = 15 ∨ d.op = 23 ∨ d.op = 24
      · omega
      · rw [if_neg c14, if_neg c20, if_neg c29] at hty
        simp only [Bool.and_eq_true, decide_eq_true_eq] at hty
        exact hty.1
    have cX := fun W => rPair_join d (nf d.ty x) (nf d.ty y) (nf_fit _ _) (nf_fit _ _) hn c29 f0 f1 hf W
    clear hwn cnt hcn w0 w1 hty ezs c4 c11 c20 c23 c24
    obtain ⟨op, rg, ty, n, fl, ap, al, ac, tp, tl, tc, ars⟩ := d
    simp only at cS cW cN hl ez cX n4 n5 n6 n7 n11 n12 n13 n23 n24 n20 n21 n22 ⊢
    exact rEval_pair op rg ty n fl ap al ac tp tl tc p c _ zs rfl hzl _ cS cW cN _ _ _ _ _ n4 n5 n6 n7 n11 n12 n13 n23 n24 n20 n21 n22 _ _ _ _ _ _ _ _ ez cX W hl
end Go.Proofs.Ytpjfkmaceaikbaa
