/- The law IrReplaces: its walk. -/
import Derived.Test.YtpfeiolmkbibiaaRepA
import Derived.Deep.DeepCutAuto
import Derived.Deep.QuietTactic
import Derived.BigQuiet
namespace Go.Proofs.Ytpfeiolmkbibiaa
open Go.RowKit Go.Maps
set_option linter.unusedVariables false
set_option linter.unusedSimpArgs false

/-- A new function's cells. -/
abbrev zF : List Value := [.string { data := #[] }, .slice none 0 0, .int .i64 0, .slice none 0 0]
structure ZB (b : Nat) (w : World) : Prop where
  s : b < w.heap.size
  f : ∀ i, w.frozen? ⟨b, i, none⟩ = false
  c0 : w.cell? ⟨b, 0, none⟩ = some (.string { data := #[] })
  c1 : w.cell? ⟨b, 1, none⟩ = some (.slice none 0 0)
  c2 : w.cell? ⟨b, 2, none⟩ = some (.int .i64 0)
  c3 : w.cell? ⟨b, 3, none⟩ = some (.slice none 0 0)
theorem Stands.zb {W w : World} {R : List (Nat × List Value)} {O : List Owned} (S : Stands W R O w) {b : Nat} (h : (b, zF) ∈ R) : ZB b w :=
  ⟨S.lt h, (S.box _ h).2.1, S.get h 0 _ rfl, S.get h 1 _ rfl, S.get h 2 _ rfl, S.get h 3 _ rfl⟩
theorem Stands.drewN {W w : World} {R : List (Nat × List Value)} {O : List Owned} (h : Stands W R O w) (n : Nat) : Stands W R O (w.drewN n) := h.later ⟨rfl, rfl, rfl, Nat.le_refl _, fun _ _ => rfl⟩
theorem Stands.put' {W w : World} {R : List (Nat × List Value)} {O : List Owned} (h : Stands W R O w) {g : Nat} (hg : g = w.heap.size) (cs : List Value) (t : TypeId) : Stands W ((g, cs) :: R) O (w.alloc (.cells cs.toArray t)) := by
  subst hg; exact h.put cs t
/-- Two functions alike, in boxes, each in memory of its own. -/
def TwoF (W : World) (D : PFn) (N0 : Nat) (R : List (Nat × List Value)) (O : List Owned) (s t : Value) (w : World) : Prop :=
  ∃ bg bh lg hg lh hh g h, s = .pointer (some ⟨bg, 0, none⟩) ∧ t = .pointer (some ⟨bh, 0, none⟩) ∧ fnD g = D ∧ fnD h = D ∧ Stands W ((bg, fnC g) :: (bh, fnC h) :: R) (fnO lg hg g :: fnO lh hh h :: O) w ∧
    N0 ≤ lg ∧ N0 ≤ lh ∧ (hg ≤ lh ∨ hh ≤ lg) ∧ (bg < lg ∨ hg ≤ bg) ∧ (bg < lh ∨ hh ≤ bg) ∧ (bh < lg ∨ hg ≤ bh) ∧ (bh < lh ∨ hh ≤ bh) ∧ bg ≠ bh ∧ N0 ≤ bg ∧ N0 ≤ bh
theorem two_mk {W w : World} {R : List (Nat × List Value)} {O : List Owned} {N0 : Nat} {D : PFn} {bg bh lg hg lh hh : Nat} {g h : LFn} (dg : fnD g = D) (dh : fnD h = D)
    (S : Stands W R (fnO lg hg g :: fnO lh hh h :: O) w) (B1 : Box bg (fnC g) w) (B2 : Box bh (fnC h) w)
    (n : N0 ≤ lg ∧ N0 ≤ lh ∧ (hg ≤ lh ∨ hh ≤ lg) ∧ (bg < lg ∨ hg ≤ bg) ∧ (bg < lh ∨ hh ≤ bg) ∧ (bh < lg ∨ hg ≤ bh) ∧ (bh < lh ∨ hh ≤ bh) ∧ bg ≠ bh ∧ N0 ≤ bg ∧ N0 ≤ bh) :
    TwoF W D N0 R O (.pointer (some ⟨bg, 0, none⟩)) (.pointer (some ⟨bh, 0, none⟩)) w := by
  refine ⟨bg, bh, lg, hg, lh, hh, g, h, rfl, rfl, dg, dh, ⟨S.past, fun x hx => ?_, S.own⟩, n⟩
  rcases List.mem_cons.1 hx with rfl | hx
  · exact B1
  rcases List.mem_cons.1 hx with rfl | hx
  · exact B2
  · exact S.box x hx
/-- A block that is nobody's. -/
def Free (W : World) (R : List (Nat × List Value)) (O : List Owned) (b : Nat) : Prop := W.heap.size ≤ b ∧ (∀ x ∈ R, x.1 ≠ b) ∧ ∀ x ∈ O, x.2.1 ≤ b ∨ b < x.1
theorem Stands.set1 {W w : World} {R : List (Nat × List Value)} {O : List Owned} {b i : Nat} {v : Value} (h : Stands W R O w) (hf : Free W R O b) : Stands W R O (w.setCell ⟨b, i, none⟩ v) := by
  obtain ⟨h1, h2, h3⟩ := hf
  have ho : Out b (b + 1) w (w.setCells b i [v]) := out_setCells (Nat.le_refl _) (Nat.lt_succ_self _) [v] i w
  exact h.out ho h1 (fun x hx => by have := h2 x hx; omega) (fun x hx => by have := h3 x hx; omega)
theorem Box.fill4 {b : Nat} {x0 x1 x2 x3 a0 a1 a2 a3 : Value} {w : World} (h : Box b [x0, x1, x2, x3] w) : Box b [a0, a1, a2, a3] ((((w.setCell ⟨b, 0, none⟩ a0).setCell ⟨b, 1, none⟩ a1).setCell ⟨b, 2, none⟩ a2).setCell ⟨b, 3, none⟩ a3) :=
  (((h.set 0 a0).set 1 a1).set 2 a2).set 3 a3
theorem Box.fresh (w : World) {g : Nat} (hg : g = w.heap.size) (a b c d : Value) (t : TypeId) : Box g [a, b, c, d] (w.alloc (.cells #[a, b, c, d] t)) := Box.new w hg [a, b, c, d] t
theorem Box.else4 {g b : Nat} {cs : List Value} {a0 a1 a2 a3 : Value} {w : World} (h : Box g cs w) (hd : b ≠ g) : Box g cs ((((w.setCell ⟨b, 0, none⟩ a0).setCell ⟨b, 1, none⟩ a1).setCell ⟨b, 2, none⟩ a2).setCell ⟨b, 3, none⟩ a3) :=
  (((h.other hd 0 a0).other hd 1 a1).other hd 2 a2).other hd 3 a3
theorem Stands.bx {W w : World} {R : List (Nat × List Value)} {O : List Owned} (S : Stands W R O w) {b : Nat} (h : (b, zF) ∈ R) : Box b zF w := S.box _ h


theorem usesP_le (r : Int) (f : LFn) : usesP r (fnD f) ≤ fnZ (fnD f) := by
  rw [← usesOf_located, usesOf_count]
  have h1 := nsI_le (located f.bs).flatten
  have h2 : (nsI (located f.bs).flatten).count r ≤ (nsI (located f.bs).flatten).length := List.count_le_length
  have h3 := cnt_located f
  unfold cnt at h3
  omega

set_option maxRecDepth 100000 in
set_option maxHeartbeats 4000000 in
/-- Region 6: two replacements. -/
theorem irReplaces_walk (W : World) (f : LFn) (reg : Int) (v : Arg) (other : Int) (h : FnIn W.heap.size W f) (hz : fnZ (fnD f) ≤ 1048576) :
    Calls Try.prog 6 #[.agg (fnC f).toArray, .int .i64 reg, .agg (argC v).toArray, .int .i64 other] W fun e w' => e = .returned (.bool true) ∧ Below W.heap.size W w' := by
  have cl := lives_any
  obtain ⟨nm, pp, pn, pc, ps, rt, bp, bn, bc, bs⟩ := f
  obtain ⟨vk, vn, vb⟩ := v
  show Calls Try.prog 6 #[.agg #[.string nm, .slice pp pn pc, .int .i64 rt, .slice bp bn bc], .int .i64 reg, .agg #[.int .i64 vk, .int .i64 vn, .int .u64 vb], .int .i64 other] W _
  have S0 : Stands W [(W.heap.size + 1, [.int .i64 vk, .int .i64 vn, .int .u64 vb]), (W.heap.size, [.string nm, .slice pp pn pc, .int .i64 rt, .slice bp bn bc])] [] ((W.alloc (.cells #[.string nm, .slice pp pn pc, .int .i64 rt, .slice bp bn bc] 41)).alloc (.cells #[.int .i64 vk, .int .i64 vn, .int .u64 vb] 55)) := ((Stands.start W).put' rfl [.string nm, .slice pp pn pc, .int .i64 rt, .slice bp bn bc] 41).put' (by simp) [.int .i64 vk, .int .i64 vn, .int .u64 vb] 55
  have hcl := cnt_located ⟨nm, pp, pn, pc, ps, rt, bp, bn, bc, bs⟩
  have HL := Lib.hid hcl
  obtain ⟨f, ef⟩ : ∃ f : LFn, f = ⟨nm, pp, pn, pc, ps, rt, bp, bn, bc, bs⟩ := ⟨_, rfl⟩
  have HFB := Lib.hid (show FnIn W.heap.size W ⟨nm, pp, pn, pc, ps, rt, bp, bn, bc, bs⟩ from h)
  rw [← ef] at h hz
  have HFC : Hid (fnC f = [.string nm, .slice pp pn pc, .int .i64 rt, .slice bp bn bc]) := Lib.hid (by rw [ef]; rfl)
  have HZF : Hid (fnZ (fnD ⟨nm, pp, pn, pc, ps, rt, bp, bn, bc, bs⟩) = fnZ (fnD f)) := Lib.hid (by rw [ef])
  have HH := Lib.hid h
  have HZ := Lib.hid hz
  clear h hz ef hcl
  go_enter Try.func6, Try.ntmps6
  go_wp2_with fail
  refine (cl _).mono ?_
  rintro e w1 ⟨rfl, hb1⟩
  have S1 := S0.later hb1
  clear hb1 cl S0
  have y0 := S1.get (b := W.heap.size) (.tail _ (.head _)) 0 _ rfl
  have y1 := S1.get (b := W.heap.size) (.tail _ (.head _)) 1 _ rfl
  have y2 := S1.get (b := W.heap.size) (.tail _ (.head _)) 2 _ rfl
  have y3 := S1.get (b := W.heap.size) (.tail _ (.head _)) 3 _ rfl
  have HS1 := Lib.hid S1
  clear S1
  go_wp2_with fail
  have S2 := HS1.out.alloc (.cells #[.string nm, .slice pp pn pc, .int .i64 rt, .slice bp bn bc] 41)
  refine (Few_one _ w1.heap.size nm pp pn pc rt bp bn bc (located bs) (by simp) (by rw [World.cell?_alloc_at _ _ _ _ rfl]; rfl) (by rw [World.cell?_alloc_at _ _ _ _ rfl]; rfl) (by rw [World.cell?_alloc_at _ _ _ _ rfl]; rfl) (by rw [World.cell?_alloc_at _ _ _ _ rfl]; rfl) (blocksAt_in (past_lasts lasts_Fn HFB.out S2.past).2) (by have h1 := HZ.out; have h2 := HL.out; have h3 := HFB.out.1.1; rw [HZF.out] at h2; simp only at h2 h3; omega)).mono ?_
  rintro e w2 ⟨bf, rfl, hb2⟩
  have S3 := S2.later hb2
  clear y0 y1 y2 y3 hb2 S2 HS1 HL HFB HZF
  have HS3 := Lib.hid S3
  cases bf
  · clear S3
    go_wp2
    go_ret
    exact ⟨rfl, HS3.out.past.2⟩
  have y0 := S3.get (b := W.heap.size) (.tail _ (.head _)) 0 _ rfl
  have y1 := S3.get (b := W.heap.size) (.tail _ (.head _)) 1 _ rfl
  have y2 := S3.get (b := W.heap.size) (.tail _ (.head _)) 2 _ rfl
  have y3 := S3.get (b := W.heap.size) (.tail _ (.head _)) 3 _ rfl
  clear S3
  go_wp2_with fail
  have hcr := rCopyFunc_own f w2 (HS3.out.arg HH.out) HZ.out
  rw [HFC.out] at hcr
  refine hcr.mono ?_
  rintro e w3 ⟨mine, he, hdm, hp3, hom⟩
  clear hcr y0 y1 y2 y3
  obtain ⟨nm1, pp1, pn1, pc1, ps1, rt1, bp1, bn1, bc1, bs1⟩ := mine
  obtain rfl : e = .returned (.agg #[.string nm1, .slice pp1 pn1 pc1, .int .i64 rt1, .slice bp1 bn1 bc1]) := he
  obtain ⟨mine, em⟩ : ∃ m : LFn, m = ⟨nm1, pp1, pn1, pc1, ps1, rt1, bp1, bn1, bc1, bs1⟩ := ⟨_, rfl⟩
  rw [← em] at hdm hom
  have HMC : Hid (fnC mine = [.string nm1, .slice pp1 pn1 pc1, .int .i64 rt1, .slice bp1 bn1 bc1]) := Lib.hid (by rw [em]; rfl)
  have HDM := Lib.hid hdm
  have S5 : Stands W [(w3.heap.size, [.string nm1, .slice pp1 pn1 pc1, .int .i64 rt1, .slice bp1 bn1 bc1]), (W.heap.size + 1, [.int .i64 vk, .int .i64 vn, .int .u64 vb]), (W.heap.size, [.string nm, .slice pp pn pc, .int .i64 rt, .slice bp bn bc])] [fnO w2.heap.size w3.heap.size mine] (w3.alloc (.cells #[.string nm1, .slice pp1 pn1 pc1, .int .i64 rt1, .slice bp1 bn1 bc1] 41)) := (HS3.out.more hp3 hom).put' rfl [.string nm1, .slice pp1 pn1 pc1, .int .i64 rt1, .slice bp1 bn1 bc1] 41
  have hn1 : W.heap.size + 1 < w2.heap.size := HS3.out.lt (.head _)
  have hn2 := hp3.2.size
  have hn3 : (w3.alloc (.cells #[.string nm1, .slice pp1 pn1 pc1, .int .i64 rt1, .slice bp1 bn1 bc1] 41)).heap.size = w3.heap.size + 1 := by simp
  have HS5 := Lib.hid S5
  clear S5 em hdm hom hp3 HS3
  obtain ⟨lm, elm⟩ : ∃ lm, w2.heap.size = lm := ⟨_, rfl⟩
  rw [elm] at HS5 hn1 hn2
  clear elm
  go_upto_region 6 with fail
  obtain ⟨w5, ew5⟩ : ∃ w5, w3.alloc (.cells #[.string nm1, .slice pp1 pn1 pc1, .int .i64 rt1, .slice bp1 bn1 bc1] 41) = w5 := ⟨_, rfl⟩
  rw [ew5] at HS5 hn3 ⊢
  clear ew5
  obtain ⟨bm, ebm⟩ : ∃ bm, w3.heap.size = bm := ⟨_, rfl⟩
  simp only [ebm] at HS5 hn2 hn3 ⊢
  clear ebm
  obtain ⟨hm, ehm⟩ : ∃ hm, hm = bm := ⟨_, rfl⟩
  have HS6 : Hid (Stands W [(bm, [.string nm1, .slice pp1 pn1 pc1, .int .i64 rt1, .slice bp1 bn1 bc1]), (W.heap.size + 1, [.int .i64 vk, .int .i64 vn, .int .u64 vb]), (W.heap.size, [.string nm, .slice pp pn pc, .int .i64 rt, .slice bp bn bc])] [fnO lm hm mine] w5) := Lib.hid (by rw [ehm]; exact HS5.out)
  clear HS5
  have hm1 : hm ≤ bm := Nat.le_of_eq ehm
  clear ehm
  obtain ⟨D, hD⟩ : ∃ D, repF reg ⟨vk, vn, vb⟩ (fnD f) = D := ⟨_, rfl⟩
  have HDD := Lib.hid hD
  have HN3 := Lib.hid hn3
  clear hD hn3
  go_cut [10, 11] (fun s10 s11 wx => TwoF W D w5.heap.size [(bm, [.string nm1, .slice pp1 pn1 pc1, .int .i64 rt1, .slice bp1 bn1 bc1]), (W.heap.size + 1, [.int .i64 vk, .int .i64 vn, .int .u64 vb]), (W.heap.size, [.string nm, .slice pp pn pc, .int .i64 rt, .slice bp bn bc])] [fnO lm hm mine] s10 s11 wx)
  case first =>
    have S5 := HS6.out
    have hcR : ∀ w O, fnO lm hm mine ∈ O → Stands W [(bm, [.string nm1, .slice pp1 pn1 pc1, .int .i64 rt1, .slice bp1 bn1 bc1]), (W.heap.size + 1, [.int .i64 vk, .int .i64 vn, .int .u64 vb]), (W.heap.size, [.string nm, .slice pp pn pc, .int .i64 rt, .slice bp bn bc])] O w → Calls Try.prog 34 #[.agg #[.string nm1, .slice pp1 pn1 pc1, .int .i64 rt1, .slice bp1 bn1 bc1], .int .i64 reg, .agg #[.int .i64 vk, .int .i64 vn, .int .u64 vb]] w fun e w' => ∃ nm9 pp9 pn9 pc9 ps9 rt9 bp9 bn9 bc9 bs9 lo hi, e = .returned (.agg #[.string nm9, .slice pp9 pn9 pc9, .int .i64 rt9, .slice bp9 bn9 bc9]) ∧ fnD ⟨nm9, pp9, pn9, pc9, ps9, rt9, bp9, bn9, bc9, bs9⟩ = D ∧ Past w.heap.size w w' ∧ FnOwn w.heap.size w'.heap.size w' ⟨nm9, pp9, pn9, pc9, ps9, rt9, bp9, bn9, bc9, bs9⟩ ∧ Stands W [(bm, [.string nm1, .slice pp1 pn1 pc1, .int .i64 rt1, .slice bp1 bn1 bc1]), (W.heap.size + 1, [.int .i64 vk, .int .i64 vn, .int .u64 vb]), (W.heap.size, [.string nm, .slice pp pn pc, .int .i64 rt, .slice bp bn bc])] (fnO lo hi ⟨nm9, pp9, pn9, pc9, ps9, rt9, bp9, bn9, bc9, bs9⟩ :: O) w' ∧ w.heap.size ≤ lo ∧ lo ≤ hi ∧ hi ≤ w'.heap.size := by
      intro w O hO S
      have hc := Replace_own mine reg ⟨vk, vn, vb⟩ w (S.fn hO) (by rw [HDM.out]; exact HZ.out)
      rw [HMC.out, HDM.out, HDD.out] at hc
      refine hc.mono ?_
      rintro e w' ⟨y, he, hd, hp, ho⟩
      have S' := S.more hp ho
      obtain ⟨nm9, pp9, pn9, pc9, ps9, rt9, bp9, bn9, bc9, bs9⟩ := y
      exact ⟨nm9, pp9, pn9, pc9, ps9, rt9, bp9, bn9, bc9, bs9, _, _, he, hd, hp, ho, S', Nat.le_refl _, hp.2.size, Nat.le_refl _⟩
    have x0 := S5.get (b := bm) (.head _) 0 _ rfl
    have x1 := S5.get (b := bm) (.head _) 1 _ rfl
    have x2 := S5.get (b := bm) (.head _) 2 _ rfl
    have x3 := S5.get (b := bm) (.head _) 3 _ rfl
    have v0 := S5.get (b := W.heap.size + 1) (.tail _ (.head _)) 0 _ rfl
    have v1 := S5.get (b := W.heap.size + 1) (.tail _ (.head _)) 1 _ rfl
    have v2 := S5.get (b := W.heap.size + 1) (.tail _ (.head _)) 2 _ rfl
    have lb5 := S5.lt (b := bm) (.head _)
    have lv5 := S5.lt (b := W.heap.size + 1) (.tail _ (.head _))
    go_region_held3 (fun w' => w'.cell? ⟨bm, 0, none⟩ = some (.string nm1) ∧ w'.cell? ⟨bm, 1, none⟩ = some (.slice pp1 pn1 pc1) ∧ w'.cell? ⟨bm, 2, none⟩ = some (.int .i64 rt1) ∧ w'.cell? ⟨bm, 3, none⟩ = some (.slice bp1 bn1 bc1) ∧ w'.cell? ⟨W.heap.size + 1, 0, none⟩ = some (.int .i64 vk) ∧ w'.cell? ⟨W.heap.size + 1, 1, none⟩ = some (.int .i64 vn) ∧ w'.cell? ⟨W.heap.size + 1, 2, none⟩ = some (.int .u64 vb))
      (((try dsimp only); (repeat' apply And.intro) <;> ((repeat (first | rw [World.cell?_drew] | rw [World.cell?_alloc_past _ _ _ (by first | omega | (simp <;> omega) | (dsimp only; omega) | (dsimp only; simp <;> omega))] | rw [World.cell?_setCell_far _ _ _ _ (by dsimp only; first | omega | (simp <;> omega))])); with_reducible assumption)))
      (first
        | (fail_if_success (have := M1)
           (with_reducible refine (hcR _ [fnO lm hm mine] (List.mem_singleton.2 rfl) ?pre).mono ?_)
           case pre => (repeat (first | (with_reducible exact S5) | (with_reducible apply Stands.drew) | (with_reducible apply Stands.alloc)))
           rintro e w6 ⟨nm6, pp6, pn6, pc6, ps6, rt6, bp6, bn6, bc6, bs6, lo6, hi6, rfl, hd6, hp6, ho6, T6, hlo6, hlh6, hhi6⟩
           have M1 : True := trivial
           have S6 : Stands W _ _ w6 := Stands.more (by repeat (first | (with_reducible exact S5) | (with_reducible apply Stands.drew) | (with_reducible apply Stands.put))) hp6 ho6
           have a0 := T6.get (b := bm) (.head _) 0 _ rfl
           have a1 := T6.get (b := bm) (.head _) 1 _ rfl
           have a2 := T6.get (b := bm) (.head _) 2 _ rfl
           have a3 := T6.get (b := bm) (.head _) 3 _ rfl
           have u0 := T6.get (b := W.heap.size + 1) (.tail _ (.head _)) 0 _ rfl
           have u1 := T6.get (b := W.heap.size + 1) (.tail _ (.head _)) 1 _ rfl
           have u2 := T6.get (b := W.heap.size + 1) (.tail _ (.head _)) 2 _ rfl
           have hz6 := hp6.2.size
           try simp only [World.size_alloc, World.size_drew] at hz6 hlo6
           have hnum1 : w5.heap.size ≤ lo6 := by omega
           have lb6 := T6.lt (b := bm) (.head _)
           have lv6 := T6.lt (b := W.heap.size + 1) (.tail _ (.head _))
           try (obtain P0 : Box w5.heap.size zF w6
                focus (apply Stands.bx S6; simp; done)
                rename_i P0
                have p0_s := P0.1
                have p0_f := P0.2.1
                have p0_0 := P0.get 0 _ rfl
                have p0_1 := P0.get 1 _ rfl
                have p0_2 := P0.get 2 _ rfl
                have p0_3 := P0.get 3 _ rfl)
           try (obtain P1 : Box (w5.heap.size + 1) zF w6
                focus (apply Stands.bx S6; simp; done)
                rename_i P1
                have p1_s := P1.1
                have p1_f := P1.2.1
                have p1_0 := P1.get 0 _ rfl
                have p1_1 := P1.get 1 _ rfl
                have p1_2 := P1.get 2 _ rfl
                have p1_3 := P1.get 3 _ rfl))
        | ((with_reducible refine (hcR _ (fnO lo6 hi6 ⟨nm6, pp6, pn6, pc6, ps6, rt6, bp6, bn6, bc6, bs6⟩ :: [fnO lm hm mine]) (List.mem_cons_of_mem _ (List.mem_singleton.2 rfl)) ?pre).mono ?_)
           case pre => (repeat (first | (with_reducible exact T6) | (with_reducible apply Stands.drew) | (with_reducible apply Stands.alloc)))
           rintro e w7 ⟨nm7, pp7, pn7, pc7, ps7, rt7, bp7, bn7, bc7, bs7, lo7, hi7, rfl, hd7, hp7, ho7, T7, hlo7, hlh7, hhi7⟩
           have S7 : Stands W _ _ w7 := Stands.more (by repeat (first | (with_reducible exact S6) | (with_reducible apply Stands.drew) | (with_reducible apply Stands.put))) hp7 ho7
           have hz7 := hp7.2.size
           try simp only [World.size_alloc, World.size_drew] at hz7 hlo7
           have hnum2 : w6.heap.size ≤ lo7 := by omega
           have lb7 := T7.lt (b := bm) (.head _)
           have lv7 := T7.lt (b := W.heap.size + 1) (.tail _ (.head _))
           have b0 := T7.get (b := bm) (.head _) 0 _ rfl
           have b1 := T7.get (b := bm) (.head _) 1 _ rfl
           have b2 := T7.get (b := bm) (.head _) 2 _ rfl
           have b3 := T7.get (b := bm) (.head _) 3 _ rfl
           have t0 := T7.get (b := W.heap.size + 1) (.tail _ (.head _)) 0 _ rfl
           have t1 := T7.get (b := W.heap.size + 1) (.tail _ (.head _)) 1 _ rfl
           have t2 := T7.get (b := W.heap.size + 1) (.tail _ (.head _)) 2 _ rfl
           try (obtain Q0 : Box w5.heap.size zF w7
                focus (apply Stands.bx S7; simp; done)
                rename_i Q0
                have q0_s := Q0.1
                have q0_f := Q0.2.1
                have q0_0 := Q0.get 0 _ rfl
                have q0_1 := Q0.get 1 _ rfl
                have q0_2 := Q0.get 2 _ rfl
                have q0_3 := Q0.get 3 _ rfl)
           try (obtain Q1 : Box (w5.heap.size + 1) zF w7
                focus (apply Stands.bx S7; simp; done)
                rename_i Q1
                have q1_s := Q1.1
                have q1_f := Q1.2.1
                have q1_0 := Q1.get 0 _ rfl
                have q1_1 := Q1.get 1 _ rfl
                have q1_2 := Q1.get 2 _ rfl
                have q1_3 := Q1.get 3 _ rfl)
           try (obtain Q2 : Box w6.heap.size zF w7
                focus (apply Stands.bx S7; simp; done)
                rename_i Q2
                have q2_s := Q2.1
                have q2_f := Q2.2.1
                have q2_0 := Q2.get 0 _ rfl
                have q2_1 := Q2.get 1 _ rfl
                have q2_2 := Q2.get 2 _ rfl
                have q2_3 := Q2.get 3 _ rfl)
           try (obtain Q3 : Box (w6.heap.size + 1) zF w7
                focus (apply Stands.bx S7; simp; done)
                rename_i Q3
                have q3_s := Q3.1
                have q3_f := Q3.2.1
                have q3_0 := Q3.get 0 _ rfl
                have q3_1 := Q3.get 1 _ rfl
                have q3_2 := Q3.get 2 _ rfl
                have q3_3 := Q3.get 3 _ rfl)))
    all_goals (go_wp2_with fail; go_meet)
    all_goals
      have T7s : Stands W [(bm, [.string nm1, .slice pp1 pn1 pc1, .int .i64 rt1, .slice bp1 bn1 bc1]), (W.heap.size + 1, [.int .i64 vk, .int .i64 vn, .int .u64 vb]), (W.heap.size, [.string nm, .slice pp pn pc, .int .i64 rt, .slice bp bn bc])] (fnO lo6 hi6 ⟨nm6, pp6, pn6, pc6, ps6, rt6, bp6, bn6, bc6, bs6⟩ :: fnO lo7 hi7 ⟨nm7, pp7, pn7, pc7, ps7, rt7, bp7, bn7, bc7, bs7⟩ :: [fnO lm hm mine]) w7 := T7.sub (fun x hx => hx) (fun x hx => by
        rcases List.mem_cons.1 hx with rfl | hx
        · exact .tail _ (.head _)
        rcases List.mem_cons.1 hx with rfl | hx
        · exact .head _
        · exact .tail _ (.tail _ hx))
      have hWN : W.heap.size + 1 < w5.heap.size := lv5
      have hfree : ∀ b, w5.heap.size ≤ b → (b < lo6 ∨ hi6 ≤ b) → (b < lo7 ∨ hi7 ≤ b) → Free W [(bm, [.string nm1, .slice pp1 pn1 pc1, .int .i64 rt1, .slice bp1 bn1 bc1]), (W.heap.size + 1, [.int .i64 vk, .int .i64 vn, .int .u64 vb]), (W.heap.size, [.string nm, .slice pp pn pc, .int .i64 rt, .slice bp bn bc])] (fnO lo6 hi6 ⟨nm6, pp6, pn6, pc6, ps6, rt6, bp6, bn6, bc6, bs6⟩ :: fnO lo7 hi7 ⟨nm7, pp7, pn7, pc7, ps7, rt7, bp7, bn7, bc7, bs7⟩ :: [fnO lm hm mine]) b := fun b h1 h2 h3 => ⟨by omega, fun x hx => by
          simp only [List.mem_cons, List.not_mem_nil, or_false] at hx
          rcases hx with rfl | rfl | rfl <;> simp only <;> omega, fun x hx => by
          simp only [List.mem_cons, List.not_mem_nil, or_false] at hx
          rcases hx with rfl | rfl | rfl <;> simp only [fnO] <;> omega⟩
      clear T7 T6 S6 S7 S5 hp6 hp7 ho6 ho7 hcR HS6
      have HFREE := Lib.hid hfree
      clear hfree
      with_reducible refine two_mk (lg := lo6) (hg := hi6) (lh := lo7) (hh := hi7) hd6 hd7 ?S ?B1 ?B2 ?n
      case S => (repeat (first | (with_reducible exact T7s) | (with_reducible apply Stands.alloc) | (with_reducible refine Stands.set1 ?_ (HFREE.out _ ?_ ?_ ?_)))) <;> (try omega)
      case B1 => (show Box _ [.string nm6, .slice pp6 pn6 pc6, .int .i64 rt6, .slice bp6 bn6 bc6] _); (repeat (first | (with_reducible assumption) | (with_reducible refine Box.fresh _ ?_ _ _ _ _ _) | (with_reducible apply Box.alloc) | (with_reducible apply Box.fill4) | (with_reducible refine Box.else4 ?_ ?_))) <;> (first | (with_reducible rfl) | omega | (simp; done) | (simp <;> omega))
      case B2 => (show Box _ [.string nm7, .slice pp7 pn7 pc7, .int .i64 rt7, .slice bp7 bn7 bc7] _); (repeat (first | (with_reducible assumption) | (with_reducible refine Box.fresh _ ?_ _ _ _ _ _) | (with_reducible apply Box.alloc) | (with_reducible apply Box.fill4) | (with_reducible refine Box.else4 ?_ ?_))) <;> (first | (with_reducible rfl) | omega | (simp; done) | (simp <;> omega))
      case n => exact ⟨by omega, by omega, by omega, by omega, by omega, by omega, by omega, by omega, by omega, by omega⟩
  case rest =>
    obtain ⟨bg, bh, lg, hg, lh, hh, g, h, rfl, rfl, dg, dh, SC, n1, n2, n3, n4, n5, n6, n7, n8, n9, n10⟩ := hcut
    obtain ⟨N0, eN0⟩ : ∃ N0, w5.heap.size = N0 := ⟨_, rfl⟩
    rw [eN0] at HN3 n1 n2 n9 n10
    have hn3 : bm + 1 ≤ N0 := Nat.le_of_eq HN3.out.symm
    clear eN0 HS6 HN3
    obtain ⟨nm2, pp2, pn2, pc2, ps2, rt2, bp2, bn2, bc2, bs2⟩ := g
    obtain ⟨g, eg⟩ : ∃ g : LFn, g = ⟨nm2, pp2, pn2, pc2, ps2, rt2, bp2, bn2, bc2, bs2⟩ := ⟨_, rfl⟩
    rw [← eg] at dg SC
    have HGC : Hid (fnC g = [.string nm2, .slice pp2 pn2 pc2, .int .i64 rt2, .slice bp2 bn2 bc2]) := Lib.hid (by rw [eg]; rfl)
    clear eg
    obtain ⟨nm3, pp3, pn3, pc3, ps3, rt3, bp3, bn3, bc3, bs3⟩ := h
    obtain ⟨h, eh⟩ : ∃ h : LFn, h = ⟨nm3, pp3, pn3, pc3, ps3, rt3, bp3, bn3, bc3, bs3⟩ := ⟨_, rfl⟩
    rw [← eh] at dh SC
    have HHC : Hid (fnC h = [.string nm3, .slice pp3 pn3 pc3, .int .i64 rt3, .slice bp3 bn3 bc3]) := Lib.hid (by rw [eh]; rfl)
    clear eh
    rw [HGC.out, HHC.out] at SC
    have hgs := (SC.own _ (.head _)).2.2.1
    have hhs := (SC.own _ (.tail _ (.head _))).2.2.1
    have bgs := SC.lt (.head _)
    have bhs := SC.lt (.tail _ (.head _))
    have hgs : hg ≤ wc.heap.size := hgs
    have hhs : hh ≤ wc.heap.size := hhs
    have HSC := Lib.hid SC
    have HDG := Lib.hid dg
    have HDH := Lib.hid dh
    have y0 := SC.get (b := W.heap.size) (.tail _ (.tail _ (.tail _ (.tail _ (.head _))))) 0 _ rfl
    have y1 := SC.get (b := W.heap.size) (.tail _ (.tail _ (.tail _ (.tail _ (.head _))))) 1 _ rfl
    have y2 := SC.get (b := W.heap.size) (.tail _ (.tail _ (.tail _ (.tail _ (.head _))))) 2 _ rfl
    have y3 := SC.get (b := W.heap.size) (.tail _ (.tail _ (.tail _ (.tail _ (.head _))))) 3 _ rfl
    have v0 := SC.get (b := W.heap.size + 1) (.tail _ (.tail _ (.tail _ (.head _)))) 0 _ rfl
    have v1 := SC.get (b := W.heap.size + 1) (.tail _ (.tail _ (.tail _ (.head _)))) 1 _ rfl
    have v2 := SC.get (b := W.heap.size + 1) (.tail _ (.tail _ (.tail _ (.head _)))) 2 _ rfl
    clear SC dg dh
    go_wp2_with fail
    have hcr := rReplace_own f reg ⟨vk, vn, vb⟩ wc (HSC.out.arg HH.out) HZ.out
    rw [HFC.out, HDD.out] at hcr
    refine hcr.mono ?_
    rintro e w8 ⟨want, he, hdw, hp8, how⟩
    clear hcr y0 y1 y2 y3 v0 v1 v2
    obtain ⟨nm4, pp4, pn4, pc4, ps4, rt4, bp4, bn4, bc4, bs4⟩ := want
    obtain rfl : e = .returned (.agg #[.string nm4, .slice pp4 pn4 pc4, .int .i64 rt4, .slice bp4 bn4 bc4]) := he
    obtain ⟨want, em⟩ : ∃ m : LFn, m = ⟨nm4, pp4, pn4, pc4, ps4, rt4, bp4, bn4, bc4, bs4⟩ := ⟨_, rfl⟩
    rw [← em] at hdw how
    have HWC : Hid (fnC want = [.string nm4, .slice pp4 pn4 pc4, .int .i64 rt4, .slice bp4 bn4 bc4]) := Lib.hid (by rw [em]; rfl)
    have HDW := Lib.hid hdw
    have S8 := (HSC.out.more hp8 how).put' rfl [.string nm4, .slice pp4 pn4 pc4, .int .i64 rt4, .slice bp4 bn4 bc4] 41
    have hn4 := hp8.2.size
    have HS8 := Lib.hid S8
    clear S8 em hdw how hp8 HSC
    obtain ⟨lw, elw⟩ : ∃ lw, wc.heap.size = lw := ⟨_, rfl⟩
    simp only [elw] at HS8 hn4 hgs hhs bgs bhs
    clear elw
    go_upto_region 8 with fail
    obtain ⟨w9, ew9⟩ : ∃ w9, w8.alloc (.cells #[.string nm4, .slice pp4 pn4 pc4, .int .i64 rt4, .slice bp4 bn4 bc4] 41) = w9 := ⟨_, rfl⟩
    rw [ew9] at HS8 ⊢
    clear ew9
    obtain ⟨bw, ebw⟩ : ∃ bw, w8.heap.size = bw := ⟨_, rfl⟩
    simp only [ebw] at HS8 hn4 ⊢
    clear ebw
    obtain ⟨hw, ehw⟩ : ∃ hw, hw = bw := ⟨_, rfl⟩
    have HS9 : Hid (Stands W [(bw, [.string nm4, .slice pp4 pn4 pc4, .int .i64 rt4, .slice bp4 bn4 bc4]), (bg, [.string nm2, .slice pp2 pn2 pc2, .int .i64 rt2, .slice bp2 bn2 bc2]), (bh, [.string nm3, .slice pp3 pn3 pc3, .int .i64 rt3, .slice bp3 bn3 bc3]), (bm, [.string nm1, .slice pp1 pn1 pc1, .int .i64 rt1, .slice bp1 bn1 bc1]), (W.heap.size + 1, [.int .i64 vk, .int .i64 vn, .int .u64 vb]), (W.heap.size, [.string nm, .slice pp pn pc, .int .i64 rt, .slice bp bn bc])] [fnO lw hw want, fnO lg hg g, fnO lh hh h, fnO lm hm mine] w9) := Lib.hid (by rw [ehw]; exact HS8.out)
    clear HS8
    have hw1 : hw ≤ bw := Nat.le_of_eq ehw
    have hw2 : lw ≤ hw := by omega
    clear ehw
    have S9 := HS9.out
    have cA : ∀ w, Stands W [(bw, [.string nm4, .slice pp4 pn4 pc4, .int .i64 rt4, .slice bp4 bn4 bc4]), (bg, [.string nm2, .slice pp2 pn2 pc2, .int .i64 rt2, .slice bp2 bn2 bc2]), (bh, [.string nm3, .slice pp3 pn3 pc3, .int .i64 rt3, .slice bp3 bn3 bc3]), (bm, [.string nm1, .slice pp1 pn1 pc1, .int .i64 rt1, .slice bp1 bn1 bc1]), (W.heap.size + 1, [.int .i64 vk, .int .i64 vn, .int .u64 vb]), (W.heap.size, [.string nm, .slice pp pn pc, .int .i64 rt, .slice bp bn bc])] [fnO lw hw want, fnO lg hg g, fnO lh hh h, fnO lm hm mine] w → Calls Try.prog 36 #[.agg #[.string nm2, .slice pp2 pn2 pc2, .int .i64 rt2, .slice bp2 bn2 bc2], .agg #[.string nm4, .slice pp4 pn4 pc4, .int .i64 rt4, .slice bp4 bn4 bc4]] w fun e w' => e = .returned (.bool true) ∧ Stands W [(bw, [.string nm4, .slice pp4 pn4 pc4, .int .i64 rt4, .slice bp4 bn4 bc4]), (bg, [.string nm2, .slice pp2 pn2 pc2, .int .i64 rt2, .slice bp2 bn2 bc2]), (bh, [.string nm3, .slice pp3 pn3 pc3, .int .i64 rt3, .slice bp3 bn3 bc3]), (bm, [.string nm1, .slice pp1 pn1 pc1, .int .i64 rt1, .slice bp1 bn1 bc1]), (W.heap.size + 1, [.int .i64 vk, .int .i64 vn, .int .u64 vb]), (W.heap.size, [.string nm, .slice pp pn pc, .int .i64 rt, .slice bp bn bc])] [fnO lw hw want, fnO lg hg g, fnO lh hh h, fnO lm hm mine] w' := by
      intro w S
      have hc := Funcs_any w g want (S.fn (a := lg) (b := hg) (.tail _ (.head _))) (S.fn (a := lw) (b := hw) (.head _))
      rw [HGC.out, HWC.out] at hc
      exact hc.mono fun e w' ⟨b, he, hb, hbe⟩ => ⟨by rw [he, hb.2 (HDG.out.trans HDW.out.symm)], S.later hbe⟩
    have cB : ∀ w, Stands W [(bw, [.string nm4, .slice pp4 pn4 pc4, .int .i64 rt4, .slice bp4 bn4 bc4]), (bg, [.string nm2, .slice pp2 pn2 pc2, .int .i64 rt2, .slice bp2 bn2 bc2]), (bh, [.string nm3, .slice pp3 pn3 pc3, .int .i64 rt3, .slice bp3 bn3 bc3]), (bm, [.string nm1, .slice pp1 pn1 pc1, .int .i64 rt1, .slice bp1 bn1 bc1]), (W.heap.size + 1, [.int .i64 vk, .int .i64 vn, .int .u64 vb]), (W.heap.size, [.string nm, .slice pp pn pc, .int .i64 rt, .slice bp bn bc])] [fnO lw hw want, fnO lg hg g, fnO lh hh h, fnO lm hm mine] w → Calls Try.prog 36 #[.agg #[.string nm1, .slice pp1 pn1 pc1, .int .i64 rt1, .slice bp1 bn1 bc1], .agg #[.string nm, .slice pp pn pc, .int .i64 rt, .slice bp bn bc]] w fun e w' => e = .returned (.bool true) ∧ Stands W [(bw, [.string nm4, .slice pp4 pn4 pc4, .int .i64 rt4, .slice bp4 bn4 bc4]), (bg, [.string nm2, .slice pp2 pn2 pc2, .int .i64 rt2, .slice bp2 bn2 bc2]), (bh, [.string nm3, .slice pp3 pn3 pc3, .int .i64 rt3, .slice bp3 bn3 bc3]), (bm, [.string nm1, .slice pp1 pn1 pc1, .int .i64 rt1, .slice bp1 bn1 bc1]), (W.heap.size + 1, [.int .i64 vk, .int .i64 vn, .int .u64 vb]), (W.heap.size, [.string nm, .slice pp pn pc, .int .i64 rt, .slice bp bn bc])] [fnO lw hw want, fnO lg hg g, fnO lh hh h, fnO lm hm mine] w' := by
      intro w S
      have hc := Funcs_any w mine f (S.fn (a := lm) (b := hm) (.tail _ (.tail _ (.tail _ (.head _))))) (S.arg HH.out)
      rw [HMC.out, HFC.out] at hc
      exact hc.mono fun e w' ⟨b, he, hb, hbe⟩ => ⟨by rw [he, hb.2 HDM.out], S.later hbe⟩
    have cC : ∀ w, Stands W [(bw, [.string nm4, .slice pp4 pn4 pc4, .int .i64 rt4, .slice bp4 bn4 bc4]), (bg, [.string nm2, .slice pp2 pn2 pc2, .int .i64 rt2, .slice bp2 bn2 bc2]), (bh, [.string nm3, .slice pp3 pn3 pc3, .int .i64 rt3, .slice bp3 bn3 bc3]), (bm, [.string nm1, .slice pp1 pn1 pc1, .int .i64 rt1, .slice bp1 bn1 bc1]), (W.heap.size + 1, [.int .i64 vk, .int .i64 vn, .int .u64 vb]), (W.heap.size, [.string nm, .slice pp pn pc, .int .i64 rt, .slice bp bn bc])] [fnO lw hw want, fnO lg hg g, fnO lh hh h, fnO lm hm mine] w → Calls Try.prog 37 #[.agg #[.string nm2, .slice pp2 pn2 pc2, .int .i64 rt2, .slice bp2 bn2 bc2], .agg #[.string nm4, .slice pp4 pn4 pc4, .int .i64 rt4, .slice bp4 bn4 bc4]] w fun e w' => e = .returned (.bool true) ∧ Stands W [(bw, [.string nm4, .slice pp4 pn4 pc4, .int .i64 rt4, .slice bp4 bn4 bc4]), (bg, [.string nm2, .slice pp2 pn2 pc2, .int .i64 rt2, .slice bp2 bn2 bc2]), (bh, [.string nm3, .slice pp3 pn3 pc3, .int .i64 rt3, .slice bp3 bn3 bc3]), (bm, [.string nm1, .slice pp1 pn1 pc1, .int .i64 rt1, .slice bp1 bn1 bc1]), (W.heap.size + 1, [.int .i64 vk, .int .i64 vn, .int .u64 vb]), (W.heap.size, [.string nm, .slice pp pn pc, .int .i64 rt, .slice bp bn bc])] [fnO lw hw want, fnO lg hg g, fnO lh hh h, fnO lm hm mine] w' := by
      intro w S
      have hc := SameFunc_any g want w (S.fn (a := lg) (b := hg) (.tail _ (.head _))) (S.fn (a := lw) (b := hw) (.head _))
      rw [HGC.out, HWC.out] at hc
      exact hc.mono fun e w' ⟨b, he, hb, hbe⟩ => ⟨by rw [he, hb.2 (HDG.out.trans HDW.out.symm)], S.later hbe⟩
    have cD : ∀ w, Stands W [(bw, [.string nm4, .slice pp4 pn4 pc4, .int .i64 rt4, .slice bp4 bn4 bc4]), (bg, [.string nm2, .slice pp2 pn2 pc2, .int .i64 rt2, .slice bp2 bn2 bc2]), (bh, [.string nm3, .slice pp3 pn3 pc3, .int .i64 rt3, .slice bp3 bn3 bc3]), (bm, [.string nm1, .slice pp1 pn1 pc1, .int .i64 rt1, .slice bp1 bn1 bc1]), (W.heap.size + 1, [.int .i64 vk, .int .i64 vn, .int .u64 vb]), (W.heap.size, [.string nm, .slice pp pn pc, .int .i64 rt, .slice bp bn bc])] [fnO lw hw want, fnO lg hg g, fnO lh hh h, fnO lm hm mine] w → Calls Try.prog 38 #[.agg #[.string nm1, .slice pp1 pn1 pc1, .int .i64 rt1, .slice bp1 bn1 bc1]] w fun e w' => ∃ nm5 pp5 pn5 pc5 ps5 rt5 bp5 bn5 bc5 bs5, e = .returned (.agg #[.string nm5, .slice pp5 pn5 pc5, .int .i64 rt5, .slice bp5 bn5 bc5]) ∧ fnD ⟨nm5, pp5, pn5, pc5, ps5, rt5, bp5, bn5, bc5, bs5⟩ = fnD f ∧ FnIn w'.heap.size w' ⟨nm5, pp5, pn5, pc5, ps5, rt5, bp5, bn5, bc5, bs5⟩ ∧ Stands W [(bw, [.string nm4, .slice pp4 pn4 pc4, .int .i64 rt4, .slice bp4 bn4 bc4]), (bg, [.string nm2, .slice pp2 pn2 pc2, .int .i64 rt2, .slice bp2 bn2 bc2]), (bh, [.string nm3, .slice pp3 pn3 pc3, .int .i64 rt3, .slice bp3 bn3 bc3]), (bm, [.string nm1, .slice pp1 pn1 pc1, .int .i64 rt1, .slice bp1 bn1 bc1]), (W.heap.size + 1, [.int .i64 vk, .int .i64 vn, .int .u64 vb]), (W.heap.size, [.string nm, .slice pp pn pc, .int .i64 rt, .slice bp bn bc])] [fnO lw hw want, fnO lg hg g, fnO lh hh h, fnO lm hm mine] w' := by
      intro w S
      have hc := CopyFunc_own mine w (S.fn (a := lm) (b := hm) (.tail _ (.tail _ (.tail _ (.head _))))) (by rw [HDM.out]; exact HZ.out)
      rw [HMC.out] at hc
      refine hc.mono ?_
      rintro e w' ⟨y, he, hd, hp, ho⟩
      have hi := ho.lies (Nat.le_refl _)
      obtain ⟨nm5, pp5, pn5, pc5, ps5, rt5, bp5, bn5, bc5, bs5⟩ := y
      exact ⟨nm5, pp5, pn5, pc5, ps5, rt5, bp5, bn5, bc5, bs5, he, hd.trans HDM.out, hi, S.later hp.2⟩
    have cE : ∀ w nm5 pp5 pn5 pc5 ps5 rt5 bp5 bn5 bc5 bs5, Stands W [(bw, [.string nm4, .slice pp4 pn4 pc4, .int .i64 rt4, .slice bp4 bn4 bc4]), (bg, [.string nm2, .slice pp2 pn2 pc2, .int .i64 rt2, .slice bp2 bn2 bc2]), (bh, [.string nm3, .slice pp3 pn3 pc3, .int .i64 rt3, .slice bp3 bn3 bc3]), (bm, [.string nm1, .slice pp1 pn1 pc1, .int .i64 rt1, .slice bp1 bn1 bc1]), (W.heap.size + 1, [.int .i64 vk, .int .i64 vn, .int .u64 vb]), (W.heap.size, [.string nm, .slice pp pn pc, .int .i64 rt, .slice bp bn bc])] [fnO lw hw want, fnO lg hg g, fnO lh hh h, fnO lm hm mine] w → fnD ⟨nm5, pp5, pn5, pc5, ps5, rt5, bp5, bn5, bc5, bs5⟩ = fnD f → FnIn w.heap.size w ⟨nm5, pp5, pn5, pc5, ps5, rt5, bp5, bn5, bc5, bs5⟩ → Calls Try.prog 36 #[.agg #[.string nm5, .slice pp5 pn5 pc5, .int .i64 rt5, .slice bp5 bn5 bc5], .agg #[.string nm, .slice pp pn pc, .int .i64 rt, .slice bp bn bc]] w fun e w' => e = .returned (.bool true) ∧ Stands W [(bw, [.string nm4, .slice pp4 pn4 pc4, .int .i64 rt4, .slice bp4 bn4 bc4]), (bg, [.string nm2, .slice pp2 pn2 pc2, .int .i64 rt2, .slice bp2 bn2 bc2]), (bh, [.string nm3, .slice pp3 pn3 pc3, .int .i64 rt3, .slice bp3 bn3 bc3]), (bm, [.string nm1, .slice pp1 pn1 pc1, .int .i64 rt1, .slice bp1 bn1 bc1]), (W.heap.size + 1, [.int .i64 vk, .int .i64 vn, .int .u64 vb]), (W.heap.size, [.string nm, .slice pp pn pc, .int .i64 rt, .slice bp bn bc])] [fnO lw hw want, fnO lg hg g, fnO lh hh h, fnO lm hm mine] w' := by
      intro w nm5 pp5 pn5 pc5 ps5 rt5 bp5 bn5 bc5 bs5 S hd hi
      have hc := Funcs_any w ⟨nm5, pp5, pn5, pc5, ps5, rt5, bp5, bn5, bc5, bs5⟩ f hi (S.arg HH.out)
      rw [HFC.out] at hc
      exact hc.mono fun e w' ⟨b, he, hb, hbe⟩ => ⟨by rw [he, hb.2 hd], S.later hbe⟩
    have xg0 := S9.get (b := bg) (.tail _ (.head _)) 0 _ rfl
    have xg1 := S9.get (b := bg) (.tail _ (.head _)) 1 _ rfl
    have xg2 := S9.get (b := bg) (.tail _ (.head _)) 2 _ rfl
    have xg3 := S9.get (b := bg) (.tail _ (.head _)) 3 _ rfl
    have xw0 := S9.get (b := bw) (.head _) 0 _ rfl
    have xw1 := S9.get (b := bw) (.head _) 1 _ rfl
    have xw2 := S9.get (b := bw) (.head _) 2 _ rfl
    have xw3 := S9.get (b := bw) (.head _) 3 _ rfl
    have xm0 := S9.get (b := bm) (.tail _ (.tail _ (.tail _ (.head _)))) 0 _ rfl
    have xm1 := S9.get (b := bm) (.tail _ (.tail _ (.tail _ (.head _)))) 1 _ rfl
    have xm2 := S9.get (b := bm) (.tail _ (.tail _ (.tail _ (.head _)))) 2 _ rfl
    have xm3 := S9.get (b := bm) (.tail _ (.tail _ (.tail _ (.head _)))) 3 _ rfl
    have xf0 := S9.get (b := W.heap.size) (.tail _ (.tail _ (.tail _ (.tail _ (.tail _ (.head _)))))) 0 _ rfl
    have xf1 := S9.get (b := W.heap.size) (.tail _ (.tail _ (.tail _ (.tail _ (.tail _ (.head _)))))) 1 _ rfl
    have xf2 := S9.get (b := W.heap.size) (.tail _ (.tail _ (.tail _ (.tail _ (.tail _ (.head _)))))) 2 _ rfl
    have xf3 := S9.get (b := W.heap.size) (.tail _ (.tail _ (.tail _ (.tail _ (.tail _ (.head _)))))) 3 _ rfl
    go_region_held3 (fun w' => w'.cell? ⟨bg, 0, none⟩ = some (.string nm2) ∧ w'.cell? ⟨bg, 1, none⟩ = some (.slice pp2 pn2 pc2) ∧ w'.cell? ⟨bg, 2, none⟩ = some (.int .i64 rt2) ∧ w'.cell? ⟨bg, 3, none⟩ = some (.slice bp2 bn2 bc2) ∧ w'.cell? ⟨bw, 0, none⟩ = some (.string nm4) ∧ w'.cell? ⟨bw, 1, none⟩ = some (.slice pp4 pn4 pc4) ∧ w'.cell? ⟨bw, 2, none⟩ = some (.int .i64 rt4) ∧ w'.cell? ⟨bw, 3, none⟩ = some (.slice bp4 bn4 bc4) ∧ w'.cell? ⟨bm, 0, none⟩ = some (.string nm1) ∧ w'.cell? ⟨bm, 1, none⟩ = some (.slice pp1 pn1 pc1) ∧ w'.cell? ⟨bm, 2, none⟩ = some (.int .i64 rt1) ∧ w'.cell? ⟨bm, 3, none⟩ = some (.slice bp1 bn1 bc1) ∧ w'.cell? ⟨W.heap.size, 0, none⟩ = some (.string nm) ∧ w'.cell? ⟨W.heap.size, 1, none⟩ = some (.slice pp pn pc) ∧ w'.cell? ⟨W.heap.size, 2, none⟩ = some (.int .i64 rt) ∧ w'.cell? ⟨W.heap.size, 3, none⟩ = some (.slice bp bn bc) ∧ Stands W [(bw, [.string nm4, .slice pp4 pn4 pc4, .int .i64 rt4, .slice bp4 bn4 bc4]), (bg, [.string nm2, .slice pp2 pn2 pc2, .int .i64 rt2, .slice bp2 bn2 bc2]), (bh, [.string nm3, .slice pp3 pn3 pc3, .int .i64 rt3, .slice bp3 bn3 bc3]), (bm, [.string nm1, .slice pp1 pn1 pc1, .int .i64 rt1, .slice bp1 bn1 bc1]), (W.heap.size + 1, [.int .i64 vk, .int .i64 vn, .int .u64 vb]), (W.heap.size, [.string nm, .slice pp pn pc, .int .i64 rt, .slice bp bn bc])] [fnO lw hw want, fnO lg hg g, fnO lh hh h, fnO lm hm mine] w')
      (((try dsimp only); (repeat' apply And.intro) <;> (first | (with_reducible assumption) | (rw [World.cell?_drew]; with_reducible assumption) | (with_reducible apply Stands.drew; with_reducible assumption))))
      (first
        | ((with_reducible refine (cA _ ?pre).mono ?_)
           case pre => (first | (with_reducible assumption) | (with_reducible apply Stands.drew; with_reducible assumption))
           rintro e wa ⟨rfl, Sa⟩
           have xag0 := Sa.get (b := bg) (.tail _ (.head _)) 0 _ rfl
           have xag1 := Sa.get (b := bg) (.tail _ (.head _)) 1 _ rfl
           have xag2 := Sa.get (b := bg) (.tail _ (.head _)) 2 _ rfl
           have xag3 := Sa.get (b := bg) (.tail _ (.head _)) 3 _ rfl
           have xaw0 := Sa.get (b := bw) (.head _) 0 _ rfl
           have xaw1 := Sa.get (b := bw) (.head _) 1 _ rfl
           have xaw2 := Sa.get (b := bw) (.head _) 2 _ rfl
           have xaw3 := Sa.get (b := bw) (.head _) 3 _ rfl
           have xam0 := Sa.get (b := bm) (.tail _ (.tail _ (.tail _ (.head _)))) 0 _ rfl
           have xam1 := Sa.get (b := bm) (.tail _ (.tail _ (.tail _ (.head _)))) 1 _ rfl
           have xam2 := Sa.get (b := bm) (.tail _ (.tail _ (.tail _ (.head _)))) 2 _ rfl
           have xam3 := Sa.get (b := bm) (.tail _ (.tail _ (.tail _ (.head _)))) 3 _ rfl
           have xaf0 := Sa.get (b := W.heap.size) (.tail _ (.tail _ (.tail _ (.tail _ (.tail _ (.head _)))))) 0 _ rfl
           have xaf1 := Sa.get (b := W.heap.size) (.tail _ (.tail _ (.tail _ (.tail _ (.tail _ (.head _)))))) 1 _ rfl
           have xaf2 := Sa.get (b := W.heap.size) (.tail _ (.tail _ (.tail _ (.tail _ (.tail _ (.head _)))))) 2 _ rfl
           have xaf3 := Sa.get (b := W.heap.size) (.tail _ (.tail _ (.tail _ (.tail _ (.tail _ (.head _)))))) 3 _ rfl
)
        | ((with_reducible refine (cB _ ?pre).mono ?_)
           case pre => (first | (with_reducible assumption) | (with_reducible apply Stands.drew; with_reducible assumption))
           rintro e wb ⟨rfl, Sb⟩
           have xbg0 := Sb.get (b := bg) (.tail _ (.head _)) 0 _ rfl
           have xbg1 := Sb.get (b := bg) (.tail _ (.head _)) 1 _ rfl
           have xbg2 := Sb.get (b := bg) (.tail _ (.head _)) 2 _ rfl
           have xbg3 := Sb.get (b := bg) (.tail _ (.head _)) 3 _ rfl
           have xbw0 := Sb.get (b := bw) (.head _) 0 _ rfl
           have xbw1 := Sb.get (b := bw) (.head _) 1 _ rfl
           have xbw2 := Sb.get (b := bw) (.head _) 2 _ rfl
           have xbw3 := Sb.get (b := bw) (.head _) 3 _ rfl
           have xbm0 := Sb.get (b := bm) (.tail _ (.tail _ (.tail _ (.head _)))) 0 _ rfl
           have xbm1 := Sb.get (b := bm) (.tail _ (.tail _ (.tail _ (.head _)))) 1 _ rfl
           have xbm2 := Sb.get (b := bm) (.tail _ (.tail _ (.tail _ (.head _)))) 2 _ rfl
           have xbm3 := Sb.get (b := bm) (.tail _ (.tail _ (.tail _ (.head _)))) 3 _ rfl
           have xbf0 := Sb.get (b := W.heap.size) (.tail _ (.tail _ (.tail _ (.tail _ (.tail _ (.head _)))))) 0 _ rfl
           have xbf1 := Sb.get (b := W.heap.size) (.tail _ (.tail _ (.tail _ (.tail _ (.tail _ (.head _)))))) 1 _ rfl
           have xbf2 := Sb.get (b := W.heap.size) (.tail _ (.tail _ (.tail _ (.tail _ (.tail _ (.head _)))))) 2 _ rfl
           have xbf3 := Sb.get (b := W.heap.size) (.tail _ (.tail _ (.tail _ (.tail _ (.tail _ (.head _)))))) 3 _ rfl
)
        | ((with_reducible refine (cC _ ?pre).mono ?_)
           case pre => (first | (with_reducible assumption) | (with_reducible apply Stands.drew; with_reducible assumption))
           rintro e wC ⟨rfl, Sc⟩
           have xcg0 := Sc.get (b := bg) (.tail _ (.head _)) 0 _ rfl
           have xcg1 := Sc.get (b := bg) (.tail _ (.head _)) 1 _ rfl
           have xcg2 := Sc.get (b := bg) (.tail _ (.head _)) 2 _ rfl
           have xcg3 := Sc.get (b := bg) (.tail _ (.head _)) 3 _ rfl
           have xcw0 := Sc.get (b := bw) (.head _) 0 _ rfl
           have xcw1 := Sc.get (b := bw) (.head _) 1 _ rfl
           have xcw2 := Sc.get (b := bw) (.head _) 2 _ rfl
           have xcw3 := Sc.get (b := bw) (.head _) 3 _ rfl
           have xcm0 := Sc.get (b := bm) (.tail _ (.tail _ (.tail _ (.head _)))) 0 _ rfl
           have xcm1 := Sc.get (b := bm) (.tail _ (.tail _ (.tail _ (.head _)))) 1 _ rfl
           have xcm2 := Sc.get (b := bm) (.tail _ (.tail _ (.tail _ (.head _)))) 2 _ rfl
           have xcm3 := Sc.get (b := bm) (.tail _ (.tail _ (.tail _ (.head _)))) 3 _ rfl
           have xcf0 := Sc.get (b := W.heap.size) (.tail _ (.tail _ (.tail _ (.tail _ (.tail _ (.head _)))))) 0 _ rfl
           have xcf1 := Sc.get (b := W.heap.size) (.tail _ (.tail _ (.tail _ (.tail _ (.tail _ (.head _)))))) 1 _ rfl
           have xcf2 := Sc.get (b := W.heap.size) (.tail _ (.tail _ (.tail _ (.tail _ (.tail _ (.head _)))))) 2 _ rfl
           have xcf3 := Sc.get (b := W.heap.size) (.tail _ (.tail _ (.tail _ (.tail _ (.tail _ (.head _)))))) 3 _ rfl
)
        | ((with_reducible refine (cD _ ?pre).mono ?_)
           case pre => (first | (with_reducible assumption) | (with_reducible apply Stands.drew; with_reducible assumption))
           rintro e wd ⟨nm5, pp5, pn5, pc5, ps5, rt5, bp5, bn5, bc5, bs5, rfl, hd5, hi5, Sd⟩
           have HD5 := Lib.hid hd5
           clear hd5
           have xdg0 := Sd.get (b := bg) (.tail _ (.head _)) 0 _ rfl
           have xdg1 := Sd.get (b := bg) (.tail _ (.head _)) 1 _ rfl
           have xdg2 := Sd.get (b := bg) (.tail _ (.head _)) 2 _ rfl
           have xdg3 := Sd.get (b := bg) (.tail _ (.head _)) 3 _ rfl
           have xdw0 := Sd.get (b := bw) (.head _) 0 _ rfl
           have xdw1 := Sd.get (b := bw) (.head _) 1 _ rfl
           have xdw2 := Sd.get (b := bw) (.head _) 2 _ rfl
           have xdw3 := Sd.get (b := bw) (.head _) 3 _ rfl
           have xdm0 := Sd.get (b := bm) (.tail _ (.tail _ (.tail _ (.head _)))) 0 _ rfl
           have xdm1 := Sd.get (b := bm) (.tail _ (.tail _ (.tail _ (.head _)))) 1 _ rfl
           have xdm2 := Sd.get (b := bm) (.tail _ (.tail _ (.tail _ (.head _)))) 2 _ rfl
           have xdm3 := Sd.get (b := bm) (.tail _ (.tail _ (.tail _ (.head _)))) 3 _ rfl
           have xdf0 := Sd.get (b := W.heap.size) (.tail _ (.tail _ (.tail _ (.tail _ (.tail _ (.head _)))))) 0 _ rfl
           have xdf1 := Sd.get (b := W.heap.size) (.tail _ (.tail _ (.tail _ (.tail _ (.tail _ (.head _)))))) 1 _ rfl
           have xdf2 := Sd.get (b := W.heap.size) (.tail _ (.tail _ (.tail _ (.tail _ (.tail _ (.head _)))))) 2 _ rfl
           have xdf3 := Sd.get (b := W.heap.size) (.tail _ (.tail _ (.tail _ (.tail _ (.tail _ (.head _)))))) 3 _ rfl
)
        | ((with_reducible refine (cE _ _ _ _ _ _ _ _ _ _ _ ?pre HD5.out ?pre2).mono ?_)
           case pre => (first | (with_reducible assumption) | (with_reducible apply Stands.drew; with_reducible assumption))
           case pre2 => exact hi5
           rintro e we ⟨rfl, Se⟩
           have xeg0 := Se.get (b := bg) (.tail _ (.head _)) 0 _ rfl
           have xeg1 := Se.get (b := bg) (.tail _ (.head _)) 1 _ rfl
           have xeg2 := Se.get (b := bg) (.tail _ (.head _)) 2 _ rfl
           have xeg3 := Se.get (b := bg) (.tail _ (.head _)) 3 _ rfl
           have xew0 := Se.get (b := bw) (.head _) 0 _ rfl
           have xew1 := Se.get (b := bw) (.head _) 1 _ rfl
           have xew2 := Se.get (b := bw) (.head _) 2 _ rfl
           have xew3 := Se.get (b := bw) (.head _) 3 _ rfl
           have xem0 := Se.get (b := bm) (.tail _ (.tail _ (.tail _ (.head _)))) 0 _ rfl
           have xem1 := Se.get (b := bm) (.tail _ (.tail _ (.tail _ (.head _)))) 1 _ rfl
           have xem2 := Se.get (b := bm) (.tail _ (.tail _ (.tail _ (.head _)))) 2 _ rfl
           have xem3 := Se.get (b := bm) (.tail _ (.tail _ (.tail _ (.head _)))) 3 _ rfl
           have xef0 := Se.get (b := W.heap.size) (.tail _ (.tail _ (.tail _ (.tail _ (.tail _ (.head _)))))) 0 _ rfl
           have xef1 := Se.get (b := W.heap.size) (.tail _ (.tail _ (.tail _ (.tail _ (.tail _ (.head _)))))) 1 _ rfl
           have xef2 := Se.get (b := W.heap.size) (.tail _ (.tail _ (.tail _ (.tail _ (.tail _ (.head _)))))) 2 _ rfl
           have xef3 := Se.get (b := W.heap.size) (.tail _ (.tail _ (.tail _ (.tail _ (.tail _ (.head _)))))) 3 _ rfl
))
    all_goals
      have HS10 : Hid (Stands W [(bw, [.string nm4, .slice pp4 pn4 pc4, .int .i64 rt4, .slice bp4 bn4 bc4]), (bg, [.string nm2, .slice pp2 pn2 pc2, .int .i64 rt2, .slice bp2 bn2 bc2]), (bh, [.string nm3, .slice pp3 pn3 pc3, .int .i64 rt3, .slice bp3 bn3 bc3]), (bm, [.string nm1, .slice pp1 pn1 pc1, .int .i64 rt1, .slice bp1 bn1 bc1]), (W.heap.size + 1, [.int .i64 vk, .int .i64 vn, .int .u64 vb]), (W.heap.size, [.string nm, .slice pp pn pc, .int .i64 rt, .slice bp bn bc])] [fnO lw hw want, fnO lg hg g, fnO lh hh h, fnO lm hm mine] we) := Lib.hid Se
      clear xg0 xg1 xg2 xg3 xw0 xw1 xw2 xw3 xm0 xm1 xm2 xm3 xf0 xf1 xf2 xf3 xag0 xag1 xag2 xag3 xaw0 xaw1 xaw2 xaw3 xam0 xam1 xam2 xam3 xaf0 xaf1 xaf2 xaf3 xbg0 xbg1 xbg2 xbg3 xbw0 xbw1 xbw2 xbw3 xbm0 xbm1 xbm2 xbm3 xbf0 xbf1 xbf2 xbf3 xcg0 xcg1 xcg2 xcg3 xcw0 xcw1 xcw2 xcw3 xcm0 xcm1 xcm2 xcm3 xcf0 xcf1 xcf2 xcf3 xdg0 xdg1 xdg2 xdg3 xdw0 xdw1 xdw2 xdw3 xdm0 xdm1 xdm2 xdm3 xdf0 xdf1 xdf2 xdf3 xeg0 xeg1 xeg2 xeg3 xew0 xew1 xew2 xew3 xem0 xem1 xem2 xem3 xef0 xef1 xef2 xef3 Sa Sb Sc Sd Se S9 cA cB cC cD cE hi5 HD5 HS9
      have S10 := HS10.out
      have xg0 := S10.get (b := bg) (.tail _ (.head _)) 0 _ rfl
      have xg1 := S10.get (b := bg) (.tail _ (.head _)) 1 _ rfl
      have xg2 := S10.get (b := bg) (.tail _ (.head _)) 2 _ rfl
      have xg3 := S10.get (b := bg) (.tail _ (.head _)) 3 _ rfl
      have xf0 := S10.get (b := W.heap.size) (.tail _ (.tail _ (.tail _ (.tail _ (.tail _ (.head _)))))) 0 _ rfl
      have xf1 := S10.get (b := W.heap.size) (.tail _ (.tail _ (.tail _ (.tail _ (.tail _ (.head _)))))) 1 _ rfl
      have xf2 := S10.get (b := W.heap.size) (.tail _ (.tail _ (.tail _ (.tail _ (.tail _ (.head _)))))) 2 _ rfl
      have xf3 := S10.get (b := W.heap.size) (.tail _ (.tail _ (.tail _ (.tail _ (.tail _ (.head _)))))) 3 _ rfl
      have xv0 := S10.get (b := W.heap.size + 1) (.tail _ (.tail _ (.tail _ (.tail _ (.head _))))) 0 _ rfl
      have xv1 := S10.get (b := W.heap.size + 1) (.tail _ (.tail _ (.tail _ (.tail _ (.head _))))) 1 _ rfl
      have xv2 := S10.get (b := W.heap.size + 1) (.tail _ (.tail _ (.tail _ (.tail _ (.head _))))) 2 _ rfl
      obtain ⟨A, eA⟩ : ∃ A : Nat, usesP reg (fnD f) = A := ⟨_, rfl⟩
      obtain ⟨B, eB⟩ : ∃ B : Nat, usesP other (fnD f) = B := ⟨_, rfl⟩
      have hA : A ≤ 1048576 := by rw [← eA]; exact Nat.le_trans (usesP_le _ _) HZ.out
      have hB : B ≤ 1048576 := by rw [← eB]; exact Nat.le_trans (usesP_le _ _) HZ.out
      have EA := Lib.hid eA
      have EB := Lib.hid eB
      clear eA eB S10
      have HGZ : Hid (fnZ (fnD g) ≤ 1048576) := Lib.hid (by rw [HDG.out, ← HDD.out, fnZ_rep]; exact HZ.out)
      have cUf : ∀ w r U, usesP r (fnD f) = U → Stands W [(bw, [.string nm4, .slice pp4 pn4 pc4, .int .i64 rt4, .slice bp4 bn4 bc4]), (bg, [.string nm2, .slice pp2 pn2 pc2, .int .i64 rt2, .slice bp2 bn2 bc2]), (bh, [.string nm3, .slice pp3 pn3 pc3, .int .i64 rt3, .slice bp3 bn3 bc3]), (bm, [.string nm1, .slice pp1 pn1 pc1, .int .i64 rt1, .slice bp1 bn1 bc1]), (W.heap.size + 1, [.int .i64 vk, .int .i64 vn, .int .u64 vb]), (W.heap.size, [.string nm, .slice pp pn pc, .int .i64 rt, .slice bp bn bc])] [fnO lw hw want, fnO lg hg g, fnO lh hh h, fnO lm hm mine] w → Calls Try.prog 31 #[.agg #[.string nm, .slice pp pn pc, .int .i64 rt, .slice bp bn bc], .int .i64 r] w fun e w' => e = .returned (.int .i64 (U : Nat)) ∧ Stands W [(bw, [.string nm4, .slice pp4 pn4 pc4, .int .i64 rt4, .slice bp4 bn4 bc4]), (bg, [.string nm2, .slice pp2 pn2 pc2, .int .i64 rt2, .slice bp2 bn2 bc2]), (bh, [.string nm3, .slice pp3 pn3 pc3, .int .i64 rt3, .slice bp3 bn3 bc3]), (bm, [.string nm1, .slice pp1 pn1 pc1, .int .i64 rt1, .slice bp1 bn1 bc1]), (W.heap.size + 1, [.int .i64 vk, .int .i64 vn, .int .u64 vb]), (W.heap.size, [.string nm, .slice pp pn pc, .int .i64 rt, .slice bp bn bc])] [fnO lw hw want, fnO lg hg g, fnO lh hh h, fnO lm hm mine] w' := by
        intro w r U hU S
        have hc := uses_in (f := f) r (w := w) (S.arg HH.out) HZ.out
        rw [HFC.out, hU] at hc
        exact hc.mono fun e w' ⟨he, hbe⟩ => ⟨he, S.later hbe⟩
      have cUg : ∀ w r U, usesP r D = U → Stands W [(bw, [.string nm4, .slice pp4 pn4 pc4, .int .i64 rt4, .slice bp4 bn4 bc4]), (bg, [.string nm2, .slice pp2 pn2 pc2, .int .i64 rt2, .slice bp2 bn2 bc2]), (bh, [.string nm3, .slice pp3 pn3 pc3, .int .i64 rt3, .slice bp3 bn3 bc3]), (bm, [.string nm1, .slice pp1 pn1 pc1, .int .i64 rt1, .slice bp1 bn1 bc1]), (W.heap.size + 1, [.int .i64 vk, .int .i64 vn, .int .u64 vb]), (W.heap.size, [.string nm, .slice pp pn pc, .int .i64 rt, .slice bp bn bc])] [fnO lw hw want, fnO lg hg g, fnO lh hh h, fnO lm hm mine] w → Calls Try.prog 31 #[.agg #[.string nm2, .slice pp2 pn2 pc2, .int .i64 rt2, .slice bp2 bn2 bc2], .int .i64 r] w fun e w' => e = .returned (.int .i64 (U : Nat)) ∧ Stands W [(bw, [.string nm4, .slice pp4 pn4 pc4, .int .i64 rt4, .slice bp4 bn4 bc4]), (bg, [.string nm2, .slice pp2 pn2 pc2, .int .i64 rt2, .slice bp2 bn2 bc2]), (bh, [.string nm3, .slice pp3 pn3 pc3, .int .i64 rt3, .slice bp3 bn3 bc3]), (bm, [.string nm1, .slice pp1 pn1 pc1, .int .i64 rt1, .slice bp1 bn1 bc1]), (W.heap.size + 1, [.int .i64 vk, .int .i64 vn, .int .u64 vb]), (W.heap.size, [.string nm, .slice pp pn pc, .int .i64 rt, .slice bp bn bc])] [fnO lw hw want, fnO lg hg g, fnO lh hh h, fnO lm hm mine] w' := by
        intro w r U hU S
        have hc := uses_in (f := g) r (w := w) (S.fn (a := lg) (b := hg) (.tail _ (.head _))) HGZ.out
        rw [HGC.out, HDG.out, hU] at hc
        exact hc.mono fun e w' ⟨he, hbe⟩ => ⟨he, S.later hbe⟩
      have HUF := Lib.hid cUf
      have HUG := Lib.hid cUg
      clear cUf cUg
      by_cases hk : vk = 1
      case neg =>
        have hk2 : (vk == 1) = false := by simpa using hk
        have HK := Lib.hid hk
        clear hk
        have hu0 : usesP reg D = 0 := by rw [← HDD.out, usesP_rep, if_pos rfl, show isU reg ⟨vk, vn, vb⟩ = false by unfold isU; simp [hk2]]; rfl
        have c11 : ∀ w, Stands W [(bw, [.string nm4, .slice pp4 pn4 pc4, .int .i64 rt4, .slice bp4 bn4 bc4]), (bg, [.string nm2, .slice pp2 pn2 pc2, .int .i64 rt2, .slice bp2 bn2 bc2]), (bh, [.string nm3, .slice pp3 pn3 pc3, .int .i64 rt3, .slice bp3 bn3 bc3]), (bm, [.string nm1, .slice pp1 pn1 pc1, .int .i64 rt1, .slice bp1 bn1 bc1]), (W.heap.size + 1, [.int .i64 vk, .int .i64 vn, .int .u64 vb]), (W.heap.size, [.string nm, .slice pp pn pc, .int .i64 rt, .slice bp bn bc])] [fnO lw hw want, fnO lg hg g, fnO lh hh h, fnO lm hm mine] w → Calls Try.prog 31 #[.agg #[.string nm2, .slice pp2 pn2 pc2, .int .i64 rt2, .slice bp2 bn2 bc2], .int .i64 reg] w fun e w' => e = .returned (.int .i64 0) ∧ Stands W [(bw, [.string nm4, .slice pp4 pn4 pc4, .int .i64 rt4, .slice bp4 bn4 bc4]), (bg, [.string nm2, .slice pp2 pn2 pc2, .int .i64 rt2, .slice bp2 bn2 bc2]), (bh, [.string nm3, .slice pp3 pn3 pc3, .int .i64 rt3, .slice bp3 bn3 bc3]), (bm, [.string nm1, .slice pp1 pn1 pc1, .int .i64 rt1, .slice bp1 bn1 bc1]), (W.heap.size + 1, [.int .i64 vk, .int .i64 vn, .int .u64 vb]), (W.heap.size, [.string nm, .slice pp pn pc, .int .i64 rt, .slice bp bn bc])] [fnO lw hw want, fnO lg hg g, fnO lh hh h, fnO lm hm mine] w' := fun w S => HUG.out w reg 0 hu0 S
        clear hu0
        go_wp2_with fail
        refine (c11 _ HS10.out).mono ?_
        rintro e w11 ⟨rfl, S11⟩
        clear c11 xg0 xg1 xg2 xg3 xf0 xf1 xf2 xf3 xv0 xv1 xv2
        have xxf0 := S11.get (b := W.heap.size) (.tail _ (.tail _ (.tail _ (.tail _ (.tail _ (.head _)))))) 0 _ rfl
        have xxf1 := S11.get (b := W.heap.size) (.tail _ (.tail _ (.tail _ (.tail _ (.tail _ (.head _)))))) 1 _ rfl
        have xxf2 := S11.get (b := W.heap.size) (.tail _ (.tail _ (.tail _ (.tail _ (.tail _ (.head _)))))) 2 _ rfl
        have xxf3 := S11.get (b := W.heap.size) (.tail _ (.tail _ (.tail _ (.tail _ (.tail _ (.head _)))))) 3 _ rfl
        have xxv0 := S11.get (b := W.heap.size + 1) (.tail _ (.tail _ (.tail _ (.tail _ (.head _))))) 0 _ rfl
        have xxv1 := S11.get (b := W.heap.size + 1) (.tail _ (.tail _ (.tail _ (.tail _ (.head _))))) 1 _ rfl
        have xxv2 := S11.get (b := W.heap.size + 1) (.tail _ (.tail _ (.tail _ (.tail _ (.head _))))) 2 _ rfl
        by_cases ho : other = reg
        · have ho2 : (other != reg) = false := by simp [ho]
          clear ho
          go_wp2_with fail
          go_quiet (fail)
          have HS18 := Lib.hid S11
          clear S11 xxf0 xxf1 xxf2 xxf3 xxv0 xxv1 xxv2
          have cSp : ∀ w, Stands W [(bw, [.string nm4, .slice pp4 pn4 pc4, .int .i64 rt4, .slice bp4 bn4 bc4]), (bg, [.string nm2, .slice pp2 pn2 pc2, .int .i64 rt2, .slice bp2 bn2 bc2]), (bh, [.string nm3, .slice pp3 pn3 pc3, .int .i64 rt3, .slice bp3 bn3 bc3]), (bm, [.string nm1, .slice pp1 pn1 pc1, .int .i64 rt1, .slice bp1 bn1 bc1]), (W.heap.size + 1, [.int .i64 vk, .int .i64 vn, .int .u64 vb]), (W.heap.size, [.string nm, .slice pp pn pc, .int .i64 rt, .slice bp bn bc])] [fnO lw hw want, fnO lg hg g, fnO lh hh h, fnO lm hm mine] w → Calls Try.prog 39 #[.agg #[.string nm2, .slice pp2 pn2 pc2, .int .i64 rt2, .slice bp2 bn2 bc2]] w fun e w' => e = .returned (.tuple #[]) ∧ Stands W [(bw, [.string nm4, .slice pp4 pn4 pc4, .int .i64 rt4, .slice bp4 bn4 bc4]), (bg, [.string nm2, .slice pp2 pn2 pc2, .int .i64 rt2, .slice bp2 bn2 bc2]), (bh, [.string nm3, .slice pp3 pn3 pc3, .int .i64 rt3, .slice bp3 bn3 bc3]), (bm, [.string nm1, .slice pp1 pn1 pc1, .int .i64 rt1, .slice bp1 bn1 bc1]), (W.heap.size + 1, [.int .i64 vk, .int .i64 vn, .int .u64 vb]), (W.heap.size, [.string nm, .slice pp pn pc, .int .i64 rt, .slice bp bn bc])] [fnO lw hw want, fnO lh hh h, fnO lm hm mine] w' := by
            intro w S
            have hspo := Spoil_own g lg hg w (S.own _ (.tail _ (.head _))).2.2.1 (S.own _ (.tail _ (.head _))).1
            rw [HGC.out] at hspo
            refine hspo.mono ?_
            rintro e w18 ⟨he, ho18⟩
            exact ⟨he, Stands.out (S.sub (fun x hx => hx) (fun x hx => by simp only [List.mem_cons, List.not_mem_nil, or_false] at hx ⊢; rcases hx with rfl | rfl | rfl <;> simp)) ho18 (by omega) (fun x hx => by simp only [List.mem_cons, List.not_mem_nil, or_false] at hx; rcases hx with rfl | rfl | rfl | rfl | rfl | rfl <;> simp only <;> omega) (fun x hx => by simp only [List.mem_cons, List.not_mem_nil, or_false] at hx; rcases hx with rfl | rfl | rfl <;> simp only [fnO] <;> omega)⟩
          have S18 := HS18.out
          have kg0 := S18.get (b := bg) (.tail _ (.head _)) 0 _ rfl
          have kg1 := S18.get (b := bg) (.tail _ (.head _)) 1 _ rfl
          have kg2 := S18.get (b := bg) (.tail _ (.head _)) 2 _ rfl
          have kg3 := S18.get (b := bg) (.tail _ (.head _)) 3 _ rfl
          clear S18
          go_wp2_with fail
          refine (cSp _ ?pre).mono ?_
          case pre => first | exact HS18.out | exact Stands.drew HS18.out | exact Stands.drewN HS18.out _
          clear cSp
          rintro e w18 ⟨rfl, S19⟩
          have hmo := (S19.own _ (.tail _ (.tail _ (.head _)))).1
          have hmz := (S19.own _ (.tail _ (.tail _ (.head _)))).2.2.1
          have hspm := Spoil_own mine lm hm _ hmz hmo
          rw [HMC.out] at hspm
          have jm0 := S19.get (b := bm) (.tail _ (.tail _ (.tail _ (.head _)))) 0 _ rfl
          have jm1 := S19.get (b := bm) (.tail _ (.tail _ (.tail _ (.head _)))) 1 _ rfl
          have jm2 := S19.get (b := bm) (.tail _ (.tail _ (.tail _ (.head _)))) 2 _ rfl
          have jm3 := S19.get (b := bm) (.tail _ (.tail _ (.tail _ (.head _)))) 3 _ rfl
          have HS19 := Lib.hid S19
          clear S19 hmo hmz HS18 kg0 kg1 kg2 kg3
          go_wp2_with fail
          refine hspm.mono ?_
          clear hspm
          rintro e w19 ⟨rfl, ho19⟩
          have S20 : Stands W [(bw, [.string nm4, .slice pp4 pn4 pc4, .int .i64 rt4, .slice bp4 bn4 bc4]), (bg, [.string nm2, .slice pp2 pn2 pc2, .int .i64 rt2, .slice bp2 bn2 bc2]), (bh, [.string nm3, .slice pp3 pn3 pc3, .int .i64 rt3, .slice bp3 bn3 bc3]), (bm, [.string nm1, .slice pp1 pn1 pc1, .int .i64 rt1, .slice bp1 bn1 bc1]), (W.heap.size + 1, [.int .i64 vk, .int .i64 vn, .int .u64 vb]), (W.heap.size, [.string nm, .slice pp pn pc, .int .i64 rt, .slice bp bn bc])] [fnO lw hw want, fnO lh hh h] w19 := Stands.out (HS19.out.sub (fun x hx => hx) (fun x hx => by simp only [List.mem_cons, List.not_mem_nil, or_false] at hx ⊢; rcases hx with rfl | rfl <;> simp)) ho19 (by omega) (fun x hx => by simp only [List.mem_cons, List.not_mem_nil, or_false] at hx; rcases hx with rfl | rfl | rfl | rfl | rfl | rfl <;> simp only <;> omega) (fun x hx => by simp only [List.mem_cons, List.not_mem_nil, or_false] at hx; rcases hx with rfl | rfl <;> simp only [fnO] <;> omega)
          have hc := Funcs_any w19 h want (S20.fn (a := lh) (b := hh) (.tail _ (.head _))) (S20.fn (a := lw) (b := hw) (.head _))
          rw [HHC.out, HWC.out] at hc
          have ih0 := S20.get (b := bh) (.tail _ (.tail _ (.head _))) 0 _ rfl
          have ih1 := S20.get (b := bh) (.tail _ (.tail _ (.head _))) 1 _ rfl
          have ih2 := S20.get (b := bh) (.tail _ (.tail _ (.head _))) 2 _ rfl
          have ih3 := S20.get (b := bh) (.tail _ (.tail _ (.head _))) 3 _ rfl
          have iw0 := S20.get (b := bw) (.head _) 0 _ rfl
          have iw1 := S20.get (b := bw) (.head _) 1 _ rfl
          have iw2 := S20.get (b := bw) (.head _) 2 _ rfl
          have iw3 := S20.get (b := bw) (.head _) 3 _ rfl
          have HS20 := Lib.hid S20
          clear S20 ho19 jm0 jm1 jm2 jm3
          go_wp2_with fail
          refine hc.mono ?_
          clear hc
          rintro e w20 ⟨b, rfl, hb, hb20⟩
          obtain rfl := hb.2 (HDH.out.trans HDW.out.symm)
          clear hb
          go_wp2_with fail
          go_ret
          exact ⟨rfl, (HS20.out.later hb20).past.2⟩

        · have ho2 : (other != reg) = true := by simpa using ho
          have HOR := Lib.hid ho
          clear ho
          have hu16 : usesP other D = B := by rw [← HDD.out, usesP_rep, if_neg HOR.out, show isU other ⟨vk, vn, vb⟩ = false by unfold isU; simp [hk2], EB.out]; rfl
          have cP : ∀ w, Stands W [(bw, [.string nm4, .slice pp4 pn4 pc4, .int .i64 rt4, .slice bp4 bn4 bc4]), (bg, [.string nm2, .slice pp2 pn2 pc2, .int .i64 rt2, .slice bp2 bn2 bc2]), (bh, [.string nm3, .slice pp3 pn3 pc3, .int .i64 rt3, .slice bp3 bn3 bc3]), (bm, [.string nm1, .slice pp1 pn1 pc1, .int .i64 rt1, .slice bp1 bn1 bc1]), (W.heap.size + 1, [.int .i64 vk, .int .i64 vn, .int .u64 vb]), (W.heap.size, [.string nm, .slice pp pn pc, .int .i64 rt, .slice bp bn bc])] [fnO lw hw want, fnO lg hg g, fnO lh hh h, fnO lm hm mine] w → Calls Try.prog 31 #[.agg #[.string nm2, .slice pp2 pn2 pc2, .int .i64 rt2, .slice bp2 bn2 bc2], .int .i64 other] w fun e w' => e = .returned (.int .i64 (B : Nat)) ∧ Stands W [(bw, [.string nm4, .slice pp4 pn4 pc4, .int .i64 rt4, .slice bp4 bn4 bc4]), (bg, [.string nm2, .slice pp2 pn2 pc2, .int .i64 rt2, .slice bp2 bn2 bc2]), (bh, [.string nm3, .slice pp3 pn3 pc3, .int .i64 rt3, .slice bp3 bn3 bc3]), (bm, [.string nm1, .slice pp1 pn1 pc1, .int .i64 rt1, .slice bp1 bn1 bc1]), (W.heap.size + 1, [.int .i64 vk, .int .i64 vn, .int .u64 vb]), (W.heap.size, [.string nm, .slice pp pn pc, .int .i64 rt, .slice bp bn bc])] [fnO lw hw want, fnO lg hg g, fnO lh hh h, fnO lm hm mine] w' := fun w S => HUG.out w other _ hu16 S
          have cQ : ∀ w, Stands W [(bw, [.string nm4, .slice pp4 pn4 pc4, .int .i64 rt4, .slice bp4 bn4 bc4]), (bg, [.string nm2, .slice pp2 pn2 pc2, .int .i64 rt2, .slice bp2 bn2 bc2]), (bh, [.string nm3, .slice pp3 pn3 pc3, .int .i64 rt3, .slice bp3 bn3 bc3]), (bm, [.string nm1, .slice pp1 pn1 pc1, .int .i64 rt1, .slice bp1 bn1 bc1]), (W.heap.size + 1, [.int .i64 vk, .int .i64 vn, .int .u64 vb]), (W.heap.size, [.string nm, .slice pp pn pc, .int .i64 rt, .slice bp bn bc])] [fnO lw hw want, fnO lg hg g, fnO lh hh h, fnO lm hm mine] w → Calls Try.prog 31 #[.agg #[.string nm, .slice pp pn pc, .int .i64 rt, .slice bp bn bc], .int .i64 other] w fun e w' => e = .returned (.int .i64 (B : Nat)) ∧ Stands W [(bw, [.string nm4, .slice pp4 pn4 pc4, .int .i64 rt4, .slice bp4 bn4 bc4]), (bg, [.string nm2, .slice pp2 pn2 pc2, .int .i64 rt2, .slice bp2 bn2 bc2]), (bh, [.string nm3, .slice pp3 pn3 pc3, .int .i64 rt3, .slice bp3 bn3 bc3]), (bm, [.string nm1, .slice pp1 pn1 pc1, .int .i64 rt1, .slice bp1 bn1 bc1]), (W.heap.size + 1, [.int .i64 vk, .int .i64 vn, .int .u64 vb]), (W.heap.size, [.string nm, .slice pp pn pc, .int .i64 rt, .slice bp bn bc])] [fnO lw hw want, fnO lg hg g, fnO lh hh h, fnO lm hm mine] w' := fun w S => HUF.out w other _ EB.out S
          have hw0 : IntKind.i64.wrap (B : Int) = B := by simp [IntKind.wrap, IntKind.signed, IntKind.bits]; omega
          clear hu16
          have SK := S11
          have yg0 := SK.get (b := bg) (.tail _ (.head _)) 0 _ rfl
          have yg1 := SK.get (b := bg) (.tail _ (.head _)) 1 _ rfl
          have yg2 := SK.get (b := bg) (.tail _ (.head _)) 2 _ rfl
          have yg3 := SK.get (b := bg) (.tail _ (.head _)) 3 _ rfl
          have yf0 := SK.get (b := W.heap.size) (.tail _ (.tail _ (.tail _ (.tail _ (.tail _ (.head _)))))) 0 _ rfl
          have yf1 := SK.get (b := W.heap.size) (.tail _ (.tail _ (.tail _ (.tail _ (.tail _ (.head _)))))) 1 _ rfl
          have yf2 := SK.get (b := W.heap.size) (.tail _ (.tail _ (.tail _ (.tail _ (.tail _ (.head _)))))) 2 _ rfl
          have yf3 := SK.get (b := W.heap.size) (.tail _ (.tail _ (.tail _ (.tail _ (.tail _ (.head _)))))) 3 _ rfl
          go_wp2_with fail
          go_region_held3 (fun w' => w'.cell? ⟨bg, 0, none⟩ = some (.string nm2) ∧ w'.cell? ⟨bg, 1, none⟩ = some (.slice pp2 pn2 pc2) ∧ w'.cell? ⟨bg, 2, none⟩ = some (.int .i64 rt2) ∧ w'.cell? ⟨bg, 3, none⟩ = some (.slice bp2 bn2 bc2) ∧ w'.cell? ⟨W.heap.size, 0, none⟩ = some (.string nm) ∧ w'.cell? ⟨W.heap.size, 1, none⟩ = some (.slice pp pn pc) ∧ w'.cell? ⟨W.heap.size, 2, none⟩ = some (.int .i64 rt) ∧ w'.cell? ⟨W.heap.size, 3, none⟩ = some (.slice bp bn bc) ∧ Stands W [(bw, [.string nm4, .slice pp4 pn4 pc4, .int .i64 rt4, .slice bp4 bn4 bc4]), (bg, [.string nm2, .slice pp2 pn2 pc2, .int .i64 rt2, .slice bp2 bn2 bc2]), (bh, [.string nm3, .slice pp3 pn3 pc3, .int .i64 rt3, .slice bp3 bn3 bc3]), (bm, [.string nm1, .slice pp1 pn1 pc1, .int .i64 rt1, .slice bp1 bn1 bc1]), (W.heap.size + 1, [.int .i64 vk, .int .i64 vn, .int .u64 vb]), (W.heap.size, [.string nm, .slice pp pn pc, .int .i64 rt, .slice bp bn bc])] [fnO lw hw want, fnO lg hg g, fnO lh hh h, fnO lm hm mine] w')
            (((try dsimp only); (repeat' apply And.intro) <;> (first | (with_reducible assumption) | (rw [World.cell?_drew]; with_reducible assumption) | (with_reducible apply Stands.drew; with_reducible assumption))))
            (first
              | ((with_reducible refine (cP _ ?pre).mono ?_)
                 case pre => (first | (with_reducible assumption) | (with_reducible apply Stands.drew; with_reducible assumption))
                 rintro e wp ⟨rfl, Sp⟩
                 have zpg0 := Sp.get (b := bg) (.tail _ (.head _)) 0 _ rfl
                 have zpg1 := Sp.get (b := bg) (.tail _ (.head _)) 1 _ rfl
                 have zpg2 := Sp.get (b := bg) (.tail _ (.head _)) 2 _ rfl
                 have zpg3 := Sp.get (b := bg) (.tail _ (.head _)) 3 _ rfl
                 have zpf0 := Sp.get (b := W.heap.size) (.tail _ (.tail _ (.tail _ (.tail _ (.tail _ (.head _)))))) 0 _ rfl
                 have zpf1 := Sp.get (b := W.heap.size) (.tail _ (.tail _ (.tail _ (.tail _ (.tail _ (.head _)))))) 1 _ rfl
                 have zpf2 := Sp.get (b := W.heap.size) (.tail _ (.tail _ (.tail _ (.tail _ (.tail _ (.head _)))))) 2 _ rfl
                 have zpf3 := Sp.get (b := W.heap.size) (.tail _ (.tail _ (.tail _ (.tail _ (.tail _ (.head _)))))) 3 _ rfl)
              | ((with_reducible refine (cQ _ ?pre).mono ?_)
                 case pre => (first | (with_reducible assumption) | (with_reducible apply Stands.drew; with_reducible assumption))
                 rintro e wq ⟨rfl, Sq⟩
                 have zqg0 := Sq.get (b := bg) (.tail _ (.head _)) 0 _ rfl
                 have zqg1 := Sq.get (b := bg) (.tail _ (.head _)) 1 _ rfl
                 have zqg2 := Sq.get (b := bg) (.tail _ (.head _)) 2 _ rfl
                 have zqg3 := Sq.get (b := bg) (.tail _ (.head _)) 3 _ rfl
                 have zqf0 := Sq.get (b := W.heap.size) (.tail _ (.tail _ (.tail _ (.tail _ (.tail _ (.head _)))))) 0 _ rfl
                 have zqf1 := Sq.get (b := W.heap.size) (.tail _ (.tail _ (.tail _ (.tail _ (.tail _ (.head _)))))) 1 _ rfl
                 have zqf2 := Sq.get (b := W.heap.size) (.tail _ (.tail _ (.tail _ (.tail _ (.tail _ (.head _)))))) 2 _ rfl
                 have zqf3 := Sq.get (b := W.heap.size) (.tail _ (.tail _ (.tail _ (.tail _ (.tail _ (.head _)))))) 3 _ rfl))
          have HS18 : Hid (Stands W [(bw, [.string nm4, .slice pp4 pn4 pc4, .int .i64 rt4, .slice bp4 bn4 bc4]), (bg, [.string nm2, .slice pp2 pn2 pc2, .int .i64 rt2, .slice bp2 bn2 bc2]), (bh, [.string nm3, .slice pp3 pn3 pc3, .int .i64 rt3, .slice bp3 bn3 bc3]), (bm, [.string nm1, .slice pp1 pn1 pc1, .int .i64 rt1, .slice bp1 bn1 bc1]), (W.heap.size + 1, [.int .i64 vk, .int .i64 vn, .int .u64 vb]), (W.heap.size, [.string nm, .slice pp pn pc, .int .i64 rt, .slice bp bn bc])] [fnO lw hw want, fnO lg hg g, fnO lh hh h, fnO lm hm mine] wq) := Lib.hid Sq
          clear cP cQ Sp Sq SK hw0  yg0 yg1 yg2 yg3 yf0 yf1 yf2 yf3 zpg0 zpg1 zpg2 zpg3 zpf0 zpf1 zpf2 zpf3 zqg0 zqg1 zqg2 zqg3 zqf0 zqf1 zqf2 zqf3
          clear S11 xxf0 xxf1 xxf2 xxf3 xxv0 xxv1 xxv2
          have cSp : ∀ w, Stands W [(bw, [.string nm4, .slice pp4 pn4 pc4, .int .i64 rt4, .slice bp4 bn4 bc4]), (bg, [.string nm2, .slice pp2 pn2 pc2, .int .i64 rt2, .slice bp2 bn2 bc2]), (bh, [.string nm3, .slice pp3 pn3 pc3, .int .i64 rt3, .slice bp3 bn3 bc3]), (bm, [.string nm1, .slice pp1 pn1 pc1, .int .i64 rt1, .slice bp1 bn1 bc1]), (W.heap.size + 1, [.int .i64 vk, .int .i64 vn, .int .u64 vb]), (W.heap.size, [.string nm, .slice pp pn pc, .int .i64 rt, .slice bp bn bc])] [fnO lw hw want, fnO lg hg g, fnO lh hh h, fnO lm hm mine] w → Calls Try.prog 39 #[.agg #[.string nm2, .slice pp2 pn2 pc2, .int .i64 rt2, .slice bp2 bn2 bc2]] w fun e w' => e = .returned (.tuple #[]) ∧ Stands W [(bw, [.string nm4, .slice pp4 pn4 pc4, .int .i64 rt4, .slice bp4 bn4 bc4]), (bg, [.string nm2, .slice pp2 pn2 pc2, .int .i64 rt2, .slice bp2 bn2 bc2]), (bh, [.string nm3, .slice pp3 pn3 pc3, .int .i64 rt3, .slice bp3 bn3 bc3]), (bm, [.string nm1, .slice pp1 pn1 pc1, .int .i64 rt1, .slice bp1 bn1 bc1]), (W.heap.size + 1, [.int .i64 vk, .int .i64 vn, .int .u64 vb]), (W.heap.size, [.string nm, .slice pp pn pc, .int .i64 rt, .slice bp bn bc])] [fnO lw hw want, fnO lh hh h, fnO lm hm mine] w' := by
            intro w S
            have hspo := Spoil_own g lg hg w (S.own _ (.tail _ (.head _))).2.2.1 (S.own _ (.tail _ (.head _))).1
            rw [HGC.out] at hspo
            refine hspo.mono ?_
            rintro e w18 ⟨he, ho18⟩
            exact ⟨he, Stands.out (S.sub (fun x hx => hx) (fun x hx => by simp only [List.mem_cons, List.not_mem_nil, or_false] at hx ⊢; rcases hx with rfl | rfl | rfl <;> simp)) ho18 (by omega) (fun x hx => by simp only [List.mem_cons, List.not_mem_nil, or_false] at hx; rcases hx with rfl | rfl | rfl | rfl | rfl | rfl <;> simp only <;> omega) (fun x hx => by simp only [List.mem_cons, List.not_mem_nil, or_false] at hx; rcases hx with rfl | rfl | rfl <;> simp only [fnO] <;> omega)⟩
          have S18 := HS18.out
          have kg0 := S18.get (b := bg) (.tail _ (.head _)) 0 _ rfl
          have kg1 := S18.get (b := bg) (.tail _ (.head _)) 1 _ rfl
          have kg2 := S18.get (b := bg) (.tail _ (.head _)) 2 _ rfl
          have kg3 := S18.get (b := bg) (.tail _ (.head _)) 3 _ rfl
          clear S18
          go_wp2_with fail
          refine (cSp _ ?pre).mono ?_
          case pre => first | exact HS18.out | exact Stands.drew HS18.out | exact Stands.drewN HS18.out _
          clear cSp
          rintro e w18 ⟨rfl, S19⟩
          have hmo := (S19.own _ (.tail _ (.tail _ (.head _)))).1
          have hmz := (S19.own _ (.tail _ (.tail _ (.head _)))).2.2.1
          have hspm := Spoil_own mine lm hm _ hmz hmo
          rw [HMC.out] at hspm
          have jm0 := S19.get (b := bm) (.tail _ (.tail _ (.tail _ (.head _)))) 0 _ rfl
          have jm1 := S19.get (b := bm) (.tail _ (.tail _ (.tail _ (.head _)))) 1 _ rfl
          have jm2 := S19.get (b := bm) (.tail _ (.tail _ (.tail _ (.head _)))) 2 _ rfl
          have jm3 := S19.get (b := bm) (.tail _ (.tail _ (.tail _ (.head _)))) 3 _ rfl
          have HS19 := Lib.hid S19
          clear S19 hmo hmz HS18 kg0 kg1 kg2 kg3
          go_wp2_with fail
          refine hspm.mono ?_
          clear hspm
          rintro e w19 ⟨rfl, ho19⟩
          have S20 : Stands W [(bw, [.string nm4, .slice pp4 pn4 pc4, .int .i64 rt4, .slice bp4 bn4 bc4]), (bg, [.string nm2, .slice pp2 pn2 pc2, .int .i64 rt2, .slice bp2 bn2 bc2]), (bh, [.string nm3, .slice pp3 pn3 pc3, .int .i64 rt3, .slice bp3 bn3 bc3]), (bm, [.string nm1, .slice pp1 pn1 pc1, .int .i64 rt1, .slice bp1 bn1 bc1]), (W.heap.size + 1, [.int .i64 vk, .int .i64 vn, .int .u64 vb]), (W.heap.size, [.string nm, .slice pp pn pc, .int .i64 rt, .slice bp bn bc])] [fnO lw hw want, fnO lh hh h] w19 := Stands.out (HS19.out.sub (fun x hx => hx) (fun x hx => by simp only [List.mem_cons, List.not_mem_nil, or_false] at hx ⊢; rcases hx with rfl | rfl <;> simp)) ho19 (by omega) (fun x hx => by simp only [List.mem_cons, List.not_mem_nil, or_false] at hx; rcases hx with rfl | rfl | rfl | rfl | rfl | rfl <;> simp only <;> omega) (fun x hx => by simp only [List.mem_cons, List.not_mem_nil, or_false] at hx; rcases hx with rfl | rfl <;> simp only [fnO] <;> omega)
          have hc := Funcs_any w19 h want (S20.fn (a := lh) (b := hh) (.tail _ (.head _))) (S20.fn (a := lw) (b := hw) (.head _))
          rw [HHC.out, HWC.out] at hc
          have ih0 := S20.get (b := bh) (.tail _ (.tail _ (.head _))) 0 _ rfl
          have ih1 := S20.get (b := bh) (.tail _ (.tail _ (.head _))) 1 _ rfl
          have ih2 := S20.get (b := bh) (.tail _ (.tail _ (.head _))) 2 _ rfl
          have ih3 := S20.get (b := bh) (.tail _ (.tail _ (.head _))) 3 _ rfl
          have iw0 := S20.get (b := bw) (.head _) 0 _ rfl
          have iw1 := S20.get (b := bw) (.head _) 1 _ rfl
          have iw2 := S20.get (b := bw) (.head _) 2 _ rfl
          have iw3 := S20.get (b := bw) (.head _) 3 _ rfl
          have HS20 := Lib.hid S20
          clear S20 ho19 jm0 jm1 jm2 jm3
          go_wp2_with fail
          refine hc.mono ?_
          clear hc
          rintro e w20 ⟨b, rfl, hb, hb20⟩
          obtain rfl := hb.2 (HDH.out.trans HDW.out.symm)
          clear hb
          go_wp2_with fail
          go_ret
          exact ⟨rfl, (HS20.out.later hb20).past.2⟩

      have hk2 : (vk == 1) = true := by simpa using hk
      have HK := Lib.hid hk
      clear hk
      by_cases hr : vn = reg
      · have hr2 : (vn == reg) = true := by simpa using hr
        have HR := Lib.hid hr
        clear hr
        by_cases ho : vn = other
        · have ho2 : (vn == other) = true := by simpa using ho
          have ho3 : (other != reg) = false := by have := HR.out; simp; omega
          clear ho
          go_wp2_with fail
          refine (HUF.out _ reg A EA.out HS10.out).mono ?_
          rintro e w15 ⟨rfl, S15⟩
          clear xg0 xg1 xg2 xg3 xf0 xf1 xf2 xf3 xv0 xv1 xv2
          go_wp2_with fail
          go_quiet (fail)
          have HS18 := Lib.hid S15
          clear S15
          have cSp : ∀ w, Stands W [(bw, [.string nm4, .slice pp4 pn4 pc4, .int .i64 rt4, .slice bp4 bn4 bc4]), (bg, [.string nm2, .slice pp2 pn2 pc2, .int .i64 rt2, .slice bp2 bn2 bc2]), (bh, [.string nm3, .slice pp3 pn3 pc3, .int .i64 rt3, .slice bp3 bn3 bc3]), (bm, [.string nm1, .slice pp1 pn1 pc1, .int .i64 rt1, .slice bp1 bn1 bc1]), (W.heap.size + 1, [.int .i64 vk, .int .i64 vn, .int .u64 vb]), (W.heap.size, [.string nm, .slice pp pn pc, .int .i64 rt, .slice bp bn bc])] [fnO lw hw want, fnO lg hg g, fnO lh hh h, fnO lm hm mine] w → Calls Try.prog 39 #[.agg #[.string nm2, .slice pp2 pn2 pc2, .int .i64 rt2, .slice bp2 bn2 bc2]] w fun e w' => e = .returned (.tuple #[]) ∧ Stands W [(bw, [.string nm4, .slice pp4 pn4 pc4, .int .i64 rt4, .slice bp4 bn4 bc4]), (bg, [.string nm2, .slice pp2 pn2 pc2, .int .i64 rt2, .slice bp2 bn2 bc2]), (bh, [.string nm3, .slice pp3 pn3 pc3, .int .i64 rt3, .slice bp3 bn3 bc3]), (bm, [.string nm1, .slice pp1 pn1 pc1, .int .i64 rt1, .slice bp1 bn1 bc1]), (W.heap.size + 1, [.int .i64 vk, .int .i64 vn, .int .u64 vb]), (W.heap.size, [.string nm, .slice pp pn pc, .int .i64 rt, .slice bp bn bc])] [fnO lw hw want, fnO lh hh h, fnO lm hm mine] w' := by
            intro w S
            have hspo := Spoil_own g lg hg w (S.own _ (.tail _ (.head _))).2.2.1 (S.own _ (.tail _ (.head _))).1
            rw [HGC.out] at hspo
            refine hspo.mono ?_
            rintro e w18 ⟨he, ho18⟩
            exact ⟨he, Stands.out (S.sub (fun x hx => hx) (fun x hx => by simp only [List.mem_cons, List.not_mem_nil, or_false] at hx ⊢; rcases hx with rfl | rfl | rfl <;> simp)) ho18 (by omega) (fun x hx => by simp only [List.mem_cons, List.not_mem_nil, or_false] at hx; rcases hx with rfl | rfl | rfl | rfl | rfl | rfl <;> simp only <;> omega) (fun x hx => by simp only [List.mem_cons, List.not_mem_nil, or_false] at hx; rcases hx with rfl | rfl | rfl <;> simp only [fnO] <;> omega)⟩
          have S18 := HS18.out
          have kg0 := S18.get (b := bg) (.tail _ (.head _)) 0 _ rfl
          have kg1 := S18.get (b := bg) (.tail _ (.head _)) 1 _ rfl
          have kg2 := S18.get (b := bg) (.tail _ (.head _)) 2 _ rfl
          have kg3 := S18.get (b := bg) (.tail _ (.head _)) 3 _ rfl
          clear S18
          go_wp2_with fail
          refine (cSp _ ?pre).mono ?_
          case pre => first | exact HS18.out | exact Stands.drew HS18.out | exact Stands.drewN HS18.out _
          clear cSp
          rintro e w18 ⟨rfl, S19⟩
          have hmo := (S19.own _ (.tail _ (.tail _ (.head _)))).1
          have hmz := (S19.own _ (.tail _ (.tail _ (.head _)))).2.2.1
          have hspm := Spoil_own mine lm hm _ hmz hmo
          rw [HMC.out] at hspm
          have jm0 := S19.get (b := bm) (.tail _ (.tail _ (.tail _ (.head _)))) 0 _ rfl
          have jm1 := S19.get (b := bm) (.tail _ (.tail _ (.tail _ (.head _)))) 1 _ rfl
          have jm2 := S19.get (b := bm) (.tail _ (.tail _ (.tail _ (.head _)))) 2 _ rfl
          have jm3 := S19.get (b := bm) (.tail _ (.tail _ (.tail _ (.head _)))) 3 _ rfl
          have HS19 := Lib.hid S19
          clear S19 hmo hmz HS18 kg0 kg1 kg2 kg3
          go_wp2_with fail
          refine hspm.mono ?_
          clear hspm
          rintro e w19 ⟨rfl, ho19⟩
          have S20 : Stands W [(bw, [.string nm4, .slice pp4 pn4 pc4, .int .i64 rt4, .slice bp4 bn4 bc4]), (bg, [.string nm2, .slice pp2 pn2 pc2, .int .i64 rt2, .slice bp2 bn2 bc2]), (bh, [.string nm3, .slice pp3 pn3 pc3, .int .i64 rt3, .slice bp3 bn3 bc3]), (bm, [.string nm1, .slice pp1 pn1 pc1, .int .i64 rt1, .slice bp1 bn1 bc1]), (W.heap.size + 1, [.int .i64 vk, .int .i64 vn, .int .u64 vb]), (W.heap.size, [.string nm, .slice pp pn pc, .int .i64 rt, .slice bp bn bc])] [fnO lw hw want, fnO lh hh h] w19 := Stands.out (HS19.out.sub (fun x hx => hx) (fun x hx => by simp only [List.mem_cons, List.not_mem_nil, or_false] at hx ⊢; rcases hx with rfl | rfl <;> simp)) ho19 (by omega) (fun x hx => by simp only [List.mem_cons, List.not_mem_nil, or_false] at hx; rcases hx with rfl | rfl | rfl | rfl | rfl | rfl <;> simp only <;> omega) (fun x hx => by simp only [List.mem_cons, List.not_mem_nil, or_false] at hx; rcases hx with rfl | rfl <;> simp only [fnO] <;> omega)
          have hc := Funcs_any w19 h want (S20.fn (a := lh) (b := hh) (.tail _ (.head _))) (S20.fn (a := lw) (b := hw) (.head _))
          rw [HHC.out, HWC.out] at hc
          have ih0 := S20.get (b := bh) (.tail _ (.tail _ (.head _))) 0 _ rfl
          have ih1 := S20.get (b := bh) (.tail _ (.tail _ (.head _))) 1 _ rfl
          have ih2 := S20.get (b := bh) (.tail _ (.tail _ (.head _))) 2 _ rfl
          have ih3 := S20.get (b := bh) (.tail _ (.tail _ (.head _))) 3 _ rfl
          have iw0 := S20.get (b := bw) (.head _) 0 _ rfl
          have iw1 := S20.get (b := bw) (.head _) 1 _ rfl
          have iw2 := S20.get (b := bw) (.head _) 2 _ rfl
          have iw3 := S20.get (b := bw) (.head _) 3 _ rfl
          have HS20 := Lib.hid S20
          clear S20 ho19 jm0 jm1 jm2 jm3
          go_wp2_with fail
          refine hc.mono ?_
          clear hc
          rintro e w20 ⟨b, rfl, hb, hb20⟩
          obtain rfl := hb.2 (HDH.out.trans HDW.out.symm)
          clear hb
          go_wp2_with fail
          go_ret
          exact ⟨rfl, (HS20.out.later hb20).past.2⟩

        · have ho2 : (vn == other) = false := by simpa using ho
          have ho4 : ¬ other = reg := by have := HR.out; omega
          have ho3 : (other != reg) = true := by simpa using ho4
          have HOR := Lib.hid ho4
          clear ho ho4
          have hu16 : usesP other D = B := by rw [← HDD.out, usesP_rep, if_neg HOR.out, show isU other ⟨vk, vn, vb⟩ = false by unfold isU; simp [ho2], EB.out]; rfl
          have cP : ∀ w, Stands W [(bw, [.string nm4, .slice pp4 pn4 pc4, .int .i64 rt4, .slice bp4 bn4 bc4]), (bg, [.string nm2, .slice pp2 pn2 pc2, .int .i64 rt2, .slice bp2 bn2 bc2]), (bh, [.string nm3, .slice pp3 pn3 pc3, .int .i64 rt3, .slice bp3 bn3 bc3]), (bm, [.string nm1, .slice pp1 pn1 pc1, .int .i64 rt1, .slice bp1 bn1 bc1]), (W.heap.size + 1, [.int .i64 vk, .int .i64 vn, .int .u64 vb]), (W.heap.size, [.string nm, .slice pp pn pc, .int .i64 rt, .slice bp bn bc])] [fnO lw hw want, fnO lg hg g, fnO lh hh h, fnO lm hm mine] w → Calls Try.prog 31 #[.agg #[.string nm2, .slice pp2 pn2 pc2, .int .i64 rt2, .slice bp2 bn2 bc2], .int .i64 other] w fun e w' => e = .returned (.int .i64 (B : Nat)) ∧ Stands W [(bw, [.string nm4, .slice pp4 pn4 pc4, .int .i64 rt4, .slice bp4 bn4 bc4]), (bg, [.string nm2, .slice pp2 pn2 pc2, .int .i64 rt2, .slice bp2 bn2 bc2]), (bh, [.string nm3, .slice pp3 pn3 pc3, .int .i64 rt3, .slice bp3 bn3 bc3]), (bm, [.string nm1, .slice pp1 pn1 pc1, .int .i64 rt1, .slice bp1 bn1 bc1]), (W.heap.size + 1, [.int .i64 vk, .int .i64 vn, .int .u64 vb]), (W.heap.size, [.string nm, .slice pp pn pc, .int .i64 rt, .slice bp bn bc])] [fnO lw hw want, fnO lg hg g, fnO lh hh h, fnO lm hm mine] w' := fun w S => HUG.out w other _ hu16 S
          have cQ : ∀ w, Stands W [(bw, [.string nm4, .slice pp4 pn4 pc4, .int .i64 rt4, .slice bp4 bn4 bc4]), (bg, [.string nm2, .slice pp2 pn2 pc2, .int .i64 rt2, .slice bp2 bn2 bc2]), (bh, [.string nm3, .slice pp3 pn3 pc3, .int .i64 rt3, .slice bp3 bn3 bc3]), (bm, [.string nm1, .slice pp1 pn1 pc1, .int .i64 rt1, .slice bp1 bn1 bc1]), (W.heap.size + 1, [.int .i64 vk, .int .i64 vn, .int .u64 vb]), (W.heap.size, [.string nm, .slice pp pn pc, .int .i64 rt, .slice bp bn bc])] [fnO lw hw want, fnO lg hg g, fnO lh hh h, fnO lm hm mine] w → Calls Try.prog 31 #[.agg #[.string nm, .slice pp pn pc, .int .i64 rt, .slice bp bn bc], .int .i64 other] w fun e w' => e = .returned (.int .i64 (B : Nat)) ∧ Stands W [(bw, [.string nm4, .slice pp4 pn4 pc4, .int .i64 rt4, .slice bp4 bn4 bc4]), (bg, [.string nm2, .slice pp2 pn2 pc2, .int .i64 rt2, .slice bp2 bn2 bc2]), (bh, [.string nm3, .slice pp3 pn3 pc3, .int .i64 rt3, .slice bp3 bn3 bc3]), (bm, [.string nm1, .slice pp1 pn1 pc1, .int .i64 rt1, .slice bp1 bn1 bc1]), (W.heap.size + 1, [.int .i64 vk, .int .i64 vn, .int .u64 vb]), (W.heap.size, [.string nm, .slice pp pn pc, .int .i64 rt, .slice bp bn bc])] [fnO lw hw want, fnO lg hg g, fnO lh hh h, fnO lm hm mine] w' := fun w S => HUF.out w other _ EB.out S
          have hw0 : IntKind.i64.wrap (B : Int) = B := by simp [IntKind.wrap, IntKind.signed, IntKind.bits]; omega
          clear hu16
          have SK := HS10.out
          have yg0 := SK.get (b := bg) (.tail _ (.head _)) 0 _ rfl
          have yg1 := SK.get (b := bg) (.tail _ (.head _)) 1 _ rfl
          have yg2 := SK.get (b := bg) (.tail _ (.head _)) 2 _ rfl
          have yg3 := SK.get (b := bg) (.tail _ (.head _)) 3 _ rfl
          have yf0 := SK.get (b := W.heap.size) (.tail _ (.tail _ (.tail _ (.tail _ (.tail _ (.head _)))))) 0 _ rfl
          have yf1 := SK.get (b := W.heap.size) (.tail _ (.tail _ (.tail _ (.tail _ (.tail _ (.head _)))))) 1 _ rfl
          have yf2 := SK.get (b := W.heap.size) (.tail _ (.tail _ (.tail _ (.tail _ (.tail _ (.head _)))))) 2 _ rfl
          have yf3 := SK.get (b := W.heap.size) (.tail _ (.tail _ (.tail _ (.tail _ (.tail _ (.head _)))))) 3 _ rfl
          go_wp2_with fail
          go_region_held3 (fun w' => w'.cell? ⟨bg, 0, none⟩ = some (.string nm2) ∧ w'.cell? ⟨bg, 1, none⟩ = some (.slice pp2 pn2 pc2) ∧ w'.cell? ⟨bg, 2, none⟩ = some (.int .i64 rt2) ∧ w'.cell? ⟨bg, 3, none⟩ = some (.slice bp2 bn2 bc2) ∧ w'.cell? ⟨W.heap.size, 0, none⟩ = some (.string nm) ∧ w'.cell? ⟨W.heap.size, 1, none⟩ = some (.slice pp pn pc) ∧ w'.cell? ⟨W.heap.size, 2, none⟩ = some (.int .i64 rt) ∧ w'.cell? ⟨W.heap.size, 3, none⟩ = some (.slice bp bn bc) ∧ Stands W [(bw, [.string nm4, .slice pp4 pn4 pc4, .int .i64 rt4, .slice bp4 bn4 bc4]), (bg, [.string nm2, .slice pp2 pn2 pc2, .int .i64 rt2, .slice bp2 bn2 bc2]), (bh, [.string nm3, .slice pp3 pn3 pc3, .int .i64 rt3, .slice bp3 bn3 bc3]), (bm, [.string nm1, .slice pp1 pn1 pc1, .int .i64 rt1, .slice bp1 bn1 bc1]), (W.heap.size + 1, [.int .i64 vk, .int .i64 vn, .int .u64 vb]), (W.heap.size, [.string nm, .slice pp pn pc, .int .i64 rt, .slice bp bn bc])] [fnO lw hw want, fnO lg hg g, fnO lh hh h, fnO lm hm mine] w')
            (((try dsimp only); (repeat' apply And.intro) <;> (first | (with_reducible assumption) | (rw [World.cell?_drew]; with_reducible assumption) | (with_reducible apply Stands.drew; with_reducible assumption))))
            (first
              | ((with_reducible refine (cP _ ?pre).mono ?_)
                 case pre => (first | (with_reducible assumption) | (with_reducible apply Stands.drew; with_reducible assumption))
                 rintro e wp ⟨rfl, Sp⟩
                 have zpg0 := Sp.get (b := bg) (.tail _ (.head _)) 0 _ rfl
                 have zpg1 := Sp.get (b := bg) (.tail _ (.head _)) 1 _ rfl
                 have zpg2 := Sp.get (b := bg) (.tail _ (.head _)) 2 _ rfl
                 have zpg3 := Sp.get (b := bg) (.tail _ (.head _)) 3 _ rfl
                 have zpf0 := Sp.get (b := W.heap.size) (.tail _ (.tail _ (.tail _ (.tail _ (.tail _ (.head _)))))) 0 _ rfl
                 have zpf1 := Sp.get (b := W.heap.size) (.tail _ (.tail _ (.tail _ (.tail _ (.tail _ (.head _)))))) 1 _ rfl
                 have zpf2 := Sp.get (b := W.heap.size) (.tail _ (.tail _ (.tail _ (.tail _ (.tail _ (.head _)))))) 2 _ rfl
                 have zpf3 := Sp.get (b := W.heap.size) (.tail _ (.tail _ (.tail _ (.tail _ (.tail _ (.head _)))))) 3 _ rfl)
              | ((with_reducible refine (cQ _ ?pre).mono ?_)
                 case pre => (first | (with_reducible assumption) | (with_reducible apply Stands.drew; with_reducible assumption))
                 rintro e wq ⟨rfl, Sq⟩
                 have zqg0 := Sq.get (b := bg) (.tail _ (.head _)) 0 _ rfl
                 have zqg1 := Sq.get (b := bg) (.tail _ (.head _)) 1 _ rfl
                 have zqg2 := Sq.get (b := bg) (.tail _ (.head _)) 2 _ rfl
                 have zqg3 := Sq.get (b := bg) (.tail _ (.head _)) 3 _ rfl
                 have zqf0 := Sq.get (b := W.heap.size) (.tail _ (.tail _ (.tail _ (.tail _ (.tail _ (.head _)))))) 0 _ rfl
                 have zqf1 := Sq.get (b := W.heap.size) (.tail _ (.tail _ (.tail _ (.tail _ (.tail _ (.head _)))))) 1 _ rfl
                 have zqf2 := Sq.get (b := W.heap.size) (.tail _ (.tail _ (.tail _ (.tail _ (.tail _ (.head _)))))) 2 _ rfl
                 have zqf3 := Sq.get (b := W.heap.size) (.tail _ (.tail _ (.tail _ (.tail _ (.tail _ (.head _)))))) 3 _ rfl))
          have HS18 : Hid (Stands W [(bw, [.string nm4, .slice pp4 pn4 pc4, .int .i64 rt4, .slice bp4 bn4 bc4]), (bg, [.string nm2, .slice pp2 pn2 pc2, .int .i64 rt2, .slice bp2 bn2 bc2]), (bh, [.string nm3, .slice pp3 pn3 pc3, .int .i64 rt3, .slice bp3 bn3 bc3]), (bm, [.string nm1, .slice pp1 pn1 pc1, .int .i64 rt1, .slice bp1 bn1 bc1]), (W.heap.size + 1, [.int .i64 vk, .int .i64 vn, .int .u64 vb]), (W.heap.size, [.string nm, .slice pp pn pc, .int .i64 rt, .slice bp bn bc])] [fnO lw hw want, fnO lg hg g, fnO lh hh h, fnO lm hm mine] wq) := Lib.hid Sq
          clear cP cQ Sp Sq SK hw0  yg0 yg1 yg2 yg3 yf0 yf1 yf2 yf3 zpg0 zpg1 zpg2 zpg3 zpf0 zpf1 zpf2 zpf3 zqg0 zqg1 zqg2 zqg3 zqf0 zqf1 zqf2 zqf3
          clear xg0 xg1 xg2 xg3 xf0 xf1 xf2 xf3 xv0 xv1 xv2
          have cSp : ∀ w, Stands W [(bw, [.string nm4, .slice pp4 pn4 pc4, .int .i64 rt4, .slice bp4 bn4 bc4]), (bg, [.string nm2, .slice pp2 pn2 pc2, .int .i64 rt2, .slice bp2 bn2 bc2]), (bh, [.string nm3, .slice pp3 pn3 pc3, .int .i64 rt3, .slice bp3 bn3 bc3]), (bm, [.string nm1, .slice pp1 pn1 pc1, .int .i64 rt1, .slice bp1 bn1 bc1]), (W.heap.size + 1, [.int .i64 vk, .int .i64 vn, .int .u64 vb]), (W.heap.size, [.string nm, .slice pp pn pc, .int .i64 rt, .slice bp bn bc])] [fnO lw hw want, fnO lg hg g, fnO lh hh h, fnO lm hm mine] w → Calls Try.prog 39 #[.agg #[.string nm2, .slice pp2 pn2 pc2, .int .i64 rt2, .slice bp2 bn2 bc2]] w fun e w' => e = .returned (.tuple #[]) ∧ Stands W [(bw, [.string nm4, .slice pp4 pn4 pc4, .int .i64 rt4, .slice bp4 bn4 bc4]), (bg, [.string nm2, .slice pp2 pn2 pc2, .int .i64 rt2, .slice bp2 bn2 bc2]), (bh, [.string nm3, .slice pp3 pn3 pc3, .int .i64 rt3, .slice bp3 bn3 bc3]), (bm, [.string nm1, .slice pp1 pn1 pc1, .int .i64 rt1, .slice bp1 bn1 bc1]), (W.heap.size + 1, [.int .i64 vk, .int .i64 vn, .int .u64 vb]), (W.heap.size, [.string nm, .slice pp pn pc, .int .i64 rt, .slice bp bn bc])] [fnO lw hw want, fnO lh hh h, fnO lm hm mine] w' := by
            intro w S
            have hspo := Spoil_own g lg hg w (S.own _ (.tail _ (.head _))).2.2.1 (S.own _ (.tail _ (.head _))).1
            rw [HGC.out] at hspo
            refine hspo.mono ?_
            rintro e w18 ⟨he, ho18⟩
            exact ⟨he, Stands.out (S.sub (fun x hx => hx) (fun x hx => by simp only [List.mem_cons, List.not_mem_nil, or_false] at hx ⊢; rcases hx with rfl | rfl | rfl <;> simp)) ho18 (by omega) (fun x hx => by simp only [List.mem_cons, List.not_mem_nil, or_false] at hx; rcases hx with rfl | rfl | rfl | rfl | rfl | rfl <;> simp only <;> omega) (fun x hx => by simp only [List.mem_cons, List.not_mem_nil, or_false] at hx; rcases hx with rfl | rfl | rfl <;> simp only [fnO] <;> omega)⟩
          have S18 := HS18.out
          have kg0 := S18.get (b := bg) (.tail _ (.head _)) 0 _ rfl
          have kg1 := S18.get (b := bg) (.tail _ (.head _)) 1 _ rfl
          have kg2 := S18.get (b := bg) (.tail _ (.head _)) 2 _ rfl
          have kg3 := S18.get (b := bg) (.tail _ (.head _)) 3 _ rfl
          clear S18
          go_wp2_with fail
          refine (cSp _ ?pre).mono ?_
          case pre => first | exact HS18.out | exact Stands.drew HS18.out | exact Stands.drewN HS18.out _
          clear cSp
          rintro e w18 ⟨rfl, S19⟩
          have hmo := (S19.own _ (.tail _ (.tail _ (.head _)))).1
          have hmz := (S19.own _ (.tail _ (.tail _ (.head _)))).2.2.1
          have hspm := Spoil_own mine lm hm _ hmz hmo
          rw [HMC.out] at hspm
          have jm0 := S19.get (b := bm) (.tail _ (.tail _ (.tail _ (.head _)))) 0 _ rfl
          have jm1 := S19.get (b := bm) (.tail _ (.tail _ (.tail _ (.head _)))) 1 _ rfl
          have jm2 := S19.get (b := bm) (.tail _ (.tail _ (.tail _ (.head _)))) 2 _ rfl
          have jm3 := S19.get (b := bm) (.tail _ (.tail _ (.tail _ (.head _)))) 3 _ rfl
          have HS19 := Lib.hid S19
          clear S19 hmo hmz HS18 kg0 kg1 kg2 kg3
          go_wp2_with fail
          refine hspm.mono ?_
          clear hspm
          rintro e w19 ⟨rfl, ho19⟩
          have S20 : Stands W [(bw, [.string nm4, .slice pp4 pn4 pc4, .int .i64 rt4, .slice bp4 bn4 bc4]), (bg, [.string nm2, .slice pp2 pn2 pc2, .int .i64 rt2, .slice bp2 bn2 bc2]), (bh, [.string nm3, .slice pp3 pn3 pc3, .int .i64 rt3, .slice bp3 bn3 bc3]), (bm, [.string nm1, .slice pp1 pn1 pc1, .int .i64 rt1, .slice bp1 bn1 bc1]), (W.heap.size + 1, [.int .i64 vk, .int .i64 vn, .int .u64 vb]), (W.heap.size, [.string nm, .slice pp pn pc, .int .i64 rt, .slice bp bn bc])] [fnO lw hw want, fnO lh hh h] w19 := Stands.out (HS19.out.sub (fun x hx => hx) (fun x hx => by simp only [List.mem_cons, List.not_mem_nil, or_false] at hx ⊢; rcases hx with rfl | rfl <;> simp)) ho19 (by omega) (fun x hx => by simp only [List.mem_cons, List.not_mem_nil, or_false] at hx; rcases hx with rfl | rfl | rfl | rfl | rfl | rfl <;> simp only <;> omega) (fun x hx => by simp only [List.mem_cons, List.not_mem_nil, or_false] at hx; rcases hx with rfl | rfl <;> simp only [fnO] <;> omega)
          have hc := Funcs_any w19 h want (S20.fn (a := lh) (b := hh) (.tail _ (.head _))) (S20.fn (a := lw) (b := hw) (.head _))
          rw [HHC.out, HWC.out] at hc
          have ih0 := S20.get (b := bh) (.tail _ (.tail _ (.head _))) 0 _ rfl
          have ih1 := S20.get (b := bh) (.tail _ (.tail _ (.head _))) 1 _ rfl
          have ih2 := S20.get (b := bh) (.tail _ (.tail _ (.head _))) 2 _ rfl
          have ih3 := S20.get (b := bh) (.tail _ (.tail _ (.head _))) 3 _ rfl
          have iw0 := S20.get (b := bw) (.head _) 0 _ rfl
          have iw1 := S20.get (b := bw) (.head _) 1 _ rfl
          have iw2 := S20.get (b := bw) (.head _) 2 _ rfl
          have iw3 := S20.get (b := bw) (.head _) 3 _ rfl
          have HS20 := Lib.hid S20
          clear S20 ho19 jm0 jm1 jm2 jm3
          go_wp2_with fail
          refine hc.mono ?_
          clear hc
          rintro e w20 ⟨b, rfl, hb, hb20⟩
          obtain rfl := hb.2 (HDH.out.trans HDW.out.symm)
          clear hb
          go_wp2_with fail
          go_ret
          exact ⟨rfl, (HS20.out.later hb20).past.2⟩

      · have hr2 : (vn == reg) = false := by simpa using hr
        have HR := Lib.hid hr
        clear hr
        have hu0 : usesP reg D = 0 := by rw [← HDD.out, usesP_rep, if_pos rfl, show isU reg ⟨vk, vn, vb⟩ = false by unfold isU; simp [hr2]]; rfl
        have c11 : ∀ w, Stands W [(bw, [.string nm4, .slice pp4 pn4 pc4, .int .i64 rt4, .slice bp4 bn4 bc4]), (bg, [.string nm2, .slice pp2 pn2 pc2, .int .i64 rt2, .slice bp2 bn2 bc2]), (bh, [.string nm3, .slice pp3 pn3 pc3, .int .i64 rt3, .slice bp3 bn3 bc3]), (bm, [.string nm1, .slice pp1 pn1 pc1, .int .i64 rt1, .slice bp1 bn1 bc1]), (W.heap.size + 1, [.int .i64 vk, .int .i64 vn, .int .u64 vb]), (W.heap.size, [.string nm, .slice pp pn pc, .int .i64 rt, .slice bp bn bc])] [fnO lw hw want, fnO lg hg g, fnO lh hh h, fnO lm hm mine] w → Calls Try.prog 31 #[.agg #[.string nm2, .slice pp2 pn2 pc2, .int .i64 rt2, .slice bp2 bn2 bc2], .int .i64 reg] w fun e w' => e = .returned (.int .i64 0) ∧ Stands W [(bw, [.string nm4, .slice pp4 pn4 pc4, .int .i64 rt4, .slice bp4 bn4 bc4]), (bg, [.string nm2, .slice pp2 pn2 pc2, .int .i64 rt2, .slice bp2 bn2 bc2]), (bh, [.string nm3, .slice pp3 pn3 pc3, .int .i64 rt3, .slice bp3 bn3 bc3]), (bm, [.string nm1, .slice pp1 pn1 pc1, .int .i64 rt1, .slice bp1 bn1 bc1]), (W.heap.size + 1, [.int .i64 vk, .int .i64 vn, .int .u64 vb]), (W.heap.size, [.string nm, .slice pp pn pc, .int .i64 rt, .slice bp bn bc])] [fnO lw hw want, fnO lg hg g, fnO lh hh h, fnO lm hm mine] w' := fun w S => HUG.out w reg 0 hu0 S
        clear hu0
        go_wp2_with fail
        refine (c11 _ HS10.out).mono ?_
        rintro e w11 ⟨rfl, S11⟩
        clear c11 xg0 xg1 xg2 xg3 xf0 xf1 xf2 xf3 xv0 xv1 xv2
        have xxf0 := S11.get (b := W.heap.size) (.tail _ (.tail _ (.tail _ (.tail _ (.tail _ (.head _)))))) 0 _ rfl
        have xxf1 := S11.get (b := W.heap.size) (.tail _ (.tail _ (.tail _ (.tail _ (.tail _ (.head _)))))) 1 _ rfl
        have xxf2 := S11.get (b := W.heap.size) (.tail _ (.tail _ (.tail _ (.tail _ (.tail _ (.head _)))))) 2 _ rfl
        have xxf3 := S11.get (b := W.heap.size) (.tail _ (.tail _ (.tail _ (.tail _ (.tail _ (.head _)))))) 3 _ rfl
        have xxv0 := S11.get (b := W.heap.size + 1) (.tail _ (.tail _ (.tail _ (.tail _ (.head _))))) 0 _ rfl
        have xxv1 := S11.get (b := W.heap.size + 1) (.tail _ (.tail _ (.tail _ (.tail _ (.head _))))) 1 _ rfl
        have xxv2 := S11.get (b := W.heap.size + 1) (.tail _ (.tail _ (.tail _ (.tail _ (.head _))))) 2 _ rfl
        by_cases ho : vn = other
        · have ho2 : (vn == other) = true := by simpa using ho
          have ho4 : ¬ other = reg := by have := HR.out; omega
          have ho3 : (other != reg) = true := by simpa using ho4
          have HOR := Lib.hid ho4
          clear ho ho4
          go_wp2_with fail
          refine (HUF.out _ reg A EA.out S11).mono ?_
          rintro e w15 ⟨rfl, S15⟩
          clear S11 xxf0 xxf1 xxf2 xxf3 xxv0 xxv1 xxv2
          have hu16 : usesP other D = (B + A) := by rw [← HDD.out, usesP_rep, if_neg HOR.out, show isU other ⟨vk, vn, vb⟩ = true by unfold isU; simp [hk2, ho2], EB.out, EA.out]; rfl
          have cP : ∀ w, Stands W [(bw, [.string nm4, .slice pp4 pn4 pc4, .int .i64 rt4, .slice bp4 bn4 bc4]), (bg, [.string nm2, .slice pp2 pn2 pc2, .int .i64 rt2, .slice bp2 bn2 bc2]), (bh, [.string nm3, .slice pp3 pn3 pc3, .int .i64 rt3, .slice bp3 bn3 bc3]), (bm, [.string nm1, .slice pp1 pn1 pc1, .int .i64 rt1, .slice bp1 bn1 bc1]), (W.heap.size + 1, [.int .i64 vk, .int .i64 vn, .int .u64 vb]), (W.heap.size, [.string nm, .slice pp pn pc, .int .i64 rt, .slice bp bn bc])] [fnO lw hw want, fnO lg hg g, fnO lh hh h, fnO lm hm mine] w → Calls Try.prog 31 #[.agg #[.string nm2, .slice pp2 pn2 pc2, .int .i64 rt2, .slice bp2 bn2 bc2], .int .i64 other] w fun e w' => e = .returned (.int .i64 ((B + A) : Nat)) ∧ Stands W [(bw, [.string nm4, .slice pp4 pn4 pc4, .int .i64 rt4, .slice bp4 bn4 bc4]), (bg, [.string nm2, .slice pp2 pn2 pc2, .int .i64 rt2, .slice bp2 bn2 bc2]), (bh, [.string nm3, .slice pp3 pn3 pc3, .int .i64 rt3, .slice bp3 bn3 bc3]), (bm, [.string nm1, .slice pp1 pn1 pc1, .int .i64 rt1, .slice bp1 bn1 bc1]), (W.heap.size + 1, [.int .i64 vk, .int .i64 vn, .int .u64 vb]), (W.heap.size, [.string nm, .slice pp pn pc, .int .i64 rt, .slice bp bn bc])] [fnO lw hw want, fnO lg hg g, fnO lh hh h, fnO lm hm mine] w' := fun w S => HUG.out w other _ hu16 S
          have cQ : ∀ w, Stands W [(bw, [.string nm4, .slice pp4 pn4 pc4, .int .i64 rt4, .slice bp4 bn4 bc4]), (bg, [.string nm2, .slice pp2 pn2 pc2, .int .i64 rt2, .slice bp2 bn2 bc2]), (bh, [.string nm3, .slice pp3 pn3 pc3, .int .i64 rt3, .slice bp3 bn3 bc3]), (bm, [.string nm1, .slice pp1 pn1 pc1, .int .i64 rt1, .slice bp1 bn1 bc1]), (W.heap.size + 1, [.int .i64 vk, .int .i64 vn, .int .u64 vb]), (W.heap.size, [.string nm, .slice pp pn pc, .int .i64 rt, .slice bp bn bc])] [fnO lw hw want, fnO lg hg g, fnO lh hh h, fnO lm hm mine] w → Calls Try.prog 31 #[.agg #[.string nm, .slice pp pn pc, .int .i64 rt, .slice bp bn bc], .int .i64 other] w fun e w' => e = .returned (.int .i64 (B : Nat)) ∧ Stands W [(bw, [.string nm4, .slice pp4 pn4 pc4, .int .i64 rt4, .slice bp4 bn4 bc4]), (bg, [.string nm2, .slice pp2 pn2 pc2, .int .i64 rt2, .slice bp2 bn2 bc2]), (bh, [.string nm3, .slice pp3 pn3 pc3, .int .i64 rt3, .slice bp3 bn3 bc3]), (bm, [.string nm1, .slice pp1 pn1 pc1, .int .i64 rt1, .slice bp1 bn1 bc1]), (W.heap.size + 1, [.int .i64 vk, .int .i64 vn, .int .u64 vb]), (W.heap.size, [.string nm, .slice pp pn pc, .int .i64 rt, .slice bp bn bc])] [fnO lw hw want, fnO lg hg g, fnO lh hh h, fnO lm hm mine] w' := fun w S => HUF.out w other _ EB.out S
          simp only [Int.natCast_add] at cP
          have hwA : IntKind.i64.wrap ((B : Int) + (A : Int)) = (B : Int) + (A : Int) := by simp [IntKind.wrap, IntKind.signed, IntKind.bits]; omega
          have hw0 : IntKind.i64.wrap (B : Int) = B := by simp [IntKind.wrap, IntKind.signed, IntKind.bits]; omega
          clear hu16
          have SK := S15
          have yg0 := SK.get (b := bg) (.tail _ (.head _)) 0 _ rfl
          have yg1 := SK.get (b := bg) (.tail _ (.head _)) 1 _ rfl
          have yg2 := SK.get (b := bg) (.tail _ (.head _)) 2 _ rfl
          have yg3 := SK.get (b := bg) (.tail _ (.head _)) 3 _ rfl
          have yf0 := SK.get (b := W.heap.size) (.tail _ (.tail _ (.tail _ (.tail _ (.tail _ (.head _)))))) 0 _ rfl
          have yf1 := SK.get (b := W.heap.size) (.tail _ (.tail _ (.tail _ (.tail _ (.tail _ (.head _)))))) 1 _ rfl
          have yf2 := SK.get (b := W.heap.size) (.tail _ (.tail _ (.tail _ (.tail _ (.tail _ (.head _)))))) 2 _ rfl
          have yf3 := SK.get (b := W.heap.size) (.tail _ (.tail _ (.tail _ (.tail _ (.tail _ (.head _)))))) 3 _ rfl
          go_wp2_with fail
          go_region_held3 (fun w' => w'.cell? ⟨bg, 0, none⟩ = some (.string nm2) ∧ w'.cell? ⟨bg, 1, none⟩ = some (.slice pp2 pn2 pc2) ∧ w'.cell? ⟨bg, 2, none⟩ = some (.int .i64 rt2) ∧ w'.cell? ⟨bg, 3, none⟩ = some (.slice bp2 bn2 bc2) ∧ w'.cell? ⟨W.heap.size, 0, none⟩ = some (.string nm) ∧ w'.cell? ⟨W.heap.size, 1, none⟩ = some (.slice pp pn pc) ∧ w'.cell? ⟨W.heap.size, 2, none⟩ = some (.int .i64 rt) ∧ w'.cell? ⟨W.heap.size, 3, none⟩ = some (.slice bp bn bc) ∧ Stands W [(bw, [.string nm4, .slice pp4 pn4 pc4, .int .i64 rt4, .slice bp4 bn4 bc4]), (bg, [.string nm2, .slice pp2 pn2 pc2, .int .i64 rt2, .slice bp2 bn2 bc2]), (bh, [.string nm3, .slice pp3 pn3 pc3, .int .i64 rt3, .slice bp3 bn3 bc3]), (bm, [.string nm1, .slice pp1 pn1 pc1, .int .i64 rt1, .slice bp1 bn1 bc1]), (W.heap.size + 1, [.int .i64 vk, .int .i64 vn, .int .u64 vb]), (W.heap.size, [.string nm, .slice pp pn pc, .int .i64 rt, .slice bp bn bc])] [fnO lw hw want, fnO lg hg g, fnO lh hh h, fnO lm hm mine] w')
            (((try dsimp only); (repeat' apply And.intro) <;> (first | (with_reducible assumption) | (rw [World.cell?_drew]; with_reducible assumption) | (with_reducible apply Stands.drew; with_reducible assumption))))
            (first
              | ((with_reducible refine (cP _ ?pre).mono ?_)
                 case pre => (first | (with_reducible assumption) | (with_reducible apply Stands.drew; with_reducible assumption))
                 rintro e wp ⟨rfl, Sp⟩
                 have zpg0 := Sp.get (b := bg) (.tail _ (.head _)) 0 _ rfl
                 have zpg1 := Sp.get (b := bg) (.tail _ (.head _)) 1 _ rfl
                 have zpg2 := Sp.get (b := bg) (.tail _ (.head _)) 2 _ rfl
                 have zpg3 := Sp.get (b := bg) (.tail _ (.head _)) 3 _ rfl
                 have zpf0 := Sp.get (b := W.heap.size) (.tail _ (.tail _ (.tail _ (.tail _ (.tail _ (.head _)))))) 0 _ rfl
                 have zpf1 := Sp.get (b := W.heap.size) (.tail _ (.tail _ (.tail _ (.tail _ (.tail _ (.head _)))))) 1 _ rfl
                 have zpf2 := Sp.get (b := W.heap.size) (.tail _ (.tail _ (.tail _ (.tail _ (.tail _ (.head _)))))) 2 _ rfl
                 have zpf3 := Sp.get (b := W.heap.size) (.tail _ (.tail _ (.tail _ (.tail _ (.tail _ (.head _)))))) 3 _ rfl)
              | ((with_reducible refine (cQ _ ?pre).mono ?_)
                 case pre => (first | (with_reducible assumption) | (with_reducible apply Stands.drew; with_reducible assumption))
                 rintro e wq ⟨rfl, Sq⟩
                 have zqg0 := Sq.get (b := bg) (.tail _ (.head _)) 0 _ rfl
                 have zqg1 := Sq.get (b := bg) (.tail _ (.head _)) 1 _ rfl
                 have zqg2 := Sq.get (b := bg) (.tail _ (.head _)) 2 _ rfl
                 have zqg3 := Sq.get (b := bg) (.tail _ (.head _)) 3 _ rfl
                 have zqf0 := Sq.get (b := W.heap.size) (.tail _ (.tail _ (.tail _ (.tail _ (.tail _ (.head _)))))) 0 _ rfl
                 have zqf1 := Sq.get (b := W.heap.size) (.tail _ (.tail _ (.tail _ (.tail _ (.tail _ (.head _)))))) 1 _ rfl
                 have zqf2 := Sq.get (b := W.heap.size) (.tail _ (.tail _ (.tail _ (.tail _ (.tail _ (.head _)))))) 2 _ rfl
                 have zqf3 := Sq.get (b := W.heap.size) (.tail _ (.tail _ (.tail _ (.tail _ (.tail _ (.head _)))))) 3 _ rfl))
          have HS18 : Hid (Stands W [(bw, [.string nm4, .slice pp4 pn4 pc4, .int .i64 rt4, .slice bp4 bn4 bc4]), (bg, [.string nm2, .slice pp2 pn2 pc2, .int .i64 rt2, .slice bp2 bn2 bc2]), (bh, [.string nm3, .slice pp3 pn3 pc3, .int .i64 rt3, .slice bp3 bn3 bc3]), (bm, [.string nm1, .slice pp1 pn1 pc1, .int .i64 rt1, .slice bp1 bn1 bc1]), (W.heap.size + 1, [.int .i64 vk, .int .i64 vn, .int .u64 vb]), (W.heap.size, [.string nm, .slice pp pn pc, .int .i64 rt, .slice bp bn bc])] [fnO lw hw want, fnO lg hg g, fnO lh hh h, fnO lm hm mine] wq) := Lib.hid Sq
          clear cP cQ Sp Sq SK hw0 hwA yg0 yg1 yg2 yg3 yf0 yf1 yf2 yf3 zpg0 zpg1 zpg2 zpg3 zpf0 zpf1 zpf2 zpf3 zqg0 zqg1 zqg2 zqg3 zqf0 zqf1 zqf2 zqf3
          clear S15
          have cSp : ∀ w, Stands W [(bw, [.string nm4, .slice pp4 pn4 pc4, .int .i64 rt4, .slice bp4 bn4 bc4]), (bg, [.string nm2, .slice pp2 pn2 pc2, .int .i64 rt2, .slice bp2 bn2 bc2]), (bh, [.string nm3, .slice pp3 pn3 pc3, .int .i64 rt3, .slice bp3 bn3 bc3]), (bm, [.string nm1, .slice pp1 pn1 pc1, .int .i64 rt1, .slice bp1 bn1 bc1]), (W.heap.size + 1, [.int .i64 vk, .int .i64 vn, .int .u64 vb]), (W.heap.size, [.string nm, .slice pp pn pc, .int .i64 rt, .slice bp bn bc])] [fnO lw hw want, fnO lg hg g, fnO lh hh h, fnO lm hm mine] w → Calls Try.prog 39 #[.agg #[.string nm2, .slice pp2 pn2 pc2, .int .i64 rt2, .slice bp2 bn2 bc2]] w fun e w' => e = .returned (.tuple #[]) ∧ Stands W [(bw, [.string nm4, .slice pp4 pn4 pc4, .int .i64 rt4, .slice bp4 bn4 bc4]), (bg, [.string nm2, .slice pp2 pn2 pc2, .int .i64 rt2, .slice bp2 bn2 bc2]), (bh, [.string nm3, .slice pp3 pn3 pc3, .int .i64 rt3, .slice bp3 bn3 bc3]), (bm, [.string nm1, .slice pp1 pn1 pc1, .int .i64 rt1, .slice bp1 bn1 bc1]), (W.heap.size + 1, [.int .i64 vk, .int .i64 vn, .int .u64 vb]), (W.heap.size, [.string nm, .slice pp pn pc, .int .i64 rt, .slice bp bn bc])] [fnO lw hw want, fnO lh hh h, fnO lm hm mine] w' := by
            intro w S
            have hspo := Spoil_own g lg hg w (S.own _ (.tail _ (.head _))).2.2.1 (S.own _ (.tail _ (.head _))).1
            rw [HGC.out] at hspo
            refine hspo.mono ?_
            rintro e w18 ⟨he, ho18⟩
            exact ⟨he, Stands.out (S.sub (fun x hx => hx) (fun x hx => by simp only [List.mem_cons, List.not_mem_nil, or_false] at hx ⊢; rcases hx with rfl | rfl | rfl <;> simp)) ho18 (by omega) (fun x hx => by simp only [List.mem_cons, List.not_mem_nil, or_false] at hx; rcases hx with rfl | rfl | rfl | rfl | rfl | rfl <;> simp only <;> omega) (fun x hx => by simp only [List.mem_cons, List.not_mem_nil, or_false] at hx; rcases hx with rfl | rfl | rfl <;> simp only [fnO] <;> omega)⟩
          have S18 := HS18.out
          have kg0 := S18.get (b := bg) (.tail _ (.head _)) 0 _ rfl
          have kg1 := S18.get (b := bg) (.tail _ (.head _)) 1 _ rfl
          have kg2 := S18.get (b := bg) (.tail _ (.head _)) 2 _ rfl
          have kg3 := S18.get (b := bg) (.tail _ (.head _)) 3 _ rfl
          clear S18
          go_wp2_with fail
          refine (cSp _ ?pre).mono ?_
          case pre => first | exact HS18.out | exact Stands.drew HS18.out | exact Stands.drewN HS18.out _
          clear cSp
          rintro e w18 ⟨rfl, S19⟩
          have hmo := (S19.own _ (.tail _ (.tail _ (.head _)))).1
          have hmz := (S19.own _ (.tail _ (.tail _ (.head _)))).2.2.1
          have hspm := Spoil_own mine lm hm _ hmz hmo
          rw [HMC.out] at hspm
          have jm0 := S19.get (b := bm) (.tail _ (.tail _ (.tail _ (.head _)))) 0 _ rfl
          have jm1 := S19.get (b := bm) (.tail _ (.tail _ (.tail _ (.head _)))) 1 _ rfl
          have jm2 := S19.get (b := bm) (.tail _ (.tail _ (.tail _ (.head _)))) 2 _ rfl
          have jm3 := S19.get (b := bm) (.tail _ (.tail _ (.tail _ (.head _)))) 3 _ rfl
          have HS19 := Lib.hid S19
          clear S19 hmo hmz HS18 kg0 kg1 kg2 kg3
          go_wp2_with fail
          refine hspm.mono ?_
          clear hspm
          rintro e w19 ⟨rfl, ho19⟩
          have S20 : Stands W [(bw, [.string nm4, .slice pp4 pn4 pc4, .int .i64 rt4, .slice bp4 bn4 bc4]), (bg, [.string nm2, .slice pp2 pn2 pc2, .int .i64 rt2, .slice bp2 bn2 bc2]), (bh, [.string nm3, .slice pp3 pn3 pc3, .int .i64 rt3, .slice bp3 bn3 bc3]), (bm, [.string nm1, .slice pp1 pn1 pc1, .int .i64 rt1, .slice bp1 bn1 bc1]), (W.heap.size + 1, [.int .i64 vk, .int .i64 vn, .int .u64 vb]), (W.heap.size, [.string nm, .slice pp pn pc, .int .i64 rt, .slice bp bn bc])] [fnO lw hw want, fnO lh hh h] w19 := Stands.out (HS19.out.sub (fun x hx => hx) (fun x hx => by simp only [List.mem_cons, List.not_mem_nil, or_false] at hx ⊢; rcases hx with rfl | rfl <;> simp)) ho19 (by omega) (fun x hx => by simp only [List.mem_cons, List.not_mem_nil, or_false] at hx; rcases hx with rfl | rfl | rfl | rfl | rfl | rfl <;> simp only <;> omega) (fun x hx => by simp only [List.mem_cons, List.not_mem_nil, or_false] at hx; rcases hx with rfl | rfl <;> simp only [fnO] <;> omega)
          have hc := Funcs_any w19 h want (S20.fn (a := lh) (b := hh) (.tail _ (.head _))) (S20.fn (a := lw) (b := hw) (.head _))
          rw [HHC.out, HWC.out] at hc
          have ih0 := S20.get (b := bh) (.tail _ (.tail _ (.head _))) 0 _ rfl
          have ih1 := S20.get (b := bh) (.tail _ (.tail _ (.head _))) 1 _ rfl
          have ih2 := S20.get (b := bh) (.tail _ (.tail _ (.head _))) 2 _ rfl
          have ih3 := S20.get (b := bh) (.tail _ (.tail _ (.head _))) 3 _ rfl
          have iw0 := S20.get (b := bw) (.head _) 0 _ rfl
          have iw1 := S20.get (b := bw) (.head _) 1 _ rfl
          have iw2 := S20.get (b := bw) (.head _) 2 _ rfl
          have iw3 := S20.get (b := bw) (.head _) 3 _ rfl
          have HS20 := Lib.hid S20
          clear S20 ho19 jm0 jm1 jm2 jm3
          go_wp2_with fail
          refine hc.mono ?_
          clear hc
          rintro e w20 ⟨b, rfl, hb, hb20⟩
          obtain rfl := hb.2 (HDH.out.trans HDW.out.symm)
          clear hb
          go_wp2_with fail
          go_ret
          exact ⟨rfl, (HS20.out.later hb20).past.2⟩

        · have ho2 : (vn == other) = false := by simpa using ho
          clear ho
          by_cases ho : other = reg
          · have ho3 : (other != reg) = false := by simp [ho]
            clear ho
            go_wp2_with fail
            go_quiet (fail)
            have HS18 := Lib.hid S11
            clear S11 xxf0 xxf1 xxf2 xxf3 xxv0 xxv1 xxv2
            have cSp : ∀ w, Stands W [(bw, [.string nm4, .slice pp4 pn4 pc4, .int .i64 rt4, .slice bp4 bn4 bc4]), (bg, [.string nm2, .slice pp2 pn2 pc2, .int .i64 rt2, .slice bp2 bn2 bc2]), (bh, [.string nm3, .slice pp3 pn3 pc3, .int .i64 rt3, .slice bp3 bn3 bc3]), (bm, [.string nm1, .slice pp1 pn1 pc1, .int .i64 rt1, .slice bp1 bn1 bc1]), (W.heap.size + 1, [.int .i64 vk, .int .i64 vn, .int .u64 vb]), (W.heap.size, [.string nm, .slice pp pn pc, .int .i64 rt, .slice bp bn bc])] [fnO lw hw want, fnO lg hg g, fnO lh hh h, fnO lm hm mine] w → Calls Try.prog 39 #[.agg #[.string nm2, .slice pp2 pn2 pc2, .int .i64 rt2, .slice bp2 bn2 bc2]] w fun e w' => e = .returned (.tuple #[]) ∧ Stands W [(bw, [.string nm4, .slice pp4 pn4 pc4, .int .i64 rt4, .slice bp4 bn4 bc4]), (bg, [.string nm2, .slice pp2 pn2 pc2, .int .i64 rt2, .slice bp2 bn2 bc2]), (bh, [.string nm3, .slice pp3 pn3 pc3, .int .i64 rt3, .slice bp3 bn3 bc3]), (bm, [.string nm1, .slice pp1 pn1 pc1, .int .i64 rt1, .slice bp1 bn1 bc1]), (W.heap.size + 1, [.int .i64 vk, .int .i64 vn, .int .u64 vb]), (W.heap.size, [.string nm, .slice pp pn pc, .int .i64 rt, .slice bp bn bc])] [fnO lw hw want, fnO lh hh h, fnO lm hm mine] w' := by
              intro w S
              have hspo := Spoil_own g lg hg w (S.own _ (.tail _ (.head _))).2.2.1 (S.own _ (.tail _ (.head _))).1
              rw [HGC.out] at hspo
              refine hspo.mono ?_
              rintro e w18 ⟨he, ho18⟩
              exact ⟨he, Stands.out (S.sub (fun x hx => hx) (fun x hx => by simp only [List.mem_cons, List.not_mem_nil, or_false] at hx ⊢; rcases hx with rfl | rfl | rfl <;> simp)) ho18 (by omega) (fun x hx => by simp only [List.mem_cons, List.not_mem_nil, or_false] at hx; rcases hx with rfl | rfl | rfl | rfl | rfl | rfl <;> simp only <;> omega) (fun x hx => by simp only [List.mem_cons, List.not_mem_nil, or_false] at hx; rcases hx with rfl | rfl | rfl <;> simp only [fnO] <;> omega)⟩
            have S18 := HS18.out
            have kg0 := S18.get (b := bg) (.tail _ (.head _)) 0 _ rfl
            have kg1 := S18.get (b := bg) (.tail _ (.head _)) 1 _ rfl
            have kg2 := S18.get (b := bg) (.tail _ (.head _)) 2 _ rfl
            have kg3 := S18.get (b := bg) (.tail _ (.head _)) 3 _ rfl
            clear S18
            go_wp2_with fail
            refine (cSp _ ?pre).mono ?_
            case pre => first | exact HS18.out | exact Stands.drew HS18.out | exact Stands.drewN HS18.out _
            clear cSp
            rintro e w18 ⟨rfl, S19⟩
            have hmo := (S19.own _ (.tail _ (.tail _ (.head _)))).1
            have hmz := (S19.own _ (.tail _ (.tail _ (.head _)))).2.2.1
            have hspm := Spoil_own mine lm hm _ hmz hmo
            rw [HMC.out] at hspm
            have jm0 := S19.get (b := bm) (.tail _ (.tail _ (.tail _ (.head _)))) 0 _ rfl
            have jm1 := S19.get (b := bm) (.tail _ (.tail _ (.tail _ (.head _)))) 1 _ rfl
            have jm2 := S19.get (b := bm) (.tail _ (.tail _ (.tail _ (.head _)))) 2 _ rfl
            have jm3 := S19.get (b := bm) (.tail _ (.tail _ (.tail _ (.head _)))) 3 _ rfl
            have HS19 := Lib.hid S19
            clear S19 hmo hmz HS18 kg0 kg1 kg2 kg3
            go_wp2_with fail
            refine hspm.mono ?_
            clear hspm
            rintro e w19 ⟨rfl, ho19⟩
            have S20 : Stands W [(bw, [.string nm4, .slice pp4 pn4 pc4, .int .i64 rt4, .slice bp4 bn4 bc4]), (bg, [.string nm2, .slice pp2 pn2 pc2, .int .i64 rt2, .slice bp2 bn2 bc2]), (bh, [.string nm3, .slice pp3 pn3 pc3, .int .i64 rt3, .slice bp3 bn3 bc3]), (bm, [.string nm1, .slice pp1 pn1 pc1, .int .i64 rt1, .slice bp1 bn1 bc1]), (W.heap.size + 1, [.int .i64 vk, .int .i64 vn, .int .u64 vb]), (W.heap.size, [.string nm, .slice pp pn pc, .int .i64 rt, .slice bp bn bc])] [fnO lw hw want, fnO lh hh h] w19 := Stands.out (HS19.out.sub (fun x hx => hx) (fun x hx => by simp only [List.mem_cons, List.not_mem_nil, or_false] at hx ⊢; rcases hx with rfl | rfl <;> simp)) ho19 (by omega) (fun x hx => by simp only [List.mem_cons, List.not_mem_nil, or_false] at hx; rcases hx with rfl | rfl | rfl | rfl | rfl | rfl <;> simp only <;> omega) (fun x hx => by simp only [List.mem_cons, List.not_mem_nil, or_false] at hx; rcases hx with rfl | rfl <;> simp only [fnO] <;> omega)
            have hc := Funcs_any w19 h want (S20.fn (a := lh) (b := hh) (.tail _ (.head _))) (S20.fn (a := lw) (b := hw) (.head _))
            rw [HHC.out, HWC.out] at hc
            have ih0 := S20.get (b := bh) (.tail _ (.tail _ (.head _))) 0 _ rfl
            have ih1 := S20.get (b := bh) (.tail _ (.tail _ (.head _))) 1 _ rfl
            have ih2 := S20.get (b := bh) (.tail _ (.tail _ (.head _))) 2 _ rfl
            have ih3 := S20.get (b := bh) (.tail _ (.tail _ (.head _))) 3 _ rfl
            have iw0 := S20.get (b := bw) (.head _) 0 _ rfl
            have iw1 := S20.get (b := bw) (.head _) 1 _ rfl
            have iw2 := S20.get (b := bw) (.head _) 2 _ rfl
            have iw3 := S20.get (b := bw) (.head _) 3 _ rfl
            have HS20 := Lib.hid S20
            clear S20 ho19 jm0 jm1 jm2 jm3
            go_wp2_with fail
            refine hc.mono ?_
            clear hc
            rintro e w20 ⟨b, rfl, hb, hb20⟩
            obtain rfl := hb.2 (HDH.out.trans HDW.out.symm)
            clear hb
            go_wp2_with fail
            go_ret
            exact ⟨rfl, (HS20.out.later hb20).past.2⟩

          · have ho3 : (other != reg) = true := by simpa using ho
            have HOR := Lib.hid ho
            clear ho
            have hu16 : usesP other D = B := by rw [← HDD.out, usesP_rep, if_neg HOR.out, show isU other ⟨vk, vn, vb⟩ = false by unfold isU; simp [ho2], EB.out]; rfl
            have cP : ∀ w, Stands W [(bw, [.string nm4, .slice pp4 pn4 pc4, .int .i64 rt4, .slice bp4 bn4 bc4]), (bg, [.string nm2, .slice pp2 pn2 pc2, .int .i64 rt2, .slice bp2 bn2 bc2]), (bh, [.string nm3, .slice pp3 pn3 pc3, .int .i64 rt3, .slice bp3 bn3 bc3]), (bm, [.string nm1, .slice pp1 pn1 pc1, .int .i64 rt1, .slice bp1 bn1 bc1]), (W.heap.size + 1, [.int .i64 vk, .int .i64 vn, .int .u64 vb]), (W.heap.size, [.string nm, .slice pp pn pc, .int .i64 rt, .slice bp bn bc])] [fnO lw hw want, fnO lg hg g, fnO lh hh h, fnO lm hm mine] w → Calls Try.prog 31 #[.agg #[.string nm2, .slice pp2 pn2 pc2, .int .i64 rt2, .slice bp2 bn2 bc2], .int .i64 other] w fun e w' => e = .returned (.int .i64 (B : Nat)) ∧ Stands W [(bw, [.string nm4, .slice pp4 pn4 pc4, .int .i64 rt4, .slice bp4 bn4 bc4]), (bg, [.string nm2, .slice pp2 pn2 pc2, .int .i64 rt2, .slice bp2 bn2 bc2]), (bh, [.string nm3, .slice pp3 pn3 pc3, .int .i64 rt3, .slice bp3 bn3 bc3]), (bm, [.string nm1, .slice pp1 pn1 pc1, .int .i64 rt1, .slice bp1 bn1 bc1]), (W.heap.size + 1, [.int .i64 vk, .int .i64 vn, .int .u64 vb]), (W.heap.size, [.string nm, .slice pp pn pc, .int .i64 rt, .slice bp bn bc])] [fnO lw hw want, fnO lg hg g, fnO lh hh h, fnO lm hm mine] w' := fun w S => HUG.out w other _ hu16 S
            have cQ : ∀ w, Stands W [(bw, [.string nm4, .slice pp4 pn4 pc4, .int .i64 rt4, .slice bp4 bn4 bc4]), (bg, [.string nm2, .slice pp2 pn2 pc2, .int .i64 rt2, .slice bp2 bn2 bc2]), (bh, [.string nm3, .slice pp3 pn3 pc3, .int .i64 rt3, .slice bp3 bn3 bc3]), (bm, [.string nm1, .slice pp1 pn1 pc1, .int .i64 rt1, .slice bp1 bn1 bc1]), (W.heap.size + 1, [.int .i64 vk, .int .i64 vn, .int .u64 vb]), (W.heap.size, [.string nm, .slice pp pn pc, .int .i64 rt, .slice bp bn bc])] [fnO lw hw want, fnO lg hg g, fnO lh hh h, fnO lm hm mine] w → Calls Try.prog 31 #[.agg #[.string nm, .slice pp pn pc, .int .i64 rt, .slice bp bn bc], .int .i64 other] w fun e w' => e = .returned (.int .i64 (B : Nat)) ∧ Stands W [(bw, [.string nm4, .slice pp4 pn4 pc4, .int .i64 rt4, .slice bp4 bn4 bc4]), (bg, [.string nm2, .slice pp2 pn2 pc2, .int .i64 rt2, .slice bp2 bn2 bc2]), (bh, [.string nm3, .slice pp3 pn3 pc3, .int .i64 rt3, .slice bp3 bn3 bc3]), (bm, [.string nm1, .slice pp1 pn1 pc1, .int .i64 rt1, .slice bp1 bn1 bc1]), (W.heap.size + 1, [.int .i64 vk, .int .i64 vn, .int .u64 vb]), (W.heap.size, [.string nm, .slice pp pn pc, .int .i64 rt, .slice bp bn bc])] [fnO lw hw want, fnO lg hg g, fnO lh hh h, fnO lm hm mine] w' := fun w S => HUF.out w other _ EB.out S
            have hw0 : IntKind.i64.wrap (B : Int) = B := by simp [IntKind.wrap, IntKind.signed, IntKind.bits]; omega
            clear hu16
            have SK := S11
            have yg0 := SK.get (b := bg) (.tail _ (.head _)) 0 _ rfl
            have yg1 := SK.get (b := bg) (.tail _ (.head _)) 1 _ rfl
            have yg2 := SK.get (b := bg) (.tail _ (.head _)) 2 _ rfl
            have yg3 := SK.get (b := bg) (.tail _ (.head _)) 3 _ rfl
            have yf0 := SK.get (b := W.heap.size) (.tail _ (.tail _ (.tail _ (.tail _ (.tail _ (.head _)))))) 0 _ rfl
            have yf1 := SK.get (b := W.heap.size) (.tail _ (.tail _ (.tail _ (.tail _ (.tail _ (.head _)))))) 1 _ rfl
            have yf2 := SK.get (b := W.heap.size) (.tail _ (.tail _ (.tail _ (.tail _ (.tail _ (.head _)))))) 2 _ rfl
            have yf3 := SK.get (b := W.heap.size) (.tail _ (.tail _ (.tail _ (.tail _ (.tail _ (.head _)))))) 3 _ rfl
            go_wp2_with fail
            go_region_held3 (fun w' => w'.cell? ⟨bg, 0, none⟩ = some (.string nm2) ∧ w'.cell? ⟨bg, 1, none⟩ = some (.slice pp2 pn2 pc2) ∧ w'.cell? ⟨bg, 2, none⟩ = some (.int .i64 rt2) ∧ w'.cell? ⟨bg, 3, none⟩ = some (.slice bp2 bn2 bc2) ∧ w'.cell? ⟨W.heap.size, 0, none⟩ = some (.string nm) ∧ w'.cell? ⟨W.heap.size, 1, none⟩ = some (.slice pp pn pc) ∧ w'.cell? ⟨W.heap.size, 2, none⟩ = some (.int .i64 rt) ∧ w'.cell? ⟨W.heap.size, 3, none⟩ = some (.slice bp bn bc) ∧ Stands W [(bw, [.string nm4, .slice pp4 pn4 pc4, .int .i64 rt4, .slice bp4 bn4 bc4]), (bg, [.string nm2, .slice pp2 pn2 pc2, .int .i64 rt2, .slice bp2 bn2 bc2]), (bh, [.string nm3, .slice pp3 pn3 pc3, .int .i64 rt3, .slice bp3 bn3 bc3]), (bm, [.string nm1, .slice pp1 pn1 pc1, .int .i64 rt1, .slice bp1 bn1 bc1]), (W.heap.size + 1, [.int .i64 vk, .int .i64 vn, .int .u64 vb]), (W.heap.size, [.string nm, .slice pp pn pc, .int .i64 rt, .slice bp bn bc])] [fnO lw hw want, fnO lg hg g, fnO lh hh h, fnO lm hm mine] w')
              (((try dsimp only); (repeat' apply And.intro) <;> (first | (with_reducible assumption) | (rw [World.cell?_drew]; with_reducible assumption) | (with_reducible apply Stands.drew; with_reducible assumption))))
              (first
                | ((with_reducible refine (cP _ ?pre).mono ?_)
                   case pre => (first | (with_reducible assumption) | (with_reducible apply Stands.drew; with_reducible assumption))
                   rintro e wp ⟨rfl, Sp⟩
                   have zpg0 := Sp.get (b := bg) (.tail _ (.head _)) 0 _ rfl
                   have zpg1 := Sp.get (b := bg) (.tail _ (.head _)) 1 _ rfl
                   have zpg2 := Sp.get (b := bg) (.tail _ (.head _)) 2 _ rfl
                   have zpg3 := Sp.get (b := bg) (.tail _ (.head _)) 3 _ rfl
                   have zpf0 := Sp.get (b := W.heap.size) (.tail _ (.tail _ (.tail _ (.tail _ (.tail _ (.head _)))))) 0 _ rfl
                   have zpf1 := Sp.get (b := W.heap.size) (.tail _ (.tail _ (.tail _ (.tail _ (.tail _ (.head _)))))) 1 _ rfl
                   have zpf2 := Sp.get (b := W.heap.size) (.tail _ (.tail _ (.tail _ (.tail _ (.tail _ (.head _)))))) 2 _ rfl
                   have zpf3 := Sp.get (b := W.heap.size) (.tail _ (.tail _ (.tail _ (.tail _ (.tail _ (.head _)))))) 3 _ rfl)
                | ((with_reducible refine (cQ _ ?pre).mono ?_)
                   case pre => (first | (with_reducible assumption) | (with_reducible apply Stands.drew; with_reducible assumption))
                   rintro e wq ⟨rfl, Sq⟩
                   have zqg0 := Sq.get (b := bg) (.tail _ (.head _)) 0 _ rfl
                   have zqg1 := Sq.get (b := bg) (.tail _ (.head _)) 1 _ rfl
                   have zqg2 := Sq.get (b := bg) (.tail _ (.head _)) 2 _ rfl
                   have zqg3 := Sq.get (b := bg) (.tail _ (.head _)) 3 _ rfl
                   have zqf0 := Sq.get (b := W.heap.size) (.tail _ (.tail _ (.tail _ (.tail _ (.tail _ (.head _)))))) 0 _ rfl
                   have zqf1 := Sq.get (b := W.heap.size) (.tail _ (.tail _ (.tail _ (.tail _ (.tail _ (.head _)))))) 1 _ rfl
                   have zqf2 := Sq.get (b := W.heap.size) (.tail _ (.tail _ (.tail _ (.tail _ (.tail _ (.head _)))))) 2 _ rfl
                   have zqf3 := Sq.get (b := W.heap.size) (.tail _ (.tail _ (.tail _ (.tail _ (.tail _ (.head _)))))) 3 _ rfl))
            have HS18 : Hid (Stands W [(bw, [.string nm4, .slice pp4 pn4 pc4, .int .i64 rt4, .slice bp4 bn4 bc4]), (bg, [.string nm2, .slice pp2 pn2 pc2, .int .i64 rt2, .slice bp2 bn2 bc2]), (bh, [.string nm3, .slice pp3 pn3 pc3, .int .i64 rt3, .slice bp3 bn3 bc3]), (bm, [.string nm1, .slice pp1 pn1 pc1, .int .i64 rt1, .slice bp1 bn1 bc1]), (W.heap.size + 1, [.int .i64 vk, .int .i64 vn, .int .u64 vb]), (W.heap.size, [.string nm, .slice pp pn pc, .int .i64 rt, .slice bp bn bc])] [fnO lw hw want, fnO lg hg g, fnO lh hh h, fnO lm hm mine] wq) := Lib.hid Sq
            clear cP cQ Sp Sq SK hw0  yg0 yg1 yg2 yg3 yf0 yf1 yf2 yf3 zpg0 zpg1 zpg2 zpg3 zpf0 zpf1 zpf2 zpf3 zqg0 zqg1 zqg2 zqg3 zqf0 zqf1 zqf2 zqf3
            clear S11 xxf0 xxf1 xxf2 xxf3 xxv0 xxv1 xxv2
            have cSp : ∀ w, Stands W [(bw, [.string nm4, .slice pp4 pn4 pc4, .int .i64 rt4, .slice bp4 bn4 bc4]), (bg, [.string nm2, .slice pp2 pn2 pc2, .int .i64 rt2, .slice bp2 bn2 bc2]), (bh, [.string nm3, .slice pp3 pn3 pc3, .int .i64 rt3, .slice bp3 bn3 bc3]), (bm, [.string nm1, .slice pp1 pn1 pc1, .int .i64 rt1, .slice bp1 bn1 bc1]), (W.heap.size + 1, [.int .i64 vk, .int .i64 vn, .int .u64 vb]), (W.heap.size, [.string nm, .slice pp pn pc, .int .i64 rt, .slice bp bn bc])] [fnO lw hw want, fnO lg hg g, fnO lh hh h, fnO lm hm mine] w → Calls Try.prog 39 #[.agg #[.string nm2, .slice pp2 pn2 pc2, .int .i64 rt2, .slice bp2 bn2 bc2]] w fun e w' => e = .returned (.tuple #[]) ∧ Stands W [(bw, [.string nm4, .slice pp4 pn4 pc4, .int .i64 rt4, .slice bp4 bn4 bc4]), (bg, [.string nm2, .slice pp2 pn2 pc2, .int .i64 rt2, .slice bp2 bn2 bc2]), (bh, [.string nm3, .slice pp3 pn3 pc3, .int .i64 rt3, .slice bp3 bn3 bc3]), (bm, [.string nm1, .slice pp1 pn1 pc1, .int .i64 rt1, .slice bp1 bn1 bc1]), (W.heap.size + 1, [.int .i64 vk, .int .i64 vn, .int .u64 vb]), (W.heap.size, [.string nm, .slice pp pn pc, .int .i64 rt, .slice bp bn bc])] [fnO lw hw want, fnO lh hh h, fnO lm hm mine] w' := by
              intro w S
              have hspo := Spoil_own g lg hg w (S.own _ (.tail _ (.head _))).2.2.1 (S.own _ (.tail _ (.head _))).1
              rw [HGC.out] at hspo
              refine hspo.mono ?_
              rintro e w18 ⟨he, ho18⟩
              exact ⟨he, Stands.out (S.sub (fun x hx => hx) (fun x hx => by simp only [List.mem_cons, List.not_mem_nil, or_false] at hx ⊢; rcases hx with rfl | rfl | rfl <;> simp)) ho18 (by omega) (fun x hx => by simp only [List.mem_cons, List.not_mem_nil, or_false] at hx; rcases hx with rfl | rfl | rfl | rfl | rfl | rfl <;> simp only <;> omega) (fun x hx => by simp only [List.mem_cons, List.not_mem_nil, or_false] at hx; rcases hx with rfl | rfl | rfl <;> simp only [fnO] <;> omega)⟩
            have S18 := HS18.out
            have kg0 := S18.get (b := bg) (.tail _ (.head _)) 0 _ rfl
            have kg1 := S18.get (b := bg) (.tail _ (.head _)) 1 _ rfl
            have kg2 := S18.get (b := bg) (.tail _ (.head _)) 2 _ rfl
            have kg3 := S18.get (b := bg) (.tail _ (.head _)) 3 _ rfl
            clear S18
            go_wp2_with fail
            refine (cSp _ ?pre).mono ?_
            case pre => first | exact HS18.out | exact Stands.drew HS18.out | exact Stands.drewN HS18.out _
            clear cSp
            rintro e w18 ⟨rfl, S19⟩
            have hmo := (S19.own _ (.tail _ (.tail _ (.head _)))).1
            have hmz := (S19.own _ (.tail _ (.tail _ (.head _)))).2.2.1
            have hspm := Spoil_own mine lm hm _ hmz hmo
            rw [HMC.out] at hspm
            have jm0 := S19.get (b := bm) (.tail _ (.tail _ (.tail _ (.head _)))) 0 _ rfl
            have jm1 := S19.get (b := bm) (.tail _ (.tail _ (.tail _ (.head _)))) 1 _ rfl
            have jm2 := S19.get (b := bm) (.tail _ (.tail _ (.tail _ (.head _)))) 2 _ rfl
            have jm3 := S19.get (b := bm) (.tail _ (.tail _ (.tail _ (.head _)))) 3 _ rfl
            have HS19 := Lib.hid S19
            clear S19 hmo hmz HS18 kg0 kg1 kg2 kg3
            go_wp2_with fail
            refine hspm.mono ?_
            clear hspm
            rintro e w19 ⟨rfl, ho19⟩
            have S20 : Stands W [(bw, [.string nm4, .slice pp4 pn4 pc4, .int .i64 rt4, .slice bp4 bn4 bc4]), (bg, [.string nm2, .slice pp2 pn2 pc2, .int .i64 rt2, .slice bp2 bn2 bc2]), (bh, [.string nm3, .slice pp3 pn3 pc3, .int .i64 rt3, .slice bp3 bn3 bc3]), (bm, [.string nm1, .slice pp1 pn1 pc1, .int .i64 rt1, .slice bp1 bn1 bc1]), (W.heap.size + 1, [.int .i64 vk, .int .i64 vn, .int .u64 vb]), (W.heap.size, [.string nm, .slice pp pn pc, .int .i64 rt, .slice bp bn bc])] [fnO lw hw want, fnO lh hh h] w19 := Stands.out (HS19.out.sub (fun x hx => hx) (fun x hx => by simp only [List.mem_cons, List.not_mem_nil, or_false] at hx ⊢; rcases hx with rfl | rfl <;> simp)) ho19 (by omega) (fun x hx => by simp only [List.mem_cons, List.not_mem_nil, or_false] at hx; rcases hx with rfl | rfl | rfl | rfl | rfl | rfl <;> simp only <;> omega) (fun x hx => by simp only [List.mem_cons, List.not_mem_nil, or_false] at hx; rcases hx with rfl | rfl <;> simp only [fnO] <;> omega)
            have hc := Funcs_any w19 h want (S20.fn (a := lh) (b := hh) (.tail _ (.head _))) (S20.fn (a := lw) (b := hw) (.head _))
            rw [HHC.out, HWC.out] at hc
            have ih0 := S20.get (b := bh) (.tail _ (.tail _ (.head _))) 0 _ rfl
            have ih1 := S20.get (b := bh) (.tail _ (.tail _ (.head _))) 1 _ rfl
            have ih2 := S20.get (b := bh) (.tail _ (.tail _ (.head _))) 2 _ rfl
            have ih3 := S20.get (b := bh) (.tail _ (.tail _ (.head _))) 3 _ rfl
            have iw0 := S20.get (b := bw) (.head _) 0 _ rfl
            have iw1 := S20.get (b := bw) (.head _) 1 _ rfl
            have iw2 := S20.get (b := bw) (.head _) 2 _ rfl
            have iw3 := S20.get (b := bw) (.head _) 3 _ rfl
            have HS20 := Lib.hid S20
            clear S20 ho19 jm0 jm1 jm2 jm3
            go_wp2_with fail
            refine hc.mono ?_
            clear hc
            rintro e w20 ⟨b, rfl, hb, hb20⟩
            obtain rfl := hb.2 (HDH.out.trans HDW.out.symm)
            clear hb
            go_wp2_with fail
            go_ret
            exact ⟨rfl, (HS20.out.later hb20).past.2⟩

end Go.Proofs.Ytpfeiolmkbibiaa
