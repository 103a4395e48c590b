/- The law IrCopies: its walk. -/
import Derived.Test.YtpfeiolmkbibiaaRepA
import Derived.Test.YtpfeiolmkbibiaaModA
import Derived.Test.YtpfeiolmkbibiaaModB
import Derived.Test.YtpfeiolmkbibiaaModC
import Derived.Test.YtpfeiolmkbibiaaSpoA
import Derived.Deep.DeepCutAuto
namespace Go.Proofs.Ytpfeiolmkbibiaa
open Go.RowKit Go.Maps
set_option linter.unusedVariables false
set_option linter.unusedSimpArgs false

theorem Stands.box3 {W w : World} {R : List (Nat × List Value)} {O : List Owned} (h : Stands W R O w) {g : Nat} (hg : g = w.heap.size) (cs : List Value) (t : TypeId) : Stands W ((g, cs) :: R) O (w.alloc (.cells cs.toArray t)) := by
  subst hg; exact h.put cs t
abbrev zM : List Value := [.slice none 0 0, .slice none 0 0, .slice none 0 0]
theorem Stands.bm {W w : World} {R : List (Nat × List Value)} {O : List Owned} (S : Stands W R O w) {b : Nat} (h : (b, zM) ∈ R) : Box b zM w := S.box _ h
/-- Two modules alike, in boxes, each in memory of its own. -/
def TwoM (W : World) (D : PMod) (N0 : Nat) (R : List (Nat × List Value)) (O : List Owned) (s t : Value) (w : World) : Prop :=
  ∃ bg bh lg hg lh hh g h, s = .pointer (some ⟨bg, 0, none⟩) ∧ t = .pointer (some ⟨bh, 0, none⟩) ∧ modD g = D ∧ modD h = D ∧ Stands W ((bg, modC g) :: (bh, modC h) :: R) (modO lg hg g :: modO lh hh h :: O) w ∧
    N0 ≤ lg ∧ N0 ≤ lh ∧ (hg ≤ lh ∨ hh ≤ lg) ∧ (bg < lg ∨ hg ≤ bg) ∧ (bg < lh ∨ hh ≤ bg) ∧ (bh < lg ∨ hg ≤ bh) ∧ (bh < lh ∨ hh ≤ bh) ∧ bg ≠ bh ∧ N0 ≤ bg ∧ N0 ≤ bh
theorem twoM_mk {W w : World} {R : List (Nat × List Value)} {O : List Owned} {N0 : Nat} {D : PMod} {bg bh lg hg lh hh : Nat} {g h : LMod} (dg : modD g = D) (dh : modD h = D)
    (S : Stands W R (modO lg hg g :: modO lh hh h :: O) w) (B1 : Box bg (modC g) w) (B2 : Box bh (modC h) w)
    (n : N0 ≤ lg ∧ N0 ≤ lh ∧ (hg ≤ lh ∨ hh ≤ lg) ∧ (bg < lg ∨ hg ≤ bg) ∧ (bg < lh ∨ hh ≤ bg) ∧ (bh < lg ∨ hg ≤ bh) ∧ (bh < lh ∨ hh ≤ bh) ∧ bg ≠ bh ∧ N0 ≤ bg ∧ N0 ≤ bh) :
    TwoM W D N0 R O (.pointer (some ⟨bg, 0, none⟩)) (.pointer (some ⟨bh, 0, none⟩)) w := by
  refine ⟨bg, bh, lg, hg, lh, hh, g, h, rfl, rfl, dg, dh, ⟨S.past, fun x hx => ?_, S.own⟩, n⟩
  rcases List.mem_cons.1 hx with rfl | hx
  · exact B1
  rcases List.mem_cons.1 hx with rfl | hx
  · exact B2
  · exact S.box x hx
/-- A block that is nobody's. -/
def FreeM (W : World) (R : List (Nat × List Value)) (O : List Owned) (b : Nat) : Prop := W.heap.size ≤ b ∧ (∀ x ∈ R, x.1 ≠ b) ∧ ∀ x ∈ O, x.2.1 ≤ b ∨ b < x.1
theorem Stands.setM {W w : World} {R : List (Nat × List Value)} {O : List Owned} {b i : Nat} {v : Value} (h : Stands W R O w) (hf : FreeM W R O b) : Stands W R O (w.setCell ⟨b, i, none⟩ v) := by
  obtain ⟨h1, h2, h3⟩ := hf
  have ho : Out b (b + 1) w (w.setCells b i [v]) := out_setCells (Nat.le_refl _) (Nat.lt_succ_self _) [v] i w
  exact h.out ho h1 (fun x hx => by have := h2 x hx; omega) (fun x hx => by have := h3 x hx; omega)
theorem Box.fill3 {b : Nat} {x0 x1 x2 a0 a1 a2 : Value} {w : World} (h : Box b [x0, x1, x2] w) : Box b [a0, a1, a2] (((w.setCell ⟨b, 0, none⟩ a0).setCell ⟨b, 1, none⟩ a1).setCell ⟨b, 2, none⟩ a2) :=
  ((h.set 0 a0).set 1 a1).set 2 a2
theorem Box.fresh3 (w : World) {g : Nat} (hg : g = w.heap.size) (a b c : Value) (t : TypeId) : Box g [a, b, c] (w.alloc (.cells #[a, b, c] t)) := Box.new w hg [a, b, c] t
theorem Box.else3 {g b : Nat} {cs : List Value} {a0 a1 a2 : Value} {w : World} (h : Box g cs w) (hd : b ≠ g) : Box g cs (((w.setCell ⟨b, 0, none⟩ a0).setCell ⟨b, 1, none⟩ a1).setCell ⟨b, 2, none⟩ a2) :=
  ((h.other hd 0 a0).other hd 1 a1).other hd 2 a2

set_option maxRecDepth 100000 in
set_option maxHeartbeats 8000000 in
theorem irCopies_walk (W : World) (ma mb : LMod) (h : ModIn W.heap.size W ma) (h' : ModIn W.heap.size W mb) (hz : modZ (modD ma) ≤ 1048576) (hz' : modZ (modD mb) ≤ 1048576) :
    Calls Try.prog 4 #[.agg (modC ma).toArray, .agg (modC mb).toArray] W fun e w' => e = .returned (.bool true) ∧ Below W.heap.size W w' := by
  have cl := lives_any
  obtain ⟨vpa, vna, vca, vsa, xpa, xna, xca, xsa, fpa, fna, fca, fsa⟩ := ma
  obtain ⟨vpb, vnb, vcb, vsb, xpb, xnb, xcb, xsb, fpb, fnb, fcb, fsb⟩ := mb
  show Calls Try.prog 4 #[.agg #[.slice vpa vna vca, .slice xpa xna xca, .slice fpa fna fca], .agg #[.slice vpb vnb vcb, .slice xpb xnb xcb, .slice fpb fnb fcb]] W _
  have S0 : Stands W [(W.heap.size + 1, [.slice vpb vnb vcb, .slice xpb xnb xcb, .slice fpb fnb fcb]), (W.heap.size, [.slice vpa vna vca, .slice xpa xna xca, .slice fpa fna fca])] [] ((W.alloc (.cells #[.slice vpa vna vca, .slice xpa xna xca, .slice fpa fna fca] 34)).alloc (.cells #[.slice vpb vnb vcb, .slice xpb xnb xcb, .slice fpb fnb fcb] 34)) := ((Stands.start W).box3 rfl [.slice vpa vna vca, .slice xpa xna xca, .slice fpa fna fca] 34).box3 (by simp) [.slice vpb vnb vcb, .slice xpb xnb xcb, .slice fpb fnb fcb] 34
  obtain ⟨ma, ea⟩ : ∃ m : LMod, m = ⟨vpa, vna, vca, vsa, xpa, xna, xca, xsa, fpa, fna, fca, fsa⟩ := ⟨_, rfl⟩
  rw [← ea] at h hz
  have HAC : Hid (modC ma = [.slice vpa vna vca, .slice xpa xna xca, .slice fpa fna fca]) := Lib.hid (by rw [ea]; rfl)
  obtain ⟨mb, eb⟩ : ∃ m : LMod, m = ⟨vpb, vnb, vcb, vsb, xpb, xnb, xcb, xsb, fpb, fnb, fcb, fsb⟩ := ⟨_, rfl⟩
  rw [← eb] at h' hz'
  have HBC : Hid (modC mb = [.slice vpb vnb vcb, .slice xpb xnb xcb, .slice fpb fnb fcb]) := Lib.hid (by rw [eb]; rfl)
  have HA := Lib.hid h
  have HB := Lib.hid h'
  have HZ := Lib.hid hz
  clear h h' hz hz' ea eb
  go_enter Try.func4, Try.ntmps4
  go_wp2_with fail
  refine (cl _).mono ?_
  rintro e w1 ⟨rfl, hb1⟩
  have S1 := S0.later hb1
  clear hb1 cl S0
  have xa0 := S1.get (b := W.heap.size) (.tail _ (.head _)) 0 _ rfl
  have xb0 := S1.get (b := W.heap.size + 1) (.head _) 0 _ rfl
  have xa1 := S1.get (b := W.heap.size) (.tail _ (.head _)) 1 _ rfl
  have xb1 := S1.get (b := W.heap.size + 1) (.head _) 1 _ rfl
  have xa2 := S1.get (b := W.heap.size) (.tail _ (.head _)) 2 _ rfl
  have xb2 := S1.get (b := W.heap.size + 1) (.head _) 2 _ rfl
  have HS1 := Lib.hid S1
  clear S1
  go_wp2_with fail
  have hf := Few_any ma 20000 w1 (HS1.out.argM HA.out)
  rw [HAC.out] at hf
  refine hf.mono ?_
  rintro e w2 ⟨bf, rfl, hb2⟩
  have HS2 := Lib.hid (HS1.out.later hb2)
  clear hf hb2 HS1 xa0 xb0 xa1 xb1 xa2 xb2
  cases bf
  · go_wp2
    go_ret
    exact ⟨rfl, HS2.out.past.2⟩
  have xa0 := HS2.out.get (b := W.heap.size) (.tail _ (.head _)) 0 _ rfl
  have xb0 := HS2.out.get (b := W.heap.size + 1) (.head _) 0 _ rfl
  have xa1 := HS2.out.get (b := W.heap.size) (.tail _ (.head _)) 1 _ rfl
  have xb1 := HS2.out.get (b := W.heap.size + 1) (.head _) 1 _ rfl
  have xa2 := HS2.out.get (b := W.heap.size) (.tail _ (.head _)) 2 _ rfl
  have xb2 := HS2.out.get (b := W.heap.size + 1) (.head _) 2 _ rfl
  go_wp2_with fail
  have hf := Few_any mb 20000 w2 (HS2.out.argM HB.out)
  rw [HBC.out] at hf
  refine hf.mono ?_
  rintro e w3 ⟨bf, rfl, hb3⟩
  have HS3 := Lib.hid (HS2.out.later hb3)
  clear hf hb3 HS2 xa0 xb0 xa1 xb1 xa2 xb2
  cases bf
  · go_wp2
    go_ret
    exact ⟨rfl, HS3.out.past.2⟩
  have S3 := HS3.out
  obtain ⟨B, hB⟩ : ∃ B : Bool, (B = true ↔ modD ma = modD mb) := by
    by_cases q : modD ma = modD mb
    · exact ⟨true, by simpa using q⟩
    · exact ⟨false, by simpa using q⟩
  have HBB := Lib.hid hB
  clear hB
  have cA : ∀ w, Stands W [(W.heap.size + 1, [.slice vpb vnb vcb, .slice xpb xnb xcb, .slice fpb fnb fcb]), (W.heap.size, [.slice vpa vna vca, .slice xpa xna xca, .slice fpa fna fca])] [] w → Calls Try.prog 20 #[.agg #[.slice vpa vna vca, .slice xpa xna xca, .slice fpa fna fca], .agg #[.slice vpb vnb vcb, .slice xpb xnb xcb, .slice fpb fnb fcb]] w fun e w' => e = .returned (.bool B) ∧ Stands W [(W.heap.size + 1, [.slice vpb vnb vcb, .slice xpb xnb xcb, .slice fpb fnb fcb]), (W.heap.size, [.slice vpa vna vca, .slice xpa xna xca, .slice fpa fna fca])] [] w' := by
    intro w S
    have hc := Same_any ma mb w (S.argM HA.out) (S.argM HB.out)
    rw [HAC.out, HBC.out] at hc
    exact hc.mono fun e w' ⟨b, he, hb, hbe⟩ => ⟨by rw [he, show b = B from Bool.eq_iff_iff.2 (hb.trans HBB.out.symm)], S.later hbe⟩
  have cB : ∀ w, Stands W [(W.heap.size + 1, [.slice vpb vnb vcb, .slice xpb xnb xcb, .slice fpb fnb fcb]), (W.heap.size, [.slice vpa vna vca, .slice xpa xna xca, .slice fpa fna fca])] [] w → Calls Try.prog 21 #[.agg #[.slice vpa vna vca, .slice xpa xna xca, .slice fpa fna fca], .agg #[.slice vpb vnb vcb, .slice xpb xnb xcb, .slice fpb fnb fcb]] w fun e w' => e = .returned (.bool B) ∧ Stands W [(W.heap.size + 1, [.slice vpb vnb vcb, .slice xpb xnb xcb, .slice fpb fnb fcb]), (W.heap.size, [.slice vpa vna vca, .slice xpa xna xca, .slice fpa fna fca])] [] w' := by
    intro w S
    have hc := rSame_any ma mb w (S.argM HA.out) (S.argM HB.out)
    rw [HAC.out, HBC.out] at hc
    exact hc.mono fun e w' ⟨b, he, hb, hbe⟩ => ⟨by rw [he, show b = B from Bool.eq_iff_iff.2 (hb.trans HBB.out.symm)], S.later hbe⟩
  have cC : ∀ w, Stands W [(W.heap.size + 1, [.slice vpb vnb vcb, .slice xpb xnb xcb, .slice fpb fnb fcb]), (W.heap.size, [.slice vpa vna vca, .slice xpa xna xca, .slice fpa fna fca])] [] w → Calls Try.prog 22 #[.agg #[.slice vpa vna vca, .slice xpa xna xca, .slice fpa fna fca]] w fun e w' => ∃ vp5 vn5 vc5 vs5 xp5 xn5 xc5 xs5 fp5 fn5 fc5 fs5, e = .returned (.agg #[.slice vp5 vn5 vc5, .slice xp5 xn5 xc5, .slice fp5 fn5 fc5]) ∧ Hid (modD ⟨vp5, vn5, vc5, vs5, xp5, xn5, xc5, xs5, fp5, fn5, fc5, fs5⟩ = modD ma) ∧ Hid (ModIn w'.heap.size w' ⟨vp5, vn5, vc5, vs5, xp5, xn5, xc5, xs5, fp5, fn5, fc5, fs5⟩) ∧ Stands W [(W.heap.size + 1, [.slice vpb vnb vcb, .slice xpb xnb xcb, .slice fpb fnb fcb]), (W.heap.size, [.slice vpa vna vca, .slice xpa xna xca, .slice fpa fna fca])] [] w' := by
    intro w S
    have hc := rCopy_own ma w (S.argM HA.out) HZ.out
    rw [HAC.out] at hc
    refine hc.mono ?_
    rintro e w' ⟨y, he, hd, hp, ho⟩
    have hi := ho.lies (Nat.le_refl _)
    obtain ⟨vp5, vn5, vc5, vs5, xp5, xn5, xc5, xs5, fp5, fn5, fc5, fs5⟩ := y
    exact ⟨vp5, vn5, vc5, vs5, xp5, xn5, xc5, xs5, fp5, fn5, fc5, fs5, he, Lib.hid hd, Lib.hid hi, S.later hp.2⟩
  have cD : ∀ w vp5 vn5 vc5 vs5 xp5 xn5 xc5 xs5 fp5 fn5 fc5 fs5, Stands W [(W.heap.size + 1, [.slice vpb vnb vcb, .slice xpb xnb xcb, .slice fpb fnb fcb]), (W.heap.size, [.slice vpa vna vca, .slice xpa xna xca, .slice fpa fna fca])] [] w → modD ⟨vp5, vn5, vc5, vs5, xp5, xn5, xc5, xs5, fp5, fn5, fc5, fs5⟩ = modD ma → ModIn w.heap.size w ⟨vp5, vn5, vc5, vs5, xp5, xn5, xc5, xs5, fp5, fn5, fc5, fs5⟩ → Calls Try.prog 20 #[.agg #[.slice vpa vna vca, .slice xpa xna xca, .slice fpa fna fca], .agg #[.slice vp5 vn5 vc5, .slice xp5 xn5 xc5, .slice fp5 fn5 fc5]] w fun e w' => e = .returned (.bool true) ∧ Stands W [(W.heap.size + 1, [.slice vpb vnb vcb, .slice xpb xnb xcb, .slice fpb fnb fcb]), (W.heap.size, [.slice vpa vna vca, .slice xpa xna xca, .slice fpa fna fca])] [] w' := by
    intro w vp5 vn5 vc5 vs5 xp5 xn5 xc5 xs5 fp5 fn5 fc5 fs5 S hd hi
    have hc := Same_any ma ⟨vp5, vn5, vc5, vs5, xp5, xn5, xc5, xs5, fp5, fn5, fc5, fs5⟩ w (S.argM HA.out) hi
    rw [HAC.out] at hc
    exact hc.mono fun e w' ⟨b, he, hb, hbe⟩ => ⟨by rw [he, hb.2 hd.symm], S.later hbe⟩
  have xa0 := S3.get (b := W.heap.size) (.tail _ (.head _)) 0 _ rfl
  have xb0 := S3.get (b := W.heap.size + 1) (.head _) 0 _ rfl
  have xa1 := S3.get (b := W.heap.size) (.tail _ (.head _)) 1 _ rfl
  have xb1 := S3.get (b := W.heap.size + 1) (.head _) 1 _ rfl
  have xa2 := S3.get (b := W.heap.size) (.tail _ (.head _)) 2 _ rfl
  have xb2 := S3.get (b := W.heap.size + 1) (.head _) 2 _ rfl
  go_wp2_with fail
  go_region_held3 (fun w' => w'.cell? ⟨W.heap.size, 0, none⟩ = some (.slice vpa vna vca) ∧ w'.cell? ⟨W.heap.size, 1, none⟩ = some (.slice xpa xna xca) ∧ w'.cell? ⟨W.heap.size, 2, none⟩ = some (.slice fpa fna fca) ∧ w'.cell? ⟨W.heap.size + 1, 0, none⟩ = some (.slice vpb vnb vcb) ∧ w'.cell? ⟨W.heap.size + 1, 1, none⟩ = some (.slice xpb xnb xcb) ∧ w'.cell? ⟨W.heap.size + 1, 2, none⟩ = some (.slice fpb fnb fcb) ∧ Stands W [(W.heap.size + 1, [.slice vpb vnb vcb, .slice xpb xnb xcb, .slice fpb fnb fcb]), (W.heap.size, [.slice vpa vna vca, .slice xpa xna xca, .slice fpa fna fca])] [] w')
    (((try dsimp only); (repeat' apply And.intro) <;> (first | (with_reducible assumption) | (rw [World.cell?_drew]; with_reducible assumption) | (with_reducible apply Stands.drew; with_reducible assumption))))
    (first
      | ((with_reducible refine (cA _ ?pre).mono ?_)
         case pre => (first | (with_reducible assumption) | (with_reducible apply Stands.drew; with_reducible assumption))
         rintro e wa ⟨rfl, Sa⟩
         have pa0 := Sa.get (b := W.heap.size) (.tail _ (.head _)) 0 _ rfl
         have pb0 := Sa.get (b := W.heap.size + 1) (.head _) 0 _ rfl
         have pa1 := Sa.get (b := W.heap.size) (.tail _ (.head _)) 1 _ rfl
         have pb1 := Sa.get (b := W.heap.size + 1) (.head _) 1 _ rfl
         have pa2 := Sa.get (b := W.heap.size) (.tail _ (.head _)) 2 _ rfl
         have pb2 := Sa.get (b := W.heap.size + 1) (.head _) 2 _ rfl)
      | ((with_reducible refine (cB _ ?pre).mono ?_)
         case pre => (first | (with_reducible assumption) | (with_reducible apply Stands.drew; with_reducible assumption))
         rintro e wb ⟨rfl, Sb⟩
         have qa0 := Sb.get (b := W.heap.size) (.tail _ (.head _)) 0 _ rfl
         have qb0 := Sb.get (b := W.heap.size + 1) (.head _) 0 _ rfl
         have qa1 := Sb.get (b := W.heap.size) (.tail _ (.head _)) 1 _ rfl
         have qb1 := Sb.get (b := W.heap.size + 1) (.head _) 1 _ rfl
         have qa2 := Sb.get (b := W.heap.size) (.tail _ (.head _)) 2 _ rfl
         have qb2 := Sb.get (b := W.heap.size + 1) (.head _) 2 _ rfl)
      | ((with_reducible refine (cC _ ?pre).mono ?_)
         case pre => (first | (with_reducible assumption) | (with_reducible apply Stands.drew; with_reducible assumption))
         rintro e wC ⟨vp5, vn5, vc5, vs5, xp5, xn5, xc5, xs5, fp5, fn5, fc5, fs5, rfl, HD5, HI5, Sc⟩
         have ra0 := Sc.get (b := W.heap.size) (.tail _ (.head _)) 0 _ rfl
         have rb0 := Sc.get (b := W.heap.size + 1) (.head _) 0 _ rfl
         have ra1 := Sc.get (b := W.heap.size) (.tail _ (.head _)) 1 _ rfl
         have rb1 := Sc.get (b := W.heap.size + 1) (.head _) 1 _ rfl
         have ra2 := Sc.get (b := W.heap.size) (.tail _ (.head _)) 2 _ rfl
         have rb2 := Sc.get (b := W.heap.size + 1) (.head _) 2 _ rfl)
      | ((with_reducible refine (cD _ _ _ _ _ _ _ _ _ _ _ _ _ ?pre HD5.out ?pre2).mono ?_)
         case pre => (first | (with_reducible assumption) | (with_reducible apply Stands.drew; with_reducible assumption))
         case pre2 => exact HI5.out
         rintro e wd ⟨rfl, Sd⟩
         have sa0 := Sd.get (b := W.heap.size) (.tail _ (.head _)) 0 _ rfl
         have sb0 := Sd.get (b := W.heap.size + 1) (.head _) 0 _ rfl
         have sa1 := Sd.get (b := W.heap.size) (.tail _ (.head _)) 1 _ rfl
         have sb1 := Sd.get (b := W.heap.size + 1) (.head _) 1 _ rfl
         have sa2 := Sd.get (b := W.heap.size) (.tail _ (.head _)) 2 _ rfl
         have sb2 := Sd.get (b := W.heap.size + 1) (.head _) 2 _ rfl))
  have HS6 := Lib.hid Sd
  clear xa0 xb0 xa1 xb1 xa2 xb2 pa0 pb0 pa1 pb1 pa2 pb2 qa0 qb0 qa1 qb1 qa2 qb2 ra0 rb0 ra1 rb1 ra2 rb2 sa0 sb0 sa1 sb1 sa2 sb2 Sa Sb Sc Sd S3 cA cB cC cD HD5 HI5 HS3 HBB
  have xa0 := HS6.out.get (b := W.heap.size) (.tail _ (.head _)) 0 _ rfl
  have xb0 := HS6.out.get (b := W.heap.size + 1) (.head _) 0 _ rfl
  have xa1 := HS6.out.get (b := W.heap.size) (.tail _ (.head _)) 1 _ rfl
  have xb1 := HS6.out.get (b := W.heap.size + 1) (.head _) 1 _ rfl
  have xa2 := HS6.out.get (b := W.heap.size) (.tail _ (.head _)) 2 _ rfl
  have xb2 := HS6.out.get (b := W.heap.size + 1) (.head _) 2 _ rfl
  go_wp2_with fail
  have hcr := rCopy_own ma wd (HS6.out.argM HA.out) HZ.out
  rw [HAC.out] at hcr
  refine hcr.mono ?_
  rintro e w7 ⟨mine, he, hdm, hp7, hom⟩
  clear hcr xa0 xb0 xa1 xb1 xa2 xb2
  obtain ⟨vp1, vn1, vc1, vs1, xp1, xn1, xc1, xs1, fp1, fn1, fc1, fs1⟩ := mine
  obtain rfl : e = .returned (.agg #[.slice vp1 vn1 vc1, .slice xp1 xn1 xc1, .slice fp1 fn1 fc1]) := he
  obtain ⟨mine, em⟩ : ∃ m : LMod, m = ⟨vp1, vn1, vc1, vs1, xp1, xn1, xc1, xs1, fp1, fn1, fc1, fs1⟩ := ⟨_, rfl⟩
  rw [← em] at hdm hom
  have HMC : Hid (modC mine = [.slice vp1 vn1 vc1, .slice xp1 xn1 xc1, .slice fp1 fn1 fc1]) := Lib.hid (by rw [em]; rfl)
  have HDM := Lib.hid hdm
  have S5 : Stands W [(w7.heap.size, [.slice vp1 vn1 vc1, .slice xp1 xn1 xc1, .slice fp1 fn1 fc1]), (W.heap.size + 1, [.slice vpb vnb vcb, .slice xpb xnb xcb, .slice fpb fnb fcb]), (W.heap.size, [.slice vpa vna vca, .slice xpa xna xca, .slice fpa fna fca])] [modO wd.heap.size w7.heap.size mine] (w7.alloc (.cells #[.slice vp1 vn1 vc1, .slice xp1 xn1 xc1, .slice fp1 fn1 fc1] 34)) := (HS6.out.moreM hp7 hom).box3 rfl [.slice vp1 vn1 vc1, .slice xp1 xn1 xc1, .slice fp1 fn1 fc1] 34
  have hn1 : W.heap.size + 1 < wd.heap.size := HS6.out.lt (.head _)
  have hn2 := hp7.2.size
  have hn3 : w7.heap.size < (w7.alloc (.cells #[.slice vp1 vn1 vc1, .slice xp1 xn1 xc1, .slice fp1 fn1 fc1] 34)).heap.size := by simp
  have HS5 := Lib.hid S5
  clear S5 em hdm hom hp7 HS6
  obtain ⟨lm, elm⟩ : ∃ lm, wd.heap.size = lm := ⟨_, rfl⟩
  rw [elm] at HS5 hn1 hn2
  clear elm
  go_upto_region 8 with fail
  obtain ⟨w5, ew5⟩ : ∃ w5, w7.alloc (.cells #[.slice vp1 vn1 vc1, .slice xp1 xn1 xc1, .slice fp1 fn1 fc1] 34) = w5 := ⟨_, rfl⟩
  rw [ew5] at HS5 hn3 ⊢
  clear ew5
  obtain ⟨bm, ebm⟩ : ∃ bm, w7.heap.size = bm := ⟨_, rfl⟩
  simp only [ebm] at HS5 hn2 hn3 ⊢
  clear ebm
  obtain ⟨hm, ehm⟩ : ∃ hm, hm = bm := ⟨_, rfl⟩
  have HS6 : Hid (Stands W [(bm, [.slice vp1 vn1 vc1, .slice xp1 xn1 xc1, .slice fp1 fn1 fc1]), (W.heap.size + 1, [.slice vpb vnb vcb, .slice xpb xnb xcb, .slice fpb fnb fcb]), (W.heap.size, [.slice vpa vna vca, .slice xpa xna xca, .slice fpa fna fca])] [modO lm hm mine] w5) := Lib.hid (by rw [ehm]; exact HS5.out)
  have hm1 : hm ≤ bm := Nat.le_of_eq ehm
  clear HS5 ehm
  obtain ⟨D, hD⟩ : ∃ D, modD ma = D := ⟨_, rfl⟩
  have HDD := Lib.hid hD
  have HN3 := Lib.hid hn3
  clear hD hn3
  go_cut [6, 7] (fun s6 s7 wx => TwoM W D w5.heap.size [(bm, [.slice vp1 vn1 vc1, .slice xp1 xn1 xc1, .slice fp1 fn1 fc1]), (W.heap.size + 1, [.slice vpb vnb vcb, .slice xpb xnb xcb, .slice fpb fnb fcb]), (W.heap.size, [.slice vpa vna vca, .slice xpa xna xca, .slice fpa fna fca])] [modO lm hm mine] s6 s7 wx)
  case first =>
    have S5 := HS6.out
    have hcR : ∀ w O, modO lm hm mine ∈ O → Stands W [(bm, [.slice vp1 vn1 vc1, .slice xp1 xn1 xc1, .slice fp1 fn1 fc1]), (W.heap.size + 1, [.slice vpb vnb vcb, .slice xpb xnb xcb, .slice fpb fnb fcb]), (W.heap.size, [.slice vpa vna vca, .slice xpa xna xca, .slice fpa fna fca])] O w → Calls Try.prog 23 #[.agg #[.slice vp1 vn1 vc1, .slice xp1 xn1 xc1, .slice fp1 fn1 fc1]] w fun e w' => ∃ vp9 vn9 vc9 vs9 xp9 xn9 xc9 xs9 fp9 fn9 fc9 fs9 lo hi, e = .returned (.agg #[.slice vp9 vn9 vc9, .slice xp9 xn9 xc9, .slice fp9 fn9 fc9]) ∧ modD ⟨vp9, vn9, vc9, vs9, xp9, xn9, xc9, xs9, fp9, fn9, fc9, fs9⟩ = D ∧ Past w.heap.size w w' ∧ ModOwn w.heap.size w'.heap.size w' ⟨vp9, vn9, vc9, vs9, xp9, xn9, xc9, xs9, fp9, fn9, fc9, fs9⟩ ∧ Stands W [(bm, [.slice vp1 vn1 vc1, .slice xp1 xn1 xc1, .slice fp1 fn1 fc1]), (W.heap.size + 1, [.slice vpb vnb vcb, .slice xpb xnb xcb, .slice fpb fnb fcb]), (W.heap.size, [.slice vpa vna vca, .slice xpa xna xca, .slice fpa fna fca])] (modO lo hi ⟨vp9, vn9, vc9, vs9, xp9, xn9, xc9, xs9, fp9, fn9, fc9, fs9⟩ :: O) w' ∧ w.heap.size ≤ lo ∧ lo ≤ hi ∧ hi ≤ w'.heap.size := by
      intro w O hO S
      have hc := Copy_own mine w (S.mod hO) (by rw [HDM.out]; exact HZ.out)
      rw [HMC.out, HDM.out, HDD.out] at hc
      refine hc.mono ?_
      rintro e w' ⟨y, he, hd, hp, ho⟩
      have S' := S.moreM hp ho
      obtain ⟨vp9, vn9, vc9, vs9, xp9, xn9, xc9, xs9, fp9, fn9, fc9, fs9⟩ := y
      exact ⟨vp9, vn9, vc9, vs9, xp9, xn9, xc9, xs9, fp9, fn9, fc9, fs9, _, _, he, hd, hp, ho, S', Nat.le_refl _, hp.2.size, Nat.le_refl _⟩
    have x0 := S5.get (b := bm) (.head _) 0 _ rfl
    have x1 := S5.get (b := bm) (.head _) 1 _ rfl
    have x2 := S5.get (b := bm) (.head _) 2 _ rfl
    have lb5 := S5.lt (b := bm) (.head _)
    have lv5 := S5.lt (b := W.heap.size + 1) (.tail _ (.head _))
    go_region_held3 (fun w' => w'.cell? ⟨bm, 0, none⟩ = some (.slice vp1 vn1 vc1) ∧ w'.cell? ⟨bm, 1, none⟩ = some (.slice xp1 xn1 xc1) ∧ w'.cell? ⟨bm, 2, none⟩ = some (.slice fp1 fn1 fc1))
      (((try dsimp only); (repeat' apply And.intro) <;> ((repeat (first | rw [World.cell?_drew] | rw [World.cell?_alloc_past _ _ _ (by first | omega | (simp <;> omega) | (dsimp only; omega) | (dsimp only; simp <;> omega))] | rw [World.cell?_setCell_far _ _ _ _ (by dsimp only; first | omega | (simp <;> omega))])); with_reducible assumption)))
      (first
        | (fail_if_success (have := M1)
           (with_reducible refine (hcR _ [modO lm hm mine] (List.mem_singleton.2 rfl) ?pre).mono ?_)
           case pre => (repeat (first | (with_reducible exact S5) | (with_reducible apply Stands.drew) | (with_reducible apply Stands.alloc)))
           rintro e w6 ⟨vp6, vn6, vc6, vs6, xp6, xn6, xc6, xs6, fp6, fn6, fc6, fs6, lo6, hi6, rfl, hd6, hp6, ho6, T6, hlo6, hlh6, hhi6⟩
           have M1 : True := trivial
           have S6 : Stands W _ _ w6 := Stands.moreM (by repeat (first | (with_reducible exact S5) | (with_reducible apply Stands.drew) | (with_reducible apply Stands.put))) hp6 ho6
           have a0 := T6.get (b := bm) (.head _) 0 _ rfl
           have a1 := T6.get (b := bm) (.head _) 1 _ rfl
           have a2 := T6.get (b := bm) (.head _) 2 _ rfl
           have hz6 := hp6.2.size
           try simp only [World.size_alloc, World.size_drew] at hz6 hlo6
           have hnum1 : w5.heap.size ≤ lo6 := by omega
           have lb6 := T6.lt (b := bm) (.head _)
           try (obtain P0 : Box w5.heap.size zM w6
                focus (apply Stands.bm S6; simp; done)
                rename_i P0
                have p0_s := P0.1
                have p0_f := P0.2.1
                have p0_0 := P0.get 0 _ rfl
                have p0_1 := P0.get 1 _ rfl
                have p0_2 := P0.get 2 _ rfl)
           try (obtain P1 : Box (w5.heap.size + 1) zM w6
                focus (apply Stands.bm S6; simp; done)
                rename_i P1
                have p1_s := P1.1
                have p1_f := P1.2.1
                have p1_0 := P1.get 0 _ rfl
                have p1_1 := P1.get 1 _ rfl
                have p1_2 := P1.get 2 _ rfl))
        | ((with_reducible refine (hcR _ (modO lo6 hi6 ⟨vp6, vn6, vc6, vs6, xp6, xn6, xc6, xs6, fp6, fn6, fc6, fs6⟩ :: [modO lm hm mine]) (List.mem_cons_of_mem _ (List.mem_singleton.2 rfl)) ?pre).mono ?_)
           case pre => (repeat (first | (with_reducible exact T6) | (with_reducible apply Stands.drew) | (with_reducible apply Stands.alloc)))
           rintro e w7 ⟨vp7, vn7, vc7, vs7, xp7, xn7, xc7, xs7, fp7, fn7, fc7, fs7, lo7, hi7, rfl, hd7, hp7, ho7, T7, hlo7, hlh7, hhi7⟩
           have S7 : Stands W _ _ w7 := Stands.moreM (by repeat (first | (with_reducible exact S6) | (with_reducible apply Stands.drew) | (with_reducible apply Stands.put))) hp7 ho7
           have hz7 := hp7.2.size
           try simp only [World.size_alloc, World.size_drew] at hz7 hlo7
           have hnum2 : w6.heap.size ≤ lo7 := by omega
           have lb7 := T7.lt (b := bm) (.head _)
           have b0 := T7.get (b := bm) (.head _) 0 _ rfl
           have b1 := T7.get (b := bm) (.head _) 1 _ rfl
           have b2 := T7.get (b := bm) (.head _) 2 _ rfl
           try (obtain Q0 : Box w5.heap.size zM w7
                focus (apply Stands.bm S7; simp; done)
                rename_i Q0
                have q0_s := Q0.1
                have q0_f := Q0.2.1
                have q0_0 := Q0.get 0 _ rfl
                have q0_1 := Q0.get 1 _ rfl
                have q0_2 := Q0.get 2 _ rfl)
           try (obtain Q1 : Box (w5.heap.size + 1) zM w7
                focus (apply Stands.bm S7; simp; done)
                rename_i Q1
                have q1_s := Q1.1
                have q1_f := Q1.2.1
                have q1_0 := Q1.get 0 _ rfl
                have q1_1 := Q1.get 1 _ rfl
                have q1_2 := Q1.get 2 _ rfl)
           try (obtain Q2 : Box w6.heap.size zM w7
                focus (apply Stands.bm S7; simp; done)
                rename_i Q2
                have q2_s := Q2.1
                have q2_f := Q2.2.1
                have q2_0 := Q2.get 0 _ rfl
                have q2_1 := Q2.get 1 _ rfl
                have q2_2 := Q2.get 2 _ rfl)
           try (obtain Q3 : Box (w6.heap.size + 1) zM w7
                focus (apply Stands.bm S7; simp; done)
                rename_i Q3
                have q3_s := Q3.1
                have q3_f := Q3.2.1
                have q3_0 := Q3.get 0 _ rfl
                have q3_1 := Q3.get 1 _ rfl
                have q3_2 := Q3.get 2 _ rfl)))
    all_goals (go_wp2_with fail; go_meet)
    all_goals
      have T7s : Stands W [(bm, [.slice vp1 vn1 vc1, .slice xp1 xn1 xc1, .slice fp1 fn1 fc1]), (W.heap.size + 1, [.slice vpb vnb vcb, .slice xpb xnb xcb, .slice fpb fnb fcb]), (W.heap.size, [.slice vpa vna vca, .slice xpa xna xca, .slice fpa fna fca])] (modO lo6 hi6 ⟨vp6, vn6, vc6, vs6, xp6, xn6, xc6, xs6, fp6, fn6, fc6, fs6⟩ :: modO lo7 hi7 ⟨vp7, vn7, vc7, vs7, xp7, xn7, xc7, xs7, fp7, fn7, fc7, fs7⟩ :: [modO lm hm mine]) w7 := T7.sub (fun x hx => hx) (fun x hx => by
        rcases List.mem_cons.1 hx with rfl | hx
        · exact .tail _ (.head _)
        rcases List.mem_cons.1 hx with rfl | hx
        · exact .head _
        · exact .tail _ (.tail _ hx))
      have hN3 := HN3.out
      have hfree : ∀ b, w5.heap.size ≤ b → (b < lo6 ∨ hi6 ≤ b) → (b < lo7 ∨ hi7 ≤ b) → FreeM W [(bm, [.slice vp1 vn1 vc1, .slice xp1 xn1 xc1, .slice fp1 fn1 fc1]), (W.heap.size + 1, [.slice vpb vnb vcb, .slice xpb xnb xcb, .slice fpb fnb fcb]), (W.heap.size, [.slice vpa vna vca, .slice xpa xna xca, .slice fpa fna fca])] (modO lo6 hi6 ⟨vp6, vn6, vc6, vs6, xp6, xn6, xc6, xs6, fp6, fn6, fc6, fs6⟩ :: modO lo7 hi7 ⟨vp7, vn7, vc7, vs7, xp7, xn7, xc7, xs7, fp7, fn7, fc7, fs7⟩ :: [modO lm hm mine]) b := fun b h1 h2 h3 => ⟨by omega, fun x hx => by
          simp only [List.mem_cons, List.not_mem_nil, or_false] at hx
          rcases hx with rfl | rfl | rfl <;> simp only <;> omega, fun x hx => by
          simp only [List.mem_cons, List.not_mem_nil, or_false] at hx
          rcases hx with rfl | rfl | rfl <;> simp only [modO] <;> omega⟩
      clear T7 T6 S6 S7 S5 hp6 hp7 ho6 ho7 hcR HS6
      have HFREE := Lib.hid hfree
      clear hfree
      with_reducible refine twoM_mk (lg := lo6) (hg := hi6) (lh := lo7) (hh := hi7) hd6 hd7 ?S ?B1 ?B2 ?n
      case S => (repeat (first | (with_reducible exact T7s) | (with_reducible apply Stands.alloc) | (with_reducible refine Stands.setM ?_ (HFREE.out _ ?_ ?_ ?_)))) <;> (try omega)
      case B1 => (show Box _ [.slice vp6 vn6 vc6, .slice xp6 xn6 xc6, .slice fp6 fn6 fc6] _); (repeat (first | (with_reducible assumption) | (with_reducible refine Box.fresh3 _ ?_ _ _ _ _) | (with_reducible apply Box.alloc) | (with_reducible apply Box.fill3) | (with_reducible refine Box.else3 ?_ ?_))) <;> (first | (with_reducible rfl) | omega | (simp; done) | (simp <;> omega))
      case B2 => (show Box _ [.slice vp7 vn7 vc7, .slice xp7 xn7 xc7, .slice fp7 fn7 fc7] _); (repeat (first | (with_reducible assumption) | (with_reducible refine Box.fresh3 _ ?_ _ _ _ _) | (with_reducible apply Box.alloc) | (with_reducible apply Box.fill3) | (with_reducible refine Box.else3 ?_ ?_))) <;> (first | (with_reducible rfl) | omega | (simp; done) | (simp <;> omega))
      case n => exact ⟨by omega, by omega, by omega, by omega, by omega, by omega, by omega, by omega, by omega, by omega⟩
  case rest =>
    obtain ⟨bg, bh, lg, hg, lh, hh, g, h, rfl, rfl, dg, dh, SC, n1, n2, n3, n4, n5, n6, n7, n8, n9, n10⟩ := hcut
    obtain ⟨N0, eN0⟩ : ∃ N0, w5.heap.size = N0 := ⟨_, rfl⟩
    rw [eN0] at HN3 n1 n2 n9 n10
    have hn3 : bm + 1 ≤ N0 := HN3.out
    clear eN0 HS6 HN3
    obtain ⟨vp2, vn2, vc2, vs2, xp2, xn2, xc2, xs2, fp2, fn2, fc2, fs2⟩ := g
    obtain ⟨g, eg⟩ : ∃ g : LMod, g = ⟨vp2, vn2, vc2, vs2, xp2, xn2, xc2, xs2, fp2, fn2, fc2, fs2⟩ := ⟨_, rfl⟩
    rw [← eg] at dg SC
    have HGC : Hid (modC g = [.slice vp2 vn2 vc2, .slice xp2 xn2 xc2, .slice fp2 fn2 fc2]) := Lib.hid (by rw [eg]; rfl)
    clear eg
    obtain ⟨vp3, vn3, vc3, vs3, xp3, xn3, xc3, xs3, fp3, fn3, fc3, fs3⟩ := h
    obtain ⟨h, eh⟩ : ∃ h : LMod, h = ⟨vp3, vn3, vc3, vs3, xp3, xn3, xc3, xs3, fp3, fn3, fc3, fs3⟩ := ⟨_, rfl⟩
    rw [← eh] at dh SC
    have HHC : Hid (modC h = [.slice vp3 vn3 vc3, .slice xp3 xn3 xc3, .slice fp3 fn3 fc3]) := Lib.hid (by rw [eh]; rfl)
    clear eh
    rw [HGC.out, HHC.out] at SC
    have hgs : hg ≤ wc.heap.size := (SC.own _ (.head _)).2.2.1
    have hhs : hh ≤ wc.heap.size := (SC.own _ (.tail _ (.head _))).2.2.1
    have HSC := Lib.hid SC
    have HDG : Hid (modD g = modD ma) := Lib.hid (dg.trans HDD.out.symm)
    have HDH : Hid (modD h = modD ma) := Lib.hid (dh.trans HDD.out.symm)
    clear SC dg dh
    have c1 : ∀ w, Stands W [(bg, [.slice vp2 vn2 vc2, .slice xp2 xn2 xc2, .slice fp2 fn2 fc2]), (bh, [.slice vp3 vn3 vc3, .slice xp3 xn3 xc3, .slice fp3 fn3 fc3]), (bm, [.slice vp1 vn1 vc1, .slice xp1 xn1 xc1, .slice fp1 fn1 fc1]), (W.heap.size + 1, [.slice vpb vnb vcb, .slice xpb xnb xcb, .slice fpb fnb fcb]), (W.heap.size, [.slice vpa vna vca, .slice xpa xna xca, .slice fpa fna fca])] [modO lg hg g, modO lh hh h, modO lm hm mine] w → Calls Try.prog 21 #[.agg #[.slice vp2 vn2 vc2, .slice xp2 xn2 xc2, .slice fp2 fn2 fc2], .agg #[.slice vpa vna vca, .slice xpa xna xca, .slice fpa fna fca]] w fun e w' => e = .returned (.bool true) ∧ Stands W [(bg, [.slice vp2 vn2 vc2, .slice xp2 xn2 xc2, .slice fp2 fn2 fc2]), (bh, [.slice vp3 vn3 vc3, .slice xp3 xn3 xc3, .slice fp3 fn3 fc3]), (bm, [.slice vp1 vn1 vc1, .slice xp1 xn1 xc1, .slice fp1 fn1 fc1]), (W.heap.size + 1, [.slice vpb vnb vcb, .slice xpb xnb xcb, .slice fpb fnb fcb]), (W.heap.size, [.slice vpa vna vca, .slice xpa xna xca, .slice fpa fna fca])] [modO lg hg g, modO lh hh h, modO lm hm mine] w' := by
      intro w S
      have hc := rSame_any g ma w (S.mod (a := lg) (b := hg) (.head _)) (S.argM HA.out)
      rw [HGC.out, HAC.out] at hc
      exact hc.mono fun e w' ⟨b, he, hb, hbe⟩ => ⟨by rw [he, hb.2 HDG.out], S.later hbe⟩
    have c2 : ∀ w, Stands W [(bg, [.slice vp2 vn2 vc2, .slice xp2 xn2 xc2, .slice fp2 fn2 fc2]), (bh, [.slice vp3 vn3 vc3, .slice xp3 xn3 xc3, .slice fp3 fn3 fc3]), (bm, [.slice vp1 vn1 vc1, .slice xp1 xn1 xc1, .slice fp1 fn1 fc1]), (W.heap.size + 1, [.slice vpb vnb vcb, .slice xpb xnb xcb, .slice fpb fnb fcb]), (W.heap.size, [.slice vpa vna vca, .slice xpa xna xca, .slice fpa fna fca])] [modO lg hg g, modO lh hh h, modO lm hm mine] w → Calls Try.prog 21 #[.agg #[.slice vp3 vn3 vc3, .slice xp3 xn3 xc3, .slice fp3 fn3 fc3], .agg #[.slice vpa vna vca, .slice xpa xna xca, .slice fpa fna fca]] w fun e w' => e = .returned (.bool true) ∧ Stands W [(bg, [.slice vp2 vn2 vc2, .slice xp2 xn2 xc2, .slice fp2 fn2 fc2]), (bh, [.slice vp3 vn3 vc3, .slice xp3 xn3 xc3, .slice fp3 fn3 fc3]), (bm, [.slice vp1 vn1 vc1, .slice xp1 xn1 xc1, .slice fp1 fn1 fc1]), (W.heap.size + 1, [.slice vpb vnb vcb, .slice xpb xnb xcb, .slice fpb fnb fcb]), (W.heap.size, [.slice vpa vna vca, .slice xpa xna xca, .slice fpa fna fca])] [modO lg hg g, modO lh hh h, modO lm hm mine] w' := by
      intro w S
      have hc := rSame_any h ma w (S.mod (a := lh) (b := hh) (.tail _ (.head _))) (S.argM HA.out)
      rw [HHC.out, HAC.out] at hc
      exact hc.mono fun e w' ⟨b, he, hb, hbe⟩ => ⟨by rw [he, hb.2 HDH.out], S.later hbe⟩
    have c3 : ∀ w, Stands W [(bg, [.slice vp2 vn2 vc2, .slice xp2 xn2 xc2, .slice fp2 fn2 fc2]), (bh, [.slice vp3 vn3 vc3, .slice xp3 xn3 xc3, .slice fp3 fn3 fc3]), (bm, [.slice vp1 vn1 vc1, .slice xp1 xn1 xc1, .slice fp1 fn1 fc1]), (W.heap.size + 1, [.slice vpb vnb vcb, .slice xpb xnb xcb, .slice fpb fnb fcb]), (W.heap.size, [.slice vpa vna vca, .slice xpa xna xca, .slice fpa fna fca])] [modO lg hg g, modO lh hh h, modO lm hm mine] w → Calls Try.prog 21 #[.agg #[.slice vp1 vn1 vc1, .slice xp1 xn1 xc1, .slice fp1 fn1 fc1], .agg #[.slice vpa vna vca, .slice xpa xna xca, .slice fpa fna fca]] w fun e w' => e = .returned (.bool true) ∧ Stands W [(bg, [.slice vp2 vn2 vc2, .slice xp2 xn2 xc2, .slice fp2 fn2 fc2]), (bh, [.slice vp3 vn3 vc3, .slice xp3 xn3 xc3, .slice fp3 fn3 fc3]), (bm, [.slice vp1 vn1 vc1, .slice xp1 xn1 xc1, .slice fp1 fn1 fc1]), (W.heap.size + 1, [.slice vpb vnb vcb, .slice xpb xnb xcb, .slice fpb fnb fcb]), (W.heap.size, [.slice vpa vna vca, .slice xpa xna xca, .slice fpa fna fca])] [modO lg hg g, modO lh hh h, modO lm hm mine] w' := by
      intro w S
      have hc := rSame_any mine ma w (S.mod (a := lm) (b := hm) (.tail _ (.tail _ (.head _)))) (S.argM HA.out)
      rw [HMC.out, HAC.out] at hc
      exact hc.mono fun e w' ⟨b, he, hb, hbe⟩ => ⟨by rw [he, hb.2 HDM.out], S.later hbe⟩
    have yg0 := HSC.out.get (b := bg) (.head _) 0 _ rfl
    have yg1 := HSC.out.get (b := bg) (.head _) 1 _ rfl
    have yg2 := HSC.out.get (b := bg) (.head _) 2 _ rfl
    have ya0 := HSC.out.get (b := W.heap.size) (.tail _ (.tail _ (.tail _ (.tail _ (.head _))))) 0 _ rfl
    have ya1 := HSC.out.get (b := W.heap.size) (.tail _ (.tail _ (.tail _ (.tail _ (.head _))))) 1 _ rfl
    have ya2 := HSC.out.get (b := W.heap.size) (.tail _ (.tail _ (.tail _ (.tail _ (.head _))))) 2 _ rfl
    go_wp2_with fail
    refine (c1 _ HSC.out).mono ?_
    rintro e w9 ⟨rfl, S9⟩
    have HS9 := Lib.hid S9
    clear S9 c1 HSC yg0 yg1 yg2 ya0 ya1 ya2
    have yh0 := HS9.out.get (b := bh) (.tail _ (.head _)) 0 _ rfl
    have yh1 := HS9.out.get (b := bh) (.tail _ (.head _)) 1 _ rfl
    have yh2 := HS9.out.get (b := bh) (.tail _ (.head _)) 2 _ rfl
    have ya0 := HS9.out.get (b := W.heap.size) (.tail _ (.tail _ (.tail _ (.tail _ (.head _))))) 0 _ rfl
    have ya1 := HS9.out.get (b := W.heap.size) (.tail _ (.tail _ (.tail _ (.tail _ (.head _))))) 1 _ rfl
    have ya2 := HS9.out.get (b := W.heap.size) (.tail _ (.tail _ (.tail _ (.tail _ (.head _))))) 2 _ rfl
    go_wp2_with fail
    refine (c2 _ HS9.out).mono ?_
    rintro e w10 ⟨rfl, S10⟩
    have HS10 := Lib.hid S10
    clear S10 c2 HS9 yh0 yh1 yh2 ya0 ya1 ya2
    have ym0 := HS10.out.get (b := bm) (.tail _ (.tail _ (.head _))) 0 _ rfl
    have ym1 := HS10.out.get (b := bm) (.tail _ (.tail _ (.head _))) 1 _ rfl
    have ym2 := HS10.out.get (b := bm) (.tail _ (.tail _ (.head _))) 2 _ rfl
    have ya0 := HS10.out.get (b := W.heap.size) (.tail _ (.tail _ (.tail _ (.tail _ (.head _))))) 0 _ rfl
    have ya1 := HS10.out.get (b := W.heap.size) (.tail _ (.tail _ (.tail _ (.tail _ (.head _))))) 1 _ rfl
    have ya2 := HS10.out.get (b := W.heap.size) (.tail _ (.tail _ (.tail _ (.tail _ (.head _))))) 2 _ rfl
    go_wp2_with fail
    refine (c3 _ HS10.out).mono ?_
    rintro e w11 ⟨rfl, S11⟩
    have HS11 := Lib.hid S11
    clear S11 c3 HS10 ym0 ym1 ym2 ya0 ya1 ya2
    have hsp : ∀ w, Stands W [(bg, [.slice vp2 vn2 vc2, .slice xp2 xn2 xc2, .slice fp2 fn2 fc2]), (bh, [.slice vp3 vn3 vc3, .slice xp3 xn3 xc3, .slice fp3 fn3 fc3]), (bm, [.slice vp1 vn1 vc1, .slice xp1 xn1 xc1, .slice fp1 fn1 fc1]), (W.heap.size + 1, [.slice vpb vnb vcb, .slice xpb xnb xcb, .slice fpb fnb fcb]), (W.heap.size, [.slice vpa vna vca, .slice xpa xna xca, .slice fpa fna fca])] [modO lg hg g, modO lh hh h, modO lm hm mine] w → Calls Try.prog 24 #[.agg #[.slice vp2 vn2 vc2, .slice xp2 xn2 xc2, .slice fp2 fn2 fc2]] w fun e w' => e = .returned (.tuple #[]) ∧ Stands W [(bg, [.slice vp2 vn2 vc2, .slice xp2 xn2 xc2, .slice fp2 fn2 fc2]), (bh, [.slice vp3 vn3 vc3, .slice xp3 xn3 xc3, .slice fp3 fn3 fc3]), (bm, [.slice vp1 vn1 vc1, .slice xp1 xn1 xc1, .slice fp1 fn1 fc1]), (W.heap.size + 1, [.slice vpb vnb vcb, .slice xpb xnb xcb, .slice fpb fnb fcb]), (W.heap.size, [.slice vpa vna vca, .slice xpa xna xca, .slice fpa fna fca])] [modO lh hh h, modO lm hm mine] w' := by
      intro w S
      have hspo := SpoilAll_own g lg hg w (S.own _ (.head _)).2.2.1 (S.own _ (.head _)).1
      rw [HGC.out] at hspo
      refine hspo.mono ?_
      rintro e w18 ⟨he, ho18⟩
      exact ⟨he, Stands.out (S.sub (fun x hx => hx) (fun x hx => .tail _ hx)) ho18 (by omega) (fun x hx => by simp only [List.mem_cons, List.not_mem_nil, or_false] at hx; rcases hx with rfl | rfl | rfl | rfl | rfl <;> simp only <;> omega) (fun x hx => by simp only [List.mem_cons, List.not_mem_nil, or_false] at hx; rcases hx with rfl | rfl <;> simp only [modO] <;> omega)⟩
    have yg0 := HS11.out.get (b := bg) (.head _) 0 _ rfl
    have yg1 := HS11.out.get (b := bg) (.head _) 1 _ rfl
    have yg2 := HS11.out.get (b := bg) (.head _) 2 _ rfl
    go_wp2_with fail
    refine (hsp _ HS11.out).mono ?_
    rintro e w12 ⟨rfl, S12⟩
    have HS12 := Lib.hid S12
    clear S12 hsp HS11 yg0 yg1 yg2
    have c2 : ∀ w, Stands W [(bg, [.slice vp2 vn2 vc2, .slice xp2 xn2 xc2, .slice fp2 fn2 fc2]), (bh, [.slice vp3 vn3 vc3, .slice xp3 xn3 xc3, .slice fp3 fn3 fc3]), (bm, [.slice vp1 vn1 vc1, .slice xp1 xn1 xc1, .slice fp1 fn1 fc1]), (W.heap.size + 1, [.slice vpb vnb vcb, .slice xpb xnb xcb, .slice fpb fnb fcb]), (W.heap.size, [.slice vpa vna vca, .slice xpa xna xca, .slice fpa fna fca])] [modO lh hh h, modO lm hm mine] w → Calls Try.prog 21 #[.agg #[.slice vp3 vn3 vc3, .slice xp3 xn3 xc3, .slice fp3 fn3 fc3], .agg #[.slice vpa vna vca, .slice xpa xna xca, .slice fpa fna fca]] w fun e w' => e = .returned (.bool true) ∧ Stands W [(bg, [.slice vp2 vn2 vc2, .slice xp2 xn2 xc2, .slice fp2 fn2 fc2]), (bh, [.slice vp3 vn3 vc3, .slice xp3 xn3 xc3, .slice fp3 fn3 fc3]), (bm, [.slice vp1 vn1 vc1, .slice xp1 xn1 xc1, .slice fp1 fn1 fc1]), (W.heap.size + 1, [.slice vpb vnb vcb, .slice xpb xnb xcb, .slice fpb fnb fcb]), (W.heap.size, [.slice vpa vna vca, .slice xpa xna xca, .slice fpa fna fca])] [modO lh hh h, modO lm hm mine] w' := by
      intro w S
      have hc := rSame_any h ma w (S.mod (a := lh) (b := hh) (.head _)) (S.argM HA.out)
      rw [HHC.out, HAC.out] at hc
      exact hc.mono fun e w' ⟨b, he, hb, hbe⟩ => ⟨by rw [he, hb.2 HDH.out], S.later hbe⟩
    have c3 : ∀ w, Stands W [(bg, [.slice vp2 vn2 vc2, .slice xp2 xn2 xc2, .slice fp2 fn2 fc2]), (bh, [.slice vp3 vn3 vc3, .slice xp3 xn3 xc3, .slice fp3 fn3 fc3]), (bm, [.slice vp1 vn1 vc1, .slice xp1 xn1 xc1, .slice fp1 fn1 fc1]), (W.heap.size + 1, [.slice vpb vnb vcb, .slice xpb xnb xcb, .slice fpb fnb fcb]), (W.heap.size, [.slice vpa vna vca, .slice xpa xna xca, .slice fpa fna fca])] [modO lh hh h, modO lm hm mine] w → Calls Try.prog 21 #[.agg #[.slice vp1 vn1 vc1, .slice xp1 xn1 xc1, .slice fp1 fn1 fc1], .agg #[.slice vpa vna vca, .slice xpa xna xca, .slice fpa fna fca]] w fun e w' => e = .returned (.bool true) ∧ Stands W [(bg, [.slice vp2 vn2 vc2, .slice xp2 xn2 xc2, .slice fp2 fn2 fc2]), (bh, [.slice vp3 vn3 vc3, .slice xp3 xn3 xc3, .slice fp3 fn3 fc3]), (bm, [.slice vp1 vn1 vc1, .slice xp1 xn1 xc1, .slice fp1 fn1 fc1]), (W.heap.size + 1, [.slice vpb vnb vcb, .slice xpb xnb xcb, .slice fpb fnb fcb]), (W.heap.size, [.slice vpa vna vca, .slice xpa xna xca, .slice fpa fna fca])] [modO lh hh h, modO lm hm mine] w' := by
      intro w S
      have hc := rSame_any mine ma w (S.mod (a := lm) (b := hm) (.tail _ (.head _))) (S.argM HA.out)
      rw [HMC.out, HAC.out] at hc
      exact hc.mono fun e w' ⟨b, he, hb, hbe⟩ => ⟨by rw [he, hb.2 HDM.out], S.later hbe⟩
    have yh0 := HS12.out.get (b := bh) (.tail _ (.head _)) 0 _ rfl
    have yh1 := HS12.out.get (b := bh) (.tail _ (.head _)) 1 _ rfl
    have yh2 := HS12.out.get (b := bh) (.tail _ (.head _)) 2 _ rfl
    have ya0 := HS12.out.get (b := W.heap.size) (.tail _ (.tail _ (.tail _ (.tail _ (.head _))))) 0 _ rfl
    have ya1 := HS12.out.get (b := W.heap.size) (.tail _ (.tail _ (.tail _ (.tail _ (.head _))))) 1 _ rfl
    have ya2 := HS12.out.get (b := W.heap.size) (.tail _ (.tail _ (.tail _ (.tail _ (.head _))))) 2 _ rfl
    go_wp2_with fail
    refine (c2 _ HS12.out).mono ?_
    rintro e w13 ⟨rfl, S13⟩
    have HS13 := Lib.hid S13
    clear S13 c2 HS12 yh0 yh1 yh2 ya0 ya1 ya2
    have ym0 := HS13.out.get (b := bm) (.tail _ (.tail _ (.head _))) 0 _ rfl
    have ym1 := HS13.out.get (b := bm) (.tail _ (.tail _ (.head _))) 1 _ rfl
    have ym2 := HS13.out.get (b := bm) (.tail _ (.tail _ (.head _))) 2 _ rfl
    have ya0 := HS13.out.get (b := W.heap.size) (.tail _ (.tail _ (.tail _ (.tail _ (.head _))))) 0 _ rfl
    have ya1 := HS13.out.get (b := W.heap.size) (.tail _ (.tail _ (.tail _ (.tail _ (.head _))))) 1 _ rfl
    have ya2 := HS13.out.get (b := W.heap.size) (.tail _ (.tail _ (.tail _ (.tail _ (.head _))))) 2 _ rfl
    go_wp2_with fail
    refine (c3 _ HS13.out).mono ?_
    rintro e w14 ⟨rfl, S14⟩
    have HS14 := Lib.hid S14
    clear S14 c3 HS13 ym0 ym1 ym2 ya0 ya1 ya2
    have hsp : ∀ w, Stands W [(bg, [.slice vp2 vn2 vc2, .slice xp2 xn2 xc2, .slice fp2 fn2 fc2]), (bh, [.slice vp3 vn3 vc3, .slice xp3 xn3 xc3, .slice fp3 fn3 fc3]), (bm, [.slice vp1 vn1 vc1, .slice xp1 xn1 xc1, .slice fp1 fn1 fc1]), (W.heap.size + 1, [.slice vpb vnb vcb, .slice xpb xnb xcb, .slice fpb fnb fcb]), (W.heap.size, [.slice vpa vna vca, .slice xpa xna xca, .slice fpa fna fca])] [modO lh hh h, modO lm hm mine] w → Calls Try.prog 24 #[.agg #[.slice vp1 vn1 vc1, .slice xp1 xn1 xc1, .slice fp1 fn1 fc1]] w fun e w' => e = .returned (.tuple #[]) ∧ Stands W [(bg, [.slice vp2 vn2 vc2, .slice xp2 xn2 xc2, .slice fp2 fn2 fc2]), (bh, [.slice vp3 vn3 vc3, .slice xp3 xn3 xc3, .slice fp3 fn3 fc3]), (bm, [.slice vp1 vn1 vc1, .slice xp1 xn1 xc1, .slice fp1 fn1 fc1]), (W.heap.size + 1, [.slice vpb vnb vcb, .slice xpb xnb xcb, .slice fpb fnb fcb]), (W.heap.size, [.slice vpa vna vca, .slice xpa xna xca, .slice fpa fna fca])] [modO lh hh h] w' := by
      intro w S
      have hspo := SpoilAll_own mine lm hm w (S.own _ (.tail _ (.head _))).2.2.1 (S.own _ (.tail _ (.head _))).1
      rw [HMC.out] at hspo
      refine hspo.mono ?_
      rintro e w18 ⟨he, ho18⟩
      exact ⟨he, Stands.out (S.sub (fun x hx => hx) (fun x hx => by rcases List.mem_cons.1 hx with rfl | hx; exact .head _; exact absurd hx (by simp))) ho18 (by omega) (fun x hx => by simp only [List.mem_cons, List.not_mem_nil, or_false] at hx; rcases hx with rfl | rfl | rfl | rfl | rfl <;> simp only <;> omega) (fun x hx => by simp only [List.mem_cons, List.not_mem_nil, or_false] at hx; rcases hx with rfl; simp only [modO]; omega)⟩
    have ym0 := HS14.out.get (b := bm) (.tail _ (.tail _ (.head _))) 0 _ rfl
    have ym1 := HS14.out.get (b := bm) (.tail _ (.tail _ (.head _))) 1 _ rfl
    have ym2 := HS14.out.get (b := bm) (.tail _ (.tail _ (.head _))) 2 _ rfl
    go_wp2_with fail
    refine (hsp _ HS14.out).mono ?_
    rintro e w15 ⟨rfl, S15⟩
    have HS15 := Lib.hid S15
    clear S15 hsp HS14 ym0 ym1 ym2
    have c2 : ∀ w, Stands W [(bg, [.slice vp2 vn2 vc2, .slice xp2 xn2 xc2, .slice fp2 fn2 fc2]), (bh, [.slice vp3 vn3 vc3, .slice xp3 xn3 xc3, .slice fp3 fn3 fc3]), (bm, [.slice vp1 vn1 vc1, .slice xp1 xn1 xc1, .slice fp1 fn1 fc1]), (W.heap.size + 1, [.slice vpb vnb vcb, .slice xpb xnb xcb, .slice fpb fnb fcb]), (W.heap.size, [.slice vpa vna vca, .slice xpa xna xca, .slice fpa fna fca])] [modO lh hh h] w → Calls Try.prog 21 #[.agg #[.slice vp3 vn3 vc3, .slice xp3 xn3 xc3, .slice fp3 fn3 fc3], .agg #[.slice vpa vna vca, .slice xpa xna xca, .slice fpa fna fca]] w fun e w' => e = .returned (.bool true) ∧ Stands W [(bg, [.slice vp2 vn2 vc2, .slice xp2 xn2 xc2, .slice fp2 fn2 fc2]), (bh, [.slice vp3 vn3 vc3, .slice xp3 xn3 xc3, .slice fp3 fn3 fc3]), (bm, [.slice vp1 vn1 vc1, .slice xp1 xn1 xc1, .slice fp1 fn1 fc1]), (W.heap.size + 1, [.slice vpb vnb vcb, .slice xpb xnb xcb, .slice fpb fnb fcb]), (W.heap.size, [.slice vpa vna vca, .slice xpa xna xca, .slice fpa fna fca])] [modO lh hh h] w' := by
      intro w S
      have hc := rSame_any h ma w (S.mod (a := lh) (b := hh) (.head _)) (S.argM HA.out)
      rw [HHC.out, HAC.out] at hc
      exact hc.mono fun e w' ⟨b, he, hb, hbe⟩ => ⟨by rw [he, hb.2 HDH.out], S.later hbe⟩
    have yh0 := HS15.out.get (b := bh) (.tail _ (.head _)) 0 _ rfl
    have yh1 := HS15.out.get (b := bh) (.tail _ (.head _)) 1 _ rfl
    have yh2 := HS15.out.get (b := bh) (.tail _ (.head _)) 2 _ rfl
    have ya0 := HS15.out.get (b := W.heap.size) (.tail _ (.tail _ (.tail _ (.tail _ (.head _))))) 0 _ rfl
    have ya1 := HS15.out.get (b := W.heap.size) (.tail _ (.tail _ (.tail _ (.tail _ (.head _))))) 1 _ rfl
    have ya2 := HS15.out.get (b := W.heap.size) (.tail _ (.tail _ (.tail _ (.tail _ (.head _))))) 2 _ rfl
    go_wp2_with fail
    refine (c2 _ HS15.out).mono ?_
    rintro e w16 ⟨rfl, S16⟩
    have HS16 := Lib.hid S16.past.2
    clear S16 c2 HS15 yh0 yh1 yh2 ya0 ya1 ya2
    go_wp2_with fail
    go_ret
    exact ⟨rfl, HS16.out⟩
end Go.Proofs.Ytpfeiolmkbibiaa
