/- The document's Same: are two modules alike? -/
import Derived.Test.YtpfeiolmkbibiaaOwnW
import Derived.Deep.QuietTactic
import Derived.BigQuiet
namespace Go.Proofs.Ytpfeiolmkbibiaa
open Go.RowKit Go.Maps
set_option linter.unusedVariables false
set_option linter.unusedSimpArgs false

theorem below_drewN {B : Nat} {W w : World} (h : Below B W w) (n : Nat) : Below B W (w.drewN n) := ⟨h.os, h.tape, h.output, h.size, h.block⟩
theorem modD_vs {x y : LMod} (e : modD x = modD y) : x.vs = y.vs := congrArg PMod.vs e
theorem modD_xs {x y : LMod} (e : modD x = modD y) : x.xs.map extD = y.xs.map extD := congrArg PMod.xs e
theorem modD_fs {x y : LMod} (e : modD x = modD y) : x.fs.map fnD = y.fs.map fnD := congrArg PMod.fs e
theorem map_len {α β : Type} {f : α → β} {xs ys : List α} (e : xs.map f = ys.map f) : xs.length = ys.length := by
  have := congrArg List.length e
  rwa [List.length_map, List.length_map] at this
theorem map_at {α β : Type} {f : α → β} {xs ys : List α} (e : xs.map f = ys.map f) (i : Nat) (h1 : i < xs.length) (h2 : i < ys.length) : f xs[i] = f ys[i] := by
  have e3 : (xs.map f)[i]? = (ys.map f)[i]? := by rw [e]
  rw [List.getElem?_map, List.getElem?_map, List.getElem?_eq_getElem h1, List.getElem?_eq_getElem h2] at e3
  exact Option.some.inj e3
theorem map_all {α β : Type} {f : α → β} {xs ys : List α} (hl : xs.length = ys.length) (h : ∀ i (h1 : i < xs.length) (h2 : i < ys.length), f xs[i] = f ys[i]) : xs.map f = ys.map f :=
  list_ext (by simpa using hl) (fun m m1 m2 => by simpa using h m (by simpa using m1) (by simpa using m2))
theorem tells_no {p : Prop} {W w : World} (hp : ¬ p) (hb : Below W.heap.size W w) : Tells p W (.returned (.bool false)) w := ⟨false, rfl, by simpa using hp, hb⟩
theorem tells_yes {p : Prop} {W w : World} (hp : p) (hb : Below W.heap.size W w) : Tells p W (.returned (.bool true)) w := ⟨true, rfl, by simpa using hp, hb⟩

set_option maxRecDepth 100000 in
set_option maxHeartbeats 4000000 in
theorem rSame_any (x y : LMod) (W : World) (h : ModIn W.heap.size W x) (h' : ModIn W.heap.size W y) :
    Calls Try.prog 21 #[.agg (modC x).toArray, .agg (modC y).toArray] W (Tells (modD x = modD y) W) := by
  obtain ⟨p, ep⟩ : ∃ p : Prop, p = (modD x = modD y) := ⟨_, rfl⟩
  have HN1 : Hid (x.vs ≠ y.vs → ¬ p) := Lib.hid (by rw [ep]; exact fun n e => n (modD_vs e))
  have HN2 : Hid (x.xs.map extD ≠ y.xs.map extD → ¬ p) := Lib.hid (by rw [ep]; exact fun n e => n (modD_xs e))
  have HN3 : Hid (x.fs.map fnD ≠ y.fs.map fnD → ¬ p) := Lib.hid (by rw [ep]; exact fun n e => n (modD_fs e))
  have HY : Hid (x.vs = y.vs → x.xs.map extD = y.xs.map extD → x.fs.map fnD = y.fs.map fnD → p) := Lib.hid (by rw [ep]; intro e1 e2 e3; unfold modD; rw [e1, e2, e3])
  rw [← ep]
  clear ep
  obtain ⟨vp, vn, vc, vs, xp, xn, xc, xs, fp, fn, fc, fs⟩ := x
  obtain ⟨vp', vn', vc', vs', xp', xn', xc', xs', fp', fn', fc', fs'⟩ := y
  simp only at HN1 HN2 HN3 HY
  obtain rfl : vn = vs.length := h.1.1
  obtain rfl : xn = xs.length := h.2.1.1
  obtain rfl : fn = fs.length := h.2.2.1
  obtain rfl : vn' = vs'.length := h'.1.1
  obtain rfl : xn' = xs'.length := h'.2.1.1
  obtain rfl : fn' = fs'.length := h'.2.2.1
  have kv : vs.length ≤ vc ∧ vc ≤ maxLen := ⟨h.1.2.1, h.1.2.2.1⟩
  have kx : xs.length ≤ xc ∧ xc ≤ maxLen := ⟨h.2.1.2.1, h.2.1.2.2.1⟩
  have kf : fs.length ≤ fc ∧ fc ≤ maxLen := ⟨h.2.2.2.1, h.2.2.2.2.1⟩
  have kv' : vs'.length ≤ vc' ∧ vc' ≤ maxLen := ⟨h'.1.2.1, h'.1.2.2.1⟩
  have kx' : xs'.length ≤ xc' ∧ xc' ≤ maxLen := ⟨h'.2.1.2.1, h'.2.1.2.2.1⟩
  have kf' : fs'.length ≤ fc' ∧ fc' ≤ maxLen := ⟨h'.2.2.2.1, h'.2.2.2.2.1⟩
  unfold maxLen at kv kx kf kv' kx' kf'
  obtain ⟨kv1, kv2⟩ := kv
  obtain ⟨kx1, kx2⟩ := kx
  obtain ⟨kf1, kf2⟩ := kf
  obtain ⟨kv1', kv2'⟩ := kv'
  obtain ⟨kx1', kx2'⟩ := kx'
  obtain ⟨kf1', kf2'⟩ := kf'
  have HV := Lib.hid h.1
  have HX := Lib.hid h.2.1
  have HF := Lib.hid h.2.2
  have HV' := Lib.hid h'.1
  have HX' := Lib.hid h'.2.1
  have HF' := Lib.hid h'.2.2
  simp only at HV HX HF HV' HX' HF'
  clear h h'
  show Calls Try.prog 21 #[.agg #[.slice vp vs.length vc, .slice xp xs.length xc, .slice fp fs.length fc], .agg #[.slice vp' vs'.length vc', .slice xp' xs'.length xc', .slice fp' fs'.length fc']] W _
  have hP := (Past.refl (Nat.le_refl W.heap.size)).alloc (.cells #[.slice vp vs.length vc, .slice xp xs.length xc, .slice fp fs.length fc] 34)
  have A1 : Box W.heap.size [.slice vp vs.length vc, .slice xp xs.length xc, .slice fp fs.length fc] (W.alloc (.cells #[.slice vp vs.length vc, .slice xp xs.length xc, .slice fp fs.length fc] 34)) := Box.new W rfl _ _
  have z1 : (W.alloc (.cells #[.slice vp vs.length vc, .slice xp xs.length xc, .slice fp fs.length fc] 34)).heap.size = W.heap.size + 1 := by simp
  go_enter Try.func21, Try.ntmps21
  go_upto_region 1 with fail
  generalize (W.alloc (.cells #[.slice vp vs.length vc, .slice xp xs.length xc, .slice fp fs.length fc] 34)) = w1 at *
  have hP2 := hP.alloc (.cells #[.slice vp' vs'.length vc', .slice xp' xs'.length xc', .slice fp' fs'.length fc'] 34)
  have A2 := A1.alloc (.cells #[.slice vp' vs'.length vc', .slice xp' xs'.length xc', .slice fp' fs'.length fc'] 34)
  have B2 : Box (W.heap.size + 1) [.slice vp' vs'.length vc', .slice xp' xs'.length xc', .slice fp' fs'.length fc'] (w1.alloc (.cells #[.slice vp' vs'.length vc', .slice xp' xs'.length xc', .slice fp' fs'.length fc'] 34)) := Box.new w1 (by omega) _ _
  generalize (w1.alloc (.cells #[.slice vp' vs'.length vc', .slice xp' xs'.length xc', .slice fp' fs'.length fc'] 34)) = w2 at *
  have a0 := A2.get 0 _ rfl
  have b0 := B2.get 0 _ rfl
  have a1 := A2.get 1 _ rfl
  have b1 := B2.get 1 _ rfl
  have a2 := A2.get 2 _ rfl
  have b2 := B2.get 2 _ rfl
  clear A1 hP z1
  by_cases ev : vs.length = vs'.length
  case neg =>
    have g : ((vs.length : Int) != (vs'.length : Int)) = true := by simp; omega
    have E := Lib.hid ev
    clear ev
    go_wp2_with fail
    go_ret
    exact tells_no (HN1.out fun e => E.out (by rw [e])) hP2.2
  have gv : ((vs.length : Int) != (vs'.length : Int)) = false := by simp [ev]
  have EV := Lib.hid ev
  clear ev
  by_cases ex : xs.length = xs'.length
  case neg =>
    have g : ((xs.length : Int) != (xs'.length : Int)) = true := by simp; omega
    have E := Lib.hid ex
    clear ex
    go_wp2_with fail
    go_ret
    exact tells_no (HN2.out fun e => E.out (map_len e)) hP2.2
  have gx : ((xs.length : Int) != (xs'.length : Int)) = false := by simp [ex]
  have EX := Lib.hid ex
  clear ex
  by_cases ef : fs.length = fs'.length
  case neg =>
    have g : ((fs.length : Int) != (fs'.length : Int)) = true := by simp; omega
    have E := Lib.hid ef
    clear ef
    go_wp2_with fail
    go_ret
    exact tells_no (HN3.out fun e => E.out (map_len e)) hP2.2
  have gf : ((fs.length : Int) != (fs'.length : Int)) = false := by simp [ef]
  have EF := Lib.hid ef
  clear ef
  go_wp2_with fail
  clear gv gx gf a0 a1 a2 b0 b1 b2
  have SA := Lib.hid A2
  have SB := Lib.hid B2
  have SP := Lib.hid hP2
  clear A2 B2 hP2
  go_loopw [5] (fun t wr => ∃ i : Nat, i ≤ vs.length ∧ t = .int .i64 i ∧ Below w2.heap.size w2 wr ∧ Hid (∀ j (h1 : j < vs.length) (h2 : j < vs'.length), j < i → vs[j] = vs'[j])) (fun t _ => vs.length - (intOf t).toNat)
  case atStart => exact ⟨0, Nat.zero_le _, rfl, Below.refl _ _, Lib.hid (fun i _ _ h => absurd h (Nat.not_lt_zero i))⟩
  case round =>
    obtain ⟨i, hi, rfl, hb, hE⟩ := hrel
    have P4 := SP.out.trans ⟨SP.out.size, hb.mono SP.out.size⟩
    have A4 := SA.out.later hb
    have B4 := SB.out.later hb
    have a0 := A4.get 0 _ rfl
    have b0 := B4.get 0 _ rfl
    by_cases hlt : i < vs.length
    · have hlt' : i < vs'.length := by have := EV.out; omega
      obtain ⟨a, rfl, ha, hc0, hc1⟩ := var_row HV.out i hlt
      obtain ⟨a', rfl, ha', hc0', hc1'⟩ := var_row HV'.out i hlt'
      have f0 := (P4.2.cell (p := a.add (i * 2)) (blk_add a _ ha)).trans hc0
      have f1 := (P4.2.cell (p := ⟨(a.add (i * 2)).block, (a.add (i * 2)).off + 1, none⟩) (blk_add a _ ha)).trans hc1
      have f0' := (P4.2.cell (p := a'.add (i * 2)) (blk_add a' _ ha')).trans hc0'
      have f1' := (P4.2.cell (p := ⟨(a'.add (i * 2)).block, (a'.add (i * 2)).off + 1, none⟩) (blk_add a' _ ha')).trans hc1'
      clear hc0 hc1 hc0' hc1'
      by_cases q0 : vs[i].nm = vs'[i].nm ∧ vs[i].size = vs'[i].size
      · have HQ : Hid (vs[i] = vs'[i]) := Lib.hid (var_ext q0.1 q0.2)
        obtain ⟨q1, q2⟩ := q0
        rw [← q1] at f0'
        rw [← q2] at f1'
        clear q1 q2
        go_wp2_with fail
        go_region
        all_goals go_wp2
        all_goals exact ⟨⟨i + 1, by omega, by go_num, by first | exact hb | exact below_drew hb, Lib.hid (fun j h1 h2 h3 => by
          by_cases e : j = i
          · subst e; exact HQ.out
          · exact hE.out j h1 h2 (by omega))⟩, by simp [intOf]; omega⟩
      · have HQ : Hid (¬ vs[i] = vs'[i]) := Lib.hid (fun e => q0 ⟨by rw [e], by rw [e]⟩)
        by_cases q1 : vs[i].nm = vs'[i].nm
        · rw [← q1] at f0'
          have q2 : ¬ vs[i].size = vs'[i].size := fun q2 => q0 ⟨q1, q2⟩
          clear q0 q1
          go_wp2_with fail
          go_region
          all_goals go_wp2
          all_goals go_ret
          all_goals exact tells_no (HN1.out (fun e => by subst e; exact HQ.out rfl)) (by first | exact P4.2 | exact below_drew P4.2)
        · clear q0
          have q3 : ¬ vs[i].nm.toList = vs'[i].nm.toList := fun e => q1 (str_inj e)
          go_wp2_with fail
          go_region
          all_goals go_wp2
          all_goals go_ret
          all_goals exact tells_no (HN1.out (fun e => by subst e; exact HQ.out rfl)) (by first | exact P4.2 | exact below_drew P4.2)
    · have EV2 : Hid (vs = vs') := Lib.hid (list_ext EV.out (fun j h1 h2 => hE.out j h1 h2 (by omega)))
      obtain rfl : i = vs.length := by omega
      clear hE hlt hi
      go_wp2_with fail
      clear a0 b0
      have SA := Lib.hid A4
      have SB := Lib.hid B4
      have SP := Lib.hid P4
      clear A4 B4 P4 hb
      generalize wr = wo at *
      go_loopw [6] (fun t wr => ∃ i : Nat, i ≤ xs.length ∧ t = .int .i64 i ∧ Below wo.heap.size wo wr ∧ Hid (∀ j (h1 : j < xs.length) (h2 : j < xs'.length), j < i → extD xs[j] = extD xs'[j])) (fun t _ => xs.length - (intOf t).toNat)
      case atStart => exact ⟨0, Nat.zero_le _, rfl, Below.refl _ _, Lib.hid (fun i _ _ h => absurd h (Nat.not_lt_zero i))⟩
      case round =>
        obtain ⟨i, hi, rfl, hb, hE⟩ := hrel
        have P4 := SP.out.trans ⟨SP.out.size, hb.mono SP.out.size⟩
        have A4 := SA.out.later hb
        have B4 := SB.out.later hb
        have a1 := A4.get 1 _ rfl
        have b1 := B4.get 1 _ rfl
        have al := A4.1
        have bl := B4.1
        by_cases hlt : i < xs.length
        · have hlt' : i < xs'.length := by have := EX.out; omega
          obtain ⟨a, rfl, ha, c0, c1, c2⟩ := ext_row HX.out i hlt
          obtain ⟨a', rfl, ha', c0', c1', c2'⟩ := ext_row HX'.out i hlt'
          have hBW := P4.2.size
          have la : a.block < wr.heap.size := Nat.lt_of_lt_of_le ha hBW
          have la' : a'.block < wr.heap.size := Nat.lt_of_lt_of_le ha' hBW
          have d0 := (P4.2.cell (p := a.add (i * 3)) (blk_add a _ ha)).trans c0
          have d1 := (P4.2.cell (p := ⟨(a.add (i * 3)).block, (a.add (i * 3)).off + 1, none⟩) (blk_add a _ ha)).trans c1
          have d2 := (P4.2.cell (p := ⟨(a.add (i * 3)).block, (a.add (i * 3)).off + 2, none⟩) (blk_add a _ ha)).trans c2
          have e0 := (P4.2.cell (p := a'.add (i * 3)) (blk_add a' _ ha')).trans c0'
          have e1 := (P4.2.cell (p := ⟨(a'.add (i * 3)).block, (a'.add (i * 3)).off + 1, none⟩) (blk_add a' _ ha')).trans c1'
          have e2 := (P4.2.cell (p := ⟨(a'.add (i * 3)).block, (a'.add (i * 3)).off + 2, none⟩) (blk_add a' _ ha')).trans c2'
          clear c0 c1 c2 c0' c1' c2'
          have hib : Below wr.heap.size wr wr := Below.refl _ _
          have HL := Lib.hid (HX.out.2.2.2.2 _ (List.getElem_mem hlt))
          have HL' := Lib.hid (HX'.out.2.2.2.2 _ (List.getElem_mem hlt'))
          have cI : ∀ w, Below wr.heap.size wr w → Calls Try.prog 42 #[.slice xs[i].pp xs[i].pn xs[i].pc, .slice xs'[i].pp xs'[i].pn xs'[i].pc] w (fun e w' => ∃ b : Bool, e = .returned (.bool b) ∧ (b = true ↔ xs[i].ps = xs'[i].ps) ∧ Below wr.heap.size wr w') := fun w hw => by
            have P6 := P4.trans ⟨P4.size, hw.mono P4.size⟩
            exact (Ints_any w _ _ _ _ _ _ _ _ (past_lasts lasts_Ext HL.out P6) (past_lasts lasts_Ext HL'.out P6)).mono fun e w' ⟨b, h1, h2, h3⟩ => ⟨b, h1, h2, hw.trans (h3.mono hw.size)⟩
          have HS : Hid (∀ w', Below wr.heap.size wr w' → (w'.cell? ⟨W.heap.size, 1, none⟩ = some (.slice (some a) xs.length xc) ∧ w'.cell? ⟨W.heap.size + 1, 1, none⟩ = some (.slice (some a') xs'.length xc') ∧ w'.cell? (a.add (i * 3)) = some (.string xs[i].nm) ∧ w'.cell? ⟨(a.add (i * 3)).block, (a.add (i * 3)).off + 1, none⟩ = some (.slice xs[i].pp xs[i].pn xs[i].pc) ∧ w'.cell? ⟨(a.add (i * 3)).block, (a.add (i * 3)).off + 2, none⟩ = some (.int .i64 xs[i].rt) ∧ w'.cell? (a'.add (i * 3)) = some (.string xs'[i].nm) ∧ w'.cell? ⟨(a'.add (i * 3)).block, (a'.add (i * 3)).off + 1, none⟩ = some (.slice xs'[i].pp xs'[i].pn xs'[i].pc) ∧ w'.cell? ⟨(a'.add (i * 3)).block, (a'.add (i * 3)).off + 2, none⟩ = some (.int .i64 xs'[i].rt) ∧ Below wr.heap.size wr w')) := Lib.hid (fun w' hb => ⟨(hb.cell (p := ⟨W.heap.size, 1, none⟩) al).trans a1, (hb.cell (p := ⟨W.heap.size + 1, 1, none⟩) bl).trans b1, (hb.cell (p := a.add (i * 3)) (blk_add a _ la)).trans d0, (hb.cell (p := ⟨(a.add (i * 3)).block, (a.add (i * 3)).off + 1, none⟩) (blk_add a _ la)).trans d1, (hb.cell (p := ⟨(a.add (i * 3)).block, (a.add (i * 3)).off + 2, none⟩) (blk_add a _ la)).trans d2, (hb.cell (p := a'.add (i * 3)) (blk_add a' _ la')).trans e0, (hb.cell (p := ⟨(a'.add (i * 3)).block, (a'.add (i * 3)).off + 1, none⟩) (blk_add a' _ la')).trans e1, (hb.cell (p := ⟨(a'.add (i * 3)).block, (a'.add (i * 3)).off + 2, none⟩) (blk_add a' _ la')).trans e2, hb⟩)
          go_wp2_with fail
          go_region_held3 (fun w' => w'.cell? ⟨W.heap.size, 1, none⟩ = some (.slice (some a) xs.length xc) ∧ w'.cell? ⟨W.heap.size + 1, 1, none⟩ = some (.slice (some a') xs'.length xc') ∧ w'.cell? (a.add (i * 3)) = some (.string xs[i].nm) ∧ w'.cell? ⟨(a.add (i * 3)).block, (a.add (i * 3)).off + 1, none⟩ = some (.slice xs[i].pp xs[i].pn xs[i].pc) ∧ w'.cell? ⟨(a.add (i * 3)).block, (a.add (i * 3)).off + 2, none⟩ = some (.int .i64 xs[i].rt) ∧ w'.cell? (a'.add (i * 3)) = some (.string xs'[i].nm) ∧ w'.cell? ⟨(a'.add (i * 3)).block, (a'.add (i * 3)).off + 1, none⟩ = some (.slice xs'[i].pp xs'[i].pn xs'[i].pc) ∧ w'.cell? ⟨(a'.add (i * 3)).block, (a'.add (i * 3)).off + 2, none⟩ = some (.int .i64 xs'[i].rt) ∧ Below wr.heap.size wr w')
            (((try dsimp only); (repeat' apply And.intro) <;> (first | (with_reducible assumption) | (rw [World.cell?_drew]; with_reducible assumption) | (with_reducible apply below_drew; with_reducible assumption))))
            (first
              | ((with_reducible refine (cI _ (by first | (with_reducible assumption) | (with_reducible apply below_drew; with_reducible assumption))).mono ?_); rintro e w' ⟨bt, rfl, hbt, hb'⟩; obtain ⟨r0, r1, r2, r3, r4, r5, r6, r7, r8⟩ := HS.out w' hb'; have HBT := Lib.hid hbt; clear hbt))
          all_goals
            clear cI HS a1 b1 d0 d1 d2 e0 e1 e2 r8
            have PB := P4.2.trans (hb'.mono P4.size)
            have hbb := hb.trans (hb'.mono hb.size)
            have HPB := Lib.hid PB
            have HBB := Lib.hid hbb
            clear PB hbb hb'
            cases bt
            · have HN : Hid (¬ p) := Lib.hid (HN2.out fun e => by
                have h1 := HBT.out.2 (congrArg PExt.ps (map_at e i hlt hlt'))
                cases h1)
              go_wp2_with fail
              go_quiet (fail)
              all_goals (try go_wp2_with fail)
              all_goals go_ret
              all_goals exact tells_no HN.out (by first | exact HPB.out | exact below_drew HPB.out | exact below_drewN HPB.out _)
            · have HPS : Hid (xs[i].ps = xs'[i].ps) := Lib.hid (HBT.out.1 rfl)
              by_cases q1 : xs[i].nm = xs'[i].nm
              · rw [← q1] at r5
                have Q1 := Lib.hid q1
                clear q1
                by_cases q2 : xs[i].rt = xs'[i].rt
                · have g2 : (xs[i].rt != xs'[i].rt) = false := by simp [q2]
                  have HQ : Hid (extD xs[i] = extD xs'[i]) := Lib.hid (by unfold extD; rw [Q1.out, HPS.out, q2])
                  clear q2
                  go_wp2_with fail
                  go_quiet (fail)
                  all_goals (try go_wp2_with fail)
                  all_goals exact ⟨⟨i + 1, by omega, by go_num, by first | exact HBB.out | exact below_drew HBB.out | exact below_drewN HBB.out _, Lib.hid (fun j h1 h2 h3 => by
                    by_cases e : j = i
                    · subst e; exact HQ.out
                    · exact hE.out j h1 h2 (by omega))⟩, by simp [intOf]; omega⟩
                · have g2 : (xs[i].rt != xs'[i].rt) = true := by simpa using q2
                  have HN : Hid (¬ p) := Lib.hid (HN2.out fun e => q2 (congrArg PExt.rt (map_at e i hlt hlt')))
                  clear q2
                  go_wp2_with fail
                  go_quiet (fail)
                  all_goals (try go_wp2_with fail)
                  all_goals go_ret
                  all_goals exact tells_no HN.out (by first | exact HPB.out | exact below_drew HPB.out | exact below_drewN HPB.out _)
              · have q3 : ¬ xs[i].nm.toList = xs'[i].nm.toList := fun e => q1 (str_inj e)
                have HN : Hid (¬ p) := Lib.hid (HN2.out fun e => q1 (congrArg PExt.nm (map_at e i hlt hlt')))
                clear q1
                go_wp2_with fail
                go_quiet (fail)
                all_goals (try go_wp2_with fail)
                all_goals go_ret
                all_goals exact tells_no HN.out (by first | exact HPB.out | exact below_drew HPB.out | exact below_drewN HPB.out _)
        · have EX2 : Hid (xs.map extD = xs'.map extD) := Lib.hid (map_all EX.out (fun j h1 h2 => hE.out j h1 h2 (by omega)))
          obtain rfl : i = xs.length := by omega
          clear hE hlt hi al bl
          go_wp2_with fail
          clear a1 b1
          have SA := Lib.hid A4
          have SB := Lib.hid B4
          have SP := Lib.hid P4
          clear A4 B4 P4 hb
          generalize wr = wz at *
          go_loopw [8] (fun t wr => ∃ i : Nat, i ≤ fs.length ∧ t = .int .i64 i ∧ Below wz.heap.size wz wr ∧ Hid (∀ j (h1 : j < fs.length) (h2 : j < fs'.length), j < i → fnD fs[j] = fnD fs'[j])) (fun t _ => fs.length - (intOf t).toNat)
          case atStart => exact ⟨0, Nat.zero_le _, rfl, Below.refl _ _, Lib.hid (fun i _ _ h => absurd h (Nat.not_lt_zero i))⟩
          case round =>
            obtain ⟨i, hi, rfl, hb, hE⟩ := hrel
            have P4 := SP.out.trans ⟨SP.out.size, hb.mono SP.out.size⟩
            have A4 := SA.out.later hb
            have B4 := SB.out.later hb
            have a2 := A4.get 2 _ rfl
            have b2 := B4.get 2 _ rfl
            have al := A4.1
            have bl := B4.1
            by_cases hlt : i < fs.length
            · have hlt' : i < fs'.length := by have := EF.out; omega
              obtain ⟨a, rfl, ha, c0, c1, c2, c3⟩ := fn_row HF.out i hlt
              obtain ⟨a', rfl, ha', c0', c1', c2', c3'⟩ := fn_row HF'.out i hlt'
              have hBW := P4.2.size
              have la : a.block < wr.heap.size := Nat.lt_of_lt_of_le ha hBW
              have la' : a'.block < wr.heap.size := Nat.lt_of_lt_of_le ha' hBW
              have d0 := (P4.2.cell (p := a.add (i * 4)) (blk_add a _ ha)).trans c0
              have d1 := (P4.2.cell (p := ⟨(a.add (i * 4)).block, (a.add (i * 4)).off + 1, none⟩) (blk_add a _ ha)).trans c1
              have d2 := (P4.2.cell (p := ⟨(a.add (i * 4)).block, (a.add (i * 4)).off + 2, none⟩) (blk_add a _ ha)).trans c2
              have d3 := (P4.2.cell (p := ⟨(a.add (i * 4)).block, (a.add (i * 4)).off + 3, none⟩) (blk_add a _ ha)).trans c3
              have e0 := (P4.2.cell (p := a'.add (i * 4)) (blk_add a' _ ha')).trans c0'
              have e1 := (P4.2.cell (p := ⟨(a'.add (i * 4)).block, (a'.add (i * 4)).off + 1, none⟩) (blk_add a' _ ha')).trans c1'
              have e2 := (P4.2.cell (p := ⟨(a'.add (i * 4)).block, (a'.add (i * 4)).off + 2, none⟩) (blk_add a' _ ha')).trans c2'
              have e3 := (P4.2.cell (p := ⟨(a'.add (i * 4)).block, (a'.add (i * 4)).off + 3, none⟩) (blk_add a' _ ha')).trans c3'
              clear c0 c1 c2 c3 c0' c1' c2' c3'
              have hib : Below wr.heap.size wr wr := Below.refl _ _
              have HL := Lib.hid (HF.out.2.2.2.2 _ (List.getElem_mem hlt))
              have HL' := Lib.hid (HF'.out.2.2.2.2 _ (List.getElem_mem hlt'))
              have cI : ∀ w, Below wr.heap.size wr w → Calls Try.prog 36 #[.agg #[.string fs[i].nm, .slice fs[i].pp fs[i].pn fs[i].pc, .int .i64 fs[i].rt, .slice fs[i].bp fs[i].bn fs[i].bc], .agg #[.string fs'[i].nm, .slice fs'[i].pp fs'[i].pn fs'[i].pc, .int .i64 fs'[i].rt, .slice fs'[i].bp fs'[i].bn fs'[i].bc]] w (fun e w' => ∃ b : Bool, e = .returned (.bool b) ∧ (b = true ↔ fnD fs[i] = fnD fs'[i]) ∧ Below wr.heap.size wr w') := fun w hw => by
                have P6 := P4.trans ⟨P4.size, hw.mono P4.size⟩
                exact (Funcs_any w fs[i] fs'[i] (past_lasts lasts_Fn HL.out P6) (past_lasts lasts_Fn HL'.out P6)).mono fun e w' ⟨b, h1, h2, h3⟩ => ⟨b, h1, h2, hw.trans (h3.mono hw.size)⟩
              have HS : Hid (∀ w', Below wr.heap.size wr w' → (w'.cell? ⟨W.heap.size, 2, none⟩ = some (.slice (some a) fs.length fc) ∧ w'.cell? ⟨W.heap.size + 1, 2, none⟩ = some (.slice (some a') fs'.length fc') ∧ w'.cell? (a.add (i * 4)) = some (.string fs[i].nm) ∧ w'.cell? ⟨(a.add (i * 4)).block, (a.add (i * 4)).off + 1, none⟩ = some (.slice fs[i].pp fs[i].pn fs[i].pc) ∧ w'.cell? ⟨(a.add (i * 4)).block, (a.add (i * 4)).off + 2, none⟩ = some (.int .i64 fs[i].rt) ∧ w'.cell? ⟨(a.add (i * 4)).block, (a.add (i * 4)).off + 3, none⟩ = some (.slice fs[i].bp fs[i].bn fs[i].bc) ∧ w'.cell? (a'.add (i * 4)) = some (.string fs'[i].nm) ∧ w'.cell? ⟨(a'.add (i * 4)).block, (a'.add (i * 4)).off + 1, none⟩ = some (.slice fs'[i].pp fs'[i].pn fs'[i].pc) ∧ w'.cell? ⟨(a'.add (i * 4)).block, (a'.add (i * 4)).off + 2, none⟩ = some (.int .i64 fs'[i].rt) ∧ w'.cell? ⟨(a'.add (i * 4)).block, (a'.add (i * 4)).off + 3, none⟩ = some (.slice fs'[i].bp fs'[i].bn fs'[i].bc) ∧ Below wr.heap.size wr w')) := Lib.hid (fun w' hb => ⟨(hb.cell (p := ⟨W.heap.size, 2, none⟩) al).trans a2, (hb.cell (p := ⟨W.heap.size + 1, 2, none⟩) bl).trans b2, (hb.cell (p := a.add (i * 4)) (blk_add a _ la)).trans d0, (hb.cell (p := ⟨(a.add (i * 4)).block, (a.add (i * 4)).off + 1, none⟩) (blk_add a _ la)).trans d1, (hb.cell (p := ⟨(a.add (i * 4)).block, (a.add (i * 4)).off + 2, none⟩) (blk_add a _ la)).trans d2, (hb.cell (p := ⟨(a.add (i * 4)).block, (a.add (i * 4)).off + 3, none⟩) (blk_add a _ la)).trans d3, (hb.cell (p := a'.add (i * 4)) (blk_add a' _ la')).trans e0, (hb.cell (p := ⟨(a'.add (i * 4)).block, (a'.add (i * 4)).off + 1, none⟩) (blk_add a' _ la')).trans e1, (hb.cell (p := ⟨(a'.add (i * 4)).block, (a'.add (i * 4)).off + 2, none⟩) (blk_add a' _ la')).trans e2, (hb.cell (p := ⟨(a'.add (i * 4)).block, (a'.add (i * 4)).off + 3, none⟩) (blk_add a' _ la')).trans e3, hb⟩)
              go_wp2_with fail
              go_region_held3 (fun w' => w'.cell? ⟨W.heap.size, 2, none⟩ = some (.slice (some a) fs.length fc) ∧ w'.cell? ⟨W.heap.size + 1, 2, none⟩ = some (.slice (some a') fs'.length fc') ∧ w'.cell? (a.add (i * 4)) = some (.string fs[i].nm) ∧ w'.cell? ⟨(a.add (i * 4)).block, (a.add (i * 4)).off + 1, none⟩ = some (.slice fs[i].pp fs[i].pn fs[i].pc) ∧ w'.cell? ⟨(a.add (i * 4)).block, (a.add (i * 4)).off + 2, none⟩ = some (.int .i64 fs[i].rt) ∧ w'.cell? ⟨(a.add (i * 4)).block, (a.add (i * 4)).off + 3, none⟩ = some (.slice fs[i].bp fs[i].bn fs[i].bc) ∧ w'.cell? (a'.add (i * 4)) = some (.string fs'[i].nm) ∧ w'.cell? ⟨(a'.add (i * 4)).block, (a'.add (i * 4)).off + 1, none⟩ = some (.slice fs'[i].pp fs'[i].pn fs'[i].pc) ∧ w'.cell? ⟨(a'.add (i * 4)).block, (a'.add (i * 4)).off + 2, none⟩ = some (.int .i64 fs'[i].rt) ∧ w'.cell? ⟨(a'.add (i * 4)).block, (a'.add (i * 4)).off + 3, none⟩ = some (.slice fs'[i].bp fs'[i].bn fs'[i].bc) ∧ Below wr.heap.size wr w')
                (((try dsimp only); (repeat' apply And.intro) <;> (first | (with_reducible assumption) | (rw [World.cell?_drew]; with_reducible assumption) | (with_reducible apply below_drew; with_reducible assumption))))
                (first
                  | ((with_reducible refine (cI _ (by first | (with_reducible assumption) | (with_reducible apply below_drew; with_reducible assumption))).mono ?_); rintro e w' ⟨bt, rfl, hbt, hb'⟩; obtain ⟨r0, r1, r2, r3, r4, r5, r6, r7, r8, r9, r10⟩ := HS.out w' hb'; have HBT := Lib.hid hbt; clear hbt))
              all_goals
                clear cI HS a2 b2 d0 d1 d2 d3 e0 e1 e2 e3 r0 r1 r2 r3 r4 r5 r6 r7 r8 r9 r10
                have PB := P4.2.trans (hb'.mono P4.size)
                have hbb := hb.trans (hb'.mono hb.size)
                have HPB := Lib.hid PB
                have HBB := Lib.hid hbb
                clear PB hbb hb'
                cases bt
                · have HN : Hid (¬ p) := Lib.hid (HN3.out fun e => by
                    have h1 := HBT.out.2 (map_at e i hlt hlt')
                    cases h1)
                  go_wp2_with fail
                  go_ret
                  exact tells_no HN.out (by first | exact HPB.out | exact below_drew HPB.out | exact below_drewN HPB.out _)
                · have HQ : Hid (fnD fs[i] = fnD fs'[i]) := Lib.hid (HBT.out.1 rfl)
                  go_wp2_with fail
                  exact ⟨⟨i + 1, by omega, by go_num, by first | exact HBB.out | exact below_drew HBB.out | exact below_drewN HBB.out _, Lib.hid (fun j h1 h2 h3 => by
                    by_cases e : j = i
                    · subst e; exact HQ.out
                    · exact hE.out j h1 h2 (by omega))⟩, by simp [intOf]; omega⟩
            · have EF2 : Hid (fs.map fnD = fs'.map fnD) := Lib.hid (map_all EF.out (fun j h1 h2 => hE.out j h1 h2 (by omega)))
              obtain rfl : i = fs.length := by omega
              go_wp2_with fail
              go_ret
              exact tells_yes (HY.out EV2.out EX2.out EF2.out) P4.2
end Go.Proofs.Ytpfeiolmkbibiaa
