/- Package dom: lookUp, its walk. -/
import Derived.Test.YtphdhndljgihmaaLkA
namespace Go.Proofs.Ytphdhndljgihmaa
open Go.RowKit Go.Maps Go.Shelf
set_option linter.unusedVariables false
set_option linter.unusedSimpArgs false

section
attribute [local go_sem] Oper.semAt_some
theorem exc_keeps {p : Nat → Prop} {W W' : World} {B : Nat} (h : Exc p W W') (hp : ∀ k, p k → k < B) : KeepsFrom B W W' :=
  ⟨h.size, fun k o hk ho _ => (h.block k (Array.getElem?_eq_some_iff.1 ho).1 (fun e => by have := hp k e; omega)).trans ho⟩
theorem take_back (l : List Nat) (j : Nat) (hj : j < l.length) : ∃ x : Nat, l.take (l.length - j) = l.take (l.length - (j + 1)) ++ [x] ∧ (ints l)[(ints l).length - 1 - j]?.getD 0 = (x : Int) := by
  have h1 := List.take_succ_eq_append_getElem (l := l) (i := l.length - (j + 1)) (by omega)
  rw [show l.length - (j + 1) + 1 = l.length - j by omega] at h1
  refine ⟨_, h1, ?_⟩
  rw [show (ints l).length - 1 - j = l.length - (j + 1) by rw [ints_len]; omega, List.getElem?_eq_getElem (by rw [ints_len]; omega), Option.getD_some, ints_get l _ (by omega)]
theorem row_or {w : World} {B2 cc : Nat} {q : Option Addr} {l : List Nat} {o : Obj} (hr : (w.alloc o).ownsRow (B2 + 1) 3 1 (.slice q l.length cc) l.length ((ints l).flatMap intC)) (hB : B2 < w.heap.size) :
    ∃ g, B2 < g ∧ g < (w.alloc o).heap.size ∧ ((Value.slice q l.length cc = .slice none 0 0 ∧ ints l = []) ∨ ∃ cap, Value.slice q l.length cc = .slice (some ⟨g, 0, none⟩) (ints l).length cap ∧ g < (w.alloc o).heap.size ∧ ∀ j, j < (ints l).length → (w.alloc o).cell? ⟨g, j, none⟩ = some (.int .i64 ((ints l).getD j 0))) := by
  have hlt := hr.lt
  rcases hr.2 with ⟨e, h0⟩ | ⟨g, cap, cur, e, hg, hh, k1, k2, k3, k4⟩
  · refine ⟨w.heap.size, hB, by simp, .inl ⟨e, ?_⟩⟩
    have : l = [] := List.eq_nil_of_length_eq_zero h0
    rw [this]; rfl
  · injection e with e1 e2 e3
    subst e1 e3
    have hlg := (hlt g rfl).2
    refine ⟨g, by omega, hlg, .inr ⟨cc, by rw [ints_len], hlg, fun j hj => ?_⟩⟩
    rw [hr.cellAt j (by rw [ints_len] at hj; omega), intC_map, List.getElem?_map, List.getElem?_eq_getElem hj, List.getD_eq_getElem?_getD, List.getElem?_eq_getElem hj]
    rfl
set_option maxRecDepth 100000 in
set_option maxHeartbeats 2000000 in
theorem lookUp_any {sz a b c k p : Nat} {T : Nat → List Nat} {pa sg smr : Nat → Nat} {ab : Nat → Int} {be : Nat → Nat} (W : World) (D : Dfs sz T pa) (hF : For sz pa sg k ab be) (hM : ForM sz a b c smr ab be W) (hsm : ∀ m, k ≤ m → m < sz → smr m = sg m) (hsr : ∀ m, m < sz → smr m ≤ 1048576) (hp : p < sz) (hsz : sz ≤ 1048576) :
    Calls Try.prog 47 #[.agg #[.slice (some ⟨a, 0, none⟩) sz sz, .slice (some ⟨b, 0, none⟩) sz sz, .slice (some ⟨c, 0, none⟩) sz sz], .int .i64 p] W (LkEnds W sz a b c smr pa sg k p) := by
  have hla := hM.ra.lt
  have hlb := hM.rb.lt
  have hlc := hM.rc.lt
  have hI : LkI W sz a b c smr ab be (W.alloc (.cells #[.slice (some ⟨a, 0, none⟩) sz sz, .slice (some ⟨b, 0, none⟩) sz sz, .slice (some ⟨c, 0, none⟩) sz sz] 78)) :=
    ⟨Exc.of ((Below.refl _ _).alloc (Nat.le_refl _) _), Box.new W rfl _ _, hM.alloc _⟩
  have HC := Lib.hid (And.intro D (And.intro hF (And.intro hsm hsr)))
  have HI := Lib.hid hI
  clear hM D hF hsm hsr hI
  obtain ⟨i0, hi, hz0, hz1, hz2⟩ := info_parts infoInt
  have HIN := Lib.hid (And.intro hi (And.intro hz0 (And.intro hz1 hz2)))
  clear hi hz0 hz1 hz2
  refine (callsIn_wide (n := 8)).1 ?_
  refine callsIn_of_wp_marks Try.func47 rfl trivial ?_ rfl
  refine wpIn_wide.2 ?_
  simp only [Try.ntmps47, List.size_toArray, List.length_cons, List.length_nil, Nat.reduceAdd, Nat.reduceSub, Array.replicate_succ, Array.replicate_zero, List.push_toArray, List.append_toArray, List.nil_append, List.cons_append]
  go_wp2_with fail
  go_loopw [5, 6] (fun vw vm wr => ∃ (l : List Nat) (m : Nat) (q : Option Addr) (cc : Nat), vw = .slice q l.length cc ∧ vm = .int .i64 m ∧ Way ab k p l m ∧ LkI W sz a b c smr ab be wr ∧ wr.ownsRow (W.heap.size + 1) 3 1 (.slice q l.length cc) l.length ((ints l).flatMap intC) ∧ W.heap.size < wr.heap.size) (fun _ vm _ => (intOf vm).toNat)
  case atStart => exact ⟨[], p, none, 0, rfl, rfl, Way.nil, HI.out, World.ownsRow_nil _ _ _ _, by simp⟩
  case round =>
    obtain ⟨l, m, q, cc, rfl, rfl, hw, hI, hr, hsw⟩ := hrel
    have hwf := hw.facts HC.out.2.1 hp
    have hms := hwf.1
    have hll : l.length ≤ 1048576 := by have := hwf.2.2.1; omega
    have x1 := hI.tbox.get 1 _ rfl
    have y0 := hI.fm.rb.cell hms
    rcases Nat.lt_or_ge m k with e | e
    · have ea := (HC.out.2.1.ab_none hms).2 e
      have hbk := hw.back HC.out.2.1 hp (.inl ea)
      rw [ea] at y0
      have H := Lib.hid (And.intro hbk (And.intro hI hr))
      clear hw hI hr hwf ea e hbk HI
      go_wp2_with fail
      go_quiet (fail)
      go_wp2_with fail
      have hdr := below_drewM wr.heap.size wr nq
      have hI2 := H.out.2.1.later hdr
      have hr2 := ownsRow_below H.out.2.2 hdr
      have hsw2 : W.heap.size < (wr.drewN nq).heap.size := Nat.lt_of_lt_of_le hsw hdr.size
      have HB := Lib.hid H.out.1
      generalize hwd : wr.drewN nq = wd at *
      clear H hdr hwd x1 y0
      refine (callsIn_wide.1 (Backward_in Fence.wide 3 trivial rfl q l.length cc wd)).mono ?_
      rintro e w1 ⟨rfl, rfl⟩
      have H2 := Lib.hid (And.intro (hI2.alloc (.cells #[.slice q l.length cc] 22)) (hr2.alloc (.cells #[.slice q l.length cc] 22)))
      have hbB := Box.new wd rfl [.slice q l.length cc] 22
      have hBs := hbB.get 0 _ rfl
      clear hI2 hr2
      go_wp2_with fail
      obtain ⟨g, hg1, hg2, hgv⟩ := row_or (hr := H2.out.2) hsw2
      refine (wpIn_wide (n := 8)).1 ?_
      refine hands_loop (gf := 53) (lb := #[.pointer (some ⟨wd.heap.size, 0, none⟩)]) rfl (by decide) rfl trivial (enters_of Try.func53 (by kernel_rfl) rfl)
        (back_hands Fence.wide 7 trivial rfl (by decide) wd.heap.size g _ (ints l) (by rw [ints_len]; omega) _ (by simp) hBs hgv) kp2_t (kp2_b hg2 (by simp)) (fun _ => rfl)
        (fun j w2 => ∃ (m2 : Nat) (ab2 : Nat → Int) (be2 : Nat → Nat), LkI W sz a b c smr ab2 be2 w2 ∧ Back sz pa sg k p (l.take (l.length - j)) m2 ab2 be2 ∧ wd.heap.size < w2.heap.size)
        (fun j A B row hs hgr hrow => by
          obtain ⟨m2, ab2, be2, h1, h2, h3⟩ := hs
          exact ⟨m2, ab2, be2, h1.kept hgr (fun r e => by have := (hrow r e).1; simp at this; omega) hla hlb hlc, h2, Nat.lt_of_lt_of_le h3 hgr.size⟩)
        ⟨m, ab, be, H2.out.1, by rw [Nat.sub_zero, List.take_length]; exact HB.out, by simp⟩ ?act ?assign ?body ?done
      case assign =>
        intro l2 j W2 K hK
        simp only [bkA]
        gi_wp2
        exact hK
      case body =>
        rintro l2 j W2 ⟨m2, ab2, be2, h1, h2, h3⟩ hj
        rw [ints_len] at hj
        obtain ⟨x, etk, ex⟩ := take_back l j hj
        simp only [ex]
        rw [etk] at h2
        obtain ⟨hx1, hx2, hm1, hm2, hab, hb1, hb2, hbk⟩ := h2.step HC.out.1 (c := if sg (be2 m2) < sg (be2 x) then be2 m2 else be2 x) rfl
        have hl1 := h2.frs.be_low hm1 hm2
        have hmx := (h2.frs.ab_lt hx1 hab).1
        have hl2 := h2.frs.be_low hx1 hx2
        have s1 := HC.out.2.2.1 _ hl1 hb1
        have s2 := HC.out.2.2.1 _ hl2 hb2
        have r0 := h1.tbox.get 0 _ rfl
        have r1 := h1.tbox.get 1 _ rfl
        have r2 := h1.tbox.get 2 _ rfl
        have y0 := h1.fm.rb.cell hx1
        have y1 := h1.fm.rc.cell hm1
        have y2 := h1.fm.rc.cell hx1
        have y3 := h1.fm.ra.cell hb1
        have y4 := h1.fm.ra.cell hb2
        have y5 := h1.fm.rb.cell hm1
        have f1 := h1.fm.rb.frozen x
        have f2 := h1.fm.rc.frozen x
        rw [hab] at y0
        rw [s1] at y3
        rw [s2] at y4
        have HX := Lib.hid (And.intro h1 hbk)
        clear h1 h2 hbk etk ex hab
        obtain ⟨u1, e1⟩ : ∃ u, be2 m2 = u := ⟨_, rfl⟩
        obtain ⟨u2, e2⟩ : ∃ u, be2 x = u := ⟨_, rfl⟩
        obtain ⟨u3, e3⟩ : ∃ u, ab2 m2 = u := ⟨_, rfl⟩
        simp only [e1, e2] at y1 y2 y3 y4 hb1 hb2
        simp only [e3] at y5
        by_cases hlt : sg u1 < sg u2
        · have hd : decide (((sg u1 : Nat) : Int) < ((sg u2 : Nat) : Int)) = true := decide_eq_true (by omega)
          gi_wp2
          refine quiet_round (F := Fence.wide) rfl (by kernel_rfl) (by kernel_rfl) (by kernel_rfl) ?_
          repeat (gi_big_quiet_step (fail))
          refine wpQuietIn_nil ?_
          intro _ hw'
          obtain ⟨nq, hw''⟩ := hw'
          subst hw''
          gi_wp2
          have hI2 := HX.out.1.later (below_drewM _ W2 nq)
          have hE2 : Exc (fun k => k = b ∨ k = c) W2 (W2.drewN nq) := Exc.of (below_drewM _ W2 nq)
          generalize hwq : W2.drewN nq = wq at *
          clear r0 r1 r2 y0 y1 y2 y3 y4 y5 f1 f2 hwq
          have r1 := hI2.tbox.get 1 _ rfl
          have r2 := hI2.tbox.get 2 _ rfl
          have y1 := hI2.fm.rc.cell hm1
          have y2 := hI2.fm.rc.cell hx1
          have f2 := hI2.fm.rc.frozen x
          rw [e1] at y1
          have hI3 : LkI W sz a b c smr ab2 (fun y => if y = x then u1 else be2 y) (wq.setCell ⟨c, x, none⟩ (.int .i64 (u1 : Nat))) := ⟨hI2.exc.set (.inl (.inr rfl)) _, hI2.tbox.other (by omega) _ _, hI2.fm.setC x u1⟩
          have hE3 := hE2.set (a := ⟨c, x, none⟩) (.inl (.inr rfl)) (.int .i64 (u1 : Nat))
          have t1 := hI3.tbox.get 2 _ rfl
          have t2 := hI3.fm.rc.cell hm1
          rw [if_neg (by omega), e1] at t2
          refine region_round (S := fun w' => w'.cell? ⟨W.heap.size, 2, none⟩ = some (.slice (some ⟨c, 0, none⟩) sz sz) ∧ w'.cell? ⟨c, m2, none⟩ = some (.int .i64 (u1 : Nat))) (by kernel_rfl) (by kernel_rfl) (fun _ _ h => h) ⟨r2, y1⟩ (fun hHeld => ?_)
          refine wpAnyH_take (i := 0) (v := ?_) rfl (by kernel_rfl) (by kernel_rfl) (by kernel_rfl) (fun _ _ _ h => h) (Or.inl ⟨by rfl, ?_⟩) (by assumption) ?_
          rotate_left
          · intro w hSw
            obtain ⟨hSw0, hSw1⟩ := hSw
            go_simp
            try (with_reducible rfl)
          try simp only [Act.put, List.setIfInBounds_toArray, List.set_cons_zero, List.set_cons_succ]
          refine wpAnyH_take (i := 1) (v := ?_) rfl (by kernel_rfl) (by kernel_rfl) (by kernel_rfl) (fun _ _ _ h => h) (Or.inl ⟨by rfl, ?_⟩) (by assumption) ?_
          rotate_left
          · intro w hSw
            obtain ⟨hSw0, hSw1⟩ := hSw
            go_simp
            try (with_reducible rfl)
          try simp only [Act.put, List.setIfInBounds_toArray, List.set_cons_zero, List.set_cons_succ]
          refine wpAnyH_take (i := 2) (v := ?_) rfl (by kernel_rfl) (by kernel_rfl) (by kernel_rfl) (fun _ _ _ h => h) (Or.inl ⟨by rfl, ?_⟩) (by assumption) ?_
          rotate_left
          · intro w hSw
            obtain ⟨hSw0, hSw1⟩ := hSw
            go_simp
            try (with_reducible rfl)
          try simp only [Act.put, List.setIfInBounds_toArray, List.set_cons_zero, List.set_cons_succ]
          refine wpAnyH_take (i := 3) (v := ?_) rfl (by kernel_rfl) (by kernel_rfl) (by kernel_rfl) (fun _ _ _ h => h) (Or.inl ⟨by rfl, ?_⟩) (by assumption) ?_
          rotate_left
          · intro w hSw
            obtain ⟨hSw0, hSw1⟩ := hSw
            go_simp
            try (with_reducible rfl)
          try simp only [Act.put, List.setIfInBounds_toArray, List.set_cons_zero, List.set_cons_succ]
          refine wpAnyH_take (i := 4) (v := ?_) rfl (by kernel_rfl) (by kernel_rfl) (by kernel_rfl) (fun _ _ _ h => h) (Or.inl ⟨by rfl, ?_⟩) (by assumption) ?_
          rotate_left
          · intro w hSw
            obtain ⟨hSw0, hSw1⟩ := hSw
            go_simp
            try (with_reducible rfl)
          try simp only [Act.put, List.setIfInBounds_toArray, List.set_cons_zero, List.set_cons_succ]
          refine wpAnyH_take (i := 5) (v := ?_) rfl (by kernel_rfl) (by kernel_rfl) (by kernel_rfl) (fun _ _ _ h => h) (Or.inl ⟨by rfl, ?_⟩) (by assumption) ?_
          rotate_left
          · intro w hSw
            obtain ⟨hSw0, hSw1⟩ := hSw
            go_simp
            try (with_reducible rfl)
          try simp only [Act.put, List.setIfInBounds_toArray, List.set_cons_zero, List.set_cons_succ]
          refine wpAnyH_take (i := 6) (v := ?_) rfl (by kernel_rfl) (by kernel_rfl) (by kernel_rfl) (fun _ _ _ h => h) (Or.inl ⟨by rfl, ?_⟩) (by assumption) ?_
          rotate_left
          · intro w hSw
            obtain ⟨hSw0, hSw1⟩ := hSw
            go_simp
            try (with_reducible rfl)
          try simp only [Act.put, List.setIfInBounds_toArray, List.set_cons_zero, List.set_cons_succ]
          refine wpAnyH_take (i := 7) (v := ?_) rfl (by kernel_rfl) (by kernel_rfl) (by kernel_rfl) (fun _ _ _ h => h) (Or.inl ⟨by rfl, ?_⟩) (by assumption) ?_
          rotate_left
          · intro w hSw
            obtain ⟨hSw0, hSw1⟩ := hSw
            go_simp
            try (with_reducible rfl)
          try simp only [Act.put, List.setIfInBounds_toArray, List.set_cons_zero, List.set_cons_succ]
          refine wpAnyH_take (i := 8) (v := ?_) rfl (by kernel_rfl) (by kernel_rfl) (by kernel_rfl) (fun _ _ _ h => h) (Or.inl ⟨by rfl, ?_⟩) (by assumption) ?_
          rotate_left
          · intro w hSw
            obtain ⟨hSw0, hSw1⟩ := hSw
            go_simp
            try (with_reducible rfl)
          try simp only [Act.put, List.setIfInBounds_toArray, List.set_cons_zero, List.set_cons_succ]
          refine wpAnyH_ready (rs := [9]) (by kernel_rfl) (by simp) ?_
          refine AllReadyH.cons rfl (fun K hK => ?_) AllReadyH.nil
          go_simp
          refine hK.out _ _ ⟨t1, t2⟩ (fun hHeld => ?_)
          clear hK K
          try simp only [Act.put, List.setIfInBounds_toArray, List.set_cons_zero, List.set_cons_succ]
          refine wpAnyH_done (by kernel_rfl) ?_ _
          have hI4 := hI3.later (below_drew (Below.refl _ _))
          have hE4 := hE3.later (below_drew (Below.refl _ _))
          simp only [OnlyN]
          generalize hwu : ((wq.setCell ⟨c, x, none⟩ (.int .i64 (u1 : Nat))).drew) = wu at *
          clear hI3 hE3 t1 t2 r1 r2 y1 y2 f2 hE2 hI2 hwu hHeld
          have q1 := hI4.tbox.get 1 _ rfl
          gi_wp2
          have q2 := hI4.fm.rb.cell hm1
          have q3 := hI4.fm.rb.frozen x
          have q4 := hI4.fm.rb.cell hx1
          rw [e3] at q2
          have hI5 : LkI W sz a b c smr (fun y => if y = x then u3 else ab2 y) (fun y => if y = x then u1 else be2 y) (wu.setCell ⟨b, x, none⟩ (.int .i64 u3)) := ⟨hI4.exc.set (.inl (.inl rfl)) _, hI4.tbox.other (by omega) _ _, hI4.fm.setB x u3⟩
          have p1 := hI5.tbox.get 1 _ rfl
          have p2 := hI5.fm.rb.cell hm1
          rw [if_neg (by omega), e3] at p2
          refine region_round (S := fun w' => w'.cell? ⟨W.heap.size, 1, none⟩ = some (.slice (some ⟨b, 0, none⟩) sz sz) ∧ w'.cell? ⟨b, m2, none⟩ = some (.int .i64 u3)) (by kernel_rfl) (by kernel_rfl) (fun _ _ h => h) ⟨q1, q2⟩ (fun hHeld => ?_)
          refine wpAnyH_take (i := 0) (v := ?_) rfl (by kernel_rfl) (by kernel_rfl) (by kernel_rfl) (fun _ _ _ h => h) (Or.inl ⟨by rfl, ?_⟩) (by assumption) ?_
          rotate_left
          · intro w hSw
            obtain ⟨hSw0, hSw1⟩ := hSw
            go_simp
            try (with_reducible rfl)
          try simp only [Act.put, List.setIfInBounds_toArray, List.set_cons_zero, List.set_cons_succ]
          refine wpAnyH_take (i := 1) (v := ?_) rfl (by kernel_rfl) (by kernel_rfl) (by kernel_rfl) (fun _ _ _ h => h) (Or.inl ⟨by rfl, ?_⟩) (by assumption) ?_
          rotate_left
          · intro w hSw
            obtain ⟨hSw0, hSw1⟩ := hSw
            go_simp
            try (with_reducible rfl)
          try simp only [Act.put, List.setIfInBounds_toArray, List.set_cons_zero, List.set_cons_succ]
          refine wpAnyH_take (i := 2) (v := ?_) rfl (by kernel_rfl) (by kernel_rfl) (by kernel_rfl) (fun _ _ _ h => h) (Or.inl ⟨by rfl, ?_⟩) (by assumption) ?_
          rotate_left
          · intro w hSw
            obtain ⟨hSw0, hSw1⟩ := hSw
            go_simp
            try (with_reducible rfl)
          try simp only [Act.put, List.setIfInBounds_toArray, List.set_cons_zero, List.set_cons_succ]
          refine wpAnyH_take (i := 3) (v := ?_) rfl (by kernel_rfl) (by kernel_rfl) (by kernel_rfl) (fun _ _ _ h => h) (Or.inl ⟨by rfl, ?_⟩) (by assumption) ?_
          rotate_left
          · intro w hSw
            obtain ⟨hSw0, hSw1⟩ := hSw
            go_simp
            try (with_reducible rfl)
          try simp only [Act.put, List.setIfInBounds_toArray, List.set_cons_zero, List.set_cons_succ]
          refine wpAnyH_take (i := 4) (v := ?_) rfl (by kernel_rfl) (by kernel_rfl) (by kernel_rfl) (fun _ _ _ h => h) (Or.inl ⟨by rfl, ?_⟩) (by assumption) ?_
          rotate_left
          · intro w hSw
            obtain ⟨hSw0, hSw1⟩ := hSw
            go_simp
            try (with_reducible rfl)
          try simp only [Act.put, List.setIfInBounds_toArray, List.set_cons_zero, List.set_cons_succ]
          refine wpAnyH_take (i := 5) (v := ?_) rfl (by kernel_rfl) (by kernel_rfl) (by kernel_rfl) (fun _ _ _ h => h) (Or.inl ⟨by rfl, ?_⟩) (by assumption) ?_
          rotate_left
          · intro w hSw
            obtain ⟨hSw0, hSw1⟩ := hSw
            go_simp
            try (with_reducible rfl)
          try simp only [Act.put, List.setIfInBounds_toArray, List.set_cons_zero, List.set_cons_succ]
          refine wpAnyH_take (i := 6) (v := ?_) rfl (by kernel_rfl) (by kernel_rfl) (by kernel_rfl) (fun _ _ _ h => h) (Or.inl ⟨by rfl, ?_⟩) (by assumption) ?_
          rotate_left
          · intro w hSw
            obtain ⟨hSw0, hSw1⟩ := hSw
            go_simp
            try (with_reducible rfl)
          try simp only [Act.put, List.setIfInBounds_toArray, List.set_cons_zero, List.set_cons_succ]
          refine wpAnyH_take (i := 7) (v := ?_) rfl (by kernel_rfl) (by kernel_rfl) (by kernel_rfl) (fun _ _ _ h => h) (Or.inl ⟨by rfl, ?_⟩) (by assumption) ?_
          rotate_left
          · intro w hSw
            obtain ⟨hSw0, hSw1⟩ := hSw
            go_simp
            try (with_reducible rfl)
          try simp only [Act.put, List.setIfInBounds_toArray, List.set_cons_zero, List.set_cons_succ]
          refine wpAnyH_take (i := 8) (v := ?_) rfl (by kernel_rfl) (by kernel_rfl) (by kernel_rfl) (fun _ _ _ h => h) (Or.inl ⟨by rfl, ?_⟩) (by assumption) ?_
          rotate_left
          · intro w hSw
            obtain ⟨hSw0, hSw1⟩ := hSw
            go_simp
            try (with_reducible rfl)
          try simp only [Act.put, List.setIfInBounds_toArray, List.set_cons_zero, List.set_cons_succ]
          refine wpAnyH_ready (rs := [9]) (by kernel_rfl) (by simp) ?_
          refine AllReadyH.cons rfl (fun K hK => ?_) AllReadyH.nil
          go_simp
          refine hK.out _ _ ⟨p1, p2⟩ (fun hHeld => ?_)
          clear hK K
          try simp only [Act.put, List.setIfInBounds_toArray, List.set_cons_zero, List.set_cons_succ]
          refine wpAnyH_done (by kernel_rfl) ?_ _
          simp only [OnlyN]
          have hE5 := (hE4.set (a := ⟨b, x, none⟩) (.inl (.inl rfl)) (.int .i64 u3)).later (below_drew (Below.refl _ _))
          have hI6 := hI5.later (below_drew (Below.refl _ _))
          clear hI5 hI4 hE4 p1 p2 q1 q2 q3 q4 hHeld
          go_simp
          refine ⟨rfl, exc_keeps (B := (wd.alloc (.cells #[.slice q l.length cc] 22)).heap.size) hE5 (fun y hy => by have hy : y = b ∨ y = c := hy; rw [World.size_alloc]; omega), ⟨hE5.block g (by rw [World.size_alloc] at hg2; omega) (by omega), hE5.block _ h3 (by omega)⟩, x, _, _, ⟨hI6.exc, hI6.tbox, hI6.fm.congr (fun _ _ => rfl) (fun i _ => ?_) (fun i _ => ?_)⟩, HX.out.2, Nat.lt_of_lt_of_le h3 hE5.size⟩
          · rw [e3]
          · rw [e1, e2, if_pos hlt]
        · have hd : decide (((sg u1 : Nat) : Int) < ((sg u2 : Nat) : Int)) = false := decide_eq_false (by omega)
          gi_wp2
          refine quiet_round (F := Fence.wide) rfl (by kernel_rfl) (by kernel_rfl) (by kernel_rfl) ?_
          repeat (gi_big_quiet_step (fail))
          refine wpQuietIn_nil ?_
          intro _ hw'
          obtain ⟨nq, hw''⟩ := hw'
          subst hw''
          gi_wp2
          have hI2 := HX.out.1.later (below_drewM _ W2 nq)
          have hE2 : Exc (fun k => k = b ∨ k = c) W2 (W2.drewN nq) := Exc.of (below_drewM _ W2 nq)
          generalize hwq : W2.drewN nq = wq at *
          clear r0 r1 r2 y0 y1 y2 y3 y4 y5 f1 f2 hwq
          have hI4 := hI2
          have hE4 := hE2
          clear hI2 hE2
          have q1 := hI4.tbox.get 1 _ rfl
          gi_wp2
          have q2 := hI4.fm.rb.cell hm1
          have q3 := hI4.fm.rb.frozen x
          have q4 := hI4.fm.rb.cell hx1
          rw [e3] at q2
          have hI5 : LkI W sz a b c smr (fun y => if y = x then u3 else ab2 y) be2 (wq.setCell ⟨b, x, none⟩ (.int .i64 u3)) := ⟨hI4.exc.set (.inl (.inl rfl)) _, hI4.tbox.other (by omega) _ _, hI4.fm.setB x u3⟩
          have p1 := hI5.tbox.get 1 _ rfl
          have p2 := hI5.fm.rb.cell hm1
          rw [if_neg (by omega), e3] at p2
          refine region_round (S := fun w' => w'.cell? ⟨W.heap.size, 1, none⟩ = some (.slice (some ⟨b, 0, none⟩) sz sz) ∧ w'.cell? ⟨b, m2, none⟩ = some (.int .i64 u3)) (by kernel_rfl) (by kernel_rfl) (fun _ _ h => h) ⟨q1, q2⟩ (fun hHeld => ?_)
          refine wpAnyH_take (i := 0) (v := ?_) rfl (by kernel_rfl) (by kernel_rfl) (by kernel_rfl) (fun _ _ _ h => h) (Or.inl ⟨by rfl, ?_⟩) (by assumption) ?_
          rotate_left
          · intro w hSw
            obtain ⟨hSw0, hSw1⟩ := hSw
            go_simp
            try (with_reducible rfl)
          try simp only [Act.put, List.setIfInBounds_toArray, List.set_cons_zero, List.set_cons_succ]
          refine wpAnyH_take (i := 1) (v := ?_) rfl (by kernel_rfl) (by kernel_rfl) (by kernel_rfl) (fun _ _ _ h => h) (Or.inl ⟨by rfl, ?_⟩) (by assumption) ?_
          rotate_left
          · intro w hSw
            obtain ⟨hSw0, hSw1⟩ := hSw
            go_simp
            try (with_reducible rfl)
          try simp only [Act.put, List.setIfInBounds_toArray, List.set_cons_zero, List.set_cons_succ]
          refine wpAnyH_take (i := 2) (v := ?_) rfl (by kernel_rfl) (by kernel_rfl) (by kernel_rfl) (fun _ _ _ h => h) (Or.inl ⟨by rfl, ?_⟩) (by assumption) ?_
          rotate_left
          · intro w hSw
            obtain ⟨hSw0, hSw1⟩ := hSw
            go_simp
            try (with_reducible rfl)
          try simp only [Act.put, List.setIfInBounds_toArray, List.set_cons_zero, List.set_cons_succ]
          refine wpAnyH_take (i := 3) (v := ?_) rfl (by kernel_rfl) (by kernel_rfl) (by kernel_rfl) (fun _ _ _ h => h) (Or.inl ⟨by rfl, ?_⟩) (by assumption) ?_
          rotate_left
          · intro w hSw
            obtain ⟨hSw0, hSw1⟩ := hSw
            go_simp
            try (with_reducible rfl)
          try simp only [Act.put, List.setIfInBounds_toArray, List.set_cons_zero, List.set_cons_succ]
          refine wpAnyH_take (i := 4) (v := ?_) rfl (by kernel_rfl) (by kernel_rfl) (by kernel_rfl) (fun _ _ _ h => h) (Or.inl ⟨by rfl, ?_⟩) (by assumption) ?_
          rotate_left
          · intro w hSw
            obtain ⟨hSw0, hSw1⟩ := hSw
            go_simp
            try (with_reducible rfl)
          try simp only [Act.put, List.setIfInBounds_toArray, List.set_cons_zero, List.set_cons_succ]
          refine wpAnyH_take (i := 5) (v := ?_) rfl (by kernel_rfl) (by kernel_rfl) (by kernel_rfl) (fun _ _ _ h => h) (Or.inl ⟨by rfl, ?_⟩) (by assumption) ?_
          rotate_left
          · intro w hSw
            obtain ⟨hSw0, hSw1⟩ := hSw
            go_simp
            try (with_reducible rfl)
          try simp only [Act.put, List.setIfInBounds_toArray, List.set_cons_zero, List.set_cons_succ]
          refine wpAnyH_take (i := 6) (v := ?_) rfl (by kernel_rfl) (by kernel_rfl) (by kernel_rfl) (fun _ _ _ h => h) (Or.inl ⟨by rfl, ?_⟩) (by assumption) ?_
          rotate_left
          · intro w hSw
            obtain ⟨hSw0, hSw1⟩ := hSw
            go_simp
            try (with_reducible rfl)
          try simp only [Act.put, List.setIfInBounds_toArray, List.set_cons_zero, List.set_cons_succ]
          refine wpAnyH_take (i := 7) (v := ?_) rfl (by kernel_rfl) (by kernel_rfl) (by kernel_rfl) (fun _ _ _ h => h) (Or.inl ⟨by rfl, ?_⟩) (by assumption) ?_
          rotate_left
          · intro w hSw
            obtain ⟨hSw0, hSw1⟩ := hSw
            go_simp
            try (with_reducible rfl)
          try simp only [Act.put, List.setIfInBounds_toArray, List.set_cons_zero, List.set_cons_succ]
          refine wpAnyH_take (i := 8) (v := ?_) rfl (by kernel_rfl) (by kernel_rfl) (by kernel_rfl) (fun _ _ _ h => h) (Or.inl ⟨by rfl, ?_⟩) (by assumption) ?_
          rotate_left
          · intro w hSw
            obtain ⟨hSw0, hSw1⟩ := hSw
            go_simp
            try (with_reducible rfl)
          try simp only [Act.put, List.setIfInBounds_toArray, List.set_cons_zero, List.set_cons_succ]
          refine wpAnyH_ready (rs := [9]) (by kernel_rfl) (by simp) ?_
          refine AllReadyH.cons rfl (fun K hK => ?_) AllReadyH.nil
          go_simp
          refine hK.out _ _ ⟨p1, p2⟩ (fun hHeld => ?_)
          clear hK K
          try simp only [Act.put, List.setIfInBounds_toArray, List.set_cons_zero, List.set_cons_succ]
          refine wpAnyH_done (by kernel_rfl) ?_ _
          simp only [OnlyN]
          have hE5 := (hE4.set (a := ⟨b, x, none⟩) (.inl (.inl rfl)) (.int .i64 u3)).later (below_drew (Below.refl _ _))
          have hI6 := hI5.later (below_drew (Below.refl _ _))
          clear hI5 hI4 hE4 p1 p2 q1 q2 q3 q4 hHeld
          go_simp
          refine ⟨rfl, exc_keeps (B := (wd.alloc (.cells #[.slice q l.length cc] 22)).heap.size) hE5 (fun y hy => by have hy : y = b ∨ y = c := hy; rw [World.size_alloc]; omega), ⟨hE5.block g (by rw [World.size_alloc] at hg2; omega) (by omega), hE5.block _ h3 (by omega)⟩, x, _, _, ⟨hI6.exc, hI6.tbox, hI6.fm.congr (fun _ _ => rfl) (fun i _ => ?_) (fun i _ => ?_)⟩, HX.out.2, Nat.lt_of_lt_of_le h3 hE5.size⟩
          · rw [e3]
          · rw [e1, e2, if_neg hlt]
            by_cases e : i = x
            · rw [if_pos e, e, e2]
            · rw [if_neg e]
      case done =>
        rintro D2 W2 hD ⟨m2, ab2, be2, h1, h2, h3⟩ hK
        rw [ints_len, Nat.sub_self, List.take_zero] at h2
        have r2 := h1.tbox.get 2 _ rfl
        have y0 := h1.fm.rc.cell hp
        have hbe := h2.frs.be_le HC.out.1 hp
        have HX := Lib.hid (And.intro h1 (And.intro h2 hK))
        clear h1 h2 hK
        go_simp
        go_wp2_with fail
        refine ⟨by simp, .inl ⟨_, _, rfl, run_takeDeferred HX.out.2.2, ?_⟩⟩
        rw [World.size_alloc] at hD
        have hpo := grownBy_putObj' W2 D2 (.deferred none)
        refine ⟨_, results_tmp rfl _ _ _, ab2, be2, rfl, by omega, HX.out.1.exc.grown hpo (fun r e => by cases e; exact .inr (by omega)), HX.out.1.fm.kept hpo (fun e => by cases e; omega) (fun e => by cases e; omega) (fun e => by cases e; omega), HX.out.2.1.frs, HX.out.2.1.ends⟩
    · obtain ⟨a1, ea1, ha1⟩ := HC.out.2.1.ab_some hms e
      rw [ea1] at y0
      have y1 := hI.fm.rb.cell (show a1 < sz by omega)
      have hne := nat_ne a1
      have ha1s : a1 < sz := by omega
      rcases Nat.lt_or_ge a1 k with e2 | e2
      · have ea := (HC.out.2.1.ab_none ha1s).2 e2
        have hbk := hw.back HC.out.2.1 hp (.inr ⟨a1, ea1, ea⟩)
        rw [ea] at y1
        have H := Lib.hid (And.intro hbk (And.intro hI hr))
        clear hw hI hr hwf ea e hbk HI ea1
        go_wp2_with fail
        go_quiet (fail)
        go_wp2_with fail
        have hdr := below_drewM wr.heap.size wr nq
        have hI2 := H.out.2.1.later hdr
        have hr2 := ownsRow_below H.out.2.2 hdr
        have hsw2 : W.heap.size < (wr.drewN nq).heap.size := Nat.lt_of_lt_of_le hsw hdr.size
        have HB := Lib.hid H.out.1
        generalize hwd : wr.drewN nq = wd at *
        clear H hdr hwd x1 y0 y1 hne e2 ha1 ha1s
        refine (callsIn_wide.1 (Backward_in Fence.wide 3 trivial rfl q l.length cc wd)).mono ?_
        rintro e w1 ⟨rfl, rfl⟩
        have H2 := Lib.hid (And.intro (hI2.alloc (.cells #[.slice q l.length cc] 22)) (hr2.alloc (.cells #[.slice q l.length cc] 22)))
        have hbB := Box.new wd rfl [.slice q l.length cc] 22
        have hBs := hbB.get 0 _ rfl
        clear hI2 hr2
        go_wp2_with fail
        obtain ⟨g, hg1, hg2, hgv⟩ := row_or (hr := H2.out.2) hsw2
        refine (wpIn_wide (n := 8)).1 ?_
        refine hands_loop (gf := 53) (lb := #[.pointer (some ⟨wd.heap.size, 0, none⟩)]) rfl (by decide) rfl trivial (enters_of Try.func53 (by kernel_rfl) rfl)
          (back_hands Fence.wide 7 trivial rfl (by decide) wd.heap.size g _ (ints l) (by rw [ints_len]; omega) _ (by simp) hBs hgv) kp2_t (kp2_b hg2 (by simp)) (fun _ => rfl)
          (fun j w2 => ∃ (m2 : Nat) (ab2 : Nat → Int) (be2 : Nat → Nat), LkI W sz a b c smr ab2 be2 w2 ∧ Back sz pa sg k p (l.take (l.length - j)) m2 ab2 be2 ∧ wd.heap.size < w2.heap.size)
          (fun j A B row hs hgr hrow => by
            obtain ⟨m2, ab2, be2, h1, h2, h3⟩ := hs
            exact ⟨m2, ab2, be2, h1.kept hgr (fun r e => by have := (hrow r e).1; simp at this; omega) hla hlb hlc, h2, Nat.lt_of_lt_of_le h3 hgr.size⟩)
          ⟨m, ab, be, H2.out.1, by rw [Nat.sub_zero, List.take_length]; exact HB.out, by simp⟩ ?act2 ?assign ?body ?done
        case assign =>
          intro l2 j W2 K hK
          simp only [bkA]
          gi_wp2
          exact hK
        case body =>
          rintro l2 j W2 ⟨m2, ab2, be2, h1, h2, h3⟩ hj
          rw [ints_len] at hj
          obtain ⟨x, etk, ex⟩ := take_back l j hj
          simp only [ex]
          rw [etk] at h2
          obtain ⟨hx1, hx2, hm1, hm2, hab, hb1, hb2, hbk⟩ := h2.step HC.out.1 (c := if sg (be2 m2) < sg (be2 x) then be2 m2 else be2 x) rfl
          have hl1 := h2.frs.be_low hm1 hm2
          have hmx := (h2.frs.ab_lt hx1 hab).1
          have hl2 := h2.frs.be_low hx1 hx2
          have s1 := HC.out.2.2.1 _ hl1 hb1
          have s2 := HC.out.2.2.1 _ hl2 hb2
          have r0 := h1.tbox.get 0 _ rfl
          have r1 := h1.tbox.get 1 _ rfl
          have r2 := h1.tbox.get 2 _ rfl
          have y0 := h1.fm.rb.cell hx1
          have y1 := h1.fm.rc.cell hm1
          have y2 := h1.fm.rc.cell hx1
          have y3 := h1.fm.ra.cell hb1
          have y4 := h1.fm.ra.cell hb2
          have y5 := h1.fm.rb.cell hm1
          have f1 := h1.fm.rb.frozen x
          have f2 := h1.fm.rc.frozen x
          rw [hab] at y0
          rw [s1] at y3
          rw [s2] at y4
          have HX := Lib.hid (And.intro h1 hbk)
          clear h1 h2 hbk etk ex hab
          obtain ⟨u1, e1⟩ : ∃ u, be2 m2 = u := ⟨_, rfl⟩
          obtain ⟨u2, e2⟩ : ∃ u, be2 x = u := ⟨_, rfl⟩
          obtain ⟨u3, e3⟩ : ∃ u, ab2 m2 = u := ⟨_, rfl⟩
          simp only [e1, e2] at y1 y2 y3 y4 hb1 hb2
          simp only [e3] at y5
          by_cases hlt : sg u1 < sg u2
          · have hd : decide (((sg u1 : Nat) : Int) < ((sg u2 : Nat) : Int)) = true := decide_eq_true (by omega)
            gi_wp2
            refine quiet_round (F := Fence.wide) rfl (by kernel_rfl) (by kernel_rfl) (by kernel_rfl) ?_
            repeat (gi_big_quiet_step (fail))
            refine wpQuietIn_nil ?_
            intro _ hw'
            obtain ⟨nq, hw''⟩ := hw'
            subst hw''
            gi_wp2
            have hI2 := HX.out.1.later (below_drewM _ W2 nq)
            have hE2 : Exc (fun k => k = b ∨ k = c) W2 (W2.drewN nq) := Exc.of (below_drewM _ W2 nq)
            generalize hwq : W2.drewN nq = wq at *
            clear r0 r1 r2 y0 y1 y2 y3 y4 y5 f1 f2 hwq
            have r1 := hI2.tbox.get 1 _ rfl
            have r2 := hI2.tbox.get 2 _ rfl
            have y1 := hI2.fm.rc.cell hm1
            have y2 := hI2.fm.rc.cell hx1
            have f2 := hI2.fm.rc.frozen x
            rw [e1] at y1
            have hI3 : LkI W sz a b c smr ab2 (fun y => if y = x then u1 else be2 y) (wq.setCell ⟨c, x, none⟩ (.int .i64 (u1 : Nat))) := ⟨hI2.exc.set (.inl (.inr rfl)) _, hI2.tbox.other (by omega) _ _, hI2.fm.setC x u1⟩
            have hE3 := hE2.set (a := ⟨c, x, none⟩) (.inl (.inr rfl)) (.int .i64 (u1 : Nat))
            have t1 := hI3.tbox.get 2 _ rfl
            have t2 := hI3.fm.rc.cell hm1
            rw [if_neg (by omega), e1] at t2
            refine region_round (S := fun w' => w'.cell? ⟨W.heap.size, 2, none⟩ = some (.slice (some ⟨c, 0, none⟩) sz sz) ∧ w'.cell? ⟨c, m2, none⟩ = some (.int .i64 (u1 : Nat))) (by kernel_rfl) (by kernel_rfl) (fun _ _ h => h) ⟨r2, y1⟩ (fun hHeld => ?_)
            refine wpAnyH_take (i := 0) (v := ?_) rfl (by kernel_rfl) (by kernel_rfl) (by kernel_rfl) (fun _ _ _ h => h) (Or.inl ⟨by rfl, ?_⟩) (by assumption) ?_
            rotate_left
            · intro w hSw
              obtain ⟨hSw0, hSw1⟩ := hSw
              go_simp
              try (with_reducible rfl)
            try simp only [Act.put, List.setIfInBounds_toArray, List.set_cons_zero, List.set_cons_succ]
            refine wpAnyH_take (i := 1) (v := ?_) rfl (by kernel_rfl) (by kernel_rfl) (by kernel_rfl) (fun _ _ _ h => h) (Or.inl ⟨by rfl, ?_⟩) (by assumption) ?_
            rotate_left
            · intro w hSw
              obtain ⟨hSw0, hSw1⟩ := hSw
              go_simp
              try (with_reducible rfl)
            try simp only [Act.put, List.setIfInBounds_toArray, List.set_cons_zero, List.set_cons_succ]
            refine wpAnyH_take (i := 2) (v := ?_) rfl (by kernel_rfl) (by kernel_rfl) (by kernel_rfl) (fun _ _ _ h => h) (Or.inl ⟨by rfl, ?_⟩) (by assumption) ?_
            rotate_left
            · intro w hSw
              obtain ⟨hSw0, hSw1⟩ := hSw
              go_simp
              try (with_reducible rfl)
            try simp only [Act.put, List.setIfInBounds_toArray, List.set_cons_zero, List.set_cons_succ]
            refine wpAnyH_take (i := 3) (v := ?_) rfl (by kernel_rfl) (by kernel_rfl) (by kernel_rfl) (fun _ _ _ h => h) (Or.inl ⟨by rfl, ?_⟩) (by assumption) ?_
            rotate_left
            · intro w hSw
              obtain ⟨hSw0, hSw1⟩ := hSw
              go_simp
              try (with_reducible rfl)
            try simp only [Act.put, List.setIfInBounds_toArray, List.set_cons_zero, List.set_cons_succ]
            refine wpAnyH_take (i := 4) (v := ?_) rfl (by kernel_rfl) (by kernel_rfl) (by kernel_rfl) (fun _ _ _ h => h) (Or.inl ⟨by rfl, ?_⟩) (by assumption) ?_
            rotate_left
            · intro w hSw
              obtain ⟨hSw0, hSw1⟩ := hSw
              go_simp
              try (with_reducible rfl)
            try simp only [Act.put, List.setIfInBounds_toArray, List.set_cons_zero, List.set_cons_succ]
            refine wpAnyH_take (i := 5) (v := ?_) rfl (by kernel_rfl) (by kernel_rfl) (by kernel_rfl) (fun _ _ _ h => h) (Or.inl ⟨by rfl, ?_⟩) (by assumption) ?_
            rotate_left
            · intro w hSw
              obtain ⟨hSw0, hSw1⟩ := hSw
              go_simp
              try (with_reducible rfl)
            try simp only [Act.put, List.setIfInBounds_toArray, List.set_cons_zero, List.set_cons_succ]
            refine wpAnyH_take (i := 6) (v := ?_) rfl (by kernel_rfl) (by kernel_rfl) (by kernel_rfl) (fun _ _ _ h => h) (Or.inl ⟨by rfl, ?_⟩) (by assumption) ?_
            rotate_left
            · intro w hSw
              obtain ⟨hSw0, hSw1⟩ := hSw
              go_simp
              try (with_reducible rfl)
            try simp only [Act.put, List.setIfInBounds_toArray, List.set_cons_zero, List.set_cons_succ]
            refine wpAnyH_take (i := 7) (v := ?_) rfl (by kernel_rfl) (by kernel_rfl) (by kernel_rfl) (fun _ _ _ h => h) (Or.inl ⟨by rfl, ?_⟩) (by assumption) ?_
            rotate_left
            · intro w hSw
              obtain ⟨hSw0, hSw1⟩ := hSw
              go_simp
              try (with_reducible rfl)
            try simp only [Act.put, List.setIfInBounds_toArray, List.set_cons_zero, List.set_cons_succ]
            refine wpAnyH_take (i := 8) (v := ?_) rfl (by kernel_rfl) (by kernel_rfl) (by kernel_rfl) (fun _ _ _ h => h) (Or.inl ⟨by rfl, ?_⟩) (by assumption) ?_
            rotate_left
            · intro w hSw
              obtain ⟨hSw0, hSw1⟩ := hSw
              go_simp
              try (with_reducible rfl)
            try simp only [Act.put, List.setIfInBounds_toArray, List.set_cons_zero, List.set_cons_succ]
            refine wpAnyH_ready (rs := [9]) (by kernel_rfl) (by simp) ?_
            refine AllReadyH.cons rfl (fun K hK => ?_) AllReadyH.nil
            go_simp
            refine hK.out _ _ ⟨t1, t2⟩ (fun hHeld => ?_)
            clear hK K
            try simp only [Act.put, List.setIfInBounds_toArray, List.set_cons_zero, List.set_cons_succ]
            refine wpAnyH_done (by kernel_rfl) ?_ _
            have hI4 := hI3.later (below_drew (Below.refl _ _))
            have hE4 := hE3.later (below_drew (Below.refl _ _))
            simp only [OnlyN]
            generalize hwu : ((wq.setCell ⟨c, x, none⟩ (.int .i64 (u1 : Nat))).drew) = wu at *
            clear hI3 hE3 t1 t2 r1 r2 y1 y2 f2 hE2 hI2 hwu hHeld
            have q1 := hI4.tbox.get 1 _ rfl
            gi_wp2
            have q2 := hI4.fm.rb.cell hm1
            have q3 := hI4.fm.rb.frozen x
            have q4 := hI4.fm.rb.cell hx1
            rw [e3] at q2
            have hI5 : LkI W sz a b c smr (fun y => if y = x then u3 else ab2 y) (fun y => if y = x then u1 else be2 y) (wu.setCell ⟨b, x, none⟩ (.int .i64 u3)) := ⟨hI4.exc.set (.inl (.inl rfl)) _, hI4.tbox.other (by omega) _ _, hI4.fm.setB x u3⟩
            have p1 := hI5.tbox.get 1 _ rfl
            have p2 := hI5.fm.rb.cell hm1
            rw [if_neg (by omega), e3] at p2
            refine region_round (S := fun w' => w'.cell? ⟨W.heap.size, 1, none⟩ = some (.slice (some ⟨b, 0, none⟩) sz sz) ∧ w'.cell? ⟨b, m2, none⟩ = some (.int .i64 u3)) (by kernel_rfl) (by kernel_rfl) (fun _ _ h => h) ⟨q1, q2⟩ (fun hHeld => ?_)
            refine wpAnyH_take (i := 0) (v := ?_) rfl (by kernel_rfl) (by kernel_rfl) (by kernel_rfl) (fun _ _ _ h => h) (Or.inl ⟨by rfl, ?_⟩) (by assumption) ?_
            rotate_left
            · intro w hSw
              obtain ⟨hSw0, hSw1⟩ := hSw
              go_simp
              try (with_reducible rfl)
            try simp only [Act.put, List.setIfInBounds_toArray, List.set_cons_zero, List.set_cons_succ]
            refine wpAnyH_take (i := 1) (v := ?_) rfl (by kernel_rfl) (by kernel_rfl) (by kernel_rfl) (fun _ _ _ h => h) (Or.inl ⟨by rfl, ?_⟩) (by assumption) ?_
            rotate_left
            · intro w hSw
              obtain ⟨hSw0, hSw1⟩ := hSw
              go_simp
              try (with_reducible rfl)
            try simp only [Act.put, List.setIfInBounds_toArray, List.set_cons_zero, List.set_cons_succ]
            refine wpAnyH_take (i := 2) (v := ?_) rfl (by kernel_rfl) (by kernel_rfl) (by kernel_rfl) (fun _ _ _ h => h) (Or.inl ⟨by rfl, ?_⟩) (by assumption) ?_
            rotate_left
            · intro w hSw
              obtain ⟨hSw0, hSw1⟩ := hSw
              go_simp
              try (with_reducible rfl)
            try simp only [Act.put, List.setIfInBounds_toArray, List.set_cons_zero, List.set_cons_succ]
            refine wpAnyH_take (i := 3) (v := ?_) rfl (by kernel_rfl) (by kernel_rfl) (by kernel_rfl) (fun _ _ _ h => h) (Or.inl ⟨by rfl, ?_⟩) (by assumption) ?_
            rotate_left
            · intro w hSw
              obtain ⟨hSw0, hSw1⟩ := hSw
              go_simp
              try (with_reducible rfl)
            try simp only [Act.put, List.setIfInBounds_toArray, List.set_cons_zero, List.set_cons_succ]
            refine wpAnyH_take (i := 4) (v := ?_) rfl (by kernel_rfl) (by kernel_rfl) (by kernel_rfl) (fun _ _ _ h => h) (Or.inl ⟨by rfl, ?_⟩) (by assumption) ?_
            rotate_left
            · intro w hSw
              obtain ⟨hSw0, hSw1⟩ := hSw
              go_simp
              try (with_reducible rfl)
            try simp only [Act.put, List.setIfInBounds_toArray, List.set_cons_zero, List.set_cons_succ]
            refine wpAnyH_take (i := 5) (v := ?_) rfl (by kernel_rfl) (by kernel_rfl) (by kernel_rfl) (fun _ _ _ h => h) (Or.inl ⟨by rfl, ?_⟩) (by assumption) ?_
            rotate_left
            · intro w hSw
              obtain ⟨hSw0, hSw1⟩ := hSw
              go_simp
              try (with_reducible rfl)
            try simp only [Act.put, List.setIfInBounds_toArray, List.set_cons_zero, List.set_cons_succ]
            refine wpAnyH_take (i := 6) (v := ?_) rfl (by kernel_rfl) (by kernel_rfl) (by kernel_rfl) (fun _ _ _ h => h) (Or.inl ⟨by rfl, ?_⟩) (by assumption) ?_
            rotate_left
            · intro w hSw
              obtain ⟨hSw0, hSw1⟩ := hSw
              go_simp
              try (with_reducible rfl)
            try simp only [Act.put, List.setIfInBounds_toArray, List.set_cons_zero, List.set_cons_succ]
            refine wpAnyH_take (i := 7) (v := ?_) rfl (by kernel_rfl) (by kernel_rfl) (by kernel_rfl) (fun _ _ _ h => h) (Or.inl ⟨by rfl, ?_⟩) (by assumption) ?_
            rotate_left
            · intro w hSw
              obtain ⟨hSw0, hSw1⟩ := hSw
              go_simp
              try (with_reducible rfl)
            try simp only [Act.put, List.setIfInBounds_toArray, List.set_cons_zero, List.set_cons_succ]
            refine wpAnyH_take (i := 8) (v := ?_) rfl (by kernel_rfl) (by kernel_rfl) (by kernel_rfl) (fun _ _ _ h => h) (Or.inl ⟨by rfl, ?_⟩) (by assumption) ?_
            rotate_left
            · intro w hSw
              obtain ⟨hSw0, hSw1⟩ := hSw
              go_simp
              try (with_reducible rfl)
            try simp only [Act.put, List.setIfInBounds_toArray, List.set_cons_zero, List.set_cons_succ]
            refine wpAnyH_ready (rs := [9]) (by kernel_rfl) (by simp) ?_
            refine AllReadyH.cons rfl (fun K hK => ?_) AllReadyH.nil
            go_simp
            refine hK.out _ _ ⟨p1, p2⟩ (fun hHeld => ?_)
            clear hK K
            try simp only [Act.put, List.setIfInBounds_toArray, List.set_cons_zero, List.set_cons_succ]
            refine wpAnyH_done (by kernel_rfl) ?_ _
            simp only [OnlyN]
            have hE5 := (hE4.set (a := ⟨b, x, none⟩) (.inl (.inl rfl)) (.int .i64 u3)).later (below_drew (Below.refl _ _))
            have hI6 := hI5.later (below_drew (Below.refl _ _))
            clear hI5 hI4 hE4 p1 p2 q1 q2 q3 q4 hHeld
            go_simp
            refine ⟨rfl, exc_keeps (B := (wd.alloc (.cells #[.slice q l.length cc] 22)).heap.size) hE5 (fun y hy => by have hy : y = b ∨ y = c := hy; rw [World.size_alloc]; omega), ⟨hE5.block g (by rw [World.size_alloc] at hg2; omega) (by omega), hE5.block _ h3 (by omega)⟩, x, _, _, ⟨hI6.exc, hI6.tbox, hI6.fm.congr (fun _ _ => rfl) (fun i _ => ?_) (fun i _ => ?_)⟩, HX.out.2, Nat.lt_of_lt_of_le h3 hE5.size⟩
            · rw [e3]
            · rw [e1, e2, if_pos hlt]
          · have hd : decide (((sg u1 : Nat) : Int) < ((sg u2 : Nat) : Int)) = false := decide_eq_false (by omega)
            gi_wp2
            refine quiet_round (F := Fence.wide) rfl (by kernel_rfl) (by kernel_rfl) (by kernel_rfl) ?_
            repeat (gi_big_quiet_step (fail))
            refine wpQuietIn_nil ?_
            intro _ hw'
            obtain ⟨nq, hw''⟩ := hw'
            subst hw''
            gi_wp2
            have hI2 := HX.out.1.later (below_drewM _ W2 nq)
            have hE2 : Exc (fun k => k = b ∨ k = c) W2 (W2.drewN nq) := Exc.of (below_drewM _ W2 nq)
            generalize hwq : W2.drewN nq = wq at *
            clear r0 r1 r2 y0 y1 y2 y3 y4 y5 f1 f2 hwq
            have hI4 := hI2
            have hE4 := hE2
            clear hI2 hE2
            have q1 := hI4.tbox.get 1 _ rfl
            gi_wp2
            have q2 := hI4.fm.rb.cell hm1
            have q3 := hI4.fm.rb.frozen x
            have q4 := hI4.fm.rb.cell hx1
            rw [e3] at q2
            have hI5 : LkI W sz a b c smr (fun y => if y = x then u3 else ab2 y) be2 (wq.setCell ⟨b, x, none⟩ (.int .i64 u3)) := ⟨hI4.exc.set (.inl (.inl rfl)) _, hI4.tbox.other (by omega) _ _, hI4.fm.setB x u3⟩
            have p1 := hI5.tbox.get 1 _ rfl
            have p2 := hI5.fm.rb.cell hm1
            rw [if_neg (by omega), e3] at p2
            refine region_round (S := fun w' => w'.cell? ⟨W.heap.size, 1, none⟩ = some (.slice (some ⟨b, 0, none⟩) sz sz) ∧ w'.cell? ⟨b, m2, none⟩ = some (.int .i64 u3)) (by kernel_rfl) (by kernel_rfl) (fun _ _ h => h) ⟨q1, q2⟩ (fun hHeld => ?_)
            refine wpAnyH_take (i := 0) (v := ?_) rfl (by kernel_rfl) (by kernel_rfl) (by kernel_rfl) (fun _ _ _ h => h) (Or.inl ⟨by rfl, ?_⟩) (by assumption) ?_
            rotate_left
            · intro w hSw
              obtain ⟨hSw0, hSw1⟩ := hSw
              go_simp
              try (with_reducible rfl)
            try simp only [Act.put, List.setIfInBounds_toArray, List.set_cons_zero, List.set_cons_succ]
            refine wpAnyH_take (i := 1) (v := ?_) rfl (by kernel_rfl) (by kernel_rfl) (by kernel_rfl) (fun _ _ _ h => h) (Or.inl ⟨by rfl, ?_⟩) (by assumption) ?_
            rotate_left
            · intro w hSw
              obtain ⟨hSw0, hSw1⟩ := hSw
              go_simp
              try (with_reducible rfl)
            try simp only [Act.put, List.setIfInBounds_toArray, List.set_cons_zero, List.set_cons_succ]
            refine wpAnyH_take (i := 2) (v := ?_) rfl (by kernel_rfl) (by kernel_rfl) (by kernel_rfl) (fun _ _ _ h => h) (Or.inl ⟨by rfl, ?_⟩) (by assumption) ?_
            rotate_left
            · intro w hSw
              obtain ⟨hSw0, hSw1⟩ := hSw
              go_simp
              try (with_reducible rfl)
            try simp only [Act.put, List.setIfInBounds_toArray, List.set_cons_zero, List.set_cons_succ]
            refine wpAnyH_take (i := 3) (v := ?_) rfl (by kernel_rfl) (by kernel_rfl) (by kernel_rfl) (fun _ _ _ h => h) (Or.inl ⟨by rfl, ?_⟩) (by assumption) ?_
            rotate_left
            · intro w hSw
              obtain ⟨hSw0, hSw1⟩ := hSw
              go_simp
              try (with_reducible rfl)
            try simp only [Act.put, List.setIfInBounds_toArray, List.set_cons_zero, List.set_cons_succ]
            refine wpAnyH_take (i := 4) (v := ?_) rfl (by kernel_rfl) (by kernel_rfl) (by kernel_rfl) (fun _ _ _ h => h) (Or.inl ⟨by rfl, ?_⟩) (by assumption) ?_
            rotate_left
            · intro w hSw
              obtain ⟨hSw0, hSw1⟩ := hSw
              go_simp
              try (with_reducible rfl)
            try simp only [Act.put, List.setIfInBounds_toArray, List.set_cons_zero, List.set_cons_succ]
            refine wpAnyH_take (i := 5) (v := ?_) rfl (by kernel_rfl) (by kernel_rfl) (by kernel_rfl) (fun _ _ _ h => h) (Or.inl ⟨by rfl, ?_⟩) (by assumption) ?_
            rotate_left
            · intro w hSw
              obtain ⟨hSw0, hSw1⟩ := hSw
              go_simp
              try (with_reducible rfl)
            try simp only [Act.put, List.setIfInBounds_toArray, List.set_cons_zero, List.set_cons_succ]
            refine wpAnyH_take (i := 6) (v := ?_) rfl (by kernel_rfl) (by kernel_rfl) (by kernel_rfl) (fun _ _ _ h => h) (Or.inl ⟨by rfl, ?_⟩) (by assumption) ?_
            rotate_left
            · intro w hSw
              obtain ⟨hSw0, hSw1⟩ := hSw
              go_simp
              try (with_reducible rfl)
            try simp only [Act.put, List.setIfInBounds_toArray, List.set_cons_zero, List.set_cons_succ]
            refine wpAnyH_take (i := 7) (v := ?_) rfl (by kernel_rfl) (by kernel_rfl) (by kernel_rfl) (fun _ _ _ h => h) (Or.inl ⟨by rfl, ?_⟩) (by assumption) ?_
            rotate_left
            · intro w hSw
              obtain ⟨hSw0, hSw1⟩ := hSw
              go_simp
              try (with_reducible rfl)
            try simp only [Act.put, List.setIfInBounds_toArray, List.set_cons_zero, List.set_cons_succ]
            refine wpAnyH_take (i := 8) (v := ?_) rfl (by kernel_rfl) (by kernel_rfl) (by kernel_rfl) (fun _ _ _ h => h) (Or.inl ⟨by rfl, ?_⟩) (by assumption) ?_
            rotate_left
            · intro w hSw
              obtain ⟨hSw0, hSw1⟩ := hSw
              go_simp
              try (with_reducible rfl)
            try simp only [Act.put, List.setIfInBounds_toArray, List.set_cons_zero, List.set_cons_succ]
            refine wpAnyH_ready (rs := [9]) (by kernel_rfl) (by simp) ?_
            refine AllReadyH.cons rfl (fun K hK => ?_) AllReadyH.nil
            go_simp
            refine hK.out _ _ ⟨p1, p2⟩ (fun hHeld => ?_)
            clear hK K
            try simp only [Act.put, List.setIfInBounds_toArray, List.set_cons_zero, List.set_cons_succ]
            refine wpAnyH_done (by kernel_rfl) ?_ _
            simp only [OnlyN]
            have hE5 := (hE4.set (a := ⟨b, x, none⟩) (.inl (.inl rfl)) (.int .i64 u3)).later (below_drew (Below.refl _ _))
            have hI6 := hI5.later (below_drew (Below.refl _ _))
            clear hI5 hI4 hE4 p1 p2 q1 q2 q3 q4 hHeld
            go_simp
            refine ⟨rfl, exc_keeps (B := (wd.alloc (.cells #[.slice q l.length cc] 22)).heap.size) hE5 (fun y hy => by have hy : y = b ∨ y = c := hy; rw [World.size_alloc]; omega), ⟨hE5.block g (by rw [World.size_alloc] at hg2; omega) (by omega), hE5.block _ h3 (by omega)⟩, x, _, _, ⟨hI6.exc, hI6.tbox, hI6.fm.congr (fun _ _ => rfl) (fun i _ => ?_) (fun i _ => ?_)⟩, HX.out.2, Nat.lt_of_lt_of_le h3 hE5.size⟩
            · rw [e3]
            · rw [e1, e2, if_neg hlt]
              by_cases e : i = x
              · rw [if_pos e, e, e2]
              · rw [if_neg e]
        case done =>
          rintro D2 W2 hD ⟨m2, ab2, be2, h1, h2, h3⟩ hK
          rw [ints_len, Nat.sub_self, List.take_zero] at h2
          have r2 := h1.tbox.get 2 _ rfl
          have y0 := h1.fm.rc.cell hp
          have hbe := h2.frs.be_le HC.out.1 hp
          have HX := Lib.hid (And.intro h1 (And.intro h2 hK))
          clear h1 h2 hK
          go_simp
          go_wp2_with fail
          refine ⟨by simp, .inl ⟨_, _, rfl, run_takeDeferred HX.out.2.2, ?_⟩⟩
          rw [World.size_alloc] at hD
          have hpo := grownBy_putObj' W2 D2 (.deferred none)
          refine ⟨_, results_tmp rfl _ _ _, ab2, be2, rfl, by omega, HX.out.1.exc.grown hpo (fun r e => by cases e; exact .inr (by omega)), HX.out.1.fm.kept hpo (fun e => by cases e; omega) (fun e => by cases e; omega) (fun e => by cases e; omega), HX.out.2.1.frs, HX.out.2.1.ends⟩
      · obtain ⟨a2, ea2, ha2⟩ := HC.out.2.1.ab_some ha1s e2
        rw [ea2] at y1
        have hne2 := nat_ne a2
        have hw2 := Way.snoc l m a1 hw ea1 e2
        have H := Lib.hid (And.intro hw2 (And.intro hI hr))
        clear hw hI hr hwf e HI ea2 hw2
        go_wp2_with fail
        go_quiet (fail)
        have hdr := below_drewM wr.heap.size wr nq
        have hI2 := H.out.2.1.later hdr
        have hr2 := ownsRow_below H.out.2.2 hdr
        have hsw2 : W.heap.size < (wr.drewN nq).heap.size := Nat.lt_of_lt_of_le hsw hdr.size
        have HW := Lib.hid (And.intro H.out.1 ea1)
        generalize hwd : wr.drewN nq = wd at *
        clear H hdr hwd x1 y0 y1 hne hne2
        clear ea1
        have x1 := (hI2.alloc (.cells #[.int .i64 m] 3)).tbox.get 1 _ rfl
        have H2 := Lib.hid (And.intro (hI2.alloc (.cells #[.int .i64 m] 3)) (hr2.alloc (.cells #[.int .i64 m] 3)))
        clear hI2 hr2
        go_wp2_with (at_builtin; refine wpList_append_at rfl (.tmp 34) (.tmp 36) 22 rfl (W.heap.size + 1) 3 i0 _ 1 8 Try.underlying22 HIN.out.1 HIN.out.2.1 HIN.out.2.2.1 HIN.out.2.2.2 rfl (by decide) (.slice q l.length cc) l.length ((ints l).flatMap intC) rfl H2.out.2 (some ⟨wd.heap.size, 0, none⟩) 1 1 [.int .i64 m] rfl rfl (lit_one _ _ _) (by intro u hu; simp at hu; subst hu; rfl) (by unfold maxLen; omega) (by omega) (by simp; omega) ?_; intro v6 w6 hown6 hgrow6 hmv6; have hI6 := H2.out.1.kept hgrow6 (fun r e => by have := (H2.out.2.lt r e).1; omega) hla hlb hlc; have z1 := hI6.tbox.get 1 _ rfl; have z2 := hI6.fm.rb.cell hms; rw [HW.out.2] at z2; have H6 := Lib.hid (And.intro hown6 hI6); obtain ⟨q6, c6, rfl⟩ := row_slice hown6; clear hown6 hgrow6 hmv6 hI6)
        have el : (l ++ [m]).length = l.length + 1 := by simp
        refine ⟨⟨l ++ [m], a1, q6, c6, by rw [el], rfl, HW.out.1, H6.out.2, ?_, H6.out.2.tbox.1⟩, by simp [intOf]; omega⟩
        rw [el, ints_app, List.flatMap_append]
        exact H6.out.1
end
end Go.Proofs.Ytphdhndljgihmaa
