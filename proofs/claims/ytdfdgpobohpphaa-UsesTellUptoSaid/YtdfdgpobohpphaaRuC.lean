/- The document's answer for uses: Flat. -/
import Derived.Test.YtdfdgpobohpphaaRuB
namespace Go.Proofs.Ytdfdgpobohpphaa
open Go.RowKit Go.Maps
set_option linter.unusedVariables false
set_option linter.unusedSimpArgs false
set_option maxRecDepth 100000
set_option maxHeartbeats 2000000

theorem flat_nfI (y : LFn) : (nfs (fnD y)).flatten = (located y.bs).flatten.map nfI := by
  obtain ⟨nm, pp, pn, pc, ps, rt, bp, bn, bc, bs⟩ := y
  unfold located nfs fnD
  simp only
  induction bs with
  | nil => rfl
  | cons c bs ih =>
    rw [List.map_cons, List.map_cons, List.map_cons, List.flatten_cons, List.flatten_cons, List.map_append, ih]
    unfold blkD
    rw [List.map_map, List.map_map]
    rfl
theorem bA_cell {W w : World} {R : Nat} {bs : List Bool} (h : St W.heap.size W (bA R bs) w) (i : Nat) (hi : i < bs.length) : w.cell? ⟨R, i, none⟩ = some (.bool (bs.getD i false)) ∧ w.frozen? ⟨R, i, none⟩ = false ∧ R < w.heap.size := by
  have hb : BoolRow R bs w := h.sat
  refine ⟨?_, World.rowIs.frozen hb i, World.rowIs.lt hb⟩
  rw [hb.cell i hi, List.getD_eq_getElem?_getD, List.getElem?_eq_getElem hi]; rfl
theorem bA_set {W w : World} {R : Nat} {bs : List Bool} (h : St W.heap.size W (bA R bs) w) (i : Nat) (hi : i < bs.length) (v : Bool) : St W.heap.size W (bA R (bs.set i v)) (w.setCell ⟨R, i, none⟩ (.bool v)) := by
  have h1 : St W.heap.size W (As.and (bA R bs) As.emp) w := h.imp ⟨fun w x => ⟨x, trivial⟩, fun k => by rw [As.and_c, As.emp_c]; omega⟩
  have h2 : St W.heap.size W (As.and (bA R (bs.set i v)) As.emp) (w.setCell ⟨R, i, none⟩ (.bool v)) := by
    refine h1.change rfl rfl rfl (by simp [World.setCell]) (fun k hk h0 => Below.heap_setCell w _ _ _ (fun e => ?_)) ((h.sat : BoolRow R bs w).set i v hi) (fun k => .inl (Nat.le_refl _))
    rw [bA_c, if_pos e.symm] at h0; cases h0
  exact h2.imp ⟨fun w x => x.1, fun k => by rw [As.and_c, As.emp_c]; omega⟩
theorem rowP_later {α : Type} {B ty m : Nat} {cel : α → List Value} {p : Option Addr} {n c : Nat} {xs : List α} {w w' : World} (h : rowP B ty m cel p n c xs w) (hb : Below w.heap.size w w') : rowP B ty m cel p n c xs w' :=
  (rw' B ty m cel p n c xs).stay w w' h fun k hk => hb.block k ((rw' B ty m cel p n c xs).inH w h k hk)
/-- What Flat answers. -/
def FlatEnds (C : List Nf) (W : World) (e : Ending) (w' : World) : Prop :=
  ∃ R, e = .returned (.slice (some ⟨R, 0, none⟩) C.length C.length) ∧ St W.heap.size W (bA R ((List.range C.length).map (ndF C))) w'
theorem Flat_any (f : LFn) (W : World) (h : FnIn W.heap.size W f) (hz : fnZ (fnD f) ≤ 1048576) :
    Calls Try.prog 21 #[.agg (fnC f).toArray] W (FlatEnds (nfs (fnD f)).flatten W) := by
  have hCn := flat_nfI f
  have hN0 : (nfs (fnD f)).flatten.length ≤ 1048576 := by
    have h1 := nfs_len (fnD f)
    unfold fnZ at hz
    omega
  generalize (nfs (fnD f)).flatten = C at *
  obtain ⟨W1, eW1⟩ : ∃ W1, W1 = W.alloc (.cells (fnC f).toArray 25) := ⟨_, rfl⟩
  have hb1 : Below W.heap.size W W1 := by rw [eW1]; exact (Below.refl _ _).alloc (Nat.le_refl _) _
  have hin1 : FnIn W1.heap.size W1 f := lasts_Fn _ _ _ _ _ hb1 hb1.size h
  have hargs := flat_args hin1
  obtain ⟨L, eL⟩ : ∃ L, (located f.bs).flatten = L := ⟨_, rfl⟩
  have hcode : Calls Try.prog 32 #[.agg (fnC f).toArray] W1 (CodeEnds W1 (located f.bs)) := by
    obtain ⟨nm, pp, pn, pc, ps, rt, bp, bn, bc, bs⟩ := f
    exact Code_any W1 nm pp pn pc rt bp bn bc (located bs) (blocksAt_in hin1.2) (by
      have : (located bs).flatten.length = C.length := by rw [hCn, List.length_map]
      omega)
  have hCode : ∀ e w', CodeEnds W1 (located f.bs) e w' → ∃ vl vp : Value, e = .returned (.tuple #[vl, vp]) ∧ Below W1.heap.size W1 w' ∧ w'.ownsRow (W1.heap.size + 1) 46 7 vl L.length (L.flatMap insC) := by
    rintro e w' ⟨vl, vp, he, hb, h1, _⟩
    rw [eL] at h1
    exact ⟨vl, vp, he, hb, h1⟩
  rw [eL] at hCn hargs
  have hCL : C.length = L.length := by rw [hCn, List.length_map]
  have hCat : ∀ j (hj : j < L.length), C[j]? = some (nfI L[j]) := fun j hj => by rw [hCn, List.getElem?_map, List.getElem?_eq_getElem hj]; rfl
  obtain ⟨nm, pp, pn, pc, ps, rt, bp, bn, bc, bs⟩ := f
  simp only [fnC] at hcode eW1
  obtain ⟨N, eN⟩ : ∃ N, C.length = N := ⟨_, rfl⟩
  have hLN : L.length = N := by omega
  have H := Lib.hid (And.intro hargs (And.intro hCL (And.intro hCat (And.intro eN (And.intro hLN (And.intro hb1 hCode))))))
  have HCALL := Lib.hid hcode
  have EW := Lib.hid eW1
  rw [eN] at hN0
  clear hargs hCL hCat hb1 hin1 hcode eW1 hCn h hz eN hLN hCode eL
  show Calls Try.prog 21 #[.agg #[.string nm, .slice pp pn pc, .int .i64 rt, .slice bp bn bc]] W (FlatEnds C W)
  go_enter Try.func21, Try.ntmps21
  go_wp2_with fail
  rw [← EW.out]
  refine HCALL.out.mono ?_
  intro e w2 hce
  obtain ⟨vl, vp, rfl, hb2, hrow0⟩ := H.out.2.2.2.2.2.2 e w2 hce
  obtain ⟨pv, cv, rfl⟩ := row_slice hrow0
  have hrow : rowP (W1.heap.size + 1) 46 7 insC pv L.length cv L w2 := ⟨rfl, hrow0⟩
  clear hce hrow0
  have hcv : L.length ≤ cv ∧ cv ≤ 9223372036854775807 := by
    rcases id hrow.2.2 with ⟨e, h0⟩ | ⟨g, cap, cur, e, hg, hh, k1, k2, k3, k4⟩
    · injection e with e1 e2 e3; omega
    · injection e with e1 e2 e3; subst e3; unfold maxLen at k2; omega
  obtain ⟨hcv1, hcv2⟩ := hcv
  rw [H.out.2.2.2.2.1] at hcv1
  have hmk := run_make_row' (P := Try.prog) 36 4 _ _ Try.underlying36 infoBool rfl .i64 .i64 N (by omega) (by omega)
  have HB := Lib.hid (And.intro hb2 hrow)
  clear hb2 hrow
  simp only [H.out.2.2.2.2.1]
  go_wp2_with fail
  have hS0 : St w2.heap.size w2 (bA w2.heap.size (List.replicate N false)) (w2.alloc (.cells (madeCells #[.bool false] N) 4)) := ((St.start w2).newRow N).imp ⟨fun w x => x.1, fun k => by simp only [As.and_c, As.emp_c]; omega⟩
  have HS0 := Lib.hid hS0
  have hfb0 : FB C 0 (List.replicate N false) := by rw [← H.out.2.2.2.1]; exact FB.start C
  have HF0 := Lib.hid hfb0
  clear hS0 hfb0 hmk
  obtain ⟨R, eR⟩ : ∃ R, R = w2.heap.size := ⟨_, rfl⟩
  have HSR : Hid (St w2.heap.size w2 (bA R (List.replicate N false)) (w2.alloc (.cells (madeCells #[.bool false] N) 4))) := Lib.hid (by rw [eR]; exact HS0.out)
  simp only [← eR]
  have ER := Lib.hid eR
  clear HS0 eR
  go_loopw [6] (fun t wr => ∃ (i : Nat) (bs : List Bool), i ≤ N ∧ t = .int .i64 i ∧ FB C i bs ∧ St w2.heap.size w2 (bA R bs) wr) (fun t _ => N - (intOf t).toNat)
  case atStart => exact ⟨0, _, Nat.zero_le _, rfl, HF0.out, HSR.out⟩
  case round =>
    obtain ⟨i, bs', hi, rfl, hF, hS⟩ := hrel
    by_cases hlt : i < N
    · have hiL : i < L.length := by rw [H.out.2.2.2.2.1]; exact hlt
      have hib : i < bs'.length := by rw [hF.1, H.out.2.2.2.1]; exact hlt
      obtain ⟨gc, rfl, hgl, z0, -, -, -, -, -, -⟩ := ins_cells (rowP_later HB.out.2 hS.below) i hiL
      obtain ⟨b0, bf, bl⟩ := bA_cell hS i hib
      have hst := hF.step (H.out.2.2.1 i hiL)
      have hset := bA_set hS i hib (!(nfI L[i]).idle)
      have hid : (nfI L[i]).idle = idleB L[i].op := rfl
      rw [hid] at hst hset
      obtain ⟨op, eop⟩ : ∃ op, L[i].op = op := ⟨_, rfl⟩
      rw [eop] at z0 hst hset
      obtain ⟨bo, ebo⟩ : ∃ bo, bs'.getD i false = bo := ⟨_, rfl⟩
      rw [ebo] at b0
      have cI := fun W => rIdle_any op W
      obtain ⟨bI, ebI⟩ : ∃ bI, idleB op = bI := ⟨_, rfl⟩
      rw [ebI] at hst hset
      simp only [ebI] at cI
      have HST := Lib.hid (And.intro hst hset)
      clear hst hset hid eop ebo ebI hS hF
      go_wp2_with (first | ((with_reducible refine (cI _).mono ?_); rintro e w9 ⟨rfl, rfl⟩))
      exact ⟨⟨i + 1, _, by omega, by go_num, HST.out.1, HST.out.2⟩, by simp [intOf]; omega⟩
    · obtain rfl : N = i := by omega
      have hfi : FI C bs' := by
        have := hF
        rw [← H.out.2.2.2.1] at this
        exact this.ends
      have HFS := Lib.hid (And.intro hfi hS)
      clear hF hS hfi
      go_wp2_with fail
      go_loopg [8] (cntF bs' + 1) (fun gk m wq => ∃ (more : Bool) (bs2 : List Bool), m = .bool more ∧ FI C bs2 ∧ St w2.heap.size w2 (bA R bs2) wq ∧ (more = false → bs2 = (List.range C.length).map (ndF C)) ∧ gk = cntF bs2 + (if more then 1 else 0))
      case atStart => exact ⟨true, bs', rfl, HFS.out.1, HFS.out.2, fun h => (by cases h), rfl⟩
      case round =>
        rename World => wq
        obtain ⟨more, bs2, rfl, hfi, hS2, hfin, hgk⟩ := hrel
        cases more with
        | false =>
          have hE : FlatEnds C W (.returned (.slice (some ⟨R, 0, none⟩) N N)) wq := by
            have h1 := hfin rfl
            rw [h1] at hS2
            refine ⟨R, by rw [H.out.2.2.2.1], hS2.rebase (H.out.2.2.2.2.2.1.trans (HB.out.1.mono H.out.2.2.2.2.2.1.size)) (Nat.le_trans H.out.2.2.2.2.2.1.size HB.out.1.size)⟩
          have HE := Lib.hid hE
          clear hE hfi hS2 hfin hgk
          go_wp2_with fail
          go_ret
          exact HE.out
        | true =>
          have HG := Lib.hid (And.intro hgk (And.intro (PI.start hfi) hS2))
          clear hgk hfi hS2 hfin
          go_wp2_with fail
          go_loopw [8, 9] (fun m t wi => ∃ (mo : Bool) (i : Nat) (bs3 : List Bool), i ≤ N ∧ m = .bool mo ∧ t = .int .i64 i ∧ PI C bs2 i 0 mo bs3 ∧ St w2.heap.size w2 (bA R bs3) wi) (fun _ t _ => N - (intOf t).toNat)
          case atStart => exact ⟨false, 0, bs2, Nat.zero_le _, rfl, rfl, HG.out.2.1, HG.out.2.2⟩
          case round =>
            rename World => wi
            obtain ⟨mo, i, bs3, hi, rfl, rfl, hP, hS3⟩ := hrel
            by_cases hil : i < N
            · have hiL : i < L.length := by rw [H.out.2.2.2.2.1]; exact hil
              have hib : i < bs3.length := by rw [hP.fi.len, H.out.2.2.2.1]; exact hil
              have hbw := hS3.below
              obtain ⟨gc, rfl, hgl, z0, z1, z2, z3, z4, z5, z6⟩ := ins_cells (rowP_later HB.out.2 hbw) i hiL
              obtain ⟨b0, bf, bl⟩ := bA_cell hS3 i hib
              have hCi := H.out.2.2.1 i hiL
              obtain ⟨x, ex⟩ : ∃ x, L[i] = x := ⟨_, rfl⟩
              rw [ex] at z0 z1 z2 z3 z4 z5 z6 hCi
              clear ex
              obtain ⟨op, rg, ty, xn, fl, ap, al, ac, tp2, tl, tc2, args⟩ := x
              simp only at z0 z1 z2 z3 z4 z5 z6
              cases hbo : bs3.getD i false with
              | true =>
                rw [hbo] at b0
                have hP2 := hP.skip (.inl hbo)
                have HE := Lib.hid (And.intro hP2 hS3)
                clear hP hP2 hS3 hbo hbw hCi
                go_wp2_with fail
                exact ⟨⟨mo, i + 1, bs3, by omega, rfl, by go_num, HE.out.1, HE.out.2⟩, by simp [intOf]; omega⟩
              | false =>
                rw [hbo] at b0
                have cR := fun W => rResult_any op rg ty xn fl ap tp2 al ac tl tc2 W
                by_cases hrs : resV op ty = 0
                · have hP2 := hP.skip (.inr fun z hz => by
                    rw [hCi] at hz
                    injection hz with hz
                    rw [← hz]
                    show (resV op ty != 0) = false
                    rw [hrs]; rfl)
                  have HE := Lib.hid (And.intro hP2 (hS3.later ((Below.refl _ _).alloc (Nat.le_refl _) (.cells #[.int .i64 op, .int .i64 rg, .int .i64 ty, .int .i64 xn, .int .i64 fl, .slice ap al ac, .slice tp2 tl tc2] 46))))
                  simp only [hrs] at cR
                  clear hP hP2 hS3 hbo hbw hCi hrs
                  go_wp2_with (first | ((with_reducible refine (cR _).mono ?_); rintro e w9 ⟨rfl, rfl⟩))
                  exact ⟨⟨mo, i + 1, bs3, by omega, rfl, by go_num, HE.out.1, HE.out.2⟩, by simp [intOf]; omega⟩
                · have hrs2 : (resV op ty == 0) = false := by simpa using hrs
                  have hxr : (nfI ⟨op, rg, ty, xn, fl, ap, al, ac, tp2, tl, tc2, args⟩).res = true := by
                    show (resV op ty != 0) = true
                    simpa using hrs
                  obtain ⟨rv, erv⟩ : ∃ rv, resV op ty = rv := ⟨_, rfl⟩
                  rw [erv] at cR hrs2
                  have HE := Lib.hid (And.intro hP (And.intro (hS3.later ((Below.refl _ _).alloc (Nat.le_refl _) (.cells #[.int .i64 op, .int .i64 rg, .int .i64 ty, .int .i64 xn, .int .i64 fl, .slice ap al ac, .slice tp2 tl tc2] 46))) (And.intro hCi (And.intro hxr hbo))))
                  clear hP hS3 hbo hbw hCi hrs erv hxr
                  go_wp2_with (first | ((with_reducible refine (cR _).mono ?_); rintro e w9 ⟨rfl, rfl⟩))
                  go_loopw [8, 10] (fun m t wk => ∃ (mo : Bool) (k : Nat) (bs4 : List Bool), k ≤ N ∧ m = .bool mo ∧ t = .int .i64 k ∧ PI C bs2 i k mo bs4 ∧ (bs4.getD i false = true → mo = true) ∧ St w2.heap.size w2 (bA R bs4) wk) (fun _ t _ => N - (intOf t).toNat)
                  case atStart => exact ⟨mo, 0, bs3, Nat.zero_le _, rfl, rfl, HE.out.1, (fun h => by rw [HE.out.2.2.2.2] at h; cases h), HE.out.2.1⟩
                  case round =>
                    rename World => wk
                    obtain ⟨mo2, k, bs4, hk, rfl, rfl, hP4, hm4, hS4⟩ := hrel
                    by_cases hkl : k < N
                    · have hkL : k < L.length := by rw [H.out.2.2.2.2.1]; exact hkl
                      have hib4 : i < bs4.length := by rw [hP4.fi.len, H.out.2.2.2.1]; exact hil
                      have hkb4 : k < bs4.length := by rw [hP4.fi.len, H.out.2.2.2.1]; exact hkl
                      have hbw := hS4.below
                      obtain ⟨gc1, e1, hgl1, -, y1, -, -, -, -, -⟩ := ins_cells (rowP_later HB.out.2 hbw) i hiL
                      obtain ⟨gc2, e2, hgl2, x0, x1, x2, x3, x4, x5, x6⟩ := ins_cells (rowP_later HB.out.2 hbw) k hkL
                      injection e1 with e1
                      injection e1 with e1
                      injection e2 with e2
                      injection e2 with e2
                      subst e1 e2
                      have hrgi : L[i].reg = rg := by
                        have h1 := H.out.2.2.1 i hiL
                        rw [HE.out.2.2.1] at h1
                        injection h1 with h1
                        have := congrArg Nf.reg h1
                        exact this.symm
                      rw [hrgi] at y1
                      have hCk := H.out.2.2.1 k hkL
                      have hak := H.out.1 L[k] (List.getElem_mem hkL)
                      obtain ⟨b0', bf', bl'⟩ := bA_cell hS4 i hib4
                      obtain ⟨d0, -, -⟩ := bA_cell hS4 k hkb4
                      obtain ⟨x, ex⟩ : ∃ x, L[k] = x := ⟨_, rfl⟩
                      rw [ex] at x0 x1 x2 x3 x4 x5 x6 hCk hak
                      clear ex hrgi
                      obtain ⟨op', rg', ty', xn', fl', ap', al', ac', tp2', tl', tc2', args'⟩ := x
                      simp only at x0 x1 x2 x3 x4 x5 x6 hak
                      have hcu := rUses_tells ⟨op', rg', ty', xn', fl', ap', al', ac', tp2', tl', tc2', args'⟩ rg wk.drew (ListIn.lasts lasts_NoMem hak ((HB.out.1.trans (hbw.mono HB.out.1.size)).trans (below_drew (Below.refl _ _))) (Nat.le_trans HB.out.1.size hbw.size))
                      simp only [insC] at hcu
                      obtain ⟨u, eu⟩ : ∃ u, args'.any (isU rg) = u := ⟨_, rfl⟩
                      rw [eu] at hcu
                      have hu2 : (nfI ⟨op', rg', ty', xn', fl', ap', al', ac', tp2', tl', tc2', args'⟩).use rg = u := eu
                      obtain ⟨bk, ebk⟩ : ∃ bk, bs4.getD k false = bk := ⟨_, rfl⟩
                      rw [ebk] at d0
                      obtain ⟨bi, ebi⟩ : ∃ bi, bs4.getD i false = bi := ⟨_, rfl⟩
                      rw [ebi] at b0'
                      have HK := Lib.hid (And.intro hP4 (And.intro hm4 (And.intro hS4 (And.intro hCk (And.intro hu2 (And.intro ebk (And.intro ebi hib4)))))))
                      have HCU := Lib.hid hcu
                      clear hP4 hm4 hS4 hCk hu2 ebk ebi hcu eu hak hbw z0 z1 z2 z3 z4 z5 z6 b0 bf bl cR hrs2
                      go_wp2_with fail
                      refine wp_region_still_tail 9 (by kernel_rfl) (by kernel_rfl) ?_
                      simp only [List.take_succ_cons, List.take_zero, List.drop_succ_cons, List.drop_zero]
                      change wpStill _ _ (World.drew wk) _ _ _
                      repeat still_step
                      refine wpStill_nil ?_
                      change wpList _ _ _ _ _ (World.drew wk)
                      clear x0 x1 x2 x3 x4 x5 x6 y1
                      go_wp2_with fail
                      refine HCU.out.mono ?_
                      rintro e wu ⟨rfl, hbu⟩
                      have hbu2 : Below wk.heap.size wk wu := (below_drew (Below.refl _ _)).trans hbu
                      have HU := Lib.hid hbu2
                      have b0u := (hbu2.cell (p := ⟨R, i, none⟩) bl').trans b0'
                      have d0u := (hbu2.cell (p := ⟨R, k, none⟩) bl').trans d0
                      have bfu := (hbu2.frozen (p := ⟨R, i, none⟩) bl').trans bf'
                      have blu : R < wu.heap.size := Nat.lt_of_lt_of_le bl' hbu2.size
                      clear b0' d0 bf' hbu hbu2 HCU
                      have hi2 : (i : Int) < (N : Int) := by omega
                      cases bk with
                      | false =>
                        have hnx := HK.out.1.pass (.inl HK.out.2.2.2.2.2.1)
                        have HN := Lib.hid (And.intro hnx (HK.out.2.2.1.later HU.out))
                        clear hnx
                        go_wp2_with fail
                        exact ⟨⟨mo2, k + 1, bs4, by omega, rfl, by go_num, HN.out.1, HK.out.2.1, HN.out.2⟩, by simp [intOf]; omega⟩
                      | true =>
                        cases u with
                        | false =>
                          have hnx := HK.out.1.pass (.inr fun z z' hz hz' => by
                            rw [HE.out.2.2.1] at hz
                            rw [HK.out.2.2.2.1] at hz'
                            injection hz with hz
                            injection hz' with hz'
                            rw [← hz, ← hz']
                            exact HK.out.2.2.2.2.1)
                          have HN := Lib.hid (And.intro hnx (HK.out.2.2.1.later HU.out))
                          clear hnx
                          go_wp2_with fail
                          exact ⟨⟨mo2, k + 1, bs4, by omega, rfl, by go_num, HN.out.1, HK.out.2.1, HN.out.2⟩, by simp [intOf]; omega⟩
                        | true =>
                          have hnx := HK.out.1.mark HE.out.2.2.1 HK.out.2.2.2.1 HE.out.2.2.2.1 HK.out.2.2.2.2.2.1 HK.out.2.2.2.2.1 HK.out.2.1
                          have hset := bA_set (HK.out.2.2.1.later HU.out) i HK.out.2.2.2.2.2.2.2 true
                          have HN := Lib.hid (And.intro hnx hset)
                          clear hnx hset
                          go_wp2_with fail
                          exact ⟨⟨true, k + 1, _, by omega, rfl, by go_num, HN.out.1, fun _ => rfl, HN.out.2⟩, by simp [intOf]; omega⟩
                    · obtain rfl : N = k := by omega
                      have hnx : PI C bs2 (i + 1) 0 mo2 bs4 := PI.next (by rw [H.out.2.2.2.1]; exact hP4)
                      have HN := Lib.hid (And.intro hnx hS4)
                      clear hnx hP4 hS4 hm4
                      go_wp2_with fail
                      exact ⟨⟨mo2, i + 1, bs4, by omega, rfl, by go_num, HN.out.1, HN.out.2⟩, by simp [intOf]; omega⟩
            · obtain rfl : N = i := by omega
              have HE := Lib.hid (And.intro hP hS3)
              clear hP hS3
              go_wp2_with fail
              go_roundg (cntF bs3 + (if mo then 1 else 0))
              case measure =>
                have h1 := HG.out.1
                have h2 := HE.out.1.le
                cases mo with
                | false => simp only [Bool.false_eq_true, ↓reduceIte] at h1 ⊢; omega
                | true =>
                  have h3 := HE.out.1.less rfl
                  simp only [↓reduceIte] at h1 ⊢; omega
              case rel =>
                refine ⟨mo, bs3, rfl, HE.out.1.fi, HE.out.2, fun hm => ?_, rfl⟩
                subst hm
                have := HE.out.1
                rw [← H.out.2.2.2.1] at this
                exact this.ends
end Go.Proofs.Ytdfdgpobohpphaa
