/- The document's visit and Order. -/
import Derived.Test.YtejnhdhfmklajaaRReach
namespace Go.Proofs.Ytejnhdhfmklajaa
open Go.RowKit Go.Maps
set_option linter.unusedVariables false
set_option linter.unusedSimpArgs false

theorem Out.newer {lo hi : Nat} {W w w' : World} {row : Option Nat} (h : Out lo hi W w) (hg : w.grownBy w' row) (hr : ∀ g, row = some g → W.heap.size ≤ g) : Out lo hi W w' :=
  ⟨hg.os.trans h.os, hg.tape.trans h.tape, hg.output.trans h.output, Nat.le_trans h.size hg.size, fun k hk ho => (hg.block k (Nat.lt_of_lt_of_le hk h.size) (fun e => by have := hr k e.symm; omega)).trans (h.block k hk ho)⟩
theorem Out.drew {lo hi : Nat} {W w : World} (h : Out lo hi W w) : Out lo hi W w.drew := ⟨h.os, h.tape, h.output, h.size, h.block⟩
/-- What stands while visit goes on. -/
structure VI (W : World) (Rm n : Nat) (m out : List Nat) (p : Option Addr) (c : Nat) (w : World) : Prop where
  ho : Out Rm (Rm + 1) W w
  marks : w.rowIs Rm 4 n (fun i => .bool (decide (i ∈ m)))
  lst : Lst (Rm + 1) none none w ⟨0, p, c, out⟩
  nd : m.Nodup
  lt : ∀ x ∈ m, x < n
  le : out.length ≤ m.length
section
variable {W w w' : World} {Rm n : Nat} {m out : List Nat} {p : Option Addr} {c : Nat}
theorem VI.later (h : VI W Rm n m out p c w) (hb : Below w.heap.size w w') : VI W Rm n m out p c w' :=
  ⟨h.ho.newer (below_grown hb) (fun g e => by cases e), rowIs_kept h.marks (below_grown hb) (by simp), h.lst.to hb.size (fun x _ hx _ _ => hb.block x hx) (fun _ e => .inl e) (fun _ e => .inl e), h.nd, h.lt, h.le⟩
theorem VI.start (h : VI W Rm n m out p c w) : VI w Rm n m out p c w := ⟨Out.refl _ _ _, h.marks, h.lst, h.nd, h.lt, h.le⟩
theorem VI.mark (h : VI W Rm n m out p c w) {b : Nat} (hb : b < n) (hm : b ∉ m) : VI W Rm n (b :: m) out p c (w.setCell ⟨Rm, b, none⟩ (.bool true)) := by
  refine ⟨h.ho.trans (by have := out_setCells (lo := Rm) (hi := Rm + 1) (Nat.le_refl Rm) (Nat.lt_succ_self _) [.bool true] b w; exact this), (h.marks.set b _).congr (fun i hi => ?_), ?_, List.nodup_cons.2 ⟨hm, h.nd⟩, fun x hx => ?_, by rw [List.length_cons]; exact Nat.le_succ_of_le h.le⟩
  · by_cases e : i = b
    · subst e; simp
    · rw [if_neg e]; simp [e]
  · exact h.lst.to (by rw [setCell_size]; exact Nat.le_refl _) (fun x hx _ _ _ => Below.heap_setCell _ _ _ _ (by dsimp only; omega)) (fun _ e => .inl e) (fun _ e => .inl e)
  · rcases List.mem_cons.1 hx with rfl | hx
    · exact hb
    · exact h.lt x hx
end
def VisEnds (S : Nat → List Nat) (W : World) (Rm n b : Nat) (m out : List Nat) (e : Ending) (w' : World) : Prop :=
  ∃ p' c' out' m', e = .returned (.slice p' out'.length c') ∧ (∀ u, Gsts S ⟨(b, S b) :: u, out, b :: m⟩ ⟨u, out', m'⟩) ∧ VI W Rm n m' out' p' c' w' ∧ m.length < m'.length ∧ out'.length + m.length ≤ m'.length + out.length
set_option maxRecDepth 100000 in
set_option maxHeartbeats 4000000 in
theorem visit_own (f : LFn) (hs : FnSm f) (hbs : f.bs.length ≤ 1048576) (Rm B : Nat) (hB : B ≤ Rm) : ∀ (k : Nat) (W : World) (b : Nat) (m out : List Nat) (p : Option Addr) (c : Nat), FnIn B W f → b < f.bs.length → b ∉ m → VI W Rm f.bs.length m out p c W → f.bs.length - m.length ≤ k →
    Calls Try.prog 33 #[.agg (fnC f).toArray, .int .i64 b, .slice (some ⟨Rm, 0, none⟩) f.bs.length f.bs.length, .slice p out.length c] W (VisEnds (succP (fnD f).bs) W Rm f.bs.length b m out)
  | 0, W, b, m, out, p, c, hf, hb, hm, hV, hk => by
    have h1 := nodup_lt f.bs.length (b :: m) (List.nodup_cons.2 ⟨hm, hV.nd⟩) (fun x hx => by
      rcases List.mem_cons.1 hx with rfl | hx
      · exact hb
      · exact hV.lt x hx)
    rw [List.length_cons] at h1
    omega
  | k + 1, W, b, m, out, p, c, hf, hb, hm, hV, hk => by
    have ih := visit_own f hs hbs Rm B hB k
    have hRm : Rm < W.heap.size := hV.marks.lt
    have hSn : ∀ b, (succP (fnD f).bs b).Nodup ∧ ∀ t ∈ succP (fnD f).bs b, t < f.bs.length := fun b => ⟨succP_nodup _ b, fun t ht => by
      have := succP_lt _ _ t ht
      simpa [fnD] using this⟩
    have A1 : Box W.heap.size (fnC f) (W.alloc (.cells (fnC f).toArray 25)) := Box.new W rfl _ _
    have V1 := (hV.later ((Below.refl _ _).alloc (Nat.le_refl _) (.cells (fnC f).toArray 25)))
    have cF : ∀ w, Out Rm (Rm + 1) W w → FnIn w.heap.size w f := fun w h => lasts_Fn B w.heap.size W w f (h.below hB (by omega)) (by have := h.size; omega) hf
    have cF2 : ∀ w, Out Rm (Rm + 1) W w → FnIn B w f := fun w h => lasts_Fn B B W w f (h.below hB (by omega)) (Nat.le_refl _) hf
    have cS := fun (w : World) (h : Out Rm (Rm + 1) W w) => rSuccs_own f b w (cF w h) hs
    simp only [succI_nat] at cS
    obtain ⟨S, eS⟩ : ∃ S, succP (fnD f).bs = S := ⟨_, rfl⟩
    simp only [eS] at hSn cS ih ⊢
    have HF := Lib.hid (And.intro cF2 hSn)
    obtain ⟨nm, pp, pn, pc, ps, rt, bp, bn, bc, bs⟩ := f
    have hfc : fnC ⟨nm, pp, pn, pc, ps, rt, bp, bn, bc, bs⟩ = [.string nm, .slice pp pn pc, .int .i64 rt, .slice bp bn bc] := rfl
    simp only [hfc] at A1 V1 cS ih ⊢
    obtain ⟨n, en⟩ : ∃ n, bs.length = n := ⟨_, rfl⟩
    simp only [en] at cS ih hbs hb hV hk V1 HF ⊢
    have V2 := V1.mark hb hm
    have B2 : Box W.heap.size [.string nm, .slice pp pn pc, .int .i64 rt, .slice bp bn bc] ((W.alloc (.cells #[.string nm, .slice pp pn pc, .int .i64 rt, .slice bp bn bc] 25)).setCell ⟨Rm, b, none⟩ (.bool true)) := A1.other (by omega) _ _
    have r0 := V1.marks.cell hb
    have r1 := V1.marks.frozen b
    have c1 := cS _ V2.ho
    obtain ⟨T, eT⟩ : ∃ T, S b = T := ⟨_, rfl⟩
    rw [eT] at c1
    obtain ⟨w2, ew2⟩ : ∃ w2, ((W.alloc (.cells #[.string nm, .slice pp pn pc, .int .i64 rt, .slice bp bn bc] 25)).setCell ⟨Rm, b, none⟩ (.bool true)) = w2 := ⟨_, rfl⟩
    have ew2' := ew2
    have hlt2 : Rm < W.heap.size := hRm
    have hne : ¬ W.heap.size = Rm := by omega
    have hT : T.Nodup ∧ ∀ t ∈ T, t < n := by rw [← eT]; exact HF.out.2 b
    have hTl := nodup_lt n T hT.1 hT.2
    have HT := Lib.hid (And.intro eT hT)
    have HIH := Lib.hid ih
    have HK := Lib.hid (And.intro hk hm)
    have HV := Lib.hid hV
    have hz2 : W.heap.size < w2.heap.size := by rw [← ew2, setCell_size]; simp
    rw [ew2] at V2 B2 c1
    have HV2 := Lib.hid (And.intro V2 B2)
    clear hV hk hm V1 A1 cS ih cF cF2 hf V2 B2 eT hT hSn en hfc hs eS
    go_enter Try.func33, Try.ntmps33
    go_upto_region 2 with fail
    clear r0 r1 ew2 ew2'
    have b0 := HV2.out.2.get 0 _ rfl
    have b1 := HV2.out.2.get 1 _ rfl
    have b2 := HV2.out.2.get 2 _ rfl
    have b3 := HV2.out.2.get 3 _ rfl
    go_wp2_with fail
    refine c1.mono ?_
    rintro e w3 ⟨ps3, c3, rfl, hp3, ho3⟩
    have V3 := HV2.out.1.later hp3.2
    have B3 := HV2.out.2.later hp3.2
    have HX := Lib.hid (And.intro V3 (And.intro B3 (And.intro ho3 hp3)))
    clear c1 b0 b1 b2 b3 V3 B3 ho3 hp3
    go_wp2_with fail
    go_loopw [3, 10] (fun v t wr => ∃ (i : Nat) (q : Option Addr) (cc : Nat) (o mm : List Nat), i ≤ T.length ∧ t = .int .i64 i ∧ v = .slice q o.length cc ∧ Hid (∀ u, Gsts S ⟨(b, T) :: u, out, b :: m⟩ ⟨(b, T.drop i) :: u, o, mm⟩) ∧ VI W Rm n mm o q cc wr ∧ Box W.heap.size [.string nm, .slice pp pn pc, .int .i64 rt, .slice bp bn bc] wr ∧ ListOwn 3 1 intC NoOwn w2.heap.size w3.heap.size wr ps3 T.length c3 (ints T) ∧ w3.heap.size ≤ wr.heap.size ∧ m.length < mm.length ∧ o.length + m.length + 1 ≤ mm.length + out.length) (fun _ t _ => T.length - (intOf t).toNat)
    case atStart => exact ⟨0, p, c, out, b :: m, Nat.zero_le _, rfl, rfl, Lib.hid (fun u => by rw [List.drop_zero]; exact Gsts.refl _), HX.out.1, HX.out.2.1, HX.out.2.2.1, Nat.le_refl _, by simp, by simp; omega⟩
    case round =>
      obtain ⟨i, q, cc, o, mm, hile, rfl, rfl, hG, hI, hBx, hoT, hw3, hmm, hbal⟩ := hrel
      by_cases hlt : i < T.length
      · obtain ⟨a, rfl, ha1, ha2, hcw⟩ := own_cell hoT hw3 i (by rw [ints_len]; exact hlt)
        simp only [ints_get T i hlt] at hcw
        have hc := hcw wr (fun k _ _ => rfl)
        have htn := HT.out.2.2 _ (List.getElem_mem hlt)
        have hdr : T.drop i = T[i] :: T.drop (i + 1) := List.drop_eq_getElem_cons hlt
        obtain ⟨t, et⟩ : ∃ t, T[i] = t := ⟨_, rfl⟩
        rw [et] at hc htn hdr hcw
        have HCW := Lib.hid hcw
        have ct := hI.marks.cell htn
        have HII := Lib.hid (And.intro hI (And.intro hBx (And.intro hoT hG)))
        have HD := Lib.hid hdr
        clear hcw et hI hBx hoT hG hdr
        by_cases htm : t ∈ mm
        · replace ct : wr.cell? ⟨Rm, t, none⟩ = some (.bool true) := ct.trans (by simp [htm])
          have HN : Hid (∀ u, Gsts S ⟨(b, T) :: u, out, b :: m⟩ ⟨(b, T.drop (i + 1)) :: u, o, mm⟩) := Lib.hid (fun u => by
            have h1 := HII.out.2.2.2.out u
            rw [HD.out] at h1
            exact Gsts.tail _ _ _ h1 (Gst.skip b t _ u o mm htm))
          clear htm
          go_wp2_with fail
          exact ⟨⟨i + 1, q, cc, o, mm, by omega, by go_num, rfl, HN, HII.out.1, HII.out.2.1, HII.out.2.2.1, hw3, hmm, hbal⟩, by simp [intOf]; omega⟩
        · replace ct : wr.cell? ⟨Rm, t, none⟩ = some (.bool false) := ct.trans (by simp [htm])
          have cV := HIH.out wr.drew t mm o q cc (HF.out.1 _ HII.out.1.ho.drew) htn htm (HII.out.1.later (below_drew (Below.refl _ _))).start (by have := HK.out.1; omega)
          have hbx := HII.out.2.1
          have b0 := hbx.get 0 _ rfl
          have b1 := hbx.get 1 _ rfl
          have b2 := hbx.get 2 _ rfl
          have b3 := hbx.get 3 _ rfl
          have HTM := Lib.hid htm
          clear htm hbx
          go_wp2_with fail
          go_region_held3 (fun w' => w'.cell? ⟨W.heap.size, 0, none⟩ = some (.string nm) ∧ w'.cell? ⟨W.heap.size, 1, none⟩ = some (.slice pp pn pc) ∧ w'.cell? ⟨W.heap.size, 2, none⟩ = some (.int .i64 rt) ∧ w'.cell? ⟨W.heap.size, 3, none⟩ = some (.slice bp bn bc) ∧ w'.cell? (a.add i) = some (.int .i64 t))
            (((try dsimp only); (repeat' apply And.intro) <;> (first | (with_reducible assumption) | (rw [World.cell?_drew]; with_reducible assumption))))
            (first
              | ((with_reducible refine cV.mono ?_)
                 rintro e w5 ⟨q5, c5, o5, m5, rfl, hG5, hV5, hm5, hbal5⟩
                 have hst5 := hV5.ho.stay (a := w2.heap.size) (b := w3.heap.size) (by simpa using hw3) (.inr (by omega))
                 have hB5 := Out.box (show Box W.heap.size [.string nm, .slice pp pn pc, .int .i64 rt, .slice bp bn bc] wr.drew from HII.out.2.1) hV5.ho (.inr (by omega))
                 have k0 := hB5.get 0 _ rfl
                 have k1 := hB5.get 1 _ rfl
                 have k2 := hB5.get 2 _ rfl
                 have k3 := hB5.get 3 _ rfl
                 have k4 := HCW.out w5 hst5
                 have H5 := Lib.hid (And.intro hG5 (And.intro hV5 (And.intro hst5 hB5)))
                 clear hG5 hV5 hst5 hB5))
          all_goals
            go_wp2_with fail
            have hv5 := H5.out.2.1
            have hVn : VI W Rm n m5 o5 q5 c5 w5 := ⟨HII.out.1.ho.drew.trans hv5.ho, hv5.marks, hv5.lst, hv5.nd, hv5.lt, hv5.le⟩
            have hGn : ∀ u, Gsts S ⟨(b, T) :: u, out, b :: m⟩ ⟨(b, T.drop (i + 1)) :: u, o5, m5⟩ := fun u => by
              have h1 := HII.out.2.2.2.out u
              rw [HD.out] at h1
              exact (Gsts.tail _ _ _ h1 (Gst.push b t _ u o mm HTM.out)).trans (H5.out.1 _)
            exact ⟨⟨i + 1, q5, c5, o5, m5, by omega, by go_num, rfl, Lib.hid hGn, hVn, H5.out.2.2.2, HII.out.2.2.1.stay local_NoOwn H5.out.2.2.1, Nat.le_trans hw3 hv5.ho.size, by omega, by omega⟩, by simp [intOf]; omega⟩
      · obtain rfl : i = T.length := by omega
        have hoN := nodup_lt n mm hI.nd hI.lt
        have hle := hI.le
        have hIA := hI.later ((Below.refl _ _).alloc (Nat.le_refl _) (.cells #[.int .i64 b] 3))
        have hlit : (wr.alloc (.cells #[.int .i64 b] 3)).ownsRow wr.heap.size 3 1 (.slice (some ⟨wr.heap.size, 0, none⟩) 1 1) 1 [.int .i64 b] := World.ownsRow_lit wr #[.int .i64 b] 1 (Nat.le_refl _) (by decide) rfl
        have hnews : ∀ j u, ((ints o).flatMap intC)[j]? = some u → ∃ ad, q = some ad ∧ (wr.alloc (.cells #[.int .i64 b] 3)).cell? (ad.add j) = some u := fun j u hu => by
          rw [intC_map, List.getElem?_map] at hu
          obtain ⟨x, hx, rfl⟩ := Option.map_eq_some_iff.1 hu
          obtain ⟨hj, rfl⟩ := List.getElem?_eq_some_iff.1 hx
          have hj' : j < o.length := by rw [ints_len] at hj; exact hj
          obtain ⟨ad, e, _, _, _, _, h5⟩ := hIA.lst.2.2 j hj'
          exact ⟨ad, e, by rw [ints_get o j hj']; exact h5⟩
        have HL := Lib.hid (And.intro hlit hnews)
        have HII := Lib.hid (And.intro hI (And.intro hG hIA))
        have hfl : ((ints o).flatMap intC).length = o.length := by rw [intC_map, List.length_map, ints_len]
        have HFL := Lib.hid hfl
        obtain ⟨i0, hi, hz0, hz1, hzz2⟩ := info_parts infoInt
        have hWr : W.heap.size < wr.heap.size := hBx.1
        clear hI hG hIA hlit hnews hBx hoT hfl hle
        go_wp2_with (at_builtin; refine wpList_append_at rfl (.tmp 40) (.tmp 41) 22 rfl wr.heap.size 3 i0 _ 1 8 Try.underlying22 hi hz0 hz1 hzz2 rfl (by decide) (.slice (some ⟨wr.heap.size, 0, none⟩) 1 1) 1 [.int .i64 b] rfl HL.out.1 q o.length cc ((ints o).flatMap intC) rfl (by rw [HFL.out]; omega) HL.out.2 (by intro u hu; rw [intC_map] at hu; obtain ⟨_, _, rfl⟩ := List.mem_map.1 hu; rfl) (by have := HII.out.1.le; unfold maxLen; omega) (by have := HII.out.1.le; omega) (by simp) ?_
                     intro v6 w6 hown6 hgrow6 hmv6
                     have H6 := Lib.hid (And.intro hown6 hgrow6)
                     clear hmv6 hgrow6)
        obtain ⟨q6, c6, rfl⟩ := row_slice hown6
        go_ret
        have hcell : ([Value.int .i64 (b : Int)] ++ (ints o).flatMap intC) = (ints (b :: o)).flatMap intC := rfl
        have h6 := H6.out.1
        rw [hcell, Nat.add_comm 1 o.length] at h6
        have hl6 := (lst_own (b := 0) (L := b :: o) h6).1
        have hgs : Gsts S ⟨(b, T) :: [], out, b :: m⟩ ⟨(b, []) :: [], o, mm⟩ := by have := HII.out.2.1.out []; rw [List.drop_length] at this; exact this
        refine ⟨q6, c6, b :: o, mm, by rw [List.length_cons, Nat.add_comm]; rfl, fun u => ?_, ⟨HII.out.2.2.ho.newer H6.out.2 (fun g e => by have h7 : wr.heap.size = g := Option.some.inj e; omega), rowIs_kept HII.out.2.2.marks H6.out.2 (fun e => by have h7 : Rm = wr.heap.size := Option.some.inj e; omega), hl6.lo (by omega), HII.out.1.nd, HII.out.1.lt, ?_⟩, hmm, by rw [List.length_cons]; omega⟩
        · have h1 := HII.out.2.1.out u
          rw [List.drop_length] at h1
          rw [HT.out.1]
          exact Gsts.tail _ _ _ h1 (Gst.pop b u o mm)
        · have := HV.out.le
          rw [List.length_cons]
          omega
theorem rReach_own (f : LFn) (W : World) (hf : FnIn W.heap.size W f) (hs : FnSm f) (hbs : f.bs.length ≤ 1048576) (L : List Nat) (hL : OrderIs (succP (fnD f).bs) f.bs.length L) :
    Calls Try.prog 15 #[.agg (fnC f).toArray] W (OwnBools f.bs.length (fun i => decide (i ∈ L)) W) := by
  have hP := (Past.refl (Nat.le_refl W.heap.size)).alloc (.cells (fnC f).toArray 25)
  have A1 : Box W.heap.size (fnC f) (W.alloc (.cells (fnC f).toArray 25)) := Box.new W rfl _ _
  have c1 := rWithout_own f _ (past_lasts lasts_Fn hf hP) hs hbs L hL
  obtain ⟨nm, pp, pn, pc, ps, rt, bp, bn, bc, bs⟩ := f
  show Calls Try.prog 15 #[.agg #[.string nm, .slice pp pn pc, .int .i64 rt, .slice bp bn bc]] W _
  have hfc : fnC ⟨nm, pp, pn, pc, ps, rt, bp, bn, bc, bs⟩ = [.string nm, .slice pp pn pc, .int .i64 rt, .slice bp bn bc] := rfl
  simp only [hfc] at A1 hP c1
  have a0 := A1.get 0 _ rfl
  have a1 := A1.get 1 _ rfl
  have a2 := A1.get 2 _ rfl
  have a3 := A1.get 3 _ rfl
  have HP := Lib.hid hP
  clear A1 hP hf hs hL hfc
  go_enter Try.func15, Try.ntmps15
  go_wp2_with fail
  refine c1.mono ?_
  rintro e w1 ⟨R, rfl, hp, hR, hr⟩
  have HR := Lib.hid (And.intro hp (And.intro hR hr))
  clear c1 a0 a1 a2 a3 hp hR hr
  go_wp2_with fail
  go_ret
  have h1 := HP.out.trans ⟨HP.out.size, HR.out.1.2.mono HP.out.size⟩
  exact ⟨R, rfl, h1, Nat.le_trans HP.out.size HR.out.2.1, HR.out.2.2⟩
end Go.Proofs.Ytejnhdhfmklajaa
