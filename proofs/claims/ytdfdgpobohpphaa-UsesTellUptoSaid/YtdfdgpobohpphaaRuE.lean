/- The document's answer for uses: Needed, walked. -/
import Derived.Test.YtdfdgpobohpphaaRuD
namespace Go.Proofs.Ytdfdgpobohpphaa
open Go.RowKit Go.Maps
set_option linter.unusedVariables false
set_option linter.unusedSimpArgs false
set_option maxRecDepth 100000
set_option maxHeartbeats 2000000

/-- What the document's Needed answers. -/
def RNeedEnds (cs : List (List Nf)) (W : World) (e : Ending) (w' : World) : Prop :=
  ∃ (R : Nat) (L : List CRb), e = .returned (.slice (some ⟨R, 0, none⟩) L.length L.length) ∧ L.map (fun x => x.2.2) = ndT cs ∧ St W.heap.size W (clAb W.heap.size R L) w'
theorem ndT_len (cs : List (List Nf)) : (ndT cs).length = cs.length := by unfold ndT; simp
theorem ndT_row (cs : List (List Nf)) (b : Nat) (hb : b < cs.length) (h : b < (ndT cs).length) : ∃ h2 : (ndT cs)[b].length = cs[b].length, ∀ i (hi : i < (ndT cs)[b].length), (ndT cs)[b][i] = ndF cs.flatten (base cs b + i) := by
  have hl : (ndT cs)[b].length = cs[b].length := by unfold ndT; simp [List.getD_eq_getElem?_getD, hb]
  refine ⟨hl, fun i hi => ?_⟩
  unfold ndT
  simp
theorem rNeeded_any (f : LFn) (W : World) (h : FnIn W.heap.size W f) (hz : fnZ (fnD f) ≤ 1048576) :
    Calls Try.prog 9 #[.agg (fnC f).toArray] W (RNeedEnds (nfs (fnD f)) W) := by
  have hflat := fun (w : World) (hb : Below W.heap.size W w) => Flat_any f w (lasts_Fn _ _ _ _ _ hb hb.size h) hz
  have hcs0 : ∀ b (h : b < f.bs.length), (nfs (fnD f))[b]? = some ((blkD f.bs[b]).map nfP) := fun b h => by unfold nfs fnD; simp [h]
  have hlen0 : (nfs (fnD f)).length = f.bs.length := by unfold nfs fnD; simp
  have hfl0 : (nfs (fnD f)).flatten.length ≤ blksZ (f.bs.map blkD) := nfs_len _
  obtain ⟨nm, pp, pn, pc, ps, rt, bp, bn, bc, bs⟩ := f
  obtain rfl : pn = ps.length := h.1.1
  obtain rfl : bn = bs.length := h.2.1
  have k2 : bs.length ≤ bc := h.2.2.1
  have k3 : bc ≤ maxLen := h.2.2.2.1
  unfold maxLen at k3
  have hzz : 1 + ps.length + blksZ (bs.map blkD) ≤ 1048576 := hz
  simp only at hcs0 hlen0 hfl0 hflat
  generalize nfs (fnD ⟨nm, pp, ps.length, pc, ps, rt, bp, bs.length, bc, bs⟩) = cs at *
  have hbl0 : bs.length ≤ 1048576 := by have := blksZ_len (bs.map blkD); rw [List.length_map] at this; omega
  have H := Lib.hid (And.intro h hzz)
  have HC := Lib.hid (And.intro hcs0 (And.intro hlen0 hfl0))
  have HFL := Lib.hid hflat
  clear h hz hzz hcs0 hlen0 hfl0 hflat
  show Calls Try.prog 9 #[.agg #[.string nm, .slice pp ps.length pc, .int .i64 rt, .slice bp bs.length bc]] W (RNeedEnds cs W)
  have hmk := run_make_row' (P := Try.prog) 34 36 _ _ Try.underlying34 infoBs rfl .i64 .i64 bs.length (by omega) (by omega)
  go_enter Try.func9, Try.ntmps9
  go_wp2_with fail
  obtain ⟨W1, eW1⟩ : ∃ W1, W1 = W.alloc (.cells #[.string nm, .slice pp ps.length pc, .int .i64 rt, .slice bp bs.length bc] 25) := ⟨_, rfl⟩
  have hS1 : St W.heap.size W (As.and (bx W.heap.size [.string nm, .slice pp ps.length pc, .int .i64 rt, .slice bp bs.length bc]) As.emp) W1 := by rw [eW1]; exact (St.start W).push rfl _ _
  rw [← eW1]
  clear eW1
  refine (HFL.out W1 hS1.below).mono ?_
  rintro e w2 ⟨RF, rfl, hS2⟩
  have hj := hS1.join hS2
  have hN : cs.flatten.length ≤ 1048576 := by have := HC.out.2.2; have := H.out.2; omega
  obtain ⟨N, eN⟩ : ∃ N, cs.flatten.length = N := ⟨_, rfl⟩
  have EN := Lib.hid eN
  have hbx : Box W.heap.size [.string nm, .slice pp ps.length pc, .int .i64 rt, .slice bp bs.length bc] w2 := hj.sat.1.1
  have x3 := hbx.get 3 _ rfl
  have xl := hbx.1
  have HJ := Lib.hid hj
  simp only [eN]
  rw [eN] at hN
  clear hj hS1 hS2 hbx eN
  go_wp2_with fail
  have hS3 : St W.heap.size W (As.and (clAb W.heap.size w2.heap.size (List.replicate (ndT cs).length (none, 0, []))) (As.and (bx W.heap.size [.string nm, .slice pp ps.length pc, .int .i64 rt, .slice bp bs.length bc]) (bA RF ((List.range cs.flatten.length).map (ndF cs.flatten))))) (w2.alloc (.cells (madeCells #[.slice none 0 0] bs.length) 36)) := by
    have h1 := HJ.out.newBlocksB bs.length hbl0
    rw [ndT_len, HC.out.2.1]
    exact h1.imp ⟨fun w x => ⟨x.1, x.2.1.1, x.2.2⟩, fun k => by simp only [As.and_c, As.emp_c]; omega⟩
  have HS3 := Lib.hid hS3
  obtain ⟨RB, eRB⟩ : ∃ RB, RB = w2.heap.size := ⟨_, rfl⟩
  simp only [← eRB]
  have ERB := Lib.hid eRB
  have y3 : (w2.alloc (.cells (madeCells #[.slice none 0 0] bs.length) 36)).cell? ⟨W.heap.size, 3, none⟩ = some (.slice bp bs.length bc) := (hS3.sat.2.1 : Box _ _ _).get 3 _ rfl
  clear hS3 hmk x3 xl eRB HJ
  have HS4 : Hid (St W.heap.size W (As.and (clAb W.heap.size RB (List.replicate (ndT cs).length (none, 0, []))) (As.and (bx W.heap.size [.string nm, .slice pp ps.length pc, .int .i64 rt, .slice bp bs.length bc]) (bA RF ((List.range cs.flatten.length).map (ndF cs.flatten))))) (w2.alloc (.cells (madeCells #[.slice none 0 0] bs.length) 36))) := Lib.hid (by rw [ERB.out]; exact HS3.out)
  clear HS3 y3
  go_loopw [5, 6] (fun n t wr => ∃ (b : Nat) (L : List CRb), b ≤ bs.length ∧ n = .int .i64 (base cs b : Nat) ∧ t = .int .i64 b ∧ CB (ndT cs) b 0 L ∧ St W.heap.size W (As.and (clAb W.heap.size RB L) (As.and (bx W.heap.size [.string nm, .slice pp ps.length pc, .int .i64 rt, .slice bp bs.length bc]) (bA RF ((List.range cs.flatten.length).map (ndF cs.flatten))))) wr) (fun _ t _ => bs.length - (intOf t).toNat)
  case atStart => exact ⟨0, _, Nat.zero_le _, by rw [base_zero]; rfl, rfl, CB.start _, HS4.out⟩
  case round =>
    obtain ⟨b, L, hb, rfl, rfl, hCB, hS⟩ := hrel
    have hfb : Box W.heap.size [.string nm, .slice pp ps.length pc, .int .i64 rt, .slice bp bs.length bc] wr := hS.sat.2.1
    have x3 := hfb.get 3 _ rfl
    have xl := hfb.1
    clear hfb
    by_cases hlt : b < bs.length
    · have hfin : FnIn wr.heap.size wr ⟨nm, pp, ps.length, pc, ps, rt, bp, bs.length, bc, bs⟩ := lasts_Fn _ _ _ _ _ hS.below hS.below.size H.out.1
      have hbc : b < cs.length := by rw [HC.out.2.1]; exact hlt
      have hbT : b < (ndT cs).length := by rw [ndT_len]; exact hbc
      obtain ⟨hrl, hrv⟩ := ndT_row cs b hbc hbT
      have hcsb := HC.out.1 b hlt
      have hcb : cs[b] = (blkD bs[b]).map nfP := by rw [List.getElem?_eq_getElem hbc] at hcsb; injection hcsb
      have hcbl : cs[b].length = bs[b].code.length := by rw [hcb]; simp [blkD]
      have hbs1 := base_succ cs b hbc
      have hcn : bs[b].n = bs[b].code.length := (H.out.1.2.2.2.2.2 bs[b] (List.getElem_mem hlt)).1
      have hck : bs[b].n ≤ bs[b].k ∧ bs[b].k ≤ maxLen := ⟨(H.out.1.2.2.2.2.2 bs[b] (List.getElem_mem hlt)).2.1, (H.out.1.2.2.2.2.2 bs[b] (List.getElem_mem hlt)).2.2.1⟩
      obtain ⟨n, en⟩ : ∃ n, bs[b].n = n := ⟨_, rfl⟩
      have hnn : n ≤ 1048576 := by
        have q1 : base cs b + cs[b].length ≤ cs.flatten.length := by rw [← hbs1, ← base_end cs]; exact base_mono cs (by omega)
        have q2 := HC.out.2.2
        have q3 := H.out.2
        omega
      have HB := Lib.hid (And.intro hrl (And.intro hrv (And.intro hcbl (And.intro hbs1 (And.intro hcn (And.intro en (And.intro hcb hCB)))))))
      have HS0 := Lib.hid hS
      clear hfin hrl hrv hcsb hcb hcbl hbs1 hcn hck en hCB hS
      go_wp2_with fail
      go_loopw [5, 7] (fun nn t wi => ∃ (i pq : Nat) (L : List CRb), i ≤ n ∧ Hid (base cs b + i = pq) ∧ nn = .int .i64 (pq : Nat) ∧ t = .int .i64 i ∧ CB (ndT cs) b i L ∧ St W.heap.size W (As.and (clAb W.heap.size RB L) (As.and (bx W.heap.size [.string nm, .slice pp ps.length pc, .int .i64 rt, .slice bp bs.length bc]) (bA RF ((List.range cs.flatten.length).map (ndF cs.flatten))))) wi) (fun _ t _ => n - (intOf t).toNat)
      case atStart => exact ⟨0, base cs b, L, Nat.zero_le _, Lib.hid rfl, rfl, rfl, HB.out.2.2.2.2.2.2.2, HS0.out⟩
      case round =>
        rename World => wi
        rename_i L0 _ _ _
        obtain ⟨i, pn, L, hi, HPN, rfl, rfl, hCB, hS⟩ := hrel
        have hfb : Box W.heap.size [.string nm, .slice pp ps.length pc, .int .i64 rt, .slice bp bs.length bc] wi := hS.sat.2.1
        have x3' := hfb.get 3 _ rfl
        have xl' := hfb.1
        obtain ⟨a, rfl, hab, c0⟩ := blk_row (H.out.1.2.lasts lasts_Blk hS.below (Nat.le_refl _)) b hlt
        rw [HB.out.2.2.2.2.2.1] at c0
        obtain ⟨q, eq⟩ : ∃ q, bs[b].p = q := ⟨_, rfl⟩
        obtain ⟨ck, eck⟩ : ∃ ck, bs[b].k = ck := ⟨_, rfl⟩
        rw [eq, eck] at c0
        clear eq eck x3 xl hfb
        by_cases hil : i < n
        · have hLl : b < L.length := by rw [hCB.1]; exact hbT
          have hLn := hCB.len hbT hLl
          have hiT : i < (ndT cs)[b].length := by rw [HB.out.1, HB.out.2.2.1, ← HB.out.2.2.2.2.1, HB.out.2.2.2.2.2.1]; exact hil
          have hgr := fun p c => CB.grow hbT hiT hLl p c hCB
          rw [HB.out.2.1 i hiT] at hgr
          have hpN : base cs b + i < N := by
            have q1 : base cs b + cs[b].length ≤ cs.flatten.length := by rw [← HB.out.2.2.2.1, ← base_end cs]; exact base_mono cs (by omega)
            have q2 := EN.out
            have q3 := HB.out.1
            omega
          have hbf : BoolRow RF ((List.range cs.flatten.length).map (ndF cs.flatten)) wi := hS.sat.2.2
          have v0 := hbf.cell (base cs b + i) (by rw [List.length_map, List.length_range, EN.out]; exact hpN)
          have vl : RF < wi.heap.size := World.rowIs.lt hbf
          rw [List.getElem_map, List.getElem_range] at v0
          have epn := HPN.out
          rw [epn] at v0 hgr hpN
          obtain ⟨vv, evv⟩ : ∃ vv, ndF cs.flatten pn = vv := ⟨_, rfl⟩
          rw [evv] at v0 hgr
          have hrb := cCb_row hS.sat.1.1 b hLl
          obtain ⟨r0, rl, rf⟩ := hrb
          have rf := rf b
          have hopen := St.clOpenB hS b hLl
          obtain ⟨⟨p0, q0, xs⟩, ey⟩ : ∃ y, L[b] = y := ⟨_, rfl⟩
          rw [ey] at r0 hopen hgr hLn
          simp only at r0 hLn
          unfold crAb at hopen
          simp only at hopen hgr
          obtain ⟨iB, hiB⟩ := info_parts infoBool
          obtain ⟨lx, elx⟩ : ∃ lx, xs.length = lx := ⟨_, rfl⟩
          have hlx : lx ≤ 1048576 := by
            have q1 := HB.out.1
            have q2 := HB.out.2.2.1
            have q3 := HB.out.2.2.2.2.1
            have q4 := HB.out.2.2.2.2.2.1
            omega
          rw [elx] at r0
          have HQ := Lib.hid (And.intro hopen (And.intro hgr (And.intro hiB (And.intro elx (And.intro hlx epn)))))
          clear hopen hgr hiB elx hlx hS hCB hbf ey epn evv hLn
          go_wp2_with fail
          refine (fun key : Hid ?Phi => ?main) (Lib.hid ?pf)
          case main =>
            go_region_law (first | (refine step_app rfl (.tmp 37) (.tmp 42) 36 rfl iB _ 1 Try.underlying36 HQ.out.2.2.1.1 HQ.out.2.2.1.2.1 HQ.out.2.2.1.2.2.1 HQ.out.2.2.1.2.2.2 rfl (by decide) (by rw [← HQ.out.2.2.2.1]; rfl) ((HQ.out.1.alloc _).drew) vv _ 1 rfl rfl (fun j u hj => (congrArg (fun z => z) (World.cell?_drew _ _)).trans (lit_cells wi _ _ j u hj)) (bC_one _) (by have := HQ.out.2.2.2.1; have := HQ.out.2.2.2.2.1; unfold maxLen; omega) (by have := HQ.out.2.2.2.1; have := HQ.out.2.2.2.2.1; omega) ?_; intro p' c' w' hS'; have kx := cCb_row hS'.sat.2.1 b hLl; have k0 := kx.1; have k1 := kx.2.1; have k2 := kx.2.2 b; clear kx))
            all_goals (clear k0 k1 k2; revert p' c' w'; exact key.out)
          case pf =>
            intro p' c' w' hS'
            have h9 := St.clCloseB (R := RB) b hLl (p', c', xs ++ [vv]) (by unfold crAb; simp only [List.length_append, List.length_cons, List.length_nil]; exact hS')
            simp only [List.length_append, List.length_cons, List.length_nil] at h9
            have hpe : pn + 1 = base cs b + (i + 1) := by have := HQ.out.2.2.2.2.2; omega
            have HF := Lib.hid (And.intro (HQ.out.2.1 p' c') (And.intro h9 hpe))
            clear h9 hS' HQ r0 rl rf c0 x3' xl' v0 vl hpe
            go_wp2_with fail
            exact ⟨⟨i + 1, pn + 1, _, by omega, Lib.hid HF.out.2.2.symm, by go_num, by go_num, HF.out.1, HF.out.2.1⟩, by simp [intOf]; omega⟩
        · obtain rfl : i = n := by omega
          have hnx : CB (ndT cs) (b + 1) 0 L := CB.next hbT (by
            have q1 := HB.out.1
            have q2 := HB.out.2.2.1
            have q3 := HB.out.2.2.2.2.1
            have q4 := HB.out.2.2.2.2.2.1
            rw [show (ndT cs)[b].length = i by omega]; exact hCB)
          have hbe : base cs (b + 1) = pn := by
            have q0 := HPN.out
            have q1 := HB.out.2.2.2.1
            have q2 := HB.out.2.2.1
            have q3 := HB.out.2.2.2.2.1
            have q4 := HB.out.2.2.2.2.2.1
            omega
          have HF := Lib.hid (And.intro hnx (And.intro hS hbe))
          clear hnx hS hCB hbe
          go_wp2_with fail
          exact ⟨⟨b + 1, L, by omega, by rw [HF.out.2.2], by go_num, HF.out.1, HF.out.2.1⟩, by simp [intOf]; omega⟩
    · obtain rfl : b = bs.length := by omega
      have hE : RNeedEnds cs W (.returned (.slice (some ⟨RB, 0, none⟩) bs.length bs.length)) wr := by
        have hl : L.length = bs.length := by rw [hCB.1, ndT_len, HC.out.2.1]
        refine ⟨RB, L, by rw [hl], CB.ends (by rw [ndT_len, HC.out.2.1]; exact hCB), hS.imp ⟨fun w x => x.1, fun k => by simp only [As.and_c]; omega⟩⟩
      have HE := Lib.hid hE
      clear hE hCB hS
      go_wp2_with fail
      go_ret
      exact HE.out
end Go.Proofs.Ytdfdgpobohpphaa
