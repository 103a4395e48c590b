/- The document's answer for uses: Clean, walked. -/
import Derived.Test.YtdfdgpobohpphaaRuF
namespace Go.Proofs.Ytdfdgpobohpphaa
open Go.RowKit Go.Maps
set_option linter.unusedVariables false
set_option linter.unusedSimpArgs false
set_option maxRecDepth 100000
set_option maxHeartbeats 2000000

/-- The state while blocks are cut. D: what is done. -/
def RS (W : World) (gg : Nat) (gc : List Value) (B1 RN : Nat) (LN : List CRb) (p : Option Addr) (n c : Nat) (cur : List LB) (lo hi : Nat) (ex : Option Nat) (Q : World → Prop) (D : List CR) : As :=
  As.and (bx gg gc) (As.and (bx (W.heap.size + 1) [.string ⟨#[]⟩, .slice none 0 0, .int .i64 0, .slice none 0 0]) (As.and (clAb B1 RN LN) (As.and (rw' W.heap.size 43 1 blkC p n c cur) (As.and (rngx lo hi ex Q) (As.all (crA W.heap.size) D)))))
def curB (D : List CR) (bs : List LB) : List LB := D.map crB ++ bs.drop D.length
theorem curB_len (D : List CR) (bs : List LB) (h : D.length ≤ bs.length) : (curB D bs).length = bs.length := by unfold curB; simp; omega
theorem curB_at (D : List CR) (bs : List LB) (h : D.length < bs.length) : (curB D bs)[D.length]? = some bs[D.length] := by
  unfold curB
  rw [List.getElem?_append_right (by simp), List.length_map, Nat.sub_self, List.getElem?_drop]
  simp [h]
theorem curB_set (D : List CR) (bs : List LB) (h : D.length < bs.length) (x : CR) : (curB D bs).set D.length (crB x) = curB (D ++ [x]) bs := by
  unfold curB
  rw [List.set_append_right _ _ (by simp), List.length_map, Nat.sub_self, List.map_append, List.append_assoc, List.length_append]
  congr 1
  have e : bs.drop D.length = bs[D.length] :: bs.drop (D.length + 1) := (List.getElem_cons_drop h).symm
  rw [e]
  rfl
theorem curB_zero (bs : List LB) : curB [] bs = bs := by simp [curB]
def DD (cs : List (List Nf)) (bs : List LB) (fn : Nat → Bool) (D : List CR) : Prop := ∀ j (h : j < D.length) (h2 : j < bs.length), D[j].2.2 = sel fn (base cs j) bs[j].code
theorem DD.snoc {cs : List (List Nf)} {bs : List LB} {fn : Nat → Bool} {D : List CR} (h : DD cs bs fn D) (hb : D.length < bs.length) {x : CR} (hx : x.2.2 = sel fn (base cs D.length) bs[D.length].code) : DD cs bs fn (D ++ [x]) := by
  intro j h1 h2
  by_cases e : j < D.length
  · rw [List.getElem_append_left e]; exact h j e h2
  · have e2 : j = D.length := by rw [List.length_append] at h1; simp at h1; omega
    subst e2
    rw [List.getElem_append_right (Nat.le_refl _)]
    simp only [Nat.sub_self, List.getElem_cons_zero]
    exact hx
theorem rClean_any (f : LFn) (W : World) (h : FnIn W.heap.size W f) (hz : fnZ (fnD f) ≤ 1048576) :
    Calls Try.prog 11 #[.agg (fnC f).toArray] W fun e w' => ∃ y, e = .returned (.agg (fnC y).toArray) ∧ fnD y = clF (fnD f) ∧ Below W.heap.size W w' ∧ ∀ u, Stay W.heap.size w'.heap.size w' u → FnIn u.heap.size u y := by
  have hneed := fun (w : World) (hb : Below W.heap.size W w) => rNeeded_any f w (lasts_Fn _ _ _ _ _ hb hb.size h) hz
  have hcopy := fun (w : World) (hb : Below W.heap.size W w) => rCopyFunc_own f w (lasts_Fn _ _ _ _ _ hb hb.size h) hz
  obtain ⟨F, eF⟩ : ∃ F, fnD f = F := ⟨_, rfl⟩
  rw [eF] at hneed hcopy hz
  obtain ⟨nm, pp, pn, pc, ps, rt, bp, bn, bc, bs⟩ := f
  simp only [fnC] at hneed hcopy
  have H := Lib.hid (And.intro eF hz)
  have HN := Lib.hid hneed
  have HCP := Lib.hid hcopy
  rw [eF]
  clear h hz hneed hcopy eF
  show Calls Try.prog 11 #[.agg #[.string nm, .slice pp pn pc, .int .i64 rt, .slice bp bn bc]] W _
  go_enter Try.func11, Try.ntmps11
  go_wp2_with fail
  obtain ⟨W1, eW1⟩ : ∃ W1, W1 = ((W.alloc (.cells #[.string nm, .slice pp pn pc, .int .i64 rt, .slice bp bn bc] 25)).alloc (.cells #[.string ⟨#[]⟩, .slice none 0 0, .int .i64 0, .slice none 0 0] 25)) := ⟨_, rfl⟩
  have hS1 : St W.heap.size W (As.and (bx (W.heap.size + 1) [.string ⟨#[]⟩, .slice none 0 0, .int .i64 0, .slice none 0 0]) (bx W.heap.size [.string nm, .slice pp pn pc, .int .i64 rt, .slice bp bn bc])) W1 := by
    rw [eW1]
    exact (((St.start W).push rfl [.string nm, .slice pp pn pc, .int .i64 rt, .slice bp bn bc] 25).push (g := W.heap.size + 1) (by simp) [.string ⟨#[]⟩, .slice none 0 0, .int .i64 0, .slice none 0 0] 25).imp ⟨fun w x => ⟨x.1, x.2.1⟩, fun k => by simp only [As.and_c, As.emp_c]; omega⟩
  rw [← eW1]
  clear eW1
  refine (HN.out W1 hS1.below).mono ?_
  rintro e w2 ⟨RN, LN, rfl, hLN, hS2⟩
  have hj := hS1.join hS2
  have hfb : Box W.heap.size [.string nm, .slice pp pn pc, .int .i64 rt, .slice bp bn bc] w2 := hj.sat.1.2
  have x0 := hfb.get 0 _ rfl
  have x1 := hfb.get 1 _ rfl
  have x2 := hfb.get 2 _ rfl
  have x3 := hfb.get 3 _ rfl
  have xl := hfb.1
  have HJ := Lib.hid (And.intro hj hLN)
  have hle1 := hS1.le
  clear hj hS1 hS2 hfb hLN
  go_wp2_with fail
  refine (HCP.out w2 HJ.out.1.below).mono ?_
  rintro e w3 ⟨y, rfl, hy, hp3, ho3⟩
  have hsp := copy_split ho3 hp3.2
  have hj3 := HJ.out.1.join hsp
  obtain ⟨ynm, ypp, ypn, ypc, yps, yrt, ybp, ybn, ybc, ybs⟩ := y
  obtain rfl : ypn = yps.length := by obtain ⟨_, h1, _⟩ := ho3; exact h1.1
  obtain rfl : ybn = ybs.length := by obtain ⟨_, _, h1⟩ := ho3; exact h1.1
  clear x0 x1 x2 x3 xl
  simp only [fnC]
  go_wp2_with fail
  have hyf : F.bs = ybs.map blkD := by rw [← hy]; rfl
  have hS0 : St W.heap.size W (RS W w3.heap.size [.string ynm, .slice ypp yps.length ypc, .int .i64 yrt, .slice ybp ybs.length ybc] W1.heap.size RN LN ybp ybs.length ybc (curB [] ybs) w2.heap.size w3.heap.size (Value.slice ybp ybs.length ybc).ownBlock (RestQ w3.heap.size ⟨ynm, ypp, yps.length, ypc, yps, yrt, ybp, ybs.length, ybc, ybs⟩) []) (w3.alloc (.cells #[.string ynm, .slice ypp yps.length ypc, .int .i64 yrt, .slice ybp ybs.length ybc] 25)) := by
    have h1 := hj3.push rfl [.string ynm, .slice ypp yps.length ypc, .int .i64 yrt, .slice ybp ybs.length ybc] 25
    have hrb := rw_base (ty := 43) (m := 1) (cel := blkC) (p := ybp) (n := ybs.length) (c := ybc) (xs := ybs) (B := w2.heap.size) HJ.out.1.le
    rw [curB_zero]
    unfold RS
    refine h1.imp ⟨fun w x => ⟨x.1, x.2.1.1.1, x.2.1.2, hrb.1 w x.2.2.1, x.2.2.2, trivial⟩, fun k => ?_⟩
    have := hrb.2 k
    simp only [As.and_c, As.all_nil, As.emp_c] at this ⊢
    omega
  have HS0 := Lib.hid hS0
  have HW := Lib.hid (And.intro hp3.2.size (And.intro hy HJ.out.2))
  have hlen2 : LN.length = ybs.length := by
    have h1 := congrArg List.length HJ.out.2
    rw [List.length_map, ndT_len] at h1
    have h2 : (nfs F).length = F.bs.length := by unfold nfs; simp
    rw [h1, h2, hyf, List.length_map]
  have hyc : ybs.length ≤ ybc ∧ ybc ≤ maxLen := by
    obtain ⟨d, _, h2⟩ := ho3
    exact h2.caps'
  obtain ⟨hyc1, hyc2⟩ := hyc
  unfold maxLen at hyc2
  have HL2 := Lib.hid (And.intro hlen2 hyf)
  obtain ⟨nLN, enLN⟩ : ∃ nLN, LN.length = nLN := ⟨_, rfl⟩
  have hnl1 : ybs.length ≤ nLN := by omega
  have HLN := Lib.hid enLN
  simp only [enLN]
  obtain ⟨gg, egg⟩ : ∃ gg, gg = w3.heap.size := ⟨_, rfl⟩
  have HS1 : Hid (St W.heap.size W (RS W gg [.string ynm, .slice ypp yps.length ypc, .int .i64 yrt, .slice ybp ybs.length ybc] W1.heap.size RN LN ybp ybs.length ybc (curB [] ybs) w2.heap.size w3.heap.size (Value.slice ybp ybs.length ybc).ownBlock (RestQ w3.heap.size ⟨ynm, ypp, yps.length, ypc, yps, yrt, ybp, ybs.length, ybc, ybs⟩) []) (w3.alloc (.cells #[.string ynm, .slice ypp yps.length ypc, .int .i64 yrt, .slice ybp ybs.length ybc] 25))) := Lib.hid (by rw [egg]; exact HS0.out)
  simp only [← egg]
  have EGG := Lib.hid egg
  clear hj3 hsp ho3 hy hp3 hS0 HS0 hlen2 hyf enLN hle1 egg
  obtain ⟨fn, efn⟩ : ∃ fn, ndF (nfs F).flatten = fn := ⟨_, rfl⟩
  have EFN := Lib.hid efn
  obtain ⟨cs, ecs⟩ : ∃ cs, nfs F = cs := ⟨_, rfl⟩
  have ECS := Lib.hid ecs
  clear efn ecs
  go_loopw [5] (fun t wr => ∃ (b : Nat) (D : List CR), b ≤ ybs.length ∧ t = .int .i64 b ∧ Hid (D.length = b ∧ DD cs ybs fn D) ∧ St W.heap.size W (RS W gg [.string ynm, .slice ypp yps.length ypc, .int .i64 yrt, .slice ybp ybs.length ybc] W1.heap.size RN LN ybp ybs.length ybc (curB D ybs) w2.heap.size w3.heap.size (Value.slice ybp ybs.length ybc).ownBlock (RestQ w3.heap.size ⟨ynm, ypp, yps.length, ypc, yps, yrt, ybp, ybs.length, ybc, ybs⟩) D) wr) (fun t _ => ybs.length - (intOf t).toNat)
  case atStart => exact ⟨0, [], Nat.zero_le _, rfl, Lib.hid ⟨rfl, fun j h => absurd h (Nat.not_lt_zero _)⟩, HS1.out⟩
  case round =>
    obtain ⟨b, D, hb, rfl, hD, hS⟩ := hrel
    have hgb : Box gg [.string ynm, .slice ypp yps.length ypc, .int .i64 yrt, .slice ybp ybs.length ybc] wr := hS.sat.1
    have x0 := hgb.get 0 _ rfl
    have x1 := hgb.get 1 _ rfl
    have x2 := hgb.get 2 _ rfl
    have x3 := hgb.get 3 _ rfl
    have xl := hgb.1
    clear hgb
    by_cases hlt : b < ybs.length
    · have hDl : D.length = b := hD.out.1
      have hrow : rowP W.heap.size 43 1 blkC ybp ybs.length ybc (curB D ybs) wr := hS.sat.2.2.2.1
      have hcbl : b < (curB D ybs).length := by rw [curB_len D ybs (by omega)]; exact hlt
      obtain ⟨gB, rfl, _, hgBl, _, _, hgc⟩ := row_cell hrow (fun _ => rfl) b hcbl
      have hcat : (curB D ybs)[b] = ybs[b] := by
        have h1 := curB_at D ybs (by omega)
        simp only [hDl] at h1
        rw [List.getElem?_eq_getElem hcbl] at h1
        injection h1
      have g0 : wr.cell? ⟨gB, b, none⟩ = some (.slice ybs[b].p ybs[b].n ybs[b].k) := by
        have := hgc 0 (by decide)
        rw [hcat] at this
        simpa [blkC] using this
      have hq : RestQ w3.heap.size ⟨ynm, ypp, yps.length, ypc, yps, yrt, (some ⟨gB, 0, none⟩), ybs.length, ybc, ybs⟩ wr := rngx_get hS.sat.2.2.2.2.1
      have hbi : BlkIn w3.heap.size wr ybs[b] := hq.2 ybs[b] (List.getElem_mem hlt)
      have kc0 : ybs[b].n = ybs[b].code.length := hbi.1
      have kc1 : ybs[b].n ≤ ybs[b].k := hbi.2.1
      have kc2 : ybs[b].k ≤ maxLen := hbi.2.2.1
      unfold maxLen at kc2
      obtain ⟨n, en⟩ : ∃ n, ybs[b].n = n := ⟨_, rfl⟩
      obtain ⟨ck, eck⟩ : ∃ ck, ybs[b].k = ck := ⟨_, rfl⟩
      obtain ⟨q, eq⟩ : ∃ q, ybs[b].p = q := ⟨_, rfl⟩
      rw [en, eck, eq] at g0
      rw [en] at kc0 kc1
      rw [eck] at kc1 kc2
      have hnn : n ≤ 1048576 := by
        have h1 : (ybs.map blkD)[b]'(by simpa using hlt) ∈ F.bs := by rw [HL2.out.2]; exact List.getElem_mem _
        have h2 := blksZ_mem h1
        have h3 := codeZ_len ((ybs.map blkD)[b]'(by simpa using hlt))
        have h4 := H.out.2
        unfold fnZ at h4
        simp only [List.getElem_map, blkD, List.length_map] at h2 h3
        rw [kc0]
        omega
      have hbN : b < LN.length := by rw [HL2.out.1]; exact hlt
      have hbT : b < (ndT cs).length := by
        have h1 := congrArg List.length HW.out.2.2
        rw [List.length_map, ECS.out] at h1
        omega
      have hbc : b < cs.length := by rw [← ndT_len]; exact hbT
      have hLNb : LN[b].2.2 = (ndT cs)[b] := by
        have h1 : (LN.map fun x => x.2.2)[b]? = (ndT cs)[b]? := by rw [HW.out.2.2, ECS.out]
        rw [List.getElem?_map, List.getElem?_eq_getElem hbN, List.getElem?_eq_getElem hbT] at h1
        injection h1
      obtain ⟨hrl, hrv⟩ := ndT_row cs b hbc hbT
      have hcsl : cs[b].length = n := by
        have h1 : cs[b]? = some ((blkD ybs[b]).map nfP) := by
          rw [← ECS.out]
          unfold nfs
          rw [HL2.out.2]
          simp [hlt]
        rw [List.getElem?_eq_getElem hbc] at h1
        injection h1 with h1
        rw [h1]
        simp [blkD, kc0]
      have HB := Lib.hid (And.intro kc0 (And.intro en (And.intro eck (And.intro eq (And.intro hLNb (And.intro hrl (And.intro hrv hcsl)))))))
      have HSB := Lib.hid hS
      clear hrow hcbl hgc hcat hq hbi en eck eq hLNb hrl hrv hcsl hS kc0
      go_wp2_with fail
      have h0 : St W.heap.size W (As.and (crA W.heap.size (none, 0, [])) (RS W gg [.string ynm, .slice ypp yps.length ypc, .int .i64 yrt, .slice (some ⟨gB, 0, none⟩) ybs.length ybc] W1.heap.size RN LN (some ⟨gB, 0, none⟩) ybs.length ybc (curB D ybs) w2.heap.size w3.heap.size (Value.slice (some ⟨gB, 0, none⟩) ybs.length ybc).ownBlock (RestQ w3.heap.size ⟨ynm, ypp, yps.length, ypc, yps, yrt, (some ⟨gB, 0, none⟩), ybs.length, ybc, ybs⟩) D)) wr := HSB.out.imp ⟨fun w x => ⟨rw_nil w, x⟩, fun k => by unfold crA; simp only [As.and_c, rw_c, cR]; omega⟩
      have H0 := Lib.hid h0
      clear h0
      go_loopw [6, 7] (fun cv t wi => ∃ (i : Nat) (p : Option Addr) (c : Nat) (xs : List LI) (lx : Nat), i ≤ n ∧ cv = .slice p lx c ∧ t = .int .i64 i ∧ Hid (xs.length = lx ∧ xs = sel fn (base cs b) (ybs[b].code.take i)) ∧ St W.heap.size W (As.and (crA W.heap.size (p, c, xs)) (RS W gg [.string ynm, .slice ypp yps.length ypc, .int .i64 yrt, .slice (some ⟨gB, 0, none⟩) ybs.length ybc] W1.heap.size RN LN (some ⟨gB, 0, none⟩) ybs.length ybc (curB D ybs) w2.heap.size w3.heap.size (Value.slice (some ⟨gB, 0, none⟩) ybs.length ybc).ownBlock (RestQ w3.heap.size ⟨ynm, ypp, yps.length, ypc, yps, yrt, (some ⟨gB, 0, none⟩), ybs.length, ybc, ybs⟩) D)) wi) (fun _ t _ => n - (intOf t).toNat)
      case atStart => exact ⟨0, none, 0, [], 0, Nat.zero_le _, rfl, rfl, Lib.hid ⟨rfl, by rw [List.take_zero]; rfl⟩, H0.out⟩
      case round =>
        rename World => wi
        obtain ⟨i, p, c, xs, lx, hi, rfl, rfl, hx, hS⟩ := hrel
        have hgb : Box gg [.string ynm, .slice ypp yps.length ypc, .int .i64 yrt, .slice (some ⟨gB, 0, none⟩) ybs.length ybc] wi := hS.sat.2.1
        have x3' := hgb.get 3 _ rfl
        have xl' := hgb.1
        have hrow : rowP W.heap.size 43 1 blkC (some ⟨gB, 0, none⟩) ybs.length ybc (curB D ybs) wi := hS.sat.2.2.2.2.1
        have hcbl : b < (curB D ybs).length := by rw [curB_len D ybs (by omega)]; exact hlt
        obtain ⟨gB', e1, _, hgBl', _, _, hgc⟩ := row_cell hrow (fun _ => rfl) b hcbl
        injection e1 with e1
        injection e1 with e1
        subst e1
        have hcat : (curB D ybs)[b] = ybs[b] := by
          have h1 := curB_at D ybs (by omega)
          simp only [hDl] at h1
          rw [List.getElem?_eq_getElem hcbl] at h1
          injection h1
        have g0' : wi.cell? ⟨gB, b, none⟩ = some (.slice q n ck) := by
          have := hgc 0 (by decide)
          rw [hcat] at this
          rw [← HB.out.2.1, ← HB.out.2.2.1, ← HB.out.2.2.2.1]
          simpa [blkC] using this
        clear x0 x1 x2 x3 xl g0 hgBl hgb hgc hcat
        by_cases hil : i < n
        · have hca : (clAb W1.heap.size RN LN).sat wi := hS.sat.2.2.2.1
          obtain ⟨n0, nl, -⟩ := cCb_row hca.1 b hbN
          have hbr : rowP W1.heap.size 4 1 bC LN[b].1 LN[b].2.2.length LN[b].2.1 LN[b].2.2 wi := As.all_mem _ hca.2 LN[b] (List.getElem_mem hbN)
          have hln : LN[b].2.2.length = n := by rw [HB.out.2.2.2.2.1, HB.out.2.2.2.2.2.1, HB.out.2.2.2.2.2.2.2]
          have hiL : i < LN[b].2.2.length := by omega
          obtain ⟨R2, eR2, _, hR2, hm1, hm2, hm3⟩ := row_cell hbr (fun _ => rfl) i hiL
          have v00 := hm3 0 (by decide)
          rw [Nat.mul_one, Nat.add_zero] at v00
          have hvv : LN[b].2.2[i] = fn (base cs b + i) := by
            have h1 := HB.out.2.2.2.2.2.2.1 i (by rw [HB.out.2.2.2.2.2.1, HB.out.2.2.2.2.2.2.2]; exact hil)
            have h2 : LN[b].2.2[i]? = (ndT cs)[b][i]? := by rw [HB.out.2.2.2.2.1]
            rw [List.getElem?_eq_getElem hiL, List.getElem?_eq_getElem (by rw [HB.out.2.2.2.2.2.1, HB.out.2.2.2.2.2.2.2]; exact hil)] at h2
            injection h2 with h2
            rw [h2, h1, ECS.out.symm, EFN.out]
          rw [hvv] at v00
          have v0 : wi.cell? ⟨R2, i, none⟩ = some (.bool (fn (base cs b + i))) := v00
          clear v00
          rw [eR2, hln] at n0
          rw [hln] at hm1
          obtain ⟨rc, erc⟩ : ∃ rc, LN[b].2.1 = rc := ⟨_, rfl⟩
          rw [erc] at n0 hm1 hm2
          unfold maxLen at hm2
          have hic : i < ybs[b].code.length := by rw [← HB.out.1]; exact hil
          have hsn : sel fn (base cs b) (ybs[b].code.take (i + 1)) = sel fn (base cs b) (ybs[b].code.take i) ++ if fn (base cs b + i) then [ybs[b].code[i]] else [] := by
            rw [List.take_succ_eq_append_getElem hic, sel_snoc, List.length_take, Nat.min_eq_left (Nat.le_of_lt hic)]
          rw [← hx.out.2] at hsn
          cases hfv : fn (base cs b + i) with
          | false =>
            rw [hfv] at v0 hsn
            have HF := Lib.hid (And.intro hsn hS)
            clear hca hbr hln hiL eR2 hm3 hvv erc hsn hS hrow hcbl hfv
            go_wp2_with fail
            exact ⟨⟨i + 1, p, c, xs, lx, by omega, rfl, by go_num, Lib.hid ⟨hx.out.1, by rw [HF.out.1]; simp⟩, HF.out.2⟩, by simp [intOf]; omega⟩
          | true =>
            rw [hfv] at v0 hsn
            have hq : RestQ w3.heap.size ⟨ynm, ypp, yps.length, ypc, yps, yrt, (some ⟨gB, 0, none⟩), ybs.length, ybc, ybs⟩ wi := rngx_get hS.sat.2.2.2.2.2.1
            have hbi : BlkIn w3.heap.size wi ybs[b] := hq.2 ybs[b] (List.getElem_mem hlt)
            obtain ⟨a2, ea2, hab2, z0, z1, z2, z3, z4, z5, z6⟩ := li_row hbi i hic
            obtain ⟨x, ex⟩ : ∃ x, ybs[b].code[i] = x := ⟨_, rfl⟩
            rw [ex] at z0 z1 z2 z3 z4 z5 z6 hsn
            rw [HB.out.2.2.2.1] at ea2
            subst ea2
            clear ex
            obtain ⟨⟨op, rg, ty, xn, fl, ap, al, ac, tp2, tl, tc2, args⟩, tg⟩ := x
            simp only at z0 z1 z2 z3 z4 z5 z6
            obtain ⟨iC, hiC⟩ := info_parts infoOf_C
            have hlx : lx ≤ 1048576 := by
              have h1 : xs.length ≤ i := by rw [hx.out.2]; exact Nat.le_trans (sel_len _ _ _) (by rw [List.length_take]; omega)
              have := hx.out.1
              omega
            unfold crA at hS
            simp only at hS
            have HQ := Lib.hid (And.intro hS (And.intro hsn (And.intro hiC (And.intro hx.out.1 hlx))))
            clear hca hbr hln hiL eR2 hm3 hvv erc hsn hS hrow hcbl hfv hq hbi hiC hlx
            go_wp2_with (first | (at_builtin; refine wpList_app rfl _ _ 41 rfl iC _ 88 Try.underlying41 HQ.out.2.2.1.1 HQ.out.2.2.1.2.1 HQ.out.2.2.1.2.2.1 HQ.out.2.2.1.2.2.2 rfl (by decide) (by rw [← HQ.out.2.2.2.1]; rfl) (HQ.out.1.alloc _) (⟨op, rg, ty, xn, fl, ap, al, ac, tp2, tl, tc2, args⟩, tg) _ 1 rfl rfl (fun j u hj => lit_cells wi _ _ j u hj) (liC_one _) (by have := HQ.out.2.2.2.1; have := HQ.out.2.2.2.2; unfold maxLen; omega) (by have := HQ.out.2.2.2.1; have := HQ.out.2.2.2.2; omega) ?_; intro p' c' w' hS'; have HS9 := Lib.hid hS'; clear hS'))
            refine ⟨⟨i + 1, p', c', xs ++ [(⟨op, rg, ty, xn, fl, ap, al, ac, tp2, tl, tc2, args⟩, tg)], xs.length + 1, by omega, rfl, by go_num, Lib.hid ⟨by simp, by rw [HQ.out.2.1]; simp⟩, ?_⟩, by simp [intOf]; omega⟩
            unfold crA
            simp only [List.length_append, List.length_cons, List.length_nil]
            exact HS9.out
        · obtain rfl : i = n := by omega
          have hfull : xs = sel fn (base cs b) ybs[b].code := by
            have := hx.out.2
            rwa [HB.out.1, List.take_length] at this
          have hgBf : wi.frozen? ⟨gB, b, none⟩ = false := by
            rcases id hrow.2.2 with ⟨e, h0⟩ | ⟨g, cap, cur, e, hg, hh, _⟩
            · cases e
            · injection e with e
              injection e with e
              injection e with e
              subst e
              simp [World.frozen?, hh]
          have h1 : St W.heap.size W (As.and (rw' W.heap.size 43 1 blkC (some ⟨gB, 0, none⟩) ybs.length ybc (curB D ybs)) (As.and (crA W.heap.size (p, c, xs)) (As.and (bx gg [.string ynm, .slice ypp yps.length ypc, .int .i64 yrt, .slice (some ⟨gB, 0, none⟩) ybs.length ybc]) (As.and (bx (W.heap.size + 1) [.string ⟨#[]⟩, .slice none 0 0, .int .i64 0, .slice none 0 0]) (As.and (clAb W1.heap.size RN LN) (As.and (rngx w2.heap.size w3.heap.size (Value.slice (some ⟨gB, 0, none⟩) ybs.length ybc).ownBlock (RestQ w3.heap.size ⟨ynm, ypp, yps.length, ypc, yps, yrt, (some ⟨gB, 0, none⟩), ybs.length, ybc, ybs⟩)) (As.all (crA W.heap.size) D))))))) wi :=
            hS.imp ⟨fun w x => ⟨x.2.2.2.2.1, x.1, x.2.1, x.2.2.1, x.2.2.2.1, x.2.2.2.2.2.1, x.2.2.2.2.2.2⟩, fun k => by unfold RS; simp only [As.and_c]; omega⟩
          have h2 := h1.putBlk b hcbl (crB (p, c, xs))
          have hcs : (curB D ybs).set b (crB (p, c, xs)) = curB (D ++ [(p, c, xs)]) ybs := by
            have := curB_set D ybs (by omega) (p, c, xs)
            rwa [hDl] at this
          rw [hcs] at h2
          have h3 : St W.heap.size W (RS W gg [.string ynm, .slice ypp yps.length ypc, .int .i64 yrt, .slice (some ⟨gB, 0, none⟩) ybs.length ybc] W1.heap.size RN LN (some ⟨gB, 0, none⟩) ybs.length ybc (curB (D ++ [(p, c, xs)]) ybs) w2.heap.size w3.heap.size (Value.slice (some ⟨gB, 0, none⟩) ybs.length ybc).ownBlock (RestQ w3.heap.size ⟨ynm, ypp, yps.length, ypc, yps, yrt, (some ⟨gB, 0, none⟩), ybs.length, ybc, ybs⟩) (D ++ [(p, c, xs)])) (wi.setCell ⟨gB, b, none⟩ (.slice p xs.length c)) := by
            unfold RS
            refine St.imp (X := _) h2 ⟨fun w x => ⟨x.2.2.1, x.2.2.2.1, x.2.2.2.2.1, x.1, x.2.2.2.2.2.1, (As.all_at_app _ w _ _).2 ⟨x.2.2.2.2.2.2, x.2.1, trivial⟩⟩, fun k => ?_⟩
            simp only [As.and_c, As.all_c_app, As.all_cons, As.all_nil, As.emp_c]
            omega
          rw [hx.out.1] at h3
          have hdd : Hid ((D ++ [(p, c, xs)]).length = b + 1 ∧ DD cs ybs fn (D ++ [(p, c, xs)])) := Lib.hid ⟨by rw [List.length_append, hDl]; rfl, hD.out.2.snoc (by omega) (by simp only [hDl]; exact hfull)⟩
          have HF := Lib.hid h3
          clear hS h1 h2 h3 hcs hfull hrow hcbl
          go_wp2_with fail
          exact ⟨⟨b + 1, _, by omega, by go_num, hdd, HF.out⟩, by simp [intOf]; omega⟩
    · obtain rfl : b = ybs.length := by omega
      have hS5 := hS.imp (Y := As.and (bx (W.heap.size + 1) [.string ⟨#[]⟩, .slice none 0 0, .int .i64 0, .slice none 0 0]) (As.and (rw' W.heap.size 43 1 blkC ybp ybs.length ybc (curB D ybs)) (As.and (rngx w2.heap.size w3.heap.size (Value.slice ybp ybs.length ybc).ownBlock (RestQ w3.heap.size ⟨ynm, ypp, yps.length, ypc, yps, yrt, ybp, ybs.length, ybc, ybs⟩)) (As.all (crA W.heap.size) D))))
        ⟨fun w x => ⟨x.2.1, x.2.2.2.1, x.2.2.2.2.1, x.2.2.2.2.2⟩, fun k => by unfold RS; simp only [As.and_c]; omega⟩
      have hr : Box (W.heap.size + 1) [.string ⟨#[]⟩, .slice none 0 0, .int .i64 0, .slice none 0 0] wr := hS5.sat.1
      have rf := hr.2.1
      have rl := hr.1
      have q0 := hr.get 0 _ rfl
      have q1 := hr.get 1 _ rfl
      have q2 := hr.get 2 _ rfl
      have q3 := hr.get 3 _ rfl
      have hS6 := (((hS5.set 0 (.string ynm)).set 1 (.slice ypp yps.length ypc)).set 2 (.int .i64 yrt)).set 3 (.slice ybp ybs.length ybc)
      have HK := Lib.hid hS6
      clear hS hS5 hr hS6
      go_wp2_with fail
      have hS6 := HK.out
      have hr6 : Box (W.heap.size + 1) [.string ynm, .slice ypp yps.length ypc, .int .i64 yrt, .slice ybp ybs.length ybc] _ := hS6.sat.1
      have z0 := hr6.get 0 _ rfl
      have z1 := hr6.get 1 _ rfl
      have z2 := hr6.get 2 _ rfl
      have z3 := hr6.get 3 _ rfl
      have hcl : (curB D ybs).length = ybs.length := curB_len D ybs (by rw [hD.out.1]; exact Nat.le_refl _)
      have hcur : curB D ybs = D.map crB := by
        unfold curB
        rw [hD.out.1, List.drop_of_length_le (Nat.le_refl _), List.append_nil]
      refine bodyPost_ret (v := .agg #[.string ynm, .slice ypp yps.length ypc, .int .i64 yrt, .slice ybp ybs.length ybc]) (by simp [results, Try.results11, go_sem, z0, z1, z2, z3]) rfl
        ⟨⟨ynm, ypp, yps.length, ypc, yps, yrt, ybp, ybs.length, ybc, curB D ybs⟩, rfl, ?_, hS6.below, fun u hu => ?_⟩
      · have hyd : F = ⟨ynm, yps, yrt, ybs.map blkD⟩ := HW.out.2.1.symm
        have e1 : clF F = ⟨ynm, yps, yrt, cut fn 0 (ybs.map blkD)⟩ := by
          unfold clF
          rw [EFN.out]
          rw [hyd]
        rw [e1]
        unfold fnD
        simp only
        congr 1
        rw [hcur]
        apply List.ext_getElem
        · rw [List.length_map, List.length_map, cut_len, List.length_map, hD.out.1]
        · intro j h1 h2
          have hj : j < D.length := by simpa using h1
          have hj2 : j < ybs.length := by rw [← hD.out.1]; exact hj
          have h3 := cut_get fn (ybs.map blkD) 0 j (by simpa using hj2)
          rw [List.getElem?_eq_getElem h2] at h3
          injection h3 with h3
          rw [h3, Nat.zero_add]
          have h4 : base (ybs.map blkD) j = base cs j := by
            rw [← ECS.out, hyd]
            unfold nfs
            rw [base_map]
          rw [h4]
          simp only [List.getElem_map, blkD, crB]
          rw [hD.out.2 j hj hj2, sel_map]
      · have hin : ∀ k, _ → u.heap[k]? = _ := fun k hk => hu k (hS6.own k hk) (hS6.inH k hk)
        have hsat := As.stay _ _ u hS6.sat hin
        have hrow : rowP W.heap.size 43 1 blkC ybp ybs.length ybc (curB D ybs) u := hsat.2.1
        have hq := rngx_get hsat.2.2.1
        have hall : (As.all (crA W.heap.size) D).sat u := hsat.2.2.2
        have hwz : ((((wr.setCell ⟨W.heap.size + 1, 0, none⟩ (.string ynm)).setCell ⟨W.heap.size + 1, 1, none⟩ (.slice ypp yps.length ypc)).setCell ⟨W.heap.size + 1, 2, none⟩ (.int .i64 yrt)).setCell ⟨W.heap.size + 1, 3, none⟩ (.slice ybp ybs.length ybc)).heap.size = wr.heap.size := by simp [World.setCell]
        have hg3 : w3.heap.size < wr.heap.size := by have := EGG.out; omega
        have hus : w3.heap.size ≤ u.heap.size := by
          have hk : (wr.heap.size - 1) < ((((wr.setCell ⟨W.heap.size + 1, 0, none⟩ (.string ynm)).setCell ⟨W.heap.size + 1, 1, none⟩ (.slice ypp yps.length ypc)).setCell ⟨W.heap.size + 1, 2, none⟩ (.int .i64 yrt)).setCell ⟨W.heap.size + 1, 3, none⟩ (.slice ybp ybs.length ybc)).heap.size := by rw [hwz]; omega
          have h1 := hu (wr.heap.size - 1) (by omega) hk
          rw [Array.getElem?_eq_getElem hk] at h1
          have := (Array.getElem?_eq_some_iff.1 h1).1
          omega
        refine ⟨hq.1.lasts lasts_NoMem (Below.refl _ _) hus, rowP_in (m := 1) (cel := blkC) (E := BlkIn) (fun _ => rfl) hrow (fun c hc => ?_)⟩
        rw [hcur] at hc
        obtain ⟨d, hd, rfl⟩ := List.mem_map.1 hc
        have hd2 : rowP W.heap.size 46 7 liC d.1 d.2.2.length d.2.1 d.2.2 u := As.all_mem _ hall d hd
        refine rowP_in (m := 7) (cel := liC) (E := InsIn) (fun _ => rfl) hd2 (fun z hz => ?_)
        obtain ⟨j, hj, rfl⟩ := List.mem_iff_getElem.1 hd
        have hj2 : j < ybs.length := by rw [← hD.out.1]; exact hj
        have hz : z ∈ D[j].2.2 := hz
        rw [hD.out.2 j hj hj2] at hz
        exact lasts_Ins _ _ _ _ _ (Below.refl _ _) hus ((hq.2 ybs[j] (List.getElem_mem hj2)).2.2.2.2 z (sel_sub _ _ _ _ hz))
end Go.Proofs.Ytdfdgpobohpphaa
