/- Package uses: Clean, of any function. -/
import Derived.Test.YtdfdgpobohpphaaUsI
namespace Go.Proofs.Ytdfdgpobohpphaa
open Go.RowKit Go.Maps
set_option linter.unusedVariables false
set_option linter.unusedSimpArgs false
set_option maxRecDepth 100000
set_option maxHeartbeats 2000000

/-- The state while rows grow. -/
def CS (W : World) (RB : Nat) (fc : List Value) (np : Option Addr) (nc : Nat) (nl : NL) (L : List CR) (w : World) : Prop :=
  St W.heap.size W (As.and (clA W.heap.size RB L) (As.and (bx (W.heap.size + 1) [.string ⟨#[]⟩, .slice none 0 0, .int .i64 0, .slice none 0 0]) (As.and (bx W.heap.size fc) (As.and (rw' W.heap.size 36 1 cB np nl.length nc nl) (bAs nl))))) w
theorem infoBk : (Try.prog.info? 43).map (fun i => (i.zero, i.size, i.bytes)) = some (some (.agg #[.slice none 0 0]), 1, 24) := by kernel_rfl
theorem make_blocks (n : Nat) (hn : n ≤ 1048576) (w : World) : (Instr.makeSlice 23 (.int .i64 (n : Int)) (.int .i64 (n : Int))).run Try.prog w = .ok (.slice (some ⟨w.heap.size, 0, none⟩) n n) (w.alloc (.cells (madeCells #[.slice none 0 0] n) 43)) := by
  obtain ⟨i, hi, hzz⟩ := Option.map_eq_some_iff.1 infoBk
  simp only [Prod.mk.injEq] at hzz
  obtain ⟨hz, hs, hb⟩ := hzz
  have hr := run_make (P := Try.prog) w 23 43 i _ Try.underlying23 hi hz .i64 .i64 n n (by omega) (Int.le_refl _) (by rw [hb]; omega) (by omega)
  simp only [Int.toNat_natCast, hs, Nat.mul_one] at hr
  exact hr
theorem nd_row {cs : List (List Nf)} {nl : NL} (h : tbl nl = ndT cs) (b : Nat) (hb : b < cs.length) : ∃ hb2 : b < nl.length, nl[b].2.length = cs[b].length ∧ ∀ i (hi : i < nl[b].2.length), nl[b].2[i] = ndF cs.flatten (base cs b + i) := by
  have hl : nl.length = cs.length := by have := congrArg List.length h; simpa [tbl, ndT] using this
  have hb2 : b < nl.length := by omega
  have e1 : nl[b].2 = (List.range ((cs.map List.length).getD b 0)).map fun i => ndF cs.flatten (base cs b + i) := by
    have e2 : (tbl nl)[b]'(by unfold tbl; simpa using hb2) = nl[b].2 := by simp [tbl]
    have e3 : (tbl nl)[b]? = (ndT cs)[b]? := by rw [h]
    rw [List.getElem?_eq_getElem (by unfold tbl; simpa using hb2), e2] at e3
    unfold ndT at e3
    rw [List.getElem?_map, List.getElem?_range hb] at e3
    simpa using e3
  refine ⟨hb2, by rw [e1, List.length_map, List.length_range, getD_map_len cs b hb], fun i hi => ?_⟩
  have : nl[b].2[i]? = some (ndF cs.flatten (base cs b + i)) := by
    have hi2 : i < (cs.map List.length).getD b 0 := by rw [e1] at hi; simpa using hi
    rw [e1, List.getElem?_map, List.getElem?_range hi2]; rfl
  rw [List.getElem?_eq_getElem hi] at this
  injection this
theorem base_map {α β : Type} (g : α → β) (l : List (List α)) (b : Nat) : base (l.map (·.map g)) b = base l b := by
  unfold base
  rw [← List.map_take, flat_map_len]
/-- The function of the grown rows. -/
theorem CL_fn {W w : World} {nm : ByteArray} {pp bp : Option Addr} {pc bc : Nat} {ps : List Int} {rt : Int} {bs : List LB} {cs : List (List Nf)} {fn : Nat → Bool} {L : List CR} {RB : Nat} {Y Z : As}
    (h : FnIn W.heap.size W ⟨nm, pp, ps.length, pc, ps, rt, bp, bs.length, bc, bs⟩) (hcs : nfs ⟨nm, ps, rt, bs.map blkD⟩ = cs) (hfn : ndF cs.flatten = fn) (hCL : CL cs bs fn bs.length 0 L) (hS : St W.heap.size W (As.and Z (As.and (clA W.heap.size RB L) Y)) w) :
    FnIn w.heap.size w ⟨nm, pp, ps.length, pc, ps, rt, some ⟨RB, 0, none⟩, bs.length, bs.length, L.map crB⟩ ∧ fnD ⟨nm, pp, ps.length, pc, ps, rt, some ⟨RB, 0, none⟩, bs.length, bs.length, L.map crB⟩ = clF ⟨nm, ps, rt, bs.map blkD⟩ := by
  have hb := hS.below
  have hle := hS.below.size
  have hrow : rowP W.heap.size 43 1 cC (some ⟨RB, 0, none⟩) L.length L.length L w := hS.sat.2.1.1
  have hall : (As.all (crA W.heap.size) L).sat w := hS.sat.2.1.2
  have hel : ∀ j (h1 : j < L.length) (h2 : j < bs.length), L[j].2.2 = sel fn (base cs j) bs[j].code := fun j h1 h2 => by
    rw [hCL.2 j h1 h2, if_pos h2]
  refine ⟨⟨h.1.lasts lasts_NoMem hb hle, ?_⟩, ?_⟩
  · have hr2 := rowP_in (m := 1) (cel := blkC) (E := BlkIn) (xs := L.map crB) (fun _ => rfl) (rowP_cells (cel' := blkC) hrow (by rw [List.length_map]) (flatMap_crB L).symm) (fun x hx => by
      obtain ⟨y, hy, rfl⟩ := List.mem_map.1 hx
      have hy2 : rowP W.heap.size 46 7 liC y.1 y.2.2.length y.2.1 y.2.2 w := As.all_mem _ hall y hy
      refine rowP_in (m := 7) (cel := liC) (E := InsIn) (fun _ => rfl) hy2 (fun z hz => ?_)
      obtain ⟨j, hj, rfl⟩ := List.mem_iff_getElem.1 hy
      have hj2 : j < bs.length := by rw [← hCL.1]; exact hj
      have hz : z ∈ L[j].2.2 := hz
      rw [hel j hj hj2] at hz
      have hz2 := sel_sub _ _ _ _ hz
      exact lasts_Ins _ _ _ _ _ hb hle ((h.2.2.2.2.2 bs[j] (List.getElem_mem hj2)).2.2.2.2 z hz2))
    rw [hCL.1] at hr2
    exact hr2
  · unfold fnD clF
    simp only
    rw [hcs, hfn]
    congr 1
    apply List.ext_getElem
    · rw [List.length_map, List.length_map, cut_len, List.length_map, hCL.1]
    · intro j h1 h2
      have hj : j < L.length := by simpa using h1
      have hj2 : j < bs.length := by rw [← hCL.1]; exact hj
      have h3 := cut_get fn (bs.map blkD) 0 j (by simpa using hj2)
      rw [List.getElem?_eq_getElem h2] at h3
      injection h3 with h3
      rw [h3, Nat.zero_add]
      have h4 : base (bs.map blkD) j = base cs j := by
        rw [← hcs]
        unfold nfs
        rw [base_map]
      rw [h4]
      simp only [List.getElem_map, blkD, crB]
      rw [hel j hj hj2, sel_map]
theorem Clean_any (f : LFn) (W : World) (h : FnIn W.heap.size W f) (hwf : FnWf f) (hz : fnZ (fnD f) ≤ 1048576) :
    Calls Try.prog 10 #[.agg (fnC f).toArray] W fun e w' => ∃ y a b, e = .returned (.agg (fnC y).toArray) ∧ fnD y = clF (fnD f) ∧ Below W.heap.size W w' ∧ FnOwn a b w' y ∧ W.heap.size ≤ a ∧ b ≤ w'.heap.size := by
  have hcs0 : ∀ b (h : b < f.bs.length), (nfs (fnD f))[b]? = some ((blkD f.bs[b]).map nfP) := fun b h => by unfold nfs fnD; simp [h]
  have hlen0 : (nfs (fnD f)).length = f.bs.length := by unfold nfs fnD; simp
  have hfl0 : (nfs (fnD f)).flatten.length ≤ blksZ (f.bs.map blkD) := nfs_len _
  have hneed := fun (w : World) (hb : Below W.heap.size W w) => Needed_any f w (lasts_Fn _ _ _ _ _ hb hb.size h) hwf hz
  have hcz := clF_Z (fnD f)
  obtain ⟨nm, pp, pn, pc, ps, rt, bp, bn, bc, bs⟩ := f
  obtain rfl : pn = ps.length := h.1.1
  obtain rfl : bn = bs.length := h.2.1
  have k2 : bs.length ≤ bc := h.2.2.1
  have k3 : bc ≤ maxLen := h.2.2.2.1
  unfold maxLen at k3
  have hzz : 1 + ps.length + blksZ (bs.map blkD) ≤ 1048576 := hz
  simp only at hcs0 hlen0 hfl0 hneed
  obtain ⟨cs, ecs⟩ : ∃ cs, nfs (fnD ⟨nm, pp, ps.length, pc, ps, rt, bp, bs.length, bc, bs⟩) = cs := ⟨_, rfl⟩
  rw [ecs] at hcs0 hlen0 hfl0 hneed
  have hbl0 : bs.length ≤ 1048576 := by have := blksZ_len (bs.map blkD); rw [List.length_map] at this; omega
  have H := Lib.hid (And.intro h (And.intro hwf (And.intro hzz (And.intro ecs hcz))))
  have HC := Lib.hid (And.intro hcs0 (And.intro hlen0 hfl0))
  have HN := Lib.hid hneed
  clear h hwf hz hzz hcs0 hlen0 hfl0 hneed ecs hcz
  show Calls Try.prog 10 #[.agg #[.string nm, .slice pp ps.length pc, .int .i64 rt, .slice bp bs.length bc]] W _
  have hmk := make_blocks bs.length hbl0
  go_enter Try.func10, Try.ntmps10
  go_wp2_with fail
  obtain ⟨W3, eW3⟩ : ∃ W3, W3 = (((W.alloc (.cells #[.string nm, .slice pp ps.length pc, .int .i64 rt, .slice bp bs.length bc] 25)).alloc (.cells #[.string ⟨#[]⟩, .slice none 0 0, .int .i64 0, .slice none 0 0] 25)).alloc (.cells (madeCells #[.slice none 0 0] bs.length) 43)) := ⟨_, rfl⟩
  have hS3 : St W.heap.size W (As.and (clA W.heap.size (W.heap.size + 1 + 1) (List.replicate bs.length (none, 0, []))) (As.and (bx (W.heap.size + 1) [.string ⟨#[]⟩, .slice none 0 0, .int .i64 0, .slice none 0 0]) (bx W.heap.size [.string nm, .slice pp ps.length pc, .int .i64 rt, .slice bp bs.length bc]))) W3 := by
    have h1 := (((St.start W).push rfl [.string nm, .slice pp ps.length pc, .int .i64 rt, .slice bp bs.length bc] 25).push (g := W.heap.size + 1) (by simp) [.string ⟨#[]⟩, .slice none 0 0, .int .i64 0, .slice none 0 0] 25)
    have h2 := h1.newBlocks bs.length hbl0
    simp only [World.size_alloc] at h2
    rw [eW3]
    exact h2.imp ⟨fun w x => ⟨x.1, x.2.1, x.2.2.1⟩, fun k => by simp only [As.and_c, As.emp_c]; omega⟩
  have HS3 := Lib.hid hS3
  rw [← eW3]
  clear eW3 hmk hS3
  refine (HN.out W3 HS3.out.below).mono ?_
  rintro e w2 ⟨np, nc, nl, rfl, htb, hS2⟩
  have hj := HS3.out.join hS2
  have hCS : CS W (W.heap.size + 1 + 1) [.string nm, .slice pp ps.length pc, .int .i64 rt, .slice bp bs.length bc] np nc nl (List.replicate bs.length (none, 0, [])) w2 := by
    unfold CS
    refine hj.imp ⟨fun w x => ⟨x.1.1, x.1.2.1, x.1.2.2, (rw_base HS3.out.le).1 w x.2.1, x.2.2⟩, fun k => ?_⟩
    have := (rw_base (ty := 36) (m := 1) (cel := cB) (p := np) (n := nl.length) (c := nc) (xs := nl) HS3.out.le).2 k
    simp only [As.and_c] at this ⊢
    omega
  have HCS := Lib.hid (And.intro hCS htb)
  clear hj hCS hS2 htb HS3 HN
  generalize W.heap.size + 1 + 1 = RB at *
  have hnl : nl.length = bs.length := by
    have h1 := congrArg List.length HCS.out.2
    have h2 := HC.out.2.1
    simp [tbl, ndT] at h1
    omega
  have hnc : nl.length ≤ nc ∧ nc ≤ 9223372036854775807 := by
    have hr : rowP W.heap.size 36 1 cB np nl.length nc nl w2 := HCS.out.1.sat.2.2.2.1
    rcases id hr.2.2 with ⟨e, h0⟩ | ⟨g, cap, cur, e, hg, hh, k1, k2, k3, k4⟩
    · injection e with e1 e2 e3; omega
    · injection e with e1 e2 e3; subst e3; unfold maxLen at k2; omega
  rw [hnl] at hnc
  obtain ⟨hnc1, hnc2⟩ := hnc
  go_wp2_with fail
  obtain ⟨fn, efn⟩ : ∃ fn, ndF cs.flatten = fn := ⟨_, rfl⟩
  have EFN := Lib.hid efn
  clear efn hnl
  go_loopw [15] (fun t wr => ∃ (b : Nat) (L : List CR), b ≤ bs.length ∧ t = .int .i64 b ∧ CL cs bs fn b 0 L ∧ CS W RB [.string nm, .slice pp ps.length pc, .int .i64 rt, .slice bp bs.length bc] np nc nl L wr) (fun t _ => bs.length - (intOf t).toNat)
  case atStart => exact ⟨0, _, Nat.zero_le _, rfl, CL.start cs bs fn, HCS.out.1⟩
  case round =>
    obtain ⟨b, L, hb, rfl, hCL, hS⟩ := hrel
    by_cases hlt : b < bs.length
    · have hbc : b < cs.length := by rw [HC.out.2.1]; exact hlt
      obtain ⟨hb2, hnlen, hnval⟩ := nd_row HCS.out.2 b hbc
      have hrn : rowP W.heap.size 36 1 cB np nl.length nc nl wr := hS.sat.2.2.2.1
      obtain ⟨RN, rfl, _, hRNl, _, _, hnc0⟩ := row_cell hrn (fun _ => rfl) b hb2
      have n0 : wr.cell? ⟨RN, b, none⟩ = some (.slice (some ⟨nl[b].1, 0, none⟩) nl[b].2.length nl[b].2.length) := by
        have := hnc0 0 (by decide)
        simpa [cB] using this
      have hcsb := HC.out.1 b hlt
      have hcb : cs[b] = (blkD bs[b]).map nfP := by rw [List.getElem?_eq_getElem hbc] at hcsb; injection hcsb
      have hcbl : cs[b].length = bs[b].code.length := by rw [hcb]; simp [blkD]
      rw [hcbl] at hnlen
      have hcl2 : bs[b].code.length ≤ 1048576 := by
        have h1 : 1 + codeZ (blkD bs[b]) ≤ blksZ (bs.map blkD) := blksZ_mem (List.mem_map_of_mem (List.getElem_mem hlt))
        have h2 : bs[b].code.length ≤ codeZ (blkD bs[b]) := by have := codeZ_len (blkD bs[b]); simpa [blkD] using this
        have h3 := H.out.2.2.1
        omega
      obtain ⟨gb, egb⟩ : ∃ gb, nl[b].1 = gb := ⟨_, rfl⟩
      obtain ⟨n, en⟩ : ∃ n, nl[b].2.length = n := ⟨_, rfl⟩
      rw [egb, en] at n0
      have hnn : n ≤ 1048576 := by omega
      have HB := Lib.hid (And.intro egb (And.intro en (And.intro hnlen (And.intro hnval (And.intro hCL hS)))))
      clear hrn hnc0 hcsb hcb hcbl hnlen hnval egb en hCL hS
      go_wp2_with fail
      go_loopw [22] (fun t wi => ∃ (i : Nat) (L : List CR), i ≤ n ∧ t = .int .i64 i ∧ CL cs bs fn b i L ∧ CS W RB [.string nm, .slice pp ps.length pc, .int .i64 rt, .slice bp bs.length bc] (some ⟨RN, 0, none⟩) nc nl L wi) (fun t _ => n - (intOf t).toNat)
      case atStart => exact ⟨0, L, Nat.zero_le _, rfl, HB.out.2.2.2.2.1, HB.out.2.2.2.2.2⟩
      case round =>
        rename World => wi
        rename_i L0 _ _ _ _
        obtain ⟨i, L, hi, rfl, hCL, hS⟩ := hrel
        by_cases hil : i < n
        · have hbr : BoolRow nl[b].1 nl[b].2 wi := (St.imp (Y := As.and (bAs nl) As.emp) hS ⟨fun w x => ⟨x.2.2.2.2, trivial⟩, fun k => by simp only [As.and_c, As.emp_c]; omega⟩).getB b hb2
          have hiv : i < nl[b].2.length := by rw [HB.out.2.1]; exact hil
          have hic : i < bs[b].code.length := by rw [← HB.out.2.2.1]; exact hiv
          have v0 := hbr.cell i hiv
          rw [HB.out.1, HB.out.2.2.2.1 i hiv, EFN.out] at v0
          clear hbr
          cases hfv : fn (base cs b + i) with
          | false =>
            rw [hfv] at v0
            have hnx := CL.skip hlt hic hfv hCL
            have HF := Lib.hid (And.intro hnx hS)
            clear hnx hS hCL hfv
            go_wp2_with fail
            exact ⟨⟨i + 1, L, by omega, by go_num, HF.out.1, HF.out.2⟩, by simp [intOf]; omega⟩
          | true =>
            rw [hfv] at v0
            have hLl : b < L.length := by rw [hCL.1]; exact hlt
            have hLn := hCL.len hlt hLl
            have hbw : Below W.heap.size W wi := hS.below
            obtain ⟨a, rfl, hab, c0⟩ := blk_row (H.out.1.2.lasts lasts_Blk hbw (Nat.le_refl _)) b hlt
            have hcode : BlkIn W.heap.size W bs[b] := H.out.1.2.2.2.2.2 bs[b] (List.getElem_mem hlt)
            obtain ⟨a2, ea2, hab2, z0, z1, z2, z3, z4, z5, z6⟩ := li_row (ListIn.lasts lasts_Ins hcode hbw (Nat.le_refl _)) i hic
            have kc1 : bs[b].n = bs[b].code.length := hcode.1
            have kc3 : bs[b].n ≤ bs[b].k := hcode.2.1
            have kc2 : bs[b].k ≤ maxLen := hcode.2.2.1
            unfold maxLen at kc2
            have hfb : Box W.heap.size [.string nm, .slice pp ps.length pc, .int .i64 rt, .slice (some a) bs.length bc] wi := hS.sat.2.2.1
            have x3 := hfb.get 3 _ rfl
            have xl := hfb.1
            have hrb := cC_row hS.sat.1.1 b hLl
            obtain ⟨r0, rl, rf⟩ := hrb
            have rf := rf b
            have hopen := St.clOpen hS b hLl
            obtain ⟨x, ex⟩ : ∃ x, bs[b].code[i] = x := ⟨_, rfl⟩
            have hnx := fun p c => CL.grow hlt hic hfv hLl p c hCL
            rw [ex] at z0 z1 z2 z3 z4 z5 z6 hnx
            rw [ea2] at c0
            obtain ⟨cn, ecn⟩ : ∃ cn, bs[b].n = cn := ⟨_, rfl⟩
            obtain ⟨ck, eck⟩ : ∃ ck, bs[b].k = ck := ⟨_, rfl⟩
            rw [ecn] at c0 kc1 kc3
            rw [eck] at c0 kc2 kc3
            have hicn : i < cn := by rw [kc1]; exact hic
            obtain ⟨⟨p0, q0, xs⟩, ey⟩ : ∃ y, L[b] = y := ⟨_, rfl⟩
            rw [ey] at r0 hopen hnx hLn
            simp only at r0 hLn
            unfold crA at hopen
            simp only at hopen hnx
            obtain ⟨⟨op, rg, ty, xn, fl, ap, al, ac, tp2, tl, tc2, args⟩, tg⟩ := x
            simp only at z0 z1 z2 z3 z4 z5 z6
            obtain ⟨iC, hiC⟩ := info_parts infoOf_C
            obtain ⟨lx, elx⟩ : ∃ lx, xs.length = lx := ⟨_, rfl⟩
            have hlx : lx ≤ 1048576 := by omega
            rw [elx] at r0
            have HQ := Lib.hid (And.intro hopen (And.intro hnx (And.intro hiC (And.intro elx hlx))))
            clear hopen hnx hiC elx hlx hS hCL hfb hcode hbw ex ecn eck ey hfv kc1 ea2 hLn
            go_wp2_with fail
            refine (fun key : Hid ?Phi => ?main) (Lib.hid ?pf)
            case main =>
              go_region_law (first | (refine step_app rfl (.tmp 34) (.tmp 44) 41 rfl iC _ 88 Try.underlying41 HQ.out.2.2.1.1 HQ.out.2.2.1.2.1 HQ.out.2.2.1.2.2.1 HQ.out.2.2.1.2.2.2 rfl (by decide) (by rw [← HQ.out.2.2.2.1]; rfl) ((HQ.out.1.alloc _).drew) (⟨op, rg, ty, xn, fl, ap, al, ac, tp2, tl, tc2, args⟩, tg) _ 1 rfl rfl (fun j u hj => (congrArg (fun z => z) (World.cell?_drew _ _)).trans (lit_cells wi _ _ j u hj)) (liC_one _) (by have := HQ.out.2.2.2.1; have := HQ.out.2.2.2.2; unfold maxLen; omega) (by have := HQ.out.2.2.2.1; have := HQ.out.2.2.2.2; omega) ?_; intro p' c' w' hS'; have kx := cC_row hS'.sat.2.1 b hLl; have k0 := kx.1; have k1 := kx.2.1; have k2 := kx.2.2 b; clear kx))
              all_goals (clear k0 k1 k2; revert p' c' w'; exact key.out)
            case pf =>
              intro p' c' w' hS'
              have h9 := St.clClose (R := RB) b hLl (p', c', xs ++ [(⟨op, rg, ty, xn, fl, ap, al, ac, tp2, tl, tc2, args⟩, tg)]) (by unfold crA; simp only [List.length_append, List.length_cons, List.length_nil]; exact hS')
              simp only [List.length_append, List.length_cons, List.length_nil] at h9
              have HF := Lib.hid (And.intro (HQ.out.2.1 p' c') h9)
              clear h9 hS' HQ r0 rl rf z0 z1 z2 z3 z4 z5 z6 c0 x3 xl v0
              go_wp2_with fail
              exact ⟨⟨i + 1, _, by omega, by go_num, HF.out.1, HF.out.2⟩, by simp [intOf]; omega⟩
        · obtain rfl : i = n := by omega
          have hnx : CL cs bs fn (b + 1) 0 L := CL.next hlt (by rw [← HB.out.2.2.1, HB.out.2.1]; exact hCL)
          have HF := Lib.hid (And.intro hnx hS)
          clear hnx hS hCL
          go_wp2_with fail
          exact ⟨⟨b + 1, L, by omega, by go_num, HF.out.1, HF.out.2⟩, by simp [intOf]; omega⟩
    · obtain rfl : b = bs.length := by omega
      have hfb : Box W.heap.size [.string nm, .slice pp ps.length pc, .int .i64 rt, .slice bp bs.length bc] wr := hS.sat.2.2.1
      have hrs : Box (W.heap.size + 1) [.string ⟨#[]⟩, .slice none 0 0, .int .i64 0, .slice none 0 0] wr := hS.sat.2.1
      have hS0 : St W.heap.size W (As.and (bx W.heap.size [.string nm, .slice pp ps.length pc, .int .i64 rt, .slice bp bs.length bc]) (As.and (clA W.heap.size RB L) (bx (W.heap.size + 1) [.string ⟨#[]⟩, .slice none 0 0, .int .i64 0, .slice none 0 0]))) wr :=
        St.imp hS ⟨fun w x => ⟨x.2.2.1, x.1, x.2.1⟩, fun k => by simp only [As.and_c]; omega⟩
      have hS1 := hS0.set 3 (.slice (some ⟨RB, 0, none⟩) bs.length bs.length)
      have x0 := hfb.get 0 _ rfl
      have x1 := hfb.get 1 _ rfl
      have x2 := hfb.get 2 _ rfl
      have x3 := hfb.get 3 _ rfl
      have xl := hfb.1
      have xf := hfb.2.1 3
      have HF := Lib.hid (And.intro hCL hS1)
      clear hCL hS hS0 hS1 hfb hrs
      go_wp2_with fail
      have hfn := CL_fn H.out.1 H.out.2.2.2.1 EFN.out HF.out.1 HF.out.2
      have hcp := CopyFunc_own _ _ hfn.1 (by rw [hfn.2]; exact Nat.le_trans H.out.2.2.2.2 H.out.2.2.1)
      have hfd := hfn.2
      have HF2 := Lib.hid hfd
      clear hfn hfd x0 x1 x2 x3 xf
      refine hcp.mono ?_
      rintro e w5 ⟨y, rfl, hy, hp5, ho5⟩
      have hS5 := (HF.out.2.later hp5.2).imp (Y := As.and (bx (W.heap.size + 1) [.string ⟨#[]⟩, .slice none 0 0, .int .i64 0, .slice none 0 0]) As.emp) ⟨fun w x => ⟨x.2.2, trivial⟩, fun k => by simp only [As.and_c, As.emp_c]; omega⟩
      have hrs : Box (W.heap.size + 1) [.string ⟨#[]⟩, .slice none 0 0, .int .i64 0, .slice none 0 0] w5 := hS5.sat.1
      have q0 := hrs.get 0 _ rfl
      have q1 := hrs.get 1 _ rfl
      have q2 := hrs.get 2 _ rfl
      have q3 := hrs.get 3 _ rfl
      have qf := hrs.2.1
      have ql := hrs.1
      obtain ⟨ynm, ypp, ypn, ypc, yps, yrt, ybp, ybn, ybc, ybs⟩ := y
      have hS6 := (((hS5.set 0 (.string ynm)).set 1 (.slice ypp ypn ypc)).set 2 (.int .i64 yrt)).set 3 (.slice ybp ybn ybc)
      have hr6 : Box (W.heap.size + 1) [.string ynm, .slice ypp ypn ypc, .int .i64 yrt, .slice ybp ybn ybc] _ := hS6.sat.1
      have HL := Lib.hid (And.intro hy (And.intro hp5 (And.intro ho5 (And.intro hS6 hr6))))
      clear hy hp5 ho5 hS6 hr6 hS5 hrs hcp
      simp only [fnC]
      go_wp2_with fail
      have hr6 := HL.out.2.2.2.2
      have z0 := hr6.get 0 _ rfl
      have z1 := hr6.get 1 _ rfl
      have z2 := hr6.get 2 _ rfl
      have z3 := hr6.get 3 _ rfl
      have hw4 : W.heap.size + 1 < (wr.setCell ⟨W.heap.size, 3, none⟩ (.slice (some ⟨RB, 0, none⟩) bs.length bs.length)).heap.size := (HF.out.2.sat.2.2 : Box _ _ _).1
      refine bodyPost_ret (v := .agg #[.string ynm, .slice ypp ypn ypc, .int .i64 yrt, .slice ybp ybn ybc]) (by simp [results, Try.results10, go_sem, z0, z1, z2, z3]) rfl
        ⟨⟨ynm, ypp, ypn, ypc, yps, yrt, ybp, ybn, ybc, ybs⟩, _, _, rfl, HL.out.1.trans HF2.out, HL.out.2.2.2.1.below, local_Fn _ _ _ _ _ (fun k h1 h2 => ?_) HL.out.2.2.1, ?_, ?_⟩
      · have hk : k ≠ W.heap.size + 1 := by omega
        exact (((Below.heap_setCell _ _ _ k hk).trans (Below.heap_setCell _ _ _ k hk)).trans (Below.heap_setCell _ _ _ k hk)).trans (Below.heap_setCell _ _ _ k hk)
      · omega
      · simp [World.setCell]
end Go.Proofs.Ytdfdgpobohpphaa
