/- Package uses: Needed. -/
import Derived.Test.YtdfdgpobohpphaaUsF
import Derived.Deep.QuietTactic
import Derived.StillTailTactics
import Derived.BigQuiet
namespace Go.Proofs.Ytdfdgpobohpphaa
open Go.RowKit Go.Maps
set_option linter.unusedVariables false
set_option linter.unusedSimpArgs false
set_option maxRecDepth 100000
set_option maxHeartbeats 2000000

theorem ownsRow_base {w : World} {B B' e m n : Nat} {v : Value} {xs : List Value} (h : w.ownsRow B e m v n xs) (hB : B' ≤ B) : w.ownsRow B' e m v n xs := by
  refine ⟨h.1, ?_⟩
  rcases h.2 with hn | ⟨g, cap, cur, hv, h0, rest⟩
  · exact .inl hn
  · exact .inr ⟨g, cap, cur, hv, Nat.le_trans hB h0, rest⟩
theorem rw_base {α : Type} {B B' ty m : Nat} {cel : α → List Value} {p : Option Addr} {n c : Nat} {xs : List α} (hB : B' ≤ B) : (rw' B ty m cel p n c xs).le (rw' B' ty m cel p n c xs) := ⟨fun w x => ⟨x.1, ownsRow_base x.2 hB⟩, fun k => Nat.le_refl _⟩
theorem St.rebase {B B' : Nat} {W W' w : World} {X : As} (h : St B W X w) (hW : Below B' W' W) (hB : B' ≤ B) : St B' W' X w :=
  ⟨hW.trans (h.below.mono hB), Nat.le_trans hB h.le, h.sat, h.one, fun k hk => Nat.le_trans hB (h.own k hk)⟩
/-- What Needed answers. -/
def NeedEnds (cs : List (List Nf)) (W : World) (e : Ending) (w' : World) : Prop :=
  ∃ (p : Option Addr) (c : Nat) (L : NL), e = .returned (.slice p L.length c) ∧ tbl L = ndT cs ∧ St W.heap.size W (As.and (rw' W.heap.size 36 1 cB p L.length c L) (bAs L)) w'
theorem SS.todo {B : Nat} {W w : World} {Z : As} {g : Nat} {s : Ps} (h : SS B W g s Z w) : ∃ (tp : Option Addr) (tc : Nat), g < w.heap.size ∧ w.cell? ⟨g, 2, none⟩ = some (.slice tp s.T.length tc) ∧ (∀ i, w.frozen? ⟨g, i, none⟩ = false) ∧ rowP B 51 3 pC tp s.T.length tc s.T w ∧ ∀ T' x, s.T = T' ++ [x] → SS B W g ⟨s.t, s.Q, T'⟩ Z (w.setCell ⟨g, 2, none⟩ (.slice tp T'.length tc)) := by
  obtain ⟨⟨np, nc, L, ab, N, o, S, P, tp, tc, T⟩, h1, h2⟩ := h
  have hT : T = s.T := h1.2.2.1
  subst hT
  simp only [Sk.as, Sk.bx] at h2
  have hbx : Box g [.slice np L.length nc, .map (some ab), .slice tp s.T.length tc] w := h2.sat.1.1
  have hrow : rowP B 51 3 pC tp s.T.length tc s.T w := h2.sat.1.2.2.2.2
  refine ⟨tp, tc, hbx.1, hbx.get 2 _ rfl, hbx.2.1, hrow, fun T' x e => ?_⟩
  have h3 := (h2.imp (Y := As.and (bx g [.slice np L.length nc, .map (some ab), .slice tp s.T.length tc]) (As.and (rw' B 51 3 pC tp s.T.length tc s.T) (As.and (rw' B 36 1 cB np L.length nc L) (As.and (bAs L) (As.and (grA ab N o S P) Z)))))
    ⟨fun w x => ⟨x.1.1, x.1.2.2.2.2, x.1.2.1, x.1.2.2.1, x.1.2.2.2.1, x.2⟩, fun k => by simp only [As.and_c]; omega⟩).set 2 (.slice tp T'.length tc)
  have hle : (rw' B 51 3 pC tp s.T.length tc s.T).le (rw' B 51 3 pC tp T'.length tc T') := ⟨fun w y => by
    have y : rowP B 51 3 pC tp s.T.length tc s.T w := y
    rw [e] at y
    exact row_less (fun _ => rfl) y, fun k => Nat.le_refl _⟩
  refine ⟨⟨np, nc, L, ab, N, o, S, P, tp, tc, T'⟩, ⟨h1.1, h1.2.1, rfl, h1.2.2.2⟩, h3.imp ⟨fun w y => ⟨⟨y.1, y.2.2.1, y.2.2.2.1, y.2.2.2.2.1, hle.1 w y.2.1⟩, y.2.2.2.2.2⟩, fun k => ?_⟩⟩
  have := hle.2 k
  simp only [As.and_c, Sk.as, Sk.bx, bx_c, rw_c] at this ⊢
  omega
theorem slice_front {t : TypeId} {e : TypeId} (ht : Try.prog.underlying t = some (.slice e)) {p : Option Addr} (hp : p = none ∨ ∃ g, p = some ⟨g, 0, none⟩) (n c k : Nat) (hk : k ≤ c) (s : Nat) (hs : ∀ w, (sizeOf e).run Try.prog w = .ok s w) (w : World) :
    (Instr.slice t (.slice p n c) none (some (.int .i64 (k : Int))) none).run Try.prog w = .ok (.slice p k c) w := by
  have hb : (Instr.sliceBounds true n c none (some (.int .i64 (k : Int))) none).run Try.prog w = .ok (0, k, c) w := by
    simp [Instr.sliceBounds, go_sem, hk]
  rcases hp with rfl | ⟨g, rfl⟩
  · simp [Instr.slice, run_underlying ht, hb, hs, go_sem]
    intro h
    omega
  · simp [Instr.slice, run_underlying ht, hb, hs, go_sem, Go.WideShapes.add_plain]
    intro h
    omega
theorem cellsPlace : Try.prog.cellsOf 51 = 3 := by kernel_rfl
theorem Needed_any (f : LFn) (W : World) (h : FnIn W.heap.size W f) (hwf : FnWf f) (hz : fnZ (fnD f) ≤ 1048576) :
    Calls Try.prog 8 #[.agg (fnC f).toArray] W (NeedEnds (nfs (fnD f)) W) := by
  have hcs0 : ∀ b (h : b < f.bs.length), (nfs (fnD f))[b]? = some ((blkD f.bs[b]).map nfP) := fun b h => by unfold nfs fnD; simp [h]
  have hlen0 : (nfs (fnD f)).length = f.bs.length := by unfold nfs fnD; simp
  have hfl0 : (nfs (fnD f)).flatten.length ≤ blksZ (f.bs.map blkD) := nfs_len _
  obtain ⟨W1, eW1⟩ : ∃ W1, W1 = W.alloc (.cells (fnC f).toArray 25) := ⟨_, rfl⟩
  have hb1 : Below W.heap.size W W1 := by rw [eW1]; exact (Below.refl _ _).alloc (Nat.le_refl _) _
  have hin1 : FnIn W1.heap.size W1 f := lasts_Fn _ _ _ _ _ hb1 hb1.size h
  have hx1 : Box W.heap.size (fnC f) W1 := by rw [eW1]; exact Box.new W rfl _ _
  have hcall := searchOf_any f W1 hin1 hwf hz
  obtain ⟨nm, pp, pn, pc, ps, rt, bp, bn, bc, bs⟩ := f
  obtain rfl : pn = ps.length := h.1.1
  obtain rfl : bn = bs.length := h.2.1
  have k2 : bs.length ≤ bc := h.2.2.1
  have k3 : bc ≤ maxLen := h.2.2.2.1
  unfold maxLen at k3
  have hzz : 1 + ps.length + blksZ (bs.map blkD) ≤ 1048576 := hz
  simp only at hcs0 hlen0 hfl0 hcall
  generalize nfs (fnD ⟨nm, pp, ps.length, pc, ps, rt, bp, bs.length, bc, bs⟩) = cs at *
  have x0 := hx1.get 0 _ rfl
  have x1 := hx1.get 1 _ rfl
  have x2 := hx1.get 2 _ rfl
  have x3 := hx1.get 3 _ rfl
  have xl := hx1.1
  have H := Lib.hid (And.intro hin1 (And.intro hwf (And.intro hzz (And.intro hb1 hx1))))
  have HC := Lib.hid (And.intro hcs0 (And.intro hlen0 hfl0))
  have HCALL := Lib.hid hcall
  clear h hwf hz hzz hin1 hb1 hcs0 hlen0 hfl0 hcall hx1
  show Calls Try.prog 8 #[.agg #[.string nm, .slice pp ps.length pc, .int .i64 rt, .slice bp bs.length bc]] W (NeedEnds cs W)
  have eW1 : W1 = W.alloc (.cells #[.string nm, .slice pp ps.length pc, .int .i64 rt, .slice bp bs.length bc] 25) := eW1
  have EW := Lib.hid eW1
  clear eW1
  go_enter Try.func8, Try.ntmps8
  go_wp2_with fail
  rw [← EW.out]
  refine HCALL.out.mono ?_
  rintro e w2 ⟨k, rfl, hk, g0, hS⟩
  have hS2 := (hS.push rfl [.slice k.np k.L.length k.nc, .map (some k.ab), .slice k.tp k.T.length k.tc] 59)
  have hSS : SS W1.heap.size W1 w2.heap.size ⟨iniT cs bs.length, iniQ cs bs.length, []⟩ As.emp (w2.alloc (.cells #[.slice k.np k.L.length k.nc, .map (some k.ab), .slice k.tp k.T.length k.tc] 59)) :=
    ⟨k, hk, hS2.imp ⟨fun w x => ⟨⟨x.1, x.2.2⟩, trivial⟩, fun j => by simp only [As.and_c, Sk.as, Sk.bx, bx_c, As.emp_c]; omega⟩⟩
  have HS := Lib.hid hSS
  have hb2 := hS2.below
  have y3 : (w2.alloc (.cells #[.slice k.np k.L.length k.nc, .map (some k.ab), .slice k.tp k.T.length k.tc] 59)).cell? ⟨W.heap.size, 3, none⟩ = some (.slice bp bs.length bc) := (hb2.cell (p := ⟨W.heap.size, 3, none⟩) xl).trans x3
  have yl : W.heap.size < w2.heap.size := Nat.lt_of_lt_of_le xl hS.below.size
  have y3' : w2.cell? ⟨W.heap.size, 3, none⟩ = some (.slice bp bs.length bc) := (hS.below.cell (p := ⟨W.heap.size, 3, none⟩) xl).trans x3
  clear hS hS2 hSS hb2 hk x0 x1 x2 y3
  go_wp2_with fail
  obtain ⟨g, eg⟩ : ∃ g, g = w2.heap.size := ⟨_, rfl⟩
  obtain ⟨w3, ew3⟩ : ∃ w3, w3 = w2.alloc (.cells #[.slice k.np k.L.length k.nc, .map (some k.ab), .slice k.tp k.T.length k.tc] 59) := ⟨_, rfl⟩
  have hS3 := HS.out
  rw [← eg, ← ew3] at hS3
  simp only [← eg]
  rw [← ew3]
  have HS := Lib.hid hS3
  clear ew3 eg hS3 y3' yl
  have hsh0 : shape (iniT cs bs.length) = cs.map List.length := by rw [← HC.out.2.1]; exact iniT_shape cs
  have hbnd : ∀ n ∈ cs.map List.length, n ≤ 1048576 := by
    intro n hn
    obtain ⟨c, hc, rfl⟩ := List.mem_map.1 hn
    have h1 := HC.out.2.2
    have h2 := H.out.2.2.1
    have h3 : c.length ≤ cs.flatten.length := by
      obtain ⟨i, hi, rfl⟩ := List.mem_iff_getElem.1 hc
      have q1 := base_succ cs i hi
      have q2 : base cs (i + 1) ≤ cs.flatten.length := by rw [← base_end cs]; exact base_mono cs (by omega)
      omega
    omega
  have HSH := Lib.hid (And.intro hsh0 hbnd)
  clear hsh0 hbnd
  go_loopw [15] (fun t wr => ∃ b : Nat, b ≤ bs.length ∧ t = .int .i64 b ∧ SS W1.heap.size W1 g ⟨(iniB cs b).foldl setT (iniT cs bs.length), iniQ cs bs.length, iniB cs b⟩ As.emp wr) (fun t _ => bs.length - (intOf t).toNat)
  case atStart => exact ⟨0, Nat.zero_le _, rfl, HS.out⟩
  case round =>
    obtain ⟨b, hb, rfl, hS⟩ := hrel
    by_cases hlt : b < bs.length
    · have hbl := (H.out.1.2.lasts lasts_Blk hS.below (Nat.le_refl _))
      obtain ⟨a, rfl, hab, c0⟩ := blk_row hbl b hlt
      have hcode : BlkIn W1.heap.size W1 bs[b] := H.out.1.2.2.2.2.2 bs[b] (List.getElem_mem hlt)
      have hcsb := HC.out.1 b hlt
      obtain ⟨c, ec⟩ : ∃ c, bs[b] = c := ⟨_, rfl⟩
      rw [ec] at c0 hcode hcsb
      clear ec
      obtain ⟨q, cn, cc, code⟩ := c
      obtain rfl : cn = code.length := hcode.1
      have kc1 : code.length ≤ cc := hcode.2.1
      have kc2 : cc ≤ maxLen := hcode.2.2.1
      unfold maxLen at kc2
      simp only at c0
      have hbk := hS.push [.slice q code.length cc] 43
      have hbl2 : b < cs.length := by rw [HC.out.2.1]; exact hlt
      have hcb : cs[b] = (blkD ⟨q, code.length, cc, code⟩).map nfP := by rw [List.getElem?_eq_getElem hbl2] at hcsb; injection hcsb
      have hcbl : cs[b].length = code.length := by rw [hcb]; simp [blkD]
      have hB1 := iniB_succ cs b hbl2
      have hbe : base cs b + cs[b].length ≤ cs.flatten.length := by
        rw [← base_succ cs b hbl2, ← base_end cs]; exact base_mono cs (by omega)
      have hBl := ini_both cs b (by omega)
      have HB := Lib.hid (And.intro hcode (And.intro hcb (And.intro hcbl (And.intro hB1 (And.intro hbe hBl)))))
      have HK := Lib.hid hbk
      have hbsz : wr.heap.size < (wr.alloc (.cells #[.slice q code.length cc] 43)).heap.size := by simp
      clear hcode hcsb hcb hcbl hB1 hbe hBl hbk hbl hS
      go_wp2_with fail
      have hrow0 : SS W1.heap.size W1 g ⟨(iniB cs b ++ rowB cs[b] b 0).foldl setT (iniT cs bs.length), iniQ cs bs.length, iniB cs b ++ rowB cs[b] b 0⟩ As.emp (wr.alloc (.cells #[.slice q code.length cc] 43)) := by
        rw [rowB_zero, List.append_nil]; exact HK.out.drop
      have HR0 := Lib.hid hrow0
      obtain ⟨n, en⟩ : ∃ n, code.length = n := ⟨_, rfl⟩
      have EN := Lib.hid en
      simp only [en] at kc1
      clear hrow0
      simp only [en]
      clear en
      go_loopw [23] (fun t wi => ∃ i : Nat, i ≤ n ∧ t = .int .i64 i ∧ SS W1.heap.size W1 g ⟨(iniB cs b ++ rowB cs[b] b i).foldl setT (iniT cs bs.length), iniQ cs bs.length, iniB cs b ++ rowB cs[b] b i⟩ As.emp wi) (fun t _ => n - (intOf t).toNat)
      case atStart => exact ⟨0, Nat.zero_le _, rfl, by rw [← EN.out]; exact HR0.out⟩
      case round =>
        rename World => wi
        obtain ⟨i, hi, rfl, hI⟩ := hrel
        by_cases hil : i < n
        · have hin : i < code.length := by rw [EN.out]; exact hil
          obtain ⟨a2, rfl, hab2, z0, z1, z2, z3, z4, z5, z6⟩ := li_row (ListIn.lasts lasts_Ins HB.out.1 hI.below (Nat.le_refl _)) i hin
          have hci : cs[b][i]? = some (nfP (insD code[i])) := by rw [HB.out.2.1]; simp [blkD, hin]
          have hcl3 : i < cs[b].length := by rw [HB.out.2.2.1]; exact hin
          have hci2 : cs[b][i] = nfP (insD code[i]) := by rw [List.getElem?_eq_getElem hcl3] at hci; injection hci
          have hsucc := rowB_succ cs[b] b i hcl3
          rw [hci2] at hsucc
          have hinr : InR (cs.map List.length) (b, i) := ⟨by simp [HC.out.2.1]; exact hlt, by rw [getD_map_len cs b (by rw [HC.out.2.1]; exact hlt)]; exact hcl3⟩
          obtain ⟨x, ex⟩ : ∃ x, code[i] = x := ⟨_, rfl⟩
          rw [ex] at z0 z1 z2 z3 z4 z5 z6 hsucc
          clear ex hci hci2
          obtain ⟨⟨op, rg, ty, xn, fl, ap, al, ac, tp2, tl, tc2, args⟩, tg⟩ := x
          simp only at z0 z1 z2 z3 z4 z5 z6
          have hsucc : rowB cs[b] b (i + 1) = rowB cs[b] b i ++ if idleB op then [] else [(b, i)] := hsucc
          have hJ := hI.push [.int .i64 op, .int .i64 rg, .int .i64 ty, .int .i64 xn, .int .i64 fl, .slice ap al ac, .slice tp2 tl tc2] 46
          have HJ := Lib.hid (And.intro hJ (And.intro hsucc (And.intro hinr hcl3)))
          clear hI hJ hsucc hinr hcl3
          have cI := fun W => Idle_any op W
          cases hid : idleB op with
          | true =>
            simp only [hid] at cI
            have hs : rowB cs[b] b (i + 1) = rowB cs[b] b i := by rw [HJ.out.2.1, hid]; simp
            have HS2 := Lib.hid hs
            clear hs hid
            go_wp2_with (first | ((with_reducible refine (cI _).mono ?_); rintro e w3 ⟨rfl, rfl⟩))
            refine ⟨⟨i + 1, by omega, by go_num, ?_⟩, by simp [intOf]; omega⟩
            rw [HS2.out]
            exact HJ.out.1.drop
          | false =>
            simp only [hid] at cI
            have hs : rowB cs[b] b (i + 1) = rowB cs[b] b i ++ [(b, i)] := by rw [HJ.out.2.1, hid]; simp
            have HS2 := Lib.hid hs
            clear hs hid
            have hTl : (iniB cs b ++ rowB cs[b] b i).length ≤ 1048576 := by
              have q1 := row_both cs[b] b i (by have := HJ.out.2.2.2; omega)
              have q2 := HB.out.2.2.2.2.2
              have q3 := HB.out.2.2.2.2.1
              have q4 := HJ.out.2.2.2
              have q5 := HC.out.2.2
              have q6 := H.out.2.2.1
              rw [List.length_append]
              omega
            have hcall := need_ss g b i _ _ _ (by rw [shape_fold, HSH.out.1]; exact HJ.out.2.2.1) (by rw [shape_fold, HSH.out.1]; exact HSH.out.2) hTl HJ.out.1.drop
            have HCL := Lib.hid hcall
            clear hcall hTl
            go_wp2_with (first | ((with_reducible refine (cI _).mono ?_); rintro e w3 ⟨rfl, rfl⟩))
            refine HCL.out.mono ?_
            rintro e w5 ⟨rfl, hF⟩
            have HF := Lib.hid hF
            clear hF
            go_wp2_with fail
            refine ⟨⟨i + 1, by omega, by go_num, ?_⟩, by simp [intOf]; omega⟩
            rw [HS2.out, ← List.append_assoc, List.foldl_append]
            exact HF.out
        · obtain rfl : i = n := by omega
          have hfin : SS W1.heap.size W1 g ⟨(iniB cs (b + 1)).foldl setT (iniT cs bs.length), iniQ cs bs.length, iniB cs (b + 1)⟩ As.emp wi := by
            rw [HB.out.2.2.2.1, HB.out.2.2.1, EN.out]
            exact hI
          have HF := Lib.hid hfin
          clear hfin hI
          go_wp2_with fail
          exact ⟨⟨b + 1, by omega, by go_num, HF.out⟩, by simp [intOf]; omega⟩
    · obtain rfl : b = bs.length := by omega
      have HI := Lib.hid hS
      clear hS
      go_wp2_with fail
      have hstart : Inv cs cs.flatten.length ⟨(iniB cs bs.length).foldl setT (iniT cs bs.length), iniQ cs bs.length, iniB cs bs.length⟩ none (fun _ => False) := by
        rw [← HC.out.2.1]; exact Inv.start cs
      have HST := Lib.hid hstart
      clear hstart
      go_loopg [8] ((iniB cs bs.length).length + (iniQ cs bs.length).length) (fun gk v8 wi => ∃ s : Ps, Inv cs cs.flatten.length s none (fun _ => False) ∧ SS W1.heap.size W1 g s As.emp wi ∧ gk = s.T.length + s.Q.length)
      case atStart => exact ⟨_, HST.out, HI.out, rfl⟩
      case round =>
        rename World => wi
        obtain ⟨s, hInv, hS, hgk⟩ := hrel
        obtain ⟨t, Q, T⟩ := s
        have HG := Lib.hid hgk
        clear hgk
        rcases List.eq_nil_or_concat T with rfl | ⟨T', p, rfl⟩
        · have ht := hInv.table
          obtain ⟨k5, hk5, h5⟩ := hS
          have hk5 : k5.is ⟨t, Q, []⟩ := hk5
          have hbx : Box g [.slice k5.np k5.L.length k5.nc, .map (some k5.ab), .slice k5.tp k5.T.length k5.tc] wi := h5.sat.1.1
          have e2 := hbx.get 2 _ rfl
          have e0 := hbx.get 0 _ rfl
          have hT0 : k5.T = [] := hk5.2.2.1
          rw [hT0] at e2
          simp only [List.length_nil] at e2
          have HF : Hid (NeedEnds cs W (.returned (.slice k5.np k5.L.length k5.nc)) wi) := Lib.hid ⟨k5.np, k5.nc, k5.L, rfl, hk5.1.trans ht,
            ((h5.rebase H.out.2.2.2.1 H.out.2.2.2.1.size).imp ⟨fun w x => ⟨(rw_base H.out.2.2.2.1.size).1 w x.1.2.1, x.1.2.2.1⟩, fun j => by
              have := (rw_base (ty := 36) (m := 1) (cel := cB) (p := k5.np) (n := k5.L.length) (c := k5.nc) (xs := k5.L) H.out.2.2.2.1.size).2 j
              simp only [As.and_c, Sk.as, rw_c] at this ⊢; omega⟩)⟩
          clear hbx h5 hT0 ht hInv hk5
          go_wp2_with fail
          go_ret
          exact HF.out
        · rw [List.concat_eq_append] at hInv hS HG
          obtain ⟨b, i⟩ := p
          obtain ⟨tp, tc, gl, e2, gf, hrow, hset⟩ := hS.todo
          simp only at e2 hrow hset
          have hset := hset T' (b, i) rfl
          obtain ⟨R, rfl, hBR, hRl, hc1, hc2, hcell⟩ := row_cell hrow (fun _ => rfl) T'.length (by simp)
          obtain ⟨m, em⟩ : ∃ m, T'.length = m := ⟨_, rfl⟩
          have hlm : (T' ++ [(b, i)]).length = m + 1 := by rw [List.length_append, em]; rfl
          have hm : m ≤ 1048576 := by
            have q1 := hInv.size
            have q2 := HC.out.2.2
            have q3 := H.out.2.2.1
            simp only at q1
            omega
          have y0 := hcell 0 (by decide)
          have y1 := hcell 1 (by decide)
          have y2 := hcell 2 (by decide)
          simp only [em, hlm] at e2 hc1 hset y0 y1 y2
          have ep : (T' ++ [(b, i)])[m]'(by omega) = (b, i) := by
            subst em; simp
          rw [ep] at y0 y1 y2
          have z0 : wi.cell? ⟨R, m * 3, none⟩ = some (.int .i64 0) := y0
          have z1 : wi.cell? ⟨R, m * 3 + 1, none⟩ = some (.int .i64 (b : Nat)) := y1
          have z2 : wi.cell? ⟨R, m * 3 + 2, none⟩ = some (.int .i64 (i : Nat)) := y2
          clear y0 y1 y2
          unfold maxLen at hc2
          have hgf := gf 2
          have hsl : ∀ w, (Instr.slice 57 (.slice (some ⟨R, 0, none⟩) (m + 1) tc) none (some (.int .i64 (m : Int))) none).run Try.prog w = .ok (.slice (some ⟨R, 0, none⟩) m tc) w := slice_front Try.underlying57 (.inr ⟨R, rfl⟩) _ _ _ (by omega) 3 (fun w => by simp [go_sem, cellsPlace])
          have hS2 := hset.push [.int .i64 0, .int .i64 (b : Nat), .int .i64 (i : Nat)] 51
          have hbi : ∃ hb : b < cs.length, i < cs[b].length := by
            have h3 := getT_lt (hInv.todo (b, i) (List.mem_append_right _ List.mem_cons_self))
            rw [hInv.sh] at h3
            have hb : b < cs.length := by have := h3.1; simpa using this
            exact ⟨hb, by have := h3.2; simp only at this; rwa [getD_map_len cs b hb] at this⟩
          obtain ⟨hbl, hil⟩ := hbi
          have hbs : b < bs.length := by rw [← HC.out.2.1]; exact hbl
          have HI2 := Lib.hid (And.intro hInv (And.intro hS2 (And.intro HG.out em)))
          have hlt2 : m < m + 1 := Nat.lt_succ_self m
          clear hInv hS hrow hset hcell gf ep hS2 hlm em
          go_wp2_with fail
          have hwz : (wi.setCell ⟨g, 2, none⟩ (.slice (some ⟨R, 0, none⟩) m tc)).heap.size = wi.heap.size := by simp [World.setCell]
          have hS3 := HI2.out.2.1
          rw [hwz] at hS3
          obtain ⟨gp, egp⟩ : ∃ gp, gp = wi.heap.size := ⟨_, rfl⟩
          obtain ⟨w5, ew5⟩ : ∃ w5, w5 = (wi.setCell ⟨g, 2, none⟩ (.slice (some ⟨R, 0, none⟩) m tc)).alloc (.cells #[.int .i64 0, .int .i64 (b : Nat), .int .i64 (i : Nat)] 51) := ⟨_, rfl⟩
          simp only [List.toArray] at hS3
          rw [← ew5, ← egp] at hS3
          simp only [← egp]
          rw [← ew5]
          clear ew5 egp hwz e2 gl z0 z1 z2 hgf hRl
          have hbx := hS3.box
          have d1 := hbx.get 1 _ rfl
          have d2 := hbx.get 2 _ rfl
          have hbw := hS3.below
          have y3 : w5.cell? ⟨W.heap.size, 3, none⟩ = some (.slice bp bs.length bc) := (hbw.cell (p := ⟨W.heap.size, 3, none⟩) xl).trans x3
          obtain ⟨a, rfl, hab, c0⟩ := blk_row (H.out.1.2.lasts lasts_Blk hbw (Nat.le_refl _)) b hbs
          have hcode : BlkIn W1.heap.size W1 bs[b] := H.out.1.2.2.2.2.2 bs[b] (List.getElem_mem hbs)
          have hwfb := H.out.2.1 bs[b] (List.getElem_mem hbs)
          have hcsb := HC.out.1 b hbs
          obtain ⟨c, ec⟩ : ∃ c, bs[b] = c := ⟨_, rfl⟩
          rw [ec] at c0 hcode hwfb hcsb
          clear ec
          obtain ⟨q, cn, cc, code⟩ := c
          obtain rfl : cn = code.length := hcode.1
          have kc1 : code.length ≤ cc := hcode.2.1
          have kc2 : cc ≤ maxLen := hcode.2.2.1
          unfold maxLen at kc2
          simp only at c0
          have hcb : cs[b] = (blkD ⟨q, code.length, cc, code⟩).map nfP := by rw [List.getElem?_eq_getElem hbl] at hcsb; injection hcsb
          have hin : i < code.length := by have := hil; rw [hcb] at this; simpa [blkD] using this
          obtain ⟨a2, rfl, hab2, -, -, -, -, -, f5, -⟩ := li_row (ListIn.lasts lasts_Ins hcode hbw (Nat.le_refl _)) i hin
          have hii : InsIn W1.heap.size W1 code[i] := hcode.2.2.2.2 code[i] (List.getElem_mem hin)
          have hwi := (hwfb code[i] (List.getElem_mem hin)).2
          have hci : cs[b]? = some cs[b] := List.getElem?_eq_getElem hbl
          have huse : ∀ (hb : b < cs.length) (hi : i < cs[b].length), ∀ r, cs[b][i].use r = code[i].1.args.any (isU r) := by
            intro _ hi r
            have : cs[b][i]? = some (nfP (insD code[i])) := by rw [hcb]; simp [blkD, hin]
            rw [List.getElem?_eq_getElem hi] at this
            injection this with this
            rw [this]; rfl
          obtain ⟨x, ex⟩ : ∃ x, code[i] = x := ⟨_, rfl⟩
          rw [ex] at f5 hii hwi huse
          obtain ⟨⟨op, rg, ty, xn, fl, ap, al, ac, tp2, tl, tc2, args⟩, tg⟩ := x
          obtain rfl : al = args.length := hii.1.1
          simp only at f5 hwi huse
          have hInv := HI2.out.1
          have hcall := follow_any g ⟨t, Q, T'⟩ ap ac args hii.1 hwi (fun x hx => hInv.inR hx) (by
              have q1 := hInv.size
              have q2 := HC.out.2.2
              have q3 := H.out.2.2.1
              simp only [List.length_append] at q1 ⊢
              omega) (by rw [show shape t = cs.map List.length from hInv.sh]; exact HSH.out.2) (hS3.drop.later (below_drew (Below.refl _ _)))
          have hround := (hInv.round args huse).1
          have hsize := fol_size args ⟨t, Q, T'⟩
          simp only at hsize
          have HR := Lib.hid (And.intro hcall (And.intro hround hsize))
          have HEM := Lib.hid (And.intro HI2.out.2.2.1 HI2.out.2.2.2)
          have hbs' : (b : Int) < (bs.length : Int) := by omega
          clear hS3 hbx hbw hcode hwfb hcsb hcb hii hwi hci huse ex hInv hcall hround hsize HI2
          refine wp_region_still_tail 12 (by kernel_rfl) (by kernel_rfl) ?_
          simp only [List.take_succ_cons, List.take_zero, List.drop_succ_cons, List.drop_zero]
          change wpStill _ _ (World.drew w5) _ _ _
          repeat still_step
          refine wpStill_nil ?_
          change wpList _ _ _ _ _ (World.drew w5)
          clear d1 d2 y3 c0 f5 hsl
          go_wp2_with fail
          refine HR.out.1.mono ?_
          rintro e w6 ⟨rfl, hF⟩
          have HF := Lib.hid hF
          clear hF
          go_wp2_with fail
          go_roundg ((args.foldl folV ⟨t, Q, T'⟩).T.length + (args.foldl folV ⟨t, Q, T'⟩).Q.length)
          case measure =>
            have q1 := HEM.out.1
            have q2 := HR.out.2.2
            rw [List.length_append] at q1
            simp only [List.length_cons, List.length_nil] at q1
            omega
          case rel => exact ⟨_, HR.out.2.1, HF.out, rfl⟩
end Go.Proofs.Ytdfdgpobohpphaa
