/- Package graph: Succs. -/
import Derived.Test.YtphdhndljgihmaaGSucA
import Derived.Maps.OwnSet
namespace Go.Proofs.Ytphdhndljgihmaa
open Go.RowKit Go.Maps
set_option linter.unusedVariables false
set_option linter.unusedSimpArgs false

/-- The set of these numbers. -/
def setN (L : List Nat) : DataW Unit := setOf (.agg []) ((ints L).map (Lit.int .i64))
theorem any_intN (x : Int) : ∀ l : List Int, l.any ((fun y : Lit => y.sameKey (.int .i64 x)) ∘ Lit.int .i64) = l.contains x
  | [] => rfl
  | a :: r => by
    rw [List.any_cons, List.contains_cons, any_intN x r]
    congr 1
    show decide (IntKind.i64 = IntKind.i64 ∧ a = x) = (x == a)
    by_cases e : a = x
    · subst e
      simp
    · have e' : ¬ x = a := fun h => e h.symm
      simp [e, e']
theorem has_setN (L : List Nat) (x : Int) : Maps.has (setN L) (.int .i64 x) = (ints L).contains x := by
  unfold setN
  rw [has_setOf _ _ _ (fun y hy => by obtain ⟨_, _, rfl⟩ := List.mem_map.1 hy; trivial), List.any_map]
  exact any_intN x _
theorem setN_snoc (L : List Nat) (t : Int) (h : 0 ≤ t) : setN (L ++ [t.toNat]) = (setN L).put (.int .i64 t) (.agg []) := by
  unfold setN
  rw [ints_app, List.map_append]
  show setOf _ (_ ++ [Lit.int .i64 ((t.toNat : Nat) : Int)]) = _
  rw [setOf_snoc, Int.toNat_of_nonneg h]
theorem setN_nil : setN [] = .map [] := rfl
theorem lawG : Keyed Try.prog 3 := int_keyed Try.underlying3
theorem zeroU (w : World) : (zeroValue 88).run Try.prog w = .ok (.agg #[]) w := by kernel_rfl
theorem infoN : (Try.prog.info? 3).map (fun i => (i.zero, i.size, i.bytes)) = some (some (.int .i64 0), 1, 8) := by kernel_rfl
/-- What the loop keeps. -/
structure SucI (W : World) (cs : List Value) (m k : Nat) (L : List Nat) (v : Value) (w : World) : Prop where
  past : Past W.heap.size W w
  box : Box W.heap.size cs w
  lt : W.heap.size < m
  mle : m + 1 ≤ w.heap.size
  map : w.ownsMap Try.prog 3 (unitElem (H := Unit)) m k (setN L)
  row : w.ownsRow (m + 1) 3 1 v L.length ((ints L).flatMap intC)
section
variable {W w w' : World} {cs : List Value} {m k : Nat} {L : List Nat} {v : Value}
theorem SucI.later (h : SucI W cs m k L v w) (hb : Below w.heap.size w w') : SucI W cs m k L v w' :=
  ⟨h.past.trans ⟨h.past.size, hb.mono h.past.size⟩, h.box.later hb, h.lt, Nat.le_trans h.mle hb.size, h.map.kept (row := none) ⟨hb.os, hb.tape, hb.output, hb.size, fun k hk _ => hb.block k hk⟩ (by simp),
    h.row.kept (row := none) ⟨hb.os, hb.tape, hb.output, hb.size, fun k hk _ => hb.block k hk⟩ (by cases v.ownBlock <;> simp)⟩
theorem SucI.alloc (h : SucI W cs m k L v w) (o : Obj) : SucI W cs m k L v (w.alloc o) := h.later ((Below.refl _ _).alloc (Nat.le_refl _) o)
theorem SucI.mono {k' : Nat} (h : SucI W cs m k L v w) (hk : k ≤ k') : SucI W cs m k' L v w := ⟨h.past, h.box, h.lt, h.mle, h.map.mono hk, h.row⟩
theorem SucI.put {k' : Nat} {t : Int} (h : SucI W cs m k L v w) (hm : w'.ownsMap Try.prog 3 (unitElem (H := Unit)) m k' ((setN L).put (.int .i64 t) (.agg []))) (hg : w.grownBy w' (some m)) :
    Past W.heap.size W w' ∧ Box W.heap.size cs w' ∧ m + 1 ≤ w'.heap.size ∧ w'.ownsRow (m + 1) 3 1 v L.length ((ints L).flatMap intC) := by
  have hl := h.lt
  refine ⟨h.past.grownRow hg (fun j e => by cases e; omega), h.box.kept hg (fun e => by cases e; omega), Nat.le_trans h.mle hg.size, h.row.kept hg ?_⟩
  by_cases hv : v.ownBlock = none
  · exact .inl hv
  · refine .inr (fun e => ?_)
    have := (h.row.lt m e).1
    omega
end
theorem SucI.snoc {W w w5 w6 : World} {cs : List Value} {m k : Nat} {L : List Nat} {v v6 : Value} {t : Int} {o : Obj} (h : SucI W cs m k L v w) (ht : 0 ≤ t) (hm : w5.ownsMap Try.prog 3 (unitElem (H := Unit)) m (k + 1) ((setN L).put (.int .i64 t) (.agg []))) (hg : w.grownBy w5 (some m))
    (hr : w6.ownsRow (m + 1) 3 1 v6 (L.length + 1) ((ints L).flatMap intC ++ [.int .i64 t])) (hg6 : (w5.alloc o).grownBy w6 v.ownBlock) : SucI W cs m (k + 1) (L ++ [t.toNat]) v6 w6 := by
  obtain ⟨h1, h2, h3, h4⟩ := h.put hm hg
  have hl := h.lt
  have hlt : ∀ g, v.ownBlock = some g → m + 1 ≤ g := fun g e => (h.row.lt g e).1
  refine ⟨(h1.alloc o).grownRow hg6 (fun j e => by have := hlt j e; omega), (h2.alloc o).kept hg6 (fun e => by have := hlt _ e.symm; omega), h.lt, Nat.le_trans h3 (Nat.le_trans (by simp) hg6.size), ?_, ?_⟩
  · rw [setN_snoc _ _ ht]
    exact (hm.alloc o).kept hg6 (fun e => by have := hlt _ e.symm; omega)
  · rw [List.length_append, ints_app, List.flatMap_append]
    have e : (ints [t.toNat]).flatMap intC = [.int .i64 t] := by
      show [Value.int .i64 ((t.toNat : Nat) : Int)] = _
      rw [Int.toNat_of_nonneg ht]
    rw [e]
    exact hr
theorem lit_one (w : World) (v : Value) (t : TypeId) : ∀ j u, [v][j]? = some u → ∃ ad, some (⟨w.heap.size, 0, none⟩ : Addr) = some ad ∧ (w.alloc (.cells #[v] t)).cell? (ad.add j) = some u := fun j u h => by
  obtain rfl : j = 0 := by
    have := (List.getElem?_eq_some_iff.1 h).1
    simp at this; omega
  simp at h; subst h
  exact ⟨_, rfl, cell_one_new _ _ _ 0 v rfl⟩
/-- What Succs answers: an own list of its own. -/
def OwnInts (L : List Nat) (W : World) (e : Ending) (w' : World) : Prop :=
  ∃ p c, e = .returned (.slice p L.length c) ∧ Past W.heap.size W w' ∧ ListOwn 3 1 intC NoOwn W.heap.size w'.heap.size w' p L.length c (ints L)
theorem ints_own {w : World} {B b : Nat} {p : Option Addr} {c : Nat} {L : List Nat} (h : w.ownsRow B 3 1 (.slice p L.length c) L.length ((ints L).flatMap intC)) {B' : Nat} (hB : B' ≤ B) (hb : b = w.heap.size) (hs : B' ≤ b) : ListOwn 3 1 intC NoOwn B' b w p L.length c (ints L) := by
  subst hb
  exact ⟨(ints_len L).symm, h.mono hB, fun g e => (h.lt g e).2, spread_NoOwn hs _⟩
def FnSm (f : LFn) : Prop := ∀ c ∈ f.bs, (tgtP (blkD c)).length ≤ 1048576 ∧ ∀ t ∈ tgtP (blkD c), wfI t
set_option maxRecDepth 100000 in
set_option maxHeartbeats 2000000 in
theorem Succs_own (f : LFn) (b : Int) (W : World) (h : FnIn W.heap.size W f) (hs : FnSm f) :
    Calls Try.prog 40 #[.agg (fnC f).toArray, .int .i64 b] W (OwnInts (succI (fnD f).bs b) W) := by
  have hmm := @run_makeMap Try.prog
  obtain ⟨nm, pp, pn, pc, ps, rt, bp, bn, bc, bs⟩ := f
  obtain rfl : bn = bs.length := h.2.1
  have k2 : bs.length ≤ bc := h.2.2.1
  have k3 : bc ≤ maxLen := h.2.2.2.1
  unfold maxLen at k3
  have ci := fun (x : Int) (w : World) (hb : Past W.heap.size W w) => isBlock_any ⟨nm, pp, pn, pc, ps, rt, bp, bs.length, bc, bs⟩ x w (past_lasts lasts_Fn h hb)
  have HS := Lib.hid hs
  have HH := Lib.hid h
  simp only [fnD]
  show Calls Try.prog 40 #[.agg #[.string nm, .slice pp pn pc, .int .i64 rt, .slice bp bs.length bc], .int .i64 b] W _
  have ci : ∀ (x : Int) (w : World), Past W.heap.size W w → Calls Try.prog 49 #[.agg #[.string nm, .slice pp pn pc, .int .i64 rt, .slice bp bs.length bc], .int .i64 x] w fun e w' => e = .returned (.bool (decide (0 ≤ x ∧ x < (bs.length : Int)))) ∧ Below w.heap.size w w' := ci
  have hP := (Past.refl (Nat.le_refl W.heap.size)).alloc (.cells #[.string nm, .slice pp pn pc, .int .i64 rt, .slice bp bs.length bc] 25)
  have A1 : Box W.heap.size [.string nm, .slice pp pn pc, .int .i64 rt, .slice bp bs.length bc] (W.alloc (.cells #[.string nm, .slice pp pn pc, .int .i64 rt, .slice bp bs.length bc] 25)) := Box.new W rfl _ _
  have a0 := A1.get 0 _ rfl
  have a1 := A1.get 1 _ rfl
  have a2 := A1.get 2 _ rfl
  have a3 := A1.get 3 _ rfl
  clear h hs
  go_enter Try.func40, Try.ntmps40
  by_cases hin : 0 ≤ b ∧ b < (bs.length : Int)
  · have hd : decide (0 ≤ b ∧ b < (bs.length : Int)) = true := decide_eq_true hin
    have c1 := ci b _ hP
    simp only [hd] at c1
    obtain ⟨N, rfl⟩ := Int.eq_ofNat_of_zero_le hin.1
    have hN : N < bs.length := by omega
    obtain ⟨a, rfl, ha, hrow⟩ := blk_row HH.out.2 N hN
    have HC := Lib.hid ci
    clear hd hin ci
    have HA1 := Lib.hid A1
    have HP := Lib.hid hP
    clear A1 hP
    go_wp2_with fail
    refine c1.mono ?_
    rintro e w1 ⟨rfl, hb1⟩
    have P1 := HP.out.trans ⟨HP.out.size, hb1.mono HP.out.size⟩
    have F1 := HA1.out.later hb1
    clear a0 a1 a2 a3 c1
    have lw : W.heap.size < w1.heap.size := F1.1
    have a0 := (F1.alloc (.map #[] 0)).get 0 _ rfl
    have a1 := (F1.alloc (.map #[] 0)).get 1 _ rfl
    have a2 := (F1.alloc (.map #[] 0)).get 2 _ rfl
    have a3 := (F1.alloc (.map #[] 0)).get 3 _ rfl
    have P2 := P1.alloc (.map #[] 0)
    have hrow2 := (P2.2.cell (p := a.add N) (by rw [add_block]; exact ha)).trans hrow
    have hT := targets_any W.heap.size bs[N] (w1.alloc (.map #[] 0)) P2.size (lasts_Blk _ _ _ _ _ P2.2 (Nat.le_refl _) (HH.out.2.2.2.2.2 bs[N] (List.getElem_mem hN)))
    obtain ⟨c, ec⟩ : ∃ c, bs[N] = c := ⟨_, rfl⟩
    have hS := HS.out bs[N] (List.getElem_mem hN)
    rw [ec] at hT hrow hrow2 hS
    have HSU : Hid (succI (bs.map blkD) (N : Int) = succL bs.length (tgtP (blkD c))) := Lib.hid (by
      rw [succI_nat]
      unfold succP
      rw [List.length_map, List.getD_eq_getElem?_getD, List.getElem?_map, List.getElem?_eq_getElem hN, ec]
      rfl)
    have P2s := P2.size
    have I0 : SucI W [.string nm, .slice pp pn pc, .int .i64 rt, .slice (some a) bs.length bc] w1.heap.size 0 [] (.slice none 0 0) (w1.alloc (.map #[] 0)) :=
      ⟨P2, F1.alloc _, lw, by simp, by rw [setN_nil]; exact World.ownsMap_made _ _ _ _, World.ownsRow_nil _ _ _ _⟩
    have HI0 := Lib.hid I0
    have HSS := Lib.hid hS
    clear hrow hS P1 F1 P2 I0 hb1 ec HS
    go_wp2_with fail
    refine hT.mono ?_
    rintro e w3 ⟨p, k, rfl, hL, hb3⟩
    have I3 := HI0.out.later hb3
    obtain ⟨ts, ets⟩ : ∃ ts, tgtP (blkD c) = ts := ⟨_, rfl⟩
    rw [ets] at hL HSU HSS ⊢
    have HTS := Lib.hid ets
    have hk1 := hL.2.1
    have hk2 := hL.2.2.1
    unfold maxLen at hk2
    have HL := Lib.hid (hL.lasts lasts_NoMem (hb3.mono P2s) (Nat.le_refl _))
    have hz : ts.length ≤ 1048576 := HSS.out.1
    obtain ⟨mb, emb⟩ : ∃ mb, w1.heap.size = mb := ⟨_, rfl⟩
    rw [emb] at I3
    have HI3 := Lib.hid I3
    have lm := I3.lt
    clear hT a0 a1 a2 a3 hrow2 hL hb3 HI0 ets lw P2s I3
    simp only [emb]
    clear emb
    obtain ⟨i0, hi, hz0, hz1, hz2⟩ := info_parts infoN
    go_wp2_with fail
    go_loopw [5, 23] (fun v t wr => ∃ (i : Nat) (q : Option Addr) (cc : Nat), i ≤ ts.length ∧ t = .int .i64 i ∧ v = .slice q (succL bs.length (ts.take i)).length cc ∧ SucI W [.string nm, .slice pp pn pc, .int .i64 rt, .slice (some a) bs.length bc] mb i (succL bs.length (ts.take i)) (.slice q (succL bs.length (ts.take i)).length cc) wr ∧ Below W.heap.size w3 wr) (fun _ t _ => ts.length - (intOf t).toNat)
    case atStart => exact ⟨0, none, 0, Nat.zero_le _, rfl, rfl, HI3.out, Below.refl _ _⟩
    case round =>
      obtain ⟨i, q, cc, hile, rfl, rfl, hI, hbW⟩ := hrel
      obtain ⟨S, eS⟩ : ∃ S, succL bs.length (ts.take i) = S := ⟨_, rfl⟩
      rw [eS] at hI ⊢
      by_cases hlt : i < ts.length
      · obtain ⟨ap, rfl, hap, hc⟩ := int_row HL.out i hlt
        have hc2 := (hbW.cell (p := ap.add i) (by rw [add_block]; exact hap)).trans hc
        have hwf := HSS.out.2 ts[i] (List.getElem_mem hlt)
        have hstep := succL_take bs.length ts i hlt
        rw [eS] at hstep
        have hSl : S.length ≤ i := by have := succL_len bs.length (ts.take i); rw [eS] at this; simpa [List.length_take, Nat.min_eq_left hile] using this
        obtain ⟨t, et⟩ : ∃ t, ts[i] = t := ⟨_, rfl⟩
        rw [et] at hc hc2 hwf hstep
        have hkey : keyOf Try.prog 3 (.int .i64 t) = some (.int .i64 t) := keyOf_int_mk Try.underlying3 hwf
        have ci2 := fun (w : World) (hb : Past W.heap.size W w) => HC.out t w hb
        have hhas := has_setN S t
        have HST := Lib.hid hstep
        have HIN := Lib.hid hI
        have HBW := Lib.hid hbW
        have HKEY := Lib.hid hkey
        clear hc et hwf hI hstep hbW hkey eS
        have IA := HIN.out.alloc (.cells #[] 88)
        have y0 := IA.box.get 0 _ rfl
        have y1 := IA.box.get 1 _ rfl
        have y2 := IA.box.get 2 _ rfl
        have y3 := IA.box.get 3 _ rfl
        have c2 := ci2 _ IA.past
        have HIA := Lib.hid IA
        clear ci2 IA
        by_cases hr : 0 ≤ t ∧ t < (bs.length : Int)
        · have hd : decide (0 ≤ t ∧ t < (bs.length : Int)) = true := decide_eq_true hr
          simp only [hd] at c2
          by_cases hm : t.toNat ∈ S
          · have hcn : (ints S).contains t = true := by
              have h1 := (mem_ints S t.toNat).2 hm
              rw [Int.toNat_of_nonneg hr.1] at h1
              simpa using h1
            rw [hcn] at hhas
            have HNT := Lib.hid (HST.out.trans (newT_old (fun h => h.2.2 hm)))
            clear hd hr hm hcn
            go_wp2_with (at_lookup; refine wpList_lookup_own_unit _ rfl _ _ 86 rfl 3 88 lawG Try.underlying86 (zeroU _) mb i _ rfl HIN.out.map _ _ rfl HKEY.out ?_)
            refine c2.mono ?_
            rintro e w4 ⟨rfl, hb4⟩
            have I4 := HIA.out.later hb4
            have hb4' := HBW.out.trans (((Below.refl wr.heap.size wr).alloc (Nat.le_refl _) (.cells #[] 88)).mono HIN.out.past.size)
            have hb5 := hb4'.trans (hb4.mono HIA.out.past.size)
            clear c2 y0 y1 y2 y3 hb4 hb4'
            go_wp2_with fail
            refine ⟨⟨i + 1, q, cc, by omega, by go_num, ?_, ?_, hb5⟩, by simp [intOf]; omega⟩
            · rw [HNT.out]
            · rw [HNT.out]; exact I4.mono (Nat.le_succ _)
          · have hcn : (ints S).contains t = false := by
              rw [Bool.eq_false_iff]
              intro h1
              have h1 : t ∈ ints S := by simpa using h1
              rw [← Int.toNat_of_nonneg hr.1] at h1
              exact hm ((mem_ints S t.toNat).1 h1)
            rw [hcn] at hhas
            have HNT := Lib.hid (HST.out.trans (newT_new ⟨hr.1, hr.2, hm⟩))
            have HT0 := Lib.hid hr.1
            clear hd hr hm hcn
            go_wp2_with (at_lookup; refine wpList_lookup_own_unit _ rfl _ _ 86 rfl 3 88 lawG Try.underlying86 (zeroU _) mb i _ rfl HIN.out.map _ _ rfl HKEY.out ?_)
            refine c2.mono ?_
            rintro e w4 ⟨rfl, hb4⟩
            have I4 := HIA.out.later hb4
            have hb4' := HBW.out.trans (((Below.refl wr.heap.size wr).alloc (Nat.le_refl _) (.cells #[] 88)).mono HIN.out.past.size)
            have hb5 := hb4'.trans (hb4.mono HIA.out.past.size)
            have HI4 := Lib.hid I4
            have HB5 := Lib.hid hb5
            clear c2 y0 y1 y2 y3 hb4 hb4' I4 hb5
            go_wp2_with (first
              | (at_mapUpdate; refine wpList_mapUpdate_own _ rfl _ _ _ 86 rfl 3 88 lawG Try.underlying86 (unitElem (H := Unit)) mb i _ rfl HI4.out.map (by unfold maxLen; omega) _ _ _ rfl rfl HKEY.out _ [] unitElem_mk ?_; intro w5 hown5 hgrow5
                 have H5 := Lib.hid (HI4.out.put hown5 hgrow5)
                 have HO5 := Lib.hid hown5
                 have HG5 := Lib.hid hgrow5
                 clear hown5 hgrow5)
              | (at_builtin; refine wpList_append_at rfl (.tmp 43) (.tmp 45) 22 rfl (mb + 1) 3 i0 _ 1 8 Try.underlying22 hi hz0 hz1 hz2 rfl (by decide) (.slice q S.length cc) S.length ((ints S).flatMap intC) rfl (H5.out.2.2.2.alloc _) (some ⟨w5.heap.size, 0, none⟩) 1 1 [.int .i64 t] rfl rfl (lit_one _ _ _) (by intro u hu; simp at hu; subst hu; rfl) (by unfold maxLen; omega) (by omega) (by have := H5.out.2.2.1; simp; omega) ?_; intro v6 w6 hown6 hgrow6 hmv6))
            obtain ⟨q6, c6, rfl⟩ := row_slice hown6
            have hg6 : (w5.alloc (.cells #[.int .i64 t] 3)).grownBy w6 (Value.slice q S.length cc).ownBlock := hgrow6
            have I6 := HI4.out.snoc HT0.out HO5.out HG5.out hown6 hg6
            have P5 : Past W.heap.size w3 w5 := (show Past W.heap.size w3 w4 from ⟨HI3.out.past.size, HB5.out⟩).grownRow HG5.out (fun j e => by cases e; omega)
            have P6 := (P5.alloc (.cells #[.int .i64 t] 3)).grownRow hg6 (fun j e => by have := (HI4.out.row.lt j e).1; omega)
            have e6 : (S ++ [t.toNat]).length = S.length + 1 := by simp
            refine ⟨⟨i + 1, q6, c6, by omega, by go_num, ?_, ?_, P6.2⟩, by simp [intOf]; omega⟩
            · rw [HNT.out, e6]
            · rw [HNT.out, e6]; exact I6
        · have hd : decide (0 ≤ t ∧ t < (bs.length : Int)) = false := decide_eq_false hr
          simp only [hd] at c2
          have HNT := Lib.hid (HST.out.trans (newT_old (fun h => hr ⟨h.1, h.2.1⟩)))
          clear hd hr
          go_wp2_with (at_lookup; refine wpList_lookup_own_unit _ rfl _ _ 86 rfl 3 88 lawG Try.underlying86 (zeroU _) mb i _ rfl HIN.out.map _ _ rfl HKEY.out ?_)
          refine c2.mono ?_
          rintro e w4 ⟨rfl, hb4⟩
          have I4 := HIA.out.later hb4
          have hb4' := HBW.out.trans (((Below.refl wr.heap.size wr).alloc (Nat.le_refl _) (.cells #[] 88)).mono HIN.out.past.size)
          have hb5 := hb4'.trans (hb4.mono HIA.out.past.size)
          clear c2 y0 y1 y2 y3 hb4 hb4'
          go_wp2_with fail
          refine ⟨⟨i + 1, q, cc, by omega, by go_num, ?_, ?_, hb5⟩, by simp [intOf]; omega⟩
          · rw [HNT.out]
          · rw [HNT.out]; exact I4.mono (Nat.le_succ _)
      · obtain rfl : i = ts.length := by omega
        rw [List.take_length] at eS
        have HX := Lib.hid (HSU.out.trans eS)
        clear eS
        go_wp2_with fail
        go_ret
        rw [HX.out]
        exact ⟨q, cc, rfl, hI.past, ints_own hI.row (by omega) rfl hI.past.size⟩
  · have hd : decide (0 ≤ b ∧ b < (bs.length : Int)) = false := decide_eq_false hin
    have c1 := ci b _ hP
    simp only [hd] at c1
    rw [succI_out _ b (by rw [List.length_map]; exact hin)]
    have HP := Lib.hid hP
    clear hd hin A1 hP ci
    go_wp2_with fail
    refine c1.mono ?_
    rintro e w1 ⟨rfl, hb1⟩
    clear a0 a1 a2 a3 c1
    go_wp2_with fail
    go_ret
    have P1 := HP.out.trans ⟨HP.out.size, hb1.mono HP.out.size⟩
    exact ⟨none, 0, rfl, P1, own_nil _ P1.size⟩
end Go.Proofs.Ytphdhndljgihmaa
