/- What the document puts behind an operation's word: calls, phis; all. -/
import Derived.Test.YtmampoakdjjbiaaGreatDoorSpX
namespace Go.Proofs.YtmampoakdjjbiaaGreatDoor
open Go.RowKit Go.Maps
set_option linter.unusedVariables false
set_option linter.unusedSimpArgs false

set_option maxRecDepth 100000 in
set_option maxHeartbeats 8000000 in
theorem rBeh_30f (m : LMod) (rg ty nn fl : Int) (ap tp : Option Addr) (al tl ac tc : Nat) (rs : List Arg) (ts : List Int) (W : World) (hm : ModIn W.heap.size W m) (hk : LenOk (modD m)) (hrs : ListIn argC NoMem W.heap.size W ap al ac rs) (hts : ListIn intC NoMem W.heap.size W tp tl tc ts) (hA : ∀ a ∈ rs, argB (modD m) a = true) (hb0 : ∀ a ∈ rs, 0 ≤ a.bits ∧ a.bits < 18446744073709551616) (hT : ∀ t ∈ ts, 0 ≤ t ∧ t ≤ 999) (hl : rs.length ≤ 1048576) (hlt : ts.length ≤ 1048576) (k : Nat) (hn : nn = (k : Int)) (hlt2 : k < m.fs.length) :
    Calls Tryz.prog 82 #[.agg (modC m).toArray, .agg #[.int .i64 30, .int .i64 rg, .int .i64 ty, .int .i64 nn, .int .i64 fl, .slice ap al ac, .slice tp tl tc]] W (StrV (mkS (32 :: (byt m.fs[k].nm ++ 40 :: (listT (rs.map (argT m.vs)) ++ [41])))) W) := by
  have hvs := values_at hm hk hrs hA hb0 hl
  have hvz := values_size hk hA hb0 hl
  subst hn
  obtain ⟨a, hap, hab, c0, c1, c2, c3⟩ := row_F hm.2.2 k hlt2
  have hnz : m.fs[k].nm.size ≤ 1048576 := hk.fs (fnD m.fs[k]) (List.mem_map_of_mem (List.getElem_mem hlt2))
  have hsl : m.fn = m.fs.length := hm.2.2.1
  have hc1 := hm.2.2.2.1
  have hc2 := hm.2.2.2.2.1
  unfold maxLen at hc2
  have HF : Hid (⟨#[32]⟩ ++ m.fs[k].nm ++ ⟨#[40]⟩ ++ mkS (listT (rs.map (argT m.vs))) ++ ⟨#[41]⟩ = mkS (32 :: (byt m.fs[k].nm ++ 40 :: (listT (rs.map (argT m.vs)) ++ [41])))) := Lib.hid (by
    rw [← mkS_byt m.fs[k].nm, lit1, lit1, lit1, mkS_app, mkS_app, mkS_app, mkS_app, byt_mkS]
    simp)
  obtain ⟨T, eT⟩ : ∃ T, mkS (32 :: (byt m.fs[k].nm ++ 40 :: (listT (rs.map (argT m.vs)) ++ [41]))) = T := ⟨_, rfl⟩
  obtain ⟨v, ev⟩ : ∃ t, mkS (listT (rs.map (argT m.vs))) = t := ⟨_, rfl⟩
  obtain ⟨nm, en⟩ : ∃ t, m.fs[k].nm = t := ⟨_, rfl⟩
  rw [eT] at HF ⊢
  rw [ev, en] at HF
  rw [ev] at hvz
  rw [en] at c0 hnz
  simp only [ev] at hvs
  have HV := Lib.hid (And.intro hvs c0)
  clear eT ev en hvs c0 c1 c2 c3
  have HS := Lib.hid (IS.new W (modC m) [.int .i64 30, .int .i64 rg, .int .i64 ty, .int .i64 (k : Int), .int .i64 fl, .slice ap al ac, .slice tp tl tc] 26 39)
  clear hA hb0 hT hk hm hrs hts hl hlt
  have HV : Hid (_ ∧ _) := HV
  obtain ⟨vp, vn, vc, vs, xp, xn, xc, xs, fp, fn, fc, fs⟩ := m
  simp only at hap hlt2 hsl hc1 hc2
  subst hap
  have HS : Hid (IS W [.slice vp vn vc, .slice xp xn xc, .slice (some a) fn fc] [.int .i64 30, .int .i64 rg, .int .i64 ty, .int .i64 (k : Int), .int .i64 fl, .slice ap al ac, .slice tp tl tc] ((W.alloc (.cells #[.slice vp vn vc, .slice xp xn xc, .slice (some a) fn fc] 26)).alloc (.cells #[.int .i64 30, .int .i64 rg, .int .i64 ty, .int .i64 (k : Int), .int .i64 fl, .slice ap al ac, .slice tp tl tc] 39))) := HS
  show Calls Tryz.prog 82 #[.agg #[.slice vp vn vc, .slice xp xn xc, .slice (some a) fn fc], .agg #[.int .i64 30, .int .i64 rg, .int .i64 ty, .int .i64 (k : Int), .int .i64 fl, .slice ap al ac, .slice tp tl tc]] W _
  have hkl : k < fn := by omega
  have hkI : (k : Int) < (fn : Int) := by omega
  have hkM : k ≤ 9223372036854775807 := by omega
  clear hsl hlt2
  go_enter Tryz.func82, Tryz.ntmps82
  go_upto_region 28 with fail
  obtain ⟨w1, ew1⟩ : ∃ w1, ((W.alloc (.cells #[.slice vp vn vc, .slice xp xn xc, .slice (some a) fn fc] 26)).alloc (.cells #[.int .i64 30, .int .i64 rg, .int .i64 ty, .int .i64 (k : Int), .int .i64 fl, .slice ap al ac, .slice tp tl tc] 39)) = w1 := ⟨_, rfl⟩
  rw [ew1] at HS ⊢
  clear ew1
  have z3 := HS.out.2.1.get 3 _ rfl
  have y_ := HS.out.1.get 2 _ rfl
  have k0 := (HS.out.2.2.cell (p := a.add (k * 4)) (by rw [add_block]; exact hab)).trans HV.out.2
  have l1 : ¬ 9223372036854775807 < 1 + nm.size := by omega
  have l2 : ¬ 9223372036854775807 < 1 + nm.size + 1 := by omega
  have l3 : ¬ 9223372036854775807 < 1 + nm.size + 1 + v.size := by omega
  have l4 : ¬ 9223372036854775807 < 1 + nm.size + 1 + v.size + 1 := by omega
  go_upto_region 30 with fail
  clear k0 z3 y_
  have z5 := HS.out.2.1.get 5 _ rfl
  obtain ⟨y0_, y1_, y2_⟩ : w1.cell? ⟨W.heap.size, 0, none⟩ = some (.slice vp vn vc) ∧ w1.cell? ⟨W.heap.size, 1, none⟩ = some (.slice xp xn xc) ∧ w1.cell? ⟨W.heap.size, 2, none⟩ = some (.slice (some a) fn fc) := ⟨HS.out.1.get 0 _ rfl, HS.out.1.get 1 _ rfl, HS.out.1.get 2 _ rfl⟩
  have cv := HV.out.1 w1 HS.out.2.2
  go_wp2_with fail
  refine cv.mono ?_
  rintro e w2 ⟨rfl, hb2⟩
  have HS5 := Lib.hid (HS.out.later hb2)
  clear hb2 cv
  go_wp2_with fail
  go_ret
  exact ⟨by rw [← HF.out]; rfl, HS5.out.2.2⟩
set_option maxRecDepth 100000 in
set_option maxHeartbeats 8000000 in
theorem rBeh_30x (m : LMod) (rg ty nn fl : Int) (ap tp : Option Addr) (al tl ac tc : Nat) (rs : List Arg) (ts : List Int) (W : World) (hm : ModIn W.heap.size W m) (hk : LenOk (modD m)) (hrs : ListIn argC NoMem W.heap.size W ap al ac rs) (hts : ListIn intC NoMem W.heap.size W tp tl tc ts) (hA : ∀ a ∈ rs, argB (modD m) a = true) (hb0 : ∀ a ∈ rs, 0 ≤ a.bits ∧ a.bits < 18446744073709551616) (hT : ∀ t ∈ ts, 0 ≤ t ∧ t ≤ 999) (hl : rs.length ≤ 1048576) (hlt : ts.length ≤ 1048576) (k : Nat) (hn : nn = -1 - (k : Int)) (hlt2 : k < m.xs.length) :
    Calls Tryz.prog 82 #[.agg (modC m).toArray, .agg #[.int .i64 30, .int .i64 rg, .int .i64 ty, .int .i64 nn, .int .i64 fl, .slice ap al ac, .slice tp tl tc]] W (StrV (mkS (32 :: (byt m.xs[k].nm ++ 40 :: (listT (rs.map (argT m.vs)) ++ [41])))) W) := by
  have hvs := values_at hm hk hrs hA hb0 hl
  have hvz := values_size hk hA hb0 hl
  subst hn
  obtain ⟨a, hap, hab, c0, c1, c2⟩ := row_X hm.2.1 k hlt2
  have hnz : m.xs[k].nm.size ≤ 1048576 := hk.xs (extD m.xs[k]) (List.mem_map_of_mem (List.getElem_mem hlt2))
  have hsl : m.xn = m.xs.length := hm.2.1.1
  have hc1 := hm.2.1.2.1
  have hc2 := hm.2.1.2.2.1
  unfold maxLen at hc2
  have HF : Hid (⟨#[32]⟩ ++ m.xs[k].nm ++ ⟨#[40]⟩ ++ mkS (listT (rs.map (argT m.vs))) ++ ⟨#[41]⟩ = mkS (32 :: (byt m.xs[k].nm ++ 40 :: (listT (rs.map (argT m.vs)) ++ [41])))) := Lib.hid (by
    rw [← mkS_byt m.xs[k].nm, lit1, lit1, lit1, mkS_app, mkS_app, mkS_app, mkS_app, byt_mkS]
    simp)
  obtain ⟨T, eT⟩ : ∃ T, mkS (32 :: (byt m.xs[k].nm ++ 40 :: (listT (rs.map (argT m.vs)) ++ [41]))) = T := ⟨_, rfl⟩
  obtain ⟨v, ev⟩ : ∃ t, mkS (listT (rs.map (argT m.vs))) = t := ⟨_, rfl⟩
  obtain ⟨nm, en⟩ : ∃ t, m.xs[k].nm = t := ⟨_, rfl⟩
  rw [eT] at HF ⊢
  rw [ev, en] at HF
  rw [ev] at hvz
  rw [en] at c0 hnz
  simp only [ev] at hvs
  have HV := Lib.hid (And.intro hvs c0)
  clear eT ev en hvs c0 c1 c2
  have HS := Lib.hid (IS.new W (modC m) [.int .i64 30, .int .i64 rg, .int .i64 ty, .int .i64 (-1 - (k : Int)), .int .i64 fl, .slice ap al ac, .slice tp tl tc] 26 39)
  clear hA hb0 hT hk hm hrs hts hl hlt
  have HV : Hid (_ ∧ _) := HV
  obtain ⟨vp, vn, vc, vs, xp, xn, xc, xs, fp, fn, fc, fs⟩ := m
  simp only at hap hlt2 hsl hc1 hc2
  subst hap
  have HS : Hid (IS W [.slice vp vn vc, .slice (some a) xn xc, .slice fp fn fc] [.int .i64 30, .int .i64 rg, .int .i64 ty, .int .i64 (-1 - (k : Int)), .int .i64 fl, .slice ap al ac, .slice tp tl tc] ((W.alloc (.cells #[.slice vp vn vc, .slice (some a) xn xc, .slice fp fn fc] 26)).alloc (.cells #[.int .i64 30, .int .i64 rg, .int .i64 ty, .int .i64 (-1 - (k : Int)), .int .i64 fl, .slice ap al ac, .slice tp tl tc] 39))) := HS
  show Calls Tryz.prog 82 #[.agg #[.slice vp vn vc, .slice (some a) xn xc, .slice fp fn fc], .agg #[.int .i64 30, .int .i64 rg, .int .i64 ty, .int .i64 (-1 - (k : Int)), .int .i64 fl, .slice ap al ac, .slice tp tl tc]] W _
  have eN : -1 - (-1 - (k : Int)) = k := by omega
  have d0 : decide ((0 : Int) ≤ -1 - (k : Int)) = false := by simp; omega
  have hkl : k < xn := by omega
  have hkI : (k : Int) < (xn : Int) := by omega
  have hkM : k ≤ 9223372036854775807 := by omega
  clear hsl hlt2
  go_enter Tryz.func82, Tryz.ntmps82
  go_upto_region 29 with fail
  obtain ⟨w1, ew1⟩ : ∃ w1, ((W.alloc (.cells #[.slice vp vn vc, .slice (some a) xn xc, .slice fp fn fc] 26)).alloc (.cells #[.int .i64 30, .int .i64 rg, .int .i64 ty, .int .i64 (-1 - (k : Int)), .int .i64 fl, .slice ap al ac, .slice tp tl tc] 39)) = w1 := ⟨_, rfl⟩
  rw [ew1] at HS ⊢
  clear ew1
  have z3 := HS.out.2.1.get 3 _ rfl
  have y_ := HS.out.1.get 1 _ rfl
  have k0 := (HS.out.2.2.cell (p := a.add (k * 3)) (by rw [add_block]; exact hab)).trans HV.out.2
  have l1 : ¬ 9223372036854775807 < 1 + nm.size := by omega
  have l2 : ¬ 9223372036854775807 < 1 + nm.size + 1 := by omega
  have l3 : ¬ 9223372036854775807 < 1 + nm.size + 1 + v.size := by omega
  have l4 : ¬ 9223372036854775807 < 1 + nm.size + 1 + v.size + 1 := by omega
  go_upto_region 30 with fail
  clear k0 z3 y_
  have z5 := HS.out.2.1.get 5 _ rfl
  obtain ⟨y0_, y1_, y2_⟩ : w1.cell? ⟨W.heap.size, 0, none⟩ = some (.slice vp vn vc) ∧ w1.cell? ⟨W.heap.size, 1, none⟩ = some (.slice (some a) xn xc) ∧ w1.cell? ⟨W.heap.size, 2, none⟩ = some (.slice fp fn fc) := ⟨HS.out.1.get 0 _ rfl, HS.out.1.get 1 _ rfl, HS.out.1.get 2 _ rfl⟩
  have cv := HV.out.1 w1 HS.out.2.2
  go_wp2_with fail
  refine cv.mono ?_
  rintro e w2 ⟨rfl, hb2⟩
  have HS5 := Lib.hid (HS.out.later hb2)
  clear hb2 cv
  go_wp2_with fail
  go_ret
  exact ⟨by rw [← HF.out]; rfl, HS5.out.2.2⟩
def phiT (gs : List PVar) (l : List (Int × Arg)) : Tx := if l = [] then [] else 32 :: listT (l.map (pairT gs))
theorem phiStep0 (gs : List PVar) (l : List (Int × Arg)) (h : 0 < l.length) : phiT gs (l.take (0 + 1)) = 32 :: pairT gs l[0] := by
  unfold phiT
  rw [listStep0 (pairT gs) l h, if_neg]
  intro k
  have h3 := congrArg List.length k
  rw [List.length_take, List.length_nil] at h3
  omega
theorem phiStep (gs : List PVar) (l : List (Int × Arg)) (i : Nat) (h : i < l.length) (h0 : i ≠ 0) : phiT gs (l.take (i + 1)) = phiT gs (l.take i) ++ ([44, 32] ++ pairT gs l[i]) := by
  have n1 : ∀ j, 0 < j → l.take j ≠ [] := fun j hj k => by
    have := congrArg List.length k
    rw [List.length_take, List.length_nil] at this
    omega
  unfold phiT
  rw [if_neg (n1 _ (by omega)), if_neg (n1 _ (by omega)), listStep (pairT gs) l i h h0]
  rfl
theorem size_lit (l : Tx) : (⟨l.toArray⟩ : ByteArray).size = l.length := by simp [ByteArray.size]
set_option maxRecDepth 100000 in
set_option maxHeartbeats 8000000 in
theorem rBeh_25 (m : LMod) (rg ty nn fl : Int) (ap tp : Option Addr) (al tl ac tc : Nat) (rs : List Arg) (ts : List Int) (W : World) (hm : ModIn W.heap.size W m) (hk : LenOk (modD m)) (hrs : ListIn argC NoMem W.heap.size W ap al ac rs) (hts : ListIn intC NoMem W.heap.size W tp tl tc ts) (hA : ∀ a ∈ rs, argB (modD m) a = true) (hb0 : ∀ a ∈ rs, 0 ≤ a.bits ∧ a.bits < 18446744073709551616) (hT : ∀ t ∈ ts, 0 ≤ t ∧ t ≤ 999) (hl : rs.length ≤ 1048576) (hlt : ts.length ≤ 1048576) (htr : ts.length = rs.length) :
    Calls Tryz.prog 82 #[.agg (modC m).toArray, .agg #[.int .i64 25, .int .i64 rg, .int .i64 ty, .int .i64 nn, .int .i64 fl, .slice ap al ac, .slice tp tl tc]] W (StrV (mkS (32 :: (typeT ty ++ phiT m.vs (ts.zip rs)))) W) := by
  obtain rfl : al = rs.length := hrs.1
  have hc1 := hrs.2.1
  have hc2 := hrs.2.2.1
  obtain rfl : tl = ts.length := hts.1
  have hc3 := hts.2.1
  have hc4 := hts.2.2.1
  unfold maxLen at hc2 hc4
  have c1 := type_at ty
  have s1 := type_size ty
  have hV : ∀ i (hi : i < rs.length) w, Below W.heap.size W w → Calls Tryz.prog 108 #[.agg (modC m).toArray, .agg #[.int .i64 rs[i].kind, .int .i64 rs[i].n, .int .u64 rs[i].bits]] w (StrV (mkS (argT m.vs rs[i])) w) := fun i hi w hb => value_at hm hk hA hb0 _ (List.getElem_mem hi) w hb
  have hVz : ∀ i (hi : i < rs.length), (mkS (argT m.vs rs[i])).size ≤ 1048600 := fun i hi => value_size hk hA hb0 _ (List.getElem_mem hi)
  have hB : ∀ i (hi : i < ts.length) w, Calls Tryz.prog 39 #[.int .i64 ts[i]] w (StrV (mkS (blockT ts[i])) w) := fun i hi w => block_at (hT _ (List.getElem_mem hi)) w
  have hBz : ∀ i (hi : i < ts.length), (mkS (blockT ts[i])).size ≤ 21 := fun i hi => block_size (hT _ (List.getElem_mem hi)).2
  have hz : ∀ i (hi : i < rs.length) (h2 : i < ts.length), ∀ h : i < (ts.zip rs).length, pairT m.vs (ts.zip rs)[i] = blockT ts[i] ++ 32 :: argT m.vs rs[i] := fun i hi h2 h => by rw [List.getElem_zip]; rfl
  have hst0 : ∀ i s, i = 0 → s = mkS (32 :: (typeT ty ++ phiT m.vs ((ts.zip rs).take i))) → ∀ (hi : i < rs.length) (h2 : i < ts.length), s ++ ⟨#[32]⟩ ++ mkS (blockT ts[i]) ++ ⟨#[32]⟩ ++ mkS (argT m.vs rs[i]) = mkS (32 :: (typeT ty ++ phiT m.vs ((ts.zip rs).take (i + 1)))) := fun i s h0 hd hi h2 => by
    subst h0
    rw [hd, lit1, mkS_app, mkS_app, mkS_app, mkS_app, phiStep0 m.vs (ts.zip rs) (by simp; omega), hz 0 hi h2]
    simp [phiT]
  have hst : ∀ i s, i ≠ 0 → s = mkS (32 :: (typeT ty ++ phiT m.vs ((ts.zip rs).take i))) → ∀ (hi : i < rs.length) (h2 : i < ts.length), s ++ ⟨#[44]⟩ ++ ⟨#[32]⟩ ++ mkS (blockT ts[i]) ++ ⟨#[32]⟩ ++ mkS (argT m.vs rs[i]) = mkS (32 :: (typeT ty ++ phiT m.vs ((ts.zip rs).take (i + 1)))) := fun i s h0 hd hi h2 => by
    rw [hd, lit1, lit1, mkS_app, mkS_app, mkS_app, mkS_app, mkS_app, phiStep m.vs (ts.zip rs) i (by simp; omega) h0, hz i hi h2]
    simp
  have hfin : ∀ i s, i = rs.length → s = mkS (32 :: (typeT ty ++ phiT m.vs ((ts.zip rs).take i))) → s = mkS (32 :: (typeT ty ++ phiT m.vs (ts.zip rs))) := fun i s h hd => by
    rw [hd, List.take_of_length_le (by simp; omega)]
  have hone : ⟨#[32]⟩ ++ mkS (typeT ty) = mkS (32 :: (typeT ty ++ phiT m.vs ((ts.zip rs).take 0))) := by rw [lit1, mkS_app]; simp [phiT]
  obtain ⟨PT, ePT⟩ : ∃ PT : Nat → ByteArray, (fun i => mkS (32 :: (typeT ty ++ phiT m.vs ((ts.zip rs).take i)))) = PT := ⟨_, rfl⟩
  have ePT' : ∀ i, mkS (32 :: (typeT ty ++ phiT m.vs ((ts.zip rs).take i))) = PT i := fun i => by rw [← ePT]
  simp only [ePT'] at hst0 hst hfin hone
  obtain ⟨T, eT⟩ : ∃ T, mkS (32 :: (typeT ty ++ phiT m.vs (ts.zip rs))) = T := ⟨_, rfl⟩
  rw [eT] at ⊢
  simp only [eT] at hfin
  obtain ⟨t1, e1⟩ : ∃ t, mkS (typeT ty) = t := ⟨_, rfl⟩
  rw [e1] at c1 s1 hone
  have HV := Lib.hid (And.intro hV (And.intro hVz (And.intro hB (And.intro hBz (And.intro hst0 (And.intro hst (And.intro hfin (And.intro hone (And.intro hrs hts)))))))))
  have HTR := Lib.hid htr
  clear htr
  clear ePT ePT' eT e1 hz hV hVz hB hBz hst0 hst hfin hone
  obtain ⟨G, eG⟩ : ∃ G : Arg → ByteArray, (fun a => mkS (argT m.vs a)) = G := ⟨_, rfl⟩
  have eG' : ∀ a, mkS (argT m.vs a) = G a := fun a => by rw [← eG]
  simp only [eG'] at HV
  clear eG eG'
  have HS := Lib.hid (IS.new W (modC m) [.int .i64 25, .int .i64 rg, .int .i64 ty, .int .i64 nn, .int .i64 fl, .slice ap rs.length ac, .slice tp ts.length tc] 26 39)
  clear hA hb0 hT hk hm hrs hts
  have HV : Hid (_ ∧ _ ∧ _ ∧ _ ∧ _ ∧ _ ∧ _ ∧ _ ∧ _ ∧ _) := HV
  obtain ⟨vp, vn, vc, vs, xp, xn, xc, xs, fp, fn, fc, fs⟩ := m
  have HS : Hid (IS W [.slice vp vn vc, .slice xp xn xc, .slice fp fn fc] [.int .i64 25, .int .i64 rg, .int .i64 ty, .int .i64 nn, .int .i64 fl, .slice ap rs.length ac, .slice tp ts.length tc] ((W.alloc (.cells #[.slice vp vn vc, .slice xp xn xc, .slice fp fn fc] 26)).alloc (.cells #[.int .i64 25, .int .i64 rg, .int .i64 ty, .int .i64 nn, .int .i64 fl, .slice ap rs.length ac, .slice tp ts.length tc] 39))) := HS
  show Calls Tryz.prog 82 #[.agg #[.slice vp vn vc, .slice xp xn xc, .slice fp fn fc], .agg #[.int .i64 25, .int .i64 rg, .int .i64 ty, .int .i64 nn, .int .i64 fl, .slice ap rs.length ac, .slice tp ts.length tc]] W _
  go_enter Tryz.func82, Tryz.ntmps82
  go_upto_region 7 with fail
  obtain ⟨w1, ew1⟩ : ∃ w1, ((W.alloc (.cells #[.slice vp vn vc, .slice xp xn xc, .slice fp fn fc] 26)).alloc (.cells #[.int .i64 25, .int .i64 rg, .int .i64 ty, .int .i64 nn, .int .i64 fl, .slice ap rs.length ac, .slice tp ts.length tc] 39)) = w1 := ⟨_, rfl⟩
  rw [ew1] at HS ⊢
  clear ew1
  have z2 := HS.out.2.1.get 2 _ rfl
  have cv := c1 w1
  go_wp2_with fail
  refine cv.mono ?_
  rintro e w2 ⟨rfl, hb2⟩
  have HS5 := Lib.hid (HS.out.later hb2)
  clear hb2 cv HS z2
  go_wp2_with fail
  go_loopw [5, 6] (fun ts_ ti wr => ∃ (i : Nat) (s : ByteArray), i ≤ rs.length ∧ ti = .int .i64 i ∧ ts_ = .string s ∧ Hid (s = PT i) ∧ s.size ≤ 22 + i * 1048700 ∧ IS W [.slice vp vn vc, .slice xp xn xc, .slice fp fn fc] [.int .i64 25, .int .i64 rg, .int .i64 ty, .int .i64 nn, .int .i64 fl, .slice ap rs.length ac, .slice tp ts.length tc] wr) (fun _ ti _ => rs.length - (intOf ti).toNat)
  case atStart =>
    refine ⟨0, _, Nat.zero_le _, rfl, rfl, Lib.hid HV.out.2.2.2.2.2.2.2.1, ?_, HS5.out⟩
    rw [ByteArray.size_append]
    show 1 + t1.size ≤ _
    omega
  case round =>
    obtain ⟨i, s, hi, rfl, rfl, hd, hsz, hS⟩ := hrel
    generalize wr = wo at *
    have z5 := hS.2.1.get 5 _ rfl
    by_cases hlt : i < rs.length
    · obtain ⟨a, rfl, hab, k0, k1, k2⟩ := row_A HV.out.2.2.2.2.2.2.2.2.1 i hlt
      obtain ⟨g, rfl, hgb, g0⟩ := row_I HV.out.2.2.2.2.2.2.2.2.2 i (by have := HTR.out; omega)
      have htl : i < ts.length := by have := HTR.out; omega
      have hv := HV.out.1 i hlt
      have hvz := HV.out.2.1 i hlt
      have hb := HV.out.2.2.1 i htl
      have hbz := HV.out.2.2.2.1 i htl
      have H0 := Lib.hid fun h0 => HV.out.2.2.2.2.1 i s h0 hd.out hlt htl
      have H1 := Lib.hid fun h0 => HV.out.2.2.2.2.2.1 i s h0 hd.out hlt htl
      obtain ⟨x, ex⟩ : ∃ x, rs[i] = x := ⟨_, rfl⟩
      obtain ⟨y, ey⟩ : ∃ y, ts[i] = y := ⟨_, rfl⟩
      simp only [ex, ey] at hv hvz hb hbz H0 H1 k0 k1 k2 g0
      obtain ⟨v, ev⟩ : ∃ t, G x = t := ⟨_, rfl⟩
      obtain ⟨b, eb⟩ : ∃ t, mkS (blockT y) = t := ⟨_, rfl⟩
      simp only [ev, eb] at hv hvz hb hbz H0 H1
      obtain ⟨kd, nv, bv⟩ := x
      simp only at k0 k1 k2 hv
      have HK0 := Lib.hid (And.intro k0 (And.intro k1 (And.intro k2 (And.intro g0 (And.intro hv hb)))))
      have HS := Lib.hid hS
      have hpl : i ≤ 1048576 := by omega
      clear ev eb ex ey hd hv hb k0 k1 k2 g0 hS z5
      have z5 := HS.out.2.1.get 5 _ rfl
      by_cases h0 : i = 0
      · have d0 : decide (0 < i) = false := by simp; omega
        have d0' : decide ((0 : Int) < (i : Int)) = false := by simp; omega
        have l0 : ¬ 9223372036854775807 < s.size := by omega
        have l1 : ¬ 9223372036854775807 < s.size + 1 := by omega
        have l2 : ¬ 9223372036854775807 < s.size + 1 + b.size := by omega
        have l3 : ¬ 9223372036854775807 < s.size + 1 + b.size + 1 := by omega
        have l4 : ¬ 9223372036854775807 < s.size + 1 + b.size + 1 + v.size := by omega
        have HI := Lib.hid h0
        clear h0
        go_upto_region 13 with fail
        clear z5
        have HSS : ∀ w, IS W [.slice vp vn vc, .slice xp xn xc, .slice fp fn fc] [.int .i64 25, .int .i64 rg, .int .i64 ty, .int .i64 nn, .int .i64 fl, .slice (some a) rs.length ac, .slice (some g) ts.length tc] w → (w.cell? ⟨W.heap.size, 0, none⟩ = some (.slice vp vn vc) ∧ w.cell? ⟨W.heap.size, 1, none⟩ = some (.slice xp xn xc) ∧ w.cell? ⟨W.heap.size, 2, none⟩ = some (.slice fp fn fc) ∧ w.cell? ⟨W.heap.size + 1, 5, none⟩ = some (.slice (some a) rs.length ac) ∧ w.cell? ⟨W.heap.size + 1, 6, none⟩ = some (.slice (some g) ts.length tc) ∧ w.cell? (a.add (i * 3)) = some (.int .i64 kd) ∧ w.cell? ⟨(a.add (i * 3)).block, (a.add (i * 3)).off + 1, none⟩ = some (.int .i64 nv) ∧ w.cell? ⟨(a.add (i * 3)).block, (a.add (i * 3)).off + 2, none⟩ = some (.int .u64 bv) ∧ w.cell? (g.add i) = some (.int .i64 y)) := fun w h => ⟨h.1.get 0 _ rfl, h.1.get 1 _ rfl, h.1.get 2 _ rfl, h.2.1.get 5 _ rfl, h.2.1.get 6 _ rfl, (h.2.2.cell (p := a.add (i * 3)) (by rw [add_block]; exact hab)).trans HK0.out.1, (h.2.2.cell (p := ⟨(a.add (i * 3)).block, (a.add (i * 3)).off + 1, none⟩) (by dsimp only; rw [add_block]; exact hab)).trans HK0.out.2.1, (h.2.2.cell (p := ⟨(a.add (i * 3)).block, (a.add (i * 3)).off + 2, none⟩) (by dsimp only; rw [add_block]; exact hab)).trans HK0.out.2.2.1, (h.2.2.cell (p := g.add i) (by rw [add_block]; exact hgb)).trans HK0.out.2.2.2.1⟩
        obtain ⟨y0_, y1_, y2_, y3_, y4_, y5_, y6_, y7_, y8_⟩ := HSS wo HS.out
        have kh : IS W [.slice vp vn vc, .slice xp xn xc, .slice fp fn fc] [.int .i64 25, .int .i64 rg, .int .i64 ty, .int .i64 nn, .int .i64 fl, .slice (some a) rs.length ac, .slice (some g) ts.length tc] wo := HS.out
        have cA : ∀ w, ((w.cell? ⟨W.heap.size, 0, none⟩ = some (.slice vp vn vc) ∧ w.cell? ⟨W.heap.size, 1, none⟩ = some (.slice xp xn xc) ∧ w.cell? ⟨W.heap.size, 2, none⟩ = some (.slice fp fn fc) ∧ w.cell? ⟨W.heap.size + 1, 5, none⟩ = some (.slice (some a) rs.length ac) ∧ w.cell? ⟨W.heap.size + 1, 6, none⟩ = some (.slice (some g) ts.length tc) ∧ w.cell? (a.add (i * 3)) = some (.int .i64 kd) ∧ w.cell? ⟨(a.add (i * 3)).block, (a.add (i * 3)).off + 1, none⟩ = some (.int .i64 nv) ∧ w.cell? ⟨(a.add (i * 3)).block, (a.add (i * 3)).off + 2, none⟩ = some (.int .u64 bv) ∧ w.cell? (g.add i) = some (.int .i64 y)) ∧ IS W [.slice vp vn vc, .slice xp xn xc, .slice fp fn fc] [.int .i64 25, .int .i64 rg, .int .i64 ty, .int .i64 nn, .int .i64 fl, .slice (some a) rs.length ac, .slice (some g) ts.length tc] w) → Calls Tryz.prog 39 #[.int .i64 y] w fun e w' => e = .returned (.string b) ∧ w'.cell? ⟨W.heap.size, 0, none⟩ = some (.slice vp vn vc) ∧ w'.cell? ⟨W.heap.size, 1, none⟩ = some (.slice xp xn xc) ∧ w'.cell? ⟨W.heap.size, 2, none⟩ = some (.slice fp fn fc) ∧ w'.cell? ⟨W.heap.size + 1, 5, none⟩ = some (.slice (some a) rs.length ac) ∧ w'.cell? ⟨W.heap.size + 1, 6, none⟩ = some (.slice (some g) ts.length tc) ∧ w'.cell? (a.add (i * 3)) = some (.int .i64 kd) ∧ w'.cell? ⟨(a.add (i * 3)).block, (a.add (i * 3)).off + 1, none⟩ = some (.int .i64 nv) ∧ w'.cell? ⟨(a.add (i * 3)).block, (a.add (i * 3)).off + 2, none⟩ = some (.int .u64 bv) ∧ w'.cell? (g.add i) = some (.int .i64 y) ∧ IS W [.slice vp vn vc, .slice xp xn xc, .slice fp fn fc] [.int .i64 25, .int .i64 rg, .int .i64 ty, .int .i64 nn, .int .i64 fl, .slice (some a) rs.length ac, .slice (some g) ts.length tc] w' := by
          rintro w ⟨k, kh⟩
          refine ((fun w kh => HK0.out.2.2.2.2.2 w) w kh).mono ?_
          rintro e w' ⟨he, hb⟩
          have h2 := kh.later hb
          obtain ⟨s0, s1, s2, s3, s4, s5, s6, s7, s8⟩ := HSS w' h2
          exact ⟨he, s0, s1, s2, s3, s4, s5, s6, s7, s8, h2⟩
        have cB : ∀ w, ((w.cell? ⟨W.heap.size, 0, none⟩ = some (.slice vp vn vc) ∧ w.cell? ⟨W.heap.size, 1, none⟩ = some (.slice xp xn xc) ∧ w.cell? ⟨W.heap.size, 2, none⟩ = some (.slice fp fn fc) ∧ w.cell? ⟨W.heap.size + 1, 5, none⟩ = some (.slice (some a) rs.length ac) ∧ w.cell? ⟨W.heap.size + 1, 6, none⟩ = some (.slice (some g) ts.length tc) ∧ w.cell? (a.add (i * 3)) = some (.int .i64 kd) ∧ w.cell? ⟨(a.add (i * 3)).block, (a.add (i * 3)).off + 1, none⟩ = some (.int .i64 nv) ∧ w.cell? ⟨(a.add (i * 3)).block, (a.add (i * 3)).off + 2, none⟩ = some (.int .u64 bv) ∧ w.cell? (g.add i) = some (.int .i64 y)) ∧ IS W [.slice vp vn vc, .slice xp xn xc, .slice fp fn fc] [.int .i64 25, .int .i64 rg, .int .i64 ty, .int .i64 nn, .int .i64 fl, .slice (some a) rs.length ac, .slice (some g) ts.length tc] w) → Calls Tryz.prog 108 #[.agg #[.slice vp vn vc, .slice xp xn xc, .slice fp fn fc], .agg #[.int .i64 kd, .int .i64 nv, .int .u64 bv]] w fun e w' => e = .returned (.string v) ∧ w'.cell? ⟨W.heap.size, 0, none⟩ = some (.slice vp vn vc) ∧ w'.cell? ⟨W.heap.size, 1, none⟩ = some (.slice xp xn xc) ∧ w'.cell? ⟨W.heap.size, 2, none⟩ = some (.slice fp fn fc) ∧ w'.cell? ⟨W.heap.size + 1, 5, none⟩ = some (.slice (some a) rs.length ac) ∧ w'.cell? ⟨W.heap.size + 1, 6, none⟩ = some (.slice (some g) ts.length tc) ∧ w'.cell? (a.add (i * 3)) = some (.int .i64 kd) ∧ w'.cell? ⟨(a.add (i * 3)).block, (a.add (i * 3)).off + 1, none⟩ = some (.int .i64 nv) ∧ w'.cell? ⟨(a.add (i * 3)).block, (a.add (i * 3)).off + 2, none⟩ = some (.int .u64 bv) ∧ w'.cell? (g.add i) = some (.int .i64 y) ∧ IS W [.slice vp vn vc, .slice xp xn xc, .slice fp fn fc] [.int .i64 25, .int .i64 rg, .int .i64 ty, .int .i64 nn, .int .i64 fl, .slice (some a) rs.length ac, .slice (some g) ts.length tc] w' := by
          rintro w ⟨k, kh⟩
          refine ((fun w (kh : IS W [.slice vp vn vc, .slice xp xn xc, .slice fp fn fc] [.int .i64 25, .int .i64 rg, .int .i64 ty, .int .i64 nn, .int .i64 fl, .slice (some a) rs.length ac, .slice (some g) ts.length tc] w) => HK0.out.2.2.2.2.1 w kh.2.2) w kh).mono ?_
          rintro e w' ⟨he, hb⟩
          have h2 := kh.later hb
          obtain ⟨s0, s1, s2, s3, s4, s5, s6, s7, s8⟩ := HSS w' h2
          exact ⟨he, s0, s1, s2, s3, s4, s5, s6, s7, s8, h2⟩
        clear HSS
        go_region_held3 (fun w' => w'.cell? ⟨W.heap.size, 0, none⟩ = some (.slice vp vn vc) ∧ w'.cell? ⟨W.heap.size, 1, none⟩ = some (.slice xp xn xc) ∧ w'.cell? ⟨W.heap.size, 2, none⟩ = some (.slice fp fn fc) ∧ w'.cell? ⟨W.heap.size + 1, 5, none⟩ = some (.slice (some a) rs.length ac) ∧ w'.cell? ⟨W.heap.size + 1, 6, none⟩ = some (.slice (some g) ts.length tc) ∧ w'.cell? (a.add (i * 3)) = some (.int .i64 kd) ∧ w'.cell? ⟨(a.add (i * 3)).block, (a.add (i * 3)).off + 1, none⟩ = some (.int .i64 nv) ∧ w'.cell? ⟨(a.add (i * 3)).block, (a.add (i * 3)).off + 2, none⟩ = some (.int .u64 bv) ∧ w'.cell? (g.add i) = some (.int .i64 y))
          (((try dsimp only); (repeat' apply And.intro) <;> (first | (with_reducible assumption) | (rw [World.cell?_drew]; with_reducible assumption) | (simp <;> omega))))
          (first
            | ((with_reducible refine' (cA _ ?pre).mono ?_)
               case pre => (refine ⟨⟨?_, ?_, ?_, ?_, ?_, ?_, ?_, ?_, ?_⟩, ?_⟩ <;> (first | (with_reducible assumption) | (rw [World.cell?_drew]; with_reducible assumption) | (with_reducible apply IS.drew; with_reducible assumption) | (simp <;> omega) | omega))
               rintro e wscA ⟨rfl, cA_0, cA_1, cA_2, cA_3, cA_4, cA_5, cA_6, cA_7, cA_8, sahcA⟩)
            | ((with_reducible refine' (cB _ ?pre).mono ?_)
               case pre => (refine ⟨⟨?_, ?_, ?_, ?_, ?_, ?_, ?_, ?_, ?_⟩, ?_⟩ <;> (first | (with_reducible assumption) | (rw [World.cell?_drew]; with_reducible assumption) | (with_reducible apply IS.drew; with_reducible assumption) | (simp <;> omega) | omega))
               rintro e wscB ⟨rfl, cB_0, cB_1, cB_2, cB_3, cB_4, cB_5, cB_6, cB_7, cB_8, sahcB⟩))
        all_goals
          have HS6 := Lib.hid sahcB
          go_wp2_with fail
          exact ⟨⟨i + 1, _, by omega, by go_num, rfl, Lib.hid (H0.out HI.out), by simp only [ByteArray.size_append]; show s.size + 1 + b.size + 1 + v.size ≤ _; omega, HS6.out⟩, by simp [intOf]; omega⟩
      · have d0 : decide (0 < i) = true := by simp; omega
        have d0' : decide ((0 : Int) < (i : Int)) = true := by simp; omega
        have l0 : ¬ 9223372036854775807 < s.size + 1 := by omega
        have l1 : ¬ 9223372036854775807 < s.size + 1 + 1 := by omega
        have l2 : ¬ 9223372036854775807 < s.size + 1 + 1 + b.size := by omega
        have l3 : ¬ 9223372036854775807 < s.size + 1 + 1 + b.size + 1 := by omega
        have l4 : ¬ 9223372036854775807 < s.size + 1 + 1 + b.size + 1 + v.size := by omega
        have HI := Lib.hid h0
        clear h0
        go_upto_region 13 with fail
        clear z5
        have HSS : ∀ w, IS W [.slice vp vn vc, .slice xp xn xc, .slice fp fn fc] [.int .i64 25, .int .i64 rg, .int .i64 ty, .int .i64 nn, .int .i64 fl, .slice (some a) rs.length ac, .slice (some g) ts.length tc] w → (w.cell? ⟨W.heap.size, 0, none⟩ = some (.slice vp vn vc) ∧ w.cell? ⟨W.heap.size, 1, none⟩ = some (.slice xp xn xc) ∧ w.cell? ⟨W.heap.size, 2, none⟩ = some (.slice fp fn fc) ∧ w.cell? ⟨W.heap.size + 1, 5, none⟩ = some (.slice (some a) rs.length ac) ∧ w.cell? ⟨W.heap.size + 1, 6, none⟩ = some (.slice (some g) ts.length tc) ∧ w.cell? (a.add (i * 3)) = some (.int .i64 kd) ∧ w.cell? ⟨(a.add (i * 3)).block, (a.add (i * 3)).off + 1, none⟩ = some (.int .i64 nv) ∧ w.cell? ⟨(a.add (i * 3)).block, (a.add (i * 3)).off + 2, none⟩ = some (.int .u64 bv) ∧ w.cell? (g.add i) = some (.int .i64 y)) := fun w h => ⟨h.1.get 0 _ rfl, h.1.get 1 _ rfl, h.1.get 2 _ rfl, h.2.1.get 5 _ rfl, h.2.1.get 6 _ rfl, (h.2.2.cell (p := a.add (i * 3)) (by rw [add_block]; exact hab)).trans HK0.out.1, (h.2.2.cell (p := ⟨(a.add (i * 3)).block, (a.add (i * 3)).off + 1, none⟩) (by dsimp only; rw [add_block]; exact hab)).trans HK0.out.2.1, (h.2.2.cell (p := ⟨(a.add (i * 3)).block, (a.add (i * 3)).off + 2, none⟩) (by dsimp only; rw [add_block]; exact hab)).trans HK0.out.2.2.1, (h.2.2.cell (p := g.add i) (by rw [add_block]; exact hgb)).trans HK0.out.2.2.2.1⟩
        obtain ⟨y0_, y1_, y2_, y3_, y4_, y5_, y6_, y7_, y8_⟩ := HSS wo HS.out
        have kh : IS W [.slice vp vn vc, .slice xp xn xc, .slice fp fn fc] [.int .i64 25, .int .i64 rg, .int .i64 ty, .int .i64 nn, .int .i64 fl, .slice (some a) rs.length ac, .slice (some g) ts.length tc] wo := HS.out
        have cA : ∀ w, ((w.cell? ⟨W.heap.size, 0, none⟩ = some (.slice vp vn vc) ∧ w.cell? ⟨W.heap.size, 1, none⟩ = some (.slice xp xn xc) ∧ w.cell? ⟨W.heap.size, 2, none⟩ = some (.slice fp fn fc) ∧ w.cell? ⟨W.heap.size + 1, 5, none⟩ = some (.slice (some a) rs.length ac) ∧ w.cell? ⟨W.heap.size + 1, 6, none⟩ = some (.slice (some g) ts.length tc) ∧ w.cell? (a.add (i * 3)) = some (.int .i64 kd) ∧ w.cell? ⟨(a.add (i * 3)).block, (a.add (i * 3)).off + 1, none⟩ = some (.int .i64 nv) ∧ w.cell? ⟨(a.add (i * 3)).block, (a.add (i * 3)).off + 2, none⟩ = some (.int .u64 bv) ∧ w.cell? (g.add i) = some (.int .i64 y)) ∧ IS W [.slice vp vn vc, .slice xp xn xc, .slice fp fn fc] [.int .i64 25, .int .i64 rg, .int .i64 ty, .int .i64 nn, .int .i64 fl, .slice (some a) rs.length ac, .slice (some g) ts.length tc] w) → Calls Tryz.prog 39 #[.int .i64 y] w fun e w' => e = .returned (.string b) ∧ w'.cell? ⟨W.heap.size, 0, none⟩ = some (.slice vp vn vc) ∧ w'.cell? ⟨W.heap.size, 1, none⟩ = some (.slice xp xn xc) ∧ w'.cell? ⟨W.heap.size, 2, none⟩ = some (.slice fp fn fc) ∧ w'.cell? ⟨W.heap.size + 1, 5, none⟩ = some (.slice (some a) rs.length ac) ∧ w'.cell? ⟨W.heap.size + 1, 6, none⟩ = some (.slice (some g) ts.length tc) ∧ w'.cell? (a.add (i * 3)) = some (.int .i64 kd) ∧ w'.cell? ⟨(a.add (i * 3)).block, (a.add (i * 3)).off + 1, none⟩ = some (.int .i64 nv) ∧ w'.cell? ⟨(a.add (i * 3)).block, (a.add (i * 3)).off + 2, none⟩ = some (.int .u64 bv) ∧ w'.cell? (g.add i) = some (.int .i64 y) ∧ IS W [.slice vp vn vc, .slice xp xn xc, .slice fp fn fc] [.int .i64 25, .int .i64 rg, .int .i64 ty, .int .i64 nn, .int .i64 fl, .slice (some a) rs.length ac, .slice (some g) ts.length tc] w' := by
          rintro w ⟨k, kh⟩
          refine ((fun w kh => HK0.out.2.2.2.2.2 w) w kh).mono ?_
          rintro e w' ⟨he, hb⟩
          have h2 := kh.later hb
          obtain ⟨s0, s1, s2, s3, s4, s5, s6, s7, s8⟩ := HSS w' h2
          exact ⟨he, s0, s1, s2, s3, s4, s5, s6, s7, s8, h2⟩
        have cB : ∀ w, ((w.cell? ⟨W.heap.size, 0, none⟩ = some (.slice vp vn vc) ∧ w.cell? ⟨W.heap.size, 1, none⟩ = some (.slice xp xn xc) ∧ w.cell? ⟨W.heap.size, 2, none⟩ = some (.slice fp fn fc) ∧ w.cell? ⟨W.heap.size + 1, 5, none⟩ = some (.slice (some a) rs.length ac) ∧ w.cell? ⟨W.heap.size + 1, 6, none⟩ = some (.slice (some g) ts.length tc) ∧ w.cell? (a.add (i * 3)) = some (.int .i64 kd) ∧ w.cell? ⟨(a.add (i * 3)).block, (a.add (i * 3)).off + 1, none⟩ = some (.int .i64 nv) ∧ w.cell? ⟨(a.add (i * 3)).block, (a.add (i * 3)).off + 2, none⟩ = some (.int .u64 bv) ∧ w.cell? (g.add i) = some (.int .i64 y)) ∧ IS W [.slice vp vn vc, .slice xp xn xc, .slice fp fn fc] [.int .i64 25, .int .i64 rg, .int .i64 ty, .int .i64 nn, .int .i64 fl, .slice (some a) rs.length ac, .slice (some g) ts.length tc] w) → Calls Tryz.prog 108 #[.agg #[.slice vp vn vc, .slice xp xn xc, .slice fp fn fc], .agg #[.int .i64 kd, .int .i64 nv, .int .u64 bv]] w fun e w' => e = .returned (.string v) ∧ w'.cell? ⟨W.heap.size, 0, none⟩ = some (.slice vp vn vc) ∧ w'.cell? ⟨W.heap.size, 1, none⟩ = some (.slice xp xn xc) ∧ w'.cell? ⟨W.heap.size, 2, none⟩ = some (.slice fp fn fc) ∧ w'.cell? ⟨W.heap.size + 1, 5, none⟩ = some (.slice (some a) rs.length ac) ∧ w'.cell? ⟨W.heap.size + 1, 6, none⟩ = some (.slice (some g) ts.length tc) ∧ w'.cell? (a.add (i * 3)) = some (.int .i64 kd) ∧ w'.cell? ⟨(a.add (i * 3)).block, (a.add (i * 3)).off + 1, none⟩ = some (.int .i64 nv) ∧ w'.cell? ⟨(a.add (i * 3)).block, (a.add (i * 3)).off + 2, none⟩ = some (.int .u64 bv) ∧ w'.cell? (g.add i) = some (.int .i64 y) ∧ IS W [.slice vp vn vc, .slice xp xn xc, .slice fp fn fc] [.int .i64 25, .int .i64 rg, .int .i64 ty, .int .i64 nn, .int .i64 fl, .slice (some a) rs.length ac, .slice (some g) ts.length tc] w' := by
          rintro w ⟨k, kh⟩
          refine ((fun w (kh : IS W [.slice vp vn vc, .slice xp xn xc, .slice fp fn fc] [.int .i64 25, .int .i64 rg, .int .i64 ty, .int .i64 nn, .int .i64 fl, .slice (some a) rs.length ac, .slice (some g) ts.length tc] w) => HK0.out.2.2.2.2.1 w kh.2.2) w kh).mono ?_
          rintro e w' ⟨he, hb⟩
          have h2 := kh.later hb
          obtain ⟨s0, s1, s2, s3, s4, s5, s6, s7, s8⟩ := HSS w' h2
          exact ⟨he, s0, s1, s2, s3, s4, s5, s6, s7, s8, h2⟩
        clear HSS
        go_region_held3 (fun w' => w'.cell? ⟨W.heap.size, 0, none⟩ = some (.slice vp vn vc) ∧ w'.cell? ⟨W.heap.size, 1, none⟩ = some (.slice xp xn xc) ∧ w'.cell? ⟨W.heap.size, 2, none⟩ = some (.slice fp fn fc) ∧ w'.cell? ⟨W.heap.size + 1, 5, none⟩ = some (.slice (some a) rs.length ac) ∧ w'.cell? ⟨W.heap.size + 1, 6, none⟩ = some (.slice (some g) ts.length tc) ∧ w'.cell? (a.add (i * 3)) = some (.int .i64 kd) ∧ w'.cell? ⟨(a.add (i * 3)).block, (a.add (i * 3)).off + 1, none⟩ = some (.int .i64 nv) ∧ w'.cell? ⟨(a.add (i * 3)).block, (a.add (i * 3)).off + 2, none⟩ = some (.int .u64 bv) ∧ w'.cell? (g.add i) = some (.int .i64 y))
          (((try dsimp only); (repeat' apply And.intro) <;> (first | (with_reducible assumption) | (rw [World.cell?_drew]; with_reducible assumption) | (simp <;> omega))))
          (first
            | ((with_reducible refine' (cA _ ?pre).mono ?_)
               case pre => (refine ⟨⟨?_, ?_, ?_, ?_, ?_, ?_, ?_, ?_, ?_⟩, ?_⟩ <;> (first | (with_reducible assumption) | (rw [World.cell?_drew]; with_reducible assumption) | (with_reducible apply IS.drew; with_reducible assumption) | (simp <;> omega) | omega))
               rintro e wscA ⟨rfl, cA_0, cA_1, cA_2, cA_3, cA_4, cA_5, cA_6, cA_7, cA_8, sahcA⟩)
            | ((with_reducible refine' (cB _ ?pre).mono ?_)
               case pre => (refine ⟨⟨?_, ?_, ?_, ?_, ?_, ?_, ?_, ?_, ?_⟩, ?_⟩ <;> (first | (with_reducible assumption) | (rw [World.cell?_drew]; with_reducible assumption) | (with_reducible apply IS.drew; with_reducible assumption) | (simp <;> omega) | omega))
               rintro e wscB ⟨rfl, cB_0, cB_1, cB_2, cB_3, cB_4, cB_5, cB_6, cB_7, cB_8, sahcB⟩))
        all_goals
          have HS6 := Lib.hid sahcB
          go_wp2_with fail
          exact ⟨⟨i + 1, _, by omega, by go_num, rfl, Lib.hid (H1.out HI.out), by simp only [ByteArray.size_append]; show s.size + 1 + 1 + b.size + 1 + v.size ≤ _; omega, HS6.out⟩, by simp [intOf]; omega⟩
    · obtain rfl : i = rs.length := by omega
      have HD := Lib.hid (HV.out.2.2.2.2.2.2.1 _ s rfl hd.out)
      have HS := Lib.hid hS
      clear hd hS
      go_wp2_with fail
      go_ret
      exact ⟨by rw [← HD.out]; rfl, HS.out.2.2⟩
end Go.Proofs.YtmampoakdjjbiaaGreatDoor
