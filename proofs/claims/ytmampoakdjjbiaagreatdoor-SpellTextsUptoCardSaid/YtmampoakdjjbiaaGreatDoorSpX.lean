/- What the document puts behind an operation's word. -/
import Derived.Test.YtmampoakdjjbiaaGreatDoorSpW
namespace Go.Proofs.YtmampoakdjjbiaaGreatDoor
open Go.RowKit Go.Maps
set_option linter.unusedVariables false
set_option linter.unusedSimpArgs false

theorem value_at {m : LMod} {rs : List Arg} {W : World} (hm : ModIn W.heap.size W m) (hk : LenOk (modD m)) (hA : ∀ a ∈ rs, argB (modD m) a = true) (hb0 : ∀ a ∈ rs, 0 ≤ a.bits ∧ a.bits < 18446744073709551616) (a : Arg) (ha : a ∈ rs) (w : World) (hb : Below W.heap.size W w) :
    Calls Tryz.prog 108 #[.agg (modC m).toArray, .agg #[.int .i64 a.kind, .int .i64 a.n, .int .u64 a.bits]] w (StrV (mkS (argT m.vs a)) w) :=
  rValue_any m a w (lasts_Mod _ _ _ _ _ hb hb.size hm) hk.vs (hA _ ha) (hb0 _ ha).1 (hb0 _ ha).2
theorem value_size {m : LMod} {rs : List Arg} (hk : LenOk (modD m)) (hA : ∀ a ∈ rs, argB (modD m) a = true) (hb0 : ∀ a ∈ rs, 0 ≤ a.bits ∧ a.bits < 18446744073709551616) (a : Arg) (ha : a ∈ rs) : (mkS (argT m.vs a)).size ≤ 1048600 := by
  rw [size_mkS]
  exact argT_len hk (hA _ ha) (hb0 _ ha).2
theorem values_at {m : LMod} {ap : Option Addr} {al ac : Nat} {rs : List Arg} {W : World} (hm : ModIn W.heap.size W m) (hk : LenOk (modD m)) (hrs : ListIn argC NoMem W.heap.size W ap al ac rs) (hA : ∀ a ∈ rs, argB (modD m) a = true) (hb0 : ∀ a ∈ rs, 0 ≤ a.bits ∧ a.bits < 18446744073709551616) (hl : rs.length ≤ 1048576) (w : World) (hb : Below W.heap.size W w) :
    Calls Tryz.prog 109 #[.agg (modC m).toArray, .slice ap al ac] w (StrV (mkS (listT (rs.map (argT m.vs)))) w) :=
  rValues_any m ap al ac rs w (lasts_Mod _ _ _ _ _ hb hb.size hm) hk hA hb0 hl (hrs.lasts lasts_NoMem hb hb.size)
theorem values_size {m : LMod} {rs : List Arg} (hk : LenOk (modD m)) (hA : ∀ a ∈ rs, argB (modD m) a = true) (hb0 : ∀ a ∈ rs, 0 ≤ a.bits ∧ a.bits < 18446744073709551616) (hl : rs.length ≤ 1048576) : (mkS (listT (rs.map (argT m.vs)))).size ≤ 1099538890752 := by
  rw [size_mkS]
  have : (listT (rs.map (argT m.vs))).length ≤ rs.length * 1048602 := listA_len hk hA hb0
  have h2 : rs.length * 1048602 ≤ 1048576 * 1048602 := Nat.mul_le_mul_right _ hl
  omega
theorem type_size (t : Int) : (mkS (typeT t)).size ≤ 21 := by rw [size_mkS]; exact typeT_len' _
theorem block_size {t : Int} (h : t ≤ 999) : (mkS (blockT t)).size ≤ 21 := by rw [size_mkS]; exact blockT_len (by omega)
theorem type_at (t : Int) (w : World) : Calls Tryz.prog 13 #[.int .i64 t] w (StrV (mkS (typeT t)) w) := rType_any t w
theorem block_at {t : Int} (h : 0 ≤ t ∧ t ≤ 999) (w : World) : Calls Tryz.prog 39 #[.int .i64 t] w (StrV (mkS (blockT t)) w) := rBlock_any t h.1 (by omega) w
theorem lit1 (a : UInt8) : (⟨#[a]⟩ : ByteArray) = mkS [a] := rfl
theorem lit2 (a b : UInt8) : (⟨#[a, b]⟩ : ByteArray) = mkS [a, b] := rfl
theorem lit4 (a b c d : UInt8) : (⟨#[a, b, c, d]⟩ : ByteArray) = mkS [a, b, c, d] := rfl
set_option maxRecDepth 100000 in
set_option maxHeartbeats 8000000 in
theorem rBeh_20 (m : LMod) (rg ty nn fl : Int) (ap tp : Option Addr) (al tl ac tc : Nat) (rs : List Arg) (ts : List Int) (W : World) (hm : ModIn W.heap.size W m) (hk : LenOk (modD m)) (hrs : ListIn argC NoMem W.heap.size W ap al ac rs) (hts : ListIn intC NoMem W.heap.size W tp tl tc ts) (hA : ∀ a ∈ rs, argB (modD m) a = true) (hb0 : ∀ a ∈ rs, 0 ≤ a.bits ∧ a.bits < 18446744073709551616) (hT : ∀ t ∈ ts, 0 ≤ t ∧ t ≤ 999) (hl : rs.length ≤ 1048576) (hlt : ts.length ≤ 1048576) (a0 : Arg) (e : rs = [a0]) :
    Calls Tryz.prog 82 #[.agg (modC m).toArray, .agg #[.int .i64 20, .int .i64 rg, .int .i64 ty, .int .i64 nn, .int .i64 fl, .slice ap al ac, .slice tp tl tc]] W (StrV (mkS (32 :: (typeT nn ++ 32 :: (listT (rs.map (argT m.vs)) ++ [32, 116, 111, 32] ++ typeT ty)))) W) := by
  subst e
  obtain rfl : al = 1 := hrs.1
  obtain ⟨a, rfl, hab, k0, k1, k2⟩ := row_A hrs 0 (by simp)
  have k0 : W.cell? a = some (.int .i64 a0.kind) := k0
  have k1 : W.cell? ⟨a.block, a.off + 1, none⟩ = some (.int .i64 a0.n) := k1
  have k2 : W.cell? ⟨a.block, a.off + 2, none⟩ = some (.int .u64 a0.bits) := k2
  have hv := value_at hm hk hA hb0 a0 (List.mem_singleton.2 rfl)
  have hvs := value_size hk hA hb0 a0 (List.mem_singleton.2 rfl)
  have c1 := type_at nn
  have c2 := type_at ty
  have s1 := type_size nn
  have s2 := type_size ty
  have hF : ⟨#[32]⟩ ++ mkS (typeT nn) ++ ⟨#[32]⟩ ++ mkS (argT m.vs a0) ++ ⟨#[32, 116, 111, 32]⟩ ++ mkS (typeT ty) = mkS (32 :: (typeT nn ++ 32 :: (listT ([a0].map (argT m.vs)) ++ [32, 116, 111, 32] ++ typeT ty))) := by
    rw [lit1, lit4, mkS_app, mkS_app, mkS_app, mkS_app, mkS_app]
    simp [listT, sepBy]
  have HF := Lib.hid hF
  obtain ⟨T, eT⟩ : ∃ T, mkS (32 :: (typeT nn ++ 32 :: (listT ([a0].map (argT m.vs)) ++ [32, 116, 111, 32] ++ typeT ty))) = T := ⟨_, rfl⟩
  obtain ⟨t1, e1⟩ : ∃ t, mkS (typeT nn) = t := ⟨_, rfl⟩
  obtain ⟨t2, e2⟩ : ∃ t, mkS (typeT ty) = t := ⟨_, rfl⟩
  obtain ⟨v, ev⟩ : ∃ t, mkS (argT m.vs a0) = t := ⟨_, rfl⟩
  rw [eT] at HF ⊢
  rw [e1, e2, ev] at HF
  rw [e1] at c1 s1
  rw [e2] at c2 s2
  simp only [ev] at hv
  rw [ev] at hvs
  obtain ⟨kd, nv, bv⟩ := a0
  simp only at k0 k1 k2 hv
  have l1 : ¬ 9223372036854775807 < 1 + t1.size := by omega
  have l2 : ¬ 9223372036854775807 < 1 + t1.size + 1 := by omega
  have l3 : ¬ 9223372036854775807 < 1 + t1.size + 1 + v.size := by omega
  have l4 : ¬ 9223372036854775807 < 1 + t1.size + 1 + v.size + 4 := by omega
  have l5 : ¬ 9223372036854775807 < 1 + t1.size + 1 + v.size + 4 + t2.size := by omega
  have HV := Lib.hid (And.intro k0 (And.intro k1 (And.intro k2 (And.intro hv (And.intro c1 c2)))))
  clear e1 e2 ev eT hF k0 k1 k2 hv c1 c2
  have HS := Lib.hid (IS.new W (modC m) [.int .i64 20, .int .i64 rg, .int .i64 ty, .int .i64 nn, .int .i64 fl, .slice (some a) 1 ac, .slice tp tl tc] 26 39)
  clear hA hb0 hT hk hm hrs hts hl hlt
  have HV : Hid (_ ∧ _ ∧ _ ∧ _ ∧ _ ∧ _) := HV
  obtain ⟨vp, vn, vc, vs, xp, xn, xc, xs, fp, fn, fc, fs⟩ := m
  have HS : Hid (IS W [.slice vp vn vc, .slice xp xn xc, .slice fp fn fc] [.int .i64 20, .int .i64 rg, .int .i64 ty, .int .i64 nn, .int .i64 fl, .slice (some a) 1 ac, .slice tp tl tc] ((W.alloc (.cells #[.slice vp vn vc, .slice xp xn xc, .slice fp fn fc] 26)).alloc (.cells #[.int .i64 20, .int .i64 rg, .int .i64 ty, .int .i64 nn, .int .i64 fl, .slice (some a) 1 ac, .slice tp tl tc] 39))) := HS
  show Calls Tryz.prog 82 #[.agg #[.slice vp vn vc, .slice xp xn xc, .slice fp fn fc], .agg #[.int .i64 20, .int .i64 rg, .int .i64 ty, .int .i64 nn, .int .i64 fl, .slice (some a) 1 ac, .slice tp tl tc]] W _
  go_enter Tryz.func82, Tryz.ntmps82
  go_upto_region 5 with fail
  obtain ⟨w1, ew1⟩ : ∃ w1, ((W.alloc (.cells #[.slice vp vn vc, .slice xp xn xc, .slice fp fn fc] 26)).alloc (.cells #[.int .i64 20, .int .i64 rg, .int .i64 ty, .int .i64 nn, .int .i64 fl, .slice (some a) 1 ac, .slice tp tl tc] 39)) = w1 := ⟨_, rfl⟩
  rw [ew1] at HS ⊢
  clear ew1
  have HSS : ∀ w, IS W [.slice vp vn vc, .slice xp xn xc, .slice fp fn fc] [.int .i64 20, .int .i64 rg, .int .i64 ty, .int .i64 nn, .int .i64 fl, .slice (some a) 1 ac, .slice tp tl tc] w → (w.cell? ⟨W.heap.size, 0, none⟩ = some (.slice vp vn vc) ∧ w.cell? ⟨W.heap.size, 1, none⟩ = some (.slice xp xn xc) ∧ w.cell? ⟨W.heap.size, 2, none⟩ = some (.slice fp fn fc) ∧ w.cell? ⟨W.heap.size + 1, 2, none⟩ = some (.int .i64 ty) ∧ w.cell? ⟨W.heap.size + 1, 3, none⟩ = some (.int .i64 nn) ∧ w.cell? ⟨W.heap.size + 1, 5, none⟩ = some (.slice (some a) 1 ac) ∧ w.cell? a = some (.int .i64 kd) ∧ w.cell? ⟨a.block, a.off + 1, none⟩ = some (.int .i64 nv) ∧ w.cell? ⟨a.block, a.off + 2, none⟩ = some (.int .u64 bv)) := fun w h => ⟨h.1.get 0 _ rfl, h.1.get 1 _ rfl, h.1.get 2 _ rfl, h.2.1.get 2 _ rfl, h.2.1.get 3 _ rfl, h.2.1.get 5 _ rfl, (h.2.2.cell (p := a) hab).trans HV.out.1, (h.2.2.cell (p := ⟨a.block, a.off + 1, none⟩) hab).trans HV.out.2.1, (h.2.2.cell (p := ⟨a.block, a.off + 2, none⟩) hab).trans HV.out.2.2.1⟩
  obtain ⟨y0_, y1_, y2_, y3_, y4_, y5_, y6_, y7_, y8_⟩ := HSS w1 HS.out
  have kh : IS W [.slice vp vn vc, .slice xp xn xc, .slice fp fn fc] [.int .i64 20, .int .i64 rg, .int .i64 ty, .int .i64 nn, .int .i64 fl, .slice (some a) 1 ac, .slice tp tl tc] w1 := HS.out
  have cA : ∀ w, ((w.cell? ⟨W.heap.size, 0, none⟩ = some (.slice vp vn vc) ∧ w.cell? ⟨W.heap.size, 1, none⟩ = some (.slice xp xn xc) ∧ w.cell? ⟨W.heap.size, 2, none⟩ = some (.slice fp fn fc) ∧ w.cell? ⟨W.heap.size + 1, 2, none⟩ = some (.int .i64 ty) ∧ w.cell? ⟨W.heap.size + 1, 3, none⟩ = some (.int .i64 nn) ∧ w.cell? ⟨W.heap.size + 1, 5, none⟩ = some (.slice (some a) 1 ac) ∧ w.cell? a = some (.int .i64 kd) ∧ w.cell? ⟨a.block, a.off + 1, none⟩ = some (.int .i64 nv) ∧ w.cell? ⟨a.block, a.off + 2, none⟩ = some (.int .u64 bv)) ∧ IS W [.slice vp vn vc, .slice xp xn xc, .slice fp fn fc] [.int .i64 20, .int .i64 rg, .int .i64 ty, .int .i64 nn, .int .i64 fl, .slice (some a) 1 ac, .slice tp tl tc] w) → Calls Tryz.prog 13 #[.int .i64 nn] w fun e w' => e = .returned (.string t1) ∧ w'.cell? ⟨W.heap.size, 0, none⟩ = some (.slice vp vn vc) ∧ w'.cell? ⟨W.heap.size, 1, none⟩ = some (.slice xp xn xc) ∧ w'.cell? ⟨W.heap.size, 2, none⟩ = some (.slice fp fn fc) ∧ w'.cell? ⟨W.heap.size + 1, 2, none⟩ = some (.int .i64 ty) ∧ w'.cell? ⟨W.heap.size + 1, 3, none⟩ = some (.int .i64 nn) ∧ w'.cell? ⟨W.heap.size + 1, 5, none⟩ = some (.slice (some a) 1 ac) ∧ w'.cell? a = some (.int .i64 kd) ∧ w'.cell? ⟨a.block, a.off + 1, none⟩ = some (.int .i64 nv) ∧ w'.cell? ⟨a.block, a.off + 2, none⟩ = some (.int .u64 bv) ∧ IS W [.slice vp vn vc, .slice xp xn xc, .slice fp fn fc] [.int .i64 20, .int .i64 rg, .int .i64 ty, .int .i64 nn, .int .i64 fl, .slice (some a) 1 ac, .slice tp tl tc] w' := by
    rintro w ⟨k, kh⟩
    refine ((fun w kh => HV.out.2.2.2.2.1 w) w kh).mono ?_
    rintro e w' ⟨he, hb⟩
    have h2 := kh.later hb
    obtain ⟨s0, s1, s2, s3, s4, s5, s6, s7, s8⟩ := HSS w' h2
    exact ⟨he, s0, s1, s2, s3, s4, s5, s6, s7, s8, h2⟩
  have cB : ∀ w, ((w.cell? ⟨W.heap.size, 0, none⟩ = some (.slice vp vn vc) ∧ w.cell? ⟨W.heap.size, 1, none⟩ = some (.slice xp xn xc) ∧ w.cell? ⟨W.heap.size, 2, none⟩ = some (.slice fp fn fc) ∧ w.cell? ⟨W.heap.size + 1, 2, none⟩ = some (.int .i64 ty) ∧ w.cell? ⟨W.heap.size + 1, 3, none⟩ = some (.int .i64 nn) ∧ w.cell? ⟨W.heap.size + 1, 5, none⟩ = some (.slice (some a) 1 ac) ∧ w.cell? a = some (.int .i64 kd) ∧ w.cell? ⟨a.block, a.off + 1, none⟩ = some (.int .i64 nv) ∧ w.cell? ⟨a.block, a.off + 2, none⟩ = some (.int .u64 bv)) ∧ IS W [.slice vp vn vc, .slice xp xn xc, .slice fp fn fc] [.int .i64 20, .int .i64 rg, .int .i64 ty, .int .i64 nn, .int .i64 fl, .slice (some a) 1 ac, .slice tp tl tc] w) → Calls Tryz.prog 108 #[.agg #[.slice vp vn vc, .slice xp xn xc, .slice fp fn fc], .agg #[.int .i64 kd, .int .i64 nv, .int .u64 bv]] w fun e w' => e = .returned (.string v) ∧ w'.cell? ⟨W.heap.size, 0, none⟩ = some (.slice vp vn vc) ∧ w'.cell? ⟨W.heap.size, 1, none⟩ = some (.slice xp xn xc) ∧ w'.cell? ⟨W.heap.size, 2, none⟩ = some (.slice fp fn fc) ∧ w'.cell? ⟨W.heap.size + 1, 2, none⟩ = some (.int .i64 ty) ∧ w'.cell? ⟨W.heap.size + 1, 3, none⟩ = some (.int .i64 nn) ∧ w'.cell? ⟨W.heap.size + 1, 5, none⟩ = some (.slice (some a) 1 ac) ∧ w'.cell? a = some (.int .i64 kd) ∧ w'.cell? ⟨a.block, a.off + 1, none⟩ = some (.int .i64 nv) ∧ w'.cell? ⟨a.block, a.off + 2, none⟩ = some (.int .u64 bv) ∧ IS W [.slice vp vn vc, .slice xp xn xc, .slice fp fn fc] [.int .i64 20, .int .i64 rg, .int .i64 ty, .int .i64 nn, .int .i64 fl, .slice (some a) 1 ac, .slice tp tl tc] w' := by
    rintro w ⟨k, kh⟩
    refine ((fun w (kh : IS W [.slice vp vn vc, .slice xp xn xc, .slice fp fn fc] [.int .i64 20, .int .i64 rg, .int .i64 ty, .int .i64 nn, .int .i64 fl, .slice (some a) 1 ac, .slice tp tl tc] w) => HV.out.2.2.2.1 w kh.2.2) w kh).mono ?_
    rintro e w' ⟨he, hb⟩
    have h2 := kh.later hb
    obtain ⟨s0, s1, s2, s3, s4, s5, s6, s7, s8⟩ := HSS w' h2
    exact ⟨he, s0, s1, s2, s3, s4, s5, s6, s7, s8, h2⟩
  have cC : ∀ w, ((w.cell? ⟨W.heap.size, 0, none⟩ = some (.slice vp vn vc) ∧ w.cell? ⟨W.heap.size, 1, none⟩ = some (.slice xp xn xc) ∧ w.cell? ⟨W.heap.size, 2, none⟩ = some (.slice fp fn fc) ∧ w.cell? ⟨W.heap.size + 1, 2, none⟩ = some (.int .i64 ty) ∧ w.cell? ⟨W.heap.size + 1, 3, none⟩ = some (.int .i64 nn) ∧ w.cell? ⟨W.heap.size + 1, 5, none⟩ = some (.slice (some a) 1 ac) ∧ w.cell? a = some (.int .i64 kd) ∧ w.cell? ⟨a.block, a.off + 1, none⟩ = some (.int .i64 nv) ∧ w.cell? ⟨a.block, a.off + 2, none⟩ = some (.int .u64 bv)) ∧ IS W [.slice vp vn vc, .slice xp xn xc, .slice fp fn fc] [.int .i64 20, .int .i64 rg, .int .i64 ty, .int .i64 nn, .int .i64 fl, .slice (some a) 1 ac, .slice tp tl tc] w) → Calls Tryz.prog 13 #[.int .i64 ty] w fun e w' => e = .returned (.string t2) ∧ w'.cell? ⟨W.heap.size, 0, none⟩ = some (.slice vp vn vc) ∧ w'.cell? ⟨W.heap.size, 1, none⟩ = some (.slice xp xn xc) ∧ w'.cell? ⟨W.heap.size, 2, none⟩ = some (.slice fp fn fc) ∧ w'.cell? ⟨W.heap.size + 1, 2, none⟩ = some (.int .i64 ty) ∧ w'.cell? ⟨W.heap.size + 1, 3, none⟩ = some (.int .i64 nn) ∧ w'.cell? ⟨W.heap.size + 1, 5, none⟩ = some (.slice (some a) 1 ac) ∧ w'.cell? a = some (.int .i64 kd) ∧ w'.cell? ⟨a.block, a.off + 1, none⟩ = some (.int .i64 nv) ∧ w'.cell? ⟨a.block, a.off + 2, none⟩ = some (.int .u64 bv) ∧ IS W [.slice vp vn vc, .slice xp xn xc, .slice fp fn fc] [.int .i64 20, .int .i64 rg, .int .i64 ty, .int .i64 nn, .int .i64 fl, .slice (some a) 1 ac, .slice tp tl tc] w' := by
    rintro w ⟨k, kh⟩
    refine ((fun w kh => HV.out.2.2.2.2.2 w) w kh).mono ?_
    rintro e w' ⟨he, hb⟩
    have h2 := kh.later hb
    obtain ⟨s0, s1, s2, s3, s4, s5, s6, s7, s8⟩ := HSS w' h2
    exact ⟨he, s0, s1, s2, s3, s4, s5, s6, s7, s8, h2⟩
  clear HSS
  go_region_held3 (fun w' => w'.cell? ⟨W.heap.size, 0, none⟩ = some (.slice vp vn vc) ∧ w'.cell? ⟨W.heap.size, 1, none⟩ = some (.slice xp xn xc) ∧ w'.cell? ⟨W.heap.size, 2, none⟩ = some (.slice fp fn fc) ∧ w'.cell? ⟨W.heap.size + 1, 2, none⟩ = some (.int .i64 ty) ∧ w'.cell? ⟨W.heap.size + 1, 3, none⟩ = some (.int .i64 nn) ∧ w'.cell? ⟨W.heap.size + 1, 5, none⟩ = some (.slice (some a) 1 ac) ∧ w'.cell? a = some (.int .i64 kd) ∧ w'.cell? ⟨a.block, a.off + 1, none⟩ = some (.int .i64 nv) ∧ w'.cell? ⟨a.block, a.off + 2, none⟩ = some (.int .u64 bv))
    (((try dsimp only); (repeat' apply And.intro) <;> (first | (with_reducible assumption) | (rw [World.cell?_drew]; with_reducible assumption) | (simp <;> omega))))
    (first
      | ((with_reducible refine' (cA _ ?pre).mono ?_)
         case pre => (refine ⟨⟨?_, ?_, ?_, ?_, ?_, ?_, ?_, ?_, ?_⟩, ?_⟩ <;> (first | (with_reducible assumption) | (rw [World.cell?_drew]; with_reducible assumption) | (with_reducible apply IS.drew; with_reducible assumption) | (simp <;> omega) | omega))
         rintro e wscA ⟨rfl, cA_0, cA_1, cA_2, cA_3, cA_4, cA_5, cA_6, cA_7, cA_8, sahcA⟩)
      | ((with_reducible refine' (cB _ ?pre).mono ?_)
         case pre => (refine ⟨⟨?_, ?_, ?_, ?_, ?_, ?_, ?_, ?_, ?_⟩, ?_⟩ <;> (first | (with_reducible assumption) | (rw [World.cell?_drew]; with_reducible assumption) | (with_reducible apply IS.drew; with_reducible assumption) | (simp <;> omega) | omega))
         rintro e wscB ⟨rfl, cB_0, cB_1, cB_2, cB_3, cB_4, cB_5, cB_6, cB_7, cB_8, sahcB⟩)
      | ((with_reducible refine' (cC _ ?pre).mono ?_)
         case pre => (refine ⟨⟨?_, ?_, ?_, ?_, ?_, ?_, ?_, ?_, ?_⟩, ?_⟩ <;> (first | (with_reducible assumption) | (rw [World.cell?_drew]; with_reducible assumption) | (with_reducible apply IS.drew; with_reducible assumption) | (simp <;> omega) | omega))
         rintro e wscC ⟨rfl, cC_0, cC_1, cC_2, cC_3, cC_4, cC_5, cC_6, cC_7, cC_8, sahcC⟩))
  all_goals
    have HS5 := Lib.hid sahcC
    go_wp2_with fail
    go_ret
    exact ⟨by rw [← HF.out]; rfl, HS5.out.2.2⟩
set_option maxRecDepth 100000 in
set_option maxHeartbeats 8000000 in
theorem rBeh_21 (m : LMod) (rg ty nn fl : Int) (ap tp : Option Addr) (al tl ac tc : Nat) (rs : List Arg) (ts : List Int) (W : World) (hm : ModIn W.heap.size W m) (hk : LenOk (modD m)) (hrs : ListIn argC NoMem W.heap.size W ap al ac rs) (hts : ListIn intC NoMem W.heap.size W tp tl tc ts) (hA : ∀ a ∈ rs, argB (modD m) a = true) (hb0 : ∀ a ∈ rs, 0 ≤ a.bits ∧ a.bits < 18446744073709551616) (hT : ∀ t ∈ ts, 0 ≤ t ∧ t ≤ 999) (hl : rs.length ≤ 1048576) (hlt : ts.length ≤ 1048576) (a0 : Arg) (e : rs = [a0]) :
    Calls Tryz.prog 82 #[.agg (modC m).toArray, .agg #[.int .i64 21, .int .i64 rg, .int .i64 ty, .int .i64 nn, .int .i64 fl, .slice ap al ac, .slice tp tl tc]] W (StrV (mkS (32 :: (typeT nn ++ 32 :: (listT (rs.map (argT m.vs)) ++ [32, 116, 111, 32] ++ typeT ty)))) W) := by
  subst e
  obtain rfl : al = 1 := hrs.1
  obtain ⟨a, rfl, hab, k0, k1, k2⟩ := row_A hrs 0 (by simp)
  have k0 : W.cell? a = some (.int .i64 a0.kind) := k0
  have k1 : W.cell? ⟨a.block, a.off + 1, none⟩ = some (.int .i64 a0.n) := k1
  have k2 : W.cell? ⟨a.block, a.off + 2, none⟩ = some (.int .u64 a0.bits) := k2
  have hv := value_at hm hk hA hb0 a0 (List.mem_singleton.2 rfl)
  have hvs := value_size hk hA hb0 a0 (List.mem_singleton.2 rfl)
  have c1 := type_at nn
  have c2 := type_at ty
  have s1 := type_size nn
  have s2 := type_size ty
  have hF : ⟨#[32]⟩ ++ mkS (typeT nn) ++ ⟨#[32]⟩ ++ mkS (argT m.vs a0) ++ ⟨#[32, 116, 111, 32]⟩ ++ mkS (typeT ty) = mkS (32 :: (typeT nn ++ 32 :: (listT ([a0].map (argT m.vs)) ++ [32, 116, 111, 32] ++ typeT ty))) := by
    rw [lit1, lit4, mkS_app, mkS_app, mkS_app, mkS_app, mkS_app]
    simp [listT, sepBy]
  have HF := Lib.hid hF
  obtain ⟨T, eT⟩ : ∃ T, mkS (32 :: (typeT nn ++ 32 :: (listT ([a0].map (argT m.vs)) ++ [32, 116, 111, 32] ++ typeT ty))) = T := ⟨_, rfl⟩
  obtain ⟨t1, e1⟩ : ∃ t, mkS (typeT nn) = t := ⟨_, rfl⟩
  obtain ⟨t2, e2⟩ : ∃ t, mkS (typeT ty) = t := ⟨_, rfl⟩
  obtain ⟨v, ev⟩ : ∃ t, mkS (argT m.vs a0) = t := ⟨_, rfl⟩
  rw [eT] at HF ⊢
  rw [e1, e2, ev] at HF
  rw [e1] at c1 s1
  rw [e2] at c2 s2
  simp only [ev] at hv
  rw [ev] at hvs
  obtain ⟨kd, nv, bv⟩ := a0
  simp only at k0 k1 k2 hv
  have l1 : ¬ 9223372036854775807 < 1 + t1.size := by omega
  have l2 : ¬ 9223372036854775807 < 1 + t1.size + 1 := by omega
  have l3 : ¬ 9223372036854775807 < 1 + t1.size + 1 + v.size := by omega
  have l4 : ¬ 9223372036854775807 < 1 + t1.size + 1 + v.size + 4 := by omega
  have l5 : ¬ 9223372036854775807 < 1 + t1.size + 1 + v.size + 4 + t2.size := by omega
  have HV := Lib.hid (And.intro k0 (And.intro k1 (And.intro k2 (And.intro hv (And.intro c1 c2)))))
  clear e1 e2 ev eT hF k0 k1 k2 hv c1 c2
  have HS := Lib.hid (IS.new W (modC m) [.int .i64 21, .int .i64 rg, .int .i64 ty, .int .i64 nn, .int .i64 fl, .slice (some a) 1 ac, .slice tp tl tc] 26 39)
  clear hA hb0 hT hk hm hrs hts hl hlt
  have HV : Hid (_ ∧ _ ∧ _ ∧ _ ∧ _ ∧ _) := HV
  obtain ⟨vp, vn, vc, vs, xp, xn, xc, xs, fp, fn, fc, fs⟩ := m
  have HS : Hid (IS W [.slice vp vn vc, .slice xp xn xc, .slice fp fn fc] [.int .i64 21, .int .i64 rg, .int .i64 ty, .int .i64 nn, .int .i64 fl, .slice (some a) 1 ac, .slice tp tl tc] ((W.alloc (.cells #[.slice vp vn vc, .slice xp xn xc, .slice fp fn fc] 26)).alloc (.cells #[.int .i64 21, .int .i64 rg, .int .i64 ty, .int .i64 nn, .int .i64 fl, .slice (some a) 1 ac, .slice tp tl tc] 39))) := HS
  show Calls Tryz.prog 82 #[.agg #[.slice vp vn vc, .slice xp xn xc, .slice fp fn fc], .agg #[.int .i64 21, .int .i64 rg, .int .i64 ty, .int .i64 nn, .int .i64 fl, .slice (some a) 1 ac, .slice tp tl tc]] W _
  go_enter Tryz.func82, Tryz.ntmps82
  go_upto_region 5 with fail
  obtain ⟨w1, ew1⟩ : ∃ w1, ((W.alloc (.cells #[.slice vp vn vc, .slice xp xn xc, .slice fp fn fc] 26)).alloc (.cells #[.int .i64 21, .int .i64 rg, .int .i64 ty, .int .i64 nn, .int .i64 fl, .slice (some a) 1 ac, .slice tp tl tc] 39)) = w1 := ⟨_, rfl⟩
  rw [ew1] at HS ⊢
  clear ew1
  have HSS : ∀ w, IS W [.slice vp vn vc, .slice xp xn xc, .slice fp fn fc] [.int .i64 21, .int .i64 rg, .int .i64 ty, .int .i64 nn, .int .i64 fl, .slice (some a) 1 ac, .slice tp tl tc] w → (w.cell? ⟨W.heap.size, 0, none⟩ = some (.slice vp vn vc) ∧ w.cell? ⟨W.heap.size, 1, none⟩ = some (.slice xp xn xc) ∧ w.cell? ⟨W.heap.size, 2, none⟩ = some (.slice fp fn fc) ∧ w.cell? ⟨W.heap.size + 1, 2, none⟩ = some (.int .i64 ty) ∧ w.cell? ⟨W.heap.size + 1, 3, none⟩ = some (.int .i64 nn) ∧ w.cell? ⟨W.heap.size + 1, 5, none⟩ = some (.slice (some a) 1 ac) ∧ w.cell? a = some (.int .i64 kd) ∧ w.cell? ⟨a.block, a.off + 1, none⟩ = some (.int .i64 nv) ∧ w.cell? ⟨a.block, a.off + 2, none⟩ = some (.int .u64 bv)) := fun w h => ⟨h.1.get 0 _ rfl, h.1.get 1 _ rfl, h.1.get 2 _ rfl, h.2.1.get 2 _ rfl, h.2.1.get 3 _ rfl, h.2.1.get 5 _ rfl, (h.2.2.cell (p := a) hab).trans HV.out.1, (h.2.2.cell (p := ⟨a.block, a.off + 1, none⟩) hab).trans HV.out.2.1, (h.2.2.cell (p := ⟨a.block, a.off + 2, none⟩) hab).trans HV.out.2.2.1⟩
  obtain ⟨y0_, y1_, y2_, y3_, y4_, y5_, y6_, y7_, y8_⟩ := HSS w1 HS.out
  have kh : IS W [.slice vp vn vc, .slice xp xn xc, .slice fp fn fc] [.int .i64 21, .int .i64 rg, .int .i64 ty, .int .i64 nn, .int .i64 fl, .slice (some a) 1 ac, .slice tp tl tc] w1 := HS.out
  have cA : ∀ w, ((w.cell? ⟨W.heap.size, 0, none⟩ = some (.slice vp vn vc) ∧ w.cell? ⟨W.heap.size, 1, none⟩ = some (.slice xp xn xc) ∧ w.cell? ⟨W.heap.size, 2, none⟩ = some (.slice fp fn fc) ∧ w.cell? ⟨W.heap.size + 1, 2, none⟩ = some (.int .i64 ty) ∧ w.cell? ⟨W.heap.size + 1, 3, none⟩ = some (.int .i64 nn) ∧ w.cell? ⟨W.heap.size + 1, 5, none⟩ = some (.slice (some a) 1 ac) ∧ w.cell? a = some (.int .i64 kd) ∧ w.cell? ⟨a.block, a.off + 1, none⟩ = some (.int .i64 nv) ∧ w.cell? ⟨a.block, a.off + 2, none⟩ = some (.int .u64 bv)) ∧ IS W [.slice vp vn vc, .slice xp xn xc, .slice fp fn fc] [.int .i64 21, .int .i64 rg, .int .i64 ty, .int .i64 nn, .int .i64 fl, .slice (some a) 1 ac, .slice tp tl tc] w) → Calls Tryz.prog 13 #[.int .i64 nn] w fun e w' => e = .returned (.string t1) ∧ w'.cell? ⟨W.heap.size, 0, none⟩ = some (.slice vp vn vc) ∧ w'.cell? ⟨W.heap.size, 1, none⟩ = some (.slice xp xn xc) ∧ w'.cell? ⟨W.heap.size, 2, none⟩ = some (.slice fp fn fc) ∧ w'.cell? ⟨W.heap.size + 1, 2, none⟩ = some (.int .i64 ty) ∧ w'.cell? ⟨W.heap.size + 1, 3, none⟩ = some (.int .i64 nn) ∧ w'.cell? ⟨W.heap.size + 1, 5, none⟩ = some (.slice (some a) 1 ac) ∧ w'.cell? a = some (.int .i64 kd) ∧ w'.cell? ⟨a.block, a.off + 1, none⟩ = some (.int .i64 nv) ∧ w'.cell? ⟨a.block, a.off + 2, none⟩ = some (.int .u64 bv) ∧ IS W [.slice vp vn vc, .slice xp xn xc, .slice fp fn fc] [.int .i64 21, .int .i64 rg, .int .i64 ty, .int .i64 nn, .int .i64 fl, .slice (some a) 1 ac, .slice tp tl tc] w' := by
    rintro w ⟨k, kh⟩
    refine ((fun w kh => HV.out.2.2.2.2.1 w) w kh).mono ?_
    rintro e w' ⟨he, hb⟩
    have h2 := kh.later hb
    obtain ⟨s0, s1, s2, s3, s4, s5, s6, s7, s8⟩ := HSS w' h2
    exact ⟨he, s0, s1, s2, s3, s4, s5, s6, s7, s8, h2⟩
  have cB : ∀ w, ((w.cell? ⟨W.heap.size, 0, none⟩ = some (.slice vp vn vc) ∧ w.cell? ⟨W.heap.size, 1, none⟩ = some (.slice xp xn xc) ∧ w.cell? ⟨W.heap.size, 2, none⟩ = some (.slice fp fn fc) ∧ w.cell? ⟨W.heap.size + 1, 2, none⟩ = some (.int .i64 ty) ∧ w.cell? ⟨W.heap.size + 1, 3, none⟩ = some (.int .i64 nn) ∧ w.cell? ⟨W.heap.size + 1, 5, none⟩ = some (.slice (some a) 1 ac) ∧ w.cell? a = some (.int .i64 kd) ∧ w.cell? ⟨a.block, a.off + 1, none⟩ = some (.int .i64 nv) ∧ w.cell? ⟨a.block, a.off + 2, none⟩ = some (.int .u64 bv)) ∧ IS W [.slice vp vn vc, .slice xp xn xc, .slice fp fn fc] [.int .i64 21, .int .i64 rg, .int .i64 ty, .int .i64 nn, .int .i64 fl, .slice (some a) 1 ac, .slice tp tl tc] w) → Calls Tryz.prog 108 #[.agg #[.slice vp vn vc, .slice xp xn xc, .slice fp fn fc], .agg #[.int .i64 kd, .int .i64 nv, .int .u64 bv]] w fun e w' => e = .returned (.string v) ∧ w'.cell? ⟨W.heap.size, 0, none⟩ = some (.slice vp vn vc) ∧ w'.cell? ⟨W.heap.size, 1, none⟩ = some (.slice xp xn xc) ∧ w'.cell? ⟨W.heap.size, 2, none⟩ = some (.slice fp fn fc) ∧ w'.cell? ⟨W.heap.size + 1, 2, none⟩ = some (.int .i64 ty) ∧ w'.cell? ⟨W.heap.size + 1, 3, none⟩ = some (.int .i64 nn) ∧ w'.cell? ⟨W.heap.size + 1, 5, none⟩ = some (.slice (some a) 1 ac) ∧ w'.cell? a = some (.int .i64 kd) ∧ w'.cell? ⟨a.block, a.off + 1, none⟩ = some (.int .i64 nv) ∧ w'.cell? ⟨a.block, a.off + 2, none⟩ = some (.int .u64 bv) ∧ IS W [.slice vp vn vc, .slice xp xn xc, .slice fp fn fc] [.int .i64 21, .int .i64 rg, .int .i64 ty, .int .i64 nn, .int .i64 fl, .slice (some a) 1 ac, .slice tp tl tc] w' := by
    rintro w ⟨k, kh⟩
    refine ((fun w (kh : IS W [.slice vp vn vc, .slice xp xn xc, .slice fp fn fc] [.int .i64 21, .int .i64 rg, .int .i64 ty, .int .i64 nn, .int .i64 fl, .slice (some a) 1 ac, .slice tp tl tc] w) => HV.out.2.2.2.1 w kh.2.2) w kh).mono ?_
    rintro e w' ⟨he, hb⟩
    have h2 := kh.later hb
    obtain ⟨s0, s1, s2, s3, s4, s5, s6, s7, s8⟩ := HSS w' h2
    exact ⟨he, s0, s1, s2, s3, s4, s5, s6, s7, s8, h2⟩
  have cC : ∀ w, ((w.cell? ⟨W.heap.size, 0, none⟩ = some (.slice vp vn vc) ∧ w.cell? ⟨W.heap.size, 1, none⟩ = some (.slice xp xn xc) ∧ w.cell? ⟨W.heap.size, 2, none⟩ = some (.slice fp fn fc) ∧ w.cell? ⟨W.heap.size + 1, 2, none⟩ = some (.int .i64 ty) ∧ w.cell? ⟨W.heap.size + 1, 3, none⟩ = some (.int .i64 nn) ∧ w.cell? ⟨W.heap.size + 1, 5, none⟩ = some (.slice (some a) 1 ac) ∧ w.cell? a = some (.int .i64 kd) ∧ w.cell? ⟨a.block, a.off + 1, none⟩ = some (.int .i64 nv) ∧ w.cell? ⟨a.block, a.off + 2, none⟩ = some (.int .u64 bv)) ∧ IS W [.slice vp vn vc, .slice xp xn xc, .slice fp fn fc] [.int .i64 21, .int .i64 rg, .int .i64 ty, .int .i64 nn, .int .i64 fl, .slice (some a) 1 ac, .slice tp tl tc] w) → Calls Tryz.prog 13 #[.int .i64 ty] w fun e w' => e = .returned (.string t2) ∧ w'.cell? ⟨W.heap.size, 0, none⟩ = some (.slice vp vn vc) ∧ w'.cell? ⟨W.heap.size, 1, none⟩ = some (.slice xp xn xc) ∧ w'.cell? ⟨W.heap.size, 2, none⟩ = some (.slice fp fn fc) ∧ w'.cell? ⟨W.heap.size + 1, 2, none⟩ = some (.int .i64 ty) ∧ w'.cell? ⟨W.heap.size + 1, 3, none⟩ = some (.int .i64 nn) ∧ w'.cell? ⟨W.heap.size + 1, 5, none⟩ = some (.slice (some a) 1 ac) ∧ w'.cell? a = some (.int .i64 kd) ∧ w'.cell? ⟨a.block, a.off + 1, none⟩ = some (.int .i64 nv) ∧ w'.cell? ⟨a.block, a.off + 2, none⟩ = some (.int .u64 bv) ∧ IS W [.slice vp vn vc, .slice xp xn xc, .slice fp fn fc] [.int .i64 21, .int .i64 rg, .int .i64 ty, .int .i64 nn, .int .i64 fl, .slice (some a) 1 ac, .slice tp tl tc] w' := by
    rintro w ⟨k, kh⟩
    refine ((fun w kh => HV.out.2.2.2.2.2 w) w kh).mono ?_
    rintro e w' ⟨he, hb⟩
    have h2 := kh.later hb
    obtain ⟨s0, s1, s2, s3, s4, s5, s6, s7, s8⟩ := HSS w' h2
    exact ⟨he, s0, s1, s2, s3, s4, s5, s6, s7, s8, h2⟩
  clear HSS
  go_region_held3 (fun w' => w'.cell? ⟨W.heap.size, 0, none⟩ = some (.slice vp vn vc) ∧ w'.cell? ⟨W.heap.size, 1, none⟩ = some (.slice xp xn xc) ∧ w'.cell? ⟨W.heap.size, 2, none⟩ = some (.slice fp fn fc) ∧ w'.cell? ⟨W.heap.size + 1, 2, none⟩ = some (.int .i64 ty) ∧ w'.cell? ⟨W.heap.size + 1, 3, none⟩ = some (.int .i64 nn) ∧ w'.cell? ⟨W.heap.size + 1, 5, none⟩ = some (.slice (some a) 1 ac) ∧ w'.cell? a = some (.int .i64 kd) ∧ w'.cell? ⟨a.block, a.off + 1, none⟩ = some (.int .i64 nv) ∧ w'.cell? ⟨a.block, a.off + 2, none⟩ = some (.int .u64 bv))
    (((try dsimp only); (repeat' apply And.intro) <;> (first | (with_reducible assumption) | (rw [World.cell?_drew]; with_reducible assumption) | (simp <;> omega))))
    (first
      | ((with_reducible refine' (cA _ ?pre).mono ?_)
         case pre => (refine ⟨⟨?_, ?_, ?_, ?_, ?_, ?_, ?_, ?_, ?_⟩, ?_⟩ <;> (first | (with_reducible assumption) | (rw [World.cell?_drew]; with_reducible assumption) | (with_reducible apply IS.drew; with_reducible assumption) | (simp <;> omega) | omega))
         rintro e wscA ⟨rfl, cA_0, cA_1, cA_2, cA_3, cA_4, cA_5, cA_6, cA_7, cA_8, sahcA⟩)
      | ((with_reducible refine' (cB _ ?pre).mono ?_)
         case pre => (refine ⟨⟨?_, ?_, ?_, ?_, ?_, ?_, ?_, ?_, ?_⟩, ?_⟩ <;> (first | (with_reducible assumption) | (rw [World.cell?_drew]; with_reducible assumption) | (with_reducible apply IS.drew; with_reducible assumption) | (simp <;> omega) | omega))
         rintro e wscB ⟨rfl, cB_0, cB_1, cB_2, cB_3, cB_4, cB_5, cB_6, cB_7, cB_8, sahcB⟩)
      | ((with_reducible refine' (cC _ ?pre).mono ?_)
         case pre => (refine ⟨⟨?_, ?_, ?_, ?_, ?_, ?_, ?_, ?_, ?_⟩, ?_⟩ <;> (first | (with_reducible assumption) | (rw [World.cell?_drew]; with_reducible assumption) | (with_reducible apply IS.drew; with_reducible assumption) | (simp <;> omega) | omega))
         rintro e wscC ⟨rfl, cC_0, cC_1, cC_2, cC_3, cC_4, cC_5, cC_6, cC_7, cC_8, sahcC⟩))
  all_goals
    have HS5 := Lib.hid sahcC
    go_wp2_with fail
    go_ret
    exact ⟨by rw [← HF.out]; rfl, HS5.out.2.2⟩
set_option maxRecDepth 100000 in
set_option maxHeartbeats 8000000 in
theorem rBeh_22 (m : LMod) (rg ty nn fl : Int) (ap tp : Option Addr) (al tl ac tc : Nat) (rs : List Arg) (ts : List Int) (W : World) (hm : ModIn W.heap.size W m) (hk : LenOk (modD m)) (hrs : ListIn argC NoMem W.heap.size W ap al ac rs) (hts : ListIn intC NoMem W.heap.size W tp tl tc ts) (hA : ∀ a ∈ rs, argB (modD m) a = true) (hb0 : ∀ a ∈ rs, 0 ≤ a.bits ∧ a.bits < 18446744073709551616) (hT : ∀ t ∈ ts, 0 ≤ t ∧ t ≤ 999) (hl : rs.length ≤ 1048576) (hlt : ts.length ≤ 1048576) (a0 : Arg) (e : rs = [a0]) :
    Calls Tryz.prog 82 #[.agg (modC m).toArray, .agg #[.int .i64 22, .int .i64 rg, .int .i64 ty, .int .i64 nn, .int .i64 fl, .slice ap al ac, .slice tp tl tc]] W (StrV (mkS (32 :: (typeT nn ++ 32 :: (listT (rs.map (argT m.vs)) ++ [32, 116, 111, 32] ++ typeT ty)))) W) := by
  subst e
  obtain rfl : al = 1 := hrs.1
  obtain ⟨a, rfl, hab, k0, k1, k2⟩ := row_A hrs 0 (by simp)
  have k0 : W.cell? a = some (.int .i64 a0.kind) := k0
  have k1 : W.cell? ⟨a.block, a.off + 1, none⟩ = some (.int .i64 a0.n) := k1
  have k2 : W.cell? ⟨a.block, a.off + 2, none⟩ = some (.int .u64 a0.bits) := k2
  have hv := value_at hm hk hA hb0 a0 (List.mem_singleton.2 rfl)
  have hvs := value_size hk hA hb0 a0 (List.mem_singleton.2 rfl)
  have c1 := type_at nn
  have c2 := type_at ty
  have s1 := type_size nn
  have s2 := type_size ty
  have hF : ⟨#[32]⟩ ++ mkS (typeT nn) ++ ⟨#[32]⟩ ++ mkS (argT m.vs a0) ++ ⟨#[32, 116, 111, 32]⟩ ++ mkS (typeT ty) = mkS (32 :: (typeT nn ++ 32 :: (listT ([a0].map (argT m.vs)) ++ [32, 116, 111, 32] ++ typeT ty))) := by
    rw [lit1, lit4, mkS_app, mkS_app, mkS_app, mkS_app, mkS_app]
    simp [listT, sepBy]
  have HF := Lib.hid hF
  obtain ⟨T, eT⟩ : ∃ T, mkS (32 :: (typeT nn ++ 32 :: (listT ([a0].map (argT m.vs)) ++ [32, 116, 111, 32] ++ typeT ty))) = T := ⟨_, rfl⟩
  obtain ⟨t1, e1⟩ : ∃ t, mkS (typeT nn) = t := ⟨_, rfl⟩
  obtain ⟨t2, e2⟩ : ∃ t, mkS (typeT ty) = t := ⟨_, rfl⟩
  obtain ⟨v, ev⟩ : ∃ t, mkS (argT m.vs a0) = t := ⟨_, rfl⟩
  rw [eT] at HF ⊢
  rw [e1, e2, ev] at HF
  rw [e1] at c1 s1
  rw [e2] at c2 s2
  simp only [ev] at hv
  rw [ev] at hvs
  obtain ⟨kd, nv, bv⟩ := a0
  simp only at k0 k1 k2 hv
  have l1 : ¬ 9223372036854775807 < 1 + t1.size := by omega
  have l2 : ¬ 9223372036854775807 < 1 + t1.size + 1 := by omega
  have l3 : ¬ 9223372036854775807 < 1 + t1.size + 1 + v.size := by omega
  have l4 : ¬ 9223372036854775807 < 1 + t1.size + 1 + v.size + 4 := by omega
  have l5 : ¬ 9223372036854775807 < 1 + t1.size + 1 + v.size + 4 + t2.size := by omega
  have HV := Lib.hid (And.intro k0 (And.intro k1 (And.intro k2 (And.intro hv (And.intro c1 c2)))))
  clear e1 e2 ev eT hF k0 k1 k2 hv c1 c2
  have HS := Lib.hid (IS.new W (modC m) [.int .i64 22, .int .i64 rg, .int .i64 ty, .int .i64 nn, .int .i64 fl, .slice (some a) 1 ac, .slice tp tl tc] 26 39)
  clear hA hb0 hT hk hm hrs hts hl hlt
  have HV : Hid (_ ∧ _ ∧ _ ∧ _ ∧ _ ∧ _) := HV
  obtain ⟨vp, vn, vc, vs, xp, xn, xc, xs, fp, fn, fc, fs⟩ := m
  have HS : Hid (IS W [.slice vp vn vc, .slice xp xn xc, .slice fp fn fc] [.int .i64 22, .int .i64 rg, .int .i64 ty, .int .i64 nn, .int .i64 fl, .slice (some a) 1 ac, .slice tp tl tc] ((W.alloc (.cells #[.slice vp vn vc, .slice xp xn xc, .slice fp fn fc] 26)).alloc (.cells #[.int .i64 22, .int .i64 rg, .int .i64 ty, .int .i64 nn, .int .i64 fl, .slice (some a) 1 ac, .slice tp tl tc] 39))) := HS
  show Calls Tryz.prog 82 #[.agg #[.slice vp vn vc, .slice xp xn xc, .slice fp fn fc], .agg #[.int .i64 22, .int .i64 rg, .int .i64 ty, .int .i64 nn, .int .i64 fl, .slice (some a) 1 ac, .slice tp tl tc]] W _
  go_enter Tryz.func82, Tryz.ntmps82
  go_upto_region 5 with fail
  obtain ⟨w1, ew1⟩ : ∃ w1, ((W.alloc (.cells #[.slice vp vn vc, .slice xp xn xc, .slice fp fn fc] 26)).alloc (.cells #[.int .i64 22, .int .i64 rg, .int .i64 ty, .int .i64 nn, .int .i64 fl, .slice (some a) 1 ac, .slice tp tl tc] 39)) = w1 := ⟨_, rfl⟩
  rw [ew1] at HS ⊢
  clear ew1
  have HSS : ∀ w, IS W [.slice vp vn vc, .slice xp xn xc, .slice fp fn fc] [.int .i64 22, .int .i64 rg, .int .i64 ty, .int .i64 nn, .int .i64 fl, .slice (some a) 1 ac, .slice tp tl tc] w → (w.cell? ⟨W.heap.size, 0, none⟩ = some (.slice vp vn vc) ∧ w.cell? ⟨W.heap.size, 1, none⟩ = some (.slice xp xn xc) ∧ w.cell? ⟨W.heap.size, 2, none⟩ = some (.slice fp fn fc) ∧ w.cell? ⟨W.heap.size + 1, 2, none⟩ = some (.int .i64 ty) ∧ w.cell? ⟨W.heap.size + 1, 3, none⟩ = some (.int .i64 nn) ∧ w.cell? ⟨W.heap.size + 1, 5, none⟩ = some (.slice (some a) 1 ac) ∧ w.cell? a = some (.int .i64 kd) ∧ w.cell? ⟨a.block, a.off + 1, none⟩ = some (.int .i64 nv) ∧ w.cell? ⟨a.block, a.off + 2, none⟩ = some (.int .u64 bv)) := fun w h => ⟨h.1.get 0 _ rfl, h.1.get 1 _ rfl, h.1.get 2 _ rfl, h.2.1.get 2 _ rfl, h.2.1.get 3 _ rfl, h.2.1.get 5 _ rfl, (h.2.2.cell (p := a) hab).trans HV.out.1, (h.2.2.cell (p := ⟨a.block, a.off + 1, none⟩) hab).trans HV.out.2.1, (h.2.2.cell (p := ⟨a.block, a.off + 2, none⟩) hab).trans HV.out.2.2.1⟩
  obtain ⟨y0_, y1_, y2_, y3_, y4_, y5_, y6_, y7_, y8_⟩ := HSS w1 HS.out
  have kh : IS W [.slice vp vn vc, .slice xp xn xc, .slice fp fn fc] [.int .i64 22, .int .i64 rg, .int .i64 ty, .int .i64 nn, .int .i64 fl, .slice (some a) 1 ac, .slice tp tl tc] w1 := HS.out
  have cA : ∀ w, ((w.cell? ⟨W.heap.size, 0, none⟩ = some (.slice vp vn vc) ∧ w.cell? ⟨W.heap.size, 1, none⟩ = some (.slice xp xn xc) ∧ w.cell? ⟨W.heap.size, 2, none⟩ = some (.slice fp fn fc) ∧ w.cell? ⟨W.heap.size + 1, 2, none⟩ = some (.int .i64 ty) ∧ w.cell? ⟨W.heap.size + 1, 3, none⟩ = some (.int .i64 nn) ∧ w.cell? ⟨W.heap.size + 1, 5, none⟩ = some (.slice (some a) 1 ac) ∧ w.cell? a = some (.int .i64 kd) ∧ w.cell? ⟨a.block, a.off + 1, none⟩ = some (.int .i64 nv) ∧ w.cell? ⟨a.block, a.off + 2, none⟩ = some (.int .u64 bv)) ∧ IS W [.slice vp vn vc, .slice xp xn xc, .slice fp fn fc] [.int .i64 22, .int .i64 rg, .int .i64 ty, .int .i64 nn, .int .i64 fl, .slice (some a) 1 ac, .slice tp tl tc] w) → Calls Tryz.prog 13 #[.int .i64 nn] w fun e w' => e = .returned (.string t1) ∧ w'.cell? ⟨W.heap.size, 0, none⟩ = some (.slice vp vn vc) ∧ w'.cell? ⟨W.heap.size, 1, none⟩ = some (.slice xp xn xc) ∧ w'.cell? ⟨W.heap.size, 2, none⟩ = some (.slice fp fn fc) ∧ w'.cell? ⟨W.heap.size + 1, 2, none⟩ = some (.int .i64 ty) ∧ w'.cell? ⟨W.heap.size + 1, 3, none⟩ = some (.int .i64 nn) ∧ w'.cell? ⟨W.heap.size + 1, 5, none⟩ = some (.slice (some a) 1 ac) ∧ w'.cell? a = some (.int .i64 kd) ∧ w'.cell? ⟨a.block, a.off + 1, none⟩ = some (.int .i64 nv) ∧ w'.cell? ⟨a.block, a.off + 2, none⟩ = some (.int .u64 bv) ∧ IS W [.slice vp vn vc, .slice xp xn xc, .slice fp fn fc] [.int .i64 22, .int .i64 rg, .int .i64 ty, .int .i64 nn, .int .i64 fl, .slice (some a) 1 ac, .slice tp tl tc] w' := by
    rintro w ⟨k, kh⟩
    refine ((fun w kh => HV.out.2.2.2.2.1 w) w kh).mono ?_
    rintro e w' ⟨he, hb⟩
    have h2 := kh.later hb
    obtain ⟨s0, s1, s2, s3, s4, s5, s6, s7, s8⟩ := HSS w' h2
    exact ⟨he, s0, s1, s2, s3, s4, s5, s6, s7, s8, h2⟩
  have cB : ∀ w, ((w.cell? ⟨W.heap.size, 0, none⟩ = some (.slice vp vn vc) ∧ w.cell? ⟨W.heap.size, 1, none⟩ = some (.slice xp xn xc) ∧ w.cell? ⟨W.heap.size, 2, none⟩ = some (.slice fp fn fc) ∧ w.cell? ⟨W.heap.size + 1, 2, none⟩ = some (.int .i64 ty) ∧ w.cell? ⟨W.heap.size + 1, 3, none⟩ = some (.int .i64 nn) ∧ w.cell? ⟨W.heap.size + 1, 5, none⟩ = some (.slice (some a) 1 ac) ∧ w.cell? a = some (.int .i64 kd) ∧ w.cell? ⟨a.block, a.off + 1, none⟩ = some (.int .i64 nv) ∧ w.cell? ⟨a.block, a.off + 2, none⟩ = some (.int .u64 bv)) ∧ IS W [.slice vp vn vc, .slice xp xn xc, .slice fp fn fc] [.int .i64 22, .int .i64 rg, .int .i64 ty, .int .i64 nn, .int .i64 fl, .slice (some a) 1 ac, .slice tp tl tc] w) → Calls Tryz.prog 108 #[.agg #[.slice vp vn vc, .slice xp xn xc, .slice fp fn fc], .agg #[.int .i64 kd, .int .i64 nv, .int .u64 bv]] w fun e w' => e = .returned (.string v) ∧ w'.cell? ⟨W.heap.size, 0, none⟩ = some (.slice vp vn vc) ∧ w'.cell? ⟨W.heap.size, 1, none⟩ = some (.slice xp xn xc) ∧ w'.cell? ⟨W.heap.size, 2, none⟩ = some (.slice fp fn fc) ∧ w'.cell? ⟨W.heap.size + 1, 2, none⟩ = some (.int .i64 ty) ∧ w'.cell? ⟨W.heap.size + 1, 3, none⟩ = some (.int .i64 nn) ∧ w'.cell? ⟨W.heap.size + 1, 5, none⟩ = some (.slice (some a) 1 ac) ∧ w'.cell? a = some (.int .i64 kd) ∧ w'.cell? ⟨a.block, a.off + 1, none⟩ = some (.int .i64 nv) ∧ w'.cell? ⟨a.block, a.off + 2, none⟩ = some (.int .u64 bv) ∧ IS W [.slice vp vn vc, .slice xp xn xc, .slice fp fn fc] [.int .i64 22, .int .i64 rg, .int .i64 ty, .int .i64 nn, .int .i64 fl, .slice (some a) 1 ac, .slice tp tl tc] w' := by
    rintro w ⟨k, kh⟩
    refine ((fun w (kh : IS W [.slice vp vn vc, .slice xp xn xc, .slice fp fn fc] [.int .i64 22, .int .i64 rg, .int .i64 ty, .int .i64 nn, .int .i64 fl, .slice (some a) 1 ac, .slice tp tl tc] w) => HV.out.2.2.2.1 w kh.2.2) w kh).mono ?_
    rintro e w' ⟨he, hb⟩
    have h2 := kh.later hb
    obtain ⟨s0, s1, s2, s3, s4, s5, s6, s7, s8⟩ := HSS w' h2
    exact ⟨he, s0, s1, s2, s3, s4, s5, s6, s7, s8, h2⟩
  have cC : ∀ w, ((w.cell? ⟨W.heap.size, 0, none⟩ = some (.slice vp vn vc) ∧ w.cell? ⟨W.heap.size, 1, none⟩ = some (.slice xp xn xc) ∧ w.cell? ⟨W.heap.size, 2, none⟩ = some (.slice fp fn fc) ∧ w.cell? ⟨W.heap.size + 1, 2, none⟩ = some (.int .i64 ty) ∧ w.cell? ⟨W.heap.size + 1, 3, none⟩ = some (.int .i64 nn) ∧ w.cell? ⟨W.heap.size + 1, 5, none⟩ = some (.slice (some a) 1 ac) ∧ w.cell? a = some (.int .i64 kd) ∧ w.cell? ⟨a.block, a.off + 1, none⟩ = some (.int .i64 nv) ∧ w.cell? ⟨a.block, a.off + 2, none⟩ = some (.int .u64 bv)) ∧ IS W [.slice vp vn vc, .slice xp xn xc, .slice fp fn fc] [.int .i64 22, .int .i64 rg, .int .i64 ty, .int .i64 nn, .int .i64 fl, .slice (some a) 1 ac, .slice tp tl tc] w) → Calls Tryz.prog 13 #[.int .i64 ty] w fun e w' => e = .returned (.string t2) ∧ w'.cell? ⟨W.heap.size, 0, none⟩ = some (.slice vp vn vc) ∧ w'.cell? ⟨W.heap.size, 1, none⟩ = some (.slice xp xn xc) ∧ w'.cell? ⟨W.heap.size, 2, none⟩ = some (.slice fp fn fc) ∧ w'.cell? ⟨W.heap.size + 1, 2, none⟩ = some (.int .i64 ty) ∧ w'.cell? ⟨W.heap.size + 1, 3, none⟩ = some (.int .i64 nn) ∧ w'.cell? ⟨W.heap.size + 1, 5, none⟩ = some (.slice (some a) 1 ac) ∧ w'.cell? a = some (.int .i64 kd) ∧ w'.cell? ⟨a.block, a.off + 1, none⟩ = some (.int .i64 nv) ∧ w'.cell? ⟨a.block, a.off + 2, none⟩ = some (.int .u64 bv) ∧ IS W [.slice vp vn vc, .slice xp xn xc, .slice fp fn fc] [.int .i64 22, .int .i64 rg, .int .i64 ty, .int .i64 nn, .int .i64 fl, .slice (some a) 1 ac, .slice tp tl tc] w' := by
    rintro w ⟨k, kh⟩
    refine ((fun w kh => HV.out.2.2.2.2.2 w) w kh).mono ?_
    rintro e w' ⟨he, hb⟩
    have h2 := kh.later hb
    obtain ⟨s0, s1, s2, s3, s4, s5, s6, s7, s8⟩ := HSS w' h2
    exact ⟨he, s0, s1, s2, s3, s4, s5, s6, s7, s8, h2⟩
  clear HSS
  go_region_held3 (fun w' => w'.cell? ⟨W.heap.size, 0, none⟩ = some (.slice vp vn vc) ∧ w'.cell? ⟨W.heap.size, 1, none⟩ = some (.slice xp xn xc) ∧ w'.cell? ⟨W.heap.size, 2, none⟩ = some (.slice fp fn fc) ∧ w'.cell? ⟨W.heap.size + 1, 2, none⟩ = some (.int .i64 ty) ∧ w'.cell? ⟨W.heap.size + 1, 3, none⟩ = some (.int .i64 nn) ∧ w'.cell? ⟨W.heap.size + 1, 5, none⟩ = some (.slice (some a) 1 ac) ∧ w'.cell? a = some (.int .i64 kd) ∧ w'.cell? ⟨a.block, a.off + 1, none⟩ = some (.int .i64 nv) ∧ w'.cell? ⟨a.block, a.off + 2, none⟩ = some (.int .u64 bv))
    (((try dsimp only); (repeat' apply And.intro) <;> (first | (with_reducible assumption) | (rw [World.cell?_drew]; with_reducible assumption) | (simp <;> omega))))
    (first
      | ((with_reducible refine' (cA _ ?pre).mono ?_)
         case pre => (refine ⟨⟨?_, ?_, ?_, ?_, ?_, ?_, ?_, ?_, ?_⟩, ?_⟩ <;> (first | (with_reducible assumption) | (rw [World.cell?_drew]; with_reducible assumption) | (with_reducible apply IS.drew; with_reducible assumption) | (simp <;> omega) | omega))
         rintro e wscA ⟨rfl, cA_0, cA_1, cA_2, cA_3, cA_4, cA_5, cA_6, cA_7, cA_8, sahcA⟩)
      | ((with_reducible refine' (cB _ ?pre).mono ?_)
         case pre => (refine ⟨⟨?_, ?_, ?_, ?_, ?_, ?_, ?_, ?_, ?_⟩, ?_⟩ <;> (first | (with_reducible assumption) | (rw [World.cell?_drew]; with_reducible assumption) | (with_reducible apply IS.drew; with_reducible assumption) | (simp <;> omega) | omega))
         rintro e wscB ⟨rfl, cB_0, cB_1, cB_2, cB_3, cB_4, cB_5, cB_6, cB_7, cB_8, sahcB⟩)
      | ((with_reducible refine' (cC _ ?pre).mono ?_)
         case pre => (refine ⟨⟨?_, ?_, ?_, ?_, ?_, ?_, ?_, ?_, ?_⟩, ?_⟩ <;> (first | (with_reducible assumption) | (rw [World.cell?_drew]; with_reducible assumption) | (with_reducible apply IS.drew; with_reducible assumption) | (simp <;> omega) | omega))
         rintro e wscC ⟨rfl, cC_0, cC_1, cC_2, cC_3, cC_4, cC_5, cC_6, cC_7, cC_8, sahcC⟩))
  all_goals
    have HS5 := Lib.hid sahcC
    go_wp2_with fail
    go_ret
    exact ⟨by rw [← HF.out]; rfl, HS5.out.2.2⟩
set_option maxRecDepth 100000 in
set_option maxHeartbeats 8000000 in
theorem rBeh_34 (m : LMod) (rg ty nn fl : Int) (ap tp : Option Addr) (al tl ac tc : Nat) (rs : List Arg) (ts : List Int) (W : World) (hm : ModIn W.heap.size W m) (hk : LenOk (modD m)) (hrs : ListIn argC NoMem W.heap.size W ap al ac rs) (hts : ListIn intC NoMem W.heap.size W tp tl tc ts) (hA : ∀ a ∈ rs, argB (modD m) a = true) (hb0 : ∀ a ∈ rs, 0 ≤ a.bits ∧ a.bits < 18446744073709551616) (hT : ∀ t ∈ ts, 0 ≤ t ∧ t ≤ 999) (hl : rs.length ≤ 1048576) (hlt : ts.length ≤ 1048576) :
    Calls Tryz.prog 82 #[.agg (modC m).toArray, .agg #[.int .i64 34, .int .i64 rg, .int .i64 ty, .int .i64 nn, .int .i64 fl, .slice ap al ac, .slice tp tl tc]] W (StrV (mkS ([])) W) := by
  have HM := hm
  have HS := Lib.hid (IS.new W (modC m) [.int .i64 34, .int .i64 rg, .int .i64 ty, .int .i64 nn, .int .i64 fl, .slice ap al ac, .slice tp tl tc] 26 39)
  clear hA hb0 hT hk hm hrs hts hl hlt HM
  obtain ⟨vp, vn, vc, vs, xp, xn, xc, xs, fp, fn, fc, fs⟩ := m
  have HS : Hid (IS W [.slice vp vn vc, .slice xp xn xc, .slice fp fn fc] [.int .i64 34, .int .i64 rg, .int .i64 ty, .int .i64 nn, .int .i64 fl, .slice ap al ac, .slice tp tl tc] ((W.alloc (.cells #[.slice vp vn vc, .slice xp xn xc, .slice fp fn fc] 26)).alloc (.cells #[.int .i64 34, .int .i64 rg, .int .i64 ty, .int .i64 nn, .int .i64 fl, .slice ap al ac, .slice tp tl tc] 39))) := HS
  show Calls Tryz.prog 82 #[.agg #[.slice vp vn vc, .slice xp xn xc, .slice fp fn fc], .agg #[.int .i64 34, .int .i64 rg, .int .i64 ty, .int .i64 nn, .int .i64 fl, .slice ap al ac, .slice tp tl tc]] W _
  go_enter Tryz.func82, Tryz.ntmps82
  go_wp2_with fail
  go_ret
  exact ⟨rfl, HS.out.2.2⟩
set_option maxRecDepth 100000 in
set_option maxHeartbeats 8000000 in
theorem rBeh_33n (m : LMod) (rg ty nn fl : Int) (ap tp : Option Addr) (al tl ac tc : Nat) (rs : List Arg) (ts : List Int) (W : World) (hm : ModIn W.heap.size W m) (hk : LenOk (modD m)) (hrs : ListIn argC NoMem W.heap.size W ap al ac rs) (hts : ListIn intC NoMem W.heap.size W tp tl tc ts) (hA : ∀ a ∈ rs, argB (modD m) a = true) (hb0 : ∀ a ∈ rs, 0 ≤ a.bits ∧ a.bits < 18446744073709551616) (hT : ∀ t ∈ ts, 0 ≤ t ∧ t ≤ 999) (hl : rs.length ≤ 1048576) (hlt : ts.length ≤ 1048576) (e : rs = []) :
    Calls Tryz.prog 82 #[.agg (modC m).toArray, .agg #[.int .i64 33, .int .i64 rg, .int .i64 ty, .int .i64 nn, .int .i64 fl, .slice ap al ac, .slice tp tl tc]] W (StrV (mkS ([])) W) := by
  subst e
  obtain rfl : al = 0 := hrs.1
  have HS := Lib.hid (IS.new W (modC m) [.int .i64 33, .int .i64 rg, .int .i64 ty, .int .i64 nn, .int .i64 fl, .slice ap 0 ac, .slice tp tl tc] 26 39)
  clear hA hb0 hT hk hm hrs hts hl hlt
  obtain ⟨vp, vn, vc, vs, xp, xn, xc, xs, fp, fn, fc, fs⟩ := m
  have HS : Hid (IS W [.slice vp vn vc, .slice xp xn xc, .slice fp fn fc] [.int .i64 33, .int .i64 rg, .int .i64 ty, .int .i64 nn, .int .i64 fl, .slice ap 0 ac, .slice tp tl tc] ((W.alloc (.cells #[.slice vp vn vc, .slice xp xn xc, .slice fp fn fc] 26)).alloc (.cells #[.int .i64 33, .int .i64 rg, .int .i64 ty, .int .i64 nn, .int .i64 fl, .slice ap 0 ac, .slice tp tl tc] 39))) := HS
  show Calls Tryz.prog 82 #[.agg #[.slice vp vn vc, .slice xp xn xc, .slice fp fn fc], .agg #[.int .i64 33, .int .i64 rg, .int .i64 ty, .int .i64 nn, .int .i64 fl, .slice ap 0 ac, .slice tp tl tc]] W _
  go_enter Tryz.func82, Tryz.ntmps82
  go_wp2_with fail
  go_ret
  exact ⟨rfl, HS.out.2.2⟩
set_option maxRecDepth 100000 in
set_option maxHeartbeats 8000000 in
theorem rBeh_26 (m : LMod) (rg ty nn fl : Int) (ap tp : Option Addr) (al tl ac tc : Nat) (rs : List Arg) (ts : List Int) (W : World) (hm : ModIn W.heap.size W m) (hk : LenOk (modD m)) (hrs : ListIn argC NoMem W.heap.size W ap al ac rs) (hts : ListIn intC NoMem W.heap.size W tp tl tc ts) (hA : ∀ a ∈ rs, argB (modD m) a = true) (hb0 : ∀ a ∈ rs, 0 ≤ a.bits ∧ a.bits < 18446744073709551616) (hT : ∀ t ∈ ts, 0 ≤ t ∧ t ≤ 999) (hl : rs.length ≤ 1048576) (hlt : ts.length ≤ 1048576) (h0 : 0 ≤ nn) (h1 : nn ≤ 9223372036854775807) :
    Calls Tryz.prog 82 #[.agg (modC m).toArray, .agg #[.int .i64 26, .int .i64 rg, .int .i64 ty, .int .i64 nn, .int .i64 fl, .slice ap al ac, .slice tp tl tc]] W (StrV (mkS (32 :: decI nn)) W) := by
  obtain ⟨k, rfl⟩ : ∃ k : Nat, nn = k := ⟨nn.toNat, by omega⟩
  have hk2 : k ≤ 9223372036854775807 := by omega
  have C := Lib.hid (Digits_any k (by omega))
  have hl5 : (mkS (Lib.decDigits k)).size ≤ 20 := by rw [size_mkS]; exact dec_20 (by omega)
  have HF : Hid (⟨#[32]⟩ ++ mkS (Lib.decDigits k) = mkS (32 :: decI k)) := Lib.hid (by rw [lit1, mkS_app]; rfl)
  obtain ⟨T, eT⟩ : ∃ T, mkS (32 :: decI (k : Int)) = T := ⟨_, rfl⟩
  rw [eT] at HF ⊢
  obtain ⟨s, es⟩ : ∃ s, mkS (Lib.decDigits k) = s := ⟨_, rfl⟩
  rw [es] at C hl5 HF
  clear es eT h0 h1
  have HS := Lib.hid (IS.new W (modC m) [.int .i64 26, .int .i64 rg, .int .i64 ty, .int .i64 (k : Int), .int .i64 fl, .slice ap al ac, .slice tp tl tc] 26 39)
  clear hA hb0 hT hk hm hrs hts hl hlt
  obtain ⟨vp, vn, vc, vs, xp, xn, xc, xs, fp, fn, fc, fs⟩ := m
  have HS : Hid (IS W [.slice vp vn vc, .slice xp xn xc, .slice fp fn fc] [.int .i64 26, .int .i64 rg, .int .i64 ty, .int .i64 (k : Int), .int .i64 fl, .slice ap al ac, .slice tp tl tc] ((W.alloc (.cells #[.slice vp vn vc, .slice xp xn xc, .slice fp fn fc] 26)).alloc (.cells #[.int .i64 26, .int .i64 rg, .int .i64 ty, .int .i64 (k : Int), .int .i64 fl, .slice ap al ac, .slice tp tl tc] 39))) := HS
  show Calls Tryz.prog 82 #[.agg #[.slice vp vn vc, .slice xp xn xc, .slice fp fn fc], .agg #[.int .i64 26, .int .i64 rg, .int .i64 ty, .int .i64 (k : Int), .int .i64 fl, .slice ap al ac, .slice tp tl tc]] W _
  go_enter Tryz.func82, Tryz.ntmps82
  go_wp2_with fail
  refine (C.out _).mono ?_
  rintro e w2 ⟨rfl, hb2⟩
  have HS5 := Lib.hid (HS.out.later hb2)
  clear hb2
  go_wp2_with fail
  go_ret
  exact ⟨by rw [← HF.out]; rfl, HS5.out.2.2⟩
set_option maxRecDepth 100000 in
set_option maxHeartbeats 8000000 in
theorem rBeh_29 (m : LMod) (rg ty nn fl : Int) (ap tp : Option Addr) (al tl ac tc : Nat) (rs : List Arg) (ts : List Int) (W : World) (hm : ModIn W.heap.size W m) (hk : LenOk (modD m)) (hrs : ListIn argC NoMem W.heap.size W ap al ac rs) (hts : ListIn intC NoMem W.heap.size W tp tl tc ts) (hA : ∀ a ∈ rs, argB (modD m) a = true) (hb0 : ∀ a ∈ rs, 0 ≤ a.bits ∧ a.bits < 18446744073709551616) (hT : ∀ t ∈ ts, 0 ≤ t ∧ t ≤ 999) (hl : rs.length ≤ 1048576) (hlt : ts.length ≤ 1048576) :
    Calls Tryz.prog 82 #[.agg (modC m).toArray, .agg #[.int .i64 29, .int .i64 rg, .int .i64 ty, .int .i64 nn, .int .i64 fl, .slice ap al ac, .slice tp tl tc]] W (StrV (mkS (32 :: listT (rs.map (argT m.vs)))) W) := by
  have hvs := values_at hm hk hrs hA hb0 hl
  have hvz := values_size hk hA hb0 hl
  have HF : Hid (⟨#[32]⟩ ++ mkS (listT (rs.map (argT m.vs))) = mkS (32 :: listT (rs.map (argT m.vs)))) := Lib.hid (by rw [lit1, mkS_app]; rfl)
  obtain ⟨T, eT⟩ : ∃ T, mkS (32 :: listT (rs.map (argT m.vs))) = T := ⟨_, rfl⟩
  obtain ⟨v, ev⟩ : ∃ t, mkS (listT (rs.map (argT m.vs))) = t := ⟨_, rfl⟩
  rw [eT] at HF ⊢
  rw [ev] at HF hvz
  simp only [ev] at hvs
  have HV := Lib.hid hvs
  clear eT ev hvs
  have HS := Lib.hid (IS.new W (modC m) [.int .i64 29, .int .i64 rg, .int .i64 ty, .int .i64 nn, .int .i64 fl, .slice ap al ac, .slice tp tl tc] 26 39)
  clear hA hb0 hT hk hm hrs hts hl hlt
  have HV : Hid (∀ w, _ → _) := HV
  obtain ⟨vp, vn, vc, vs, xp, xn, xc, xs, fp, fn, fc, fs⟩ := m
  have HS : Hid (IS W [.slice vp vn vc, .slice xp xn xc, .slice fp fn fc] [.int .i64 29, .int .i64 rg, .int .i64 ty, .int .i64 nn, .int .i64 fl, .slice ap al ac, .slice tp tl tc] ((W.alloc (.cells #[.slice vp vn vc, .slice xp xn xc, .slice fp fn fc] 26)).alloc (.cells #[.int .i64 29, .int .i64 rg, .int .i64 ty, .int .i64 nn, .int .i64 fl, .slice ap al ac, .slice tp tl tc] 39))) := HS
  show Calls Tryz.prog 82 #[.agg #[.slice vp vn vc, .slice xp xn xc, .slice fp fn fc], .agg #[.int .i64 29, .int .i64 rg, .int .i64 ty, .int .i64 nn, .int .i64 fl, .slice ap al ac, .slice tp tl tc]] W _
  go_enter Tryz.func82, Tryz.ntmps82
  go_upto_region 18 with fail
  obtain ⟨w1, ew1⟩ : ∃ w1, ((W.alloc (.cells #[.slice vp vn vc, .slice xp xn xc, .slice fp fn fc] 26)).alloc (.cells #[.int .i64 29, .int .i64 rg, .int .i64 ty, .int .i64 nn, .int .i64 fl, .slice ap al ac, .slice tp tl tc] 39)) = w1 := ⟨_, rfl⟩
  rw [ew1] at HS ⊢
  clear ew1
  obtain ⟨y0_, y1_, y2_⟩ : w1.cell? ⟨W.heap.size, 0, none⟩ = some (.slice vp vn vc) ∧ w1.cell? ⟨W.heap.size, 1, none⟩ = some (.slice xp xn xc) ∧ w1.cell? ⟨W.heap.size, 2, none⟩ = some (.slice fp fn fc) := ⟨HS.out.1.get 0 _ rfl, HS.out.1.get 1 _ rfl, HS.out.1.get 2 _ rfl⟩
  have z5 := HS.out.2.1.get 5 _ rfl
  have cv := HV.out w1 HS.out.2.2
  go_wp2_with fail
  refine cv.mono ?_
  rintro e w2 ⟨rfl, hb2⟩
  have HS5 := Lib.hid (HS.out.later hb2)
  clear hb2 cv
  go_wp2_with fail
  go_ret
  exact ⟨by rw [← HF.out]; rfl, HS5.out.2.2⟩
set_option maxRecDepth 100000 in
set_option maxHeartbeats 8000000 in
theorem rBeh_31 (m : LMod) (rg ty nn fl : Int) (ap tp : Option Addr) (al tl ac tc : Nat) (rs : List Arg) (ts : List Int) (W : World) (hm : ModIn W.heap.size W m) (hk : LenOk (modD m)) (hrs : ListIn argC NoMem W.heap.size W ap al ac rs) (hts : ListIn intC NoMem W.heap.size W tp tl tc ts) (hA : ∀ a ∈ rs, argB (modD m) a = true) (hb0 : ∀ a ∈ rs, 0 ≤ a.bits ∧ a.bits < 18446744073709551616) (hT : ∀ t ∈ ts, 0 ≤ t ∧ t ≤ 999) (hl : rs.length ≤ 1048576) (hlt : ts.length ≤ 1048576) (t0 : Int) (e : ts = [t0]) :
    Calls Tryz.prog 82 #[.agg (modC m).toArray, .agg #[.int .i64 31, .int .i64 rg, .int .i64 ty, .int .i64 nn, .int .i64 fl, .slice ap al ac, .slice tp tl tc]] W (StrV (mkS (32 :: listT (ts.map blockT))) W) := by
  subst e
  obtain rfl : tl = 1 := hts.1
  obtain ⟨a, rfl, hab, k0⟩ := row_I hts 0 (by simp)
  have k0 : W.cell? a = some (.int .i64 t0) := k0
  have hb := hT t0 (List.mem_singleton.2 rfl)
  have C := Lib.hid (And.intro (block_at hb) k0)
  have hz := block_size hb.2
  have HF : Hid (⟨#[32]⟩ ++ mkS (blockT t0) = mkS (32 :: listT ([t0].map blockT))) := Lib.hid (by rw [lit1, mkS_app]; rfl)
  obtain ⟨T, eT⟩ : ∃ T, mkS (32 :: listT ([t0].map blockT)) = T := ⟨_, rfl⟩
  obtain ⟨v, ev⟩ : ∃ t, mkS (blockT t0) = t := ⟨_, rfl⟩
  rw [eT] at HF ⊢
  rw [ev] at HF hz C
  clear eT ev k0 hb
  have HS := Lib.hid (IS.new W (modC m) [.int .i64 31, .int .i64 rg, .int .i64 ty, .int .i64 nn, .int .i64 fl, .slice ap al ac, .slice (some a) 1 tc] 26 39)
  clear hA hb0 hT hk hm hrs hts hl hlt
  have C : Hid (_ ∧ _) := C
  obtain ⟨vp, vn, vc, vs, xp, xn, xc, xs, fp, fn, fc, fs⟩ := m
  have HS : Hid (IS W [.slice vp vn vc, .slice xp xn xc, .slice fp fn fc] [.int .i64 31, .int .i64 rg, .int .i64 ty, .int .i64 nn, .int .i64 fl, .slice ap al ac, .slice (some a) 1 tc] ((W.alloc (.cells #[.slice vp vn vc, .slice xp xn xc, .slice fp fn fc] 26)).alloc (.cells #[.int .i64 31, .int .i64 rg, .int .i64 ty, .int .i64 nn, .int .i64 fl, .slice ap al ac, .slice (some a) 1 tc] 39))) := HS
  show Calls Tryz.prog 82 #[.agg #[.slice vp vn vc, .slice xp xn xc, .slice fp fn fc], .agg #[.int .i64 31, .int .i64 rg, .int .i64 ty, .int .i64 nn, .int .i64 fl, .slice ap al ac, .slice (some a) 1 tc]] W _
  go_enter Tryz.func82, Tryz.ntmps82
  go_upto_region 20 with fail
  obtain ⟨w1, ew1⟩ : ∃ w1, ((W.alloc (.cells #[.slice vp vn vc, .slice xp xn xc, .slice fp fn fc] 26)).alloc (.cells #[.int .i64 31, .int .i64 rg, .int .i64 ty, .int .i64 nn, .int .i64 fl, .slice ap al ac, .slice (some a) 1 tc] 39)) = w1 := ⟨_, rfl⟩
  rw [ew1] at HS ⊢
  clear ew1
  have z6 := HS.out.2.1.get 6 _ rfl
  have k0 := (HS.out.2.2.cell (p := a) hab).trans C.out.2
  have cv := C.out.1 w1
  go_wp2_with fail
  refine cv.mono ?_
  rintro e w2 ⟨rfl, hb2⟩
  have HS5 := Lib.hid (HS.out.later hb2)
  clear hb2 cv
  go_wp2_with fail
  go_ret
  exact ⟨by rw [← HF.out]; rfl, HS5.out.2.2⟩
set_option maxRecDepth 100000 in
set_option maxHeartbeats 8000000 in
theorem rBeh_32 (m : LMod) (rg ty nn fl : Int) (ap tp : Option Addr) (al tl ac tc : Nat) (rs : List Arg) (ts : List Int) (W : World) (hm : ModIn W.heap.size W m) (hk : LenOk (modD m)) (hrs : ListIn argC NoMem W.heap.size W ap al ac rs) (hts : ListIn intC NoMem W.heap.size W tp tl tc ts) (hA : ∀ a ∈ rs, argB (modD m) a = true) (hb0 : ∀ a ∈ rs, 0 ≤ a.bits ∧ a.bits < 18446744073709551616) (hT : ∀ t ∈ ts, 0 ≤ t ∧ t ≤ 999) (hl : rs.length ≤ 1048576) (hlt : ts.length ≤ 1048576) (a0 : Arg) (e : rs = [a0]) (t0 t1 : Int) (e2 : ts = [t0, t1]) :
    Calls Tryz.prog 82 #[.agg (modC m).toArray, .agg #[.int .i64 32, .int .i64 rg, .int .i64 ty, .int .i64 nn, .int .i64 fl, .slice ap al ac, .slice tp tl tc]] W (StrV (mkS (32 :: listT (rs.map (argT m.vs) ++ ts.map blockT))) W) := by
  subst e e2
  obtain rfl : al = 1 := hrs.1
  obtain rfl : tl = 2 := hts.1
  obtain ⟨a, rfl, hab, k0, k1, k2⟩ := row_A hrs 0 (by simp)
  have k0 : W.cell? a = some (.int .i64 a0.kind) := k0
  have k1 : W.cell? ⟨a.block, a.off + 1, none⟩ = some (.int .i64 a0.n) := k1
  have k2 : W.cell? ⟨a.block, a.off + 2, none⟩ = some (.int .u64 a0.bits) := k2
  obtain ⟨g, hg, hgb, g0⟩ := row_I hts 0 (by simp)
  obtain ⟨g', hg', _, g1⟩ := row_I hts 1 (by simp)
  obtain rfl : g' = g := by rw [hg] at hg'; injection hg' with h; exact h.symm
  subst hg
  clear hg'
  have g0 : W.cell? g' = some (.int .i64 t0) := g0
  have g1 : W.cell? ⟨g'.block, g'.off + 1, none⟩ = some (.int .i64 t1) := g1
  have hv := value_at hm hk hA hb0 a0 (List.mem_singleton.2 rfl)
  have hvs := value_size hk hA hb0 a0 (List.mem_singleton.2 rfl)
  have h0 := hT t0 (by simp)
  have h1 := hT t1 (by simp)
  have c1 := block_at h0
  have c2 := block_at h1
  have s1 := block_size h0.2
  have s2 := block_size h1.2
  have hF : ⟨#[32]⟩ ++ mkS (argT m.vs a0) ++ ⟨#[44, 32]⟩ ++ mkS (blockT t0) ++ ⟨#[44, 32]⟩ ++ mkS (blockT t1) = mkS (32 :: listT ([a0].map (argT m.vs) ++ [t0, t1].map blockT)) := by
    rw [lit1, lit2, mkS_app, mkS_app, mkS_app, mkS_app, mkS_app]
    simp [listT, sepBy]
  have HF := Lib.hid hF
  obtain ⟨T, eT⟩ : ∃ T, mkS (32 :: listT ([a0].map (argT m.vs) ++ [t0, t1].map blockT)) = T := ⟨_, rfl⟩
  obtain ⟨b1, e1⟩ : ∃ t, mkS (blockT t0) = t := ⟨_, rfl⟩
  obtain ⟨b2, e2⟩ : ∃ t, mkS (blockT t1) = t := ⟨_, rfl⟩
  obtain ⟨v, ev⟩ : ∃ t, mkS (argT m.vs a0) = t := ⟨_, rfl⟩
  rw [eT] at HF ⊢
  rw [e1, e2, ev] at HF
  rw [e1] at c1 s1
  rw [e2] at c2 s2
  simp only [ev] at hv
  rw [ev] at hvs
  obtain ⟨kd, nv, bv⟩ := a0
  simp only at k0 k1 k2 hv
  have l1 : ¬ 9223372036854775807 < 1 + v.size := by omega
  have l2 : ¬ 9223372036854775807 < 1 + v.size + 2 := by omega
  have l3 : ¬ 9223372036854775807 < 1 + v.size + 2 + b1.size := by omega
  have l4 : ¬ 9223372036854775807 < 1 + v.size + 2 + b1.size + 2 := by omega
  have l5 : ¬ 9223372036854775807 < 1 + v.size + 2 + b1.size + 2 + b2.size := by omega
  have HV := Lib.hid (And.intro k0 (And.intro k1 (And.intro k2 (And.intro hv (And.intro c1 (And.intro c2 (And.intro g0 g1)))))))
  clear e1 e2 ev eT hF k0 k1 k2 hv c1 c2 g0 g1 h0 h1
  have HS := Lib.hid (IS.new W (modC m) [.int .i64 32, .int .i64 rg, .int .i64 ty, .int .i64 nn, .int .i64 fl, .slice (some a) 1 ac, .slice (some g') 2 tc] 26 39)
  clear hA hb0 hT hk hm hrs hts hl hlt
  have HV : Hid (_ ∧ _ ∧ _ ∧ _ ∧ _ ∧ _ ∧ _ ∧ _) := HV
  obtain ⟨vp, vn, vc, vs, xp, xn, xc, xs, fp, fn, fc, fs⟩ := m
  have HS : Hid (IS W [.slice vp vn vc, .slice xp xn xc, .slice fp fn fc] [.int .i64 32, .int .i64 rg, .int .i64 ty, .int .i64 nn, .int .i64 fl, .slice (some a) 1 ac, .slice (some g') 2 tc] ((W.alloc (.cells #[.slice vp vn vc, .slice xp xn xc, .slice fp fn fc] 26)).alloc (.cells #[.int .i64 32, .int .i64 rg, .int .i64 ty, .int .i64 nn, .int .i64 fl, .slice (some a) 1 ac, .slice (some g') 2 tc] 39))) := HS
  show Calls Tryz.prog 82 #[.agg #[.slice vp vn vc, .slice xp xn xc, .slice fp fn fc], .agg #[.int .i64 32, .int .i64 rg, .int .i64 ty, .int .i64 nn, .int .i64 fl, .slice (some a) 1 ac, .slice (some g') 2 tc]] W _
  go_enter Tryz.func82, Tryz.ntmps82
  go_upto_region 22 with fail
  obtain ⟨w1, ew1⟩ : ∃ w1, ((W.alloc (.cells #[.slice vp vn vc, .slice xp xn xc, .slice fp fn fc] 26)).alloc (.cells #[.int .i64 32, .int .i64 rg, .int .i64 ty, .int .i64 nn, .int .i64 fl, .slice (some a) 1 ac, .slice (some g') 2 tc] 39)) = w1 := ⟨_, rfl⟩
  rw [ew1] at HS ⊢
  clear ew1
  have HSS : ∀ w, IS W [.slice vp vn vc, .slice xp xn xc, .slice fp fn fc] [.int .i64 32, .int .i64 rg, .int .i64 ty, .int .i64 nn, .int .i64 fl, .slice (some a) 1 ac, .slice (some g') 2 tc] w → (w.cell? ⟨W.heap.size, 0, none⟩ = some (.slice vp vn vc) ∧ w.cell? ⟨W.heap.size, 1, none⟩ = some (.slice xp xn xc) ∧ w.cell? ⟨W.heap.size, 2, none⟩ = some (.slice fp fn fc) ∧ w.cell? ⟨W.heap.size + 1, 5, none⟩ = some (.slice (some a) 1 ac) ∧ w.cell? ⟨W.heap.size + 1, 6, none⟩ = some (.slice (some g') 2 tc) ∧ w.cell? a = some (.int .i64 kd) ∧ w.cell? ⟨a.block, a.off + 1, none⟩ = some (.int .i64 nv) ∧ w.cell? ⟨a.block, a.off + 2, none⟩ = some (.int .u64 bv) ∧ w.cell? g' = some (.int .i64 t0) ∧ w.cell? ⟨g'.block, g'.off + 1, none⟩ = some (.int .i64 t1)) := fun w h => ⟨h.1.get 0 _ rfl, h.1.get 1 _ rfl, h.1.get 2 _ rfl, h.2.1.get 5 _ rfl, h.2.1.get 6 _ rfl, (h.2.2.cell (p := a) hab).trans HV.out.1, (h.2.2.cell (p := ⟨a.block, a.off + 1, none⟩) hab).trans HV.out.2.1, (h.2.2.cell (p := ⟨a.block, a.off + 2, none⟩) hab).trans HV.out.2.2.1, (h.2.2.cell (p := g') hgb).trans HV.out.2.2.2.2.2.2.1, (h.2.2.cell (p := ⟨g'.block, g'.off + 1, none⟩) hgb).trans HV.out.2.2.2.2.2.2.2⟩
  obtain ⟨y0_, y1_, y2_, y3_, y4_, y5_, y6_, y7_, y8_, y9_⟩ := HSS w1 HS.out
  have kh : IS W [.slice vp vn vc, .slice xp xn xc, .slice fp fn fc] [.int .i64 32, .int .i64 rg, .int .i64 ty, .int .i64 nn, .int .i64 fl, .slice (some a) 1 ac, .slice (some g') 2 tc] w1 := HS.out
  have cA : ∀ w, ((w.cell? ⟨W.heap.size, 0, none⟩ = some (.slice vp vn vc) ∧ w.cell? ⟨W.heap.size, 1, none⟩ = some (.slice xp xn xc) ∧ w.cell? ⟨W.heap.size, 2, none⟩ = some (.slice fp fn fc) ∧ w.cell? ⟨W.heap.size + 1, 5, none⟩ = some (.slice (some a) 1 ac) ∧ w.cell? ⟨W.heap.size + 1, 6, none⟩ = some (.slice (some g') 2 tc) ∧ w.cell? a = some (.int .i64 kd) ∧ w.cell? ⟨a.block, a.off + 1, none⟩ = some (.int .i64 nv) ∧ w.cell? ⟨a.block, a.off + 2, none⟩ = some (.int .u64 bv) ∧ w.cell? g' = some (.int .i64 t0) ∧ w.cell? ⟨g'.block, g'.off + 1, none⟩ = some (.int .i64 t1)) ∧ IS W [.slice vp vn vc, .slice xp xn xc, .slice fp fn fc] [.int .i64 32, .int .i64 rg, .int .i64 ty, .int .i64 nn, .int .i64 fl, .slice (some a) 1 ac, .slice (some g') 2 tc] w) → Calls Tryz.prog 108 #[.agg #[.slice vp vn vc, .slice xp xn xc, .slice fp fn fc], .agg #[.int .i64 kd, .int .i64 nv, .int .u64 bv]] w fun e w' => e = .returned (.string v) ∧ w'.cell? ⟨W.heap.size, 0, none⟩ = some (.slice vp vn vc) ∧ w'.cell? ⟨W.heap.size, 1, none⟩ = some (.slice xp xn xc) ∧ w'.cell? ⟨W.heap.size, 2, none⟩ = some (.slice fp fn fc) ∧ w'.cell? ⟨W.heap.size + 1, 5, none⟩ = some (.slice (some a) 1 ac) ∧ w'.cell? ⟨W.heap.size + 1, 6, none⟩ = some (.slice (some g') 2 tc) ∧ w'.cell? a = some (.int .i64 kd) ∧ w'.cell? ⟨a.block, a.off + 1, none⟩ = some (.int .i64 nv) ∧ w'.cell? ⟨a.block, a.off + 2, none⟩ = some (.int .u64 bv) ∧ w'.cell? g' = some (.int .i64 t0) ∧ w'.cell? ⟨g'.block, g'.off + 1, none⟩ = some (.int .i64 t1) ∧ IS W [.slice vp vn vc, .slice xp xn xc, .slice fp fn fc] [.int .i64 32, .int .i64 rg, .int .i64 ty, .int .i64 nn, .int .i64 fl, .slice (some a) 1 ac, .slice (some g') 2 tc] w' := by
    rintro w ⟨k, kh⟩
    refine ((fun w (kh : IS W [.slice vp vn vc, .slice xp xn xc, .slice fp fn fc] [.int .i64 32, .int .i64 rg, .int .i64 ty, .int .i64 nn, .int .i64 fl, .slice (some a) 1 ac, .slice (some g') 2 tc] w) => HV.out.2.2.2.1 w kh.2.2) w kh).mono ?_
    rintro e w' ⟨he, hb⟩
    have h2 := kh.later hb
    obtain ⟨s0, s1, s2, s3, s4, s5, s6, s7, s8, s9⟩ := HSS w' h2
    exact ⟨he, s0, s1, s2, s3, s4, s5, s6, s7, s8, s9, h2⟩
  have cB : ∀ w, ((w.cell? ⟨W.heap.size, 0, none⟩ = some (.slice vp vn vc) ∧ w.cell? ⟨W.heap.size, 1, none⟩ = some (.slice xp xn xc) ∧ w.cell? ⟨W.heap.size, 2, none⟩ = some (.slice fp fn fc) ∧ w.cell? ⟨W.heap.size + 1, 5, none⟩ = some (.slice (some a) 1 ac) ∧ w.cell? ⟨W.heap.size + 1, 6, none⟩ = some (.slice (some g') 2 tc) ∧ w.cell? a = some (.int .i64 kd) ∧ w.cell? ⟨a.block, a.off + 1, none⟩ = some (.int .i64 nv) ∧ w.cell? ⟨a.block, a.off + 2, none⟩ = some (.int .u64 bv) ∧ w.cell? g' = some (.int .i64 t0) ∧ w.cell? ⟨g'.block, g'.off + 1, none⟩ = some (.int .i64 t1)) ∧ IS W [.slice vp vn vc, .slice xp xn xc, .slice fp fn fc] [.int .i64 32, .int .i64 rg, .int .i64 ty, .int .i64 nn, .int .i64 fl, .slice (some a) 1 ac, .slice (some g') 2 tc] w) → Calls Tryz.prog 39 #[.int .i64 t0] w fun e w' => e = .returned (.string b1) ∧ w'.cell? ⟨W.heap.size, 0, none⟩ = some (.slice vp vn vc) ∧ w'.cell? ⟨W.heap.size, 1, none⟩ = some (.slice xp xn xc) ∧ w'.cell? ⟨W.heap.size, 2, none⟩ = some (.slice fp fn fc) ∧ w'.cell? ⟨W.heap.size + 1, 5, none⟩ = some (.slice (some a) 1 ac) ∧ w'.cell? ⟨W.heap.size + 1, 6, none⟩ = some (.slice (some g') 2 tc) ∧ w'.cell? a = some (.int .i64 kd) ∧ w'.cell? ⟨a.block, a.off + 1, none⟩ = some (.int .i64 nv) ∧ w'.cell? ⟨a.block, a.off + 2, none⟩ = some (.int .u64 bv) ∧ w'.cell? g' = some (.int .i64 t0) ∧ w'.cell? ⟨g'.block, g'.off + 1, none⟩ = some (.int .i64 t1) ∧ IS W [.slice vp vn vc, .slice xp xn xc, .slice fp fn fc] [.int .i64 32, .int .i64 rg, .int .i64 ty, .int .i64 nn, .int .i64 fl, .slice (some a) 1 ac, .slice (some g') 2 tc] w' := by
    rintro w ⟨k, kh⟩
    refine ((fun w kh => HV.out.2.2.2.2.1 w) w kh).mono ?_
    rintro e w' ⟨he, hb⟩
    have h2 := kh.later hb
    obtain ⟨s0, s1, s2, s3, s4, s5, s6, s7, s8, s9⟩ := HSS w' h2
    exact ⟨he, s0, s1, s2, s3, s4, s5, s6, s7, s8, s9, h2⟩
  have cC : ∀ w, ((w.cell? ⟨W.heap.size, 0, none⟩ = some (.slice vp vn vc) ∧ w.cell? ⟨W.heap.size, 1, none⟩ = some (.slice xp xn xc) ∧ w.cell? ⟨W.heap.size, 2, none⟩ = some (.slice fp fn fc) ∧ w.cell? ⟨W.heap.size + 1, 5, none⟩ = some (.slice (some a) 1 ac) ∧ w.cell? ⟨W.heap.size + 1, 6, none⟩ = some (.slice (some g') 2 tc) ∧ w.cell? a = some (.int .i64 kd) ∧ w.cell? ⟨a.block, a.off + 1, none⟩ = some (.int .i64 nv) ∧ w.cell? ⟨a.block, a.off + 2, none⟩ = some (.int .u64 bv) ∧ w.cell? g' = some (.int .i64 t0) ∧ w.cell? ⟨g'.block, g'.off + 1, none⟩ = some (.int .i64 t1)) ∧ IS W [.slice vp vn vc, .slice xp xn xc, .slice fp fn fc] [.int .i64 32, .int .i64 rg, .int .i64 ty, .int .i64 nn, .int .i64 fl, .slice (some a) 1 ac, .slice (some g') 2 tc] w) → Calls Tryz.prog 39 #[.int .i64 t1] w fun e w' => e = .returned (.string b2) ∧ w'.cell? ⟨W.heap.size, 0, none⟩ = some (.slice vp vn vc) ∧ w'.cell? ⟨W.heap.size, 1, none⟩ = some (.slice xp xn xc) ∧ w'.cell? ⟨W.heap.size, 2, none⟩ = some (.slice fp fn fc) ∧ w'.cell? ⟨W.heap.size + 1, 5, none⟩ = some (.slice (some a) 1 ac) ∧ w'.cell? ⟨W.heap.size + 1, 6, none⟩ = some (.slice (some g') 2 tc) ∧ w'.cell? a = some (.int .i64 kd) ∧ w'.cell? ⟨a.block, a.off + 1, none⟩ = some (.int .i64 nv) ∧ w'.cell? ⟨a.block, a.off + 2, none⟩ = some (.int .u64 bv) ∧ w'.cell? g' = some (.int .i64 t0) ∧ w'.cell? ⟨g'.block, g'.off + 1, none⟩ = some (.int .i64 t1) ∧ IS W [.slice vp vn vc, .slice xp xn xc, .slice fp fn fc] [.int .i64 32, .int .i64 rg, .int .i64 ty, .int .i64 nn, .int .i64 fl, .slice (some a) 1 ac, .slice (some g') 2 tc] w' := by
    rintro w ⟨k, kh⟩
    refine ((fun w kh => HV.out.2.2.2.2.2.1 w) w kh).mono ?_
    rintro e w' ⟨he, hb⟩
    have h2 := kh.later hb
    obtain ⟨s0, s1, s2, s3, s4, s5, s6, s7, s8, s9⟩ := HSS w' h2
    exact ⟨he, s0, s1, s2, s3, s4, s5, s6, s7, s8, s9, h2⟩
  clear HSS
  go_region_held3 (fun w' => w'.cell? ⟨W.heap.size, 0, none⟩ = some (.slice vp vn vc) ∧ w'.cell? ⟨W.heap.size, 1, none⟩ = some (.slice xp xn xc) ∧ w'.cell? ⟨W.heap.size, 2, none⟩ = some (.slice fp fn fc) ∧ w'.cell? ⟨W.heap.size + 1, 5, none⟩ = some (.slice (some a) 1 ac) ∧ w'.cell? ⟨W.heap.size + 1, 6, none⟩ = some (.slice (some g') 2 tc) ∧ w'.cell? a = some (.int .i64 kd) ∧ w'.cell? ⟨a.block, a.off + 1, none⟩ = some (.int .i64 nv) ∧ w'.cell? ⟨a.block, a.off + 2, none⟩ = some (.int .u64 bv) ∧ w'.cell? g' = some (.int .i64 t0) ∧ w'.cell? ⟨g'.block, g'.off + 1, none⟩ = some (.int .i64 t1))
    (((try dsimp only); (repeat' apply And.intro) <;> (first | (with_reducible assumption) | (rw [World.cell?_drew]; with_reducible assumption) | (simp <;> omega))))
    (first
      | ((with_reducible refine' (cA _ ?pre).mono ?_)
         case pre => (refine ⟨⟨?_, ?_, ?_, ?_, ?_, ?_, ?_, ?_, ?_, ?_⟩, ?_⟩ <;> (first | (with_reducible assumption) | (rw [World.cell?_drew]; with_reducible assumption) | (with_reducible apply IS.drew; with_reducible assumption) | (simp <;> omega) | omega))
         rintro e wscA ⟨rfl, cA_0, cA_1, cA_2, cA_3, cA_4, cA_5, cA_6, cA_7, cA_8, cA_9, sahcA⟩)
      | ((with_reducible refine' (cB _ ?pre).mono ?_)
         case pre => (refine ⟨⟨?_, ?_, ?_, ?_, ?_, ?_, ?_, ?_, ?_, ?_⟩, ?_⟩ <;> (first | (with_reducible assumption) | (rw [World.cell?_drew]; with_reducible assumption) | (with_reducible apply IS.drew; with_reducible assumption) | (simp <;> omega) | omega))
         rintro e wscB ⟨rfl, cB_0, cB_1, cB_2, cB_3, cB_4, cB_5, cB_6, cB_7, cB_8, cB_9, sahcB⟩)
      | ((with_reducible refine' (cC _ ?pre).mono ?_)
         case pre => (refine ⟨⟨?_, ?_, ?_, ?_, ?_, ?_, ?_, ?_, ?_, ?_⟩, ?_⟩ <;> (first | (with_reducible assumption) | (rw [World.cell?_drew]; with_reducible assumption) | (with_reducible apply IS.drew; with_reducible assumption) | (simp <;> omega) | omega))
         rintro e wscC ⟨rfl, cC_0, cC_1, cC_2, cC_3, cC_4, cC_5, cC_6, cC_7, cC_8, cC_9, sahcC⟩))
  all_goals
    have HS5 := Lib.hid sahcC
    go_wp2_with fail
    go_ret
    exact ⟨by rw [← HF.out]; rfl, HS5.out.2.2⟩
set_option maxRecDepth 100000 in
set_option maxHeartbeats 8000000 in
theorem rBeh_33 (m : LMod) (rg ty nn fl : Int) (ap tp : Option Addr) (al tl ac tc : Nat) (rs : List Arg) (ts : List Int) (W : World) (hm : ModIn W.heap.size W m) (hk : LenOk (modD m)) (hrs : ListIn argC NoMem W.heap.size W ap al ac rs) (hts : ListIn intC NoMem W.heap.size W tp tl tc ts) (hA : ∀ a ∈ rs, argB (modD m) a = true) (hb0 : ∀ a ∈ rs, 0 ≤ a.bits ∧ a.bits < 18446744073709551616) (hT : ∀ t ∈ ts, 0 ≤ t ∧ t ≤ 999) (hl : rs.length ≤ 1048576) (hlt : ts.length ≤ 1048576) (h0 : rs.length ≠ 0) :
    Calls Tryz.prog 82 #[.agg (modC m).toArray, .agg #[.int .i64 33, .int .i64 rg, .int .i64 ty, .int .i64 nn, .int .i64 fl, .slice ap al ac, .slice tp tl tc]] W (StrV (mkS (32 :: (typeT ty ++ 32 :: listT (rs.map (argT m.vs))))) W) := by
  have hvs := values_at hm hk hrs hA hb0 hl
  have hvz := values_size hk hA hb0 hl
  have c1 := type_at ty
  have s1 := type_size ty
  have hF : ⟨#[32]⟩ ++ mkS (typeT ty) ++ ⟨#[32]⟩ ++ mkS (listT (rs.map (argT m.vs))) = mkS (32 :: (typeT ty ++ 32 :: listT (rs.map (argT m.vs)))) := by
    rw [lit1, mkS_app, mkS_app, mkS_app]
    simp
  have HF := Lib.hid hF
  obtain ⟨T, eT⟩ : ∃ T, mkS (32 :: (typeT ty ++ 32 :: listT (rs.map (argT m.vs)))) = T := ⟨_, rfl⟩
  obtain ⟨t1, e1⟩ : ∃ t, mkS (typeT ty) = t := ⟨_, rfl⟩
  obtain ⟨v, ev⟩ : ∃ t, mkS (listT (rs.map (argT m.vs))) = t := ⟨_, rfl⟩
  rw [eT] at HF ⊢
  rw [e1, ev] at HF
  rw [e1] at c1 s1
  simp only [ev] at hvs
  rw [ev] at hvz
  have l1 : ¬ 9223372036854775807 < 1 + t1.size := by omega
  have l2 : ¬ 9223372036854775807 < 1 + t1.size + 1 := by omega
  have l3 : ¬ 9223372036854775807 < 1 + t1.size + 1 + v.size := by omega
  have HV := Lib.hid (And.intro hvs c1)
  clear eT ev e1 hF hvs c1
  have d33 : ((al : Int) == (0 : Int)) = false := by have := hrs.1; simp; omega
  have d33' : (al == 0) = false := by have := hrs.1; simp; omega
  clear h0
  have HS := Lib.hid (IS.new W (modC m) [.int .i64 33, .int .i64 rg, .int .i64 ty, .int .i64 nn, .int .i64 fl, .slice ap al ac, .slice tp tl tc] 26 39)
  clear hA hb0 hT hk hm hrs hts hl hlt
  have HV : Hid (_ ∧ _) := HV
  obtain ⟨vp, vn, vc, vs, xp, xn, xc, xs, fp, fn, fc, fs⟩ := m
  have HS : Hid (IS W [.slice vp vn vc, .slice xp xn xc, .slice fp fn fc] [.int .i64 33, .int .i64 rg, .int .i64 ty, .int .i64 nn, .int .i64 fl, .slice ap al ac, .slice tp tl tc] ((W.alloc (.cells #[.slice vp vn vc, .slice xp xn xc, .slice fp fn fc] 26)).alloc (.cells #[.int .i64 33, .int .i64 rg, .int .i64 ty, .int .i64 nn, .int .i64 fl, .slice ap al ac, .slice tp tl tc] 39))) := HS
  show Calls Tryz.prog 82 #[.agg #[.slice vp vn vc, .slice xp xn xc, .slice fp fn fc], .agg #[.int .i64 33, .int .i64 rg, .int .i64 ty, .int .i64 nn, .int .i64 fl, .slice ap al ac, .slice tp tl tc]] W _
  go_enter Tryz.func82, Tryz.ntmps82
  go_upto_region 33 with fail
  obtain ⟨w1, ew1⟩ : ∃ w1, ((W.alloc (.cells #[.slice vp vn vc, .slice xp xn xc, .slice fp fn fc] 26)).alloc (.cells #[.int .i64 33, .int .i64 rg, .int .i64 ty, .int .i64 nn, .int .i64 fl, .slice ap al ac, .slice tp tl tc] 39)) = w1 := ⟨_, rfl⟩
  rw [ew1] at HS ⊢
  clear ew1
  have HSS : ∀ w, IS W [.slice vp vn vc, .slice xp xn xc, .slice fp fn fc] [.int .i64 33, .int .i64 rg, .int .i64 ty, .int .i64 nn, .int .i64 fl, .slice ap al ac, .slice tp tl tc] w → (w.cell? ⟨W.heap.size, 0, none⟩ = some (.slice vp vn vc) ∧ w.cell? ⟨W.heap.size, 1, none⟩ = some (.slice xp xn xc) ∧ w.cell? ⟨W.heap.size, 2, none⟩ = some (.slice fp fn fc) ∧ w.cell? ⟨W.heap.size + 1, 2, none⟩ = some (.int .i64 ty) ∧ w.cell? ⟨W.heap.size + 1, 5, none⟩ = some (.slice ap al ac)) := fun w h => ⟨h.1.get 0 _ rfl, h.1.get 1 _ rfl, h.1.get 2 _ rfl, h.2.1.get 2 _ rfl, h.2.1.get 5 _ rfl⟩
  obtain ⟨y0_, y1_, y2_, y3_, y4_⟩ := HSS w1 HS.out
  have kh : IS W [.slice vp vn vc, .slice xp xn xc, .slice fp fn fc] [.int .i64 33, .int .i64 rg, .int .i64 ty, .int .i64 nn, .int .i64 fl, .slice ap al ac, .slice tp tl tc] w1 := HS.out
  have cA : ∀ w, ((w.cell? ⟨W.heap.size, 0, none⟩ = some (.slice vp vn vc) ∧ w.cell? ⟨W.heap.size, 1, none⟩ = some (.slice xp xn xc) ∧ w.cell? ⟨W.heap.size, 2, none⟩ = some (.slice fp fn fc) ∧ w.cell? ⟨W.heap.size + 1, 2, none⟩ = some (.int .i64 ty) ∧ w.cell? ⟨W.heap.size + 1, 5, none⟩ = some (.slice ap al ac)) ∧ IS W [.slice vp vn vc, .slice xp xn xc, .slice fp fn fc] [.int .i64 33, .int .i64 rg, .int .i64 ty, .int .i64 nn, .int .i64 fl, .slice ap al ac, .slice tp tl tc] w) → Calls Tryz.prog 13 #[.int .i64 ty] w fun e w' => e = .returned (.string t1) ∧ w'.cell? ⟨W.heap.size, 0, none⟩ = some (.slice vp vn vc) ∧ w'.cell? ⟨W.heap.size, 1, none⟩ = some (.slice xp xn xc) ∧ w'.cell? ⟨W.heap.size, 2, none⟩ = some (.slice fp fn fc) ∧ w'.cell? ⟨W.heap.size + 1, 2, none⟩ = some (.int .i64 ty) ∧ w'.cell? ⟨W.heap.size + 1, 5, none⟩ = some (.slice ap al ac) ∧ IS W [.slice vp vn vc, .slice xp xn xc, .slice fp fn fc] [.int .i64 33, .int .i64 rg, .int .i64 ty, .int .i64 nn, .int .i64 fl, .slice ap al ac, .slice tp tl tc] w' := by
    rintro w ⟨k, kh⟩
    refine ((fun w kh => HV.out.2 w) w kh).mono ?_
    rintro e w' ⟨he, hb⟩
    have h2 := kh.later hb
    obtain ⟨s0, s1, s2, s3, s4⟩ := HSS w' h2
    exact ⟨he, s0, s1, s2, s3, s4, h2⟩
  have cB : ∀ w, ((w.cell? ⟨W.heap.size, 0, none⟩ = some (.slice vp vn vc) ∧ w.cell? ⟨W.heap.size, 1, none⟩ = some (.slice xp xn xc) ∧ w.cell? ⟨W.heap.size, 2, none⟩ = some (.slice fp fn fc) ∧ w.cell? ⟨W.heap.size + 1, 2, none⟩ = some (.int .i64 ty) ∧ w.cell? ⟨W.heap.size + 1, 5, none⟩ = some (.slice ap al ac)) ∧ IS W [.slice vp vn vc, .slice xp xn xc, .slice fp fn fc] [.int .i64 33, .int .i64 rg, .int .i64 ty, .int .i64 nn, .int .i64 fl, .slice ap al ac, .slice tp tl tc] w) → Calls Tryz.prog 109 #[.agg #[.slice vp vn vc, .slice xp xn xc, .slice fp fn fc], .slice ap al ac] w fun e w' => e = .returned (.string v) ∧ w'.cell? ⟨W.heap.size, 0, none⟩ = some (.slice vp vn vc) ∧ w'.cell? ⟨W.heap.size, 1, none⟩ = some (.slice xp xn xc) ∧ w'.cell? ⟨W.heap.size, 2, none⟩ = some (.slice fp fn fc) ∧ w'.cell? ⟨W.heap.size + 1, 2, none⟩ = some (.int .i64 ty) ∧ w'.cell? ⟨W.heap.size + 1, 5, none⟩ = some (.slice ap al ac) ∧ IS W [.slice vp vn vc, .slice xp xn xc, .slice fp fn fc] [.int .i64 33, .int .i64 rg, .int .i64 ty, .int .i64 nn, .int .i64 fl, .slice ap al ac, .slice tp tl tc] w' := by
    rintro w ⟨k, kh⟩
    refine ((fun w (kh : IS W [.slice vp vn vc, .slice xp xn xc, .slice fp fn fc] [.int .i64 33, .int .i64 rg, .int .i64 ty, .int .i64 nn, .int .i64 fl, .slice ap al ac, .slice tp tl tc] w) => HV.out.1 w kh.2.2) w kh).mono ?_
    rintro e w' ⟨he, hb⟩
    have h2 := kh.later hb
    obtain ⟨s0, s1, s2, s3, s4⟩ := HSS w' h2
    exact ⟨he, s0, s1, s2, s3, s4, h2⟩
  clear HSS
  go_region_held3 (fun w' => w'.cell? ⟨W.heap.size, 0, none⟩ = some (.slice vp vn vc) ∧ w'.cell? ⟨W.heap.size, 1, none⟩ = some (.slice xp xn xc) ∧ w'.cell? ⟨W.heap.size, 2, none⟩ = some (.slice fp fn fc) ∧ w'.cell? ⟨W.heap.size + 1, 2, none⟩ = some (.int .i64 ty) ∧ w'.cell? ⟨W.heap.size + 1, 5, none⟩ = some (.slice ap al ac))
    (((try dsimp only); (repeat' apply And.intro) <;> (first | (with_reducible assumption) | (rw [World.cell?_drew]; with_reducible assumption) | (simp <;> omega))))
    (first
      | ((with_reducible refine' (cA _ ?pre).mono ?_)
         case pre => (refine ⟨⟨?_, ?_, ?_, ?_, ?_⟩, ?_⟩ <;> (first | (with_reducible assumption) | (rw [World.cell?_drew]; with_reducible assumption) | (with_reducible apply IS.drew; with_reducible assumption) | (simp <;> omega) | omega))
         rintro e wscA ⟨rfl, cA_0, cA_1, cA_2, cA_3, cA_4, sahcA⟩)
      | ((with_reducible refine' (cB _ ?pre).mono ?_)
         case pre => (refine ⟨⟨?_, ?_, ?_, ?_, ?_⟩, ?_⟩ <;> (first | (with_reducible assumption) | (rw [World.cell?_drew]; with_reducible assumption) | (with_reducible apply IS.drew; with_reducible assumption) | (simp <;> omega) | omega))
         rintro e wscB ⟨rfl, cB_0, cB_1, cB_2, cB_3, cB_4, sahcB⟩))
  all_goals
    have HS5 := Lib.hid sahcB
    go_wp2_with fail
    go_ret
    exact ⟨by rw [← HF.out]; rfl, HS5.out.2.2⟩
set_option maxRecDepth 100000 in
set_option maxHeartbeats 8000000 in
theorem rBeh_o (m : LMod) (op rg ty nn fl : Int) (ap tp : Option Addr) (al tl ac tc : Nat) (rs : List Arg) (ts : List Int) (W : World) (hm : ModIn W.heap.size W m) (hk : LenOk (modD m)) (hrs : ListIn argC NoMem W.heap.size W ap al ac rs) (hts : ListIn intC NoMem W.heap.size W tp tl tc ts) (hA : ∀ a ∈ rs, argB (modD m) a = true) (hb0 : ∀ a ∈ rs, 0 ≤ a.bits ∧ a.bits < 18446744073709551616) (hT : ∀ t ∈ ts, 0 ≤ t ∧ t ≤ 999) (hl : rs.length ≤ 1048576) (hlt : ts.length ≤ 1048576) (hno : op ≠ 20 ∧ op ≠ 21 ∧ op ≠ 22 ∧ op ≠ 25 ∧ op ≠ 26 ∧ op ≠ 29 ∧ op ≠ 31 ∧ op ≠ 32 ∧ op ≠ 34 ∧ op ≠ 30 ∧ op ≠ 33) :
    Calls Tryz.prog 82 #[.agg (modC m).toArray, .agg #[.int .i64 op, .int .i64 rg, .int .i64 ty, .int .i64 nn, .int .i64 fl, .slice ap al ac, .slice tp tl tc]] W (StrV (mkS (32 :: (typeT ty ++ 32 :: listT (rs.map (argT m.vs))))) W) := by
  have hvs := values_at hm hk hrs hA hb0 hl
  have hvz := values_size hk hA hb0 hl
  have c1 := type_at ty
  have s1 := type_size ty
  have hF : ⟨#[32]⟩ ++ mkS (typeT ty) ++ ⟨#[32]⟩ ++ mkS (listT (rs.map (argT m.vs))) = mkS (32 :: (typeT ty ++ 32 :: listT (rs.map (argT m.vs)))) := by
    rw [lit1, mkS_app, mkS_app, mkS_app]
    simp
  have HF := Lib.hid hF
  obtain ⟨T, eT⟩ : ∃ T, mkS (32 :: (typeT ty ++ 32 :: listT (rs.map (argT m.vs)))) = T := ⟨_, rfl⟩
  obtain ⟨t1, e1⟩ : ∃ t, mkS (typeT ty) = t := ⟨_, rfl⟩
  obtain ⟨v, ev⟩ : ∃ t, mkS (listT (rs.map (argT m.vs))) = t := ⟨_, rfl⟩
  rw [eT] at HF ⊢
  rw [e1, ev] at HF
  rw [e1] at c1 s1
  simp only [ev] at hvs
  rw [ev] at hvz
  have l1 : ¬ 9223372036854775807 < 1 + t1.size := by omega
  have l2 : ¬ 9223372036854775807 < 1 + t1.size + 1 := by omega
  have l3 : ¬ 9223372036854775807 < 1 + t1.size + 1 + v.size := by omega
  have HV := Lib.hid (And.intro hvs c1)
  clear eT ev e1 hF hvs c1
  obtain ⟨n20, n21, n22, n25, n26, n29, n31, n32, n34, n30, n33⟩ := hno
  have d20 : (op == (20 : Int)) = false := by simp; omega
  have d21 : (op == (21 : Int)) = false := by simp; omega
  have d22 : (op == (22 : Int)) = false := by simp; omega
  have d25 : (op == (25 : Int)) = false := by simp; omega
  have d26 : (op == (26 : Int)) = false := by simp; omega
  have d29 : (op == (29 : Int)) = false := by simp; omega
  have d31 : (op == (31 : Int)) = false := by simp; omega
  have d32 : (op == (32 : Int)) = false := by simp; omega
  have d34 : (op == (34 : Int)) = false := by simp; omega
  have d30 : (op == (30 : Int)) = false := by simp; omega
  have d33 : (op == (33 : Int)) = false := by simp; omega
  clear n20 n21 n22 n25 n26 n29 n31 n32 n34 n30 n33
  have HS := Lib.hid (IS.new W (modC m) [.int .i64 op, .int .i64 rg, .int .i64 ty, .int .i64 nn, .int .i64 fl, .slice ap al ac, .slice tp tl tc] 26 39)
  clear hA hb0 hT hk hm hrs hts hl hlt
  have HV : Hid (_ ∧ _) := HV
  obtain ⟨vp, vn, vc, vs, xp, xn, xc, xs, fp, fn, fc, fs⟩ := m
  have HS : Hid (IS W [.slice vp vn vc, .slice xp xn xc, .slice fp fn fc] [.int .i64 op, .int .i64 rg, .int .i64 ty, .int .i64 nn, .int .i64 fl, .slice ap al ac, .slice tp tl tc] ((W.alloc (.cells #[.slice vp vn vc, .slice xp xn xc, .slice fp fn fc] 26)).alloc (.cells #[.int .i64 op, .int .i64 rg, .int .i64 ty, .int .i64 nn, .int .i64 fl, .slice ap al ac, .slice tp tl tc] 39))) := HS
  show Calls Tryz.prog 82 #[.agg #[.slice vp vn vc, .slice xp xn xc, .slice fp fn fc], .agg #[.int .i64 op, .int .i64 rg, .int .i64 ty, .int .i64 nn, .int .i64 fl, .slice ap al ac, .slice tp tl tc]] W _
  go_enter Tryz.func82, Tryz.ntmps82
  go_upto_region 33 with fail
  obtain ⟨w1, ew1⟩ : ∃ w1, ((W.alloc (.cells #[.slice vp vn vc, .slice xp xn xc, .slice fp fn fc] 26)).alloc (.cells #[.int .i64 op, .int .i64 rg, .int .i64 ty, .int .i64 nn, .int .i64 fl, .slice ap al ac, .slice tp tl tc] 39)) = w1 := ⟨_, rfl⟩
  rw [ew1] at HS ⊢
  clear ew1
  have HSS : ∀ w, IS W [.slice vp vn vc, .slice xp xn xc, .slice fp fn fc] [.int .i64 op, .int .i64 rg, .int .i64 ty, .int .i64 nn, .int .i64 fl, .slice ap al ac, .slice tp tl tc] w → (w.cell? ⟨W.heap.size, 0, none⟩ = some (.slice vp vn vc) ∧ w.cell? ⟨W.heap.size, 1, none⟩ = some (.slice xp xn xc) ∧ w.cell? ⟨W.heap.size, 2, none⟩ = some (.slice fp fn fc) ∧ w.cell? ⟨W.heap.size + 1, 2, none⟩ = some (.int .i64 ty) ∧ w.cell? ⟨W.heap.size + 1, 5, none⟩ = some (.slice ap al ac)) := fun w h => ⟨h.1.get 0 _ rfl, h.1.get 1 _ rfl, h.1.get 2 _ rfl, h.2.1.get 2 _ rfl, h.2.1.get 5 _ rfl⟩
  obtain ⟨y0_, y1_, y2_, y3_, y4_⟩ := HSS w1 HS.out
  have kh : IS W [.slice vp vn vc, .slice xp xn xc, .slice fp fn fc] [.int .i64 op, .int .i64 rg, .int .i64 ty, .int .i64 nn, .int .i64 fl, .slice ap al ac, .slice tp tl tc] w1 := HS.out
  have cA : ∀ w, ((w.cell? ⟨W.heap.size, 0, none⟩ = some (.slice vp vn vc) ∧ w.cell? ⟨W.heap.size, 1, none⟩ = some (.slice xp xn xc) ∧ w.cell? ⟨W.heap.size, 2, none⟩ = some (.slice fp fn fc) ∧ w.cell? ⟨W.heap.size + 1, 2, none⟩ = some (.int .i64 ty) ∧ w.cell? ⟨W.heap.size + 1, 5, none⟩ = some (.slice ap al ac)) ∧ IS W [.slice vp vn vc, .slice xp xn xc, .slice fp fn fc] [.int .i64 op, .int .i64 rg, .int .i64 ty, .int .i64 nn, .int .i64 fl, .slice ap al ac, .slice tp tl tc] w) → Calls Tryz.prog 13 #[.int .i64 ty] w fun e w' => e = .returned (.string t1) ∧ w'.cell? ⟨W.heap.size, 0, none⟩ = some (.slice vp vn vc) ∧ w'.cell? ⟨W.heap.size, 1, none⟩ = some (.slice xp xn xc) ∧ w'.cell? ⟨W.heap.size, 2, none⟩ = some (.slice fp fn fc) ∧ w'.cell? ⟨W.heap.size + 1, 2, none⟩ = some (.int .i64 ty) ∧ w'.cell? ⟨W.heap.size + 1, 5, none⟩ = some (.slice ap al ac) ∧ IS W [.slice vp vn vc, .slice xp xn xc, .slice fp fn fc] [.int .i64 op, .int .i64 rg, .int .i64 ty, .int .i64 nn, .int .i64 fl, .slice ap al ac, .slice tp tl tc] w' := by
    rintro w ⟨k, kh⟩
    refine ((fun w kh => HV.out.2 w) w kh).mono ?_
    rintro e w' ⟨he, hb⟩
    have h2 := kh.later hb
    obtain ⟨s0, s1, s2, s3, s4⟩ := HSS w' h2
    exact ⟨he, s0, s1, s2, s3, s4, h2⟩
  have cB : ∀ w, ((w.cell? ⟨W.heap.size, 0, none⟩ = some (.slice vp vn vc) ∧ w.cell? ⟨W.heap.size, 1, none⟩ = some (.slice xp xn xc) ∧ w.cell? ⟨W.heap.size, 2, none⟩ = some (.slice fp fn fc) ∧ w.cell? ⟨W.heap.size + 1, 2, none⟩ = some (.int .i64 ty) ∧ w.cell? ⟨W.heap.size + 1, 5, none⟩ = some (.slice ap al ac)) ∧ IS W [.slice vp vn vc, .slice xp xn xc, .slice fp fn fc] [.int .i64 op, .int .i64 rg, .int .i64 ty, .int .i64 nn, .int .i64 fl, .slice ap al ac, .slice tp tl tc] w) → Calls Tryz.prog 109 #[.agg #[.slice vp vn vc, .slice xp xn xc, .slice fp fn fc], .slice ap al ac] w fun e w' => e = .returned (.string v) ∧ w'.cell? ⟨W.heap.size, 0, none⟩ = some (.slice vp vn vc) ∧ w'.cell? ⟨W.heap.size, 1, none⟩ = some (.slice xp xn xc) ∧ w'.cell? ⟨W.heap.size, 2, none⟩ = some (.slice fp fn fc) ∧ w'.cell? ⟨W.heap.size + 1, 2, none⟩ = some (.int .i64 ty) ∧ w'.cell? ⟨W.heap.size + 1, 5, none⟩ = some (.slice ap al ac) ∧ IS W [.slice vp vn vc, .slice xp xn xc, .slice fp fn fc] [.int .i64 op, .int .i64 rg, .int .i64 ty, .int .i64 nn, .int .i64 fl, .slice ap al ac, .slice tp tl tc] w' := by
    rintro w ⟨k, kh⟩
    refine ((fun w (kh : IS W [.slice vp vn vc, .slice xp xn xc, .slice fp fn fc] [.int .i64 op, .int .i64 rg, .int .i64 ty, .int .i64 nn, .int .i64 fl, .slice ap al ac, .slice tp tl tc] w) => HV.out.1 w kh.2.2) w kh).mono ?_
    rintro e w' ⟨he, hb⟩
    have h2 := kh.later hb
    obtain ⟨s0, s1, s2, s3, s4⟩ := HSS w' h2
    exact ⟨he, s0, s1, s2, s3, s4, h2⟩
  clear HSS
  go_region_held3 (fun w' => w'.cell? ⟨W.heap.size, 0, none⟩ = some (.slice vp vn vc) ∧ w'.cell? ⟨W.heap.size, 1, none⟩ = some (.slice xp xn xc) ∧ w'.cell? ⟨W.heap.size, 2, none⟩ = some (.slice fp fn fc) ∧ w'.cell? ⟨W.heap.size + 1, 2, none⟩ = some (.int .i64 ty) ∧ w'.cell? ⟨W.heap.size + 1, 5, none⟩ = some (.slice ap al ac))
    (((try dsimp only); (repeat' apply And.intro) <;> (first | (with_reducible assumption) | (rw [World.cell?_drew]; with_reducible assumption) | (simp <;> omega))))
    (first
      | ((with_reducible refine' (cA _ ?pre).mono ?_)
         case pre => (refine ⟨⟨?_, ?_, ?_, ?_, ?_⟩, ?_⟩ <;> (first | (with_reducible assumption) | (rw [World.cell?_drew]; with_reducible assumption) | (with_reducible apply IS.drew; with_reducible assumption) | (simp <;> omega) | omega))
         rintro e wscA ⟨rfl, cA_0, cA_1, cA_2, cA_3, cA_4, sahcA⟩)
      | ((with_reducible refine' (cB _ ?pre).mono ?_)
         case pre => (refine ⟨⟨?_, ?_, ?_, ?_, ?_⟩, ?_⟩ <;> (first | (with_reducible assumption) | (rw [World.cell?_drew]; with_reducible assumption) | (with_reducible apply IS.drew; with_reducible assumption) | (simp <;> omega) | omega))
         rintro e wscB ⟨rfl, cB_0, cB_1, cB_2, cB_3, cB_4, sahcB⟩))
  all_goals
    have HS5 := Lib.hid sahcB
    go_wp2_with fail
    go_ret
    exact ⟨by rw [← HF.out]; rfl, HS5.out.2.2⟩
end Go.Proofs.YtmampoakdjjbiaaGreatDoor
