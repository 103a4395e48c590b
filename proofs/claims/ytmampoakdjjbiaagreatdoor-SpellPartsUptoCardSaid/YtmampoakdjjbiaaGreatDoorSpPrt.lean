/- lathelaw05.SpellParts: the parts of a module; its walk. -/
import Derived.Test.YtmampoakdjjbiaaGreatDoorSpLv
import Derived.Test.YtmampoakdjjbiaaGreatDoorSpOp
namespace Go.Proofs.YtmampoakdjjbiaaGreatDoor
open Go.RowKit Go.Maps
set_option linter.unusedVariables false
set_option linter.unusedSimpArgs false

def partL (m : LMod) (k : Nat) : LMod := ⟨m.vp, m.vn, m.vc, m.vs, m.xp, m.xn, m.xc, m.xs, m.fp, k, m.fc, m.fs.take k⟩
theorem partL_D (m : LMod) (k : Nat) : modD (partL m k) = partM (modD m) k := by
  show PMod.mk m.vs (m.xs.map extD) ((m.fs.take k).map fnD) = PMod.mk m.vs (m.xs.map extD) ((m.fs.map fnD).take k)
  rw [List.map_take]
theorem row_take {α : Type} {B : Nat} {w : World} {p : Option Addr} {cel : α → List Value} {xs : List α} (k : Nat) (h : RowAt B w p (xs.flatMap cel)) : RowAt B w p ((xs.take k).flatMap cel) := by
  intro j u hu
  refine h j u ?_
  have e : xs.flatMap cel = (xs.take k).flatMap cel ++ (xs.drop k).flatMap cel := by
    conv => lhs; rw [← List.take_append_drop k xs, List.flatMap_append]
  rw [e, List.getElem?_append_left (List.getElem?_eq_some_iff.1 hu).1]
  exact hu
theorem partL_in {B : Nat} {w : World} {m : LMod} {k : Nat} (hk : k ≤ m.fn) (h : ModIn B w m) : ModIn B w (partL m k) := by
  obtain ⟨h1, h2, h3, h4, h5, h6, h7⟩ := h
  have hl : (m.fs.take k).length = k := by rw [List.length_take]; omega
  exact ⟨h1, h2, hl.symm, by show k ≤ m.fc; omega, h5, row_take k h6, fun x hx => h7 x (List.mem_of_mem_take hx)⟩
theorem sum_take {α : Type} (f : α → Nat) (l : List α) (k : Nat) : ((l.take k).map f).sum ≤ (l.map f).sum := by
  conv => rhs; rw [← List.take_append_drop k l, List.map_append, List.sum_append]
  omega
theorem MWf.part {m : LMod} (k : Nat) (h : MWf m) : MWf (partL m k) where
  vs := h.vs
  xs := h.xs
  fs := fun f hf => h.fs f (List.mem_of_mem_take hf)
  ns := fun f hf => h.ns f (List.mem_of_mem_take hf)
  z := by
    have h1 := h.z
    rw [partL_D]
    unfold modZ partM at *
    simp only at h1 ⊢
    have := sum_take fnZ (modD m).fs k
    omega
theorem NumOk.part {m : LMod} (k : Nat) (h : NumOk m) : NumOk (partL m k) where
  vs := h.vs
  is := fun f hf => h.is f (List.mem_of_mem_take hf)
theorem mkS_front (a b : Tx) : (mkS (a ++ b)).extract 0 (mkS a).size = mkS a ∧ (mkS a).size ≤ (mkS (a ++ b)).size := by
  have e : (mkS a).size = a.length := by show a.toArray.size = _; simp
  refine ⟨?_, ?_⟩
  · refine ByteArray.ext ?_
    rw [ByteArray.data_extract, e]
    show (a ++ b).toArray.extract 0 a.length = a.toArray
    simp
  · show a.toArray.size ≤ (a ++ b).toArray.size
    simp
theorem slice_front {t : TypeId} {e : TypeId} (ht : Tryz.prog.underlying t = some (.slice e)) {p : Option Addr} (hp : p = none ∨ ∃ g, p = some ⟨g, 0, none⟩) (n c k : Nat) (hk : k ≤ c) (s : Nat) (hs : ∀ w, (sizeOf e).run Tryz.prog w = .ok s w) (w : World) :
    (Instr.slice t (.slice p n c) none (some (.int .i64 (k : Int))) none).run Tryz.prog w = .ok (.slice p k c) w := by
  have hb : (Instr.sliceBounds true n c none (some (.int .i64 (k : Int))) none).run Tryz.prog w = .ok (0, k, c) w := by
    simp [Instr.sliceBounds, go_sem, hk]
  rcases hp with rfl | ⟨g, rfl⟩
  · simp [Instr.slice, run_underlying ht, hb, hs, go_sem]
    intro h
    omega
  · simp [Instr.slice, run_underlying ht, hb, hs, go_sem, Lib.add_plain]
    intro h
    omega
theorem own_front {T : TypeId} {E B : Nat} {w : World} {p : Option Addr} {n c : Nat} {xs : List Value} (h : w.ownsRow B T E (.slice p n c) n xs) : (p = none ∨ ∃ g, p = some ⟨g, 0, none⟩) := by
  rcases h.2 with ⟨h0, _⟩ | ⟨g, cap, cur, h0, _⟩
  · injection h0 with h0
    exact .inl h0
  · injection h0 with h0
    exact .inr ⟨g, h0⟩

/-- What stands of the argument, its part and the part's box. -/
def PX (W : World) (mv : List Value) (bm : Nat) (yv : List Value) (y : LMod) (w : World) : Prop := OneS W mv w ∧ Box bm yv w ∧ ModIn w.heap.size w y
theorem PX.later {W w w' : World} {mv yv : List Value} {bm : Nat} {y : LMod} (h : PX W mv bm yv y w) (hb : Below w.heap.size w w') : PX W mv bm yv y w' := ⟨h.1.later hb, h.2.1.later hb, lasts_Mod _ _ _ _ _ hb hb.size h.2.2⟩
set_option maxRecDepth 100000 in
set_option maxHeartbeats 8000000 in
theorem spellParts_walk (m : LMod) (W : World) (hO : Ops W) (hT : TabOk W) (hm : ModIn W.heap.size W m) (hw : MWf m) (hn : NumOk m) :
    Calls Tryz.prog 4 #[.agg (modC m).toArray] W fun e w' => e = .returned (.bool true) ∧ Below W.heap.size W w' := by
  have hS1 : OneS W (modC m) (W.alloc (.cells (modC m).toArray 26)) := ⟨Box.new W rfl _ _, (Below.refl _ _).alloc (Nat.le_refl _) _⟩
  have cl : ∀ w, OneS W (modC m) w → Calls Tryz.prog 5 #[] w fun e w' => e = .returned (.bool true) ∧ OneS W (modC m) w' := fun w h => (lives_any w (hO.later h.2) (hT.later h.2)).mono fun e w' ⟨he, hb⟩ => ⟨he, h.later hb⟩
  have cf : ∀ w, OneS W (modC m) w → Calls Tryz.prog 6 #[.agg (modC m).toArray, .int .i64 5000] w fun e w' => ∃ b : Bool, e = .returned (.bool b) ∧ OneS W (modC m) w' := fun w h => (Few_any m 5000 w (lasts_Mod _ _ _ _ _ h.2 h.2.size hm)).mono fun e w' ⟨b, he, hb⟩ => ⟨b, he, h.later hb⟩
  have cc : ∀ w, OneS W (modC m) w → Calls Tryz.prog 7 #[.agg (modC m).toArray] w fun e w' => ∃ y : LMod, e = .returned (.agg (modC y).toArray) ∧ modD y = modD m ∧ OneS W (modC m) w' ∧ ModIn w'.heap.size w' y ∧ (y.fp = none ∨ ∃ g, y.fp = some ⟨g, 0, none⟩) := fun w h => (rCopy_own m w (lasts_Mod _ _ _ _ _ h.2 h.2.size hm) hw.z).mono fun e w' ⟨y, he, hd, hp, ho⟩ => ⟨y, he, hd, h.later hp.2, ModOwn.lies (Nat.le_refl _) ho, by
    obtain ⟨_, _, _, _, h3⟩ := ho
    exact own_front h3.2.1⟩
  obtain ⟨q, eq⟩ : ∃ q, sayB wdB (modD m) = q := ⟨_, rfl⟩
  have cs : ∀ w, OneS W (modC m) w → Calls Tryz.prog 8 #[.agg (modC m).toArray] w fun e w' => e = .returned (.bool q) ∧ OneS W (modC m) w' := fun w h => by
    have := Sayable_any m w (hO.later h.2) (lasts_Mod _ _ _ _ _ h.2 h.2.size hm) hw
    rw [eq] at this
    exact this.mono fun e w' ⟨he, hb⟩ => ⟨he, h.later hb⟩
  obtain ⟨T, eT⟩ : ∃ T, mkS (modT (modD m)) = T := ⟨_, rfl⟩
  have ct : q = true → ∀ w, OneS W (modC m) w → Calls Tryz.prog 10 #[.agg (modC m).toArray] w fun e w' => e = .returned (.string T) ∧ OneS W (modC m) w' := fun hq w h => by
    have := Text_any m w (hO.later h.2) (hT.later h.2) (lasts_Mod _ _ _ _ _ h.2 h.2.size hm) hw hn
    rw [eq, if_pos hq, eT] at this
    exact this.mono fun e w' ⟨he, hb⟩ => ⟨he, h.later hb⟩
  obtain ⟨P, eP⟩ : ∃ P : Nat → Bool, (fun k => sayB wdB (partM (modD m) k)) = P := ⟨_, rfl⟩
  obtain ⟨U, eU⟩ : ∃ U : Nat → ByteArray, (fun k => mkS (modT (partM (modD m) k))) = U := ⟨_, rfl⟩
  have js : ∀ k y, modD y = modD m → ∀ w, OneS W (modC m) w ∧ ModIn w.heap.size w (partL y k) → Calls Tryz.prog 8 #[.agg (modC (partL y k)).toArray] w fun e w' => e = .returned (.bool (P k)) ∧ Below w.heap.size w w' := fun k y hd w h => by
    have := Sayable_any (partL y k) w (hO.later h.1.2) h.2 ((hw.same hd).part k)
    rw [partL_D, hd] at this
    rw [← eP]
    exact this
  have jt : ∀ k y, modD y = modD m → P k = true → ∀ w, OneS W (modC m) w ∧ ModIn w.heap.size w (partL y k) → Calls Tryz.prog 10 #[.agg (modC (partL y k)).toArray] w fun e w' => e = .returned (.string (U k)) ∧ Below w.heap.size w w' := fun k y hd hP w h => by
    have := Text_any (partL y k) w (hO.later h.1.2) (hT.later h.1.2) h.2 ((hw.same hd).part k) ((hn.same hd).part k)
    rw [partL_D, hd, if_pos (by rw [← eP] at hP; exact hP)] at this
    rw [← eU]
    exact this
  have ju : ∀ k, P k = true → T.extract 0 (U k).size = U k ∧ (U k).size ≤ T.size := fun k hP => by
    rw [← eP] at hP
    obtain ⟨r, hr⟩ := modT_part hP
    rw [← eU, ← eT, hr]
    exact mkS_front _ _
  have hfn : m.fn ≤ 9223372036854775807 := by have h1 := hm.2.2.2.1; have h2 := hm.2.2.2.2.1; unfold maxLen at h2; omega
  have hyn : ∀ (w : World) y, modD y = modD m → ModIn w.heap.size w y → y.fn = m.fn := fun w y hd h => by
    have h1 := h.2.2.1
    have h2 := hm.2.2.1
    have h3 := congrArg List.length (modD_fs hd)
    simp only [List.length_map] at h3
    omega
  have hz : T.size ≤ 9223372036854775807 ∨ True := .inr trivial
  have HK := Lib.hid (And.intro ct (And.intro js (And.intro jt (And.intro ju hyn))))
  clear ct js jt ju hyn hO hT hm hw hn eq eT eP eU hz
  obtain ⟨D, eD⟩ : ∃ D, modD m = D := ⟨_, rfl⟩
  simp only [eD] at HK cc
  clear eD
  obtain ⟨vp, vn, vc, vs, xp, xn, xc, xs, fp, fn, fc, fs⟩ := m
  obtain ⟨mv, emv⟩ : ∃ mv : List Value, [Value.slice vp vn vc, .slice xp xn xc, .slice fp fn fc] = mv := ⟨_, rfl⟩
  have HS := Lib.hid (show OneS W mv (W.alloc (.cells #[.slice vp vn vc, .slice xp xn xc, .slice fp fn fc] 26)) from emv ▸ hS1)
  have G : ∀ w, OneS W mv w → w.cell? ⟨W.heap.size, 0, none⟩ = some (.slice vp vn vc) ∧ w.cell? ⟨W.heap.size, 1, none⟩ = some (.slice xp xn xc) ∧ w.cell? ⟨W.heap.size, 2, none⟩ = some (.slice fp fn fc) := fun w h => by
    rw [← emv] at h
    exact ⟨h.1.get 0 _ rfl, h.1.get 1 _ rfl, h.1.get 2 _ rfl⟩
  have hfn : fn ≤ 9223372036854775807 := hfn
  have cl : ∀ w, OneS W mv w → Calls Tryz.prog 5 #[] w fun e w' => e = .returned (.bool true) ∧ OneS W mv w' := by subst emv; exact cl
  have cf : ∀ w, OneS W mv w → Calls Tryz.prog 6 #[.agg #[.slice vp vn vc, .slice xp xn xc, .slice fp fn fc], .int .i64 5000] w fun e w' => ∃ b : Bool, e = .returned (.bool b) ∧ OneS W mv w' := by subst emv; exact cf
  have cs : ∀ w, OneS W mv w → Calls Tryz.prog 8 #[.agg #[.slice vp vn vc, .slice xp xn xc, .slice fp fn fc]] w fun e w' => e = .returned (.bool q) ∧ OneS W mv w' := by subst emv; exact cs
  have cc : ∀ w, OneS W mv w → Calls Tryz.prog 7 #[.agg #[.slice vp vn vc, .slice xp xn xc, .slice fp fn fc]] w fun e w' => ∃ y : LMod, e = .returned (.agg (modC y).toArray) ∧ modD y = D ∧ OneS W mv w' ∧ ModIn w'.heap.size w' y ∧ (y.fp = none ∨ ∃ g, y.fp = some ⟨g, 0, none⟩) := by subst emv; exact cc
  have ct : q = true → ∀ w, OneS W mv w → Calls Tryz.prog 10 #[.agg #[.slice vp vn vc, .slice xp xn xc, .slice fp fn fc]] w fun e w' => e = .returned (.string T) ∧ OneS W mv w' := by subst emv; exact HK.out.1
  have js : ∀ k y, modD y = D → ∀ w, OneS W mv w ∧ ModIn w.heap.size w (partL y k) → Calls Tryz.prog 8 #[.agg (modC (partL y k)).toArray] w fun e w' => e = .returned (.bool (P k)) ∧ Below w.heap.size w w' := by subst emv; exact HK.out.2.1
  have jt : ∀ k y, modD y = D → P k = true → ∀ w, OneS W mv w ∧ ModIn w.heap.size w (partL y k) → Calls Tryz.prog 10 #[.agg (modC (partL y k)).toArray] w fun e w' => e = .returned (.string (U k)) ∧ Below w.heap.size w w' := by subst emv; exact HK.out.2.2.1
  have ju : ∀ k, P k = true → T.extract 0 (U k).size = U k ∧ (U k).size ≤ T.size := HK.out.2.2.2.1
  have hyn : ∀ (w : World) y, modD y = D → ModIn w.heap.size w y → y.fn = fn := HK.out.2.2.2.2
  have HC := Lib.hid (And.intro cl (And.intro cf (And.intro cs (And.intro cc (And.intro ct (And.intro js (And.intro jt (And.intro ju (And.intro hyn G)))))))))
  show Calls Tryz.prog 4 #[.agg #[.slice vp vn vc, .slice xp xn xc, .slice fp fn fc]] W _
  clear cl cf cs cc ct js jt ju hyn G hS1 emv HK
  have c := HC.out.1 _ HS.out
  go_enter Tryz.func4, Tryz.ntmps4
  go_wp2_with fail
  refine c.mono ?_
  rintro e w1 ⟨rfl, hS⟩
  replace HS := Lib.hid hS
  obtain ⟨x0, x1, x2⟩ := HC.out.2.2.2.2.2.2.2.2.2 _ hS
  have c := HC.out.2.1 _ hS
  clear hS
  go_wp2_with fail
  refine c.mono ?_
  rintro e w2 ⟨few, rfl, hS⟩
  replace HS := Lib.hid hS
  clear x0 x1 x2 c
  obtain ⟨x0, x1, x2⟩ := HC.out.2.2.2.2.2.2.2.2.2 _ hS
  have c := HC.out.2.2.1 _ hS
  clear hS
  cases few
  case false =>
    go_wp2_with fail
    go_ret
    exact ⟨rfl, HS.out.2⟩
  go_wp2_with fail
  refine c.mono ?_
  rintro e w3 ⟨rfl, hS⟩
  replace HS := Lib.hid hS
  clear x0 x1 x2 c
  obtain ⟨x0, x1, x2⟩ := HC.out.2.2.2.2.2.2.2.2.2 _ hS
  have c5 := HC.out.2.2.2.2.1
  clear hS
  cases q
  case false =>
    go_wp2_with fail
    go_ret
    exact ⟨rfl, HS.out.2⟩
  have c := c5 (by first | rfl | trivial) _ HS.out
  clear c5
  go_wp2_with fail
  refine c.mono ?_
  rintro e w4 ⟨rfl, hS⟩
  replace HS := Lib.hid hS
  clear x0 x1 x2 c
  obtain ⟨x0, x1, x2⟩ := HC.out.2.2.2.2.2.2.2.2.2 _ hS
  clear hS
  go_wp2_with fail
  clear x0 x1 x2
  go_loopw [4] (fun ti wr => ∃ z : Int, -1 ≤ z ∧ z ≤ fn ∧ ti = .int .i64 z ∧ Hid (OneS W mv wr)) (fun ti _ => (intOf ti + 1).toNat)
  case atStart => exact ⟨fn, by omega, Int.le_refl _, rfl, HS⟩
  case round =>
    obtain ⟨z, hz0, hz1, rfl, hS⟩ := hrel
    generalize wr = wo at *
    by_cases hlt : 0 ≤ z
    · obtain ⟨x0, x1, x2⟩ := HC.out.2.2.2.2.2.2.2.2.2 _ hS.out
      have c := HC.out.2.2.2.1 _ hS.out
      go_wp2_with fail
      refine c.mono ?_
      rintro e w5 ⟨y, rfl, hd, hS5, hin, hfp⟩
      have hyn := HC.out.2.2.2.2.2.2.2.2.1 _ y hd hin
      obtain ⟨k, rfl⟩ : ∃ k : Nat, z = (k : Int) := ⟨z.toNat, by omega⟩
      have js := HC.out.2.2.2.2.2.1 k y hd
      have jt := HC.out.2.2.2.2.2.2.1 k y hd
      have ju := HC.out.2.2.2.2.2.2.2.1 k
      have hky : k ≤ y.fn := by omega
      have hyc : y.fn ≤ y.fc := hin.2.2.2.1
      have hsl : ∀ w, (Instr.slice 24 (.slice y.fp y.fn y.fc) none (some (.int .i64 (k : Int))) none).run Tryz.prog w = .ok (.slice y.fp k y.fc) w := slice_front Tryz.underlying24 hfp _ _ _ (Nat.le_trans hky hyc) 4 (fun w => by simp [go_sem, cellsFunc])
      have hin2 : ∀ B w, ModIn B w y → ModIn B w (partL y k) := fun B w h => partL_in hky h
      have hal : Below w5.heap.size w5 (w5.alloc (.cells (modC y).toArray 26)) := (Below.refl _ _).alloc (Nat.le_refl _) _
      have h6 : OneS W mv (w5.alloc (.cells (modC y).toArray 26)) ∧ Box w5.heap.size (modC y) (w5.alloc (.cells (modC y).toArray 26)) ∧ ModIn w5.heap.size (w5.alloc (.cells (modC y).toArray 26)) y := ⟨hS5.later hal, Box.new w5 rfl _ _, lasts_Mod _ _ _ _ _ hal (Nat.le_refl _) hin⟩
      obtain ⟨yl, eyl⟩ : ∃ yl, partL y k = yl := ⟨_, rfl⟩
      have hyl : modC yl = [.slice y.vp y.vn y.vc, .slice y.xp y.xn y.xc, .slice y.fp k y.fc] := by rw [← eyl]; rfl
      rw [eyl] at js jt hin2
      clear eyl
      rw [hyl] at js jt
      obtain ⟨yvp, yvn, yvc, yvs, yxp, yxn, yxc, yxs, yfp, yfn, yfc, yfs⟩ := y
      obtain ⟨y, ey⟩ : ∃ y : LMod, (⟨yvp, yvn, yvc, yvs, yxp, yxn, yxc, yxs, yfp, yfn, yfc, yfs⟩ : LMod) = y := ⟨_, rfl⟩
      have h6 : OneS W mv (w5.alloc (.cells #[.slice yvp yvn yvc, .slice yxp yxn yxc, .slice yfp yfn yfc] 26)) ∧ Box w5.heap.size [.slice yvp yvn yvc, .slice yxp yxn yxc, .slice yfp yfn yfc] (w5.alloc (.cells #[.slice yvp yvn yvc, .slice yxp yxn yxc, .slice yfp yfn yfc] 26)) ∧ ModIn w5.heap.size (w5.alloc (.cells #[.slice yvp yvn yvc, .slice yxp yxn yxc, .slice yfp yfn yfc] 26)) y := by subst ey; exact h6
      rw [show (modC (⟨yvp, yvn, yvc, yvs, yxp, yxn, yxc, yxs, yfp, yfn, yfc, yfs⟩ : LMod)).toArray = #[.slice yvp yvn yvc, .slice yxp yxn yxc, .slice yfp yfn yfc] from rfl]
      rw [ey] at hin2
      have hsl : ∀ w, (Instr.slice 24 (.slice yfp yfn yfc) none (some (.int .i64 (k : Int))) none).run Tryz.prog w = .ok (.slice yfp k yfc) w := hsl
      have js : ∀ w, OneS W mv w ∧ ModIn w.heap.size w yl → Calls Tryz.prog 8 #[.agg #[.slice yvp yvn yvc, .slice yxp yxn yxc, .slice yfp k yfc]] w fun e w' => e = .returned (.bool (P k)) ∧ Below w.heap.size w w' := js
      have jt : P k = true → ∀ w, OneS W mv w ∧ ModIn w.heap.size w yl → Calls Tryz.prog 10 #[.agg #[.slice yvp yvn yvc, .slice yxp yxn yxc, .slice yfp k yfc]] w fun e w' => e = .returned (.string (U k)) ∧ Below w.heap.size w w' := jt
      have HJ := Lib.hid (And.intro js (And.intro jt (And.intro ju hin2)))
      have H6 := Lib.hid h6
      have HS5 := Lib.hid hS5
      clear js jt ju hin2 h6 hal hS5 hin hd hfp hyn hky hyc ey hyl hS x0 x1 x2 c
      go_upto_region 10 with fail
      obtain ⟨w6, e6⟩ : ∃ w6, (w5.alloc (.cells #[.slice yvp yvn yvc, .slice yxp yxn yxc, .slice yfp yfn yfc] 26)) = w6 := ⟨_, rfl⟩
      have hbW : W.heap.size ≤ w5.heap.size ∧ W.heap.size ≠ w5.heap.size := by
        have h1 := H6.out.1.1.1
        have h2 := H6.out.2.1.1
        have h3 := HS5.out.1.1
        omega
      rw [e6] at H6 ⊢
      clear e6
      obtain ⟨bm, eb⟩ : ∃ b, w5.heap.size = b := ⟨_, rfl⟩
      rw [eb] at H6 hbW ⊢
      clear eb
      have H7 : Hid (PX W mv bm [.slice yvp yvn yvc, .slice yxp yxn yxc, .slice yfp k yfc] yl (w6.setCell ⟨bm, 2, none⟩ (.slice yfp k yfc))) := by
        have h0 : Below bm w6 (w6.setCell ⟨bm, 2, none⟩ (.slice yfp k yfc)) := (Below.refl bm w6).setCell (p := ⟨bm, 2, none⟩) (Nat.le_refl bm) _
        exact Lib.hid ⟨⟨H6.out.1.1.other (Ne.symm hbW.2) 2 _, H6.out.1.2.setCell hbW.1 _⟩, H6.out.2.1.set 2 _, lasts_Mod _ _ _ _ _ h0 (Nat.le_trans (Nat.le_of_lt H6.out.2.1.1) h0.size) (HJ.out.2.2.2 _ _ H6.out.2.2)⟩
      have b0 := H6.out.2.1.get 0 _ rfl
      have b1 := H6.out.2.1.get 1 _ rfl
      have b2 := H6.out.2.1.get 2 _ rfl
      have bz := H6.out.2.1.2.1 2
      go_upto_region 11 with fail
      obtain ⟨w7, e7⟩ : ∃ w7, (w6.setCell ⟨bm, 2, none⟩ (.slice yfp k yfc)) = w7 := ⟨_, rfl⟩
      rw [e7] at H7 ⊢
      clear e7 b0 b1 b2 bz H6 hsl HS5 hbW
      have b0 := H7.out.2.1.get 0 _ rfl
      have b1 := H7.out.2.1.get 1 _ rfl
      have b2 := H7.out.2.1.get 2 _ rfl
      have c := HJ.out.1 _ ⟨H7.out.1, H7.out.2.2⟩
      have jt := HJ.out.2.1
      have ju := HJ.out.2.2.1
      obtain ⟨pk, ep⟩ : ∃ b, P k = b := ⟨_, rfl⟩
      rw [ep] at c jt ju
      clear ep
      go_wp2_with fail
      refine c.mono ?_
      rintro e w8 ⟨rfl, hb⟩
      have H8 := Lib.hid (H7.out.later hb)
      clear b0 b1 b2 c hb H7
      have b0 := H8.out.2.1.get 0 _ rfl
      have b1 := H8.out.2.1.get 1 _ rfl
      have b2 := H8.out.2.1.get 2 _ rfl
      cases pk
      case false =>
        clear jt ju
        go_wp2_with fail
        go_ret
        exact ⟨rfl, H8.out.1.2⟩
      have c := jt (by first | rfl | trivial) _ ⟨H8.out.1, H8.out.2.2⟩
      obtain ⟨hx, hsz⟩ := ju (by first | rfl | trivial)
      clear jt ju
      obtain ⟨S, eS⟩ : ∃ s, U k = s := ⟨_, rfl⟩
      rw [eS] at c hx hsz
      clear eS
      have HX := Lib.hid hx
      clear hx
      go_wp2_with fail
      refine c.mono ?_
      rintro e w9 ⟨rfl, hb⟩
      have H9 := Lib.hid (H8.out.later hb)
      clear b0 b1 b2 c hb H8
      go_upto_region 14 with fail
      have hx := HX.out
      have hs2 : ¬ (T.size < S.size) := by omega
      go_wp2_with fail
      refine ⟨⟨(k : Int) - 1, by omega, by omega, rfl, Lib.hid H9.out.1⟩, ?_⟩
      simp [intOf]
    · go_wp2_with fail
      go_ret
      exact ⟨rfl, hS.out.2⟩
end Go.Proofs.YtmampoakdjjbiaaGreatDoor
