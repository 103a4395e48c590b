/- The parts of a line behind the operation's word: phis. -/
import Derived.Test.YtmampoakdjjbiaaGreatDoorSpKg
namespace Go.Proofs.YtmampoakdjjbiaaGreatDoor
open Go.RowKit Go.Maps
set_option linter.unusedVariables false
set_option linter.unusedSimpArgs false

def altL (P A : List ByteArray) (i : Nat) : List ByteArray := P.take i ++ A.drop i
theorem altL_zero (P A : List ByteArray) : altL P A 0 = A := by simp [altL]
theorem altL_all {P A : List ByteArray} {n : Nat} (h1 : P.length = n) (h2 : A.length = n) : altL P A n = P := by
  unfold altL
  rw [List.take_of_length_le (by omega), List.drop_of_length_le (by omega), List.append_nil]
theorem altL_len {P A : List ByteArray} {n i : Nat} (h1 : P.length = n) (h2 : A.length = n) (hi : i ≤ n) : (altL P A i).length = n := by
  unfold altL
  simp
  omega
theorem altL_get {P A : List ByteArray} {n i : Nat} (h1 : P.length = n) (h2 : A.length = n) (hi : i < n) : (altL P A i)[i]? = A[i]? := by
  unfold altL
  rw [List.getElem?_append_right (by simp; omega), List.length_take, Nat.min_eq_left (by omega), List.getElem?_drop]
  congr 1
  omega
theorem altL_set {P A : List ByteArray} {n i : Nat} (h1 : P.length = n) (h2 : A.length = n) (hi : i < n) (s : ByteArray) (hs : P[i]? = some s) : (altL P A i).set i s = altL P A (i + 1) := by
  unfold altL
  rw [List.set_append_right _ _ (by simp; omega), List.length_take, Nat.min_eq_left (by omega), Nat.sub_self, List.drop_eq_getElem_cons (by omega), List.set_cons_zero]
  have e : P[i]'(by omega) = s := by
    rw [List.getElem?_eq_getElem (by omega)] at hs
    injection hs
  rw [List.take_succ_eq_append_getElem (by omega), e, List.append_assoc]
  rfl
theorem OS.set {W : World} {B g n c : Nat} {xs : List ByteArray} (h : OS W B (.slice (some ⟨g, 0, none⟩) n c) xs) {i : Nat} (hi : i < xs.length) (s : ByteArray) : OS (W.setCell ⟨g, i, none⟩ (.string s)) B (.slice (some ⟨g, 0, none⟩) n c) (xs.set i s) := by
  obtain ⟨h1, h2⟩ := h
  rcases h2 with ⟨hv, _⟩ | ⟨g', cap, cur, hv, hb, hg, hn, hm, hs, ht⟩
  · cases hv
  · injection hv with e1 e2 e3
    injection e1 with e1
    injection e1 with e1 _ _
    subst e1 e2 e3
    refine ⟨by simp, .inr ⟨g, c, cur.setIfInBounds i (.string s), by simp, hb, ?_, by simpa using hn, hm, by simpa using hs, ?_⟩⟩
    · rw [Lib.heap_setCell_same (i := i) hg]
    · rw [List.length_set, Array.toList_setIfInBounds, List.take_set, ht, List.map_set]
theorem OS.other {W : World} {B g : Nat} {v : Value} {xs : List ByteArray} (h : OS W B v xs) (hne : v.ownBlock ≠ some g) (i : Nat) (u : Value) : OS (W.setCell ⟨g, i, none⟩ u) B v xs :=
  World.ownsRow.kept (row := some g) h ⟨rfl, rfl, rfl, by simp [World.setCell], fun k _ hk => Below.heap_setCell _ _ _ _ (fun e => hk (by simp [e]))⟩ (Or.inr hne)
theorem OS.frozen {W : World} {B g n c : Nat} {xs : List ByteArray} (h : OS W B (.slice (some ⟨g, 0, none⟩) n c) xs) (i : Nat) : W.frozen? ⟨g, i, none⟩ = false := by
  rcases h.2 with ⟨hv, _⟩ | ⟨g', cap, cur, hv, hb, hg, _⟩
  · cases hv
  · injection hv with e1 _ _
    injection e1 with e1
    injection e1 with e1 _ _
    subst e1
    exact Lib.frozen_of_heap hg _
theorem OS.cell {W : World} {B g n c : Nat} {xs : List ByteArray} (h : OS W B (.slice (some ⟨g, 0, none⟩) n c) xs) (i : Nat) (s : ByteArray) (hs : xs[i]? = some s) : W.cell? ⟨g, i, none⟩ = some (.string s) := by
  have := h.cells (g := g) rfl i (.string s) (by rw [List.getElem?_map, hs]; rfl)
  rw [Lib.add_plain, Nat.zero_add] at this
  exact this
theorem OS.some {W : World} {B : Nat} {v : Value} {xs : List ByteArray} (h : OS W B v xs) (hx : 0 < xs.length) : ∃ g c, v = .slice (some ⟨g, 0, none⟩) xs.length c ∧ B ≤ g ∧ g < W.heap.size ∧ xs.length ≤ c ∧ c ≤ 9223372036854775807 := by
  rcases h.2 with ⟨rfl, h1⟩ | ⟨g, cap, cur, rfl, hb, hg, hn, hm, _⟩
  · omega
  · unfold maxLen at hm
    exact ⟨g, cap, rfl, hb, heap_lt hg, hn, by omega⟩
set_option maxRecDepth 100000 in
set_option maxHeartbeats 8000000 in
theorem fm_25 (b : Nat) (rg ty nn fl : Int) (ap tp : Option Addr) (al tl ac tc : Nat) (A B : List ByteArray) (W : World) (cA : ∀ w, Below W.heap.size W w → Calls Tryz.prog 122 #[.slice ap al ac, .func (.func 123) #[.pointer (some ⟨b, 0, none⟩)] #[]] w (OwnS A w))
    (cB : ∀ w, Below W.heap.size W w → Calls Tryz.prog 78 #[.slice tp tl tc, .func (.func 79) #[] #[]] w (OwnS B w))
    (P : List ByteArray) (n : Nat) (hA : A.length = n) (hB : B.length = n) (hP : P.length = n) (hn : n ≤ 1048576)
    (cY : ∀ (i : Nat) (x y : ByteArray), B[i]? = some x → A[i]? = some y → ∃ s, P[i]? = some s ∧ ∀ w v, SL w v [x, y] → Calls Tryz.prog 74 #[v] w (StrV s w))
    (T : Int → ByteArray) (cT : ∀ t w, Below W.heap.size W w → Calls Tryz.prog 12 #[.int .i64 t] w (StrV (T t) w))
    (L : ByteArray) (cL : ∀ v w, SL w v P → Calls Tryz.prog 77 #[v] w (StrV L w))
    (F : ByteArray) (cF : ∀ w, Calls Tryz.prog 126 #[.int .i64 fl] w (StrV F w)) :
    Calls Tryz.prog 105 #[.pointer (some ⟨b, 0, none⟩), .agg #[.int .i64 25, .int .i64 rg, .int .i64 ty, .int .i64 nn, .int .i64 fl, .slice ap al ac, .slice tp tl tc]] W (OwnS ([F, T ty, L]) W) := by
  have HS0 : Hid (OneS W [.int .i64 25, .int .i64 rg, .int .i64 ty, .int .i64 nn, .int .i64 fl, .slice ap al ac, .slice tp tl tc] (W.alloc (.cells #[.int .i64 25, .int .i64 rg, .int .i64 ty, .int .i64 nn, .int .i64 fl, .slice ap al ac, .slice tp tl tc] 39))) := Lib.hid ⟨Box.new W rfl _ _, (Below.refl _ _).alloc (Nat.le_refl _) _⟩
  have HAB := Lib.hid (And.intro cA cB)
  clear cA cB
  have HL := Lib.hid (And.intro cT (And.intro cL (And.intro cF cY)))
  have HN := Lib.hid (And.intro hA (And.intro hB hP))
  clear cT cL cF cY hA hB hP
  go_enter Tryz.func105, Tryz.ntmps105
  go_upto_region 1 with fail
  obtain ⟨w1, ew1⟩ : ∃ w1, (W.alloc (.cells #[.int .i64 25, .int .i64 rg, .int .i64 ty, .int .i64 nn, .int .i64 fl, .slice ap al ac, .slice tp tl tc] 39)) = w1 := ⟨_, rfl⟩
  rw [ew1] at HS0 ⊢
  clear ew1
  go_cut [5, 6] (fun ta tb wx => OS wx (W.heap.size + 1) ta A ∧ OS wx W.heap.size tb B ∧ (∀ k, ta.ownBlock = some k → tb.ownBlock ≠ some k) ∧ OneS W [.int .i64 25, .int .i64 rg, .int .i64 ty, .int .i64 nn, .int .i64 fl, .slice ap al ac, .slice tp tl tc] wx)
  case first =>
    have HSS : ∀ w, OneS W [.int .i64 25, .int .i64 rg, .int .i64 ty, .int .i64 nn, .int .i64 fl, .slice ap al ac, .slice tp tl tc] w → (w.cell? ⟨W.heap.size, 5, none⟩ = some (.slice ap al ac) ∧ w.cell? ⟨W.heap.size, 6, none⟩ = some (.slice tp tl tc)) := fun w h => ⟨h.1.get 5 _ rfl, h.1.get 6 _ rfl⟩
    obtain ⟨y0_, y1_⟩ := HSS w1 HS0.out
    have kh : OneS W [.int .i64 25, .int .i64 rg, .int .i64 ty, .int .i64 nn, .int .i64 fl, .slice ap al ac, .slice tp tl tc] w1 := HS0.out
    have cO1 : ∀ w, ((w.cell? ⟨W.heap.size, 5, none⟩ = some (.slice ap al ac) ∧ w.cell? ⟨W.heap.size, 6, none⟩ = some (.slice tp tl tc)) ∧ OneS W [.int .i64 25, .int .i64 rg, .int .i64 ty, .int .i64 nn, .int .i64 fl, .slice ap al ac, .slice tp tl tc] w) → Calls Tryz.prog 122 #[.slice ap al ac, .func (.func 123) #[.pointer (some ⟨b, 0, none⟩)] #[]] w fun e w' => ∃ v, e = .returned v ∧ w'.cell? ⟨W.heap.size, 5, none⟩ = some (.slice ap al ac) ∧ w'.cell? ⟨W.heap.size, 6, none⟩ = some (.slice tp tl tc) ∧ OneS W [.int .i64 25, .int .i64 rg, .int .i64 ty, .int .i64 nn, .int .i64 fl, .slice ap al ac, .slice tp tl tc] w' ∧ OS w' (W.heap.size + 1) v A := by
      rintro w ⟨k, kh⟩
      refine (HAB.out.1 w kh.2).mono ?_
      rintro e w' ⟨v, he, hO, hb⟩
      have h2 := kh.later hb
      obtain ⟨s0, s1⟩ := HSS w' h2
      exact ⟨v, he, s0, s1, h2, hO.mono kh.1.1⟩
    have cO2 : ∀ w, ((w.cell? ⟨W.heap.size, 5, none⟩ = some (.slice ap al ac) ∧ w.cell? ⟨W.heap.size, 6, none⟩ = some (.slice tp tl tc)) ∧ OneS W [.int .i64 25, .int .i64 rg, .int .i64 ty, .int .i64 nn, .int .i64 fl, .slice ap al ac, .slice tp tl tc] w) → Calls Tryz.prog 78 #[.slice tp tl tc, .func (.func 79) #[] #[]] w fun e w' => ∃ v, e = .returned v ∧ w'.cell? ⟨W.heap.size, 5, none⟩ = some (.slice ap al ac) ∧ w'.cell? ⟨W.heap.size, 6, none⟩ = some (.slice tp tl tc) ∧ OneS W [.int .i64 25, .int .i64 rg, .int .i64 ty, .int .i64 nn, .int .i64 fl, .slice ap al ac, .slice tp tl tc] w' ∧ OS w' W.heap.size v B ∧ Below w.heap.size w w' ∧ (∀ k, v.ownBlock = some k → w.heap.size ≤ k) := by
      rintro w ⟨k, kh⟩
      refine (HAB.out.2 w kh.2).mono ?_
      rintro e w' ⟨v, he, hO, hb⟩
      have h2 := kh.later hb
      obtain ⟨s0, s1⟩ := HSS w' h2
      exact ⟨v, he, s0, s1, h2, hO.mono kh.2.size, hb, fun k hk => (hO.lt k hk).1⟩
    clear HSS
    go_region_held3 (fun w' => w'.cell? ⟨W.heap.size, 5, none⟩ = some (.slice ap al ac) ∧ w'.cell? ⟨W.heap.size, 6, none⟩ = some (.slice tp tl tc))
      (((try dsimp only); (repeat' apply And.intro) <;> (first | (with_reducible assumption) | (rw [World.cell?_drew]; with_reducible assumption) | (refine (cell_alloc_lt ?_).trans ?_ <;> with_reducible assumption) | (simp <;> omega))))
      (first
        | ((with_reducible refine' (cO1 _ ?pre).mono ?_)
           case pre => (refine ⟨⟨?_, ?_⟩, ?_⟩ <;> (first | (with_reducible assumption) | (rw [World.cell?_drew]; with_reducible assumption) | (with_reducible apply OneS.drew; with_reducible assumption) | (simp <;> omega) | omega))
           rintro e wsA ⟨vA, rfl, a0_, a1_, sahA, hOA⟩)
        | ((with_reducible refine' (cO2 _ ?pre).mono ?_)
           case pre => (refine ⟨⟨?_, ?_⟩, ?_⟩ <;> (first | (with_reducible assumption) | (rw [World.cell?_drew]; with_reducible assumption) | (with_reducible apply OneS.drew; with_reducible assumption) | (simp <;> omega) | omega))
           rintro e wsB ⟨vB, rfl, b0_, b1_, sahB, hOB, hBB, hGE⟩))
    all_goals
      have hDJ : ∀ k, vA.ownBlock = some k → vB.ownBlock ≠ some k := fun k h1 h2 => by
        have e1 := (hOA.lt k h1).2
        have e2 := hGE k h2
        exact Nat.lt_irrefl _ (Nat.lt_of_lt_of_le e1 e2)
      have HFIN := Lib.hid (And.intro (OS.later hOA hBB) (And.intro hOB (And.intro hDJ sahB)))
      clear hOA hOB sahA sahB hBB hGE hDJ a0_ a1_ b0_ b1_
      go_wp2_with fail
      go_meet
      exact ⟨HFIN.out.1, HFIN.out.2.1, HFIN.out.2.2.1, HFIN.out.2.2.2⟩
  case rest =>
  obtain ⟨hOA, hOB, hDJ, hS⟩ := hcut
  have HDJ := Lib.hid hDJ
  clear hDJ
  have HS := Lib.hid (And.intro hOA (And.intro hOB hS))
  generalize wc = wx at *
  clear hOA hOB hS HS0 HAB
  have z0 := HS.out.2.2.1.get 0 _ rfl
  obtain ⟨pa, ca, eva⟩ := HS.out.1.sl.slice
  obtain ⟨pb, cb, evb⟩ := HS.out.2.1.sl.slice
  subst eva evb
  rw [HN.out.1, HN.out.2.1] at HS
  rw [HN.out.1, HN.out.2.1] at HDJ
  rw [HN.out.1, HN.out.2.1]
  go_wp2_with fail
  clear z0
  go_loopw [35] (fun ti wr => ∃ i : Nat, i ≤ n ∧ ti = .int .i64 i ∧ Hid (OS wr (W.heap.size + 1) (.slice pa n ca) (altL P A i) ∧ OS wr W.heap.size (.slice pb n cb) B ∧ OneS W [.int .i64 25, .int .i64 rg, .int .i64 ty, .int .i64 nn, .int .i64 fl, .slice ap al ac, .slice tp tl tc] wr)) (fun ti _ => n - (intOf ti).toNat)
  case atStart => exact ⟨0, Nat.zero_le _, rfl, Lib.hid ⟨by rw [altL_zero]; exact HS.out.1, HS.out.2.1, HS.out.2.2⟩⟩
  case round =>
    obtain ⟨i, hi, rfl, hS⟩ := hrel
    generalize wr = wo at *
    have HO := Lib.hid hS.out
    clear hS HS
    by_cases hlt : i < n
    · have hal : (altL P A i).length = n := altL_len HN.out.2.2 HN.out.1 hi
      obtain ⟨ga, ca', eva, hga, hgal, hca1, hca2⟩ := HO.out.1.some (by omega)
      obtain ⟨gb, cb', evb, hgb, hgbl, hcb1, hcb2⟩ := HO.out.2.1.some (by have := HN.out.2.1; omega)
      rw [hal] at eva hca1
      rw [HN.out.2.1] at evb hcb1
      injection eva with eva _ ec
      injection evb with evb _ ed
      subst eva evb ec ed
      have hne : ga ≠ gb := fun e => HDJ.out ga rfl (by rw [e]; rfl)
      obtain ⟨x, hx⟩ : ∃ x, B[i]? = some x := ⟨_, List.getElem?_eq_getElem (by have := HN.out.2.1; omega)⟩
      obtain ⟨y, hy⟩ : ∃ y, A[i]? = some y := ⟨_, List.getElem?_eq_getElem (by have := HN.out.1; omega)⟩
      obtain ⟨s, hs, cY⟩ := HL.out.2.2.2 i x y hx hy
      have c0 := HO.out.2.1.cell i x hx
      have c1 := HO.out.1.cell i y (by rw [altL_get HN.out.2.2 HN.out.1 hlt]; exact hy)
      have hset := altL_set HN.out.2.2 HN.out.1 hlt s hs
      have hget := altL_get HN.out.2.2 HN.out.1 hlt
      rw [hy] at hget
      have hlit : SL (wo.alloc (.cells #[.string x, .string y] 9)) (.slice (some ⟨wo.heap.size, 0, none⟩) 2 2) [x, y] := (OS.lit wo (Nat.le_refl _) [x, y] _ rfl 2 rfl (by decide)).sl
      have hlitd : SL (wo.alloc (.cells #[.string x, .string y] 9)).drew (.slice (some ⟨wo.heap.size, 0, none⟩) 2 2) [x, y] := hlit
      have hlitd2 : SL (wo.drew.alloc (.cells #[.string x, .string y] 9)) (.slice (some ⟨wo.heap.size, 0, none⟩) 2 2) [x, y] := hlit
      have hab0 : Below wo.heap.size wo (wo.alloc (.cells #[.string x, .string y] 9)) := (Below.refl _ _).alloc (Nat.le_refl _) _
      have hall : ∀ w5, Below (wo.alloc (.cells #[.string x, .string y] 9)).heap.size (wo.alloc (.cells #[.string x, .string y] 9)) w5 → Hid (Below wo.heap.size wo w5) := fun w5 hb => Lib.hid (hab0.trans (hb.mono hab0.size))
      have halld : ∀ w5, Below (wo.alloc (.cells #[.string x, .string y] 9)).drew.heap.size (wo.alloc (.cells #[.string x, .string y] 9)).drew w5 → Hid (Below wo.heap.size wo w5) := fun w5 hb => Lib.hid ((below_drew hab0).trans (hb.mono hab0.size))
      have hfact : ∀ w5, Hid (Below wo.heap.size wo w5) → w5.cell? ⟨ga, i, none⟩ = some (.string y) ∧ w5.frozen? ⟨ga, i, none⟩ = false := fun w5 hb => by
        have h := OS.later HO.out.1 hb.out
        exact ⟨h.cell i y hget, h.frozen i⟩
      have HF := Lib.hid (And.intro hall (And.intro halld (And.intro hfact (And.intro hset hal))))
      clear hall halld hfact hset hget hab0 hs hx hy hal
      have hiI : (i : Int) < (n : Int) := by omega
      have hic : i ≤ 9223372036854775807 := by omega
      go_upto_region 11 with fail
      go_region_law (first
        | (go_simp
           (with_reducible refine (cY _ _ ?pre).mono ?_)
           case pre => (first | exact hlit | exact hlitd | exact hlitd2)
           rintro ee w5 ⟨rfl, hb5⟩
           have hB5 : Hid (Below wo.heap.size wo w5) := by first | exact HF.out.1 _ hb5 | exact HF.out.2.1 _ hb5
           obtain ⟨q0, q1⟩ := HF.out.2.2.1 _ hB5
           clear hb5))
      all_goals
        have hO1 := (OS.later HO.out.1 hB5.out).set (by rw [HF.out.2.2.2.2]; exact hlt) s
        rw [HF.out.2.2.2.1] at hO1
        have hO2 := (OS.later HO.out.2.1 hB5.out).other (g := ga) (by intro e; injection e with e; exact hne e.symm) i (.string s)
        have hO3 : OneS W [.int .i64 25, .int .i64 rg, .int .i64 ty, .int .i64 nn, .int .i64 fl, .slice ap al ac, .slice tp tl tc] (w5.setCell ⟨ga, i, none⟩ (.string s)) := ⟨(HO.out.2.2.later hB5.out).1.other (by omega) _ _, (HO.out.2.2.later hB5.out).2.setCell (p := ⟨ga, i, none⟩) (by show W.heap.size ≤ ga; omega) _⟩
        have HN2 := Lib.hid (And.intro hO1 (And.intro hO2 hO3))
        clear hO1 hO2 hO3 q0 q1 c0 c1 hlit hlitd hlitd2 cY
        go_wp2_with fail
        exact ⟨⟨i + 1, by omega, by go_num, HN2⟩, by simp [intOf]; omega⟩
    · obtain rfl : n = i := by omega
      have hAll := altL_all HN.out.2.2 HN.out.1
      have HS : Hid (FS W [.int .i64 25, .int .i64 rg, .int .i64 ty, .int .i64 nn, .int .i64 fl, .slice ap al ac, .slice tp tl tc] (.slice pa n ca) P wo) := Lib.hid ⟨HO.out.2.2, OS.mono (by rw [← hAll]; exact HO.out.1) (Nat.le_succ _)⟩
      clear hAll HO
      go_upto_region 25 with fail
      have HSS : ∀ w, FS W [.int .i64 25, .int .i64 rg, .int .i64 ty, .int .i64 nn, .int .i64 fl, .slice ap al ac, .slice tp tl tc] (.slice pa n ca) P w → (w.cell? ⟨W.heap.size, 2, none⟩ = some (.int .i64 ty) ∧ w.cell? ⟨W.heap.size, 4, none⟩ = some (.int .i64 fl)) := fun w h => ⟨h.1.1.get 2 _ rfl, h.1.1.get 4 _ rfl⟩
      obtain ⟨y0_, y1_⟩ := HSS wo HS.out
      have kh : FS W [.int .i64 25, .int .i64 rg, .int .i64 ty, .int .i64 nn, .int .i64 fl, .slice ap al ac, .slice tp tl tc] (.slice pa n ca) P wo := HS.out
      have cA : ∀ w, ((w.cell? ⟨W.heap.size, 2, none⟩ = some (.int .i64 ty) ∧ w.cell? ⟨W.heap.size, 4, none⟩ = some (.int .i64 fl)) ∧ FS W [.int .i64 25, .int .i64 rg, .int .i64 ty, .int .i64 nn, .int .i64 fl, .slice ap al ac, .slice tp tl tc] (.slice pa n ca) P w) → Calls Tryz.prog 126 #[.int .i64 fl] w fun e w' => e = .returned (.string F) ∧ w'.cell? ⟨W.heap.size, 2, none⟩ = some (.int .i64 ty) ∧ w'.cell? ⟨W.heap.size, 4, none⟩ = some (.int .i64 fl) ∧ FS W [.int .i64 25, .int .i64 rg, .int .i64 ty, .int .i64 nn, .int .i64 fl, .slice ap al ac, .slice tp tl tc] (.slice pa n ca) P w' := by
        rintro w ⟨k, kh⟩
        refine ((fun w (kh : FS W [.int .i64 25, .int .i64 rg, .int .i64 ty, .int .i64 nn, .int .i64 fl, .slice ap al ac, .slice tp tl tc] (.slice pa n ca) P w) => HL.out.2.2.1 w) w kh).mono ?_
        rintro e w' ⟨he, hb⟩
        have h2 := kh.later hb
        obtain ⟨s0, s1⟩ := HSS w' h2
        exact ⟨he, s0, s1, h2⟩
      have cC : ∀ w, ((w.cell? ⟨W.heap.size, 2, none⟩ = some (.int .i64 ty) ∧ w.cell? ⟨W.heap.size, 4, none⟩ = some (.int .i64 fl)) ∧ FS W [.int .i64 25, .int .i64 rg, .int .i64 ty, .int .i64 nn, .int .i64 fl, .slice ap al ac, .slice tp tl tc] (.slice pa n ca) P w) → Calls Tryz.prog 12 #[.int .i64 ty] w fun e w' => e = .returned (.string (T ty)) ∧ w'.cell? ⟨W.heap.size, 2, none⟩ = some (.int .i64 ty) ∧ w'.cell? ⟨W.heap.size, 4, none⟩ = some (.int .i64 fl) ∧ FS W [.int .i64 25, .int .i64 rg, .int .i64 ty, .int .i64 nn, .int .i64 fl, .slice ap al ac, .slice tp tl tc] (.slice pa n ca) P w' := by
        rintro w ⟨k, kh⟩
        refine ((fun w (kh : FS W [.int .i64 25, .int .i64 rg, .int .i64 ty, .int .i64 nn, .int .i64 fl, .slice ap al ac, .slice tp tl tc] (.slice pa n ca) P w) => HL.out.1 ty w kh.1.2) w kh).mono ?_
        rintro e w' ⟨he, hb⟩
        have h2 := kh.later hb
        obtain ⟨s0, s1⟩ := HSS w' h2
        exact ⟨he, s0, s1, h2⟩
      have cB : ∀ w, ((w.cell? ⟨W.heap.size, 2, none⟩ = some (.int .i64 ty) ∧ w.cell? ⟨W.heap.size, 4, none⟩ = some (.int .i64 fl)) ∧ FS W [.int .i64 25, .int .i64 rg, .int .i64 ty, .int .i64 nn, .int .i64 fl, .slice ap al ac, .slice tp tl tc] (.slice pa n ca) P w) → Calls Tryz.prog 77 #[.slice pa n ca] w fun e w' => e = .returned (.string L) ∧ w'.cell? ⟨W.heap.size, 2, none⟩ = some (.int .i64 ty) ∧ w'.cell? ⟨W.heap.size, 4, none⟩ = some (.int .i64 fl) ∧ FS W [.int .i64 25, .int .i64 rg, .int .i64 ty, .int .i64 nn, .int .i64 fl, .slice ap al ac, .slice tp tl tc] (.slice pa n ca) P w' := by
        rintro w ⟨k, kh⟩
        refine ((fun w (kh : FS W [.int .i64 25, .int .i64 rg, .int .i64 ty, .int .i64 nn, .int .i64 fl, .slice ap al ac, .slice tp tl tc] (.slice pa n ca) P w) => HL.out.2.1 _ w kh.2.sl) w kh).mono ?_
        rintro e w' ⟨he, hb⟩
        have h2 := kh.later hb
        obtain ⟨s0, s1⟩ := HSS w' h2
        exact ⟨he, s0, s1, h2⟩
      clear HSS
      go_region_held3 (fun w' => w'.cell? ⟨W.heap.size, 2, none⟩ = some (.int .i64 ty) ∧ w'.cell? ⟨W.heap.size, 4, none⟩ = some (.int .i64 fl))
        (((try dsimp only); (repeat' apply And.intro) <;> (first | (with_reducible assumption) | (rw [World.cell?_drew]; with_reducible assumption) | (refine (cell_alloc_lt ?_).trans ?_ <;> with_reducible assumption) | (simp <;> omega))))
        (first
          | ((with_reducible refine' (cA _ ?pre).mono ?_)
             case pre => (refine ⟨⟨?_, ?_⟩, ?_⟩ <;> (first | (with_reducible assumption) | (rw [World.cell?_drew]; with_reducible assumption) | (with_reducible apply FS.drew; with_reducible assumption) | (simp <;> omega) | omega))
             rintro e wscA ⟨rfl, cA_0, cA_1, sahcA⟩)
          | ((with_reducible refine' (cC _ ?pre).mono ?_)
             case pre => (refine ⟨⟨?_, ?_⟩, ?_⟩ <;> (first | (with_reducible assumption) | (rw [World.cell?_drew]; with_reducible assumption) | (with_reducible apply FS.drew; with_reducible assumption) | (simp <;> omega) | omega))
             rintro e wscC ⟨rfl, cC_0, cC_1, sahcC⟩
             have hlt_cC := sahcC.1.1.1)
          | ((with_reducible refine' (cB _ ?pre).mono ?_)
             case pre => (refine ⟨⟨?_, ?_⟩, ?_⟩ <;> (first | (with_reducible assumption) | (rw [World.cell?_drew]; with_reducible assumption) | (with_reducible apply FS.drew; with_reducible assumption) | (simp <;> omega) | omega))
             rintro e wscB ⟨rfl, cB_0, cB_1, sahcB⟩
             have hlt_cB := sahcB.1.1.1))
      all_goals
        have HX := Lib.hid sahcB.1
        go_wp2_with fail
        go_ret
        exact ⟨_, rfl, OS.lit _ HX.out.2.size [F, T ty, L] _ rfl 3 rfl (by decide), HX.out.2.alloc HX.out.2.size _⟩
end Go.Proofs.YtmampoakdjjbiaaGreatDoor
