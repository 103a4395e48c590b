/- The law's Wipe. -/
import Derived.Test.YtphdhndljgihmaaVLists
namespace Go.Proofs.Ytphdhndljgihmaa
open Go.RowKit Go.Maps
set_option linter.unusedVariables false
set_option linter.unusedSimpArgs false

theorem LL.app {R n : Nat} {vs : Nat → Value} {M : Nat → List Int} {w w' : World} (h : LL R n vs M w) {t : Nat} (ht : t < n) {xs : List Int} {v' : Value} (hr : w'.ownsRow (R + 1) 3 1 v' ((M t).length + xs.length) ((M t).flatMap intC ++ xs.flatMap intC)) (hg : w.grownBy w' (vs t).ownBlock) (hm : Moved w (vs t) v') :
    LL R n (fun j => if j = t then v' else vs j) (fun j => if j = t then M t ++ xs else M j) (w'.setCell ⟨R, t, none⟩ v') := by
  have hlt := fun i hi => (h.own i hi).lt
  have hR := h.row.lt
  refine ⟨?_, fun i hi => ?_, fun i j hi hj hne g => ?_⟩
  · exact (rowIs_kept h.row hg (fun e => by have := hlt t ht _ e.symm; omega)).set t v'
  · refine ownsRow_setCell_below ?_ (by dsimp only; omega) _
    by_cases e : i = t
    · subst e
      simp only [if_pos]
      rw [List.length_append, List.flatMap_append]
      exact hr
    · simp only [if_neg e]
      refine (h.own i hi).kept hg ?_
      by_cases e1 : (vs i).ownBlock = none
      · exact .inl e1
      · refine .inr (fun e2 => ?_)
        cases hx : (vs i).ownBlock with
        | none => exact e1 hx
        | some x => exact h.ap i t hi ht e x hx (e2.symm.trans hx)
  · have key : ∀ k, k < n → k ≠ t → ∀ g, v'.ownBlock = some g → (vs k).ownBlock ≠ some g := fun k hk hkt g e1 e2 => by
      rcases hm with e | e
      · rw [e] at e1
        exact h.ap t k ht hk (fun e => hkt e.symm) g e1 e2
      · rw [e] at e1; injection e1 with e1
        have := (hlt k hk g e2).2
        omega
    by_cases ei : i = t
    · subst ei
      have ej : ¬ j = i := fun e => hne e.symm
      simp only [if_pos, if_neg ej]
      exact key j hj ej g
    · simp only [if_neg ei]
      by_cases ej : j = t
      · subst ej
        simp only [if_pos]
        exact fun e1 e2 => key i hi ei g e2 e1
      · simp only [if_neg ej]
        exact h.ap i j hi hj hne g
theorem LL.set {R n : Nat} {vs : Nat → Value} {M : Nat → List Int} {w : World} (h : LL R n vs M w) {t : Nat} (ht : t < n) {g c : Nat} (hv : vs t = .slice (some ⟨g, 0, none⟩) (M t).length c) (k : Nat) (x : Int) :
    LL R n vs (fun j => if j = t then (M t).set k x else M j) (w.setCell ⟨g, k, none⟩ (.int .i64 x)) := by
  have hown := h.own t ht
  have hg := (hown.lt g (by rw [hv]; rfl))
  rw [hv] at hown
  have hs := hown.stored k (.int .i64 x)
  refine ⟨h.row.setOther (by dsimp only; omega) _, fun i hi => ?_, h.ap⟩
  by_cases e : i = t
  · subst e
    simp only [if_pos]
    have e1 : ((M i).flatMap intC).set k (.int .i64 x) = ((M i).set k x).flatMap intC := by rw [intC_map, intC_map, List.map_set]
    rw [hv, List.length_set, ← e1]
    exact hs.1
  · simp only [if_neg e]
    refine (h.own i hi).kept hs.2 ?_
    by_cases e1 : (vs i).ownBlock = none
    · exact .inl e1
    · refine .inr (fun e2 => h.ap i t hi ht e g e2 (by rw [hv]; rfl))
theorem LL.head {R n : Nat} {vs : Nat → Value} {M : Nat → List Int} {w : World} (h : LL R n vs M w) {t : Nat} (ht : t < n) (hl : 0 < (M t).length) : ∃ g c, vs t = .slice (some ⟨g, 0, none⟩) (M t).length c := by
  rcases (h.own t ht).2 with ⟨_, h1⟩ | ⟨g, cap, _, hv, _⟩
  · omega
  · exact ⟨g, cap, hv⟩
set_option maxRecDepth 100000 in
set_option maxHeartbeats 2000000 in
theorem Wipe_own (R n hi : Nat) (vs : Nat → Value) (M : Nat → List Int) (W : World) (h : LL R n vs M W) (hM : ∀ i, i < n → (M i).length ≤ 1048576) (hn : n ≤ 1048576) (hR : R < hi) (hhi : hi ≤ W.heap.size) (hv : ∀ i, i < n → ∀ g, (vs i).ownBlock = some g → g < hi) :
    Calls Try.prog 22 #[.slice (some ⟨R, 0, none⟩) n n] W fun e w' => e = .returned (.tuple #[]) ∧ Out R hi W w' := by
  have H := Lib.hid (And.intro h (And.intro hM hv))
  obtain ⟨i0, hi0, hz0, hz1, hz2⟩ := info_parts infoInt
  clear h hM hv
  go_enter Try.func22, Try.ntmps22
  go_wp2_with fail
  go_loopw [6] (fun t wr => ∃ (i : Nat) (vs' : Nat → Value) (M' : Nat → List Int), i ≤ n ∧ t = .int .i64 i ∧ LL R n vs' M' wr ∧ Out R hi W wr ∧ Hid (∀ j, i ≤ j → vs' j = vs j ∧ M' j = M j)) (fun t _ => n - (intOf t).toNat)
  case atStart => exact ⟨0, vs, M, Nat.zero_le _, rfl, H.out.1, Out.refl _ _ _, Lib.hid (fun j _ => ⟨rfl, rfl⟩)⟩
  case round =>
    obtain ⟨i, vs', M', hin, rfl, hL, hO, hsm⟩ := hrel
    generalize wr = wo at *
    by_cases hlt : i < n
    · have hml : (M' i).length ≤ 1048576 := by rw [(hsm.out i (Nat.le_refl _)).2]; exact H.out.2.1 i hlt
      have hvi : ∀ g, (vs' i).ownBlock = some g → R < g ∧ g < hi := fun g e => ⟨((hL.own i hlt).lt g e).1, H.out.2.2 i hlt g (by rw [← (hsm.out i (Nat.le_refl _)).1]; exact e)⟩
      have HVI := Lib.hid hvi
      have c0 := hL.row.cell hlt
      obtain ⟨q, c, hq⟩ := hL.slice hlt
      rw [hq] at c0
      have HL := Lib.hid (And.intro hL (And.intro hO hq))
      obtain ⟨len, elen⟩ : ∃ len, (M' i).length = len := ⟨_, rfl⟩
      rw [elen] at c0 hml
      have HLE := Lib.hid elen
      have hlo : R < wo.heap.size := hL.row.lt
      clear hL hO hvi hq elen
      go_wp2_with fail
      go_loopw [14] (fun t wr => ∃ (k : Nat) (Mi : List Int), k ≤ len ∧ t = .int .i64 k ∧ Mi.length = len ∧ LL R n vs' (fun j => if j = i then Mi else M' j) wr ∧ Out R hi W wr) (fun t _ => len - (intOf t).toNat)
      case atStart => exact ⟨0, M' i, Nat.zero_le _, rfl, HLE.out, HL.out.1.congr (fun j hj => by by_cases e : j = i <;> simp [e]), HL.out.2.1⟩
      case round =>
        obtain ⟨k, Mi, hkl, rfl, hMi, hL, hO⟩ := hrel
        by_cases hltk : k < len
        · have hvq : vs' i = .slice q len c := by rw [← HLE.out]; exact HL.out.2.2
          obtain ⟨g, c', hg⟩ := hL.head hlt (by simp only [if_pos]; omega)
          simp only [if_pos] at hg
          rw [hvq, hMi] at hg
          injection hg with hg1 _ hg2
          subst hg1 hg2
          have hrow := hL.row.cell hlt
          rw [hvq] at hrow
          have hown := hL.own i hlt
          simp only [if_pos] at hown
          rw [hvq, hMi] at hown
          have c1 := hown.cellAt k (by omega)
          rw [intC_map, List.getElem?_map, List.getElem?_eq_getElem (by omega : k < Mi.length)] at c1
          have f1 := hown.frozenAt k
          have hset := hL.set hlt (g := g) (c := c) (by simp only [if_pos]; rw [hvq, hMi]) k (-100 - (i : Int))
          simp only [if_pos] at hset
          have hgR := HVI.out g (by rw [hvq]; rfl)
          have HS := Lib.hid (And.intro (hset.congr (M' := fun j => if j = i then Mi.set k (-100 - (i : Int)) else M' j) (fun j hj => by by_cases e : j = i <;> simp [e])) (And.intro (hO.trans (out_setCells (lo := R) (hi := hi) (g := g) (by omega) hgR.2 [.int .i64 (-100 - (i : Int))] k wr)) (show (Mi.set k (-100 - (i : Int))).length = len by rw [List.length_set]; exact hMi)))
          obtain ⟨x, ex⟩ : ∃ x, Mi[k] = x := ⟨_, rfl⟩
          simp only [ex] at c1
          have c1 : wr.cell? ⟨g, k, none⟩ = some (.int .i64 x) := c1
          clear hL hO hset hown hvq hMi ex
          go_wp2_with fail
          exact ⟨⟨k + 1, _, by omega, by go_num, HS.out.2.2, HS.out.1, HS.out.2.1⟩, by simp [intOf]; omega⟩
        · obtain rfl : k = len := by omega
          have hvq : vs' i = .slice q k c := by rw [← HLE.out]; exact HL.out.2.2
          have hrow := hL.row.cell hlt
          rw [hvq] at hrow
          have HA := Lib.hid (And.intro (hL.alloc (.cells #[.int .i64 (-7), .int .i64 (-7)] 3)) (hO.alloc (.cells #[.int .i64 (-7), .int .i64 (-7)] 3)))
          have hown := HA.out.1.own i hlt
          simp only [if_pos] at hown
          rw [hvq, hMi] at hown
          have HQ := Lib.hid (And.intro hown hvq)
          have HMI := Lib.hid hMi
          have hbig : R + 1 ≤ wr.heap.size := hL.row.lt
          have hnews : ∀ j u, [Value.int .i64 (-7), .int .i64 (-7)][j]? = some u → ∃ ad, (some ⟨wr.heap.size, 0, none⟩ : Option Addr) = some ad ∧ (wr.alloc (.cells #[.int .i64 (-7), .int .i64 (-7)] 3)).cell? (ad.add j) = some u := lit_at' wr rfl [.int .i64 (-7), .int .i64 (-7)] 3
          have HN := Lib.hid hnews
          have hfl : (Mi.flatMap intC).length = k := by rw [intC_map, List.length_map, hMi]
          clear hL hO hown hvq hMi hnews hfl
          go_wp2_with (at_builtin; refine wpList_append_at rfl (.tmp 31) (.tmp 32) 22 rfl (R + 1) 3 i0 _ 1 8 Try.underlying22 hi0 hz0 hz1 hz2 rfl (by decide) (.slice q k c) k (Mi.flatMap intC) rfl HQ.out.1 (some ⟨wr.heap.size, 0, none⟩) 2 2 [.int .i64 (-7), .int .i64 (-7)] rfl rfl HN.out (by intro u hu; simp at hu; subst hu; rfl) (by unfold maxLen; omega) (by omega) (by simp; omega) ?_
                       intro v6 w6 hown6 hgrow6 hmv6
                       obtain ⟨q6, c6, rfl⟩ := row_slice hown6
                       have hr6 := rowIs_kept HA.out.1.row hgrow6 (fun e => by have h7 := (HQ.out.1.lt _ e.symm).1; omega)
                       have k0 := hr6.cell hlt
                       have kf := hr6.frozen i
                       rw [HQ.out.2] at k0
                       have H6 := Lib.hid (And.intro hown6 (And.intro hgrow6 hmv6))
                       clear hr6 hown6 hgrow6 hmv6 hrow)
          clear k0 kf
          have hnew := HA.out.1.app hlt (xs := [-7, -7]) (v' := .slice q6 (k + 2) c6) (by simp only [if_pos]; rw [HMI.out]; exact H6.out.1) (by rw [HQ.out.2]; exact H6.out.2.1) (by rw [HQ.out.2]; exact H6.out.2.2)
          have hout := HA.out.2.trans (Out.grown (lo := R) (hi := hi) H6.out.2.1 (fun g e => by have h7 := HVI.out g (by rw [HQ.out.2]; exact e); omega))
          have hout2 := hout.trans (out_setCells (lo := R) (hi := hi) (g := R) (Nat.le_refl _) hR [.slice q6 (k + 2) c6] i w6)
          refine ⟨⟨i + 1, _, _, by omega, by go_num, hnew, hout2, Lib.hid (fun j hj => ?_)⟩, by simp [intOf]; omega⟩
          have hji : ¬ j = i := by omega
          have := hsm.out j (by omega)
          simp only [if_neg hji]
          exact this
    · obtain rfl : i = n := by omega
      have HO := Lib.hid hO
      clear hL hO
      go_wp2_with fail
      first | (refine bodyPost_ret (v := .tuple #[]) (by simp [results, Try.results22, go_sem]) rfl ⟨rfl, HO.out⟩) | (go_end0; exact ⟨rfl, HO.out⟩)
end Go.Proofs.Ytphdhndljgihmaa
