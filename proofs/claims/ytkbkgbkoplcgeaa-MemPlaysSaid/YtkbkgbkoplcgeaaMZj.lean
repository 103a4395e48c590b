/- The document's memory: Store, the walk. -/
import Derived.Test.YtkbkgbkoplcgeaaMZi
namespace Go.Proofs.Ytkbkgbkoplcgeaa
open Go.RowKit Go.Maps
set_option linter.unusedVariables false
set_option linter.unusedSimpArgs false

set_option maxHeartbeats 4000000 in
theorem rStore_any (W : World) (p : Option Addr) (c : Nat) (xs : List Rk) (D : Dm) (t : Int) (x v : Vl) (hl : xs.length ≤ 100000) (h : RmIn W p c xs D) (hx : x.ok) :
    Calls Try.prog 54 #[.slice p xs.length c, .int .i64 t, x.val, v.val] W fun e w' => ∃ q d ys, e = .returned (.tuple #[.slice q ys.length d, .bool (dIn D t v)]) ∧ RmNew W (dStore D t x v) q d ys w' := by
  have hc := h.row.2.1
  have hc2 := h.row.2.2.1
  unfold maxLen at hc2
  obtain ⟨xk, xb, xbk, xo⟩ := x
  obtain ⟨vk, vb, vbk, vo⟩ := v
  obtain ⟨W0, eW0⟩ : ∃ W0, (W.alloc (.cells #[.int .i64 xk, .int .u64 xb, .int .i64 xbk, .int .i64 xo] 24)).alloc (.cells #[.int .i64 vk, .int .u64 vb, .int .i64 vbk, .int .i64 vo] 24) = W0 := ⟨_, rfl⟩
  have HW0 : Hid (Below W.heap.size W W0) := Lib.hid (by rw [← eW0]; exact below2 W _ _)
  have BX : Hid (Box W.heap.size (vlC ⟨xk, xb, xbk, xo⟩) W0) := Lib.hid (by rw [← eW0]; exact (Box.new W rfl _ _).alloc _)
  have BV : Hid (Box (W.heap.size + 1) (vlC ⟨vk, vb, vbk, vo⟩) W0) := Lib.hid (by rw [← eW0]; exact Box.new _ (by simp) _ _)
  have h0 := h.later HW0.out
  have c1 := mCopy_new W0 p c xs D hl h0
  have c2 : ∀ w, Below W0.heap.size W0 w → Calls Try.prog 70 #[.slice p xs.length c, .int .i64 t, .agg #[.int .i64 vk, .int .u64 vb, .int .i64 vbk, .int .i64 vo]] w fun e w' => e = .returned (.bool (dIn D t ⟨vk, vb, vbk, vo⟩)) ∧ Below w.heap.size w w' := fun w hb => rInside_any w p c xs D t ⟨vk, vb, vbk, vo⟩ (h0.later hb)
  have c3 : ∀ w, Calls Try.prog 16 #[.int .i64 t, .agg #[.int .i64 xk, .int .u64 xb, .int .i64 xbk, .int .i64 xo]] w fun e w' => ∃ p c, e = .returned (.slice p (wd t) c) ∧ w'.ownsRow w.heap.size 32 5 (.slice p (wd t) c) (wd t) ((pack t ⟨xk, xb, xbk, xo⟩).flatMap byC) ∧ Below w.heap.size w w' := fun w => rPack_any t ⟨xk, xb, xbk, xo⟩ w hx
  have HH := Lib.hid h0
  clear h h0
  show Calls _ _ #[.slice p xs.length c, .int .i64 t, .agg #[.int .i64 xk, .int .u64 xb, .int .i64 xbk, .int .i64 xo], .agg #[.int .i64 vk, .int .u64 vb, .int .i64 vbk, .int .i64 vo]] W _
  cases hin : dIn D t ⟨vk, vb, vbk, vo⟩ with
  | false =>
    simp only [hin] at c2
    have hD : dStore D t ⟨xk, xb, xbk, xo⟩ ⟨vk, vb, vbk, vo⟩ = D := store_out hin
    rw [hD]
    clear hD hin
    go_enter Try.func54, Try.ntmps54
    go_upto_region 1 with fail
    clear eW0
    go_wp2_with (first
      | ((with_reducible refine c1.mono ?_); rintro e w1 ⟨q, d, ys, rfl, hs, hn⟩; have HN := Lib.hid hn; have c2' := c2 w1 hn.past.2; have VB := BV.out.later hn.past.2; have v0 := VB.get 0 _ rfl; have v1 := VB.get 1 _ rfl; have v2 := VB.get 2 _ rfl; have v3 := VB.get 3 _ rfl; clear hs hn VB)
      | ((with_reducible refine c2'.mono ?_); rintro e w2 ⟨rfl, hb2⟩))
    go_ret2
    exact ⟨q, d, ys, rfl, RmAt.new (HN.out.atB.later (Nat.le_refl _) hb2) HW0.out ⟨HN.out.past.1, HN.out.past.2.trans (hb2.mono HN.out.past.2.size)⟩ hb2.size⟩
  | true =>
    simp only [hin] at c2
    obtain ⟨l, hat, hk2, hw, ho0, ho1⟩ := dIn_at hin
    simp only at hat ho0 ho1
    have hA : dAlive D vbk = true := by unfold dAlive; rw [hat]; rfl
    obtain ⟨i, hi, rfl, hat2, hal⟩ := alive_in HH.out hA
    have hll : l = xs[i].l := by rw [hat] at hat2; injection hat2
    obtain ⟨f, rfl⟩ : ∃ f : Nat, vo = f := ⟨vo.toNat, by omega⟩
    have hN := wd_le t
    have HD : Hid (dStore D t ⟨xk, xb, xbk, xo⟩ ⟨vk, vb, i, f⟩ = D.set i (some (put l f (pack t ⟨xk, xb, xbk, xo⟩)))) := Lib.hid (by
      unfold dStore
      rw [if_pos hin]
      unfold dBytes
      simp only
      rw [hat]
      rfl)
    have hPL := pack_len t ⟨xk, xb, xbk, xo⟩
    have hsm := HH.out.small _ (List.getElem_mem hi)
    rw [← hll] at hsm
    have HL : Hid (∀ ys : List Rk, ys.map rkS = xs.map rkS → ∃ h : i < ys.length, ys[i].a = true ∧ ys[i].l = l) := Lib.hid (fun ys hs => by
      have hlen := rkS_len hs
      have hy : i < ys.length := by omega
      have e : rkS ys[i] = rkS xs[i] := by
        have := congrArg (fun l => l[i]?) hs
        simp only [List.getElem?_map, List.getElem?_eq_getElem hi, List.getElem?_eq_getElem hy, Option.map_some] at this
        injection this
      exact ⟨hy, (congrArg Prod.fst e).trans hal, (congrArg Prod.snd e).trans hll.symm⟩)
    obtain ⟨P, eP⟩ : ∃ P, pack t ⟨xk, xb, xbk, xo⟩ = P := ⟨_, rfl⟩
    obtain ⟨N, eN⟩ : ∃ N, wd t = N := ⟨_, rfl⟩
    rw [eP] at HD hPL
    rw [eN] at hPL hN ho1
    simp only [eP, eN] at c3
    have HPL := Lib.hid hPL
    clear hat hat2 hA hal hll hin hk2 hw ho0 eP eN hPL
    go_enter Try.func54, Try.ntmps54
    go_upto_region 1 with fail
    clear eW0
    go_wp2_with (first
      | ((with_reducible refine c1.mono ?_); rintro e w1 ⟨q, d, ys, rfl, hs, hn⟩; have HN := Lib.hid hn; have HS := Lib.hid (HL.out ys hs); have c2' := c2 w1 hn.past.2; have VB := BV.out.later hn.past.2; have v0 := VB.get 0 _ rfl; have v1 := VB.get 1 _ rfl; have v2 := VB.get 2 _ rfl; have v3 := VB.get 3 _ rfl; clear hs hn VB)
      | ((with_reducible refine c2'.mono ?_); rintro e w2 ⟨rfl, hb2⟩; have VB := (BX.out.later HN.out.past.2).later hb2; have v0 := VB.get 0 _ rfl; have v1 := VB.get 1 _ rfl; have v2 := VB.get 2 _ rfl; have v3 := VB.get 3 _ rfl; have HB2 := Lib.hid hb2; clear hb2 VB)
      | ((with_reducible refine (c3 _).mono ?_); rintro e w3 ⟨pp, pc, rfl, hrp, hb3⟩))
    have HB3 : Hid (Below w1.heap.size w1 w3) := Lib.hid (HB2.out.trans (hb3.mono HB2.out.size))
    have HRP : Hid (w3.ownsRow w1.heap.size 32 5 (.slice pp N pc) N (P.flatMap byC)) := Lib.hid (hrp.mono HB2.out.size)
    have HP3 : Hid (Past W0.heap.size W0 w3) := Lib.hid ⟨HN.out.past.1, HN.out.past.2.trans (HB3.out.mono HN.out.past.2.size)⟩
    obtain ⟨hy, hya, hyl⟩ := HS.out
    obtain ⟨⟨A, p2, d2, l2⟩, eA⟩ : ∃ A, ys[i] = A := ⟨_, rfl⟩
    rw [eA] at hya hyl
    simp only at hya hyl
    subst hya hyl
    have HA3 : Hid (RmAt W0.heap.size w1.heap.size D q d ys w3) := Lib.hid (HN.out.atB.later (Nat.le_refl _) HB3.out)
    have HEA := Lib.hid (And.intro hy eA)
    have HB13 : Hid (w1.heap.size ≤ w3.heap.size) := Lib.hid HB3.out.size
    obtain ⟨B1, eB1⟩ : ∃ B1, w1.heap.size = B1 := ⟨_, rfl⟩
    rw [eB1] at HB13 HA3 HRP
    clear hrp hb3 c1 c2 c3 c2' eA eB1 HS HB2 HB3
    go_loopw [13] (fun u wr => ∃ (k : Nat) (zs : List Rk), k ≤ N ∧ u = .int .i64 k ∧ Hid (zs.length = ys.length ∧ ∃ h : i < zs.length, zs[i] = ⟨true, p2, d2, put l2 f (P.take k)⟩) ∧ Hid (RmAt W0.heap.size B1 (D.set i (some (put l2 f (P.take k)))) q d zs wr) ∧ Hid (wr.ownsRow B1 32 5 (.slice pp N pc) N (P.flatMap byC)) ∧ Hid (Past W0.heap.size W0 wr) ∧ Hid (B1 ≤ wr.heap.size)) (fun u _ => N - (intOf u).toNat)
    case atStart =>
      obtain ⟨hy, eA⟩ := HEA.out
      refine ⟨0, ys, Nat.zero_le _, rfl, Lib.hid ⟨rfl, hy, by rw [eA, List.take_zero, put_nil]⟩, Lib.hid ?_, HRP, HP3, HB13⟩
      rw [List.take_zero, put_nil]
      have e : D.set i (some l2) = D := by
        have hs := HA3.out.shows
        have hi' : i < D.length := by rw [hs, List.length_map]; exact hy
        have : D[i] = some l2 := by
          have e2 : D[i]? = (ys.map rkD)[i]? := by rw [← hs]
          rw [List.getElem?_eq_getElem hi', List.getElem?_map, List.getElem?_eq_getElem hy, eA] at e2
          injection e2
        rw [← this, List.set_getElem_self]
      rw [e]
      exact HA3.out
    case round =>
      clear HA3 HRP HP3 HB13
      obtain ⟨k, zs, hk, rfl, HZ, HA, HR, HP, HB⟩ := hrel
      by_cases t1 : k < N
      · obtain ⟨hzl, hzi, ez⟩ := HZ.out
        have hkP : k < P.length := by rw [HPL.out]; exact t1
        have hfl : f + P.length ≤ l2.length := by rw [HPL.out]; omega
        have hlk : (put l2 f (P.take k)).length = l2.length := put_len _ _ _ (by rw [List.length_take]; omega)
        obtain ⟨g, eg, hg1, hg2, ⟨g0, g1, g2, g3, g4, g5⟩, hb⟩ := HA.out.byte i hzi (by rw [ez]) (f + k) (by rw [ez]; show f + k < (put l2 f (P.take k)).length; omega) P[k]
        obtain ⟨r, er, _, _, f1, hbi⟩ := (HA.out.lies HB.out).cell i hzi
        subst er
        simp only [ez] at eg g0 g1 g2 g3 g4 hb f1 hbi
        rw [put_step _ _ _ _ hkP hfl, List.set_set] at hb
        subst eg
        have HBY := Lib.hid hb
        obtain ⟨gp, egp⟩ := row_some HR.out (by omega)
        subst egp
        have hlt := (HR.out.lt gp rfl)
        obtain ⟨m0, m1, m2, m3, m4, _⟩ := own_by HR.out k hkP
        obtain ⟨⟨yk, yb, ybk, yo, yi⟩, ey⟩ : ∃ y, P[k] = y := ⟨_, rfl⟩
        simp only [ey] at m0 m1 m2 m3 m4
        obtain ⟨⟨jk, jb, jbk, jo, ji⟩, ej⟩ : ∃ y, (put l2 f (P.take k))[f + k]'(by omega) = y := ⟨_, rfl⟩
        simp only [ej] at g0 g1 g2 g3 g4
        rw [hlk] at f1
        have hrc := (HA.out.lies HB.out).row.2.1
        have hrc2 := (HA.out.lies HB.out).row.2.2.1
        have hpc : N ≤ pc := by rcases HR.out.2 with ⟨e, h0⟩ | ⟨g, cap, cur, e, _, _, h1, h2, _⟩ <;> (injection e with e1 e2 e3; omega)
        have VB := BV.out.below HP.out.2 BV.out.1
        have v2 := VB.get 2 _ rfl
        have v3 := VB.get 3 _ rfl
        have ti : (i : Int) < (zs.length : Int) := by omega
        have tk : (k : Int) < (N : Int) := by omega
        have ew : IntKind.i64.wrap ((f : Int) + (k : Int)) = (f : Int) + (k : Int) := by rw [IntKind.wrap_i64]; omega
        have tf : (f : Int) + (k : Int) < (l2.length : Int) := by omega
        have tf2 : f + k < l2.length := by omega
        have HEY := Lib.hid ey
        have HZL := Lib.hid hzl
        have HG := Lib.hid (And.intro hg1 (And.intro hg2 hlt))
        clear hb ez ej ey hlk hzl VB hg1 hg2 hlt hbi
        rw [← HZL.out]
        go_wp2_with fail
        go_region
        go_wp2_with fail
        have H9 := HBY.out
        rw [HEY.out] at H9
        have hsz : B1 ≤ (wr.setCells g ((f + k) * 5) (byC ⟨yk, yb, ybk, yo, yi⟩)).heap.size := by rw [setCells_sz]; exact HB.out
        have R9 : (wr.setCells g ((f + k) * 5) (byC ⟨yk, yb, ybk, yo, yi⟩)).drew.ownsRow B1 32 5 (.slice (some ⟨gp, 0, none⟩) N pc) N (P.flatMap byC) := row_drew (row_same HR.out (fun j e => setCells_heap g _ _ wr j (fun e2 => by have h1 := (HR.out.lt j e).1; have h2 := HG.out.2.1; omega)))
        have P9 : Past W0.heap.size W0 (wr.setCells g ((f + k) * 5) (byC ⟨yk, yb, ybk, yo, yi⟩)) := Past.setCells HG.out.1 _ _ HP.out
        exact ⟨⟨k + 1, _, t1, by go_num, Lib.hid ⟨List.length_set .., by rw [List.length_set]; exact hzi, List.getElem_set_self _⟩, Lib.hid (RmAt.later H9 hsz (below_drew (Below.refl _ _))), Lib.hid R9, Lib.hid ⟨P9.1, below_drew P9.2⟩, Lib.hid hsz⟩, by simp [intOf]; omega⟩
      · obtain rfl : k = N := by omega
        go_wp2_with fail
        go_ret2
        refine ⟨q, d, zs, by rw [HZ.out.1]; rfl, ?_⟩
        have e : P.take k = P := by rw [← HPL.out, List.take_length]
        rw [HD.out, ← e]
        exact RmAt.new HA.out HW0.out HP.out HB.out
end Go.Proofs.Ytkbkgbkoplcgeaa
