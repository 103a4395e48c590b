/- The document's memory: Load. -/
import Derived.Test.YtkbkgbkoplcgeaaMZg
import Derived.Test.YtkbkgbkoplcgeaaMI
import Derived.Test.YtkbkgbkoplcgeaaMT
import Derived.Test.YtkbkgbkoplcgeaaMKp
namespace Go.Proofs.Ytkbkgbkoplcgeaa
open Go.RowKit Go.Maps
set_option linter.unusedVariables false
set_option linter.unusedSimpArgs false

/-- A part of a row of bytes. -/
theorem bys_part {B : Nat} {w : World} {a : Addr} {n c : Nat} {l : List By} (h : BysIn B w (some a) n c l) (f N : Nat) (hf : f + N ≤ l.length) : BysIn B w (some (a.add (f * 5))) N (c - f) ((l.drop f).take N) := by
  obtain ⟨h1, h2, h3, h4, h5⟩ := h
  have hlen : ((l.drop f).take N).length = N := by rw [List.length_take, List.length_drop]; omega
  refine ⟨hlen.symm, by omega, by omega, fun j u hj => ?_, fun _ _ => trivial⟩
  have hj1 := (List.getElem?_eq_some_iff.1 hj).1
  rw [bys_len, hlen] at hj1
  have e : ((l.drop f).take N).flatMap byC = ((l.flatMap byC).drop (f * 5)).take (N * 5) := by
    have e1 : l = l.take f ++ l.drop f := (List.take_append_drop f l).symm
    have e2 : l.drop f = (l.drop f).take N ++ (l.drop f).drop N := (List.take_append_drop N _).symm
    have e3 : l.flatMap byC = (l.take f).flatMap byC ++ (((l.drop f).take N).flatMap byC ++ ((l.drop f).drop N).flatMap byC) := by
      rw [← List.flatMap_append, ← e2, ← List.flatMap_append, ← e1]
    have l1 : ((l.take f).flatMap byC).length = f * 5 := by rw [bys_len, List.length_take]; congr 1; omega
    rw [e3, List.drop_left' l1, List.take_left' (by rw [bys_len, hlen])]
  rw [e, List.getElem?_take, if_pos hj1, List.getElem?_drop] at hj
  obtain ⟨a', ea, hb, hc⟩ := h4 (f * 5 + j) u hj
  obtain rfl : a = a' := by injection ea
  refine ⟨a.add (f * 5), rfl, by rw [add_block]; exact hb, ?_⟩
  have : (a.add (f * 5)).add j = a.add (f * 5 + j) := by
    by_cases hj0 : j = 0
    · subst hj0; rw [add_zero, Nat.add_zero]
    · rw [add_add _ _ _ hj0, add_pos _ _ (by omega)]
  rw [this]
  exact hc
set_option maxHeartbeats 4000000 in
theorem rLoad_any (W : World) (p : Option Addr) (c : Nat) (xs : List Rk) (D : Dm) (t : Int) (v : Vl) (h : RmIn W p c xs D) (hok : ∀ x ∈ xs, x.a = true → ∀ y ∈ x.l, y.ok) :
    Calls Try.prog 53 #[.slice p xs.length c, .int .i64 t, v.val] W fun e w' => e = .returned (.tuple #[(loadV D t v).val, .bool (dIn D t v)]) ∧ Below W.heap.size W w' := by
  have hc := h.row.2.1
  have hc2 := h.row.2.2.1
  unfold maxLen at hc2
  obtain ⟨vk, vb, vbk, vo⟩ := v
  have b0 := bV0
  obtain ⟨W0, eW0⟩ : ∃ W0, (W.alloc (.cells #[.int .i64 vk, .int .u64 vb, .int .i64 vbk, .int .i64 vo] 24)).alloc (.cells #[.int .i64 0, .int .u64 0, .int .i64 0, .int .i64 0] 24) = W0 := ⟨_, rfl⟩
  have HW0 : Hid (Below W.heap.size W W0) := Lib.hid (by rw [← eW0]; exact below2 W _ _)
  have BV : Hid (Box W.heap.size (vlC ⟨vk, vb, vbk, vo⟩) W0) := Lib.hid (by rw [← eW0]; exact (Box.new W rfl _ _).alloc _)
  have BR : Hid (Box (W.heap.size + 1) (vlC ⟨0, 0, 0, 0⟩) W0) := Lib.hid (by rw [← eW0]; exact Box.new _ (by simp) _ _)
  have h0 := h.later HW0.out
  have c1 : Calls Try.prog 70 #[.slice p xs.length c, .int .i64 t, .agg #[.int .i64 vk, .int .u64 vb, .int .i64 vbk, .int .i64 vo]] W0 fun e w' => e = .returned (.bool (dIn D t ⟨vk, vb, vbk, vo⟩)) ∧ Below W0.heap.size W0 w' := rInside_any W0 p c xs D t ⟨vk, vb, vbk, vo⟩ h0
  have v0 := BV.out.get 0 _ rfl
  have v1 := BV.out.get 1 _ rfl
  have v2 := BV.out.get 2 _ rfl
  have v3 := BV.out.get 3 _ rfl
  have HH := Lib.hid h0
  have HK := Lib.hid hok
  clear h h0 hok
  show Calls _ _ #[.slice p xs.length c, .int .i64 t, .agg #[.int .i64 vk, .int .u64 vb, .int .i64 vbk, .int .i64 vo]] W _
  cases hin : dIn D t ⟨vk, vb, vbk, vo⟩ with
  | false =>
    rw [hin] at c1
    have hv : loadV D t ⟨vk, vb, vbk, vo⟩ = (⟨0, 0, 0, 0⟩ : Vl) := by unfold loadV; rw [hin]; rfl
    rw [hv]
    clear hv hin
    go_enter Try.func53, Try.ntmps53
    go_upto_region 1 with fail
    clear eW0
    go_wp2_with (first
      | ((with_reducible refine c1.mono ?_); rintro e w1 ⟨rfl, hb1⟩; have VR := BR.out.later hb1; have r0 := VR.get 0 _ rfl; have r1 := VR.get 1 _ rfl; have r2 := VR.get 2 _ rfl; have r3 := VR.get 3 _ rfl; have hlt := VR.1; have rf := VR.2.1; have HB1 := Lib.hid hb1; clear hb1 VR))
    have P1 : Past W.heap.size W w1 := ⟨Nat.le_refl _, HW0.out.trans (HB1.out.mono HW0.out.size)⟩
    exact bodyPost_ret (v := .tuple #[.agg #[.int .i64 0, .int .u64 0, .int .i64 0, .int .i64 0], .bool false]) (by simp [results, Try.results53, go_sem, *]) rfl ⟨rfl, ((((P1.set (Nat.le_succ _) _).set (Nat.le_succ _) _).set (Nat.le_succ _) _).set (Nat.le_succ _) _).2⟩
  | true =>
    rw [hin] at c1
    obtain ⟨l, hat, hk2, hw, ho0, ho1⟩ := dIn_at hin
    have hA : dAlive D vbk = true := by unfold dAlive; rw [show atD D vbk = some l from hat]; rfl
    obtain ⟨i, hi, rfl, hat2, hal⟩ := alive_in HH.out hA
    have hll : l = xs[i].l := by rw [show atD D (i : Int) = some l from hat] at hat2; injection hat2
    have hV : loadV D t ⟨vk, vb, i, vo⟩ = unpack t ((xs[i].l.drop vo.toNat).take (wd t)) := by
      unfold loadV
      rw [if_pos hin]
      unfold dLoad dBytes
      rw [show atD D (i : Int) = some l from hat, hll]
    rw [hV]
    obtain ⟨f, rfl⟩ : ∃ f : Nat, vo = f := ⟨vo.toNat, by simp only at ho0; omega⟩
    have hsm := HH.out.small _ (List.getElem_mem hi)
    have c2 := fun w => rCount_any t w
    have hN := wd_le t
    simp only at ho1
    rw [hll] at ho1
    have hoL := HK.out _ (List.getElem_mem hi) hal
    obtain ⟨r, er, hrb, _, f1, hby⟩ := HH.out.cell i hi
    subst er
    have HC : Hid (∀ w, Below W0.heap.size W0 w → w.cell? ⟨(r.add (i * 2)).block, (r.add (i * 2)).off + 1, none⟩ = some (.slice xs[i].p xs[i].l.length xs[i].c) ∧ BysIn w.heap.size w xs[i].p xs[i].l.length xs[i].c xs[i].l) := Lib.hid (fun w hb => by
      obtain ⟨r', er', _, _, f1', hby'⟩ := (HH.out.later hb).cell i hi
      obtain rfl : r = r' := by injection er'
      exact ⟨f1', hby'⟩)
    obtain ⟨⟨A, p2, d2, l2⟩, eA⟩ : ∃ A, xs[i] = A := ⟨_, rfl⟩
    simp only [eA] at HC ho1 hsm hoL f1 hby ⊢
    obtain ⟨N, eN⟩ : ∃ N, wd t = N := ⟨_, rfl⟩
    have hNE : ((l2.drop f).take N).length = N := by rw [List.length_take, List.length_drop]; omega
    simp only [eN, Int.toNat_natCast] at c2 hN ho1 ⊢
    have hN0 : 0 < N := by rw [← eN]; omega
    obtain ⟨a2, ea2⟩ : ∃ a2, p2 = some a2 := by
      obtain ⟨a2, e, _⟩ := by_row (HC.out W0 (Below.refl _ _)).2 0 (by omega)
      exact ⟨a2, e⟩
    subst ea2
    have hok2 : ∀ y ∈ (l2.drop f).take N, y.ok := fun y hy => hoL y (List.mem_of_mem_drop (List.mem_of_mem_take hy))
    have c3 : ∀ w, Below W0.heap.size W0 w → Calls Try.prog 19 #[.int .i64 t, .slice (if d2 = f then some a2 else some (a2.add (f * 5))) (((f : Int) + (N : Int)).toNat - f) (d2 - f)] w fun e w' => e = .returned (unpack t ((l2.drop f).take N)).val ∧ Below w.heap.size w w' := fun w hb => by
      have := rUnpack_any t w (some (a2.add (f * 5))) (d2 - f) ((l2.drop f).take N) (by rw [hNE]; exact bys_part (HC.out w hb).2 f N (by omega)) hok2
      rw [hNE] at this
      have hbs : BysIn W0.heap.size W0 (some a2) l2.length d2 l2 := hby
      have := hbs.2.1
      rw [if_neg (by omega), show ((f : Int) + (N : Int)).toNat - f = N by omega]
      assumption
    obtain ⟨⟨uk, ub, ubk, uo⟩, eU⟩ : ∃ u, unpack t ((l2.drop f).take N) = u := ⟨_, rfl⟩
    simp only [eU] at c3 ⊢
    have hbs : BysIn W0.heap.size W0 (some a2) l2.length d2 l2 := hby
    have hd2 := hbs.2.1
    have hd3 := hbs.2.2.1
    clear hbs
    unfold maxLen at hd3
    have ti : (i : Int) < (xs.length : Int) := by omega
    have ew : IntKind.i64.wrap ((f : Int) + (N : Int)) = (f : Int) + (N : Int) := by rw [IntKind.wrap_i64]; omega
    clear hat hat2 hA hal hll hV hin hk2 hw ho0 eA eN eU hNE hok2 hoL hby f1
    have s1 : (f : Int) + (N : Int) ≤ (d2 : Int) := by omega
    have s2 : (f : Int) ≤ (f : Int) + (N : Int) := by omega
    have s3 : f + N ≤ d2 := by omega
    go_enter Try.func53, Try.ntmps53
    go_upto_region 1 with fail
    clear eW0
    go_wp2_with (first
      | ((with_reducible refine c1.mono ?_); rintro e w1 ⟨rfl, hb1⟩; have VR := BR.out.later hb1; have VBR := VR; have r0 := VR.get 0 _ rfl; have r1 := VR.get 1 _ rfl; have r2 := VR.get 2 _ rfl; have r3 := VR.get 3 _ rfl; have hlt := VR.1; have rf := VR.2.1; have VB := BV.out.later hb1; have v2 := VB.get 2 _ rfl; have v3 := VB.get 3 _ rfl; have HB1 := Lib.hid hb1; clear hb1 VR VB))
    obtain ⟨f1, _⟩ := HC.out w1 HB1.out
    have c3' : Calls Try.prog 19 #[.int .i64 t, .slice (if d2 = f then some a2 else some (a2.add (f * 5))) (((f : Int) + (N : Int)).toNat - f) (d2 - f)] w1.drew fun e w' => e = .returned (.agg #[.int .i64 uk, .int .u64 ub, .int .i64 ubk, .int .i64 uo]) ∧ Below w1.drew.heap.size w1.drew w' := c3 w1.drew (HB1.out.trans ((below_drew (Below.refl _ _)).mono HB1.out.size))
    have HV := Lib.hid VBR
    clear r0 r1 r2 r3 rf hlt
    go_region_law (first
      | (go_simp
         (with_reducible refine (c2 _).mono ?_)
         rintro e w6 ⟨rfl, rfl⟩)
      | (go_simp
         (with_reducible refine c3'.mono ?_)
         rintro e w7 ⟨rfl, hb7⟩
         have VR := HV.out.later (Below.trans (below_drew (Below.refl _ _)) hb7)
         have r0 := VR.get 0 _ rfl
         have r1 := VR.get 1 _ rfl
         have r2 := VR.get 2 _ rfl
         have r3 := VR.get 3 _ rfl
         have rf := VR.2.1
         have hlt := VR.1
         have HB7 := Lib.hid hb7
         clear VR hb7))
    all_goals
      go_wp2_with fail
      have P7 : Past W.heap.size W w7 := ⟨Nat.le_refl _, (HW0.out.trans (HB1.out.mono HW0.out.size)).trans ((Below.trans (below_drew (Below.refl _ _)) HB7.out).mono (Nat.le_trans HW0.out.size HB1.out.size))⟩
      exact bodyPost_ret (v := .tuple #[.agg #[.int .i64 uk, .int .u64 ub, .int .i64 ubk, .int .i64 uo], .bool true]) (by simp [results, Try.results53, go_sem, *]) rfl ⟨rfl, ((((P7.set (Nat.le_succ _) _).set (Nat.le_succ _) _).set (Nat.le_succ _) _).set (Nat.le_succ _) _).2⟩
end Go.Proofs.Ytkbkgbkoplcgeaa
