/- Package mem: what a memory shows behind Free; Set. -/
import Derived.Test.YtkbkgbkoplcgeaaMP
import Derived.Test.YtkbkgbkoplcgeaaMQ
namespace Go.Proofs.Ytkbkgbkoplcgeaa
open Go.RowKit Go.Maps
set_option linter.unusedVariables false
set_option linter.unusedSimpArgs false

theorem freeS_same {st : Ms} {k : Int} (h : atS st k = none) : freeS st k = st := by
  unfold freeS
  split
  · rename_i h0
    refine List.ext_getElem? fun j => ?_
    rw [List.getElem?_set]
    split
    · rename_i e
      subst e
      unfold atS at h
      rw [if_pos h0, List.getD_eq_getElem?_getD] at h
      split
      · rename_i hl
        rw [List.getElem?_eq_getElem hl] at h ⊢
        exact congrArg some h.symm
      · rename_i hl
        rw [List.getElem?_eq_none (by omega)]
    · rfl
  · rfl
theorem gone_freeS {st : Ms} {k : Int} {b : Bk} (h : atS st k = some b) (j : Int) : gone (freeS st k) j = (gone st j || j == k) := by
  obtain ⟨h0, h1, _⟩ := atS_some h
  by_cases hi : 0 ≤ j ∧ j < st.length
  · rw [gone_in hi, gone_in ⟨hi.1, by rw [freeS_len]; exact hi.2⟩, freeS_at]
    by_cases e : j = k
    · subst e; rw [if_pos rfl]; simp
    · rw [if_neg e]
      have : (j == k) = false := by simpa using e
      rw [this, Bool.or_false]
  · rw [gone_out hi, gone_out (by rw [freeS_len]; exact hi)]
    have : (j == k) = false := by simp; omega
    rw [this]; rfl
theorem view_free {o : Nat → Nat} {mb ab : Nat} {st : Ms} {w : World} (hM : MemIs o mb ab st w) (k : Int) : view (freeS st k) = dFree (view st) k := by
  unfold dFree
  rw [atD_view]
  cases h : atS st k with
  | none => rw [freeS_same h]; rfl
  | some b =>
    show view (freeS st k) = ((view st).set k.toNat none).map (Option.map (List.map (lostTo k)))
    obtain ⟨h0, h1, hb⟩ := atS_some h
    have hg := gone_freeS h
    have hnk : gone st k = false := by rw [gone_in ⟨h0, h1⟩, h]; rfl
    have e0 : freeS st k = st.set k.toNat none := by unfold freeS; rw [if_pos h0]
    have hseen : ∀ (i : Nat) (c : Bk), st[i]? = some (some c) → seenL (freeS st k) c 0 c.size = (seenL st c 0 c.size).map (lostTo k) := fun i c hc => by
      obtain ⟨f1, f2, f3, f4, f5⟩ := hM.fit i c hc
      unfold seenL
      rw [List.map_map]
      refine List.map_congr_left fun m _ => ?_
      show seenAt (freeS st k) c (0 + m) = lostTo k (seenAt st c (0 + m))
      unfold seenAt
      cases e : c.cs[0 + m]? with
      | none =>
        show c.all = lostTo k c.all
        unfold lostTo
        rw [if_neg (fun x => f3 x.1)]
      | some x =>
        have hx := f5 x (List.mem_of_getElem? e)
        show (if lostB (freeS st k) x then q0 else x.y) = lostTo k (if lostB st x then q0 else x.y)
        unfold lostB lostTo
        rw [hg]
        by_cases c1 : x.y.k = 2
        · cases hl : x.late with
          | true =>
            have h2 := (hx.2 hl).2
            have : ¬ x.y.bk = k := fun e => by rw [e, hnk] at h2; cases h2
            simp [c1, this]
          | false =>
            cases h3 : gone st x.y.bk with
            | true => simp [c1, q0]
            | false =>
              by_cases c2 : x.y.bk = k
              · simp [c1, c2, q0]
              · have : (x.y.bk == k) = false := by simpa using c2
                simp [c1, c2]
        · simp [c1]
    rw [e0] at hseen ⊢
    unfold view
    rw [List.map_set, List.map_set]
    refine List.ext_getElem? fun j => ?_
    rw [List.getElem?_set, List.getElem?_set, List.length_map, List.length_map, List.length_map]
    by_cases e : k.toNat = j
    · subst e; rw [if_pos rfl, if_pos rfl]; rfl
    · rw [if_neg e, if_neg e, List.getElem?_map, List.getElem?_map, List.getElem?_map]
      cases hj : st[j]? with
      | none => rfl
      | some x =>
        cases x with
        | none => rfl
        | some c => exact congrArg (fun z => some (some z)) (hseen j c hj)
/-- A memory that shows D lies in the blocks that o names. -/
def MemD (o : Nat → Nat) (mb : Nat) (D : Dm) (w : World) : Prop := ∃ ab st, MemIs o mb ab st w ∧ view st = D ∧ ∀ (i : Nat) (b : Bk), st[i]? = some (some b) → wf64 b.all.bk
def GoesD (o : Nat → Nat) (mb : Nat) (D : Dm) (w w' : World) : Prop := ∃ o', MemD o' mb D w' ∧ Only o w w' ∧ Ext o o' w
theorem Goes.pre {o : Nat → Nat} {mb ab : Nat} {st : Ms} {W w w' : World} (h : Below W.heap.size W w) (g : Goes o mb ab st w w') : Goes o mb ab st W w' := by
  obtain ⟨o', h1, h2, h3⟩ := g
  exact ⟨o', h1, (Only.of_below h).trans (Ext.refl _ _) h2, fun k hk => h3 k (Nat.lt_of_lt_of_le hk h.size)⟩
theorem MemD.later {o : Nat → Nat} {mb : Nat} {D : Dm} {w w' : World} (h : MemD o mb D w) (hb : Below w.heap.size w w') : MemD o mb D w' := by
  obtain ⟨ab, st, h1, h2, h3⟩ := h
  exact ⟨ab, st, h1.later hb, h2, h3⟩
theorem GoesD.read {o : Nat → Nat} {mb : Nat} {D : Dm} {w w' : World} (h : MemD o mb D w) (hb : Below w.heap.size w w') : GoesD o mb D w w' := ⟨o, h.later hb, Only.of_below hb, Ext.refl _ _⟩
theorem lit_cells6 (w : World) (ys : List Cl) (h : ys.length ≤ maxLen) : ListIn celC NoMem (w.alloc (.cells (ys.flatMap celC).toArray 102)).heap.size (w.alloc (.cells (ys.flatMap celC).toArray 102)) (some ⟨w.heap.size, 0, none⟩) ys.length ys.length ys :=
  ⟨rfl, Nat.le_refl _, h, fun j u hu => ⟨_, rfl, by simp, lit_cells w (ys.flatMap celC).toArray _ j u (by simpa using hu)⟩, fun _ _ => trivial⟩
theorem cells_in {B : Nat} {w : World} {p : Option Addr} {c : Nat} {ys : List Cl} (h : w.ownsRow B 102 6 (.slice p ys.length c) ys.length (ys.flatMap celC)) : ListIn celC NoMem w.heap.size w p ys.length c ys := by
  have hc : ys.length ≤ c ∧ c ≤ maxLen := by
    rcases h.2 with ⟨e, h0⟩ | ⟨g, cap, cur, e, _, _, h1, h2, _⟩
    · injection e with e1 e2 e3; exact ⟨by omega, by rw [e3]; unfold maxLen; omega⟩
    · injection e with e1 e2 e3; subst e3; exact ⟨h1, h2⟩
  refine ⟨rfl, hc.1, hc.2, fun j u hu => ?_, fun _ _ => trivial⟩
  rcases id h.2 with ⟨e, h0⟩ | ⟨g, cap, cur, e, _⟩
  · have : ys = [] := List.eq_nil_of_length_eq_zero h0
    subst this
    simp at hu
  · injection e with e1 e2 e3
    subst e1
    exact ⟨_, rfl, (h.lt g rfl).2, h.cells rfl j u hu⟩
theorem bytes_in {B n : Nat} {w : World} {p : Option Addr} {c : Nat} {ys : List By} (h : w.ownsRow B 32 5 (.slice p n c) n (ys.flatMap byC)) (hn : n = ys.length) : BysIn w.heap.size w p n c ys := by
  subst hn
  have hc : ys.length ≤ c ∧ c ≤ maxLen := by
    rcases h.2 with ⟨e, h0⟩ | ⟨g, cap, cur, e, _, _, h1, h2, _⟩
    · injection e with e1 e2 e3; exact ⟨by omega, by rw [e3]; unfold maxLen; omega⟩
    · injection e with e1 e2 e3; subst e3; exact ⟨h1, h2⟩
  refine ⟨rfl, hc.1, hc.2, fun j u hu => ?_, fun _ _ => trivial⟩
  rcases id h.2 with ⟨e, h0⟩ | ⟨g, cap, cur, e, _⟩
  · have : ys = [] := List.eq_nil_of_length_eq_zero h0
    subst this
    simp at hu
  · injection e with e1 e2 e3
    subst e1
    exact ⟨_, rfl, (h.lt g rfl).2, h.cells rfl j u hu⟩
theorem seenL_bytes {st : Ms} {k : Int} {b : Bk} (h : atS st k = some b) : dBytes (view st) k = seenL st b 0 b.size := by rw [dBytes_view]; unfold bytesS; rw [h]
theorem dSize_some {st : Ms} {k : Int} {b : Bk} (h : atS st k = some b) : dSize (view st) k = b.size := by rw [dSize_view]; unfold sizeS; rw [h]
theorem wf_set {st : Ms} {i : Nat} {b : Bk} (hw : ∀ (i : Nat) (b : Bk), st[i]? = some (some b) → wf64 b.all.bk) (hi : st[i]? = some (some b)) (b' : Bk) (he : b'.all = b.all) : ∀ (j : Nat) (c : Bk), (st.set i (some b'))[j]? = some (some c) → wf64 c.all.bk := fun j c hc => by
  rw [List.getElem?_set] at hc
  split at hc
  · split at hc
    · injection hc with hc
      injection hc with hc
      subst hc
      rw [he]; exact hw i b hi
    · cases hc
  · exact hw j c hc
/-- Behind a laying. -/
theorem layD {o : Nat → Nat} {mb ab : Nat} {st : Ms} {W w w' : World} {k : Int} {b : Bk} (h : atS st k = some b) (h2 : b.all.k ≠ 2) (hw : ∀ (i : Nat) (b : Bk), st[i]? = some (some b) → wf64 b.all.bk) (hb : Below W.heap.size W w) (a : Nat) (ys : List By) (hle : a + ys.length ≤ b.size)
    (g : ∃ p c, Goes o mb ab (st.set k.toNat (some (b.lay p c a (ys.map (layC st))))) w w') : GoesD o mb ((view st).set k.toNat (some (put (seenL st b 0 b.size) a ys))) W w' := by
  obtain ⟨p, c, g⟩ := g
  obtain ⟨_, _, hi⟩ := atS_some h
  obtain ⟨o', m1, m2, m3⟩ := g.pre hb
  refine ⟨o', ⟨ab, _, m1, view_lay hi rfl rfl h2 hle ?_, wf_set hw hi _ rfl⟩, m2, m3⟩
  show put (b.cs ++ List.replicate (a + (ys.map (layC st)).length - b.cs.length) (padC b)) a (ys.map (layC st)) = _
  rw [List.length_map]
  rfl
set_option maxHeartbeats 1000000 in
theorem Set_any (o : Nat → Nat) (mb : Nat) (D : Dm) (W : World) (k a b : Int) (hk : wf64 k) (ha : wf64 a) (hb : 0 ≤ b ∧ b ≤ 255) (h : MemD o mb D W) :
    Calls Try.prog 30 #[.pointer (some ⟨mb, 0, none⟩), .int .i64 k, .int .i64 a, .int .u8 b] W fun e w' => e = .returned (.bool (dSetOk D k a)) ∧ GoesD o mb (dSet D k a b) W w' := by
  obtain ⟨ab, st, hM, rfl, hw⟩ := h
  have HG0 := Lib.hid (GoesD.read ⟨ab, st, hM, rfl, hw⟩ (Below.refl W.heap.size W))
  have r0 := hM.box.get 0 _ rfl
  have r1 := hM.box.get 1 _ rfl
  have hl := hM.maps.look hk
  have b1 := bCl1
  have HM := Lib.hid hM
  have HW := Lib.hid hw
  cases e : atS st k with
  | none =>
    rw [e] at hl
    have hl2 : (Instr.lookup 80 (.map (some ab)) (.int .i64 k) false).run Try.prog W = .ok (.pointer none) W := hl
    have hz : dSetOk (view st) k a = false := by
      unfold dSetOk
      rw [dSize_view]
      unfold sizeS
      rw [e]
      by_cases h0 : 0 ≤ a
      · have : ¬ a < -1 := by omega
        simp [this]
      · simp [h0]
    unfold dSet
    rw [hz, if_neg (by decide)]
    clear hl hM hw e hz
    go_enter Try.func30, Try.ntmps30
    go_wp2_with fail
    go_ret
    exact ⟨rfl, HG0.out⟩
  | some c =>
    rw [e] at hl
    have hl2 : (Instr.lookup 80 (.map (some ab)) (.int .i64 k) false).run Try.prog W = .ok (.pointer (some ⟨c.pb, 0, none⟩)) W := hl
    obtain ⟨k0, _, hi⟩ := atS_some e
    have s0 := (hM.blk _ _ hi).2.1.get 0 _ rfl
    have h4 := (hM.fit _ _ hi).1
    have hs := dSize_some e
    have HE := Lib.hid e
    clear hl hM hw e
    by_cases h0 : a < 0
    · have hz : dSetOk (view st) k a = false := by
        unfold dSetOk
        have : ¬ 0 ≤ a := by omega
        simp [this]
      unfold dSet
      rw [hz, if_neg (by decide)]
      clear hz hs hi
      go_enter Try.func30, Try.ntmps30
      go_wp2_with fail
      go_ret
      exact ⟨rfl, HG0.out⟩
    · by_cases h1 : (c.size : Int) ≤ a
      · have hz : dSetOk (view st) k a = false := by
          unfold dSetOk
          rw [hs]
          have : ¬ a < c.size := by omega
          simp [this]
        unfold dSet
        rw [hz, if_neg (by decide)]
        clear hz hs hi
        go_enter Try.func30, Try.ntmps30
        go_wp2_with fail
        go_ret
        exact ⟨rfl, HG0.out⟩
      · have hz : dSetOk (view st) k a = true := by
          unfold dSetOk
          rw [hs]
          have h2 : 0 ≤ a := by omega
          have h3 : a < c.size := by omega
          simp [h2, h3]
        unfold dSet
        rw [hz, if_pos rfl, seenL_bytes HE.out]
        obtain ⟨A, rfl⟩ := Int.eq_ofNat_of_zero_le (show 0 ≤ a by omega)
        obtain ⟨i, rfl⟩ := Int.eq_ofNat_of_zero_le k0
        have hc1 : ∀ w, Calls Try.prog 41 #[.int .u8 b] w fun e w' => e = .returned (.agg #[.int .i64 1, .int .u8 b, .int .i64 0, .int .i64 0, .int .i64 0]) ∧ Below w.heap.size w w' := fun w => number_any b w
        have HFI := Lib.hid (HM.out.fit _ _ hi)
        have HI := Lib.hid hi
        have c2 : ∀ w, Below W.heap.size W w → Calls Try.prog 60 #[.pointer (some ⟨c.pb, 0, none⟩), .int .i64 A, .slice (some ⟨w.heap.size, 0, none⟩) 1 1] (w.alloc (.cells #[.int .i64 1, .int .u8 b, .int .i64 0, .int .i64 0, .int .i64 0, .bool false] 102)) fun e w' => e = .returned (.tuple #[]) ∧ GoesD o mb ((view st).set (Int.toNat i) (some (put (seenL st c 0 c.size) A [nB b]))) W w' := fun w hb' => by
          have hb2 : Below W.heap.size W (w.alloc (.cells #[.int .i64 1, .int .u8 b, .int .i64 0, .int .i64 0, .int .i64 0, .bool false] 102)) := hb'.alloc hb'.size _
          have el : layC st (nB b) = ⟨nB b, false⟩ := rfl
          refine (lay_any o mb ab st _ i c HI.out A ⟨w.heap.size, 0, none⟩ 1 [⟨nB b, false⟩] (by simp; omega) (by simp) (lit_cells6 w [⟨nB b, false⟩] (show 1 ≤ maxLen by decide)) ?_ ?_ (HW.out i c HI.out) (HM.out.later hb2)).mono ?_
          · by_cases e : o w.heap.size = 0
            · exact e
            · have := HM.out.inside _ e; have := hb'.size; omega
          · intro x hx
            simp at hx
            subst hx
            exact ⟨⟨hb, ⟨show (-9223372036854775808 : Int) ≤ 0 by decide, show (0 : Int) ≤ 9223372036854775807 by decide⟩⟩, fun e => by cases e⟩
          · rintro e w' ⟨rfl, g⟩
            exact ⟨rfl, layD HE.out HFI.out.2.2.1 HW.out hb2 A [nB b] (by simp; omega) (by rw [← el] at g; exact g)⟩
        clear hz hs hi
        go_enter Try.func30, Try.ntmps30
        go_wp2_with (first
          | ((with_reducible refine (hc1 _).mono ?_); rintro e w5 ⟨rfl, hb5⟩; have c3 := c2 _ hb5)
          | ((with_reducible refine c3.mono ?_); rintro e w6 ⟨rfl, hG⟩))
        go_ret
        exact ⟨rfl, hG⟩
end Go.Proofs.Ytkbkgbkoplcgeaa
