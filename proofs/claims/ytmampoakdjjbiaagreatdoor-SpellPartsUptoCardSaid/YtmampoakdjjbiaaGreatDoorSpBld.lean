/- A strings.Builder of the call's own, in a block of its own or a field of one: copyCheck, WriteByte, WriteString, Len, String. -/
import Derived.Test.YtmampoakdjjbiaaGreatDoorSpPure
import Derived.Shelf.Strings.Builder1
import Derived.BigQuiet
namespace Go.Proofs.YtmampoakdjjbiaaGreatDoor
open Go.RowKit Go.Maps
set_option linter.unusedVariables false
set_option linter.unusedSimpArgs false

/-- Block b holds some cells and behind them a builder, which holds these bytes. -/
def Bld (T : TypeId) (pre : List Value) (B b : Nat) (l : Tx) (w : World) : Prop :=
  B ≤ b ∧ ∃ p v, w.heap[b]? = some (.cells (pre ++ [p, v]).toArray T (0, 0)) ∧ (p = .pointer none ∨ p = .pointer (some ⟨b, pre.length, none⟩)) ∧ w.ownsRow B 5 1 v l.length (Lib.byteCells l) ∧ v.ownBlock ≠ some b
/-- It has been written. -/
def BldU (T : TypeId) (pre : List Value) (B b : Nat) (l : Tx) (w : World) : Prop :=
  B ≤ b ∧ ∃ v, w.heap[b]? = some (.cells (pre ++ [.pointer (some ⟨b, pre.length, none⟩), v]).toArray T (0, 0)) ∧ w.ownsRow B 5 1 v l.length (Lib.byteCells l) ∧ v.ownBlock ≠ some b
theorem BldU.bld {T : TypeId} {pre : List Value} {B b : Nat} {l : Tx} {w : World} (h : BldU T pre B b l w) : Bld T pre B b l w := by
  obtain ⟨hB, v, h1, h2, h3⟩ := h
  exact ⟨hB, _, v, h1, .inr rfl, h2, h3⟩
theorem Bld.lt {T : TypeId} {pre : List Value} {B b : Nat} {l : Tx} {w : World} (h : Bld T pre B b l w) : b < w.heap.size := by
  obtain ⟨_, p, v, hb, _⟩ := h
  rcases Nat.lt_or_ge b w.heap.size with h' | h'
  · exact h'
  · simp [Array.getElem?_eq_none h'] at hb
/-- Blocks of other types than bytes stand, but the builder's own. -/
def Kp (b : Nat) (w w' : World) : Prop := ∀ k, k ≠ b → ∀ cs T q, T ≠ 5 → w.heap[k]? = some (.cells cs T q) → w'.heap[k]? = some (.cells cs T q)
theorem heap_lt {w : World} {k : Nat} {o : Obj} (h : w.heap[k]? = some o) : k < w.heap.size := by
  rcases Nat.lt_or_ge k w.heap.size with h' | h'
  · exact h'
  · simp [Array.getElem?_eq_none h'] at h
theorem Kp.refl (b : Nat) (w : World) : Kp b w w := fun _ _ _ _ _ _ h => h
theorem Kp.trans {b : Nat} {w w1 w2 : World} (h : Kp b w w1) (k : Kp b w1 w2) : Kp b w w2 := fun j hj cs T q hT hh => k j hj cs T q hT (h j hj cs T q hT hh)
theorem Kp.below (b : Nat) {w w' : World} (h : Below w.heap.size w w') : Kp b w w' := fun k _ cs T q _ hh => (h.block k (heap_lt hh)).trans hh
theorem Kp.setCell (b : Nat) (w : World) (i : Nat) (v : Value) : Kp b w (w.setCell ⟨b, i, none⟩ v) := fun k hk cs T q _ hh => (Below.heap_setCell _ _ _ _ (fun e => hk (by simp [e]))).trans hh
theorem Kp.grown {b B : Nat} {w w' : World} {v : Value} {n : Nat} {cs : List Value} (hown : w.ownsRow B 5 1 v n cs) (hg : w.grownBy w' v.ownBlock) : Kp b w w' := fun k hk cs' T q hT hh =>
  (hg.block k (heap_lt hh) (fun e => by
    rcases hown.2 with ⟨rfl, _⟩ | ⟨g, cap, cur, rfl, _, hgg, _⟩
    · cases e
    · have : k = g := by simpa [Value.ownBlock] using e
      subst this
      rw [hgg] at hh
      injection hh with hh
      injection hh with _ h2 _
      exact hT h2.symm)).trans hh
theorem cells_pre (pre : List Value) (p v : Value) : (pre ++ [p, v]).toArray[pre.length]? = some p := by simp
theorem cells_pre1 (pre : List Value) (p v : Value) : (pre ++ [p, v]).toArray[pre.length + 1]? = some v := by simp
theorem cells_set0 (pre : List Value) (p v q : Value) : (pre ++ [p, v]).toArray.setIfInBounds pre.length q = (pre ++ [q, v]).toArray := by simp
theorem cells_set1 (pre : List Value) (p v q : Value) : (pre ++ [p, v]).toArray.setIfInBounds (pre.length + 1) q = (pre ++ [p, q]).toArray := by
  rw [List.setIfInBounds_toArray, List.set_append_right _ _ (by omega)]
  congr 2
  rw [show pre.length + 1 - pre.length = 1 by omega]
  rfl
set_option maxHeartbeats 1000000 in
set_option maxRecDepth 100000 in
theorem copyCheck_used (b o : Nat) (w : World) (h0 : w.cell? ⟨b, o, none⟩ = some (.pointer (some ⟨b, o, none⟩))) :
    Calls Tryz.prog 101 #[.pointer (some ⟨b, o, none⟩)] w fun e w' => e = .returned (.tuple #[]) ∧ w' = w := by
  have hs : (Tryz.prog.info? 69).map (·.size) = some 2 := by kernel_rfl
  obtain ⟨j, hj, _⟩ := Option.map_eq_some_iff.1 hs
  clear hs
  have HJ := Lib.hid hj
  clear hj
  go_enter Tryz.func101, Tryz.ntmps101
  go_wp2
  rw [Lib.run_neq_ptr_same w _ Tryz.underlying66 HJ.out]
  go_wp2
  go_end0
  exact ⟨rfl, rfl⟩
set_option maxHeartbeats 1000000 in
set_option maxRecDepth 100000 in
theorem copyCheck_fresh (T : TypeId) (b o n : Nat) (w : World) (h0 : w.cell? ⟨b, o, none⟩ = some (.pointer none)) (hsh : w.shape? b = some (T, n)) (ho : o < n) (hl : liesAt Tryz.prog Tryz.prog.depth T (n / Tryz.prog.cellsOf T) o 69 1 = true) (hfz : w.frozen? ⟨b, o, none⟩ = false) :
    Calls Tryz.prog 101 #[.pointer (some ⟨b, o, none⟩)] w fun e w' => e = .returned (.tuple #[]) ∧ w' = w.setCell ⟨b, o, none⟩ (.pointer (some ⟨b, o, none⟩)) := by
  have hs : (Tryz.prog.info? 69).map (·.size) = some 2 := by kernel_rfl
  obtain ⟨j, hj, hjs⟩ := Option.map_eq_some_iff.1 hs
  clear hs
  have HJ := Lib.hid hj
  have HS := Lib.hid hjs
  have HSH := Lib.hid hsh
  have HL := Lib.hid hl
  have HO := Lib.hid ho
  clear hj hjs hsh hl ho
  go_enter Tryz.func101, Tryz.ntmps101
  go_wp2
  rw [Lib.run_to_unsafe w ⟨b, o, none⟩ Tryz.underlying66 Tryz.underlying127 HJ.out (by rw [HS.out]; decide) HSH.out HO.out]
  simp only [Result.andThen]
  rw [Oper.upon_value]
  go_wp2
  rw [run_callFunc_extern Tryz.func116 (by kernel_rfl) (by kernel_rfl) (by kernel_rfl) (e := Extern.AbiNoEscape.same) (by kernel_rfl)]
  rw [Lib.run_noEscape]
  simp only [Result.andThen]
  rw [Oper.upon_value]
  go_wp2
  rw [Lib.run_from_unsafe w ⟨b, o, none⟩ Tryz.underlying127 Tryz.underlying66 HJ.out HSH.out HL.out]
  simp only [Result.andThen]
  rw [Oper.upon_value]
  go_wp2
  go_end0
  exact ⟨rfl, rfl⟩
/-- A type whose variables hold a builder behind so many cells. -/
def LiesB (T : TypeId) (o : Nat) : Prop := liesAt Tryz.prog Tryz.prog.depth T ((o + 2) / Tryz.prog.cellsOf T) o 69 1 = true ∧ T ≠ 5
theorem lies_own : LiesB 69 0 := ⟨by kernel_rfl, by decide⟩
theorem lies_sp : LiesB 71 3 := ⟨by kernel_rfl, by decide⟩
theorem copyCheck_any {T : TypeId} {pre : List Value} (hT : LiesB T pre.length) (B b : Nat) (l : Tx) (w : World) (h : Bld T pre B b l w) :
    Calls Tryz.prog 101 #[.pointer (some ⟨b, pre.length, none⟩)] w fun e w' => e = .returned (.tuple #[]) ∧ BldU T pre B b l w' ∧ Below B w w' ∧ w'.heap.size = w.heap.size ∧ Kp b w w' := by
  obtain ⟨hB, p, v, hb, hp, hown, hne⟩ := h
  have c0 : w.cell? ⟨b, pre.length, none⟩ = some p := by rw [Lib.cell_of_heap hb]; exact cells_pre _ _ _
  rcases hp with rfl | rfl
  · refine (copyCheck_fresh T b pre.length (pre.length + 2) w c0 (by simp [World.shape?, hb]) (by omega) hT.1 (Lib.frozen_of_heap hb _)).mono ?_
    rintro e w' ⟨rfl, rfl⟩
    refine ⟨rfl, ⟨hB, v, ?_, ?_, hne⟩, (Below.refl B w).setCell (p := ⟨b, pre.length, none⟩) hB _, by simp [World.setCell], Kp.setCell _ _ _ _⟩
    · rw [Lib.heap_setCell_same (i := pre.length) hb, cells_set0]
    · refine hown.kept (row := some b) ⟨rfl, rfl, rfl, by simp [World.setCell], fun k _ hk => Below.heap_setCell _ _ _ _ (fun e => hk (by simp [e]))⟩ (Or.inr hne)
  · refine (copyCheck_used b pre.length w c0).mono ?_
    rintro e w' ⟨rfl, rfl⟩
    exact ⟨rfl, ⟨hB, v, hb, hown, hne⟩, Below.refl _ _, rfl, Kp.refl _ _⟩
theorem bld_put {T : TypeId} {pre : List Value} {B b : Nat} {v v' : Value} {l : Tx} {w : World} (hT : T ≠ 5) (hB : B ≤ b) (hb : w.heap[b]? = some (.cells (pre ++ [.pointer (some ⟨b, pre.length, none⟩), v]).toArray T (0, 0))) (hown : w.ownsRow B 5 1 v' l.length (Lib.byteCells l)) :
    BldU T pre B b l (w.setCell ⟨b, pre.length + 1, none⟩ v') := by
  have hne := Lib.ownBlock_ne hown hb hT
  refine ⟨hB, v', ?_, ?_, hne⟩
  · rw [Lib.heap_setCell_same (i := pre.length + 1) hb, cells_set1]
  · exact hown.kept (row := some b) ⟨rfl, rfl, rfl, by simp [World.setCell], fun k _ hk => Below.heap_setCell _ _ _ _ (fun e => hk (by simp [e]))⟩ (Or.inr hne)
theorem infoU8 : (Tryz.prog.info? 5).map (fun i => (i.zero, i.size, i.bytes)) = some (some (.int .u8 0), 1, 1) := by kernel_rfl
set_option maxHeartbeats 2000000 in
set_option maxRecDepth 100000 in
theorem WriteByte_any {T : TypeId} {pre : List Value} (hT : LiesB T pre.length) (B b : Nat) (l : Tx) (c : UInt8) (w : World) (h : Bld T pre B b l w) (hlen : l.length + 1 ≤ 140737488355328) :
    Calls Tryz.prog 75 #[.pointer (some ⟨b, pre.length, none⟩), .int .u8 c.toNat] w fun e w' => e = .returned .nilIface ∧ BldU T pre B b (l ++ [c]) w' ∧ Below B w w' ∧ Kp b w w' := by
  obtain ⟨i0, hi, hz0, hz1, hz2⟩ := info_parts infoU8
  have HI := Lib.hid (And.intro hi (And.intro hz0 (And.intro hz1 hz2)))
  clear hi hz0 hz1 hz2
  have HT := Lib.hid hT
  clear hT
  obtain ⟨n, en⟩ : ∃ n : Int, n = c.toNat := ⟨_, rfl⟩
  rw [← en]
  have EN := Lib.hid en
  clear en
  have hlt0 := h.lt
  have cc := copyCheck_any HT.out B b l w h
  have hBb : B ≤ b := h.1
  clear h
  obtain ⟨o, eo⟩ : ∃ o, pre.length = o := ⟨_, rfl⟩
  rw [eo] at cc ⊢
  have EO := Lib.hid eo
  clear eo
  have CC := Lib.hid cc
  clear cc
  go_enter Tryz.func75, Tryz.ntmps75
  go_wp2_with fail
  refine CC.out.mono ?_
  rintro e w1 ⟨rfl, h1, hb1, hsz, hkp⟩
  have HKP := Lib.hid hkp
  clear hkp
  obtain ⟨hB, v, hbk, hown, hne⟩ := h1
  have c0 : w1.cell? ⟨b, o, none⟩ = some (.pointer (some ⟨b, o, none⟩)) := by rw [Lib.cell_of_heap hbk, ← EO.out]; exact cells_pre _ _ _
  have c1 : w1.cell? ⟨b, o + 1, none⟩ = some v := by rw [Lib.cell_of_heap hbk, ← EO.out]; exact cells_pre1 _ _ _
  have HB := Lib.hid hbk
  have HSZ := Lib.hid hsz
  clear hbk hsz
  go_wp2_with (at_builtin; refine wpList_append_own _ rfl _ _ 67 rfl B 5 i0 (.int .u8 0) 1 1 Tryz.underlying67 HI.out.1 HI.out.2.1 HI.out.2.2.1 HI.out.2.2.2 rfl (by decide) _ _ _ rfl (hown.alloc _) ⟨w1.heap.size, 0, none⟩ 1 1 [.int .u8 n] rfl rfl ?c1 ?c2 ?c3 ?c4 ?c5 ?_)
  case c1 =>
    intro j u hj
    match j, hj with
    | 0, hj => simp at hj; subst hj; simp [Addr.add]
  case c2 => intro u hu; simp at hu; subst hu; rfl
  case c3 => unfold maxLen; omega
  case c4 => omega
  case c5 => have := HSZ.out; simp; omega
  intro v' w2 hown' hgrow _
  have hlt : b < w1.heap.size := by have := HSZ.out; omega
  have hb2 : w2.heap[b]? = some (.cells (pre ++ [.pointer (some ⟨b, pre.length, none⟩), v]).toArray T (0, 0)) := by
    rw [hgrow.block b (by simp; omega) (fun e => hne e.symm), Lib.alloc_old w1 _ b hlt]
    exact HB.out
  have d0 : w2.cell? ⟨b, o, none⟩ = some (.pointer (some ⟨b, o, none⟩)) := by rw [Lib.cell_of_heap hb2, ← EO.out]; exact cells_pre _ _ _
  have d1 : w2.cell? ⟨b, o + 1, none⟩ = some v := by rw [Lib.cell_of_heap hb2, ← EO.out]; exact cells_pre1 _ _ _
  have f1 : w2.frozen? ⟨b, o + 1, none⟩ = false := Lib.frozen_of_heap hb2 _
  have HB2 := Lib.hid hb2
  clear hb2
  obtain ⟨g, cap, rfl⟩ : ∃ g cap, v' = .slice (some ⟨g, 0, none⟩) (l.length + 1) cap := by
    rcases hown'.2 with ⟨_, h0⟩ | ⟨g, cap, cur, hv, _⟩
    · omega
    · exact ⟨g, cap, hv⟩
  have HO := Lib.hid hown'
  have HG := Lib.hid hgrow
  have HW := Lib.hid hown
  have HB1 := Lib.hid hb1
  clear hown' hgrow hown hb1
  go_wp2
  go_ret
  refine ⟨rfl, ?_, ?_, ?_⟩
  · rw [← EO.out]
    refine bld_put (l := l ++ [c]) HT.out.2 hB HB2.out ?_
    have hl : Lib.byteCells (l ++ [c]) = Lib.byteCells l ++ [.int .u8 n] := by rw [EN.out]; simp [Lib.byteCells]
    rw [hl, List.length_append]
    exact HO.out
  · exact ((HB1.out.alloc (by have := HB1.out.size; omega) _).grown HG.out (by have := HB1.out.size; simp; omega) (fun k hk => (HW.out.lt k hk).1)).setCell (p := ⟨b, o + 1, none⟩) hB _
  · exact ((HKP.out.trans (Kp.below b ((Below.refl _ _).alloc (Nat.le_refl _) _))).trans (Kp.grown (HW.out.alloc _) HG.out)).trans (Kp.setCell _ _ _ _)
theorem strCells_byt (s : ByteArray) : Lib.strCells s = Lib.byteCells (byt s) := rfl
set_option maxHeartbeats 2000000 in
set_option maxRecDepth 100000 in
theorem WriteString_any {T : TypeId} {pre : List Value} (hT : LiesB T pre.length) (B b : Nat) (l : Tx) (s : ByteArray) (w : World) (h : Bld T pre B b l w) (hlen : l.length + s.size ≤ 140737488355328) :
    Calls Tryz.prog 73 #[.pointer (some ⟨b, pre.length, none⟩), .string s] w fun e w' => e = .returned (.tuple #[.int .i64 s.size, .nilIface]) ∧ BldU T pre B b (l ++ byt s) w' ∧ Below B w w' ∧ Kp b w w' := by
  obtain ⟨i0, hi, hz0, hz1, hz2⟩ := info_parts infoU8
  have HI := Lib.hid (And.intro hi (And.intro hz0 (And.intro hz1 hz2)))
  clear hi hz0 hz1 hz2
  have HT := Lib.hid hT
  clear hT
  have hlt0 := h.lt
  have cc := copyCheck_any HT.out B b l w h
  have hBb : B ≤ b := h.1
  clear h
  obtain ⟨o, eo⟩ : ∃ o, pre.length = o := ⟨_, rfl⟩
  rw [eo] at cc ⊢
  have EO := Lib.hid eo
  clear eo
  have CC := Lib.hid cc
  clear cc
  have hbl : (Lib.byteCells l).length = l.length := Lib.byteCells_length l
  have HL := Lib.hid hbl
  clear hbl
  go_enter Tryz.func73, Tryz.ntmps73
  go_wp2_with fail
  refine CC.out.mono ?_
  rintro e w1 ⟨rfl, h1, hb1, hsz, hkp⟩
  have HKP := Lib.hid hkp
  clear hkp
  obtain ⟨hB, v, hbk, hown, hne⟩ := h1
  have c0 : w1.cell? ⟨b, o, none⟩ = some (.pointer (some ⟨b, o, none⟩)) := by rw [Lib.cell_of_heap hbk, ← EO.out]; exact cells_pre _ _ _
  have c1 : w1.cell? ⟨b, o + 1, none⟩ = some v := by rw [Lib.cell_of_heap hbk, ← EO.out]; exact cells_pre1 _ _ _
  have HB := Lib.hid hbk
  have HSZ := Lib.hid hsz
  clear hbk hsz
  go_wp2_with (at_builtin; refine Lib.wpList_append_own_string _ rfl _ _ 67 9 rfl B 5 i0 Tryz.underlying67 Tryz.underlying9 HI.out.1 HI.out.2.1 HI.out.2.2.1 HI.out.2.2.2 _ _ _ rfl hown s rfl ?c3 ?c4 ?c5 ?_)
  case c3 => unfold maxLen; omega
  case c4 => omega
  case c5 => have := HSZ.out; omega
  intro v' w2 hown' hgrow _
  have hlt : b < w1.heap.size := by have := HSZ.out; omega
  have hb2 : w2.heap[b]? = some (.cells (pre ++ [.pointer (some ⟨b, pre.length, none⟩), v]).toArray T (0, 0)) := by
    rw [hgrow.block b hlt (fun e => hne e.symm)]
    exact HB.out
  have d0 : w2.cell? ⟨b, o, none⟩ = some (.pointer (some ⟨b, o, none⟩)) := by rw [Lib.cell_of_heap hb2, ← EO.out]; exact cells_pre _ _ _
  have d1 : w2.cell? ⟨b, o + 1, none⟩ = some v := by rw [Lib.cell_of_heap hb2, ← EO.out]; exact cells_pre1 _ _ _
  have f1 : w2.frozen? ⟨b, o + 1, none⟩ = false := Lib.frozen_of_heap hb2 _
  have HB2 := Lib.hid hb2
  clear hb2
  obtain ⟨ao, n', cap, rfl⟩ : ∃ ao n' cap, v' = .slice ao n' cap := by
    rcases hown'.2 with ⟨hv, _⟩ | ⟨g, cap, cur, hv, _⟩
    · exact ⟨_, _, _, hv⟩
    · exact ⟨_, _, _, hv⟩
  have HO := Lib.hid hown'
  have HG := Lib.hid hgrow
  have HW := Lib.hid hown
  have HB1 := Lib.hid hb1
  clear hown' hgrow hown hb1
  go_wp2
  go_ret2
  refine ⟨rfl, ?_, ?_, ?_⟩
  · rw [← EO.out]
    refine bld_put (l := l ++ byt s) HT.out.2 hB HB2.out ?_
    have hl : Lib.byteCells (l ++ byt s) = Lib.byteCells l ++ Lib.strCells s := by simp [Lib.byteCells, Lib.strCells, byt]
    rw [hl, List.length_append]
    have := HO.out
    rw [show (byt s).length = s.size by simp [byt]]
    exact this
  · exact (HB1.out.grown HG.out (by have := HB1.out.size; omega) (fun k hk => (HW.out.lt k hk).1)).setCell (p := ⟨b, o + 1, none⟩) hB _
  · exact (HKP.out.trans (Kp.grown HW.out HG.out)).trans (Kp.setCell _ _ _ _)
end Go.Proofs.YtmampoakdjjbiaaGreatDoor
