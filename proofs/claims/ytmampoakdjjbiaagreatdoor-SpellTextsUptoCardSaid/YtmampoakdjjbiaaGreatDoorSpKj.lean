/- A line put behind the others. -/
import Derived.Test.YtmampoakdjjbiaaGreatDoorSpKb
import Derived.Test.YtmampoakdjjbiaaGreatDoorSpKc
namespace Go.Proofs.YtmampoakdjjbiaaGreatDoor
open Go.RowKit Go.Maps
set_option linter.unusedVariables false
set_option linter.unusedSimpArgs false

theorem Bld.later {T : TypeId} {pre : List Value} {B b : Nat} {l : Tx} {w w' : World} (h : Bld T pre B b l w) (hb : Below w.heap.size w w') : Bld T pre B b l w' := by
  have hlt := h.lt
  obtain ⟨hB, p, v, h1, h2, h3, h4⟩ := h
  exact ⟨hB, p, v, (hb.block b hlt).trans h1, h2, ownsRow_below h3 hb, h4⟩
set_option maxRecDepth 100000 in
set_option maxHeartbeats 4000000 in
theorem line_any (m : LMod) (B b : Nat) (l : Tx) (w : World) (v : Value) (xs : List ByteArray) (hB : Bld 71 (modC m) B b l w) (hBw : B ≤ w.heap.size) (hs : SL w v xs) (hn : xs.length ≤ 1048576) (hlen : l.length + (layT (xs.map byt)).length + 1 ≤ 140737488355327) :
    Calls Tryz.prog 32 #[.pointer (some ⟨b, 0, none⟩), v] w fun e w' => e = .returned (.tuple #[]) ∧ Bld 71 (modC m) B b (l ++ layT (xs.map byt) ++ [10]) w' ∧ Below B w w' ∧ Kp b w w' := by
  obtain ⟨p, c, rfl⟩ := hs.slice
  have cL : ∀ w', Hid (Below w.heap.size w w') → Calls Tryz.prog 74 #[.slice p xs.length c] w' fun e w'' => e = .returned (.string (mkS (layT (xs.map byt)))) ∧ Hid (Below w.heap.size w w'') := fun w' h =>
    (lay_any _ xs w' (hs.later h.out) hn (by omega)).mono fun e w'' ⟨he, hb⟩ => ⟨he, Lib.hid (h.out.trans (hb.mono h.out.size))⟩
  have cW : ∀ w', Hid (Below w.heap.size w w') → Calls Tryz.prog 73 #[.pointer (some ⟨b, 3, none⟩), .string (mkS (layT (xs.map byt)))] w' fun e w'' => e = .returned (.tuple #[.int .i64 (mkS (layT (xs.map byt))).size, .nilIface]) ∧ Hid (Bld 71 (modC m) B b (l ++ layT (xs.map byt)) w'' ∧ Below B w w'' ∧ Kp b w w'') := fun w' h =>
    (WriteString_any (pre := modC m) lies_sp B b l (mkS (layT (xs.map byt))) w' (hB.later h.out) (by rw [size_mkS]; omega)).mono fun e w'' ⟨he, h1, h2, h3⟩ => ⟨he, Lib.hid ⟨by rw [byt_mkS] at h1; exact h1.bld, (h.out.mono hBw).trans h2, (Kp.below b h.out).trans h3⟩⟩
  have cC : ∀ w', Bld 71 (modC m) B b (l ++ layT (xs.map byt)) w' → Calls Tryz.prog 75 #[.pointer (some ⟨b, 3, none⟩), .int .u8 10] w' fun e w'' => e = .returned .nilIface ∧ BldU 71 (modC m) B b (l ++ layT (xs.map byt) ++ [10]) w'' ∧ Below B w' w'' ∧ Kp b w' w'' := fun w' h =>
    WriteByte_any (pre := modC m) lies_sp B b _ 10 w' h (by rw [List.length_append]; omega)
  obtain ⟨s, es⟩ : ∃ s, mkS (layT (xs.map byt)) = s := ⟨_, rfl⟩
  obtain ⟨L, eL⟩ : ∃ L, layT (xs.map byt) = L := ⟨_, rfl⟩
  obtain ⟨n, en⟩ : ∃ n, xs.length = n := ⟨_, rfl⟩
  simp only [es, en] at cL cW
  simp only [eL] at cC cW ⊢
  have CC := Lib.hid cC
  have h0 : Hid (Below w.heap.size w w) := Lib.hid (Below.refl _ _)
  have h0d : Hid (Below w.heap.size w w.drew) := Lib.hid (below_drew (Below.refl _ _))
  clear hB hs hlen cC es eL
  rw [en]
  clear en hn hBw
  go_enter Tryz.func32, Tryz.ntmps32
  go_upto_region 0 with fail
  go_region_law (first
    | (go_simp
       (with_reducible refine (cL _ ?pre).mono ?_)
       case pre => (first | exact h0 | exact h0d)
       rintro ee w5 ⟨rfl, h5⟩)
    | (go_simp
       (with_reducible refine (cW _ ?pre).mono ?_)
       case pre => exact h5
       rintro ee w6 ⟨rfl, h6⟩))
  all_goals
    have cc := CC.out w6 h6.out.1
    clear cL cW h0 h0d
    go_wp2_with fail
    refine cc.mono ?_
    rintro e w7 ⟨rfl, h1, h2, h3⟩
    have HF := Lib.hid (And.intro h1.bld (And.intro (h6.out.2.1.trans h2) (h6.out.2.2.trans h3)))
    clear h1 h2 h3 cc
    go_wp2_with fail
    go_end0
    exact ⟨rfl, HF.out.1, HF.out.2.1, HF.out.2.2⟩
end Go.Proofs.YtmampoakdjjbiaaGreatDoor
