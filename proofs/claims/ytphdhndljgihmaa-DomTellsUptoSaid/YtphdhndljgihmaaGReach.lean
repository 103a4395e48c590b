/- Package graph: Reach. -/
import Derived.Test.YtphdhndljgihmaaGPreB
namespace Go.Proofs.Ytphdhndljgihmaa
open Go.RowKit Go.Maps
set_option linter.unusedVariables false
set_option linter.unusedSimpArgs false

/-- A row of bools of one's own. -/
def OwnBools (n : Nat) (f : Nat → Bool) (W : World) (e : Ending) (w' : World) : Prop :=
  ∃ R, e = .returned (.slice (some ⟨R, 0, none⟩) n n) ∧ Past W.heap.size W w' ∧ W.heap.size ≤ R ∧ w'.rowIs R 4 n (fun i => .bool (f i))
theorem mem_take_succ (L : List Nat) (i j : Nat) (hi : i < L.length) : j ∈ L.take (i + 1) ↔ j ∈ L.take i ∨ j = L[i] := by
  rw [List.take_succ_eq_append_getElem hi, List.mem_append, List.mem_singleton]
set_option maxRecDepth 100000 in
set_option maxHeartbeats 2000000 in
theorem Reach_own (f : LFn) (W : World) (hf : FnIn W.heap.size W f) (hs : FnSm f) (hbs : f.bs.length ≤ 1048576) (L : List Nat) (hL : OrderIs (succP (fnD f).bs) f.bs.length L) :
    Calls Try.prog 25 #[.agg (fnC f).toArray] W (OwnBools f.bs.length (fun i => decide (i ∈ L)) W) := by
  have hmk := run_make_row' (P := Try.prog) 38 4 _ _ Try.underlying38 infoBool rfl .i64 .i64 f.bs.length (by omega) (by omega)
  have hP := (Past.refl (Nat.le_refl W.heap.size)).alloc (.cells (fnC f).toArray 25)
  have A1 : Box W.heap.size (fnC f) (W.alloc (.cells (fnC f).toArray 25)) := Box.new W rfl _ _
  have cS : ∀ (w : World), Past W.heap.size W w → Calls Try.prog 26 #[.agg (fnC f).toArray] w (OwnInts L w) := fun w h => Order_own f w (past_lasts lasts_Fn hf h) hs hbs L hL
  have hO := hL.ordered (fun b t ht => by
    have := succP_lt _ _ t ht
    simpa [fnD] using this)
  have HL : Hid (∀ x ∈ L, x < f.bs.length) := Lib.hid hO.lt
  have hLn : L.length ≤ f.bs.length := nodup_lt _ _ hO.nd hO.lt
  clear hO hL
  obtain ⟨nm, pp, pn, pc, ps, rt, bp, bn, bc, bs⟩ := f
  obtain rfl : bn = bs.length := hf.2.1
  show Calls Try.prog 25 #[.agg #[.string nm, .slice pp pn pc, .int .i64 rt, .slice bp bs.length bc]] W _
  have hfc : fnC ⟨nm, pp, pn, pc, ps, rt, bp, bs.length, bc, bs⟩ = [.string nm, .slice pp pn pc, .int .i64 rt, .slice bp bs.length bc] := rfl
  rw [hfc] at A1 hP
  simp only [hfc] at cS
  obtain ⟨n, en⟩ : ∃ n, bs.length = n := ⟨_, rfl⟩
  simp only [en] at cS A1 hP hbs HL hLn hmk ⊢
  have a3 := A1.get 3 _ rfl
  have r1 := World.rowIs_made (W.alloc (.cells #[.string nm, .slice pp pn pc, .int .i64 rt, .slice bp n bc] 25)) (.bool false) n 4
  rw [World.size_alloc] at r1
  have P1 := hP.alloc (.cells (madeCells #[.bool false] n) 4)
  have A2 := A1.alloc (.cells (madeCells #[.bool false] n) 4)
  have b0 := A2.get 0 _ rfl
  have b1 := A2.get 1 _ rfl
  have b2 := A2.get 2 _ rfl
  have b3 := A2.get 3 _ rfl
  have c1 := cS _ P1
  have HB := Lib.hid (And.intro P1 r1)
  clear cS hP A1 A2 P1 r1 hf hs hfc en
  go_enter Try.func25, Try.ntmps25
  go_wp2_with fail
  refine c1.mono ?_
  rintro e w1 ⟨p, c, rfl, hp1, ho1⟩
  have r1 := HB.out.2.of_block (hp1.2.block _ HB.out.2.lt)
  have P1 := HB.out.1.trans ⟨HB.out.1.size, hp1.2.mono HB.out.1.size⟩
  obtain ⟨wa, ewa⟩ : ∃ wa, ((W.alloc (.cells #[.string nm, .slice pp pn pc, .int .i64 rt, .slice bp n bc] 25)).alloc (.cells (madeCells #[.bool false] n) 4)) = wa := ⟨_, rfl⟩
  have hwa : W.heap.size + 1 < wa.heap.size := by rw [← ewa]; simp
  rw [ewa] at ho1
  have HX := Lib.hid (And.intro P1 (And.intro ho1 r1))
  clear hmk a3 b0 b1 b2 b3 c1 r1 P1 ho1 hp1 HB ewa
  go_wp2_with fail
  go_loopw [13] (fun t wr => ∃ i : Nat, i ≤ L.length ∧ t = .int .i64 i ∧ Past W.heap.size W wr ∧ ListOwn 3 1 intC NoOwn wa.heap.size w1.heap.size wr p L.length c (ints L) ∧ wr.rowIs (W.heap.size + 1) 4 n (fun j => .bool (decide (j ∈ L.take i))) ∧ w1.heap.size ≤ wr.heap.size) (fun t _ => L.length - (intOf t).toNat)
  case atStart => exact ⟨0, Nat.zero_le _, rfl, HX.out.1, HX.out.2.1, HX.out.2.2.congr (fun j _ => by simp), Nat.le_refl _⟩
  case round =>
    obtain ⟨i, hile, rfl, hP, ho, hr, hz⟩ := hrel
    by_cases hlt : i < L.length
    · obtain ⟨a, rfl, ha, hc⟩ := int_row (ints_in ho hz) i (by rw [ints_len]; exact hlt)
      rw [ints_get L i hlt] at hc
      have hx := HL.out _ (List.getElem_mem hlt)
      have hm := fun j => mem_take_succ L i j hlt
      obtain ⟨x, ex⟩ : ∃ x, L[i] = x := ⟨_, rfl⟩
      rw [ex] at hc hx
      simp only [ex] at hm
      have k0 := hr.cell hx
      have kf := hr.frozen x
      have HH := Lib.hid (And.intro hP (And.intro ho (And.intro hr hm)))
      clear hP ho hr hm ex
      go_wp2_with fail
      have hs : Stay wa.heap.size w1.heap.size wr (wr.setCell ⟨W.heap.size + 1, x, none⟩ (.bool true)) := fun k h1 h2 => Below.heap_setCell _ _ _ _ (by dsimp only; omega)
      refine ⟨⟨i + 1, by omega, by go_num, HH.out.1.set (a := ⟨W.heap.size + 1, x, none⟩) (by dsimp only; omega) _, HH.out.2.1.stay local_NoOwn hs, (HH.out.2.2.1.set x _).congr (fun j hj => ?_), by rw [setCell_size]; exact hz⟩, by simp [intOf]; omega⟩
      simp only [HH.out.2.2.2 j]
      by_cases e : j = x
      · subst e; simp
      · simp [e]
    · obtain rfl : i = L.length := by omega
      rw [List.take_length] at hr
      have HH := Lib.hid (And.intro hP hr)
      clear hP ho hr
      go_wp2_with fail
      go_ret
      exact ⟨W.heap.size + 1, rfl, HH.out.1, Nat.le_succ _, HH.out.2⟩
end Go.Proofs.Ytphdhndljgihmaa
