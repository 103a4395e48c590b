/- The document's Reach, where visit is not at hand. -/
import Derived.Test.YtphdhndljgihmaaRReach
namespace Go.Proofs.Ytphdhndljgihmaa
open Go.RowKit Go.Maps
set_option linter.unusedVariables false
set_option linter.unusedSimpArgs false

set_option maxRecDepth 100000 in
set_option maxHeartbeats 2000000 in
theorem rReach_own (f : LFn) (W : World) (hf : FnIn W.heap.size W f) (hs : FnSm f) (hbs : f.bs.length ≤ 1048576) (L : List Nat) (hL : OrderIs (succP (fnD f).bs) f.bs.length L) :
    Calls Try.prog 43 #[.agg (fnC f).toArray] W (OwnBools f.bs.length (fun i => decide (i ∈ L)) W) := by
  have hP := (Past.refl (Nat.le_refl W.heap.size)).alloc (.cells (fnC f).toArray 25)
  have A1 : Box W.heap.size (fnC f) (W.alloc (.cells (fnC f).toArray 25)) := Box.new W rfl _ _
  have c1 := rWithout_own f _ (past_lasts lasts_Fn hf hP) hs hbs L hL
  obtain ⟨nm, pp, pn, pc, ps, rt, bp, bn, bc, bs⟩ := f
  show Calls Try.prog 43 #[.agg #[.string nm, .slice pp pn pc, .int .i64 rt, .slice bp bn bc]] W _
  have hfc : fnC ⟨nm, pp, pn, pc, ps, rt, bp, bn, bc, bs⟩ = [.string nm, .slice pp pn pc, .int .i64 rt, .slice bp bn bc] := rfl
  simp only [hfc] at A1 hP c1
  have a0 := A1.get 0 _ rfl
  have a1 := A1.get 1 _ rfl
  have a2 := A1.get 2 _ rfl
  have a3 := A1.get 3 _ rfl
  have HP := Lib.hid hP
  clear A1 hP hf hs hL hfc
  go_enter Try.func43, Try.ntmps43
  go_wp2_with fail
  refine c1.mono ?_
  rintro e w1 ⟨R, rfl, hp, hR, hr⟩
  have HR := Lib.hid (And.intro hp (And.intro hR hr))
  clear c1 a0 a1 a2 a3 hp hR hr
  go_wp2_with fail
  go_ret
  have h1 := HP.out.trans ⟨HP.out.size, HR.out.1.2.mono HP.out.size⟩
  exact ⟨R, rfl, h1, Nat.le_trans HP.out.size HR.out.2.1, HR.out.2.2⟩
end Go.Proofs.Ytphdhndljgihmaa
