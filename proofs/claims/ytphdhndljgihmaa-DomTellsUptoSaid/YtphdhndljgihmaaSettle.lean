/- Package dom: settle. -/
import Derived.Test.YtphdhndljgihmaaFoA
namespace Go.Proofs.Ytphdhndljgihmaa
open Go.RowKit Go.Maps
set_option linter.unusedVariables false
set_option linter.unusedSimpArgs false

set_option maxRecDepth 100000 in
set_option maxHeartbeats 2000000 in
theorem settle_any {sz a d : Nat} {T : Nat → List Nat} {pa sg smr ls : Nat → Nat} (W : World) (D : Dfs sz T pa) (hs : ∀ u, u ≠ 0 → u < sz → Semi T u (sg u)) (hsm : ∀ m, m ≠ 0 → m < sz → smr m = sg m) (hls : ∀ m, m ≠ 0 → m < sz → LeastOk pa sg m (ls m)) (ha : W.rowIs a 3 sz (fun i => .int .i64 (smr i : Nat))) (hd : W.rowIs d 3 sz (fun i => .int .i64 (ls i : Nat))) (hsz : sz ≤ 1048576) :
    Calls Try.prog 48 #[.slice (some ⟨a, 0, none⟩) sz sz, .slice (some ⟨d, 0, none⟩) sz sz] W fun e w' => ∃ (R : Nat) (nr : Nat → Nat), e = .returned (.slice (some ⟨R, 0, none⟩) sz sz) ∧ Past W.heap.size W w' ∧ W.heap.size ≤ R ∧ w'.rowIs R 3 sz (fun i => .int .i64 (nr i : Nat)) ∧ ∀ x, x ≠ 0 → x < sz → IsUp T x (nr x) := by
  have hmk := run_make_row' (P := Try.prog) 22 3 _ _ Try.underlying22 infoInt rfl .i64 .i64 sz (by omega) (by omega)
  have hla := ha.lt
  have hld := hd.lt
  have HC := Lib.hid (And.intro D (And.intro hs (And.intro hsm hls)))
  have HR := Lib.hid (And.intro ha hd)
  have hr0 := World.rowIs_made W (.int .i64 0) sz 3
  have HR0 := Lib.hid hr0
  clear D hs hsm hls ha hd hr0
  go_enter Try.func48, Try.ntmps48
  go_wp2_with fail
  clear hmk
  generalize hw0 : W.alloc (.cells (madeCells #[.int .i64 0] sz) 3) = w0 at *
  have hP0 : Past W.heap.size W w0 := by rw [← hw0]; exact (Past.refl (Nat.le_refl _)).alloc _
  go_loopw [6] (fun t wr => ∃ (n : Nat) (nr : Nat → Nat), 1 ≤ n ∧ n ≤ sz + 1 ∧ t = .int .i64 n ∧ Past W.heap.size W wr ∧ wr.rowIs W.heap.size 3 sz (fun i => .int .i64 (nr i : Nat)) ∧ ∀ x, x ≠ 0 → x < n → x < sz → IsUp T x (nr x)) (fun t _ => sz + 1 - (intOf t).toNat)
  case atStart =>
    refine ⟨1, fun _ => 0, Nat.le_refl _, by omega, rfl, hP0, HR0.out, fun x h1 h2 _ => by omega⟩
  case round =>
    obtain ⟨n, nr, hn1, hn2, rfl, hP, hr, hu⟩ := hrel
    clear hP0 HR0 hw0
    by_cases hlt : n < sz
    · have n0 : n ≠ 0 := by omega
      have ra := HR.out.1.of_block (hP.2.block a hla)
      have rd := HR.out.2.of_block (hP.2.block d hld)
      have hl := HC.out.2.2.2 n n0 hlt
      have hst := near_step HC.out.1 HC.out.2.1 (nr := nr) (c := if sg (ls n) < sg n then nr (ls n) else sg n) n0 hlt hl (fun x h1 h2 => hu x h1 h2 (by omega)) rfl
      have hlow := hl.low
      have el := HC.out.2.2.1 (ls n) (by omega) (by omega)
      have en := HC.out.2.2.1 n n0 hlt
      have hls : ls n < sz := by omega
      have y0 := ra.cell hlt
      have y1 := rd.cell hlt
      have f0 := hr.frozen n
      have k0 := hr.cell hlt
      rw [en] at y0
      have ra1 := ra.setOther (a := ⟨W.heap.size, n, none⟩) (by dsimp only; omega) (.int .i64 (sg n : Nat))
      have hr1 := hr.set n (.int .i64 (sg n : Nat))
      have z0 := ra1.cell hlt
      have z1 := ra1.cell hls
      have z3 := hr1.cell hls
      have z4 := hr1.cell hlt
      have f1 := hr1.frozen n
      rw [en] at z0
      rw [el] at z1
      have rd1 := rd.setOther (a := ⟨W.heap.size, n, none⟩) (by dsimp only; omega) (.int .i64 (sg n : Nat))
      have z2 := rd1.cell hlt
      have HX := Lib.hid (And.intro hP (And.intro hr1 (And.intro hu hst)))
      clear ra rd hl hst hlow el en hP hr hu ra1 hr1 rd1
      obtain ⟨u, eu⟩ : ∃ u, ls n = u := ⟨_, rfl⟩
      simp only [eu] at y1 z1 z2 z3 hls
      have EU := Lib.hid eu
      clear eu
      by_cases hc : sg u < sg n
      · have hd : decide (((sg u : Nat) : Int) < ((sg n : Nat) : Int)) = true := decide_eq_true (by omega)
        have hune : u ≠ n := fun e => by subst e; omega
        rw [if_neg hune] at z3
        go_wp2_with fail
        go_quiet (fail)
        go_wp2_with fail
        have hst := HX.out.2.2.2.2
        rw [EU.out, if_pos hc] at hst
        have hP1 := ((HX.out.1.set (a := ⟨W.heap.size, n, none⟩) (Nat.le_refl _) (.int .i64 (sg n : Nat))))
        replace hP1 := hP1.trans ⟨hP1.size, below_drewM _ _ nq⟩
        have hR1 := rowIs_kept HX.out.2.1 (below_grown (below_drewM _ _ nq)) (by simp)
        refine ⟨⟨n + 1, fun x => if x = n then nr u else nr x, by omega, by omega, by go_num, hP1.set (a := ⟨W.heap.size, n, none⟩) (Nat.le_refl _) _, (hR1.set n _).congr (fun j hj => by by_cases e : j = n <;> simp [e]), fun x h1 h2 h3 => ?_⟩, by simp [intOf]; omega⟩
        show IsUp T x (if x = n then _ else nr x)
        by_cases e : x = n
        · subst e
          rw [if_pos rfl]
          exact hst
        · rw [if_neg e]
          exact HX.out.2.2.1 x h1 (by omega) h3
      · have hd : decide (((sg u : Nat) : Int) < ((sg n : Nat) : Int)) = false := decide_eq_false (by omega)
        go_wp2_with fail
        go_quiet (fail)
        go_wp2_with fail
        have hst := HX.out.2.2.2.2
        rw [EU.out, if_neg hc] at hst
        have hP1 := ((HX.out.1.set (a := ⟨W.heap.size, n, none⟩) (Nat.le_refl _) (.int .i64 (sg n : Nat))))
        replace hP1 := hP1.trans ⟨hP1.size, below_drewM _ _ nq⟩
        have hR1 := rowIs_kept HX.out.2.1 (below_grown (below_drewM _ _ nq)) (by simp)
        refine ⟨⟨n + 1, fun x => if x = n then sg n else nr x, by omega, by omega, by go_num, hP1, hR1.congr (fun j hj => by by_cases e : j = n <;> simp [e]), fun x h1 h2 h3 => ?_⟩, by simp [intOf]; omega⟩
        show IsUp T x (if x = n then _ else nr x)
        by_cases e : x = n
        · subst e
          rw [if_pos rfl]
          exact hst
        · rw [if_neg e]
          exact HX.out.2.2.1 x h1 (by omega) h3
    · go_wp2_with fail
      go_ret
      exact ⟨W.heap.size, nr, rfl, hP, Nat.le_refl _, hr, fun x h1 h2 => hu x h1 (by omega) h2⟩
end Go.Proofs.Ytphdhndljgihmaa
