/- Package uses: what search's need does. -/
import Derived.Test.YtdfdgpobohpphaaUsA
import Derived.BigRegion
namespace Go.Proofs.Ytdfdgpobohpphaa
open Go.RowKit Go.Maps
set_option linter.unusedVariables false
set_option linter.unusedSimpArgs false
set_option maxRecDepth 100000
set_option maxHeartbeats 2000000

theorem row_cell {α : Type} {B ty m : Nat} {cel : α → List Value} {p : Option Addr} {n c : Nat} {xs : List α} {w : World} (h : rowP B ty m cel p n c xs w) (hm : ∀ x, (cel x).length = m) (i : Nat) (hi : i < xs.length) :
    ∃ R, p = some ⟨R, 0, none⟩ ∧ B ≤ R ∧ R < w.heap.size ∧ xs.length ≤ c ∧ c ≤ maxLen ∧ (∀ j, j < m → w.cell? ⟨R, i * m + j, none⟩ = (cel xs[i])[j]?) := by
  obtain ⟨h1, h2⟩ := h
  rcases id h2.2 with ⟨e, h0⟩ | ⟨g, cap, cur, e, hg, hh, k1, k2, k3, k4⟩
  · injection e with e1 e2 e3; omega
  · injection e with e1 e2 e3
    subst e1 e3
    refine ⟨g, rfl, hg, (Array.getElem?_eq_some_iff.1 hh).1, by omega, k2, fun j hj => ?_⟩
    have hlt : i * m + j < n * m := by
      have := Nat.mul_le_mul_right m (Nat.succ_le_of_lt hi)
      rw [Nat.succ_mul] at this
      rw [h1]; omega
    rw [h2.cellAt _ hlt]
    exact flat_get cel m hm xs i hi j hj
theorem pl_lit (w : World) (b i : Nat) : ∀ j u, (pC (b, i))[j]? = some u → ((w.alloc (.cells #[.int .i64 0, .int .i64 b, .int .i64 i] 51)).drew).cell? ((⟨w.heap.size, 0, none⟩ : Addr).add j) = some u := fun j u h => by
  rw [World.cell?_drew]; exact lit_cells w _ _ j u h
def Sk.need (k : Sk) (b i : Nat) (hb : b < k.L.length) (tp' : Option Addr) (tc' : Nat) : Sk := { k with L := k.L.set b (k.L[b].1, k.L[b].2.set i true), tp := tp', tc := tc', T := k.T ++ [(b, i)] }
theorem rowP_cells {α β : Type} {B ty m : Nat} {cel : α → List Value} {cel' : β → List Value} {p : Option Addr} {n c : Nat} {xs : List α} {ys : List β} {w : World} (h : rowP B ty m cel p n c xs w) (hl : xs.length = ys.length) (he : xs.flatMap cel = ys.flatMap cel') : rowP B ty m cel' p n c ys w := ⟨h.1.trans hl, by rw [← he]; exact h.2⟩
theorem rw_cells {α β : Type} {B ty m : Nat} {cel : α → List Value} {cel' : β → List Value} {p : Option Addr} {n c : Nat} {xs : List α} {ys : List β} (hl : xs.length = ys.length) (he : xs.flatMap cel = ys.flatMap cel') : (rw' B ty m cel p n c xs).le (rw' B ty m cel' p n c ys) := ⟨fun w x => rowP_cells x hl he, fun k => Nat.le_refl _⟩
theorem need_end {B : Nat} {W w' : World} {Z : As} {k : Sk} {g b i : Nat} {hb : b < k.L.length} {p' : Option Addr} {c' : Nat}
    (h : St B W (As.and (rw' B 51 3 pC p' (k.T.length + 1) c' (k.T ++ [(b, i)])) (As.and (bAs (k.L.set b (k.L[b].1, k.L[b].2.set i true))) (As.and (bx g [.slice k.np k.L.length k.nc, .map (some k.ab), .slice k.tp k.T.length k.tc]) (As.and (rw' B 36 1 cB k.np k.L.length k.nc k.L) (As.and (grA k.ab k.N k.o k.S k.P) Z))))) w') :
    St B W (As.and ((k.need b i hb p' c').as B g) Z) (w'.setCell ⟨g, 2, none⟩ (.slice p' (k.T.length + 1) c')) := by
  obtain ⟨np, nc, L, ab, N, o, S, P, tp, tc, T⟩ := k
  have h2 := (h.imp (Y := As.and (bx g [.slice np L.length nc, .map (some ab), .slice tp T.length tc]) (As.and (rw' B 51 3 pC p' (T.length + 1) c' (T ++ [(b, i)])) (As.and (bAs (L.set b (L[b].1, L[b].2.set i true))) (As.and (rw' B 36 1 cB np L.length nc L) (As.and (grA ab N o S P) Z)))))
    ⟨fun w x => ⟨x.2.2.1, x.1, x.2.1, x.2.2.2.1, x.2.2.2.2.1, x.2.2.2.2.2⟩, fun k => by simp only [As.and_c]; omega⟩).set 2 (.slice p' (T.length + 1) c')
  have hl : (L.set b (L[b].1, L[b].2.set i true)).length = L.length := List.length_set ..
  have hT : (T ++ [(b, i)]).length = T.length + 1 := by simp
  have hrw := rw_cells (B := B) (ty := 36) (m := 1) (cel := cB) (cel' := cB) (p := np) (n := L.length) (c := nc) (xs := L) (ys := L.set b (L[b].1, L[b].2.set i true)) hl.symm (cB_set L b i hb true).symm
  show St B W (As.and (As.and (bx g [.slice np (L.set b (L[b].1, L[b].2.set i true)).length nc, .map (some ab), .slice p' (T ++ [(b, i)]).length c']) (As.and (rw' B 36 1 cB np (L.set b (L[b].1, L[b].2.set i true)).length nc (L.set b (L[b].1, L[b].2.set i true))) (As.and (bAs (L.set b (L[b].1, L[b].2.set i true))) (As.and (grA ab N o S P) (rw' B 51 3 pC p' (T ++ [(b, i)]).length c' (T ++ [(b, i)])))))) Z) _
  rw [hl, hT]
  refine h2.imp ⟨fun w x => ⟨⟨x.1, hrw.1 w x.2.2.2.1, x.2.2.1, x.2.2.2.2.1, x.2.1⟩, x.2.2.2.2.2⟩, fun j => ?_⟩
  have := hrw.2 j
  simp only [As.and_c, rw_c, bx_c] at this ⊢
  omega
theorem need_any {B : Nat} {W w : World} {Z : As} (k : Sk) (g b i : Nat) (hb : b < k.L.length) (hi : i < k.L[b].2.length) (hT : k.T.length ≤ 1048576) (hb2 : k.L[b].2.length ≤ 1048576) (h : St B W (As.and (k.as B g) Z) w) :
    Calls Try.prog 19 #[.pointer (some ⟨g, 0, none⟩), .agg #[.int .i64 0, .int .i64 b, .int .i64 i]] w (fun e w' => e = .returned (.tuple #[]) ∧ ∃ tp' tc', St B W (As.and ((k.need b i hb tp' tc').as B g) Z) w') := by
  have HI0 := Lib.hid (info_parts infoP)
  obtain ⟨np, nc, L, ab, N, o, S, P, tp, tc, T⟩ := k
  simp only [Sk.as, Sk.bx] at h hb hi hT hb2
  obtain ⟨hbx, hrow, hbs, hgr, htr⟩ := h.sat.1
  have q : Box g [.slice np L.length nc, .map (some ab), .slice tp T.length tc] w := hbx
  obtain ⟨R, rfl, hBR, hRl, hc1, hc2, hcell⟩ := row_cell hrow (fun _ => rfl) b hb
  have hbr : BoolRow L[b].1 L[b].2 w := (h.imp (Y := As.and (bAs L) As.emp) ⟨fun w x => ⟨x.1.2.2.1, trivial⟩, fun k => by simp only [As.and_c, As.emp_c]; omega⟩).getB b hb
  have q0 := q.get 0 _ rfl
  have q2 := q.get 2 _ rfl
  have qf := q.2.1 2
  have ql := q.1
  have r0 : w.cell? ⟨R, b, none⟩ = some (.slice (some ⟨L[b].1, 0, none⟩) L[b].2.length L[b].2.length) := by
    have := hcell 0 (by decide)
    simpa [cB] using this
  have v0 := hbr.cell i hi
  have vf : w.frozen? ⟨L[b].1, i, none⟩ = false := World.rowIs.frozen hbr i
  have vl : L[b].1 < w.heap.size := World.rowIs.lt hbr
  -- behind the first region
  have hS := (((h.imp (Y := As.and (bAs L) (As.and (bx g [.slice (some ⟨R, 0, none⟩) L.length nc, .map (some ab), .slice tp T.length tc]) (As.and (rw' B 36 1 cB (some ⟨R, 0, none⟩) L.length nc L) (As.and (grA ab N o S P) (As.and (rw' B 51 3 pC tp T.length tc T) Z)))))
    ⟨fun w x => ⟨x.1.2.2.1, x.1.1, x.1.2.1, x.1.2.2.2.1, x.1.2.2.2.2, x.2⟩, fun k => by simp only [As.and_c]; omega⟩).setB b i hb hi true).push (g := w.heap.size) (by simp [World.setCell]) [.int .i64 0, .int .i64 b, .int .i64 i] 51).drew
  have hz : (((w.setCell ⟨L[b].1, i, none⟩ (.bool true)).alloc (.cells #[.int .i64 0, .int .i64 b, .int .i64 i] 51)).drew).heap.size = w.heap.size + 1 := by simp [World.setCell]
  have HS := Lib.hid (And.intro hS hz)
  have HT := Lib.hid hT
  unfold maxLen at hc2
  clear h q hbx hrow hbs hgr htr hbr hcell hS hz
  obtain ⟨lb, elb⟩ : ∃ lb, L.length = lb := ⟨_, rfl⟩
  obtain ⟨lt, elt⟩ : ∃ lt, T.length = lt := ⟨_, rfl⟩
  obtain ⟨li, eli⟩ : ∃ li, L[b].2.length = li := ⟨_, rfl⟩
  obtain ⟨gb, egb⟩ : ∃ gb, L[b].1 = gb := ⟨_, rfl⟩
  obtain ⟨ov, eov⟩ : ∃ ov, L[b].2[i] = ov := ⟨_, rfl⟩
  have EE := Lib.hid (And.intro elb (And.intro elt egb))
  have hgi : i < li := by omega
  have hgb : b < lb := by omega
  simp only [elb, elt, eli, egb, eov] at q0 q2 r0 v0 vf vl hT hb2 hc1
  clear elb elt eli egb eov
  go_enter Try.func19, Try.ntmps19
  go_wp2_with fail
  go_region
  obtain ⟨w2, ew2⟩ : ∃ w2, w2 = ((w.setCell ⟨gb, i, none⟩ (.bool true)).alloc (.cells #[.int .i64 0, .int .i64 b, .int .i64 i] 51)).drew := ⟨_, rfl⟩
  have HS2 := HS.out
  rw [← EE.out.2.2] at ew2
  simp only [List.toArray] at HS2
  rw [← ew2] at HS2
  rw [EE.out.2.2] at ew2
  obtain ⟨hS, hz⟩ := HS2
  have pb : Box w.heap.size [.int .i64 0, .int .i64 b, .int .i64 i] w2 := hS.sat.1
  have gx : Box g [.slice (some ⟨R, 0, none⟩) L.length nc, .map (some ab), .slice tp T.length tc] w2 := hS.sat.2.2.1
  clear q0 q2 r0 v0 vf vl qf ql hRl
  have p0 := pb.get 0 _ rfl
  have p1 := pb.get 1 _ rfl
  have p2 := pb.get 2 _ rfl
  have q2 := gx.get 2 _ rfl
  have qf := gx.2.1 2
  have ql : g < w.heap.size + 1 := by have := gx.1; omega
  rw [EE.out.2.1] at q2
  have HW := Lib.hid (And.intro hS hz)
  clear hS hz pb gx HS
  go_wp2_with fail
  rw [← ew2]
  clear ew2
  obtain ⟨iP, hiP, hy0, hy1, hy2⟩ := HI0.out
  have HI := Lib.hid (And.intro hiP (And.intro hy0 (And.intro hy1 hy2)))
  clear hiP hy0 hy1 hy2
  have hpl := HW.out.1.imp (Y := As.and (rw' B 51 3 pC tp T.length tc T) (As.and (bAs (L.set b (L[b].1, L[b].2.set i true))) (As.and (bx g [.slice (some ⟨R, 0, none⟩) L.length nc, .map (some ab), .slice tp T.length tc]) (As.and (rw' B 36 1 cB (some ⟨R, 0, none⟩) L.length nc L) (As.and (grA ab N o S P) Z)))))
    ⟨fun w x => ⟨x.2.2.2.2.2.1, x.2.1, x.2.2.1, x.2.2.2.1, x.2.2.2.2.1, x.2.2.2.2.2.2⟩, fun k => by simp only [As.and_c]; omega⟩
  have HP := Lib.hid hpl
  have HZ := Lib.hid HW.out.2
  clear hpl HW
  have hzz : w2.heap.size = w.heap.size + 1 := HZ.out
  have pl : w.heap.size < w2.heap.size := by omega
  have gl : g < w2.heap.size := by omega
  clear hzz ql
  go_region_law (first | (refine step_app rfl (.tmp 19) (.tmp 21) 57 rfl iP _ 24 Try.underlying57 HI.out.1 HI.out.2.1 HI.out.2.2.1 HI.out.2.2.2 rfl (by decide) (by rw [← EE.out.2.1]; rfl) ((HP.out.alloc _).drew) (b, i) _ 1 rfl rfl (pl_lit w2 b i) (pC_one (b, i)) (by have := HT.out; unfold maxLen; omega) (by have := HT.out; omega) ?_; intro p' c' w' hS'; have kx : Box g [.slice (some ⟨R, 0, none⟩) L.length nc, .map (some ab), .slice tp T.length tc] w' := hS'.sat.2.2.1; have k0 := kx.get 2 _ rfl; have k1 := kx.2.1 2; have k2 := kx.1; clear kx))
  all_goals
    go_wp2_with fail
    go_end0
    exact ⟨rfl, p', c', need_end (k := ⟨some ⟨R, 0, none⟩, nc, L, ab, N, o, S, P, tp, tc, T⟩) hS'⟩
end Go.Proofs.Ytdfdgpobohpphaa
