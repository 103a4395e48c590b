/- Package uses: search's follow. -/
import Derived.Test.YtdfdgpobohpphaaUsC
namespace Go.Proofs.Ytdfdgpobohpphaa
open Go.RowKit Go.Maps
set_option linter.unusedVariables false
set_option linter.unusedSimpArgs false
set_option maxRecDepth 100000
set_option maxHeartbeats 2000000

/-- While the row of a register is gone through. -/
def SR (B : Nat) (W : World) (g ab : Nat) (p : Option Addr) (c : Nat) (r : Int) (s : Ps) (Z : As) (w : World) : Prop :=
  ∃ k : Sk, k.ab = ab ∧ slV (k.S r) = .slice p (k.P r).length c ∧ k.is s ∧ St B W (As.and (k.as B g) Z) w
theorem SR.ss {B : Nat} {W w : World} {g ab : Nat} {p : Option Addr} {c : Nat} {r : Int} {s : Ps} {Z : As} (h : SR B W g ab p c r s Z w) : SS B W g s Z w := by
  obtain ⟨k, _, _, h1, h2⟩ := h
  exact ⟨k, h1, h2⟩
theorem SS.sr {B : Nat} {W w : World} {g : Nat} {s : Ps} {Z : As} (h : SS B W g s Z w) (r : Int) (hr : wfI r) : ∃ (ab : Nat) (p : Option Addr) (c : Nat), SR B W g ab p c r s Z w ∧ g < w.heap.size ∧ w.cell? ⟨g, 1, none⟩ = some (.map (some ab)) ∧
    (Instr.lookup 56 (.map (some ab)) (.int .i64 r) false).run Try.prog w = .ok (.slice p (PQ s.Q r).length c) w := by
  obtain ⟨k, h1, h2⟩ := h
  have hbx : Box g [.slice k.np k.L.length k.nc, .map (some k.ab), .slice k.tp k.T.length k.tc] w := h2.sat.1.1
  have hG : Grp k.ab k.N k.o k.S k.P w := h2.sat.1.2.2.2.1
  obtain ⟨p, c, e, hr2, _⟩ := hG.row r
  refine ⟨k.ab, p, c, ⟨k, rfl, e, h1, h2⟩, hbx.1, hbx.get 1 _ rfl, ?_⟩
  rw [hG.map.look hr, e, h1.2.1]
theorem SR.cells {B : Nat} {W w : World} {g ab : Nat} {p : Option Addr} {c : Nat} {r : Int} {s : Ps} {Z : As} (h : SR B W g ab p c r s Z w) {i : Nat} (hi : i < (PQ s.Q r).length) : ∃ a, p = some ⟨a, 0, none⟩ ∧ a < w.heap.size ∧ (PQ s.Q r).length ≤ c ∧ c ≤ maxLen ∧
    w.cell? ⟨a, i * 3, none⟩ = some (.int .i64 0) ∧ w.cell? ⟨a, i * 3 + 1, none⟩ = some (.int .i64 ((PQ s.Q r)[i].1 : Nat)) ∧ w.cell? ⟨a, i * 3 + 2, none⟩ = some (.int .i64 ((PQ s.Q r)[i].2 : Nat)) := by
  obtain ⟨k, _, e, h1, h2⟩ := h
  have hG : Grp k.ab k.N k.o k.S k.P w := h2.sat.1.2.2.2.1
  obtain ⟨p', c', e', hr2, _⟩ := hG.row r
  rw [e] at e'
  injection e' with e1 e2 e3
  subst e1 e3
  have hP : k.P r = PQ s.Q r := by rw [h1.2.1]
  rw [hP] at hr2
  obtain ⟨R, e5, _, h3, h4, h5, h6⟩ := row_cell (cel := pC) (m := 3) (xs := PQ s.Q r) ⟨rfl, hr2⟩ (fun _ => rfl) i hi
  exact ⟨R, e5, h3, h4, h5, by simpa [pC] using h6 0 (by decide), by simpa [pC] using h6 1 (by decide), by simpa [pC] using h6 2 (by decide)⟩
theorem SR.push {B : Nat} {W w : World} {g ab : Nat} {p : Option Addr} {c : Nat} {r : Int} {s : Ps} {Z : As} (h : SR B W g ab p c r s Z w) (cs : List Value) (t : TypeId) : SR B W g ab p c r s (As.and (bx w.heap.size cs) Z) (w.alloc (.cells cs.toArray t)) := by
  obtain ⟨k, e1, e2, h1, h2⟩ := h
  exact ⟨k, e1, e2, h1, (h2.push rfl cs t).imp ⟨fun w x => ⟨x.2.1, x.1, x.2.2⟩, fun k => by simp only [As.and_c]; omega⟩⟩
theorem SR.later {B : Nat} {W w w' : World} {g ab : Nat} {p : Option Addr} {c : Nat} {r : Int} {s : Ps} {Z : As} (h : SR B W g ab p c r s Z w) (hb : Below w.heap.size w w') : SR B W g ab p c r s Z w' := by
  obtain ⟨k, e1, e2, h1, h2⟩ := h
  exact ⟨k, e1, e2, h1, h2.later hb⟩
theorem SR.drop {B : Nat} {W w : World} {g ab : Nat} {p : Option Addr} {c : Nat} {r : Int} {s : Ps} {X Z : As} (h : SR B W g ab p c r s (As.and X Z) w) : SR B W g ab p c r s Z w := by
  obtain ⟨k, e1, e2, h1, h2⟩ := h
  exact ⟨k, e1, e2, h1, h2.imp ⟨fun w x => ⟨x.1, x.2.2⟩, fun k => by simp only [As.and_c]; omega⟩⟩
theorem SR.box {B : Nat} {W w : World} {g ab b : Nat} {cs : List Value} {p : Option Addr} {c : Nat} {r : Int} {s : Ps} {Z : As} (h : SR B W g ab p c r s (As.and (bx b cs) Z) w) : Box b cs w := by
  obtain ⟨k, _, _, h1, h2⟩ := h
  exact h2.sat.2.1
theorem SR.need {B : Nat} {W w : World} {g ab : Nat} {pp : Option Addr} {c : Nat} {r : Int} {Z : As} (b i : Nat) (t : List (List Bool)) (Q : List (Int × Nat × Nat)) (T : List (Nat × Nat)) (hp : InR (shape t) (b, i)) (ht : ∀ n ∈ shape t, n ≤ 1048576) (hT : T.length ≤ 1048576) (h : SR B W g ab pp c r ⟨t, Q, T⟩ Z w) :
    Calls Try.prog 19 #[.pointer (some ⟨g, 0, none⟩), .agg #[.int .i64 0, .int .i64 b, .int .i64 i]] w (fun e w' => e = .returned (.tuple #[]) ∧ SR B W g ab pp c r ⟨setT t (b, i), Q, T ++ [(b, i)]⟩ Z w') := by
  obtain ⟨k, e1, e2, h1, h2⟩ := h
  have h1 : k.is ⟨t, Q, T⟩ := h1
  obtain ⟨hb, hi⟩ := Sk.is_in h1 hp
  refine (need_any k g b i hb hi (by rw [h1.2.2.1]; exact hT) (Sk.is_row h1 ht hb) h2).mono ?_
  rintro e w' ⟨rfl, tp', tc', h3⟩
  exact ⟨rfl, k.need b i hb tp' tc', e1, e2, Sk.is_need h1 hb tp' tc', h3⟩
/-- The key goes. -/
theorem SR.del {B : Nat} {W w : World} {g ab : Nat} {pp : Option Addr} {c : Nat} {r : Int} {Z : As} {s : Ps} (hr : wfI r) (h : SR B W g ab pp c r s Z w) (ty : TypeId) :
    ∃ w2, (Builtin.delete_ #[56, 3] ty #[.map (some ab), .int .i64 r]).run Try.prog w = .ok (.tuple #[]) w2 ∧ SS B W g ⟨s.t, dropQ s.Q r, s.T⟩ Z w2 := by
  obtain ⟨⟨np, nc, L, ab', N, o, S, P, tp, tc, T⟩, rfl, e2, h1, h2⟩ := h
  simp only [Sk.as, Sk.bx] at h2
  obtain ⟨w2, hrun, h3⟩ := (h2.imp (Y := As.and (grA ab' N o S P) (As.and (bx g [.slice np L.length nc, .map (some ab'), .slice tp T.length tc]) (As.and (rw' B 36 1 cB np L.length nc L) (As.and (bAs L) (As.and (rw' B 51 3 pC tp T.length tc T) Z)))))
    ⟨fun w x => ⟨x.1.2.2.2.1, x.1.1, x.1.2.1, x.1.2.2.1, x.1.2.2.2.2, x.2⟩, fun k => by simp only [As.and_c]; omega⟩).groupDel hr ty
  refine ⟨w2, hrun, ⟨np, nc, L, ab', N, o, upS S r none, upP P r [], tp, tc, T⟩, ⟨h1.1, ?_, h1.2.2.1, h1.2.2.2⟩, h3.imp ⟨fun w x => ⟨⟨x.2.1, x.2.2.1, x.2.2.2.1, x.1, x.2.2.2.2.1⟩, x.2.2.2.2.2⟩, fun k => by simp only [As.and_c, Sk.as, Sk.bx]; omega⟩⟩
  show upP P r [] = PQ (dropQ s.Q r)
  funext k
  have hP : P = PQ s.Q := h1.2.1
  unfold upP
  rw [PQ_drop, hP]
theorem take_fold (s : Ps) (ps : List (Nat × Nat)) (j : Nat) (h : j < ps.length) : setT ((ps.take j).foldl setT s.t) ps[j] = (ps.take (j + 1)).foldl setT s.t := by
  rw [List.take_succ_eq_append_getElem h, List.foldl_append]; rfl
theorem fol_succ (s : Ps) (l : List Arg) (k : Nat) (h : k < l.length) : (l.take (k + 1)).foldl folV s = folV ((l.take k).foldl folV s) l[k] := by
  rw [List.take_succ_eq_append_getElem h, List.foldl_append]; rfl
theorem follow_any {B : Nat} {W w : World} {Z : As} (g : Nat) (s : Ps) (ap : Option Addr) (ac : Nat) (args : List Arg) (ha : ListIn argC NoMem B W ap args.length ac args) (hwf : ∀ a ∈ args, wfI a.n) (hR : ∀ q ∈ s.Q, InR (shape s.t) q.2) (hsz : s.T.length + s.Q.length ≤ 1048576) (ht : ∀ n ∈ shape s.t, n ≤ 1048576) (h : SS B W g s Z w) :
    Calls Try.prog 20 #[.pointer (some ⟨g, 0, none⟩), .slice ap args.length ac] w (fun e w' => e = .returned (.tuple #[]) ∧ SS B W g (args.foldl folV s) Z w') := by
  have hac := ha.2.2.1
  have hac1 := ha.2.1
  unfold maxLen at hac
  have H := Lib.hid (And.intro ha (And.intro hwf (And.intro hR (And.intro hsz ht))))
  have H0 := Lib.hid h
  clear ha hwf hR hsz ht h
  go_enter Try.func20, Try.ntmps20
  go_wp2_with fail
  go_loopw [10] (fun t wr => ∃ k : Nat, k ≤ args.length ∧ t = .int .i64 k ∧ SS B W g ((args.take k).foldl folV s) Z wr) (fun t _ => args.length - (intOf t).toNat)
  case atStart => exact ⟨0, Nat.zero_le _, rfl, by simpa using H0.out⟩
  case round =>
    obtain ⟨k, hk, rfl, hS⟩ := hrel
    by_cases hlt : k < args.length
    · obtain ⟨a, rfl, hab, c0, c1, c2⟩ := arg_row (H.out.1.lasts lasts_NoMem hS.below (Nat.le_refl _)) k hlt
      have hwk := H.out.2.1 args[k] (List.getElem_mem hlt)
      obtain ⟨s1, es1⟩ : ∃ s1, (args.take k).foldl folV s = s1 := ⟨_, rfl⟩
      have hsucc := fol_succ s args k hlt
      rw [es1] at hsucc hS
      have hsh : shape s1.t = shape s.t := by rw [← es1]; exact fol_shape _ _
      have hQ1 : ∀ x ∈ s1.Q, InR (shape s1.t) x.2 := fun x hx => by rw [hsh]; exact H.out.2.2.1 x (fol_Q (args.take k) s x (by rw [es1]; exact hx))
      have hz1 : s1.T.length + s1.Q.length ≤ 1048576 := by have := fol_size (args.take k) s; rw [es1] at this; have := H.out.2.2.2.1; omega
      have ht1 : ∀ n ∈ shape s1.t, n ≤ 1048576 := by rw [hsh]; exact H.out.2.2.2.2
      obtain ⟨v, ev⟩ : ∃ v, args[k] = v := ⟨_, rfl⟩
      rw [ev] at c0 c1 c2 hwk hsucc
      obtain ⟨vk, vn, vb⟩ := v
      simp only at c0 c1 c2 hwk
      have HA := Lib.hid (And.intro hQ1 (And.intro hz1 (And.intro ht1 (And.intro hsucc hwk))))
      have HS := Lib.hid hS
      clear hQ1 hz1 ht1 hsucc hwk hS es1 hsh ev
      by_cases h1 : vk = 1
      · subst h1
        have hP := HS.out.push [.int .i64 1, .int .i64 vn, .int .u64 vb] 49
        have hbl : wr.heap.size < (wr.alloc (.cells #[.int .i64 1, .int .i64 vn, .int .u64 vb] 49)).heap.size := by simp
        go_wp2_with fail
        obtain ⟨gb, egb⟩ : ∃ gb, gb = wr.heap.size := ⟨_, rfl⟩
        rw [← egb] at hP hbl
        simp only [← egb]
        obtain ⟨w1, ew1⟩ : ∃ w1, w1 = wr.alloc (.cells #[.int .i64 1, .int .i64 vn, .int .u64 vb] 49) := ⟨_, rfl⟩
        simp only [List.toArray] at hP
        rw [← ew1] at hP hbl
        rw [← ew1]
        clear c0 c1 c2 HS
        obtain ⟨ab, p, c, hSR, hgl, hc1, hlook⟩ := (hP.later (below_drew (Below.refl _ _))).sr vn HA.out.2.2.2.2
        have hbx := hP.box
        have d1 := hbx.get 1 _ rfl
        have hc1' : w1.cell? ⟨g, 1, none⟩ = some (.map (some ab)) := by rw [← hc1, World.cell?_drew]
        have hgl' : g < w1.heap.size := by simpa using hgl
        clear hc1 hgl hbx hP ew1 egb
        have HR := Lib.hid hSR
        clear hSR
        obtain ⟨l, el⟩ : ∃ l, (PQ s1.Q vn).length = l := ⟨_, rfl⟩
        rw [el] at hlook
        have EL := Lib.hid el
        clear el
        have hl0 : l ≤ 1048576 := by have := PQ_len s1.Q vn; have := HA.out.2.1; have := EL.out; omega
        go_region
        go_wp2_with fail
        obtain ⟨ps, eps⟩ : ∃ ps, PQ s1.Q vn = ps := ⟨_, rfl⟩
        have EPS := Lib.hid eps
        clear eps
        have h00 : SR B W g ab p c vn ⟨(ps.take 0).foldl setT s1.t, s1.Q, s1.T ++ ps.take 0⟩ (As.and (bx gb [.int .i64 1, .int .i64 vn, .int .u64 vb]) Z) w1.drew := by
          have := HR.out
          simpa using this
        have H00 := Lib.hid h00
        clear h00 d1 hc1' hgl' hlook HR
        have hpl : l ≤ ps.length ∧ ps.length ≤ l := by rw [← EPS.out, EL.out]; exact ⟨Nat.le_refl _, Nat.le_refl _⟩
        go_loopw [25] (fun t wi => ∃ j : Nat, j ≤ l ∧ t = .int .i64 j ∧ SR B W g ab p c vn ⟨(ps.take j).foldl setT s1.t, s1.Q, s1.T ++ ps.take j⟩ (As.and (bx gb [.int .i64 1, .int .i64 vn, .int .u64 vb]) Z) wi) (fun t _ => l - (intOf t).toNat)
        case atStart => exact ⟨0, Nat.zero_le _, rfl, H00.out⟩
        case round =>
          rename World => wi
          obtain ⟨j, hj, rfl, hJ⟩ := hrel
          by_cases hjl : j < l
          · have hjp : j < ps.length := by omega
            have hc := hJ.cells (i := j) (by show j < (PQ s1.Q vn).length; rw [EPS.out]; exact hjp)
            obtain ⟨a2, rfl, hal, hcl, hcm, e0, e1, e2⟩ := hc
            have hps : ∀ h, (PQ s1.Q vn)[j]'h = ps[j] := by rw [EPS.out]; exact fun _ => rfl
            simp only [hps] at e1 e2
            simp only [EPS.out] at hcl
            unfold maxLen at hcm
            have hin : InR (shape s1.t) ps[j] := HA.out.1 (vn, ps[j]) (PQ_mem.1 (by rw [EPS.out]; exact List.getElem_mem hjp))
            have hP2 := hJ.push [.int .i64 0, .int .i64 (ps[j].1 : Nat), .int .i64 (ps[j].2 : Nat)] 51
            have hst := take_fold s1 ps j hjp
            have htk : (s1.T ++ ps.take j) ++ [ps[j]] = s1.T ++ ps.take (j + 1) := by rw [List.append_assoc, ← List.take_succ_eq_append_getElem hjp]
            have hTl : (s1.T ++ ps.take j).length ≤ 1048576 := by
              have q1 := PQ_len s1.Q vn
              have q2 := HA.out.2.1
              rw [EPS.out] at q1
              rw [List.length_append, List.length_take]
              omega
            obtain ⟨pj, epj⟩ : ∃ pj, ps[j] = pj := ⟨_, rfl⟩
            rw [epj] at e1 e2 hin hP2 hst htk
            obtain ⟨pb, pi⟩ := pj
            have hcall := hP2.need pb pi _ _ _ (by rw [shape_fold]; exact hin) (by rw [shape_fold]; exact HA.out.2.2.1) hTl
            rw [hst, htk] at hcall
            have HC := Lib.hid hcall
            have hwl : wi.heap.size < (wi.alloc (.cells #[.int .i64 0, .int .i64 (pb : Nat), .int .i64 (pi : Nat)] 51)).heap.size := by simp
            clear hJ hP2 hst htk hcall epj hps
            simp only at e1 e2
            go_wp2_with fail
            refine HC.out.mono ?_
            rintro e w3 ⟨rfl, hK⟩
            have HK := Lib.hid hK.drop
            clear hK
            go_wp2_with fail
            exact ⟨⟨j + 1, by omega, by go_num, HK.out⟩, by simp [intOf]; omega⟩
          · obtain rfl : j = l := by omega
            have htk : ps.take j = ps := List.take_of_length_le hpl.2
            rw [htk] at hJ
            obtain ⟨w4, hrun, h4⟩ := (hJ.later (below_drew (Below.refl _ _))).del HA.out.2.2.2.2 0
            have hbx := hJ.box
            have d1 := hbx.get 1 _ rfl
            have dl := hbx.1
            obtain ⟨k5, e5, _, _, h5⟩ := hJ
            have gx : Box g [.slice k5.np k5.L.length k5.nc, .map (some k5.ab), .slice k5.tp k5.T.length k5.tc] wi := h5.sat.1.1
            have g1 := gx.get 1 _ rfl
            rw [e5] at g1
            have gl := gx.1
            have hfin : SS B W g ((args.take (k + 1)).foldl folV s) Z w4 := by
              rw [HA.out.2.2.2.1]
              unfold folV
              rw [if_pos rfl]
              unfold folR
              rw [EPS.out]
              exact h4.drop
            have HF := Lib.hid hfin
            clear h4 hbx h5 gx htk hfin e5
            go_wp2_with fail
            go_region
            go_wp2_with fail
            exact ⟨⟨k + 1, by omega, by go_num, HF.out⟩, by simp [intOf]; omega⟩
      · have hb1 : (vk != 1) = true := by simpa using h1
        have hf : folV s1 ⟨vk, vn, vb⟩ = s1 := by unfold folV; rw [if_neg h1]
        have HF := Lib.hid (HA.out.2.2.2.1.trans hf)
        clear hf
        go_wp2_with fail
        refine ⟨⟨k + 1, by omega, by go_num, ?_⟩, by simp [intOf]; omega⟩
        rw [HF.out]
        exact HS.out.later ((Below.refl _ _).alloc (Nat.le_refl _) _)
    · obtain rfl : k = args.length := by omega
      go_wp2_with fail
      go_end0
      exact ⟨rfl, by simpa using hS⟩
end Go.Proofs.Ytdfdgpobohpphaa
