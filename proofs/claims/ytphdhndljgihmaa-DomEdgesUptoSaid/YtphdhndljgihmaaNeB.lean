/- Package dom: nearest. -/
import Derived.Test.YtphdhndljgihmaaNeA
import Derived.Test.YtphdhndljgihmaaVLists
namespace Go.Proofs.Ytphdhndljgihmaa
open Go.RowKit Go.Maps
set_option linter.unusedVariables false
set_option linter.unusedSimpArgs false

theorem smAt_next {sg : Nat → Nat} {n : Nat} (hn : n ≠ 0) (u : Nat) : smAt sg n (sg n) u = smAt sg (n - 1) (n - 1) u := by
  unfold smAt
  by_cases e1 : n < u
  · rw [if_pos e1, if_pos (by omega)]
  · by_cases e2 : u = n
    · subst e2
      rw [if_neg e1, if_pos rfl, if_pos (by omega)]
    · rw [if_neg e1, if_neg e2, if_neg (by omega)]
      by_cases e3 : u = n - 1
      · rw [if_pos e3, e3]
      · rw [if_neg e3]
theorem smAt_start {sg : Nat → Nat} {n u : Nat} (h : u ≤ n) : smAt sg n n u = u := by
  unfold smAt
  rw [if_neg (by omega)]
  by_cases e : u = n
  · rw [if_pos e, e]
  · rw [if_neg e]
theorem walked_dfs {S : Nat → List Nat} {N : Nat} {bl : List Nat} {pr : List Int} (hK : (N = 0 ∧ bl = [] ∧ pr = []) ∨ (0 < N ∧ Walked S N bl pr)) : Dfs bl.length (numT S bl) (paL pr) := by
  rcases hK with ⟨_, rfl, rfl⟩ | ⟨_, h⟩
  · have hT : ∀ x, numT S [] x = [] := fun x => numT_out (by simp)
    exact ⟨fun x y hy => by rw [hT] at hy; simp at hy, fun n _ h => absurd h (by simp), fun p n hn => by rw [hT] at hn; simp at hn, fun v z y hy => absurd hy (by simp)⟩
  · exact h.dfs
theorem own_nat {w : World} {B j : Nat} {p : Option Addr} {c : Nat} {M : List Nat} (h : w.ownsRow B 3 1 (.slice p M.length c) M.length ((ints M).flatMap intC)) (hj : j < M.length) : ∃ a, p = some a ∧ a.block < w.heap.size ∧ w.cell? (a.add j) = some (.int .i64 (M[j] : Int)) :=
  own_int (by rw [ints_len]; exact h) hj
set_option maxRecDepth 100000 in
set_option maxHeartbeats 4000000 in
theorem nearest_any {S : Nat → List Nat} {N Bb Bp Rn Rp : Nat} {bl : List Nat} {pr : List Int} {vb vp : Value} {vsp : Nat → Value} (W : World) (hK : (N = 0 ∧ bl = [] ∧ pr = []) ∨ (0 < N ∧ Walked S N bl pr)) (hN : N ≤ 1048576) (hSn : ∀ b, (S b).Nodup ∧ ∀ t ∈ S b, t < N)
    (hb : W.ownsRow Bb 3 1 vb bl.length ((ints bl).flatMap intC)) (hp : W.ownsRow Bp 3 1 vp pr.length (pr.flatMap intC)) (hn : W.rowIs Rn 3 N (fun i => .int .i64 (nuI bl i))) (hP : LL Rp N vsp (fun t => ints (predUpto S N t)) W) :
    Calls Try.prog 37 #[.agg #[vb, vp, .slice (some ⟨Rn, 0, none⟩) N N], .slice (some ⟨Rp, 0, none⟩) N N] W fun e w' => ∃ (R : Nat) (nr : Nat → Nat), e = .returned (.slice (some ⟨R, 0, none⟩) bl.length bl.length) ∧ Past W.heap.size W w' ∧ W.heap.size ≤ R ∧ w'.rowIs R 3 bl.length (fun i => .int .i64 (nr i : Nat)) ∧ ∀ x, x ≠ 0 → x < bl.length → IsUp (numT S bl) x (nr x) := by
  have hD := walked_dfs hK
  obtain ⟨pb, cb, rfl⟩ := row_slice hb
  obtain ⟨pq, cq, rfl⟩ := row_slice hp
  have hszN : bl.length ≤ 1048576 := by
    rcases hK with ⟨_, rfl, rfl⟩ | ⟨_, h⟩
    · simp
    · have := nodup_lt N bl h.nd h.ltn; omega
  have hlen : pr.length = bl.length := by
    rcases hK with ⟨_, rfl, rfl⟩ | ⟨_, h⟩
    · rfl
    · exact h.plen
  have hsg : ∀ u, u ≠ 0 → u < bl.length → Semi (numT S bl) u (sgm (numT S bl) u) := fun u h1 h2 => sgm_semi hD h1 h2
  obtain ⟨sz, esz⟩ : ∃ sz, bl.length = sz := ⟨_, rfl⟩
  obtain ⟨T, eT⟩ : ∃ T, numT S bl = T := ⟨_, rfl⟩
  obtain ⟨sg, esg⟩ : ∃ sg, sgm T = sg := ⟨_, rfl⟩
  obtain ⟨pa, epa⟩ : ∃ pa, paL pr = pa := ⟨_, rfl⟩
  rw [eT] at hsg hD
  rw [esg] at hsg
  rw [epa] at hD
  have HW := Lib.hid hK
  have HE := Lib.hid (And.intro esz (And.intro eT (And.intro epa hlen)))
  have HR := Lib.hid (And.intro hb (And.intro hp (And.intro hn hP)))
  have HD := Lib.hid (And.intro hD hsg)
  have HS := Lib.hid hSn
  simp only [esz, eT, hlen] at hszN HD ⊢
  have hmk1 := run_make_row' (P := Try.prog) 22 3 _ _ Try.underlying22 infoInt rfl .i64 .i64 sz (by omega) (by omega)
  have hmk2 := run_make_row' (P := Try.prog) 29 22 _ _ Try.underlying29 infoInts rfl .i64 .i64 sz (by omega) (by omega)
  clear hK hD hb hp hn hP hSn hsg hlen eT esg epa
  have A1 : Box W.heap.size [.slice pb sz cb, .slice pq sz cq, .slice (some ⟨Rn, 0, none⟩) N N] (W.alloc (.cells #[.slice pb sz cb, .slice pq sz cq, .slice (some ⟨Rn, 0, none⟩) N N] 56)) := Box.new W rfl _ _
  have HA := Lib.hid A1
  clear A1
  go_enter Try.func37, Try.ntmps37
  go_wp2_with fail
  refine (forestOf_any sz _ hszN).mono ?_
  rintro e w1 ⟨a, b, c, rfl, hp1, hM1, la, lb, lc⟩
  have H1 := Lib.hid (And.intro hp1 (And.intro hM1 (And.intro la (And.intro lb lc))))
  clear hp1 hM1 la lb lc
  go_wp2_with fail
  have HI0 : Hid (NeI W [.slice pb sz cb, .slice pq sz cq, .slice (some ⟨Rn, 0, none⟩) N N] sz a b c w1.heap.size (w1.heap.size + 1) (w1.heap.size + 1 + 1) (fun i => i) (fun _ => -1) (fun i => i) (fun _ => 0) (fun _ => []) (fun _ => .slice none 0 0) (((w1.alloc (.cells #[.slice (some ⟨a, 0, none⟩) sz sz, .slice (some ⟨b, 0, none⟩) sz sz, .slice (some ⟨c, 0, none⟩) sz sz] 78)).alloc (.cells (madeCells #[.int .i64 0] sz) 3)).alloc (.cells (madeCells #[.slice none 0 0] sz) 22))) := Lib.hid (by
    obtain ⟨hp1, hM1, la, lb, lc⟩ := H1.out
    have hPW := ((Past.refl (Nat.le_refl W.heap.size)).alloc (.cells #[.slice pb sz cb, .slice pq sz cq, .slice (some ⟨Rn, 0, none⟩) N N] 56)).trans ⟨by simp, hp1.2.mono (by simp)⟩
    have r1 := World.rowIs_made (w1.alloc (.cells #[.slice (some ⟨a, 0, none⟩) sz sz, .slice (some ⟨b, 0, none⟩) sz sz, .slice (some ⟨c, 0, none⟩) sz sz] 78)) (.int .i64 0) sz 3
    have l1 := LL.new ((w1.alloc (.cells #[.slice (some ⟨a, 0, none⟩) sz sz, .slice (some ⟨b, 0, none⟩) sz sz, .slice (some ⟨c, 0, none⟩) sz sz] 78)).alloc (.cells (madeCells #[.int .i64 0] sz) 3)) sz
    rw [World.size_alloc] at r1 la lb lc
    rw [World.size_alloc, World.size_alloc] at l1
    exact ⟨((hPW.alloc _).alloc _).alloc _, (((HA.out.later hp1.2).alloc _).alloc _).alloc _, ((Box.new w1 rfl _ _).alloc _).alloc _, ((hM1.alloc _).alloc _).alloc _, r1.alloc _, l1, ⟨by omega, hM1.ra.lt⟩, ⟨by omega, hM1.rb.lt⟩, ⟨by omega, hM1.rc.lt⟩, by omega, by omega⟩)
  obtain ⟨g, eg⟩ : ∃ g, w1.heap.size = g := ⟨_, rfl⟩
  simp only [eg] at HI0 ⊢
  clear hmk1 hmk2 H1 HA
  go_loopw [9] (fun t wr => ∃ (k : Nat) (ab : Nat → Int) (be ls : Nat → Nat) (wt : Nat → List Nat) (vs : Nat → Value), k ≤ sz ∧ t = .int .i64 ((k : Int) - 1) ∧ NeI W [.slice pb sz cb, .slice pq sz cq, .slice (some ⟨Rn, 0, none⟩) N N] sz a b c g (g + 1) (g + 1 + 1) (smAt sg (k - 1) (k - 1)) ab be ls wt vs wr ∧ For sz pa sg k ab be ∧ Wait sz pa sg (k - 1) wt ls ∧ (1 ≤ k ∨ sz = 0)) (fun t _ => (intOf t + 1).toNat)
  case atStart => exact ⟨sz, _, _, _, _, _, Nat.le_refl _, rfl, HI0.out.congr (fun i hi => (smAt_start (by omega)).symm) (fun _ _ => rfl) (fun _ _ => rfl) (fun _ _ => rfl) (fun _ _ => rfl), For.start sz pa sg, Wait.start sz pa sg _, by omega⟩
  case round =>
    obtain ⟨k, ab, be, ls, wt, vs, hk, rfl, hI, hF, hW, hk1⟩ := hrel
    clear HI0 eg
    rcases Nat.lt_or_ge 1 k with hlt | hge
    · obtain ⟨n, rfl⟩ : ∃ n, k = n + 1 := ⟨k - 1, by omega⟩
      have en : ((n + 1 : Nat) : Int) - 1 = (n : Int) := by omega
      have en2 : n + 1 - 1 = n := by omega
      rw [en]
      rw [en2] at hI hW
      have n0 : n ≠ 0 := by omega
      have hns : n < sz := by omega
      have hpos : decide ((0 : Int) < (n : Int)) = true := decide_eq_true (by omega)
      obtain ⟨hNpos, hWk⟩ : 0 < N ∧ Walked S N bl pr := by
        rcases HW.out with ⟨_, h, _⟩ | h
        · have := HE.out.1; rw [h] at this; simp at this; omega
        · exact h
      have hnb : n < bl.length := by rw [esz]; exact hns
      obtain ⟨ad, rfl, had1, had2⟩ := own_nat (ownsRow_below HR.out.1 hI.past.2) hnb
      have hx0 : bl[n] < N := hWk.ltn _ (List.getElem_mem hnb)
      have hPw := HR.out.2.2.2.later hI.past.2
      obtain ⟨pL, cL, hvL⟩ := hPw.slice hx0
      have hrL := hPw.row.cell hx0
      rw [hvL] at hrL
      have hoL := hPw.own _ hx0
      rw [hvL] at hoL
      have hmem := fun x => mem_predUpto S N bl[n] x
      obtain ⟨b0, eb0⟩ : ∃ b0, bl[n] = b0 := ⟨_, rfl⟩
      rw [eb0] at had2 hx0 hrL hoL
      simp only [eb0] at hmem
      obtain ⟨L, eL⟩ : ∃ L, predUpto S N b0 = L := ⟨_, rfl⟩
      rw [eL] at hrL hoL
      simp only [eL, ints_len] at hmem hrL hoL
      have hLn : L.length ≤ 1048576 := by rw [← eL]; exact Nat.le_trans (predUpto_le S N b0) hN
      have hcand : ∀ x ∈ L, x ∈ bl → n ∈ T (nuL bl x) := fun x hx hxb => by
        have h1 := (hWk.mem_num hNpos hnb (nuL_lt hxb)).2 (by rw [nuL_get hxb, eb0]; exact ((hmem x).1 hx).2)
        rw [HE.out.2.1] at h1
        exact h1
      have hcall : ∀ p, n ∈ T p → p ∈ numsOf bl L := fun p hpT => by
        have hlt := HD.out.1.lt p n hpT
        have hpb : p < bl.length := by rw [esz]; exact hlt.1
        rw [← HE.out.2.1] at hpT
        have h1 := (hWk.mem_num hNpos hnb hpb).1 hpT
        rw [eb0] at h1
        have h2 : bl[p] ∈ L := (hmem _).2 ⟨hWk.ltn _ (List.getElem_mem hpb), h1⟩
        have h3 := mem_numsOf (List.getElem_mem hpb) h2
        rw [nuL_at hWk.nd hpb] at h3
        exact h3
      have hLlt : ∀ x ∈ L, x < N := fun x hx => ((hmem x).1 hx).1
      have hoW : W.ownsRow (Rp + 1) 3 1 (.slice pL L.length cL) L.length ((ints L).flatMap intC) := by
        have h1 := HR.out.2.2.2.own b0 hx0
        rw [eb0] at hvL
        rw [hvL, eL, ints_len] at h1
        exact h1
      have HL := Lib.hid (And.intro hcand (And.intro hcall (And.intro hLlt hoW)))
      have x0 := hI.wbox.get 0 _ rfl
      have HI := Lib.hid (And.intro hI (And.intro hF hW))
      clear hI hF hW hPw hvL hoL hmem eb0 eL hcand hcall hLlt hoW hk1 hk
      go_wp2_with fail
      clear hrL had1 had2 x0
      generalize wr = wo at *
      clear hpos
      rw [show decide (0 < n) = true from decide_eq_true (by omega)]
      go_loopw [40] (fun t wr => ∃ (i cc : Nat) (ab : Nat → Int) (be : Nat → Nat), i ≤ L.length ∧ t = .int .i64 i ∧ NeI W [.slice (some ad) sz cb, .slice pq sz cq, .slice (some ⟨Rn, 0, none⟩) N N] sz a b c g (g + 1) (g + 1 + 1) (smAt sg n cc) ab be ls wt vs wr ∧ For sz pa sg (n + 1) ab be ∧ Cur T pa sg n (numsOf bl (L.take i)) cc) (fun t _ => L.length - (intOf t).toNat)
      case atStart => exact ⟨0, n, ab, be, Nat.zero_le _, rfl, HI.out.1, HI.out.2.1, by rw [List.take_zero]; exact Cur.start T pa sg n⟩
      case round =>
        obtain ⟨i, cc, ab2, be2, hiL, rfl, hI, hF, hC⟩ := hrel
        by_cases hlt2 : i < L.length
        · obtain ⟨aL, rfl, haL1, haL2⟩ := own_nat (ownsRow_below HL.out.2.2.2 hI.past.2) hlt2
          have hxN := HL.out.2.2.1 _ (List.getElem_mem hlt2)
          have htk : L.take (i + 1) = L.take i ++ [L[i]] := List.take_succ_eq_append_getElem hlt2
          have hcd := HL.out.1 _ (List.getElem_mem hlt2)
          obtain ⟨x, ex⟩ : ∃ x, L[i] = x := ⟨_, rfl⟩
          rw [ex] at haL2 hxN htk hcd
          have hRw := HR.out.2.2.1.of_block (hI.past.2.block Rn HR.out.2.2.1.lt)
          have r0 := hRw.cell hxN
          have x2 := hI.wbox.get 2 _ rfl
          by_cases hxb : x ∈ bl
          · rw [nuI_in hxb] at r0
            have hqT := hcd hxb
            have hqs := nuL_lt hxb
            rw [esz] at hqs
            have hns2 := numsOf_snoc bl (L.take i) x
            rw [if_pos hxb, ← htk] at hns2
            obtain ⟨q, eq⟩ : ∃ q, nuL bl x = q := ⟨_, rfl⟩
            rw [eq] at r0 hqT hqs hns2
            have hne := nat_ne q
            have hsr : ∀ m, m < sz → smAt sg n cc m ≤ 1048576 := fun m hm => by
              unfold smAt
              by_cases e1 : n < m
              · rw [if_pos e1]
                have := ((HD.out.2 m (by omega) hm).facts HD.out.1 (by omega) hm).2.1
                omega
              · rw [if_neg e1]
                have := hC.le
                by_cases e2 : m = n
                · rw [if_pos e2]; omega
                · rw [if_neg e2]; omega
            have cL := lookUp_any wr.drew HD.out.1 hF hI.drew.fm (fun m h1 h2 => smAt_hi (by omega)) hsr hqs hszN
            have hag := hI.la.2
            have t0 := hI.tbox.get 0 _ rfl
            have t1 := hI.tbox.get 1 _ rfl
            have t2 := hI.tbox.get 2 _ rfl
            have y0 := hI.fm.ra.cell hns
            rw [smAt_n] at y0
            have hcc := hC.le
            have HX := Lib.hid (And.intro hI (And.intro hF (And.intro hC (And.intro hqT (And.intro hns2 hsr)))))
            clear hI hF hC hcd hRw htk ex eq hxb hqT hns2 hsr
            go_wp2_with fail
            refine wp_region_noPanic ?_
            refine wp_region_held_drew (S := fun w' => w'.cell? ⟨g, 0, none⟩ = some (.slice (some ⟨a, 0, none⟩) sz sz) ∧ w'.cell? ⟨g, 1, none⟩ = some (.slice (some ⟨b, 0, none⟩) sz sz) ∧ w'.cell? ⟨g, 2, none⟩ = some (.slice (some ⟨c, 0, none⟩) sz sz)) (by kernel_rfl) ⟨t0, t1, t2⟩ (fun hHeld => ?_)
            refine wpAnyH_take (i := 0) (v := ?_) rfl (by kernel_rfl) (by kernel_rfl) (by kernel_rfl) (fun _ _ _ h => h) (Or.inl ⟨by rfl, ?_⟩) (by assumption) ?_
            rotate_left
            · intro w hSw
              obtain ⟨hSw0, hSw1, hSw2⟩ := hSw
              go_simp
              try (with_reducible rfl)
            try simp only [Act.put, List.setIfInBounds_toArray, List.set_cons_zero, List.set_cons_succ]
            refine wpAnyH_take (i := 1) (v := ?_) rfl (by kernel_rfl) (by kernel_rfl) (by kernel_rfl) (fun _ _ _ h => h) (Or.inl ⟨by rfl, ?_⟩) (by assumption) ?_
            rotate_left
            · intro w hSw
              obtain ⟨hSw0, hSw1, hSw2⟩ := hSw
              go_simp
              try (with_reducible rfl)
            try simp only [Act.put, List.setIfInBounds_toArray, List.set_cons_zero, List.set_cons_succ]
            refine wpAnyH_take (i := 2) (v := ?_) rfl (by kernel_rfl) (by kernel_rfl) (by kernel_rfl) (fun _ _ _ h => h) (Or.inl ⟨by rfl, ?_⟩) (by assumption) ?_
            rotate_left
            · intro w hSw
              obtain ⟨hSw0, hSw1, hSw2⟩ := hSw
              go_simp
              try (with_reducible rfl)
            try simp only [Act.put, List.setIfInBounds_toArray, List.set_cons_zero, List.set_cons_succ]
            refine wpAnyH_take (i := 3) (v := ?_) rfl (by kernel_rfl) (by kernel_rfl) (by kernel_rfl) (fun _ _ _ h => h) (Or.inl ⟨by rfl, ?_⟩) (by assumption) ?_
            rotate_left
            · intro w hSw
              obtain ⟨hSw0, hSw1, hSw2⟩ := hSw
              go_simp
              try (with_reducible rfl)
            try simp only [Act.put, List.setIfInBounds_toArray, List.set_cons_zero, List.set_cons_succ]
            refine wpAnyH_take (i := 4) (v := ?_) rfl (by kernel_rfl) (by kernel_rfl) (by kernel_rfl) (fun _ _ _ h => h) (Or.inl ⟨by rfl, ?_⟩) (by assumption) ?_
            rotate_left
            · intro w hSw
              obtain ⟨hSw0, hSw1, hSw2⟩ := hSw
              go_simp
              try (with_reducible rfl)
            try simp only [Act.put, List.setIfInBounds_toArray, List.set_cons_zero, List.set_cons_succ]
            refine wpAnyH_take (i := 5) (v := ?_) rfl (by kernel_rfl) (by kernel_rfl) (by kernel_rfl) (fun _ _ _ h => h) (Or.inl ⟨by rfl, ?_⟩) (by assumption) ?_
            rotate_left
            · intro w hSw
              obtain ⟨hSw0, hSw1, hSw2⟩ := hSw
              go_simp
              try (with_reducible rfl)
            try simp only [Act.put, List.setIfInBounds_toArray, List.set_cons_zero, List.set_cons_succ]
            refine wpAnyH_take (i := 6) (v := ?_) rfl (by kernel_rfl) (by kernel_rfl) (by kernel_rfl) (fun _ _ _ h => h) (Or.inl ⟨by rfl, ?_⟩) (by assumption) ?_
            rotate_left
            · intro w hSw
              obtain ⟨hSw0, hSw1, hSw2⟩ := hSw
              go_simp
              try (with_reducible rfl)
            try simp only [Act.put, List.setIfInBounds_toArray, List.set_cons_zero, List.set_cons_succ]
            refine wpAnyH_take (i := 8) (v := ?_) rfl (by kernel_rfl) (by kernel_rfl) (by kernel_rfl) (fun _ _ _ h => h) (Or.inl ⟨by rfl, ?_⟩) (by assumption) ?_
            rotate_left
            · intro w hSw
              obtain ⟨hSw0, hSw1, hSw2⟩ := hSw
              go_simp
              try (with_reducible rfl)
            try simp only [Act.put, List.setIfInBounds_toArray, List.set_cons_zero, List.set_cons_succ]
            refine wpAnyH_take (i := 9) (v := ?_) rfl (by kernel_rfl) (by kernel_rfl) (by kernel_rfl) (fun _ _ _ h => h) (Or.inl ⟨by rfl, ?_⟩) (by assumption) ?_
            rotate_left
            · intro w hSw
              obtain ⟨hSw0, hSw1, hSw2⟩ := hSw
              go_simp
              try (with_reducible rfl)
            try simp only [Act.put, List.setIfInBounds_toArray, List.set_cons_zero, List.set_cons_succ]
            refine wpAnyH_take (i := 10) (v := ?_) rfl (by kernel_rfl) (by kernel_rfl) (by kernel_rfl) (fun _ _ _ h => h) (Or.inl ⟨by rfl, ?_⟩) (by assumption) ?_
            rotate_left
            · intro w hSw
              obtain ⟨hSw0, hSw1, hSw2⟩ := hSw
              go_simp
              try (with_reducible rfl)
            try simp only [Act.put, List.setIfInBounds_toArray, List.set_cons_zero, List.set_cons_succ]
            refine wpAnyH_take (i := 11) (v := ?_) rfl (by kernel_rfl) (by kernel_rfl) (by kernel_rfl) (fun _ _ _ h => h) (Or.inl ⟨by rfl, ?_⟩) (by assumption) ?_
            rotate_left
            · intro w hSw
              obtain ⟨hSw0, hSw1, hSw2⟩ := hSw
              go_simp
              try (with_reducible rfl)
            try simp only [Act.put, List.setIfInBounds_toArray, List.set_cons_zero, List.set_cons_succ]
            refine wpAnyH_ready (rs := [7, 12]) (by kernel_rfl) (by simp) ?_
            refine AllReadyH.cons rfl (fun K hK => ?_) ?_
            · go_simp
              refine hK.out _ _ (by first | (with_reducible assumption) | exact hHeld) (fun hHeld => ?_)
              clear hK K
              try simp only [Act.put, List.setIfInBounds_toArray, List.set_cons_zero, List.set_cons_succ]
              refine wpAnyH_ready (rs := [12]) (by kernel_rfl) (by simp) ?_
              refine AllReadyH.cons rfl (fun K hK => ?_) ?_
              · go_simp
                (with_reducible refine cL.mono ?_)
                rintro ee w5 ⟨ab5, be5, rfl, hx5, hE5, hM5, hF5, hL5⟩
                have hI5 := HX.out.1.drew.look hE5 hM5
                have u0 := hI5.tbox.get 0 _ rfl
                have u1 := hI5.tbox.get 1 _ rfl
                have u2 := hI5.tbox.get 2 _ rfl
                have v0 := hI5.fm.ra.cell hns
                rw [smAt_n] at v0
                have v1 := hI5.fm.ra.cell hx5
                have v2 := hI5.fm.ra.frozen n
                have hsm5 := HX.out.2.2.2.2.2 _ hx5
                have H5 := Lib.hid (And.intro hI5 (And.intro hF5 hL5))
                obtain ⟨bb, ebb⟩ : ∃ bb, be5 q = bb := ⟨_, rfl⟩
                rw [ebb] at v1 hx5 hsm5 ⊢
                obtain ⟨vv, evv⟩ : ∃ vv, smAt sg n cc bb = vv := ⟨_, rfl⟩
                rw [evv] at v1 hsm5
                have HV := Lib.hid (And.intro ebb evv)
                clear hI5 hE5 hM5 hF5 hL5 ebb evv
                try dsimp only
                refine hK.out _ _ ⟨u0, u1, u2⟩ (fun hHeld => ?_)
                clear hK K
                try simp only [Act.put, List.setIfInBounds_toArray, List.set_cons_zero, List.set_cons_succ]
                refine wpAnyH_take (i := 13) (v := ?_) rfl (by kernel_rfl) (by kernel_rfl) (by kernel_rfl) (fun _ _ _ h => h) (Or.inl ⟨by rfl, ?_⟩) (by assumption) ?_
                rotate_left
                · intro w hSw
                  obtain ⟨hSw0, hSw1, hSw2⟩ := hSw
                  go_simp
                  try (with_reducible rfl)
                try simp only [Act.put, List.setIfInBounds_toArray, List.set_cons_zero, List.set_cons_succ]
                refine wpAnyH_ready (rs := [14]) (by kernel_rfl) (by simp) ?_
                refine AllReadyH.cons rfl (fun K hK => ?_) ?_
                · go_simp
                  refine hK.out _ _ (by first | (with_reducible assumption) | exact hHeld) (fun hHeld => ?_)
                  clear hK K
                  try simp only [Act.put, List.setIfInBounds_toArray, List.set_cons_zero, List.set_cons_succ]
                  refine wpAnyH_ready (rs := [15]) (by kernel_rfl) (by simp) ?_
                  refine AllReadyH.cons rfl (fun K hK => ?_) ?_
                  · go_simp
                    refine hK.out _ _ (by first | (with_reducible assumption) | exact hHeld) (fun hHeld => ?_)
                    clear hK K
                    try simp only [Act.put, List.setIfInBounds_toArray, List.set_cons_zero, List.set_cons_succ]
                    refine wpAnyH_ready (rs := [16]) (by kernel_rfl) (by simp) ?_
                    refine AllReadyH.cons rfl (fun K hK => ?_) ?_
                    · go_simp
                      refine hK.out _ _ (by first | (with_reducible assumption) | exact hHeld) (fun hHeld => ?_)
                      clear hK K
                      try simp only [Act.put, List.setIfInBounds_toArray, List.set_cons_zero, List.set_cons_succ]
                      refine wpAnyH_ready (rs := [17]) (by kernel_rfl) (by simp) ?_
                      refine AllReadyH.cons rfl (fun K hK => ?_) ?_
                      · go_simp
                        refine hK.out _ _ ⟨(World.cell?_setCell_far _ _ _ _ (by dsimp only; omega)).trans hHeld.1, (World.cell?_setCell_far _ _ _ _ (by dsimp only; omega)).trans hHeld.2.1, (World.cell?_setCell_far _ _ _ _ (by dsimp only; omega)).trans hHeld.2.2⟩ (fun hHeld => ?_)
                        clear hK K
                        try simp only [Act.put, List.setIfInBounds_toArray, List.set_cons_zero, List.set_cons_succ]
                        refine wpAnyH_done (by kernel_rfl) ?_ _
                        refine NoPanic.normal ?_
                        have hmin : (if vv < cc then (vv : Int) else (cc : Int)) = ((min cc vv : Nat) : Int) := by
                          by_cases h : vv < cc
                          · rw [if_pos h, Nat.min_eq_right (Nat.le_of_lt h)]
                          · rw [if_neg h, Nat.min_eq_left (by omega)]
                        rw [hmin]
                        go_wp2_with fail
                        have hCn := HX.out.2.2.1.step HD.out.1 (fun u h1 h2 => HD.out.2 u (by omega) h2) HX.out.2.2.2.1 H5.out.2.2 (v := vv) (by rw [← HV.out.2, HV.out.1]; exact smAt_v)
                        rw [← HX.out.2.2.2.2.1] at hCn
                        refine ⟨⟨i + 1, min cc vv, ab5, be5, by omega, by go_num, (H5.out.1.setA n (min cc vv)).congr (fun u _ => smAt_set sg n cc _ u) (fun _ _ => rfl) (fun _ _ => rfl) (fun _ _ => rfl) (fun _ _ => rfl), H5.out.2.1, hCn⟩, by simp [intOf]; omega⟩
                      exact AllReadyH.nil
                    exact AllReadyH.nil
                  exact AllReadyH.nil
                exact AllReadyH.nil
              exact AllReadyH.nil
            refine AllReadyH.cons rfl (fun K hK => ?_) ?_
            · go_simp
              (with_reducible refine cL.mono ?_)
              rintro ee w5 ⟨ab5, be5, rfl, hx5, hE5, hM5, hF5, hL5⟩
              have hI5 := HX.out.1.drew.look hE5 hM5
              have u0 := hI5.tbox.get 0 _ rfl
              have u1 := hI5.tbox.get 1 _ rfl
              have u2 := hI5.tbox.get 2 _ rfl
              have v0 := hI5.fm.ra.cell hns
              rw [smAt_n] at v0
              have v1 := hI5.fm.ra.cell hx5
              have v2 := hI5.fm.ra.frozen n
              have hsm5 := HX.out.2.2.2.2.2 _ hx5
              have H5 := Lib.hid (And.intro hI5 (And.intro hF5 hL5))
              obtain ⟨bb, ebb⟩ : ∃ bb, be5 q = bb := ⟨_, rfl⟩
              rw [ebb] at v1 hx5 hsm5 ⊢
              obtain ⟨vv, evv⟩ : ∃ vv, smAt sg n cc bb = vv := ⟨_, rfl⟩
              rw [evv] at v1 hsm5
              have HV := Lib.hid (And.intro ebb evv)
              clear hI5 hE5 hM5 hF5 hL5 ebb evv
              try dsimp only
              refine hK.out _ _ ⟨u0, u1, u2⟩ (fun hHeld => ?_)
              clear hK K
              try simp only [Act.put, List.setIfInBounds_toArray, List.set_cons_zero, List.set_cons_succ]
              refine wpAnyH_take (i := 13) (v := ?_) rfl (by kernel_rfl) (by kernel_rfl) (by kernel_rfl) (fun _ _ _ h => h) (Or.inl ⟨by rfl, ?_⟩) (by assumption) ?_
              rotate_left
              · intro w hSw
                obtain ⟨hSw0, hSw1, hSw2⟩ := hSw
                go_simp
                try (with_reducible rfl)
              try simp only [Act.put, List.setIfInBounds_toArray, List.set_cons_zero, List.set_cons_succ]
              refine wpAnyH_ready (rs := [7, 14]) (by kernel_rfl) (by simp) ?_
              refine AllReadyH.cons rfl (fun K hK => ?_) ?_
              · go_simp
                refine hK.out _ _ (by first | (with_reducible assumption) | exact hHeld) (fun hHeld => ?_)
                clear hK K
                try simp only [Act.put, List.setIfInBounds_toArray, List.set_cons_zero, List.set_cons_succ]
                refine wpAnyH_ready (rs := [14]) (by kernel_rfl) (by simp) ?_
                refine AllReadyH.cons rfl (fun K hK => ?_) ?_
                · go_simp
                  refine hK.out _ _ (by first | (with_reducible assumption) | exact hHeld) (fun hHeld => ?_)
                  clear hK K
                  try simp only [Act.put, List.setIfInBounds_toArray, List.set_cons_zero, List.set_cons_succ]
                  refine wpAnyH_ready (rs := [15]) (by kernel_rfl) (by simp) ?_
                  refine AllReadyH.cons rfl (fun K hK => ?_) ?_
                  · go_simp
                    refine hK.out _ _ (by first | (with_reducible assumption) | exact hHeld) (fun hHeld => ?_)
                    clear hK K
                    try simp only [Act.put, List.setIfInBounds_toArray, List.set_cons_zero, List.set_cons_succ]
                    refine wpAnyH_ready (rs := [16]) (by kernel_rfl) (by simp) ?_
                    refine AllReadyH.cons rfl (fun K hK => ?_) ?_
                    · go_simp
                      refine hK.out _ _ (by first | (with_reducible assumption) | exact hHeld) (fun hHeld => ?_)
                      clear hK K
                      try simp only [Act.put, List.setIfInBounds_toArray, List.set_cons_zero, List.set_cons_succ]
                      refine wpAnyH_ready (rs := [17]) (by kernel_rfl) (by simp) ?_
                      refine AllReadyH.cons rfl (fun K hK => ?_) ?_
                      · go_simp
                        refine hK.out _ _ ⟨(World.cell?_setCell_far _ _ _ _ (by dsimp only; omega)).trans hHeld.1, (World.cell?_setCell_far _ _ _ _ (by dsimp only; omega)).trans hHeld.2.1, (World.cell?_setCell_far _ _ _ _ (by dsimp only; omega)).trans hHeld.2.2⟩ (fun hHeld => ?_)
                        clear hK K
                        try simp only [Act.put, List.setIfInBounds_toArray, List.set_cons_zero, List.set_cons_succ]
                        refine wpAnyH_done (by kernel_rfl) ?_ _
                        refine NoPanic.normal ?_
                        have hmin : (if vv < cc then (vv : Int) else (cc : Int)) = ((min cc vv : Nat) : Int) := by
                          by_cases h : vv < cc
                          · rw [if_pos h, Nat.min_eq_right (Nat.le_of_lt h)]
                          · rw [if_neg h, Nat.min_eq_left (by omega)]
                        rw [hmin]
                        go_wp2_with fail
                        have hCn := HX.out.2.2.1.step HD.out.1 (fun u h1 h2 => HD.out.2 u (by omega) h2) HX.out.2.2.2.1 H5.out.2.2 (v := vv) (by rw [← HV.out.2, HV.out.1]; exact smAt_v)
                        rw [← HX.out.2.2.2.2.1] at hCn
                        refine ⟨⟨i + 1, min cc vv, ab5, be5, by omega, by go_num, (H5.out.1.setA n (min cc vv)).congr (fun u _ => smAt_set sg n cc _ u) (fun _ _ => rfl) (fun _ _ => rfl) (fun _ _ => rfl) (fun _ _ => rfl), H5.out.2.1, hCn⟩, by simp [intOf]; omega⟩
                      exact AllReadyH.nil
                    exact AllReadyH.nil
                  exact AllReadyH.nil
                exact AllReadyH.nil
              refine AllReadyH.cons rfl (fun K hK => ?_) ?_
              · go_simp
                refine hK.out _ _ (by first | (with_reducible assumption) | exact hHeld) (fun hHeld => ?_)
                clear hK K
                try simp only [Act.put, List.setIfInBounds_toArray, List.set_cons_zero, List.set_cons_succ]
                refine wpAnyH_ready (rs := [7]) (by kernel_rfl) (by simp) ?_
                refine AllReadyH.cons rfl (fun K hK => ?_) ?_
                · go_simp
                  refine hK.out _ _ (by first | (with_reducible assumption) | exact hHeld) (fun hHeld => ?_)
                  clear hK K
                  try simp only [Act.put, List.setIfInBounds_toArray, List.set_cons_zero, List.set_cons_succ]
                  refine wpAnyH_ready (rs := [15]) (by kernel_rfl) (by simp) ?_
                  refine AllReadyH.cons rfl (fun K hK => ?_) ?_
                  · go_simp
                    refine hK.out _ _ (by first | (with_reducible assumption) | exact hHeld) (fun hHeld => ?_)
                    clear hK K
                    try simp only [Act.put, List.setIfInBounds_toArray, List.set_cons_zero, List.set_cons_succ]
                    refine wpAnyH_ready (rs := [16]) (by kernel_rfl) (by simp) ?_
                    refine AllReadyH.cons rfl (fun K hK => ?_) ?_
                    · go_simp
                      refine hK.out _ _ (by first | (with_reducible assumption) | exact hHeld) (fun hHeld => ?_)
                      clear hK K
                      try simp only [Act.put, List.setIfInBounds_toArray, List.set_cons_zero, List.set_cons_succ]
                      refine wpAnyH_ready (rs := [17]) (by kernel_rfl) (by simp) ?_
                      refine AllReadyH.cons rfl (fun K hK => ?_) ?_
                      · go_simp
                        refine hK.out _ _ ⟨(World.cell?_setCell_far _ _ _ _ (by dsimp only; omega)).trans hHeld.1, (World.cell?_setCell_far _ _ _ _ (by dsimp only; omega)).trans hHeld.2.1, (World.cell?_setCell_far _ _ _ _ (by dsimp only; omega)).trans hHeld.2.2⟩ (fun hHeld => ?_)
                        clear hK K
                        try simp only [Act.put, List.setIfInBounds_toArray, List.set_cons_zero, List.set_cons_succ]
                        refine wpAnyH_done (by kernel_rfl) ?_ _
                        refine NoPanic.normal ?_
                        have hmin : (if vv < cc then (vv : Int) else (cc : Int)) = ((min cc vv : Nat) : Int) := by
                          by_cases h : vv < cc
                          · rw [if_pos h, Nat.min_eq_right (Nat.le_of_lt h)]
                          · rw [if_neg h, Nat.min_eq_left (by omega)]
                        rw [hmin]
                        go_wp2_with fail
                        have hCn := HX.out.2.2.1.step HD.out.1 (fun u h1 h2 => HD.out.2 u (by omega) h2) HX.out.2.2.2.1 H5.out.2.2 (v := vv) (by rw [← HV.out.2, HV.out.1]; exact smAt_v)
                        rw [← HX.out.2.2.2.2.1] at hCn
                        refine ⟨⟨i + 1, min cc vv, ab5, be5, by omega, by go_num, (H5.out.1.setA n (min cc vv)).congr (fun u _ => smAt_set sg n cc _ u) (fun _ _ => rfl) (fun _ _ => rfl) (fun _ _ => rfl) (fun _ _ => rfl), H5.out.2.1, hCn⟩, by simp [intOf]; omega⟩
                      exact AllReadyH.nil
                    exact AllReadyH.nil
                  exact AllReadyH.nil
                exact AllReadyH.nil
              exact AllReadyH.nil
            exact AllReadyH.nil
          · rw [nuI_out hxb] at r0
            have hns2 := numsOf_snoc bl (L.take i) x
            rw [if_neg hxb, ← htk] at hns2
            have HX := Lib.hid (And.intro hI (And.intro hF (And.intro hC hns2)))
            clear hI hF hC hcd hRw htk ex hns2
            go_wp2_with fail
            exact ⟨⟨i + 1, cc, ab2, be2, by omega, by go_num, HX.out.1, HX.out.2.1, by rw [HX.out.2.2.2]; exact HX.out.2.2.1⟩, by simp [intOf]; omega⟩
        · obtain rfl : i = L.length := by omega
          rw [List.take_length] at hC
          have ecc : cc = sg n := (hC.ends HD.out.1 n0 hns (fun u h1 h2 => HD.out.2 u (by omega) h2) HL.out.2.1).unique (HD.out.2 n n0 hns)
          subst ecc
          have hsgf := (HD.out.2 n n0 hns).facts HD.out.1 n0 hns
          have hpan := (HD.out.1.par n n0 hns).1
          have hW := HI.out.2.2
          obtain ⟨aq, rfl, haq1, haq2⟩ := int_row (own_in (ownsRow_below HR.out.2.1 hI.past.2)) n (by rw [HE.out.2.2.2]; exact hnb)
          have hprn : pr[n]'(by rw [HE.out.2.2.2]; exact hnb) = ((pa n : Nat) : Int) := by
            have h1 := hWk.par n n0 hnb
            rw [HE.out.2.2.1, List.getElem?_eq_getElem (by rw [HE.out.2.2.2]; exact hnb)] at h1
            injection h1
          rw [hprn] at haq2
          have w1' := hI.wbox.get 1 _ rfl
          have t0 := hI.tbox.get 0 _ rfl
          have y0 := hI.fm.ra.cell hns
          rw [smAt_n] at y0
          have hss : sg n < sz := by omega
          obtain ⟨pv, cv, hv⟩ := hI.ll.slice hss
          rw [ints_len] at hv
          have hwl := hW.len (sg n)
          have hrs := hI.ll.row.cell hss
          rw [hv] at hrs
          have hag := hI.la.2
          have hgd := hI.gd
          have hIA := hI.drew.alloc (.cells #[.int .i64 n] 3)
          have hown := hIA.ll.own (sg n) hss
          rw [hv, ints_len] at hown
          have hrs1 := (hI.alloc (.cells #[.int .i64 n] 3)).ll.row.cell hss
          rw [hv] at hrs1
          have A0 := hIA.tbox.get 0 _ rfl
          have A1 := hIA.fm.ra.cell hns
          rw [smAt_n] at A1
          have hbig : g + 1 + 1 + 1 ≤ wr.heap.size := by have := hI.ll.row.lt; omega
          obtain ⟨M, eM⟩ : ∃ M, wt (sg n) = M := ⟨_, rfl⟩
          rw [eM] at hwl hrs hown hv hrs1
          have hml : M.length ≤ 1048576 := by omega
          have HIA := Lib.hid (And.intro hIA (And.intro hown (And.intro hv eM)))
          have HX := Lib.hid (And.intro hI (And.intro hF hW))
          obtain ⟨i0, hi, hz0, hz1, hz2⟩ := info_parts infoInt
          have HIN := Lib.hid (And.intro hi (And.intro hz0 (And.intro hz1 hz2)))
          obtain ⟨s0, es0⟩ : ∃ s0, sg n = s0 := ⟨_, rfl⟩
          clear hIA hown hI hF hW hC hprn hv eM hi hz0 hz1 hz2 hwl HI HL
          rw [es0] at y0 hrs hrs1 A1 hss
          go_upto_region 16 with fail
          clear haq1 haq2 w1'
          have ES := Lib.hid es0
          clear es0
          go_cut [] (fun wx => ∃ vs2, NeI W [.slice (some ad) sz cb, .slice (some aq) sz cq, .slice (some ⟨Rn, 0, none⟩) N N] sz a b c g (g + 1) (g + 1 + 1) (smAt sg n (sg n)) ab2 be2 ls (fun s => if s = sg n then wt s ++ [n] else wt s) vs2 wx)
          case first =>
            refine wp_region_noPanic ?_
            refine wp_region_held_drew (S := fun w' => w'.cell? ⟨g, 0, none⟩ = some (.slice (some ⟨a, 0, none⟩) sz sz) ∧ w'.cell? ⟨a, n, none⟩ = some (.int .i64 (s0 : Nat))) (by kernel_rfl) ⟨t0, y0⟩ (fun hHeld => ?_)
            refine wpAnyH_take (i := 0) (v := ?_) rfl (by kernel_rfl) (by kernel_rfl) (by kernel_rfl) (fun _ _ _ h => h) (Or.inl ⟨by rfl, ?_⟩) (by assumption) ?_
            rotate_left
            · intro w hSw
              obtain ⟨hSw0, hSw1⟩ := hSw
              go_simp
              try (with_reducible rfl)
            try simp only [Act.put, List.setIfInBounds_toArray, List.set_cons_zero, List.set_cons_succ]
            refine wpAnyH_take (i := 1) (v := ?_) rfl (by kernel_rfl) (by kernel_rfl) (by kernel_rfl) (fun _ _ _ h => h) (Or.inl ⟨by rfl, ?_⟩) (by assumption) ?_
            rotate_left
            · intro w hSw
              obtain ⟨hSw0, hSw1⟩ := hSw
              go_simp
              try (with_reducible rfl)
            try simp only [Act.put, List.setIfInBounds_toArray, List.set_cons_zero, List.set_cons_succ]
            refine wpAnyH_take (i := 2) (v := ?_) rfl (by kernel_rfl) (by kernel_rfl) (by kernel_rfl) (fun _ _ _ h => h) (Or.inl ⟨by rfl, ?_⟩) (by assumption) ?_
            rotate_left
            · intro w hSw
              obtain ⟨hSw0, hSw1⟩ := hSw
              go_simp
              try (with_reducible rfl)
            try simp only [Act.put, List.setIfInBounds_toArray, List.set_cons_zero, List.set_cons_succ]
            refine wpAnyH_take (i := 3) (v := ?_) rfl (by kernel_rfl) (by kernel_rfl) (by kernel_rfl) (fun _ _ _ h => h) (Or.inl ⟨by rfl, ?_⟩) (by assumption) ?_
            rotate_left
            · intro w hSw
              obtain ⟨hSw0, hSw1⟩ := hSw
              go_simp
              try (with_reducible rfl)
            try simp only [Act.put, List.setIfInBounds_toArray, List.set_cons_zero, List.set_cons_succ]
            refine wpAnyH_take (i := 4) (v := ?_) rfl (by kernel_rfl) (by kernel_rfl) (by kernel_rfl) (fun _ _ _ h => h) (Or.inl ⟨by rfl, ?_⟩) (by assumption) ?_
            rotate_left
            · intro w hSw
              obtain ⟨hSw0, hSw1⟩ := hSw
              go_simp
              try (with_reducible rfl)
            try simp only [Act.put, List.setIfInBounds_toArray, List.set_cons_zero, List.set_cons_succ]
            refine wpAnyH_take (i := 5) (v := ?_) rfl (by kernel_rfl) (by kernel_rfl) (by kernel_rfl) (fun _ _ _ h => h) (Or.inl ⟨by rfl, ?_⟩) (by assumption) ?_
            rotate_left
            · intro w hSw
              obtain ⟨hSw0, hSw1⟩ := hSw
              go_simp
              try (with_reducible rfl)
            try simp only [Act.put, List.setIfInBounds_toArray, List.set_cons_zero, List.set_cons_succ]
            refine wpAnyH_take (i := 6) (v := ?_) rfl (by kernel_rfl) (by kernel_rfl) (by kernel_rfl) (fun _ _ _ h => h) (Or.inl ⟨by rfl, ?_⟩) (by assumption) ?_
            rotate_left
            · intro w hSw
              obtain ⟨hSw0, hSw1⟩ := hSw
              go_simp
              try (with_reducible rfl)
            try simp only [Act.put, List.setIfInBounds_toArray, List.set_cons_zero, List.set_cons_succ]
            refine wpAnyH_take (i := 7) (v := ?_) rfl (by kernel_rfl) (by kernel_rfl) (by kernel_rfl) (fun _ _ _ h => h) (Or.inl ⟨by rfl, ?_⟩) (by assumption) ?_
            rotate_left
            · intro w hSw
              obtain ⟨hSw0, hSw1⟩ := hSw
              go_simp
              try (with_reducible rfl)
            try simp only [Act.put, List.setIfInBounds_toArray, List.set_cons_zero, List.set_cons_succ]
            refine wpAnyH_take (i := 8) (v := ?_) rfl (by kernel_rfl) (by kernel_rfl) (by kernel_rfl) (fun _ _ _ h => h) (Or.inl ⟨by rfl, ?_⟩) (by assumption) ?_
            rotate_left
            · intro w hSw
              obtain ⟨hSw0, hSw1⟩ := hSw
              go_simp
              try (with_reducible rfl)
            try simp only [Act.put, List.setIfInBounds_toArray, List.set_cons_zero, List.set_cons_succ]
            refine wpAnyH_take (i := 9) (v := ?_) rfl (by kernel_rfl) (by kernel_rfl) (by kernel_rfl) (fun _ _ _ h => h) (Or.inl ⟨by rfl, ?_⟩) (by assumption) ?_
            rotate_left
            · intro w hSw
              obtain ⟨hSw0, hSw1⟩ := hSw
              go_simp
              try (with_reducible rfl)
            try simp only [Act.put, List.setIfInBounds_toArray, List.set_cons_zero, List.set_cons_succ]
            refine wpAnyH_take (i := 10) (v := ?_) rfl (by kernel_rfl) (by kernel_rfl) (by kernel_rfl) (fun _ _ _ h => h) (Or.inl ⟨by rfl, ?_⟩) (by assumption) ?_
            rotate_left
            · intro w hSw
              obtain ⟨hSw0, hSw1⟩ := hSw
              go_simp
              try (with_reducible rfl)
            try simp only [Act.put, List.setIfInBounds_toArray, List.set_cons_zero, List.set_cons_succ]
            refine wpAnyH_take (i := 11) (v := ?_) rfl (by kernel_rfl) (by kernel_rfl) (by kernel_rfl) (fun _ _ _ h => h) (Or.inl ⟨by rfl, ?_⟩) (by assumption) ?_
            rotate_left
            · intro w hSw
              obtain ⟨hSw0, hSw1⟩ := hSw
              go_simp
              try (with_reducible rfl)
            try simp only [Act.put, List.setIfInBounds_toArray, List.set_cons_zero, List.set_cons_succ]
            refine wpAnyH_take (i := 12) (v := ?_) rfl (by kernel_rfl) (by kernel_rfl) (by kernel_rfl) (fun _ _ _ h => h) (Or.inl ⟨by rfl, ?_⟩) (by assumption) ?_
            rotate_left
            · intro w hSw
              obtain ⟨hSw0, hSw1⟩ := hSw
              go_simp
              try (with_reducible rfl)
            try simp only [Act.put, List.setIfInBounds_toArray, List.set_cons_zero, List.set_cons_succ]
            refine wpAnyH_take (i := 14) (v := ?_) rfl (by kernel_rfl) (by kernel_rfl) (by kernel_rfl) (fun _ _ _ h => h) (Or.inl ⟨by rfl, ?_⟩) (by assumption) ?_
            rotate_left
            · intro w hSw
              obtain ⟨hSw0, hSw1⟩ := hSw
              go_simp
              try (with_reducible rfl)
            try simp only [Act.put, List.setIfInBounds_toArray, List.set_cons_zero, List.set_cons_succ]
            refine wpAnyH_ready (rs := [13, 15]) (by kernel_rfl) (by simp) ?_
            refine AllReadyH.cons rfl (fun K hK => ?_) ?_
            · go_simp
              refine hK.out _ _ hHeld (fun hHeld => ?_)
              clear hK K
              try simp only [Act.put, List.setIfInBounds_toArray, List.set_cons_zero, List.set_cons_succ]
              refine wpAnyH_ready (rs := [15]) (by kernel_rfl) (by simp) ?_
              refine AllReadyH.cons rfl (fun K hK => ?_) ?_
              · go_simp
                refine hK.out _ _ ⟨A0, A1⟩ (fun hHeld => ?_)
                clear hK K
                try simp only [Act.put, List.setIfInBounds_toArray, List.set_cons_zero, List.set_cons_succ]
                refine wpAnyH_ready (rs := [16]) (by kernel_rfl) (by simp) ?_
                refine AllReadyH.cons rfl (fun K hK => ?_) ?_
                · skip
                  refine step_append_at rfl (.tmp 87) (.tmp 89) 22 rfl (g + 1 + 1 + 1) 3 i0 _ 1 8 Try.underlying22 HIN.out.1 HIN.out.2.1 HIN.out.2.2.1 HIN.out.2.2.2 rfl (by decide) (.slice pv M.length cv) M.length ((ints M).flatMap intC) rfl HIA.out.2.1 (some ⟨wr.heap.size, 0, none⟩) 1 1 [.int .i64 n] rfl rfl (lit_one _ _ _) (by intro u hu; simp at hu; subst hu; rfl) (by unfold maxLen; omega) (by omega) (by simp; omega) ?_
                  intro v6 w6 hown6 hgrow6 hmv6
                  obtain ⟨q6, c6, rfl⟩ := row_slice hown6
                  have hlt6 := HIA.out.2.1.lt
                  have hr6 := rowIs_kept HIA.out.1.ll.row hgrow6 (fun e => by have := (hlt6 _ e.symm).1; omega)
                  have k0 := hr6.cell hss
                  have kf := hr6.frozen s0
                  have k1 : w6.cell? ⟨g, 0, none⟩ = some (.slice (some ⟨a, 0, none⟩) sz sz) := (HIA.out.1.tbox.kept hgrow6 (fun e => by have := (hlt6 _ e.symm).1; omega)).get 0 _ rfl
                  have k2 : w6.cell? ⟨a, n, none⟩ = some (.int .i64 (s0 : Nat)) := (rowIs_kept HIA.out.1.fm.ra hgrow6 (fun e => by have := (hlt6 _ e.symm).1; omega)).cell hns |>.trans (by rw [smAt_n, ES.out])
                  have H6 := Lib.hid (And.intro hown6 (And.intro hgrow6 hmv6))
                  clear hr6 hown6 hgrow6 hmv6 hlt6
                  refine hK.out _ _ ⟨k1, k2⟩ (fun hHeld => ?_)
                  clear hK K
                  try simp only [Act.put, List.setIfInBounds_toArray, List.set_cons_zero, List.set_cons_succ]
                  refine wpAnyH_ready (rs := [17]) (by kernel_rfl) (by simp) ?_
                  refine AllReadyH.cons rfl (fun K hK => ?_) ?_
                  · go_simp
                    refine hK.out _ _ hHeld (fun hHeld => ?_)
                    clear hK K
                    try simp only [Act.put, List.setIfInBounds_toArray, List.set_cons_zero, List.set_cons_succ]
                    refine wpAnyH_ready (rs := [18]) (by kernel_rfl) (by simp) ?_
                    refine AllReadyH.cons rfl (fun K hK => ?_) ?_
                    · go_simp
                      refine hK.out _ _ ⟨(World.cell?_setCell_far _ _ _ _ (by dsimp only; omega)).trans hHeld.1, (World.cell?_setCell_far _ _ _ _ (by dsimp only; omega)).trans hHeld.2⟩ (fun hHeld => ?_)
                      clear hK K
                      try simp only [Act.put, List.setIfInBounds_toArray, List.set_cons_zero, List.set_cons_succ]
                      refine wpAnyH_done (by kernel_rfl) ?_ _
                      refine NoPanic.normal ?_
                      go_wp2_with fail
                      go_meet
                      have es1 := ES.out
                      subst es1
                      exact ⟨_, HIA.out.1.push (t := sg n) hss (by rw [HIA.out.2.2.2, ints_len]; exact H6.out.1) (by rw [HIA.out.2.2.1]; exact H6.out.2.1) (by rw [HIA.out.2.2.1]; exact H6.out.2.2)⟩
                    exact AllReadyH.nil
                  exact AllReadyH.nil
                exact AllReadyH.nil
              exact AllReadyH.nil
            refine AllReadyH.cons rfl (fun K hK => ?_) ?_
            · go_simp
              refine hK.out _ _ ⟨A0, A1⟩ (fun hHeld => ?_)
              clear hK K
              try simp only [Act.put, List.setIfInBounds_toArray, List.set_cons_zero, List.set_cons_succ]
              refine wpAnyH_ready (rs := [13]) (by kernel_rfl) (by simp) ?_
              refine AllReadyH.cons rfl (fun K hK => ?_) ?_
              · go_simp
                refine hK.out _ _ hHeld (fun hHeld => ?_)
                clear hK K
                try simp only [Act.put, List.setIfInBounds_toArray, List.set_cons_zero, List.set_cons_succ]
                refine wpAnyH_ready (rs := [16]) (by kernel_rfl) (by simp) ?_
                refine AllReadyH.cons rfl (fun K hK => ?_) ?_
                · skip
                  refine step_append_at rfl (.tmp 87) (.tmp 89) 22 rfl (g + 1 + 1 + 1) 3 i0 _ 1 8 Try.underlying22 HIN.out.1 HIN.out.2.1 HIN.out.2.2.1 HIN.out.2.2.2 rfl (by decide) (.slice pv M.length cv) M.length ((ints M).flatMap intC) rfl HIA.out.2.1 (some ⟨wr.heap.size, 0, none⟩) 1 1 [.int .i64 n] rfl rfl (lit_one _ _ _) (by intro u hu; simp at hu; subst hu; rfl) (by unfold maxLen; omega) (by omega) (by simp; omega) ?_
                  intro v6 w6 hown6 hgrow6 hmv6
                  obtain ⟨q6, c6, rfl⟩ := row_slice hown6
                  have hlt6 := HIA.out.2.1.lt
                  have hr6 := rowIs_kept HIA.out.1.ll.row hgrow6 (fun e => by have := (hlt6 _ e.symm).1; omega)
                  have k0 := hr6.cell hss
                  have kf := hr6.frozen s0
                  have k1 : w6.cell? ⟨g, 0, none⟩ = some (.slice (some ⟨a, 0, none⟩) sz sz) := (HIA.out.1.tbox.kept hgrow6 (fun e => by have := (hlt6 _ e.symm).1; omega)).get 0 _ rfl
                  have k2 : w6.cell? ⟨a, n, none⟩ = some (.int .i64 (s0 : Nat)) := (rowIs_kept HIA.out.1.fm.ra hgrow6 (fun e => by have := (hlt6 _ e.symm).1; omega)).cell hns |>.trans (by rw [smAt_n, ES.out])
                  have H6 := Lib.hid (And.intro hown6 (And.intro hgrow6 hmv6))
                  clear hr6 hown6 hgrow6 hmv6 hlt6
                  refine hK.out _ _ ⟨k1, k2⟩ (fun hHeld => ?_)
                  clear hK K
                  try simp only [Act.put, List.setIfInBounds_toArray, List.set_cons_zero, List.set_cons_succ]
                  refine wpAnyH_ready (rs := [17]) (by kernel_rfl) (by simp) ?_
                  refine AllReadyH.cons rfl (fun K hK => ?_) ?_
                  · go_simp
                    refine hK.out _ _ hHeld (fun hHeld => ?_)
                    clear hK K
                    try simp only [Act.put, List.setIfInBounds_toArray, List.set_cons_zero, List.set_cons_succ]
                    refine wpAnyH_ready (rs := [18]) (by kernel_rfl) (by simp) ?_
                    refine AllReadyH.cons rfl (fun K hK => ?_) ?_
                    · go_simp
                      refine hK.out _ _ ⟨(World.cell?_setCell_far _ _ _ _ (by dsimp only; omega)).trans hHeld.1, (World.cell?_setCell_far _ _ _ _ (by dsimp only; omega)).trans hHeld.2⟩ (fun hHeld => ?_)
                      clear hK K
                      try simp only [Act.put, List.setIfInBounds_toArray, List.set_cons_zero, List.set_cons_succ]
                      refine wpAnyH_done (by kernel_rfl) ?_ _
                      refine NoPanic.normal ?_
                      go_wp2_with fail
                      go_meet
                      have es1 := ES.out
                      subst es1
                      exact ⟨_, HIA.out.1.push (t := sg n) hss (by rw [HIA.out.2.2.2, ints_len]; exact H6.out.1) (by rw [HIA.out.2.2.1]; exact H6.out.2.1) (by rw [HIA.out.2.2.1]; exact H6.out.2.2)⟩
                    exact AllReadyH.nil
                  exact AllReadyH.nil
                exact AllReadyH.nil
              exact AllReadyH.nil
            exact AllReadyH.nil
          case rest =>
            obtain ⟨vs2, hI⟩ := hcut
            have es1 := ES.out
            subst es1
            have hF := HX.out.2.1.add HD.out.1 n0 hns
            have hEm := HX.out.2.2.put HD.out.1 hns (pa n)
            have x1 := hI.tbox.get 1 _ rfl
            have f1 := hI.fm.rb.frozen n
            have y1 := hI.fm.rb.cell hns
            have hI2 := hI.setB n (pa n : Nat)
            obtain ⟨wt2, ewt⟩ : ∃ wt2 : Nat → List Nat, (fun s => if s = sg n then wt s ++ [n] else wt s) = wt2 := ⟨_, rfl⟩
            rw [ewt] at hI2 hEm
            obtain ⟨p2, c2, hv2⟩ := hI2.ll.slice (show pa n < sz by omega)
            rw [ints_len] at hv2
            have hr2 := hI2.ll.row.cell (show pa n < sz by omega)
            rw [hv2] at hr2
            have hlz := hEm.len (pa n)
            have hzs := hEm.has (pa n)
            obtain ⟨Z, eZ⟩ : ∃ Z, wt2 (pa n) = Z := ⟨_, rfl⟩
            rw [eZ] at hr2 hlz hzs hv2
            have hzl : Z.length ≤ 1048576 := by omega
            have HX2 := Lib.hid (And.intro hI2 (And.intro hF (And.intro hEm (And.intro hv2 (And.intro eZ hzs)))))
            clear hI hI2 hF hEm hlz hzs eZ ewt hv2 HX HIA
            go_wp2_with fail
            clear hr2 x1 f1 y1 t0 y0 hrs hrs1 A0 A1
            generalize wc = wp at *
            go_loopw [102] (fun t wr => ∃ (j : Nat) (ab : Nat → Int) (be ls2 : Nat → Nat), j ≤ Z.length ∧ t = .int .i64 j ∧ NeI W [.slice (some ad) sz cb, .slice (some aq) sz cq, .slice (some ⟨Rn, 0, none⟩) N N] sz a b c g (g + 1) (g + 1 + 1) (smAt sg n (sg n)) ab be ls2 wt2 vs2 wr ∧ For sz pa sg n ab be ∧ Emp sz pa sg n wt2 ls2 (pa n) j) (fun t _ => Z.length - (intOf t).toNat)
            case atStart => exact ⟨0, _, _, _, Nat.zero_le _, rfl, HX2.out.1, HX2.out.2.1, HX2.out.2.2.1⟩
            case round =>
              obtain ⟨j, ab3, be3, ls3, hjZ, rfl, hI, hF, hEm⟩ := hrel
              have hpq : pa n < sz := by omega
              by_cases hlt3 : j < Z.length
              · have hz := HX2.out.2.2.2.2.1
                have hoz := hI.ll.own (pa n) hpq
                rw [HX2.out.2.2.2.1, hz, ints_len] at hoz
                obtain ⟨az, haz, haz1, haz2⟩ := own_nat hoz hlt3
                subst haz
                have hmz := HX2.out.2.2.2.2.2 _ (List.getElem_mem hlt3)
                have hst := fun l => hEm.step HD.out.1 HD.out.2 n0 (l := l) (by rw [hz]; exact hlt3)
                have emz : ∀ hh, (wt2 (pa n))[j]'hh = Z[j] := fun hh => by simp only [hz]
                simp only [emz] at hst
                obtain ⟨m, em⟩ : ∃ m, Z[j] = m := ⟨_, rfl⟩
                simp only [em] at haz2 hmz hst
                have hsr : ∀ m, m < sz → smAt sg n (sg n) m ≤ 1048576 := fun m hm => by
                  unfold smAt
                  by_cases e1 : n < m
                  · rw [if_pos e1]
                    have := ((HD.out.2 m (by omega) hm).facts HD.out.1 (by omega) hm).2.1
                    omega
                  · rw [if_neg e1]
                    by_cases e2 : m = n
                    · rw [if_pos e2]; omega
                    · rw [if_neg e2]; omega
                have hse : ∀ m, n ≤ m → m < sz → smAt sg n (sg n) m = sg m := fun m h1 h2 => by
                  by_cases e1 : n < m
                  · exact smAt_hi e1
                  · obtain rfl : m = n := by omega
                    exact smAt_n sg m _
                have cL := lookUp_any wr HD.out.1 hF hI.fm hse hsr hmz.2.1 hszN
                have t0 := hI.tbox.get 0 _ rfl
                have t1 := hI.tbox.get 1 _ rfl
                have t2 := hI.tbox.get 2 _ rfl
                have hms := hmz.2.1
                have HY := Lib.hid (And.intro hI (And.intro hF (And.intro hEm hst)))
                clear hI hF hEm hst hsr hse emz em hoz hz hmz
                go_wp2_with fail
                refine cL.mono ?_
                rintro ee w5 ⟨ab5, be5, rfl, hx5, hE5, hM5, hF5, hL5⟩
                have hI5 := HY.out.1.look hE5 hM5
                have v0 := hI5.lr.cell hms
                have v1 := hI5.lr.frozen m
                have H5 := Lib.hid (And.intro hI5 (And.intro hF5 hL5))
                obtain ⟨bb, ebb⟩ : ∃ bb, be5 m = bb := ⟨_, rfl⟩
                simp only [ebb] at H5 hx5 ⊢
                clear hI5 hE5 hM5 hF5 hL5 ebb cL t0 t1 t2 haz1 haz2
                go_wp2_with fail
                exact ⟨⟨j + 1, ab5, be5, _, by omega, by go_num, H5.out.1.setD m bb, H5.out.2.1, HY.out.2.2.2 bb H5.out.2.2⟩, by simp [intOf]; omega⟩
              · obtain rfl : j = Z.length := by omega
                have hrp := hI.ll.row.cell hpq
                have hfp := hI.ll.row.frozen (pa n)
                have HY := Lib.hid (And.intro hI (And.intro hF hEm))
                clear hI hF hEm
                go_wp2_with fail
                refine ⟨⟨n, ab3, be3, ls3, _, _, by omega, by go_num, (HY.out.1.drop hpq).congr (fun u _ => smAt_next n0 u) (fun _ _ => rfl) (fun _ _ => rfl) (fun _ _ => rfl) (fun _ _ => rfl), HY.out.2.1, HY.out.2.2.ends HD.out.1 n0 hns (by rw [HX2.out.2.2.2.2.1]; exact Nat.le_refl _), .inl (by omega)⟩, by simp [intOf] <;> omega⟩
    · have hex : decide ((0 : Int) < (k : Int) - 1) = false := decide_eq_false (by omega)
      have x0 := hI.tbox.get 0 _ rfl
      have hs := fun w (hr : w.rowIs a 3 sz (fun i => .int .i64 (smAt sg (k - 1) (k - 1) i : Nat))) (hd : w.rowIs (g + 1) 3 sz (fun i => .int .i64 (ls i : Nat))) => settle_any w HD.out.1 HD.out.2 (fun m h1 h2 => smAt_hi (by omega)) (fun m h1 h2 => Wait.ends HD.out.1 HD.out.2 (by rw [show k - 1 = 0 by omega] at hW; exact hW) h1 h2) hr hd hszN
      have cS := hs _ hI.fm.ra hI.lr
      have HI := Lib.hid hI
      clear hI hF hW hs
      go_wp2_with fail
      refine cS.mono ?_
      rintro e w2 ⟨R, nr, rfl, hp2, hR, hr2, hu⟩
      have HX := Lib.hid (And.intro hp2 (And.intro hR (And.intro hr2 hu)))
      clear cS x0 hp2 hR hr2 hu
      go_wp2_with fail
      go_ret
      have hps := HI.out.past.size
      exact ⟨R, nr, rfl, HI.out.past.trans ⟨hps, HX.out.1.2.mono hps⟩, Nat.le_trans hps HX.out.2.1, HX.out.2.2.1, HX.out.2.2.2⟩
end Go.Proofs.Ytphdhndljgihmaa
