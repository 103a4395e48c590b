/- The document's Order; bools, Lists. -/
import Derived.Test.YtejnhdhfmklajaaRVis
namespace Go.Proofs.Ytejnhdhfmklajaa
open Go.RowKit Go.Maps
set_option linter.unusedVariables false
set_option linter.unusedSimpArgs false

def LiesInts (L : List Nat) (W : World) (e : Ending) (w' : World) : Prop :=
  ∃ p c, e = .returned (.slice p L.length c) ∧ Past W.heap.size W w' ∧ ListIn intC NoMem w'.heap.size w' p L.length c (ints L)
theorem lst_in {lo : Nat} {w : World} {p : Option Addr} {c : Nat} {L : List Nat} (h : Lst lo none none w ⟨0, p, c, L⟩) : ListIn intC NoMem w.heap.size w p L.length c (ints L) := by
  refine ⟨(ints_len L).symm, h.1, h.2.1, fun j u hu => ?_, fun _ _ => trivial⟩
  rw [intC_map, List.getElem?_map] at hu
  obtain ⟨x, hx, rfl⟩ := Option.map_eq_some_iff.1 hu
  obtain ⟨hj, rfl⟩ := List.getElem?_eq_some_iff.1 hx
  have hj' : j < L.length := by rw [ints_len] at hj; exact hj
  obtain ⟨ad, e, _, h3, _, _, h5⟩ := h.2.2 j hj'
  exact ⟨ad, e, h3, by rw [ints_get L j hj']; exact h5⟩
set_option maxRecDepth 100000 in
set_option maxHeartbeats 2000000 in
theorem rOrder_own (f : LFn) (W : World) (hf : FnIn W.heap.size W f) (hs : FnSm f) (hbs : f.bs.length ≤ 1048576) (L : List Nat) (hL : OrderIs (succP (fnD f).bs) f.bs.length L) :
    Calls Try.prog 17 #[.agg (fnC f).toArray] W (LiesInts L W) := by
  have hmk := run_make_row' (P := Try.prog) 32 4 _ _ Try.underlying32 infoBool rfl .i64 .i64 f.bs.length (by omega) (by omega)
  have hP := (Past.refl (Nat.le_refl W.heap.size)).alloc (.cells (fnC f).toArray 25)
  have A1 : Box W.heap.size (fnC f) (W.alloc (.cells (fnC f).toArray 25)) := Box.new W rfl _ _
  have hV0 : VI ((W.alloc (.cells (fnC f).toArray 25)).drew.alloc (.cells (madeCells #[.bool false] f.bs.length) 4)) (W.heap.size + 1) f.bs.length [] [] none 0 ((W.alloc (.cells (fnC f).toArray 25)).drew.alloc (.cells (madeCells #[.bool false] f.bs.length) 4)) := by
    have r1 := World.rowIs_made (W.alloc (.cells (fnC f).toArray 25)).drew (.bool false) f.bs.length 4
    rw [World.size_drew, World.size_alloc] at r1
    exact ⟨Out.refl _ _ _, r1.congr (fun i hi => by simp), Lst.none_left (Nat.zero_le _), List.nodup_nil, fun x hx => by simp at hx, Nat.le_refl _⟩
  have P1 : Past W.heap.size W ((W.alloc (.cells (fnC f).toArray 25)).drew.alloc (.cells (madeCells #[.bool false] f.bs.length) 4)) := hP.drew.alloc _
  have cV := fun (h0 : 0 < f.bs.length) => visit_own f hs hbs (W.heap.size + 1) W.heap.size (Nat.le_succ _) f.bs.length ((W.alloc (.cells (fnC f).toArray 25)).drew.alloc (.cells (madeCells #[.bool false] f.bs.length) 4)) 0 [] [] none 0 (lasts_Fn _ _ _ _ _ P1.2 (Nat.le_refl _) hf) h0 (by simp) hV0 (by simp)
  obtain ⟨S, eS⟩ : ∃ S, succP (fnD f).bs = S := ⟨_, rfl⟩
  simp only [eS] at cV hL
  obtain ⟨nm, pp, pn, pc, ps, rt, bp, bn, bc, bs⟩ := f
  obtain rfl : bn = bs.length := hf.2.1
  show Calls Try.prog 17 #[.agg #[.string nm, .slice pp pn pc, .int .i64 rt, .slice bp bs.length bc]] W _
  have hfc : fnC ⟨nm, pp, pn, pc, ps, rt, bp, bs.length, bc, bs⟩ = [.string nm, .slice pp pn pc, .int .i64 rt, .slice bp bs.length bc] := rfl
  simp only [hfc] at A1 hP cV P1
  obtain ⟨n, en⟩ : ∃ n, bs.length = n := ⟨_, rfl⟩
  simp only [en] at A1 hP cV hbs hL hmk P1 ⊢
  have a0 := A1.get 0 _ rfl
  have a1 := A1.get 1 _ rfl
  have a2 := A1.get 2 _ rfl
  have a3 := A1.get 3 _ rfl
  have HP := Lib.hid (And.intro hP (And.intro P1 hL))
  have HA := Lib.hid (A1.drew.alloc (.cells (madeCells #[.bool false] n) 4))
  clear A1 hP hf hs hfc en eS hV0 P1 hL
  go_enter Try.func17, Try.ntmps17
  by_cases h0 : n = 0
  · subst h0
    obtain rfl : L = [] := by
      rcases HP.out.2.2 with ⟨_, h⟩ | ⟨h, _⟩
      · exact h
      · exact absurd h (Nat.lt_irrefl _)
    clear cV hmk
    go_wp2_with fail
    go_ret
    exact ⟨none, 0, rfl, HP.out.1, in_nilG _ _⟩
  · have hz : (((n : Nat) : Int) == 0) = false := by simp; omega
    have hpos : 0 < n := by omega
    have cV : Calls Try.prog 33 #[.agg #[.string nm, .slice pp pn pc, .int .i64 rt, .slice bp n bc], .int .i64 0, .slice (some ⟨W.heap.size + 1, 0, none⟩) n n, .slice none 0 0] ((W.alloc (.cells #[.string nm, .slice pp pn pc, .int .i64 rt, .slice bp n bc] 25)).alloc (.cells (madeCells #[.bool false] n) 4)).drew (VisEnds S ((W.alloc (.cells #[.string nm, .slice pp pn pc, .int .i64 rt, .slice bp n bc] 25)).drew.alloc (.cells (madeCells #[.bool false] n) 4)) (W.heap.size + 1) n 0 [] []) := cV hpos
    have hl : W.heap.size < (W.alloc (.cells #[.string nm, .slice pp pn pc, .int .i64 rt, .slice bp n bc] 25)).heap.size := by simp
    clear h0
    go_wp2_with fail
    go_region_held3 (fun w' => w'.cell? ⟨W.heap.size, 0, none⟩ = some (.string nm) ∧ w'.cell? ⟨W.heap.size, 1, none⟩ = some (.slice pp pn pc) ∧ w'.cell? ⟨W.heap.size, 2, none⟩ = some (.int .i64 rt) ∧ w'.cell? ⟨W.heap.size, 3, none⟩ = some (.slice bp n bc))
      (((try dsimp only); (repeat' apply And.intro) <;> ((repeat (first | rw [World.cell?_drew] | rw [World.cell?_alloc_past _ _ _ (by first | omega | (simp <;> omega) | (dsimp only; omega) | (dsimp only; simp <;> omega))])); with_reducible assumption)))
      (first
        | ((with_reducible refine cV.mono ?_)
           rintro e w5 ⟨q5, c5, o5, m5, rfl, hG5, hV5, hm5, hbal5⟩
           have hB5 := Out.box HA.out hV5.ho (.inl (Nat.lt_succ_self _))
           have k0 := hB5.get 0 _ rfl
           have k1 := hB5.get 1 _ rfl
           have k2 := hB5.get 2 _ rfl
           have k3 := hB5.get 3 _ rfl
           have H5 := Lib.hid (And.intro hG5 hV5)
           clear hB5
           clear hG5 hV5))
    all_goals
      go_wp2_with fail
      go_ret
      have hLo : L = o5 := OrderIs.unique HP.out.2.2 (.inr ⟨hpos, m5, H5.out.1 []⟩)
      subst hLo
      have hv := H5.out.2
      exact ⟨q5, c5, rfl, ⟨HP.out.1.1, HP.out.2.1.2.trans (hv.ho.below (Nat.le_succ _) HP.out.2.1.size)⟩, lst_in hv.lst⟩
theorem own_in {w : World} {B c : Nat} {p : Option Addr} {xs : List Int} (h : w.ownsRow B 3 1 (.slice p xs.length c) xs.length (xs.flatMap intC)) : ListIn intC NoMem w.heap.size w p xs.length c xs := by
  have h2 : ListOwn 3 1 intC NoOwn 0 w.heap.size w p xs.length c xs := ⟨rfl, h.mono (Nat.zero_le _), fun g e => (h.lt g e).2, spread_NoOwn (Nat.zero_le _) _⟩
  exact ints_in h2 (Nat.le_refl _)
set_option maxRecDepth 100000 in
set_option maxHeartbeats 1000000 in
theorem bools_same (R1 R2 n : Nat) (g : Nat → Bool) (W : World) (h1 : W.rowIs R1 4 n (fun i => .bool (g i))) (h2 : W.rowIs R2 4 n (fun i => .bool (g i))) (hn : n ≤ 1048576) :
    Calls Try.prog 13 #[.slice (some ⟨R1, 0, none⟩) n n, .slice (some ⟨R2, 0, none⟩) n n] W fun e w' => e = .returned (.bool true) ∧ Below W.heap.size W w' := by
  have H := Lib.hid (And.intro h1 h2)
  clear h1 h2
  go_enter Try.func13, Try.ntmps13
  go_wp2_with fail
  go_loopw [13] (fun t wr => ∃ i : Nat, i ≤ n ∧ t = .int .i64 i ∧ Below W.heap.size W wr) (fun t _ => n - (intOf t).toNat)
  case atStart => exact ⟨0, Nat.zero_le _, rfl, Below.refl _ _⟩
  case round =>
    obtain ⟨i, hin, rfl, hb⟩ := hrel
    by_cases hlt : i < n
    · have c1 := (rowIs_kept H.out.1 (below_grown hb) (by simp)).cell hlt
      have c2 := (rowIs_kept H.out.2 (below_grown hb) (by simp)).cell hlt
      obtain ⟨gi, eg⟩ : ∃ gi, g i = gi := ⟨_, rfl⟩
      simp only [eg] at c1 c2
      have HB := Lib.hid hb
      clear eg hb
      cases gi
      all_goals
        go_wp2_with fail
        go_quiet (fail)
        all_goals
          go_wp2_with fail
          exact ⟨⟨i + 1, by omega, by go_num, HB.out.trans (below_drewN _ _ _)⟩, by simp [intOf]; omega⟩
    · obtain rfl : i = n := by omega
      have HB := Lib.hid hb
      clear hb
      go_wp2_with fail
      go_ret
      exact ⟨rfl, HB.out⟩
set_option maxRecDepth 100000 in
set_option maxHeartbeats 1000000 in
theorem Lists_same (R1 R2 n : Nat) (vs1 vs2 : Nat → Value) (M : Nat → List Int) (W : World) (h1 : LL R1 n vs1 M W) (h2 : LL R2 n vs2 M W) (hn : n ≤ 1048576) :
    Calls Try.prog 20 #[.slice (some ⟨R1, 0, none⟩) n n, .slice (some ⟨R2, 0, none⟩) n n] W fun e w' => e = .returned (.bool true) ∧ Below W.heap.size W w' := by
  have H := Lib.hid (And.intro h1 h2)
  clear h1 h2
  go_enter Try.func20, Try.ntmps20
  go_wp2_with fail
  go_loopw [13] (fun t wr => ∃ i : Nat, i ≤ n ∧ t = .int .i64 i ∧ Below W.heap.size W wr) (fun t _ => n - (intOf t).toNat)
  case atStart => exact ⟨0, Nat.zero_le _, rfl, Below.refl _ _⟩
  case round =>
    obtain ⟨i, hin, rfl, hb⟩ := hrel
    by_cases hlt : i < n
    · have l1 := H.out.1.later hb
      have l2 := H.out.2.later hb
      have c1 := l1.row.cell hlt
      have c2 := l2.row.cell hlt
      obtain ⟨q1, k1, e1⟩ := l1.slice hlt
      obtain ⟨q2, k2, e2⟩ := l2.slice hlt
      have o1 := l1.own i hlt
      have o2 := l2.own i hlt
      rw [e1] at c1 o1
      rw [e2] at c2 o2
      have i1 : ListIn intC NoMem wr.drew.heap.size wr.drew q1 (M i).length k1 (M i) := own_in o1
      have i2 : ListIn intC NoMem wr.drew.heap.size wr.drew q2 (M i).length k2 (M i) := own_in o2
      have cI := Ints_any wr.drew q1 q2 (M i).length (M i).length k1 k2 (M i) (M i) i1 i2
      have HB := Lib.hid hb
      clear hb l1 l2 o1 o2 i1 i2 e1 e2
      obtain ⟨Mi, eM⟩ : ∃ Mi, M i = Mi := ⟨_, rfl⟩
      simp only [eM] at c1 c2 cI
      clear eM
      go_wp2_with fail
      go_region_held3 (fun w' => w'.cell? ⟨R1, i, none⟩ = some (.slice q1 Mi.length k1) ∧ w'.cell? ⟨R2, i, none⟩ = some (.slice q2 Mi.length k2))
        (((try dsimp only); (repeat' apply And.intro) <;> (first | (with_reducible assumption) | (rw [World.cell?_drew]; with_reducible assumption))))
        (first
          | ((with_reducible refine cI.mono ?_)
             rintro e w5 ⟨bo, rfl, hbo, hb5⟩
             obtain rfl : bo = true := hbo.2 (by trivial)
             have k0 := (hb5.cell (p := ⟨R1, i, none⟩) (by rw [World.size_drew]; exact Nat.lt_of_lt_of_le H.out.1.row.lt HB.out.size)).trans ((World.cell?_drew wr ⟨R1, i, none⟩).trans c1)
             have k1 := (hb5.cell (p := ⟨R2, i, none⟩) (by rw [World.size_drew]; exact Nat.lt_of_lt_of_le H.out.2.row.lt HB.out.size)).trans ((World.cell?_drew wr ⟨R2, i, none⟩).trans c2)
             have H5 := Lib.hid hb5
             clear hbo hb5))
      all_goals
        go_wp2_with fail
        exact ⟨⟨i + 1, by omega, by go_num, HB.out.trans ((below_drew (Below.refl _ _)).trans (H5.out.mono HB.out.size))⟩, by simp [intOf]; omega⟩
    · obtain rfl : i = n := by omega
      have HB := Lib.hid hb
      clear hb
      go_wp2_with fail
      go_ret
      exact ⟨rfl, HB.out⟩
end Go.Proofs.Ytejnhdhfmklajaa
