/- The document's memory: Set. -/
import Derived.Test.YtkbkgbkoplcgeaaMZd
namespace Go.Proofs.Ytkbkgbkoplcgeaa
open Go.RowKit Go.Maps
set_option linter.unusedVariables false
set_option linter.unusedSimpArgs false

/-- A new memory. -/
structure RmNew (W : World) (D : Dm) (q : Option Addr) (d : Nat) (ys : List Rk) (w : World) : Prop where
  own : RmOwn W.heap.size w.heap.size w q d ys
  small : ∀ y ∈ ys, y.l.length ≤ 4096
  shows : D = ys.map rkD
  past : Past W.heap.size W w
theorem RmNew.lies {W : World} {D : Dm} {q : Option Addr} {d : Nat} {ys : List Rk} {w : World} (h : RmNew W D q d ys w) : RmIn w q d ys D := by
  rw [h.shows]; exact RmOwn.lies h.own (Nat.le_refl _) h.small
theorem RmNew.len {W : World} {D : Dm} {q : Option Addr} {d : Nat} {ys : List Rk} {w : World} (h : RmNew W D q d ys w) : ys.length = D.length := by rw [h.shows, List.length_map]
theorem put_one {α : Type} (L : List α) (j : Nat) (hj : j < L.length) (y : α) : put L j [y] = L.set j y := List.ext_getElem? fun m => by
  rw [put_get _ _ _ (by simp; omega), List.getElem?_set]
  by_cases h1 : m < j
  · rw [if_pos h1, if_neg (by omega)]
  · rw [if_neg h1]
    by_cases h2 : m = j
    · subst h2
      rw [if_pos (by simp), if_pos rfl, if_pos hj, Nat.sub_self]
      rfl
    · rw [if_neg (by simp; omega), if_neg (fun e => h2 e.symm)]
theorem mCopy_new (W : World) (p : Option Addr) (c : Nat) (xs : List Rk) (D : Dm) (hl : xs.length ≤ 100000) (h : RmIn W p c xs D) :
    Calls Try.prog 68 #[.slice p xs.length c] W fun e w' => ∃ q d ys, e = .returned (.slice q ys.length d) ∧ ys.map rkS = xs.map rkS ∧ RmNew W D q d ys w' := by
  refine (mCopy_any W p c xs D hl h).mono ?_
  rintro e w' ⟨q, d, ys, rfl, hs, ho, hp⟩
  exact ⟨q, d, ys, by rw [rkS_len hs], hs, ⟨ho, rkS_small hs h.small, by rw [rkS_shows hs]; exact h.shows, hp⟩⟩
theorem row_some {w : World} {B e m n c : Nat} {p : Option Addr} {cs : List Value} (h : w.ownsRow B e m (.slice p n c) n cs) (hn : 0 < n) : ∃ g, p = some ⟨g, 0, none⟩ := by
  rcases h.2 with ⟨_, h0⟩ | ⟨g, cap, cur, e1, _⟩
  · omega
  · injection e1 with e1 _ _; exact ⟨g, e1⟩
/-- A byte of a block of one's own is turned. -/
theorem RmOwn.byte {a b : Nat} {w : World} {q : Option Addr} {d : Nat} {ys : List Rk} (h : RmOwn a b w q d ys) (i : Nat) (hi : i < ys.length) (j : Nat) (hj : j < ys[i].l.length) (y : By) :
    ∃ g, ys[i].p = some ⟨g, 0, none⟩ ∧ a ≤ g ∧ g < b ∧ (w.cell? ⟨g, j * 5, none⟩ = some (.int .i64 ys[i].l[j].k) ∧ w.cell? ⟨g, j * 5 + 1, none⟩ = some (.int .u8 ys[i].l[j].b) ∧ w.cell? ⟨g, j * 5 + 2, none⟩ = some (.int .i64 ys[i].l[j].bk) ∧ w.cell? ⟨g, j * 5 + 3, none⟩ = some (.int .i64 ys[i].l[j].o) ∧ w.cell? ⟨g, j * 5 + 4, none⟩ = some (.int .i64 ys[i].l[j].i) ∧ ∀ i, w.frozen? ⟨g, i, none⟩ = false) ∧
      RmOwn a b (w.setCells g (j * 5) (byC y)) q d (ys.set i ⟨ys[i].a, ys[i].p, ys[i].c, ys[i].l.set j y⟩) := by
  obtain ⟨a', b', h1, h2, h3, hq, hup⟩ := ListOwn.upd local_Rk h i hi
  obtain ⟨hr, hlt⟩ := hq
  obtain ⟨g, eg⟩ := row_some hr (by omega)
  rw [eg] at hr hlt
  have hg1 := (hr.lt g rfl).1
  have hg2 := hlt g rfl
  refine ⟨g, eg, by omega, by omega, own_by hr j hj, ?_⟩
  have := hup (w.setCells g (j * 5) (byC y)) ⟨ys[i].a, ys[i].p, ys[i].c, ys[i].l.set j y⟩ (by unfold rkC; simp only [List.length_set]) (fun k _ _ hk => setCells_heap g (byC y) (j * 5) w k (by omega)) (by
    refine ⟨?_, ?_⟩
    · show World.ownsRow _ _ _ _ (.slice ys[i].p (ys[i].l.set j y).length ys[i].c) (ys[i].l.set j y).length _
      rw [List.length_set, eg]
      exact wr_store hr hj y
    · show ∀ g, (Value.slice ys[i].p (ys[i].l.set j y).length ys[i].c).ownBlock = some g → g < b'
      rw [List.length_set, eg]
      exact hlt)
  unfold RmOwn
  rw [List.length_set]
  exact this
theorem setCells_sz (w : World) (g : Nat) (o : Nat) (cs : List Value) : (w.setCells g o cs).heap.size = w.heap.size := setCells_size ..
theorem RmNew.byte {W : World} {D : Dm} {q : Option Addr} {d : Nat} {ys : List Rk} {w : World} (h : RmNew W D q d ys w) (i : Nat) (hi : i < ys.length) (ha : ys[i].a = true) (j : Nat) (hj : j < ys[i].l.length) (y : By) :
    ∃ g, ys[i].p = some ⟨g, 0, none⟩ ∧ (w.cell? ⟨g, j * 5, none⟩ = some (.int .i64 ys[i].l[j].k) ∧ w.cell? ⟨g, j * 5 + 1, none⟩ = some (.int .u8 ys[i].l[j].b) ∧ w.cell? ⟨g, j * 5 + 2, none⟩ = some (.int .i64 ys[i].l[j].bk) ∧ w.cell? ⟨g, j * 5 + 3, none⟩ = some (.int .i64 ys[i].l[j].o) ∧ w.cell? ⟨g, j * 5 + 4, none⟩ = some (.int .i64 ys[i].l[j].i) ∧ ∀ i, w.frozen? ⟨g, i, none⟩ = false) ∧
      RmNew W (D.set i (some (ys[i].l.set j y))) q d (ys.set i ⟨ys[i].a, ys[i].p, ys[i].c, ys[i].l.set j y⟩) (w.setCells g (j * 5) (byC y)) := by
  obtain ⟨g, eg, hg1, hg2, hc, ho⟩ := h.own.byte i hi j hj y
  refine ⟨g, eg, hc, ⟨by rw [setCells_sz]; exact ho, fun z hz => ?_, ?_, Past.setCells hg1 _ _ h.past⟩⟩
  · rcases List.mem_or_eq_of_mem_set hz with hz | rfl
    · exact h.small z hz
    · show (ys[i].l.set j y).length ≤ 4096
      rw [List.length_set]
      exact h.small _ (List.getElem_mem hi)
  · rw [h.shows, List.map_set]
    congr 1
    show _ = rkD _
    unfold rkD
    simp only
    rw [ha]
    rfl
theorem setOk_none {D : Dm} {k a b : Int} (h : dSetOk D k a = false) : dSet D k a b = D := by unfold dSet; rw [h]; rfl
set_option maxHeartbeats 4000000 in
theorem rSet_any (W : World) (p : Option Addr) (c : Nat) (xs : List Rk) (D : Dm) (k a b : Int) (hl : xs.length ≤ 100000) (h : RmIn W p c xs D) :
    Calls Try.prog 55 #[.slice p xs.length c, .int .i64 k, .int .i64 a, .int .u8 b] W fun e w' => ∃ q d ys, e = .returned (.tuple #[.slice q ys.length d, .bool (dSetOk D k a)]) ∧ RmNew W (dSet D k a b) q d ys w' := by
  have c1 := mCopy_new W p c xs D hl h
  have HH := Lib.hid h
  have c2 : ∀ w, Below W.heap.size W w → Calls Try.prog 56 #[.slice p xs.length c, .int .i64 k] w fun e w' => e = .returned (.int .i64 (dSize D k)) ∧ w = w' := fun w hb => rSize_any w p c xs D k (h.later hb)
  by_cases q1 : a < 0
  · have HF : Hid (dSetOk D k a = false) := Lib.hid (by unfold dSetOk; rw [decide_eq_false (by omega)]; rfl)
    clear h
    go_enter Try.func55, Try.ntmps55
    go_wp2_with (first
      | ((with_reducible refine c1.mono ?_); rintro e w1 ⟨q, d, ys, rfl, hs, hn⟩; have HN := Lib.hid hn; clear hs hn))
    go_ret2
    exact ⟨q, d, ys, by rw [HF.out]; rfl, by rw [setOk_none HF.out]; exact HN.out⟩
  · by_cases q2 : a < dSize D k
    · have hok : dSetOk D k a = true := by unfold dSetOk; rw [decide_eq_true (by omega : 0 ≤ a), decide_eq_true q2]; rfl
      have hA : dAlive D k = true := by
        unfold dAlive
        unfold dSize at q2
        cases e : atD D k with
        | none => rw [e] at q2; simp only at q2; omega
        | some l => rfl
      obtain ⟨i, hi, rfl, hat, hal⟩ := alive_in h hA
      obtain ⟨j, rfl⟩ : ∃ j : Nat, a = j := ⟨a.toNat, by omega⟩
      obtain ⟨S, eS⟩ : ∃ S, dSize D (i : Int) = S := ⟨_, rfl⟩
      have hS : S = xs[i].l.length := by rw [← eS]; unfold dSize; rw [hat]
      rw [eS] at q2
      simp only [eS] at c2
      have HF : Hid (dSetOk D (i : Int) (j : Int) = true) := Lib.hid hok
      have HL : Hid (∀ ys : List Rk, ys.map rkS = xs.map rkS → ∃ h : i < ys.length, ys[i].a = true ∧ j < ys[i].l.length ∧ dSet D (i : Int) (j : Int) b = D.set i (some (ys[i].l.set j (nB b)))) := Lib.hid (fun ys hs => by
        have hlen := rkS_len hs
        have hy : i < ys.length := by omega
        have e : rkS ys[i] = rkS xs[i] := by
          have := congrArg (fun l => l[i]?) hs
          simp only [List.getElem?_map, List.getElem?_eq_getElem hi, List.getElem?_eq_getElem hy, Option.map_some] at this
          injection this
        have e1 : ys[i].a = xs[i].a := congrArg Prod.fst e
        have e2 : ys[i].l = xs[i].l := congrArg Prod.snd e
        have hj : j < ys[i].l.length := by rw [e2]; omega
        refine ⟨hy, by rw [e1]; exact hal, hj, ?_⟩
        unfold dSet
        rw [if_pos hok, ← put_one _ _ hj, e2]
        unfold dBytes
        rw [hat]
        rfl)
      have HS := Lib.hid hS
      clear h hok hA hal hat eS hS
      go_enter Try.func55, Try.ntmps55
      go_wp2_with (first
        | ((with_reducible refine c1.mono ?_)
           rintro e w1 ⟨q, d, ys, rfl, hs, hn⟩
           have c2' := c2 w1 hn.past.2
           obtain ⟨hy, ha, hj, hd⟩ := HL.out ys hs
           obtain ⟨r, er, _, _, f1, _⟩ := hn.lies.cell i hy
           obtain ⟨g, eg, ⟨g0, g1, g2, g3, g4, g5⟩, hb⟩ := hn.byte i hy ha j hj (nB b)
           rw [← hd] at hb
           rw [eg] at f1 hb
           subst er
           have HB := Lib.hid hb
           have hcp := (hn.lies.row.2.1)
           have hcp2 := (hn.lies.row.2.2.1)
           have hbp := (hn.lies.row.2.2.2.2 _ (List.getElem_mem hy)).2.1
           have hbp2 := (hn.lies.row.2.2.2.2 _ (List.getElem_mem hy)).2.2.1
           have ty : (i : Int) < (ys.length : Int) := by omega
           have tj : (j : Int) < (ys[i].l.length : Int) := by omega
           obtain ⟨⟨A, p2, d2, l⟩, eA⟩ : ∃ A, ys[i] = A := ⟨_, rfl⟩
           simp only [eA] at f1 g0 g1 g2 g3 g4 HB hbp hbp2 tj hj
           obtain ⟨⟨yk, yb, ybk, yo, yi⟩, ey⟩ : ∃ y, l[j] = y := ⟨_, rfl⟩
           simp only [ey] at g0 g1 g2 g3 g4
           unfold maxLen at hcp2 hbp2
           have HXX := Lib.hid (And.intro hs (And.intro eg (And.intro eA ey)))
           clear hs hn hd hb ha eg eA ey)
        | ((with_reducible refine c2'.mono ?_); rintro e w2 ⟨rfl, rfl⟩))
      go_ret2
      exact ⟨some r, d, ys.set i ⟨A, some ⟨g, 0, none⟩, d2, l.set j (nB b)⟩, by rw [HF.out, List.length_set]; rfl, HB.out⟩
    · have HF : Hid (dSetOk D k a = false) := Lib.hid (by unfold dSetOk; rw [decide_eq_false q2]; simp)
      obtain ⟨S, eS⟩ : ∃ S, dSize D k = S := ⟨_, rfl⟩
      rw [eS] at q2
      simp only [eS] at c2
      clear h eS
      go_enter Try.func55, Try.ntmps55
      go_wp2_with (first
        | ((with_reducible refine c1.mono ?_); rintro e w1 ⟨q, d, ys, rfl, hs, hn⟩; have c2' := c2 w1 hn.past.2; have HN := Lib.hid hn; clear hs hn)
        | ((with_reducible refine c2'.mono ?_); rintro e w2 ⟨rfl, rfl⟩))
      go_ret2
      exact ⟨q, d, ys, by rw [HF.out]; rfl, by rw [setOk_none HF.out]; exact HN.out⟩
end Go.Proofs.Ytkbkgbkoplcgeaa
