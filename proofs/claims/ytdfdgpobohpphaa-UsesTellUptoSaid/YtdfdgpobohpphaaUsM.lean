/- A map from numbers to rows of one's own, as an assertion that can be joined. -/
import Derived.Test.YtdfdgpobohpphaaPgA
import Derived.Maps.OwnSet
namespace Go.Proofs.Ytdfdgpobohpphaa
open Go.RowKit Go.Maps
set_option linter.unusedVariables false
set_option linter.unusedSimpArgs false
set_option maxRecDepth 100000

/-- A row as the map holds it: its block, its length, its room. -/
abbrev Sl := Option (Nat × Nat × Nat)
def slV : Sl → Value
  | none => .slice none 0 0
  | some (b, n, c) => .slice (some ⟨b, 0, none⟩) n c
def slD : Sl → DataW Unit
  | none => .nil
  | some (b, n, c) => .agg [.lit (.int .i64 b), .lit (.int .i64 n), .lit (.int .i64 c)]
def slR : Value → Option (DataW Unit × List MemPlace)
  | .slice none 0 0 => some (.nil, [])
  | .slice (some ⟨b, 0, none⟩) n c => some (.agg [.lit (.int .i64 b), .lit (.int .i64 n), .lit (.int .i64 c)], [])
  | _ => none
theorem slR_mk (x : Sl) : slR (slV x) = some (slD x, []) := by
  cases x with
  | none => rfl
  | some x => rfl
theorem slR_inv {v : Value} {x : Sl} {ps : List MemPlace} (h : slR v = some (slD x, ps)) : v = slV x := by
  unfold slR at h
  split at h
  · cases x with
    | none => rfl
    | some c => cases h
  · rename_i b n c
    cases x with
    | none => cases h
    | some y =>
      obtain ⟨b', n', c'⟩ := y
      injection h with h
      injection h with h1 h2
      unfold slD at h1
      injection h1 with h1
      simp only [List.cons.injEq, DataW.lit.injEq, Lit.int.injEq, true_and, and_true, Int.natCast_inj] at h1
      obtain ⟨rfl, rfl, rfl⟩ := h1
      rfl
  · cases h
theorem zeroPs (w : World) : (zeroValue 57).run Try.prog w = .ok (.slice none 0 0) w := by kernel_rfl
theorem lawInt : Keyed Try.prog 3 := int_keyed Try.underlying3
/-- The map at block ab leads from numbers to rows. -/
def MapSl (ab N : Nat) (S : Int → Sl) (w : World) : Prop := ∃ D : DataW Unit, w.ownsMap Try.prog 3 slR ab N D ∧ ∀ k : Int, wfI k → D.atKey (.int .i64 k) .nil = slD (S k)
theorem MapSl.same {ab N : Nat} {S : Int → Sl} {w w' : World} (h : MapSl ab N S w) (hb : w'.heap[ab]? = w.heap[ab]?) : MapSl ab N S w' := by
  obtain ⟨D, ⟨es, clock, h1, h2⟩, ha⟩ := h
  exact ⟨D, ⟨es, clock, hb.trans h1, h2⟩, ha⟩
theorem MapSl.lt {ab N : Nat} {S : Int → Sl} {w : World} (h : MapSl ab N S w) : ab < w.heap.size := by
  obtain ⟨D, hD, _⟩ := h
  exact hD.lt
theorem MapSl.look {ab N : Nat} {S : Int → Sl} {w : World} (h : MapSl ab N S w) {k : Int} (hk : wfI k) : (Instr.lookup 56 (.map (some ab)) (.int .i64 k) false).run Try.prog w = .ok (slV (S k)) w := by
  obtain ⟨D, hD, ha⟩ := h
  obtain ⟨v, ps, hr, hR⟩ := hD.lookup (t := 56) (e := 57) lawInt Try.underlying56 (zeroPs w) (zd := .nil) (zp := []) rfl (keyOf_int_mk Try.underlying3 hk)
  rw [ha k hk] at hR
  rw [hr, slR_inv hR]
def upS (S : Int → Sl) (r : Int) (x : Sl) : Int → Sl := fun k => if k = r then x else S k
theorem MapSl.put {ab N : Nat} {S : Int → Sl} {w : World} (h : MapSl ab N S w) (hl : N < 1048576) {r : Int} (hr : wfI r) (x : Sl) :
    ∃ w', (Instr.mapUpdate 56 (.map (some ab)) (.int .i64 r) (slV x)).run Try.prog w = .ok () w' ∧ MapSl ab (N + 1) (upS S r x) w' ∧ w.grownBy w' (some ab) := by
  obtain ⟨D, hD, ha⟩ := h
  obtain ⟨w', hrun, h1, h2⟩ := hD.update (t := 56) (e := 57) lawInt Try.underlying56 (by unfold maxLen; omega) (keyOf_int_mk Try.underlying3 hr) (slR_mk x)
  refine ⟨w', hrun, ⟨_, h1, fun k hk => ?_⟩, h2⟩
  unfold upS
  by_cases e : k = r
  · subst e; rw [if_pos rfl]; exact atKey_put_same (k := .int .i64 k) hD.isMap trivial _ _
  · rw [if_neg e, atKey_put_other (fun x => e (by injection x))]; exact ha k hk
theorem MapSl.del {ab N : Nat} {S : Int → Sl} {w : World} (h : MapSl ab N S w) {r : Int} (hr : wfI r) (ty : TypeId) :
    ∃ w', (Builtin.delete_ #[56, 3] ty #[.map (some ab), .int .i64 r]).run Try.prog w = .ok (.tuple #[]) w' ∧ MapSl ab N (upS S r none) w' ∧ w.grownBy w' (some ab) := by
  obtain ⟨D, hD, ha⟩ := h
  obtain ⟨w', hrun, h1, h2⟩ := hD.drop (t := 56) (e := 57) lawInt Try.underlying56 (keyOf_int_mk Try.underlying3 hr) ty
  refine ⟨w', hrun, ⟨_, h1, fun j hj => ?_⟩, h2.grown⟩
  unfold upS
  by_cases e : j = r
  · subst e; rw [if_pos rfl]; exact atKey_del_same _
  · rw [if_neg e, atKey_del_other (fun x => e (by injection x))]; exact ha j hj

/-! The map and its rows; o tells whose a block is. -/
abbrev Pl := Nat × Nat
def pC (p : Pl) : List Value := [.int .i64 0, .int .i64 p.1, .int .i64 p.2]
structure Grp (ab N : Nat) (o : Nat → Option Int) (S : Int → Sl) (P : Int → List Pl) (w : World) : Prop where
  map : MapSl ab N S w
  ne : o ab = none
  inH : ∀ k r, o k = some r → k < w.heap.size
  row : ∀ r, ∃ p c, slV (S r) = .slice p (P r).length c ∧ w.ownsRow 0 51 3 (.slice p (P r).length c) (P r).length ((P r).flatMap pC) ∧ ∀ g, (slV (S r)).ownBlock = some g → o g = some r
def grA (ab N : Nat) (o : Nat → Option Int) (S : Int → Sl) (P : Int → List Pl) : As :=
  ⟨fun k => if k = ab ∨ (o k).isSome = true then 1 else 0, Grp ab N o S P, fun w w' h hk => by
      have hm := hk ab (by simp)
      have hr : ∀ g r, o g = some r → w'.heap[g]? = w.heap[g]? := fun g r e => hk g (by simp [e])
      refine ⟨h.map.same hm, h.ne, fun k r e => ?_, fun r => ?_⟩
      · have h1 := h.inH k r e
        have h2 := hr k r e
        rw [Array.getElem?_eq_getElem h1] at h2
        exact (Array.getElem?_eq_some_iff.1 h2).1
      · obtain ⟨p, c, e, h1, h2⟩ := h.row r
        refine ⟨p, c, e, ⟨h1.1, ?_⟩, h2⟩
        rcases h1.2 with hn | ⟨g, cap, cur, hv, hB, hg, rest⟩
        · exact .inl hn
        · exact .inr ⟨g, cap, cur, hv, hB, (hr g r (h2 g (by rw [e, hv]; rfl))).trans hg, rest⟩,
    fun w h k hk => by
      by_cases e : k = ab
      · rw [e]; exact h.map.lt
      · cases e2 : o k with
        | none => rw [if_neg (by simp [e, e2])] at hk; exact absurd rfl hk
        | some r => exact h.inH k r e2⟩
theorem grA_c (ab N : Nat) (o : Nat → Option Int) (S : Int → Sl) (P : Int → List Pl) (k : Nat) : (grA ab N o S P).c k = if k = ab ∨ (o k).isSome = true then 1 else 0 := rfl
theorem grA_at (ab N : Nat) (o : Nat → Option Int) (S : Int → Sl) (P : Int → List Pl) (w : World) : (grA ab N o S P).sat w = Grp ab N o S P w := rfl
section
variable {B : Nat} {W w w' : World} {X Y Z : As}
/-- A map that has just been made. -/
theorem St.newMap (h : St B W Z w) {g : Nat} (hg : g = w.heap.size) : St B W (As.and (grA g 0 (fun _ => none) (fun _ => none) (fun _ => [])) Z) (w.alloc (.map #[] 0)) := by
  have h0 : St B W (As.and As.emp Z) w := h.imp ⟨fun w x => ⟨trivial, x⟩, fun k => by rw [As.and_c, As.emp_c]; omega⟩
  refine h0.change rfl rfl rfl (by simp) (fun k hk _ => heap_alloc_old w _ hk) ⟨⟨_, by rw [hg]; exact World.ownsMap_made w Try.prog 3 slR, fun k hk => rfl⟩, rfl, (fun k r e => by cases e), fun r => ⟨none, 0, rfl, World.ownsRow_nil _ _ _ _, fun g e => by cases e⟩⟩ fun k => ?_
  rw [grA_c]
  by_cases e : k = g
  · exact .inr ⟨by omega, by split <;> omega⟩
  · exact .inl (by rw [if_neg (by simp [e])]; exact Nat.zero_le _)
def upP (P : Int → List Pl) (r : Int) (l : List Pl) : Int → List Pl := fun k => if k = r then l else P k
theorem if01 (p : Prop) [Decidable p] : (if p then 1 else 0) ≤ 1 := by split <;> omega
/-- One row has grown, and is put back. -/
theorem St.groupPut {ab N : Nat} {o : Nat → Option Int} {S : Int → Sl} {P : Int → List Pl} (h : St B W (As.and (grA ab N o S P) Z) w) (hN : N < 1048576) {r : Int} (hr : wfI r) (x : Pl) {v' : Value}
    (hrow : w'.ownsRow 0 51 3 v' ((P r).length + 1) ((P r).flatMap pC ++ pC x)) (hg : w.grownBy w' (slV (S r)).ownBlock) (hm : Moved w (slV (S r)) v') :
    ∃ w2, (Instr.mapUpdate 56 (.map (some ab)) (.int .i64 r) v').run Try.prog w' = .ok () w2 ∧ w'.grownBy w2 (some ab) ∧ ∃ o' S', St B W (As.and (grA ab (N + 1) o' S' (upP P r (P r ++ [x]))) Z) w2 := by
  have G := h.sat.1
  rw [grA_at] at G
  have hab : ab < w.heap.size := G.map.lt
  obtain ⟨p0, c0, e0, r0, o0⟩ := G.row r
  have habr : ∀ g, (slV (S r)).ownBlock = some g → g ≠ ab := fun g e e2 => by
    have := o0 g e
    rw [e2, G.ne] at this
    cases this
  obtain ⟨g, cap, hv, hglt⟩ : ∃ g cap, v' = .slice (some ⟨g, 0, none⟩) ((P r).length + 1) cap ∧ g < w'.heap.size := by
    rcases id hrow.2 with ⟨_, h0⟩ | ⟨g, cap, cur, hv, hB, hg, rest⟩
    · omega
    · exact ⟨g, cap, hv, (Array.getElem?_eq_some_iff.1 hg).1⟩
  have hm1 : MapSl ab N S w' := G.map.same (hg.block ab hab fun e => habr ab e.symm rfl)
  obtain ⟨w2, hrun, hm2, hg2⟩ := hm1.put hN hr (some (g, (P r).length + 1, cap))
  have hv2 : slV (some (g, (P r).length + 1, cap)) = v' := hv.symm
  rw [hv2] at hrun
  have hgm : (slV (S r)).ownBlock = some g ∨ g = w.heap.size := by
    rcases hm with e | e
    · left; rw [← e, hv]; rfl
    · right; rw [hv] at e; injection e
  have hgab : g ≠ ab := by
    rcases hgm with e | e
    · exact habr g e
    · omega
  have hs := hg.size
  have hold : ∀ k, k < w.heap.size → k ≠ ab → o k ≠ some r → w2.heap[k]? = w.heap[k]? := fun k h0 h1 h2 =>
    (hg2.block k (by omega) (fun e => h1 (by injection e))).trans (hg.block k h0 (fun e => h2 (o0 k e.symm)))
  have hog : g < w.heap.size → o g = some r := fun hlt => by
    rcases hgm with e | e
    · exact o0 g e
    · omega
  refine ⟨w2, hrun, hg2, fun k => if k = g then some r else if o k = some r then none else o k, upS S r (some (g, (P r).length + 1, cap)), ?_⟩
  refine h.change (hg2.os.trans hg.os) (hg2.tape.trans hg.tape) (hg2.output.trans hg.output) (Nat.le_trans hg.size hg2.size) (fun k hk h0 => ?_) ?_ (fun k => ?_)
  · rw [grA_c] at h0
    refine hold k hk (fun e => ?_) (fun e => ?_)
    · rw [if_pos (.inl e)] at h0; cases h0
    · rw [if_pos (.inr (by rw [e]; rfl))] at h0; cases h0
  · rw [grA_at]
    refine ⟨hm2, ?_, fun k r2 e => ?_, fun r2 => ?_⟩
    · show (if ab = g then some r else if o ab = some r then none else o ab) = none
      rw [if_neg (Ne.symm hgab), G.ne]; rfl
    · have hs2 := hg2.size
      by_cases e1 : k = g
      · omega
      · simp only [if_neg e1] at e
        by_cases e3 : o k = some r
        · rw [if_pos e3] at e; cases e
        · rw [if_neg e3] at e
          have := G.inH k r2 e
          omega
    · unfold upS upP
      by_cases e : r2 = r
      · subst e
        simp only [↓reduceIte]
        have hp : (P r2 ++ [x]).length = (P r2).length + 1 := by simp
        refine ⟨some ⟨g, 0, none⟩, cap, by rw [hp]; rfl, ?_, fun g2 e2 => ?_⟩
        · rw [hp, List.flatMap_append]
          have : w2.ownsRow 0 51 3 v' ((P r2).length + 1) ((P r2).flatMap pC ++ pC x) := hrow.kept hg2 (by rw [hv]; exact .inr (fun e => hgab (by injection e)))
          rw [hv] at this
          simpa using this
        · have : g = g2 := by injection e2
          subst this
          rw [if_pos rfl]
      · simp only [if_neg e]
        obtain ⟨p2, c2, e2, h2, h3⟩ := G.row r2
        refine ⟨p2, c2, e2, ⟨h2.1, ?_⟩, fun g2 e4 => ?_⟩
        · rcases h2.2 with hn | ⟨g2, cap2, cur2, hv2, hB2, hg3, rest⟩
          · exact .inl hn
          · have h4 := h3 g2 (by rw [e2, hv2]; rfl)
            refine .inr ⟨g2, cap2, cur2, hv2, hB2, (hold g2 (G.inH g2 r2 h4) (fun e5 => ?_) (fun e5 => ?_)).trans hg3, rest⟩
            · rw [e5, G.ne] at h4; cases h4
            · rw [h4] at e5; injection e5 with e5; exact e e5
        · have h4 := h3 g2 e4
          have h5 := G.inH g2 r2 h4
          have h6 : g2 ≠ g := fun e5 => by
            subst e5
            rw [hog h5] at h4
            injection h4 with h4
            exact e h4.symm
          rw [if_neg h6, if_neg (by rw [h4]; intro e5; injection e5 with e5; exact e e5), h4]
  · rw [grA_c, grA_c]
    by_cases e : k = g
    · subst e
      by_cases hlt : k < w.heap.size
      · left
        have e1 : (if k = ab ∨ (o k).isSome = true then 1 else 0) = 1 := if_pos (.inr (by rw [hog hlt]; rfl))
        rw [e1]
        exact if01 _
      · right
        exact ⟨by omega, if01 _⟩
    · left
      by_cases e1 : k = ab
      · rw [if_pos (.inl e1), if_pos (.inl e1)]; exact Nat.le_refl _
      · by_cases e2 : (o k).isSome = true
        · have e5 : (if k = ab ∨ (o k).isSome = true then 1 else 0) = 1 := if_pos (.inr e2)
          rw [e5]; exact if01 _
        · have e3 : o k = none := by simpa using e2
          have e4 : ¬ (k = ab ∨ ((if k = g then some r else if o k = some r then none else o k)).isSome = true) := by
            rw [if_neg e, e3]; simp [e1]
          rw [if_neg e4]; exact Nat.zero_le _
/-- One key has gone. -/
theorem St.groupDel {ab N : Nat} {o : Nat → Option Int} {S : Int → Sl} {P : Int → List Pl} (h : St B W (As.and (grA ab N o S P) Z) w) {r : Int} (hr : wfI r) (ty : TypeId) :
    ∃ w2, (Builtin.delete_ #[56, 3] ty #[.map (some ab), .int .i64 r]).run Try.prog w = .ok (.tuple #[]) w2 ∧ St B W (As.and (grA ab N o (upS S r none) (upP P r [])) Z) w2 := by
  have G := h.sat.1
  rw [grA_at] at G
  have hab : ab < w.heap.size := G.map.lt
  obtain ⟨w2, hrun, hm2, hg2⟩ := G.map.del hr ty
  have hold : ∀ k, k < w.heap.size → k ≠ ab → w2.heap[k]? = w.heap[k]? := fun k h0 h1 => hg2.block k h0 (fun e => h1 (by injection e))
  refine ⟨w2, hrun, h.change hg2.os hg2.tape hg2.output hg2.size (fun k hk h0 => ?_) ?_ (fun k => .inl (Nat.le_refl _))⟩
  · rw [grA_c] at h0
    exact hold k hk (fun e => by rw [if_pos (.inl e)] at h0; cases h0)
  · rw [grA_at]
    refine ⟨hm2, G.ne, fun k r2 e => Nat.lt_of_lt_of_le (G.inH k r2 e) hg2.size, fun r2 => ?_⟩
    unfold upS upP
    by_cases e : r2 = r
    · subst e
      simp only [↓reduceIte]
      exact ⟨none, 0, rfl, World.ownsRow_nil _ _ _ _, fun g e => by cases e⟩
    · simp only [if_neg e]
      obtain ⟨p2, c2, e2, h2, h3⟩ := G.row r2
      refine ⟨p2, c2, e2, ⟨h2.1, ?_⟩, h3⟩
      rcases h2.2 with hn | ⟨g2, cap2, cur2, hv2, hB2, hg3, rest⟩
      · exact .inl hn
      · have h4 := h3 g2 (by rw [e2, hv2]; rfl)
        exact .inr ⟨g2, cap2, cur2, hv2, hB2, (hold g2 (G.inH g2 r2 h4) (fun e5 => by rw [e5, G.ne] at h4; cases h4)).trans hg3, rest⟩
end
end Go.Proofs.Ytdfdgpobohpphaa
