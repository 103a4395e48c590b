/- What stands while a law goes on: boxes, and what the call owns in ranges of blocks. -/
import Derived.Test.YtpfeiolmkbibiaaOwnT
namespace Go.Proofs.Ytpfeiolmkbibiaa
open Go.RowKit Go.Maps
set_option linter.unusedVariables false
set_option linter.unusedSimpArgs false

theorem FnOwn.stays {a b : Nat} {w w' : World} {y : LFn} (h : FnOwn a b w y) (hs : Stay a b w w') : FnOwn a b w' y := local_Fn a b w w' y hs h
theorem ModOwn.stays {a b : Nat} {w w' : World} {y : LMod} (h : ModOwn a b w y) (hs : Stay a b w w') : ModOwn a b w' y := local_Mod a b w w' y hs h
/-- What is owned in the blocks from a on, ahead of b. -/
abbrev Owned := Nat × Nat × (World → Prop)
def fnO (a b : Nat) (y : LFn) : Owned := (a, b, fun w => FnOwn a b w y)
def modO (a b : Nat) (y : LMod) : Owned := (a, b, fun w => ModOwn a b w y)
/-- Boxes and what is owned, at a later world. -/
structure Stands (W : World) (R : List (Nat × List Value)) (O : List Owned) (w : World) : Prop where
  past : Past W.heap.size W w
  box : ∀ x ∈ R, Box x.1 x.2 w
  own : ∀ x ∈ O, x.2.2 w ∧ (∀ u u', Stay x.1 x.2.1 u u' → x.2.2 u → x.2.2 u') ∧ x.2.1 ≤ w.heap.size ∧ W.heap.size ≤ x.1
theorem Stands.start (W : World) : Stands W [] [] W := ⟨Past.refl (Nat.le_refl _), fun x h => absurd h (by simp), fun x h => absurd h (by simp)⟩
section
variable {W w w' : World} {R R' : List (Nat × List Value)} {O O' : List Owned}
theorem Stands.later (h : Stands W R O w) (hb : Below w.heap.size w w') : Stands W R O w' :=
  ⟨h.past.trans ⟨h.past.size, hb.mono h.past.size⟩, fun x hx => (h.box x hx).later hb, fun x hx => by
    obtain ⟨h1, hl, h2, h3⟩ := h.own x hx
    exact ⟨hl _ _ (below_stay hb h2) h1, hl, Nat.le_trans h2 hb.size, h3⟩⟩
theorem Stands.alloc (h : Stands W R O w) (o : Obj) : Stands W R O (w.alloc o) := h.later ((Below.refl _ _).alloc (Nat.le_refl _) o)
theorem Stands.drew (h : Stands W R O w) : Stands W R O w.drew := h.later (below_drew (Below.refl _ _))
theorem Stands.put (h : Stands W R O w) (cs : List Value) (t : TypeId) : Stands W ((w.heap.size, cs) :: R) O (w.alloc (.cells cs.toArray t)) :=
  ⟨(h.alloc _).past, fun x hx => by
    rcases List.mem_cons.1 hx with rfl | hx
    · exact Box.new w rfl cs t
    · exact (h.alloc _).box x hx, (h.alloc _).own⟩
theorem Stands.moreO (h : Stands W R O w) (hp : Past w.heap.size w w') (Q : World → Prop) (hq : Q w') (hl : ∀ u u', Stay w.heap.size w'.heap.size u u' → Q u → Q u') : Stands W R ((w.heap.size, w'.heap.size, Q) :: O) w' :=
  ⟨(h.later hp.2).past, (h.later hp.2).box, fun x hx => by
    rcases List.mem_cons.1 hx with rfl | hx
    · exact ⟨hq, hl, Nat.le_refl _, h.past.size⟩
    · exact (h.later hp.2).own x hx⟩
theorem Stands.more (h : Stands W R O w) (hp : Past w.heap.size w w') {y : LFn} (hy : FnOwn w.heap.size w'.heap.size w' y) : Stands W R (fnO w.heap.size w'.heap.size y :: O) w' :=
  h.moreO hp _ hy (fun _ _ hs hq => FnOwn.stays hq hs)
theorem Stands.moreM (h : Stands W R O w) (hp : Past w.heap.size w w') {y : LMod} (hy : ModOwn w.heap.size w'.heap.size w' y) : Stands W R (modO w.heap.size w'.heap.size y :: O) w' :=
  h.moreO hp _ hy (fun _ _ hs hq => ModOwn.stays hq hs)
theorem Stands.fn (h : Stands W R O w) {a b : Nat} {y : LFn} (hx : fnO a b y ∈ O) : FnIn w.heap.size w y := FnOwn.lies (h.own _ hx).2.2.1 (h.own _ hx).1
theorem Stands.mod (h : Stands W R O w) {a b : Nat} {y : LMod} (hx : modO a b y ∈ O) : ModIn w.heap.size w y := ModOwn.lies (h.own _ hx).2.2.1 (h.own _ hx).1
theorem Stands.arg (h : Stands W R O w) {f : LFn} (hf : FnIn W.heap.size W f) : FnIn w.heap.size w f := past_lasts lasts_Fn hf h.past
theorem Stands.argM (h : Stands W R O w) {f : LMod} (hf : ModIn W.heap.size W f) : ModIn w.heap.size w f := past_lasts lasts_Mod hf h.past
theorem Stands.sub (h : Stands W R O w) (hR : ∀ x ∈ R', x ∈ R) (hO : ∀ x ∈ O', x ∈ O) : Stands W R' O' w :=
  ⟨h.past, fun x hx => h.box x (hR x hx), fun x hx => h.own x (hO x hx)⟩
theorem Stands.out (h : Stands W R O w) {lo hi : Nat} (ho : Out lo hi w w') (hlo : W.heap.size ≤ lo) (hR : ∀ x ∈ R, x.1 < lo ∨ hi ≤ x.1) (hO : ∀ x ∈ O, x.2.1 ≤ lo ∨ hi ≤ x.1) : Stands W R O w' :=
  ⟨h.past.trans ⟨h.past.size, ho.below hlo h.past.size⟩, fun x hx => Out.box (h.box x hx) ho (hR x hx), fun x hx => by
    obtain ⟨h1, hl, h2, h3⟩ := h.own x hx
    exact ⟨hl _ _ (ho.stay h2 (hO x hx)) h1, hl, Nat.le_trans h2 ho.size, h3⟩⟩
theorem box_sets {g : Nat} : ∀ (cs xs : List Value) (o : Nat) {w : World}, Box g xs w → Box g (sets xs o cs) (w.setCells g o cs)
  | [], _, _, _, h => h
  | c :: r, xs, o, w, h => by
    unfold sets World.setCells
    exact box_sets r _ (o + 1) (h.set o c)
theorem sets_all (xs cs : List Value) (h : xs.length = cs.length) : sets xs 0 cs = cs := by
  apply List.ext_getElem?
  intro j
  rw [sets_get _ _ _ _ (by omega)]
  by_cases hj : j < cs.length
  · rw [if_pos (by omega), Nat.sub_zero]
  · rw [if_neg (by omega), List.getElem?_eq_none (by omega), List.getElem?_eq_none (by omega)]
/-- A box filled anew. -/
theorem Stands.fill (h : Stands W R O w) {b : Nat} {cs : List Value} (cs' : List Value) (hb : (b, cs) ∈ R) (hW : W.heap.size ≤ b) (hl : cs.length = cs'.length) (hR : ∀ x ∈ R', x = (b, cs') ∨ (x ∈ R ∧ x.1 ≠ b)) (hO : ∀ x ∈ O, x.2.1 ≤ b ∨ b < x.1) : Stands W R' O (w.setCells b 0 cs') := by
  have ho : Out b (b + 1) w (w.setCells b 0 cs') := out_setCells (Nat.le_refl _) (Nat.lt_succ_self _) cs' 0 w
  have h2 : Stands W (R.filter fun x => decide (x.1 ≠ b)) O (w.setCells b 0 cs') := by
    refine Stands.out (h.sub (fun x hx => (List.mem_filter.1 hx).1) (fun x hx => hx)) ho hW (fun x hx => ?_) (fun x hx => ?_)
    · have := (List.mem_filter.1 hx).2
      simp only [decide_eq_true_eq] at this
      omega
    · have := hO x hx
      omega
  refine ⟨h2.past, fun x hx => ?_, h2.own⟩
  rcases hR x hx with rfl | ⟨hx, hne⟩
  · have := box_sets cs' cs 0 (h.box _ hb)
    rw [sets_all _ _ hl] at this
    exact this
  · exact h2.box x (List.mem_filter.2 ⟨hx, by simpa using hne⟩)
theorem Stands.get (h : Stands W R O w) {b : Nat} {cs : List Value} (hb : (b, cs) ∈ R) (i : Nat) (u : Value) (e : cs[i]? = some u) : w.cell? ⟨b, i, none⟩ = some u := (h.box _ hb).get i u e
theorem Stands.lt (h : Stands W R O w) {b : Nat} {cs : List Value} (hb : (b, cs) ∈ R) : b < w.heap.size := (h.box _ hb).1
end
end Go.Proofs.Ytpfeiolmkbibiaa
