/- A region that draws its order, in the body of a loop over an iterator: it is walked as anywhere, if it ends as ever and defers nothing. -/
import Derived.Test.YtphdhndljgihmaaBack
import Derived.Deep.RegionHeld3
import Derived.Deep.DeepCutAuto
import Derived.BigQuiet
namespace Go.Proofs.Ytphdhndljgihmaa
open Go.RowKit Go.Maps
set_option linter.unusedVariables false
set_option linter.unusedSimpArgs false

/-- It ends as ever. -/
def OnlyN (K : Act → World → Prop) : Exit → Act → World → Prop
  | .normal, a, w => K a w
  | _, _, _ => False
theorem onlyN_out {K : Act → World → Prop} (h : LetsOut (OnlyN K)) : False := by
  obtain ⟨a, w, h⟩ := h
  exact h
theorem op_round {P : Program} {o : Oper} {K K1 K2 : Act → World → Prop} {Q : Exit → Act → World → Prop} {l n : Nat} {a : Act} {w : World} (hd : ∀ c, o.op ≠ .defer c) (h12 : ∀ a w, K1 a w → K2 a w) (h : o.wp P a w K1 (OnlyN K)) : o.wpIn (Fence.wide.inRound l) n P a w K2 Q := by
  refine ⟨fun _ _ => trivial, ?_⟩
  have e : o.semAt (Fence.wide.inRound l).round a.eval = execOp a.eval o := Oper.semAt_eq _ _ _ hd
  rw [e]
  unfold Oper.wp at h
  generalize (execOp a.eval o).run P w = r at h ⊢
  have hdep : (Fence.wide.inRound l).depth.isSome = true → 1 ≤ n := fun h => by cases h
  cases r with
  | ok x w' =>
    cases x with
    | value v => exact h12 _ _ h
    | skip => exact h12 _ _ h
    | defer d => exact h12 _ _ h
    | enter f args =>
      refine ⟨hdep, CallsIn.inRound l (callsIn_wide.2 (Calls.mono h fun e w'' h => ?_))⟩
      cases e with
      | returned v => exact h12 _ _ h
      | panicked chain => exact (h : False).elim
      | outgrown => exact (onlyN_out h).elim
    | row row args =>
      refine ⟨hdep, fun c cs hr => ?_⟩
      obtain ⟨v, w'', h1, h2⟩ := h c cs
      exact ⟨v, w'', h12 _ _ h1, stepsIn_wide.2 h2⟩
    | _ => exact (h : False).elim
  | halt x w' =>
    cases x with
    | panic v => exact (h : False).elim
    | _ => exact (h : False).elim
theorem any_round {P : Program} {md : Region.Mode} {ops : Array Oper} {K : Act → World → Prop} {Q : Exit → Act → World → Prop} {l n : Nat} (hd : ∀ (i : Nat) (o : Oper), ops[i]? = some o → ∀ c, o.op ≠ .defer c) (hK : ∀ a w, K a w → Q .normal a w) :
    ∀ (fuel : Nat) (listed : Array Bool) (a : Act) (w : World), wpAny P md ops (OnlyN K) fuel listed a w → wpAnyIn (Fence.wide.inRound l) n P md ops Q fuel listed a w
  | 0, listed, a, w, h => ⟨h.1, hK a w h.2⟩
  | fuel + 1, listed, a, w, h => by
    refine ⟨fun e => hK a w (h.1 e), fun i hi => ?_⟩
    have h2 := h.2 i hi
    unfold wpOp at h2
    unfold wpOpIn
    cases ho : ops[i]? with
    | none =>
      simp only [ho] at h2
      exact any_round hd hK fuel _ _ _ h2
    | some o =>
      simp only [ho] at h2
      show (if Region.wanted o (yielded ops a.tmps) = true then _ else _)
      by_cases hw : Region.wanted o (yielded ops a.tmps) = true
      · rw [if_pos hw] at h2 ⊢
        rcases h2 with h2 | ⟨_, h2⟩
        · exact op_round (hd i o ho) (fun a' w' => any_round hd hK fuel _ a' w') h2
        · exact (onlyN_out h2).elim
      · rw [if_neg hw] at h2 ⊢
        exact ⟨fun _ _ => trivial, any_round hd hK fuel _ _ _ h2⟩
/-- No operation of these defers a call. -/
def noDefer (ops : List Oper) : Bool := ops.all fun o => match o.op with | .defer _ => false | _ => true
theorem noDefer_spec {ops : List Oper} (h : noDefer ops = true) (i : Nat) (o : Oper) (ho : ops.toArray[i]? = some o) (c : Call) : o.op ≠ .defer c := by
  intro e
  have hm : o ∈ ops := by
    have : ops[i]? = some o := by simpa using ho
    exact List.mem_of_getElem? this
  have := List.all_eq_true.1 h o hm
  rw [e] at this
  cases this
/-- Such a region, walked as a drawn one is. -/
theorem region_round {P : Program} {id : Nat} {ops : List Oper} {K : Act → World → Prop} {Q : Exit → Act → World → Prop} {l n : Nat} {a : Act} {w : World} (hm : P.follows .mixedOrders = true) (hd : noDefer ops = true) (hK : ∀ a w, K a w → Q .normal a w) {S : World → Prop} (hS : S w.drew)
    (h : S w.drew → wpAnyH P .any ops.toArray (OnlyN K) S ops.toArray.size (Array.replicate ops.toArray.size false) a w.drew) : (Code.region id ops.toArray true).wpIn (Fence.wide.inRound l) n P Q a w :=
  wpIn_region_any hm (any_round (noDefer_spec hd) hK _ _ _ _ (wpAny_of_held _ _ _ _ (h hS)))
theorem opIn_round {F : Fence} {n : Nat} {P : Program} {o : Oper} {K1 K2 : Act → World → Prop} {Q : Exit → Act → World → Prop} {l : Nat} {a : Act} {w : World} (hro : F.round = none) (hd : ∀ c, o.op ≠ .defer c) (h12 : ∀ a w, K1 a w → K2 a w) (h : o.wpIn F n P a w K1 Q) : o.wpIn (F.inRound l) n P a w K2 Q := by
  have h := Oper.wpIn_mono h12 h
  refine ⟨h.1, ?_⟩
  have e : o.semAt (F.inRound l).round a.eval = o.semAt F.round a.eval := by
    rw [hro, Oper.semAt_none]
    exact Oper.semAt_eq _ _ _ hd
  rw [e]
  exact h.2
theorem anyIn_round {F : Fence} {n : Nat} {P : Program} {md : Region.Mode} {ops : Array Oper} {Q : Exit → Act → World → Prop} {l : Nat} (hro : F.round = none) (hd : ∀ (i : Nat) (o : Oper), ops[i]? = some o → ∀ c, o.op ≠ .defer c) :
    ∀ (fuel : Nat) (listed : Array Bool) (a : Act) (w : World), wpAnyIn F n P md ops Q fuel listed a w → wpAnyIn (F.inRound l) n P md ops Q fuel listed a w
  | 0, listed, a, w, h => h
  | fuel + 1, listed, a, w, h => by
    refine ⟨h.1, fun i hi => ?_⟩
    have h2 := h.2 i hi
    unfold wpOpIn at h2 ⊢
    cases ho : ops[i]? with
    | none =>
      simp only [ho] at h2
      exact anyIn_round hro hd fuel _ _ _ h2
    | some o =>
      simp only [ho] at h2
      show (if Region.wanted o (yielded ops a.tmps) = true then _ else _)
      by_cases hw : Region.wanted o (yielded ops a.tmps) = true
      · rw [if_pos hw] at h2 ⊢
        exact opIn_round hro (hd i o ho) (fun a' w' => anyIn_round hro hd fuel _ a' w') h2
      · rw [if_neg hw] at h2 ⊢
        exact ⟨h2.1, anyIn_round hro hd fuel _ _ _ h2.2⟩
/-- A region that only reads, in a round. -/
theorem quiet_round {F : Fence} {n : Nat} {P : Program} {id : Nat} {ops : List Oper} {Q : Exit → Act → World → Prop} {r : Nat} {a : Act} {w : World} (hro : F.round = none) (hm : P.follows .mixedOrders = true) (hd : noDefer ops = true) (hB : Region.lexB .any ops.toArray = true)
    (h : wpQuietIn F n P ops.toArray (fun w' => ∃ n, w' = w.drewN n) (fun a' => ∀ w', (∃ n, w' = w.drewN n) → Q .normal a' w') ops a) : (Code.region id ops.toArray true).wpIn (F.inRound r) n P Q a w := by
  simp only [Region.lexB, Bool.and_eq_true] at hB
  refine wpIn_region_any hm (anyIn_round hro (noDefer_spec hd) _ _ _ _ ?_)
  refine wpAnyIn_of_quiet (C := fun w' => ∃ n, w' = w.drewN n) (Q := fun a' => ∀ w', (∃ n, w' = w.drewN n) → Q .normal a' w') hro (fun _ w' hw' h => h w' hw') _ _ _ _ ⟨1, rfl⟩ ?_
  have := wpAnyQIn_lex (F := F) (n := n) (C := fun w' => ∃ n, w' = w.drewN n) (md := .any) hB.1 ops 0 (Array.replicate ops.toArray.size false) a (by simp) (by simpa using hB.2) h
  simpa using this
end Go.Proofs.Ytphdhndljgihmaa
