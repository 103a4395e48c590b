/- Package fold: literals, and what an instruction folds to, as plain data. -/
import Derived.Test.YtpjfkmaceaikbaaMg7
namespace Go.Proofs.Ytpjfkmaceaikbaa
open Go.RowKit Go.Maps
set_option linter.unusedVariables false
set_option linter.unusedSimpArgs false

def isLit (a : Arg) : Bool := decide (2 ≤ a.kind ∧ a.kind ≤ 5)
/-- The value that a literal is. -/
def lvD (a : Arg) : Vl := if a.kind = 2 then ⟨1, a.bits, 0, 0⟩ else if a.kind = 4 then ⟨2, 0, -1, 0⟩ else if a.kind = 5 then ⟨2, 0, a.n, 0⟩ else p0
def a0 : Arg := ⟨0, 0, 0⟩
def opdE (t : Int) : EV → Arg × Bool
  | .num x => (⟨2, 0, x⟩, true)
  | .any => (if t = 65 then ⟨4, 0, 0⟩ else ⟨2, 0, 0⟩, true)
  | .adr bk o => if o ≠ 0 ∨ bk < -1 then (a0, false) else if bk = -1 then (⟨4, 0, 0⟩, true) else (⟨5, bk, 0⟩, true)
  | .poi => (⟨3, 0, 0⟩, true)
def litsE (d : Ins) : List Vl := d.args.map lvD
def foldE (d : Ins) : Arg × Bool :=
  if calmB d.op = true ∧ d.args.all isLit = true ∧ (evalE d.op d.ty d.n d.fl (litsE d)).2 = 0 then opdE d.ty (evalE d.op d.ty d.n d.fl (litsE d)).1 else (a0, false)
def Arg.ok (a : Arg) : Prop := 0 ≤ a.bits ∧ a.bits ≤ 18446744073709551615
theorem lvD_ok {a : Arg} (h : a.ok) : (lvD a).ok := by
  unfold lvD
  split
  · exact h
  · split
    · exact ⟨by show (0 : Int) ≤ 0; decide, by show (0 : Int) ≤ _; decide⟩
    · split <;> exact ⟨by show (0 : Int) ≤ 0; decide, by show (0 : Int) ≤ _; decide⟩
theorem lits_ok {d : Ins} (h : ∀ a ∈ d.args, a.ok) : ∀ v ∈ litsE d, v.ok := by
  intro v hv
  obtain ⟨a, ha, rfl⟩ := List.mem_map.1 hv
  exact lvD_ok (h a ha)
/-! No literal is any; so only what is frozen is. -/
theorem lvD_k (a : Arg) : (lvD a).k ≠ 3 := by
  unfold lvD
  split
  · show (1 : Int) ≠ 3; decide
  · split
    · show (2 : Int) ≠ 3; decide
    · split
      · show (2 : Int) ≠ 3; decide
      · show (0 : Int) ≠ 3; decide
theorem nf_any {t : Int} {v : Vl} (h : v.k ≠ 3) : nf t v ≠ .any := by
  unfold nf
  split
  · exact EV.noConfusion
  · split
    · exact EV.noConfusion
    · rw [if_neg (fun x => h x.1)]
      exact EV.noConfusion
theorem app_any (op ty fl x y : Int) : (appE op ty fl x y).1 ≠ .any := by
  unfold appE
  split
  · exact EV.noConfusion
  · split <;> exact EV.noConfusion
theorem joined_no {op ty fl : Int} {a b : EV} (ha : a ≠ .any) (hb : b ≠ .any) : (joinE op ty fl a b).1 ≠ .any := by
  cases a <;> cases b <;> first | exact absurd rfl ha | exact absurd rfl hb | exact EV.noConfusion | exact app_any _ _ _ _ _
theorem mad_any {op ty n fl : Int} {a b c : EV} (ha : a ≠ .any) (hb : b ≠ .any) (hc : c ≠ .any) (h24 : op ≠ 24) (hs : op = 23 → (∃ x, a = .num x) ∨ a = .poi) : (madE op ty n fl a b c).1 ≠ .any := by
  unfold madE
  split
  · cases b with
    | poi => exact EV.noConfusion
    | any => exact absurd rfl hb
    | adr _ _ => exact EV.noConfusion
    | num y =>
      unfold divE
      dsimp only
      split
      · exact EV.noConfusion
      · split
        · cases a with
          | any => exact absurd rfl ha
          | poi => exact EV.noConfusion
          | num x => exact joined_no ha hb
          | adr _ _ => exact joined_no ha hb
        · exact joined_no ha hb
  · split
    · cases b with
      | any => exact absurd rfl hb
      | num y =>
        unfold shfE
        dsimp only
        split
        · exact EV.noConfusion
        · exact joined_no ha hb
      | poi => exact joined_no ha hb
      | adr _ _ => exact joined_no ha hb
    · split
      · cases a with
        | any => exact absurd rfl ha
        | num x => exact EV.noConfusion
        | poi => exact EV.noConfusion
        | adr _ _ => exact EV.noConfusion
      · split
        · rename_i h
          rcases hs h with ⟨x, rfl⟩ | rfl
          · show choE (EV.num x) b c ≠ .any
            unfold choE
            dsimp only
            split
            · exact hb
            · exact hc
          · exact EV.noConfusion
        · split
          · cases a <;> cases b <;> first | exact absurd rfl ha | exact absurd rfl hb | exact EV.noConfusion
          · exact joined_no ha hb
theorem nf1_num {v : Vl} (h : v.k ≠ 3) : (∃ x, nf 1 v = .num x) ∨ nf 1 v = .poi := by
  unfold nf
  split
  · exact .inl ⟨_, rfl⟩
  · rw [if_neg (fun x => absurd x.2 (by decide)), if_neg (fun x => h x.1)]
    exact .inr rfl
theorem lits_k (d : Ins) (i : Nat) : ((litsE d).getD i p0).k ≠ 3 := by
  rw [List.getD_eq_getElem?_getD]
  unfold litsE
  rw [List.getElem?_map]
  cases d.args[i]? with
  | none => decide
  | some a => exact lvD_k a
theorem eval_any {d : Ins} (h : (evalE d.op d.ty d.n d.fl (litsE d)).1 = .any) : d.op = 24 := by
  apply Classical.byContradiction
  intro h24
  unfold evalE at h
  split at h
  · refine mad_any (nf_any (lits_k d 0)) (nf_any (lits_k d 1)) (nf_any (lits_k d 2)) h24 (fun e => ?_) h
    have e1 : wntE d.op d.ty d.n 0 = 1 := by rw [e]; rfl
    rw [e1]
    exact nf1_num (lits_k d 0)
  · exact EV.noConfusion h
/-- Of what is frozen the result's type is the instruction's. -/
theorem res_any {d : Ins} (h : (evalE d.op d.ty d.n d.fl (litsE d)).1 = .any) : resV d.op d.ty = d.ty := by
  rw [eval_any h]; rfl
end Go.Proofs.Ytpjfkmaceaikbaa
