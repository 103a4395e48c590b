/-
  No cell of these rows narrows 'for every input' (looked for: loops, veiled, ifaces, maps, wideKeys, modest, calm, conditions, laid).
  DERIVED. THE GIVEN ROWS OF THIS SEAT. 3 by the template 'for every input the law returns true; each argument reads behind the call as it read before'; 0 by the template 'total and deterministic' (their statements: YtglkbnckfkliaaaTotals.lean).
  GIVEN WITH THE SEED: the statements are not yours to turn. If you find one false, say at which input.
  Laid BY PROGRAM, IN A SANDBOX (cutbox-rows.mjs): the forced cells as the released guide's own fill.sh prints them over the translation a64855f91778e97c… (all of the seat's roots in one cut). By AI agents, Wed Nov 11 2026. No macro, syntax, notation, axiom, sorry.
-/
import Derived.Test.YtglkbnckfkliaaaChecked
import GoSem.Claim
import GoSem.ClaimJoined
import GoSem.ClaimMapViews
import Derived.JoinedTies
import Derived.KernelRfl
namespace Go.Proofs.Ytglkbnckfkliaaa
/- THE CELL 'sum', in the pinned program and in every row, IS THE sha256 OF THE DUMP (.gsa) THAT YtglkbnckfkliaaaProg.lean LOADS. Nothing in Lean hashes anything: it is a label: what it is worth is what the hold of that sum in a sandbox is worth. -/
noncomputable def Try.pinned : Pinned := { name := "ytglkbnckfkliaaa", sum := "a64855f91778e97c673fc3bf2c98e85e9001146f3935ae9918ff7ddb634a5cf6", checked := Try.checked }
namespace Rows
def none {H : Type} : Left H := { results := [], args := [] }

/-- 'lathelaw12.RefineTells': WHATEVER THE INPUT: true; the input reads as it did. -/
def refineTellsSpec : ChangeSpec := { name := "refineTells", fn := fun _ => fun
  | [d1, d2, d3, d4, d5, d6] => { results := [.lit (.bool true)], args := [d1, d2, d3, d4, d5, d6] }
  | _ => none }
def refineTellsRow : OpenClaim := { program := "ytglkbnckfkliaaa", sum := "a64855f91778e97c673fc3bf2c98e85e9001146f3935ae9918ff7ddb634a5cf6", func := "lathe/lathelaw12.RefineTells", spec := "refineTells", unfollowed := true, recurses := true, apart := false }
def RefineTellsSaid : Prop := refineTellsRow.holds Try.pinned (OpenSpec.ofChange refineTellsSpec)

/-- ITS FALSE NEIGHBOUR: 'it returns false'. Refute it at one input. -/
def refineTellsWrong : ChangeSpec := { name := "refineTells", fn := fun _ => fun
  | [d1, d2, d3, d4, d5, d6] => { results := [.lit (.bool false)], args := [d1, d2, d3, d4, d5, d6] }
  | _ => none }
def RefineTellsWrongFalsely : Prop := refineTellsRow.holds Try.pinned (OpenSpec.ofChange refineTellsWrong)

/-- 'lathelaw12.RefineOrders': WHATEVER THE INPUT: true; the input reads as it did. -/
def refineOrdersSpec : ChangeSpec := { name := "refineOrders", fn := fun _ => fun
  | [d1, d2, d3, d4, d5, d6, d7] => { results := [.lit (.bool true)], args := [d1, d2, d3, d4, d5, d6, d7] }
  | _ => none }
def refineOrdersRow : OpenClaim := { program := "ytglkbnckfkliaaa", sum := "a64855f91778e97c673fc3bf2c98e85e9001146f3935ae9918ff7ddb634a5cf6", func := "lathe/lathelaw12.RefineOrders", spec := "refineOrders", unfollowed := true, recurses := true, apart := false }
def RefineOrdersSaid : Prop := refineOrdersRow.holds Try.pinned (OpenSpec.ofChange refineOrdersSpec)

/-- ITS FALSE NEIGHBOUR: 'it returns false'. Refute it at one input. -/
def refineOrdersWrong : ChangeSpec := { name := "refineOrders", fn := fun _ => fun
  | [d1, d2, d3, d4, d5, d6, d7] => { results := [.lit (.bool false)], args := [d1, d2, d3, d4, d5, d6, d7] }
  | _ => none }
def RefineOrdersWrongFalsely : Prop := refineOrdersRow.holds Try.pinned (OpenSpec.ofChange refineOrdersWrong)

/-- 'lathelaw12.RefinePacks': WHATEVER THE INPUT: true; the input reads as it did. -/
def refinePacksSpec : ChangeSpec := { name := "refinePacks", fn := fun _ => fun
  | [d1, d2, d3, d4, d5] => { results := [.lit (.bool true)], args := [d1, d2, d3, d4, d5] }
  | _ => none }
def refinePacksRow : OpenClaim := { program := "ytglkbnckfkliaaa", sum := "a64855f91778e97c673fc3bf2c98e85e9001146f3935ae9918ff7ddb634a5cf6", func := "lathe/lathelaw12.RefinePacks", spec := "refinePacks", unfollowed := true, recurses := true, apart := false }
def RefinePacksSaid : Prop := refinePacksRow.holds Try.pinned (OpenSpec.ofChange refinePacksSpec)

/-- ITS FALSE NEIGHBOUR: 'it returns false'. Refute it at one input. -/
def refinePacksWrong : ChangeSpec := { name := "refinePacks", fn := fun _ => fun
  | [d1, d2, d3, d4, d5] => { results := [.lit (.bool false)], args := [d1, d2, d3, d4, d5] }
  | _ => none }
def RefinePacksWrongFalsely : Prop := refinePacksRow.holds Try.pinned (OpenSpec.ofChange refinePacksWrong)

/- THE SECOND FORM. 'bulk': how many values and letters a reading holds, each counted each time it is reached (what is shared counts as often as it is met; a slice's spare places count too). A statement '..UptoSaid' is the law's where the arguments, and the package variables that the reading takes, are together of bulk at most 1048576: NARROWER than '..Said'. Prove '..Said' where nothing that the law and all that it calls make is longer than what came in: it says more and counts as full. Else prove '..UptoSaid'. A law counts once. -/
mutual
def uptoBulk {H : Type} : DataW H → Nat
  | .lit (.string bytes) => bytes.length + 1
  | .lit _ => 1
  | .nil => 1
  | .ptr d => uptoBulk d + 1
  | .slice elems spare => uptoBulkAll elems + uptoBulkAll spare + 1
  | .agg parts => uptoBulkAll parts + 1
  | .iface _ d => uptoBulk d + 1
  | .map entries => uptoBulkEntries entries + 1
  | .held _ => 1
def uptoBulkAll {H : Type} : List (DataW H) → Nat
  | [] => 0
  | d :: r => uptoBulk d + uptoBulkAll r
def uptoBulkEntries {H : Type} : List (Lit × DataW H) → Nat
  | [] => 0
  | x :: r => uptoBulkEntry x + uptoBulkEntries r
def uptoBulkEntry {H : Type} : Lit × DataW H → Nat
  | (.string bytes, d) => bytes.length + uptoBulk d + 1
  | (_, d) => uptoBulk d + 1
 end
def uptoSmall : (H : Type) → List (DataW H) → Bool := fun _ ds => decide (uptoBulkAll ds ≤ 1048576)
def OpenSpec.upto (s : _root_.Go.ChangeSpec) : _root_.Go.OpenSpec := { _root_.Go.OpenSpec.ofChange s with cond := some uptoSmall }

/-- 'lathelaw12.RefineTells', WHERE WHAT IT READS IS OF BULK AT MOST 1048576: true; the input reads as it did. -/
def refineTellsUptoRow : OpenClaim := { program := "ytglkbnckfkliaaa", sum := "a64855f91778e97c673fc3bf2c98e85e9001146f3935ae9918ff7ddb634a5cf6", func := "lathe/lathelaw12.RefineTells", spec := "refineTells", unfollowed := true, recurses := true, apart := false, narrowed := true }
def RefineTellsUptoSaid : Prop := refineTellsUptoRow.holds Try.pinned (OpenSpec.upto refineTellsSpec)

/-- 'lathelaw12.RefineOrders', WHERE WHAT IT READS IS OF BULK AT MOST 1048576: true; the input reads as it did. -/
def refineOrdersUptoRow : OpenClaim := { program := "ytglkbnckfkliaaa", sum := "a64855f91778e97c673fc3bf2c98e85e9001146f3935ae9918ff7ddb634a5cf6", func := "lathe/lathelaw12.RefineOrders", spec := "refineOrders", unfollowed := true, recurses := true, apart := false, narrowed := true }
def RefineOrdersUptoSaid : Prop := refineOrdersUptoRow.holds Try.pinned (OpenSpec.upto refineOrdersSpec)

/-- 'lathelaw12.RefinePacks', WHERE WHAT IT READS IS OF BULK AT MOST 1048576: true; the input reads as it did. -/
def refinePacksUptoRow : OpenClaim := { program := "ytglkbnckfkliaaa", sum := "a64855f91778e97c673fc3bf2c98e85e9001146f3935ae9918ff7ddb634a5cf6", func := "lathe/lathelaw12.RefinePacks", spec := "refinePacks", unfollowed := true, recurses := true, apart := false, narrowed := true }
def RefinePacksUptoSaid : Prop := refinePacksUptoRow.holds Try.pinned (OpenSpec.upto refinePacksSpec)

end Rows
end Go.Proofs.Ytglkbnckfkliaaa
