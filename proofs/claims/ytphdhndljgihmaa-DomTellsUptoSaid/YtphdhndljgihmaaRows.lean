/-
  No cell of these rows narrows 'for every input' (looked for: loops, veiled, ifaces, maps, wideKeys, modest, calm, conditions, laid).
  DERIVED. THE GIVEN ROWS OF THIS SEAT. 7 by the template 'for every input the law returns true; each argument reads behind the call as it read before'; 0 by the template 'total and deterministic' (their statements: YtphdhndljgihmaaTotals.lean).
  GIVEN WITH THE SEED: the statements are not yours to turn. If you find one false, say at which input.
  Laid BY PROGRAM, IN A SANDBOX (cutbox-rows.mjs): the forced cells as the released guide's own fill.sh prints them over the translation f9beeea5eda85fe1… (all of the seat's roots in one cut). By AI agents, Wed Nov 11 2026. No macro, syntax, notation, axiom, sorry.
-/
import Derived.Test.YtphdhndljgihmaaChecked
import GoSem.Claim
import GoSem.ClaimJoined
import GoSem.ClaimMapViews
import Derived.JoinedTies
import Derived.KernelRfl
namespace Go.Proofs.Ytphdhndljgihmaa
/- THE CELL 'sum', in the pinned program and in every row, IS THE sha256 OF THE DUMP (.gsa) THAT YtphdhndljgihmaaProg.lean LOADS. Nothing in Lean hashes anything: it is a label: what it is worth is what the hold of that sum in a sandbox is worth. -/
noncomputable def Try.pinned : Pinned := { name := "ytphdhndljgihmaa", sum := "f9beeea5eda85fe1a4a3ed969a48f26ad77e9d4931c78a39b733b3944f58165b", checked := Try.checked }
namespace Rows
def none {H : Type} : Left H := { results := [], args := [] }

/-- 'lathelaw07.DomTells': WHATEVER THE INPUT: true; the input reads as it did. -/
def domTellsSpec : ChangeSpec := { name := "domTells", fn := fun _ => fun
  | [d] => { results := [.lit (.bool true)], args := [d] }
  | _ => none }
def domTellsRow : OpenClaim := { program := "ytphdhndljgihmaa", sum := "f9beeea5eda85fe1a4a3ed969a48f26ad77e9d4931c78a39b733b3944f58165b", func := "lathe/lathelaw07.DomTells", spec := "domTells", unfollowed := true, recurses := true, apart := false }
def DomTellsSaid : Prop := domTellsRow.holds Try.pinned (OpenSpec.ofChange domTellsSpec)

/-- ITS FALSE NEIGHBOUR: 'it returns false'. Refute it at one input. -/
def domTellsWrong : ChangeSpec := { name := "domTells", fn := fun _ => fun
  | [d] => { results := [.lit (.bool false)], args := [d] }
  | _ => none }
def DomTellsWrongFalsely : Prop := domTellsRow.holds Try.pinned (OpenSpec.ofChange domTellsWrong)

/-- 'lathelaw07.DomAsks': WHATEVER THE INPUT: true; the input reads as it did. -/
def domAsksSpec : ChangeSpec := { name := "domAsks", fn := fun _ => fun
  | [d1, d2, d3] => { results := [.lit (.bool true)], args := [d1, d2, d3] }
  | _ => none }
def domAsksRow : OpenClaim := { program := "ytphdhndljgihmaa", sum := "f9beeea5eda85fe1a4a3ed969a48f26ad77e9d4931c78a39b733b3944f58165b", func := "lathe/lathelaw07.DomAsks", spec := "domAsks", unfollowed := true, recurses := true, apart := false }
def DomAsksSaid : Prop := domAsksRow.holds Try.pinned (OpenSpec.ofChange domAsksSpec)

/-- ITS FALSE NEIGHBOUR: 'it returns false'. Refute it at one input. -/
def domAsksWrong : ChangeSpec := { name := "domAsks", fn := fun _ => fun
  | [d1, d2, d3] => { results := [.lit (.bool false)], args := [d1, d2, d3] }
  | _ => none }
def DomAsksWrongFalsely : Prop := domAsksRow.holds Try.pinned (OpenSpec.ofChange domAsksWrong)

/-- 'lathelaw07.DomOrders': WHATEVER THE INPUT: true; the input reads as it did. -/
def domOrdersSpec : ChangeSpec := { name := "domOrders", fn := fun _ => fun
  | [d1, d2, d3, d4] => { results := [.lit (.bool true)], args := [d1, d2, d3, d4] }
  | _ => none }
def domOrdersRow : OpenClaim := { program := "ytphdhndljgihmaa", sum := "f9beeea5eda85fe1a4a3ed969a48f26ad77e9d4931c78a39b733b3944f58165b", func := "lathe/lathelaw07.DomOrders", spec := "domOrders", unfollowed := true, recurses := true, apart := false }
def DomOrdersSaid : Prop := domOrdersRow.holds Try.pinned (OpenSpec.ofChange domOrdersSpec)

/-- ITS FALSE NEIGHBOUR: 'it returns false'. Refute it at one input. -/
def domOrdersWrong : ChangeSpec := { name := "domOrders", fn := fun _ => fun
  | [d1, d2, d3, d4] => { results := [.lit (.bool false)], args := [d1, d2, d3, d4] }
  | _ => none }
def DomOrdersWrongFalsely : Prop := domOrdersRow.holds Try.pinned (OpenSpec.ofChange domOrdersWrong)

/-- 'lathelaw07.DomStands': WHATEVER THE INPUT: true; the input reads as it did. -/
def domStandsSpec : ChangeSpec := { name := "domStands", fn := fun _ => fun
  | [d] => { results := [.lit (.bool true)], args := [d] }
  | _ => none }
def domStandsRow : OpenClaim := { program := "ytphdhndljgihmaa", sum := "f9beeea5eda85fe1a4a3ed969a48f26ad77e9d4931c78a39b733b3944f58165b", func := "lathe/lathelaw07.DomStands", spec := "domStands", unfollowed := true, recurses := true, apart := false }
def DomStandsSaid : Prop := domStandsRow.holds Try.pinned (OpenSpec.ofChange domStandsSpec)

/-- ITS FALSE NEIGHBOUR: 'it returns false'. Refute it at one input. -/
def domStandsWrong : ChangeSpec := { name := "domStands", fn := fun _ => fun
  | [d] => { results := [.lit (.bool false)], args := [d] }
  | _ => none }
def DomStandsWrongFalsely : Prop := domStandsRow.holds Try.pinned (OpenSpec.ofChange domStandsWrong)

/-- 'lathelaw07.DomEdges': WHATEVER THE INPUT: true; the input reads as it did. -/
def domEdgesSpec : ChangeSpec := { name := "domEdges", fn := fun _ => fun
  | [d] => { results := [.lit (.bool true)], args := [d] }
  | _ => none }
def domEdgesRow : OpenClaim := { program := "ytphdhndljgihmaa", sum := "f9beeea5eda85fe1a4a3ed969a48f26ad77e9d4931c78a39b733b3944f58165b", func := "lathe/lathelaw07.DomEdges", spec := "domEdges", unfollowed := true, recurses := true, apart := false }
def DomEdgesSaid : Prop := domEdgesRow.holds Try.pinned (OpenSpec.ofChange domEdgesSpec)

/-- ITS FALSE NEIGHBOUR: 'it returns false'. Refute it at one input. -/
def domEdgesWrong : ChangeSpec := { name := "domEdges", fn := fun _ => fun
  | [d] => { results := [.lit (.bool false)], args := [d] }
  | _ => none }
def DomEdgesWrongFalsely : Prop := domEdgesRow.holds Try.pinned (OpenSpec.ofChange domEdgesWrong)

/-- 'lathelaw07.DomPermutes': WHATEVER THE INPUT: true; the input reads as it did. -/
def domPermutesSpec : ChangeSpec := { name := "domPermutes", fn := fun _ => fun
  | [d1, d2, d3] => { results := [.lit (.bool true)], args := [d1, d2, d3] }
  | _ => none }
def domPermutesRow : OpenClaim := { program := "ytphdhndljgihmaa", sum := "f9beeea5eda85fe1a4a3ed969a48f26ad77e9d4931c78a39b733b3944f58165b", func := "lathe/lathelaw07.DomPermutes", spec := "domPermutes", unfollowed := true, recurses := true, apart := false }
def DomPermutesSaid : Prop := domPermutesRow.holds Try.pinned (OpenSpec.ofChange domPermutesSpec)

/-- ITS FALSE NEIGHBOUR: 'it returns false'. Refute it at one input. -/
def domPermutesWrong : ChangeSpec := { name := "domPermutes", fn := fun _ => fun
  | [d1, d2, d3] => { results := [.lit (.bool false)], args := [d1, d2, d3] }
  | _ => none }
def DomPermutesWrongFalsely : Prop := domPermutesRow.holds Try.pinned (OpenSpec.ofChange domPermutesWrong)

/-- 'lathelaw07.DomCounts': WHATEVER THE INPUT: true; the input reads as it did. -/
def domCountsSpec : ChangeSpec := { name := "domCounts", fn := fun _ => fun
  | [d] => { results := [.lit (.bool true)], args := [d] }
  | _ => none }
def domCountsRow : OpenClaim := { program := "ytphdhndljgihmaa", sum := "f9beeea5eda85fe1a4a3ed969a48f26ad77e9d4931c78a39b733b3944f58165b", func := "lathe/lathelaw07.DomCounts", spec := "domCounts", unfollowed := true, recurses := true, apart := false }
def DomCountsSaid : Prop := domCountsRow.holds Try.pinned (OpenSpec.ofChange domCountsSpec)

/-- ITS FALSE NEIGHBOUR: 'it returns false'. Refute it at one input. -/
def domCountsWrong : ChangeSpec := { name := "domCounts", fn := fun _ => fun
  | [d] => { results := [.lit (.bool false)], args := [d] }
  | _ => none }
def DomCountsWrongFalsely : Prop := domCountsRow.holds Try.pinned (OpenSpec.ofChange domCountsWrong)

/- THE SECOND FORM. 'bulk': how many values and letters a reading holds, each counted each time it is reached (what is shared counts as often as it is met; a slice's spare places count too). A statement '..UptoSaid' is the law's where the arguments, and the package variables that the reading takes, are together of bulk at most 1048576: NARROWER than '..Said'. Prove '..Said' where nothing that the law and all that it calls make is longer than what came in: it says more and counts as full. Else prove '..UptoSaid'. A law counts once. -/
mutual
def uptoBulk {H : Type} : DataW H → Nat
  | .lit (.string bytes) => bytes.length + 1
  | .lit _ => 1
  | .nil => 1
  | .ptr d => uptoBulk d + 1
  | .slice elems spare => uptoBulkAll elems + uptoBulkAll spare + 1
  | .agg parts => uptoBulkAll parts + 1
  | .iface _ d => uptoBulk d + 1
  | .map entries => uptoBulkEntries entries + 1
  | .held _ => 1
def uptoBulkAll {H : Type} : List (DataW H) → Nat
  | [] => 0
  | d :: r => uptoBulk d + uptoBulkAll r
def uptoBulkEntries {H : Type} : List (Lit × DataW H) → Nat
  | [] => 0
  | x :: r => uptoBulkEntry x + uptoBulkEntries r
def uptoBulkEntry {H : Type} : Lit × DataW H → Nat
  | (.string bytes, d) => bytes.length + uptoBulk d + 1
  | (_, d) => uptoBulk d + 1
 end
def uptoSmall : (H : Type) → List (DataW H) → Bool := fun _ ds => decide (uptoBulkAll ds ≤ 1048576)
def OpenSpec.upto (s : _root_.Go.ChangeSpec) : _root_.Go.OpenSpec := { _root_.Go.OpenSpec.ofChange s with cond := some uptoSmall }

/-- 'lathelaw07.DomTells', WHERE WHAT IT READS IS OF BULK AT MOST 1048576: true; the input reads as it did. -/
def domTellsUptoRow : OpenClaim := { program := "ytphdhndljgihmaa", sum := "f9beeea5eda85fe1a4a3ed969a48f26ad77e9d4931c78a39b733b3944f58165b", func := "lathe/lathelaw07.DomTells", spec := "domTells", unfollowed := true, recurses := true, apart := false, narrowed := true }
def DomTellsUptoSaid : Prop := domTellsUptoRow.holds Try.pinned (OpenSpec.upto domTellsSpec)

/-- 'lathelaw07.DomAsks', WHERE WHAT IT READS IS OF BULK AT MOST 1048576: true; the input reads as it did. -/
def domAsksUptoRow : OpenClaim := { program := "ytphdhndljgihmaa", sum := "f9beeea5eda85fe1a4a3ed969a48f26ad77e9d4931c78a39b733b3944f58165b", func := "lathe/lathelaw07.DomAsks", spec := "domAsks", unfollowed := true, recurses := true, apart := false, narrowed := true }
def DomAsksUptoSaid : Prop := domAsksUptoRow.holds Try.pinned (OpenSpec.upto domAsksSpec)

/-- 'lathelaw07.DomOrders', WHERE WHAT IT READS IS OF BULK AT MOST 1048576: true; the input reads as it did. -/
def domOrdersUptoRow : OpenClaim := { program := "ytphdhndljgihmaa", sum := "f9beeea5eda85fe1a4a3ed969a48f26ad77e9d4931c78a39b733b3944f58165b", func := "lathe/lathelaw07.DomOrders", spec := "domOrders", unfollowed := true, recurses := true, apart := false, narrowed := true }
def DomOrdersUptoSaid : Prop := domOrdersUptoRow.holds Try.pinned (OpenSpec.upto domOrdersSpec)

/-- 'lathelaw07.DomStands', WHERE WHAT IT READS IS OF BULK AT MOST 1048576: true; the input reads as it did. -/
def domStandsUptoRow : OpenClaim := { program := "ytphdhndljgihmaa", sum := "f9beeea5eda85fe1a4a3ed969a48f26ad77e9d4931c78a39b733b3944f58165b", func := "lathe/lathelaw07.DomStands", spec := "domStands", unfollowed := true, recurses := true, apart := false, narrowed := true }
def DomStandsUptoSaid : Prop := domStandsUptoRow.holds Try.pinned (OpenSpec.upto domStandsSpec)

/-- 'lathelaw07.DomEdges', WHERE WHAT IT READS IS OF BULK AT MOST 1048576: true; the input reads as it did. -/
def domEdgesUptoRow : OpenClaim := { program := "ytphdhndljgihmaa", sum := "f9beeea5eda85fe1a4a3ed969a48f26ad77e9d4931c78a39b733b3944f58165b", func := "lathe/lathelaw07.DomEdges", spec := "domEdges", unfollowed := true, recurses := true, apart := false, narrowed := true }
def DomEdgesUptoSaid : Prop := domEdgesUptoRow.holds Try.pinned (OpenSpec.upto domEdgesSpec)

/-- 'lathelaw07.DomPermutes', WHERE WHAT IT READS IS OF BULK AT MOST 1048576: true; the input reads as it did. -/
def domPermutesUptoRow : OpenClaim := { program := "ytphdhndljgihmaa", sum := "f9beeea5eda85fe1a4a3ed969a48f26ad77e9d4931c78a39b733b3944f58165b", func := "lathe/lathelaw07.DomPermutes", spec := "domPermutes", unfollowed := true, recurses := true, apart := false, narrowed := true }
def DomPermutesUptoSaid : Prop := domPermutesUptoRow.holds Try.pinned (OpenSpec.upto domPermutesSpec)

/-- 'lathelaw07.DomCounts', WHERE WHAT IT READS IS OF BULK AT MOST 1048576: true; the input reads as it did. -/
def domCountsUptoRow : OpenClaim := { program := "ytphdhndljgihmaa", sum := "f9beeea5eda85fe1a4a3ed969a48f26ad77e9d4931c78a39b733b3944f58165b", func := "lathe/lathelaw07.DomCounts", spec := "domCounts", unfollowed := true, recurses := true, apart := false, narrowed := true }
def DomCountsUptoSaid : Prop := domCountsUptoRow.holds Try.pinned (OpenSpec.upto domCountsSpec)

end Rows
end Go.Proofs.Ytphdhndljgihmaa
