/-
  No cell of these rows narrows 'for every input' (looked for: loops, veiled, ifaces, maps, wideKeys, modest, calm, conditions, laid).
  DERIVED. THE GIVEN ROWS OF THIS SEAT. 7 by the template 'for every input the law returns true; each argument reads behind the call as it read before'; 0 by the template 'total and deterministic' (their statements: YtpfeiolmkbibiaaTotals.lean).
  GIVEN WITH THE SEED: the statements are not yours to turn. If you find one false, say at which input.
  Laid BY PROGRAM, IN A SANDBOX (cutbox-rows.mjs): the forced cells as the released guide's own fill.sh prints them over the translation 2d7418fbb0bfd313… (all of the seat's roots in one cut). By AI agents, Wed Nov 11 2026. No macro, syntax, notation, axiom, sorry.
-/
import Derived.Test.YtpfeiolmkbibiaaChecked
import GoSem.Claim
import GoSem.ClaimJoined
import GoSem.ClaimMapViews
import Derived.JoinedTies
import Derived.KernelRfl
namespace Go.Proofs.Ytpfeiolmkbibiaa
/- THE CELL 'sum', in the pinned program and in every row, IS THE sha256 OF THE DUMP (.gsa) THAT YtpfeiolmkbibiaaProg.lean LOADS. Nothing in Lean hashes anything: it is a label: what it is worth is what the hold of that sum in a sandbox is worth. -/
noncomputable def Try.pinned : Pinned := { name := "ytpfeiolmkbibiaa", sum := "2d7418fbb0bfd313d7c2ceabf60512dbdb5fc001c7fe1d4209dfc3b558d5d1f1", checked := Try.checked }
namespace Rows
def none {H : Type} : Left H := { results := [], args := [] }

/-- 'lathelaw02.IrAsks': WHATEVER THE INPUT: true; the input reads as it did. -/
def irAsksSpec : ChangeSpec := { name := "irAsks", fn := fun _ => fun
  | [d] => { results := [.lit (.bool true)], args := [d] }
  | _ => none }
def irAsksRow : OpenClaim := { program := "ytpfeiolmkbibiaa", sum := "2d7418fbb0bfd313d7c2ceabf60512dbdb5fc001c7fe1d4209dfc3b558d5d1f1", func := "lathe/lathelaw02.IrAsks", spec := "irAsks", unfollowed := true, recurses := true, apart := false }
def IrAsksSaid : Prop := irAsksRow.holds Try.pinned (OpenSpec.ofChange irAsksSpec)

/-- ITS FALSE NEIGHBOUR: 'it returns false'. Refute it at one input. -/
def irAsksWrong : ChangeSpec := { name := "irAsks", fn := fun _ => fun
  | [d] => { results := [.lit (.bool false)], args := [d] }
  | _ => none }
def IrAsksWrongFalsely : Prop := irAsksRow.holds Try.pinned (OpenSpec.ofChange irAsksWrong)

/-- 'lathelaw02.IrCopies': WHATEVER THE INPUT: true; the input reads as it did. -/
def irCopiesSpec : ChangeSpec := { name := "irCopies", fn := fun _ => fun
  | [d1, d2] => { results := [.lit (.bool true)], args := [d1, d2] }
  | _ => none }
def irCopiesRow : OpenClaim := { program := "ytpfeiolmkbibiaa", sum := "2d7418fbb0bfd313d7c2ceabf60512dbdb5fc001c7fe1d4209dfc3b558d5d1f1", func := "lathe/lathelaw02.IrCopies", spec := "irCopies", unfollowed := true, recurses := true, apart := false }
def IrCopiesSaid : Prop := irCopiesRow.holds Try.pinned (OpenSpec.ofChange irCopiesSpec)

/-- ITS FALSE NEIGHBOUR: 'it returns false'. Refute it at one input. -/
def irCopiesWrong : ChangeSpec := { name := "irCopies", fn := fun _ => fun
  | [d1, d2] => { results := [.lit (.bool false)], args := [d1, d2] }
  | _ => none }
def IrCopiesWrongFalsely : Prop := irCopiesRow.holds Try.pinned (OpenSpec.ofChange irCopiesWrong)

/-- 'lathelaw02.IrFinds': WHATEVER THE INPUT: true; the input reads as it did. -/
def irFindsSpec : ChangeSpec := { name := "irFinds", fn := fun _ => fun
  | [d1, d2] => { results := [.lit (.bool true)], args := [d1, d2] }
  | _ => none }
def irFindsRow : OpenClaim := { program := "ytpfeiolmkbibiaa", sum := "2d7418fbb0bfd313d7c2ceabf60512dbdb5fc001c7fe1d4209dfc3b558d5d1f1", func := "lathe/lathelaw02.IrFinds", spec := "irFinds", unfollowed := true, recurses := true, apart := false }
def IrFindsSaid : Prop := irFindsRow.holds Try.pinned (OpenSpec.ofChange irFindsSpec)

/-- ITS FALSE NEIGHBOUR: 'it returns false'. Refute it at one input. -/
def irFindsWrong : ChangeSpec := { name := "irFinds", fn := fun _ => fun
  | [d1, d2] => { results := [.lit (.bool false)], args := [d1, d2] }
  | _ => none }
def IrFindsWrongFalsely : Prop := irFindsRow.holds Try.pinned (OpenSpec.ofChange irFindsWrong)

/-- 'lathelaw02.IrReplaces': WHATEVER THE INPUT: true; the input reads as it did. -/
def irReplacesSpec : ChangeSpec := { name := "irReplaces", fn := fun _ => fun
  | [d1, d2, d3, d4] => { results := [.lit (.bool true)], args := [d1, d2, d3, d4] }
  | _ => none }
def irReplacesRow : OpenClaim := { program := "ytpfeiolmkbibiaa", sum := "2d7418fbb0bfd313d7c2ceabf60512dbdb5fc001c7fe1d4209dfc3b558d5d1f1", func := "lathe/lathelaw02.IrReplaces", spec := "irReplaces", unfollowed := true, recurses := true, apart := false }
def IrReplacesSaid : Prop := irReplacesRow.holds Try.pinned (OpenSpec.ofChange irReplacesSpec)

/-- ITS FALSE NEIGHBOUR: 'it returns false'. Refute it at one input. -/
def irReplacesWrong : ChangeSpec := { name := "irReplaces", fn := fun _ => fun
  | [d1, d2, d3, d4] => { results := [.lit (.bool false)], args := [d1, d2, d3, d4] }
  | _ => none }
def IrReplacesWrongFalsely : Prop := irReplacesRow.holds Try.pinned (OpenSpec.ofChange irReplacesWrong)

/-- 'lathelaw02.IrCallees': WHATEVER THE INPUT: true; the input reads as it did. -/
def irCalleesSpec : ChangeSpec := { name := "irCallees", fn := fun _ => fun
  | [d1, d2] => { results := [.lit (.bool true)], args := [d1, d2] }
  | _ => none }
def irCalleesRow : OpenClaim := { program := "ytpfeiolmkbibiaa", sum := "2d7418fbb0bfd313d7c2ceabf60512dbdb5fc001c7fe1d4209dfc3b558d5d1f1", func := "lathe/lathelaw02.IrCallees", spec := "irCallees", unfollowed := true, recurses := true, apart := false }
def IrCalleesSaid : Prop := irCalleesRow.holds Try.pinned (OpenSpec.ofChange irCalleesSpec)

/-- ITS FALSE NEIGHBOUR: 'it returns false'. Refute it at one input. -/
def irCalleesWrong : ChangeSpec := { name := "irCallees", fn := fun _ => fun
  | [d1, d2] => { results := [.lit (.bool false)], args := [d1, d2] }
  | _ => none }
def IrCalleesWrongFalsely : Prop := irCalleesRow.holds Try.pinned (OpenSpec.ofChange irCalleesWrong)

/-- 'lathelaw02.IrFresh': WHATEVER THE INPUT: true; the input reads as it did. -/
def irFreshSpec : ChangeSpec := { name := "irFresh", fn := fun _ => fun
  | [d] => { results := [.lit (.bool true)], args := [d] }
  | _ => none }
def irFreshRow : OpenClaim := { program := "ytpfeiolmkbibiaa", sum := "2d7418fbb0bfd313d7c2ceabf60512dbdb5fc001c7fe1d4209dfc3b558d5d1f1", func := "lathe/lathelaw02.IrFresh", spec := "irFresh", unfollowed := true, recurses := true, apart := false }
def IrFreshSaid : Prop := irFreshRow.holds Try.pinned (OpenSpec.ofChange irFreshSpec)

/-- ITS FALSE NEIGHBOUR: 'it returns false'. Refute it at one input. -/
def irFreshWrong : ChangeSpec := { name := "irFresh", fn := fun _ => fun
  | [d] => { results := [.lit (.bool false)], args := [d] }
  | _ => none }
def IrFreshWrongFalsely : Prop := irFreshRow.holds Try.pinned (OpenSpec.ofChange irFreshWrong)

/-- 'lathelaw02.IrSums': WHATEVER THE INPUT: true; the input reads as it did. -/
def irSumsSpec : ChangeSpec := { name := "irSums", fn := fun _ => fun
  | [d1, d2, d3] => { results := [.lit (.bool true)], args := [d1, d2, d3] }
  | _ => none }
def irSumsRow : OpenClaim := { program := "ytpfeiolmkbibiaa", sum := "2d7418fbb0bfd313d7c2ceabf60512dbdb5fc001c7fe1d4209dfc3b558d5d1f1", func := "lathe/lathelaw02.IrSums", spec := "irSums", unfollowed := true, recurses := true, apart := false }
def IrSumsSaid : Prop := irSumsRow.holds Try.pinned (OpenSpec.ofChange irSumsSpec)

/-- ITS FALSE NEIGHBOUR: 'it returns false'. Refute it at one input. -/
def irSumsWrong : ChangeSpec := { name := "irSums", fn := fun _ => fun
  | [d1, d2, d3] => { results := [.lit (.bool false)], args := [d1, d2, d3] }
  | _ => none }
def IrSumsWrongFalsely : Prop := irSumsRow.holds Try.pinned (OpenSpec.ofChange irSumsWrong)

/- THE SECOND FORM. 'bulk': how many values and letters a reading holds, each counted each time it is reached (what is shared counts as often as it is met; a slice's spare places count too). A statement '..UptoSaid' is the law's where the arguments, and the package variables that the reading takes, are together of bulk at most 1048576: NARROWER than '..Said'. Prove '..Said' where nothing that the law and all that it calls make is longer than what came in: it says more and counts as full. Else prove '..UptoSaid'. A law counts once. -/
mutual
def uptoBulk {H : Type} : DataW H → Nat
  | .lit (.string bytes) => bytes.length + 1
  | .lit _ => 1
  | .nil => 1
  | .ptr d => uptoBulk d + 1
  | .slice elems spare => uptoBulkAll elems + uptoBulkAll spare + 1
  | .agg parts => uptoBulkAll parts + 1
  | .iface _ d => uptoBulk d + 1
  | .map entries => uptoBulkEntries entries + 1
  | .held _ => 1
def uptoBulkAll {H : Type} : List (DataW H) → Nat
  | [] => 0
  | d :: r => uptoBulk d + uptoBulkAll r
def uptoBulkEntries {H : Type} : List (Lit × DataW H) → Nat
  | [] => 0
  | x :: r => uptoBulkEntry x + uptoBulkEntries r
def uptoBulkEntry {H : Type} : Lit × DataW H → Nat
  | (.string bytes, d) => bytes.length + uptoBulk d + 1
  | (_, d) => uptoBulk d + 1
 end
def uptoSmall : (H : Type) → List (DataW H) → Bool := fun _ ds => decide (uptoBulkAll ds ≤ 1048576)
def OpenSpec.upto (s : _root_.Go.ChangeSpec) : _root_.Go.OpenSpec := { _root_.Go.OpenSpec.ofChange s with cond := some uptoSmall }

/-- 'lathelaw02.IrAsks', WHERE WHAT IT READS IS OF BULK AT MOST 1048576: true; the input reads as it did. -/
def irAsksUptoRow : OpenClaim := { program := "ytpfeiolmkbibiaa", sum := "2d7418fbb0bfd313d7c2ceabf60512dbdb5fc001c7fe1d4209dfc3b558d5d1f1", func := "lathe/lathelaw02.IrAsks", spec := "irAsks", unfollowed := true, recurses := true, apart := false, narrowed := true }
def IrAsksUptoSaid : Prop := irAsksUptoRow.holds Try.pinned (OpenSpec.upto irAsksSpec)

/-- 'lathelaw02.IrCopies', WHERE WHAT IT READS IS OF BULK AT MOST 1048576: true; the input reads as it did. -/
def irCopiesUptoRow : OpenClaim := { program := "ytpfeiolmkbibiaa", sum := "2d7418fbb0bfd313d7c2ceabf60512dbdb5fc001c7fe1d4209dfc3b558d5d1f1", func := "lathe/lathelaw02.IrCopies", spec := "irCopies", unfollowed := true, recurses := true, apart := false, narrowed := true }
def IrCopiesUptoSaid : Prop := irCopiesUptoRow.holds Try.pinned (OpenSpec.upto irCopiesSpec)

/-- 'lathelaw02.IrFinds', WHERE WHAT IT READS IS OF BULK AT MOST 1048576: true; the input reads as it did. -/
def irFindsUptoRow : OpenClaim := { program := "ytpfeiolmkbibiaa", sum := "2d7418fbb0bfd313d7c2ceabf60512dbdb5fc001c7fe1d4209dfc3b558d5d1f1", func := "lathe/lathelaw02.IrFinds", spec := "irFinds", unfollowed := true, recurses := true, apart := false, narrowed := true }
def IrFindsUptoSaid : Prop := irFindsUptoRow.holds Try.pinned (OpenSpec.upto irFindsSpec)

/-- 'lathelaw02.IrReplaces', WHERE WHAT IT READS IS OF BULK AT MOST 1048576: true; the input reads as it did. -/
def irReplacesUptoRow : OpenClaim := { program := "ytpfeiolmkbibiaa", sum := "2d7418fbb0bfd313d7c2ceabf60512dbdb5fc001c7fe1d4209dfc3b558d5d1f1", func := "lathe/lathelaw02.IrReplaces", spec := "irReplaces", unfollowed := true, recurses := true, apart := false, narrowed := true }
def IrReplacesUptoSaid : Prop := irReplacesUptoRow.holds Try.pinned (OpenSpec.upto irReplacesSpec)

/-- 'lathelaw02.IrCallees', WHERE WHAT IT READS IS OF BULK AT MOST 1048576: true; the input reads as it did. -/
def irCalleesUptoRow : OpenClaim := { program := "ytpfeiolmkbibiaa", sum := "2d7418fbb0bfd313d7c2ceabf60512dbdb5fc001c7fe1d4209dfc3b558d5d1f1", func := "lathe/lathelaw02.IrCallees", spec := "irCallees", unfollowed := true, recurses := true, apart := false, narrowed := true }
def IrCalleesUptoSaid : Prop := irCalleesUptoRow.holds Try.pinned (OpenSpec.upto irCalleesSpec)

/-- 'lathelaw02.IrFresh', WHERE WHAT IT READS IS OF BULK AT MOST 1048576: true; the input reads as it did. -/
def irFreshUptoRow : OpenClaim := { program := "ytpfeiolmkbibiaa", sum := "2d7418fbb0bfd313d7c2ceabf60512dbdb5fc001c7fe1d4209dfc3b558d5d1f1", func := "lathe/lathelaw02.IrFresh", spec := "irFresh", unfollowed := true, recurses := true, apart := false, narrowed := true }
def IrFreshUptoSaid : Prop := irFreshUptoRow.holds Try.pinned (OpenSpec.upto irFreshSpec)

/-- 'lathelaw02.IrSums', WHERE WHAT IT READS IS OF BULK AT MOST 1048576: true; the input reads as it did. -/
def irSumsUptoRow : OpenClaim := { program := "ytpfeiolmkbibiaa", sum := "2d7418fbb0bfd313d7c2ceabf60512dbdb5fc001c7fe1d4209dfc3b558d5d1f1", func := "lathe/lathelaw02.IrSums", spec := "irSums", unfollowed := true, recurses := true, apart := false, narrowed := true }
def IrSumsUptoSaid : Prop := irSumsUptoRow.holds Try.pinned (OpenSpec.upto irSumsSpec)

end Rows
end Go.Proofs.Ytpfeiolmkbibiaa
