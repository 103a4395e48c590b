/-
  No cell of these rows narrows 'for every input' (looked for: loops, veiled, ifaces, maps, wideKeys, modest, calm, conditions, laid).
  DERIVED. THE GIVEN ROWS OF THIS SEAT. 11 by the template 'for every input the law returns true; each argument reads behind the call as it read before'; 0 by the template 'total and deterministic' (their statements: YtkbkgbkoplcgeaaTotals.lean).
  GIVEN WITH THE SEED: the statements are not yours to turn. If you find one false, say at which input.
  Laid BY PROGRAM, IN A SANDBOX (cutbox-rows.mjs): the forced cells as the released guide's own fill.sh prints them over the translation f283aca641732649… (all of the seat's roots in one cut). By AI agents, Wed Nov 11 2026. No macro, syntax, notation, axiom, sorry.
-/
import Derived.Test.YtkbkgbkoplcgeaaChecked
import GoSem.Claim
import GoSem.ClaimJoined
import GoSem.ClaimMapViews
import Derived.JoinedTies
import Derived.KernelRfl
namespace Go.Proofs.Ytkbkgbkoplcgeaa
/- THE CELL 'sum', in the pinned program and in every row, IS THE sha256 OF THE DUMP (.gsa) THAT YtkbkgbkoplcgeaaProg.lean LOADS. Nothing in Lean hashes anything: it is a label: what it is worth is what the hold of that sum in a sandbox is worth. -/
noncomputable def Try.pinned : Pinned := { name := "ytkbkgbkoplcgeaa", sum := "f283aca6417326492d39a1b296b5045f7fa481daf551b80ecb9a222c2b9ab118", checked := Try.checked }
namespace Rows
def none {H : Type} : Left H := { results := [], args := [] }

/-- 'lathelaw09.MemPacks': WHATEVER THE INPUT: true; the input reads as it did. -/
def memPacksSpec : ChangeSpec := { name := "memPacks", fn := fun _ => fun
  | [d1, d2, d3] => { results := [.lit (.bool true)], args := [d1, d2, d3] }
  | _ => none }
def memPacksRow : OpenClaim := { program := "ytkbkgbkoplcgeaa", sum := "f283aca6417326492d39a1b296b5045f7fa481daf551b80ecb9a222c2b9ab118", func := "lathe/lathelaw09.MemPacks", spec := "memPacks", apart := false }
def MemPacksSaid : Prop := memPacksRow.holds Try.pinned (OpenSpec.ofChange memPacksSpec)

/-- ITS FALSE NEIGHBOUR: 'it returns false'. Refute it at one input. -/
def memPacksWrong : ChangeSpec := { name := "memPacks", fn := fun _ => fun
  | [d1, d2, d3] => { results := [.lit (.bool false)], args := [d1, d2, d3] }
  | _ => none }
def MemPacksWrongFalsely : Prop := memPacksRow.holds Try.pinned (OpenSpec.ofChange memPacksWrong)

/-- 'lathelaw09.MemBack': WHATEVER THE INPUT: true; the input reads as it did. -/
def memBackSpec : ChangeSpec := { name := "memBack", fn := fun _ => fun
  | [d1, d2] => { results := [.lit (.bool true)], args := [d1, d2] }
  | _ => none }
def memBackRow : OpenClaim := { program := "ytkbkgbkoplcgeaa", sum := "f283aca6417326492d39a1b296b5045f7fa481daf551b80ecb9a222c2b9ab118", func := "lathe/lathelaw09.MemBack", spec := "memBack", apart := false }
def MemBackSaid : Prop := memBackRow.holds Try.pinned (OpenSpec.ofChange memBackSpec)

/-- ITS FALSE NEIGHBOUR: 'it returns false'. Refute it at one input. -/
def memBackWrong : ChangeSpec := { name := "memBack", fn := fun _ => fun
  | [d1, d2] => { results := [.lit (.bool false)], args := [d1, d2] }
  | _ => none }
def MemBackWrongFalsely : Prop := memBackRow.holds Try.pinned (OpenSpec.ofChange memBackWrong)

/-- 'lathelaw09.MemPlays': WHATEVER THE INPUT: true; the input reads as it did. -/
def memPlaysSpec : ChangeSpec := { name := "memPlays", fn := fun _ => fun
  | [d1, d2] => { results := [.lit (.bool true)], args := [d1, d2] }
  | _ => none }
def memPlaysRow : OpenClaim := { program := "ytkbkgbkoplcgeaa", sum := "f283aca6417326492d39a1b296b5045f7fa481daf551b80ecb9a222c2b9ab118", func := "lathe/lathelaw09.MemPlays", spec := "memPlays", apart := false }
def MemPlaysSaid : Prop := memPlaysRow.holds Try.pinned (OpenSpec.ofChange memPlaysSpec)

/-- ITS FALSE NEIGHBOUR: 'it returns false'. Refute it at one input. -/
def memPlaysWrong : ChangeSpec := { name := "memPlays", fn := fun _ => fun
  | [d1, d2] => { results := [.lit (.bool false)], args := [d1, d2] }
  | _ => none }
def MemPlaysWrongFalsely : Prop := memPlaysRow.holds Try.pinned (OpenSpec.ofChange memPlaysWrong)

/-- 'lathelaw09.MemKeeps': WHATEVER THE INPUT: true; the input reads as it did. -/
def memKeepsSpec : ChangeSpec := { name := "memKeeps", fn := fun _ => fun
  | [d1, d2, d3, d4, d5] => { results := [.lit (.bool true)], args := [d1, d2, d3, d4, d5] }
  | _ => none }
def memKeepsRow : OpenClaim := { program := "ytkbkgbkoplcgeaa", sum := "f283aca6417326492d39a1b296b5045f7fa481daf551b80ecb9a222c2b9ab118", func := "lathe/lathelaw09.MemKeeps", spec := "memKeeps", apart := false }
def MemKeepsSaid : Prop := memKeepsRow.holds Try.pinned (OpenSpec.ofChange memKeepsSpec)

/-- ITS FALSE NEIGHBOUR: 'it returns false'. Refute it at one input. -/
def memKeepsWrong : ChangeSpec := { name := "memKeeps", fn := fun _ => fun
  | [d1, d2, d3, d4, d5] => { results := [.lit (.bool false)], args := [d1, d2, d3, d4, d5] }
  | _ => none }
def MemKeepsWrongFalsely : Prop := memKeepsRow.holds Try.pinned (OpenSpec.ofChange memKeepsWrong)

/-- 'lathelaw09.MemFrees': WHATEVER THE INPUT: true; the input reads as it did. -/
def memFreesSpec : ChangeSpec := { name := "memFrees", fn := fun _ => fun
  | [d1, d2, d3] => { results := [.lit (.bool true)], args := [d1, d2, d3] }
  | _ => none }
def memFreesRow : OpenClaim := { program := "ytkbkgbkoplcgeaa", sum := "f283aca6417326492d39a1b296b5045f7fa481daf551b80ecb9a222c2b9ab118", func := "lathe/lathelaw09.MemFrees", spec := "memFrees", apart := false }
def MemFreesSaid : Prop := memFreesRow.holds Try.pinned (OpenSpec.ofChange memFreesSpec)

/-- ITS FALSE NEIGHBOUR: 'it returns false'. Refute it at one input. -/
def memFreesWrong : ChangeSpec := { name := "memFrees", fn := fun _ => fun
  | [d1, d2, d3] => { results := [.lit (.bool false)], args := [d1, d2, d3] }
  | _ => none }
def MemFreesWrongFalsely : Prop := memFreesRow.holds Try.pinned (OpenSpec.ofChange memFreesWrong)

/-- 'lathelaw09.MemApart': WHATEVER THE INPUT: true; the input reads as it did. -/
def memApartSpec : ChangeSpec := { name := "memApart", fn := fun _ => fun
  | [d1, d2, d3] => { results := [.lit (.bool true)], args := [d1, d2, d3] }
  | _ => none }
def memApartRow : OpenClaim := { program := "ytkbkgbkoplcgeaa", sum := "f283aca6417326492d39a1b296b5045f7fa481daf551b80ecb9a222c2b9ab118", func := "lathe/lathelaw09.MemApart", spec := "memApart", unfollowed := true, recurses := true, apart := false }
def MemApartSaid : Prop := memApartRow.holds Try.pinned (OpenSpec.ofChange memApartSpec)

/-- ITS FALSE NEIGHBOUR: 'it returns false'. Refute it at one input. -/
def memApartWrong : ChangeSpec := { name := "memApart", fn := fun _ => fun
  | [d1, d2, d3] => { results := [.lit (.bool false)], args := [d1, d2, d3] }
  | _ => none }
def MemApartWrongFalsely : Prop := memApartRow.holds Try.pinned (OpenSpec.ofChange memApartWrong)

/-- 'lathelaw10.EvalRefines': WHATEVER THE INPUT: true; the input reads as it did. -/
def evalRefinesSpec : ChangeSpec := { name := "evalRefines", fn := fun _ => fun
  | [d1, d2, d3] => { results := [.lit (.bool true)], args := [d1, d2, d3] }
  | _ => none }
def evalRefinesRow : OpenClaim := { program := "ytkbkgbkoplcgeaa", sum := "f283aca6417326492d39a1b296b5045f7fa481daf551b80ecb9a222c2b9ab118", func := "lathe/lathelaw10.EvalRefines", spec := "evalRefines", apart := false }
def EvalRefinesSaid : Prop := evalRefinesRow.holds Try.pinned (OpenSpec.ofChange evalRefinesSpec)

/-- ITS FALSE NEIGHBOUR: 'it returns false'. Refute it at one input. -/
def evalRefinesWrong : ChangeSpec := { name := "evalRefines", fn := fun _ => fun
  | [d1, d2, d3] => { results := [.lit (.bool false)], args := [d1, d2, d3] }
  | _ => none }
def EvalRefinesWrongFalsely : Prop := evalRefinesRow.holds Try.pinned (OpenSpec.ofChange evalRefinesWrong)

/-- 'lathelaw10.EvalFreezes': WHATEVER THE INPUT: true; the input reads as it did. -/
def evalFreezesSpec : ChangeSpec := { name := "evalFreezes", fn := fun _ => fun
  | [d1, d2] => { results := [.lit (.bool true)], args := [d1, d2] }
  | _ => none }
def evalFreezesRow : OpenClaim := { program := "ytkbkgbkoplcgeaa", sum := "f283aca6417326492d39a1b296b5045f7fa481daf551b80ecb9a222c2b9ab118", func := "lathe/lathelaw10.EvalFreezes", spec := "evalFreezes", apart := false }
def EvalFreezesSaid : Prop := evalFreezesRow.holds Try.pinned (OpenSpec.ofChange evalFreezesSpec)

/-- ITS FALSE NEIGHBOUR: 'it returns false'. Refute it at one input. -/
def evalFreezesWrong : ChangeSpec := { name := "evalFreezes", fn := fun _ => fun
  | [d1, d2] => { results := [.lit (.bool false)], args := [d1, d2] }
  | _ => none }
def EvalFreezesWrongFalsely : Prop := evalFreezesRow.holds Try.pinned (OpenSpec.ofChange evalFreezesWrong)

/-- 'lathelaw10.EvalFlags': WHATEVER THE INPUT: true; the input reads as it did. -/
def evalFlagsSpec : ChangeSpec := { name := "evalFlags", fn := fun _ => fun
  | [d1, d2] => { results := [.lit (.bool true)], args := [d1, d2] }
  | _ => none }
def evalFlagsRow : OpenClaim := { program := "ytkbkgbkoplcgeaa", sum := "f283aca6417326492d39a1b296b5045f7fa481daf551b80ecb9a222c2b9ab118", func := "lathe/lathelaw10.EvalFlags", spec := "evalFlags", apart := false }
def EvalFlagsSaid : Prop := evalFlagsRow.holds Try.pinned (OpenSpec.ofChange evalFlagsSpec)

/-- ITS FALSE NEIGHBOUR: 'it returns false'. Refute it at one input. -/
def evalFlagsWrong : ChangeSpec := { name := "evalFlags", fn := fun _ => fun
  | [d1, d2] => { results := [.lit (.bool false)], args := [d1, d2] }
  | _ => none }
def EvalFlagsWrongFalsely : Prop := evalFlagsRow.holds Try.pinned (OpenSpec.ofChange evalFlagsWrong)

/-- 'lathelaw10.EvalCommutes': WHATEVER THE INPUT: true; the input reads as it did. -/
def evalCommutesSpec : ChangeSpec := { name := "evalCommutes", fn := fun _ => fun
  | [d1, d2, d3] => { results := [.lit (.bool true)], args := [d1, d2, d3] }
  | _ => none }
def evalCommutesRow : OpenClaim := { program := "ytkbkgbkoplcgeaa", sum := "f283aca6417326492d39a1b296b5045f7fa481daf551b80ecb9a222c2b9ab118", func := "lathe/lathelaw10.EvalCommutes", spec := "evalCommutes", apart := false }
def EvalCommutesSaid : Prop := evalCommutesRow.holds Try.pinned (OpenSpec.ofChange evalCommutesSpec)

/-- ITS FALSE NEIGHBOUR: 'it returns false'. Refute it at one input. -/
def evalCommutesWrong : ChangeSpec := { name := "evalCommutes", fn := fun _ => fun
  | [d1, d2, d3] => { results := [.lit (.bool false)], args := [d1, d2, d3] }
  | _ => none }
def EvalCommutesWrongFalsely : Prop := evalCommutesRow.holds Try.pinned (OpenSpec.ofChange evalCommutesWrong)

/-- 'lathelaw10.EvalChains': WHATEVER THE INPUT: true; the input reads as it did. -/
def evalChainsSpec : ChangeSpec := { name := "evalChains", fn := fun _ => fun
  | [d1, d2, d3, d4, d5] => { results := [.lit (.bool true)], args := [d1, d2, d3, d4, d5] }
  | _ => none }
def evalChainsRow : OpenClaim := { program := "ytkbkgbkoplcgeaa", sum := "f283aca6417326492d39a1b296b5045f7fa481daf551b80ecb9a222c2b9ab118", func := "lathe/lathelaw10.EvalChains", spec := "evalChains", unfollowed := true, recurses := true, apart := false }
def EvalChainsSaid : Prop := evalChainsRow.holds Try.pinned (OpenSpec.ofChange evalChainsSpec)

/-- ITS FALSE NEIGHBOUR: 'it returns false'. Refute it at one input. -/
def evalChainsWrong : ChangeSpec := { name := "evalChains", fn := fun _ => fun
  | [d1, d2, d3, d4, d5] => { results := [.lit (.bool false)], args := [d1, d2, d3, d4, d5] }
  | _ => none }
def EvalChainsWrongFalsely : Prop := evalChainsRow.holds Try.pinned (OpenSpec.ofChange evalChainsWrong)

/- THE SECOND FORM. 'bulk': how many values and letters a reading holds, each counted each time it is reached (what is shared counts as often as it is met; a slice's spare places count too). A statement '..UptoSaid' is the law's where the arguments, and the package variables that the reading takes, are together of bulk at most 1048576: NARROWER than '..Said'. Prove '..Said' where nothing that the law and all that it calls make is longer than what came in: it says more and counts as full. Else prove '..UptoSaid'. A law counts once. -/
mutual
def uptoBulk {H : Type} : DataW H → Nat
  | .lit (.string bytes) => bytes.length + 1
  | .lit _ => 1
  | .nil => 1
  | .ptr d => uptoBulk d + 1
  | .slice elems spare => uptoBulkAll elems + uptoBulkAll spare + 1
  | .agg parts => uptoBulkAll parts + 1
  | .iface _ d => uptoBulk d + 1
  | .map entries => uptoBulkEntries entries + 1
  | .held _ => 1
def uptoBulkAll {H : Type} : List (DataW H) → Nat
  | [] => 0
  | d :: r => uptoBulk d + uptoBulkAll r
def uptoBulkEntries {H : Type} : List (Lit × DataW H) → Nat
  | [] => 0
  | x :: r => uptoBulkEntry x + uptoBulkEntries r
def uptoBulkEntry {H : Type} : Lit × DataW H → Nat
  | (.string bytes, d) => bytes.length + uptoBulk d + 1
  | (_, d) => uptoBulk d + 1
 end
def uptoSmall : (H : Type) → List (DataW H) → Bool := fun _ ds => decide (uptoBulkAll ds ≤ 1048576)
def OpenSpec.upto (s : _root_.Go.ChangeSpec) : _root_.Go.OpenSpec := { _root_.Go.OpenSpec.ofChange s with cond := some uptoSmall }

/-- 'lathelaw09.MemPacks', WHERE WHAT IT READS IS OF BULK AT MOST 1048576: true; the input reads as it did. -/
def memPacksUptoRow : OpenClaim := { program := "ytkbkgbkoplcgeaa", sum := "f283aca6417326492d39a1b296b5045f7fa481daf551b80ecb9a222c2b9ab118", func := "lathe/lathelaw09.MemPacks", spec := "memPacks", apart := false, narrowed := true }
def MemPacksUptoSaid : Prop := memPacksUptoRow.holds Try.pinned (OpenSpec.upto memPacksSpec)

/-- 'lathelaw09.MemBack', WHERE WHAT IT READS IS OF BULK AT MOST 1048576: true; the input reads as it did. -/
def memBackUptoRow : OpenClaim := { program := "ytkbkgbkoplcgeaa", sum := "f283aca6417326492d39a1b296b5045f7fa481daf551b80ecb9a222c2b9ab118", func := "lathe/lathelaw09.MemBack", spec := "memBack", apart := false, narrowed := true }
def MemBackUptoSaid : Prop := memBackUptoRow.holds Try.pinned (OpenSpec.upto memBackSpec)

/-- 'lathelaw09.MemPlays', WHERE WHAT IT READS IS OF BULK AT MOST 1048576: true; the input reads as it did. -/
def memPlaysUptoRow : OpenClaim := { program := "ytkbkgbkoplcgeaa", sum := "f283aca6417326492d39a1b296b5045f7fa481daf551b80ecb9a222c2b9ab118", func := "lathe/lathelaw09.MemPlays", spec := "memPlays", apart := false, narrowed := true }
def MemPlaysUptoSaid : Prop := memPlaysUptoRow.holds Try.pinned (OpenSpec.upto memPlaysSpec)

/-- 'lathelaw09.MemKeeps', WHERE WHAT IT READS IS OF BULK AT MOST 1048576: true; the input reads as it did. -/
def memKeepsUptoRow : OpenClaim := { program := "ytkbkgbkoplcgeaa", sum := "f283aca6417326492d39a1b296b5045f7fa481daf551b80ecb9a222c2b9ab118", func := "lathe/lathelaw09.MemKeeps", spec := "memKeeps", apart := false, narrowed := true }
def MemKeepsUptoSaid : Prop := memKeepsUptoRow.holds Try.pinned (OpenSpec.upto memKeepsSpec)

/-- 'lathelaw09.MemFrees', WHERE WHAT IT READS IS OF BULK AT MOST 1048576: true; the input reads as it did. -/
def memFreesUptoRow : OpenClaim := { program := "ytkbkgbkoplcgeaa", sum := "f283aca6417326492d39a1b296b5045f7fa481daf551b80ecb9a222c2b9ab118", func := "lathe/lathelaw09.MemFrees", spec := "memFrees", apart := false, narrowed := true }
def MemFreesUptoSaid : Prop := memFreesUptoRow.holds Try.pinned (OpenSpec.upto memFreesSpec)

/-- 'lathelaw09.MemApart', WHERE WHAT IT READS IS OF BULK AT MOST 1048576: true; the input reads as it did. -/
def memApartUptoRow : OpenClaim := { program := "ytkbkgbkoplcgeaa", sum := "f283aca6417326492d39a1b296b5045f7fa481daf551b80ecb9a222c2b9ab118", func := "lathe/lathelaw09.MemApart", spec := "memApart", unfollowed := true, recurses := true, apart := false, narrowed := true }
def MemApartUptoSaid : Prop := memApartUptoRow.holds Try.pinned (OpenSpec.upto memApartSpec)

/-- 'lathelaw10.EvalRefines', WHERE WHAT IT READS IS OF BULK AT MOST 1048576: true; the input reads as it did. -/
def evalRefinesUptoRow : OpenClaim := { program := "ytkbkgbkoplcgeaa", sum := "f283aca6417326492d39a1b296b5045f7fa481daf551b80ecb9a222c2b9ab118", func := "lathe/lathelaw10.EvalRefines", spec := "evalRefines", apart := false, narrowed := true }
def EvalRefinesUptoSaid : Prop := evalRefinesUptoRow.holds Try.pinned (OpenSpec.upto evalRefinesSpec)

/-- 'lathelaw10.EvalFreezes', WHERE WHAT IT READS IS OF BULK AT MOST 1048576: true; the input reads as it did. -/
def evalFreezesUptoRow : OpenClaim := { program := "ytkbkgbkoplcgeaa", sum := "f283aca6417326492d39a1b296b5045f7fa481daf551b80ecb9a222c2b9ab118", func := "lathe/lathelaw10.EvalFreezes", spec := "evalFreezes", apart := false, narrowed := true }
def EvalFreezesUptoSaid : Prop := evalFreezesUptoRow.holds Try.pinned (OpenSpec.upto evalFreezesSpec)

/-- 'lathelaw10.EvalFlags', WHERE WHAT IT READS IS OF BULK AT MOST 1048576: true; the input reads as it did. -/
def evalFlagsUptoRow : OpenClaim := { program := "ytkbkgbkoplcgeaa", sum := "f283aca6417326492d39a1b296b5045f7fa481daf551b80ecb9a222c2b9ab118", func := "lathe/lathelaw10.EvalFlags", spec := "evalFlags", apart := false, narrowed := true }
def EvalFlagsUptoSaid : Prop := evalFlagsUptoRow.holds Try.pinned (OpenSpec.upto evalFlagsSpec)

/-- 'lathelaw10.EvalCommutes', WHERE WHAT IT READS IS OF BULK AT MOST 1048576: true; the input reads as it did. -/
def evalCommutesUptoRow : OpenClaim := { program := "ytkbkgbkoplcgeaa", sum := "f283aca6417326492d39a1b296b5045f7fa481daf551b80ecb9a222c2b9ab118", func := "lathe/lathelaw10.EvalCommutes", spec := "evalCommutes", apart := false, narrowed := true }
def EvalCommutesUptoSaid : Prop := evalCommutesUptoRow.holds Try.pinned (OpenSpec.upto evalCommutesSpec)

/-- 'lathelaw10.EvalChains', WHERE WHAT IT READS IS OF BULK AT MOST 1048576: true; the input reads as it did. -/
def evalChainsUptoRow : OpenClaim := { program := "ytkbkgbkoplcgeaa", sum := "f283aca6417326492d39a1b296b5045f7fa481daf551b80ecb9a222c2b9ab118", func := "lathe/lathelaw10.EvalChains", spec := "evalChains", unfollowed := true, recurses := true, apart := false, narrowed := true }
def EvalChainsUptoSaid : Prop := evalChainsUptoRow.holds Try.pinned (OpenSpec.upto evalChainsSpec)

end Rows
end Go.Proofs.Ytkbkgbkoplcgeaa
