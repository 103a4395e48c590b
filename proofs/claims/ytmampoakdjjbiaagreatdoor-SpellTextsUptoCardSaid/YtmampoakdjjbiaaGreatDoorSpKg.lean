/- The parts of a line behind the operation's word: the program's form, operation by operation. -/
import Derived.Test.YtmampoakdjjbiaaGreatDoorSpKf
namespace Go.Proofs.YtmampoakdjjbiaaGreatDoor
open Go.RowKit Go.Maps
set_option linter.unusedVariables false
set_option linter.unusedSimpArgs false

/-- A box of the call's own, and a list of its own. -/
def FS (W : World) (mv : List Value) (v : Value) (A : List ByteArray) (w : World) : Prop := OneS W mv w ∧ OS w W.heap.size v A
theorem FS.later {W w w' : World} {mv : List Value} {v : Value} {A : List ByteArray} (h : FS W mv v A w) (hb : Below w.heap.size w w') : FS W mv v A w' := ⟨h.1.later hb, h.2.later hb⟩
theorem cell_alloc_lt {w : World} {o : Obj} {b i : Nat} (h : b < w.heap.size) : (w.alloc o).cell? ⟨b, i, none⟩ = w.cell? ⟨b, i, none⟩ := World.cell?_of_block (a := ⟨b, i, none⟩) (RowKit.Below.heap_alloc w o b h)
theorem FS.drew {W w : World} {mv : List Value} {v : Value} {A : List ByteArray} (h : FS W mv v A w) : FS W mv v A w.drew := h.later (below_drew (Below.refl _ _))
end Go.Proofs.YtmampoakdjjbiaaGreatDoor
