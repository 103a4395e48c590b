/- Boxes of a call's own (see EvB0). -/
import Derived.Test.YtpjfkmaceaikbaaMg7
namespace Go.Proofs.Ytpjfkmaceaikbaa
open Go.RowKit Go.Maps
set_option linter.unusedVariables false
set_option linter.unusedSimpArgs false

theorem below4 (W : World) (o o1 o2 o3 : Obj) : Below W.heap.size W ((((W.alloc o).alloc o1).alloc o2).alloc o3) := (below3 W o o1 o2).alloc (below3 W o o1 o2).size _
end Go.Proofs.Ytpjfkmaceaikbaa
