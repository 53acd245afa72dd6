/- The frame of this seat's laws: closed facts of the program. -/
import Derived.Test.YtjhgebfabjbbjaaT14
import Derived.ChangeMaps5
namespace Go.Proofs.Ytjhgebfabjbbjaa
open Go.RowKit Go.ChangeShapes Go.WideShapes Go.ChangeAt

theorem own : ownKnob Try.prog.godebug = none := by kernel_rfl
theorem laidOut : laidOutB Try.prog = true := by kernel_rfl
theorem cells5 : Try.prog.cellsOf 5 = 1 := by kernel_rfl
end Go.Proofs.Ytjhgebfabjbbjaa
