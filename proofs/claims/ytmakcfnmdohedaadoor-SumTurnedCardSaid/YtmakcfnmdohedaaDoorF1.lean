/- The frame of this seat's laws: closed facts of the program, the table, a world for the witness. -/
import Derived.Test.YtmakcfnmdohedaaDoorT8
import Derived.Test.YtmakcfnmdohedaaDoorCards
import Derived.Test.YtmakcfnmdohedaaDoorTie
namespace Go.Proofs.YtmakcfnmdohedaaDoor
open Go.RowKit Go.ChangeShapes Go.WideShapes Go.ChangeAt

theorem own : ownKnob Tryd.prog.godebug = none := by kernel_rfl
theorem gTab : Tryd.prog.globalNamed "breviary/sum.turned" = some 0 := by kernel_rfl
theorem gTabType : (Tryd.prog.globals[0]?).map (·.type) = some 44 := by kernel_rfl
theorem cells44 : Tryd.prog.cellsOf 44 = 16 := by kernel_rfl
theorem cells40 : Tryd.prog.cellsOf 40 = 1 := by kernel_rfl
theorem cells5 : Tryd.prog.cellsOf 5 = 1 := by kernel_rfl
theorem laidOut : laidOutB Tryd.prog = true := by kernel_rfl

def tabInts : List Int := [0, 498536548, 997073096, 651767980, 1994146192, 1802195444, 1303535960, 1342533948, 3988292384, 4027552580, 3604390888, 3412177804, 2607071920, 2262029012, 2685067896, 3183342108]
/-- What the row's list gives. -/
theorem tab_of {W : World} (h : laidMetH Tryd.prog Rows.sumTellsRow.laid W) : Tab W := by
  have ht : Lib.TabIs Tryd.prog W "breviary/sum.turned" .u32 tabInts := Lib.tabIs_of_head (rest := []) gTab gTabType Tryd.underlying44 Tryd.underlying40 cells40 cells44 h
  intro i hi
  rw [ht.cell gTab i hi]
  have : ∀ i, i < 16 → tabInts.getD i 0 = ((Crc.tab.getD i 0 : Nat) : Int) := by decide
  rw [this i hi]

/-- A world for the witness: the settled one, the table holding what its initialiser lays. -/
noncomputable def laidWorld (os : Os) : World :=
  { World.holding Tryd.prog os ⟨#[], #[], []⟩ with heap := (World.holding Tryd.prog os ⟨#[], #[], []⟩).heap.modify 0 fun
      | .cells _ t frozen => .cells (tabInts.map (Value.int .u32)).toArray t frozen
      | o => o }
theorem laid_met (os : Os) (args : Array Value) : laidMet Tryd.prog Rows.sumTellsRow.laid ((laidWorld os).forCall (fun _ _ => 0) ⟨#[], args, []⟩).memory :=
  laidMet_of_run' 18 (by kernel_rfl) (by kernel_rfl)
end Go.Proofs.YtmakcfnmdohedaaDoor
