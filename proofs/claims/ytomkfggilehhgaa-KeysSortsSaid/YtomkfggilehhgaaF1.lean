/- The frame of this seat's laws: closed facts of the program; an argument that is an entry, opened. -/
import Derived.Test.YtomkfggilehhgaaT6
import Derived.ChangeMaps5
import Derived.Lib.SmallJoins
import Derived.Deep.Fields
namespace Go.Proofs.Ytomkfggilehhgaa
open Go.RowKit Go.ChangeShapes Go.WideShapes Go.ChangeAt Go.Joins Go.Deep

theorem own : ownKnob Try.prog.godebug = none := by kernel_rfl
theorem laidOut : laidOutB Try.prog = true := by kernel_rfl
theorem cells5 : Try.prog.cellsOf 5 = 1 := by kernel_rfl
theorem cells23 : Try.prog.cellsOf 23 = 2 := by kernel_rfl
theorem i64_of {n : Int} (h : (Lit.int IntKind.i64 n).wf = true) : I64 n := by have := bounds_i64 h; exact ⟨by omega, by omega⟩
theorem open_ent {H : Type} {enc : TypeId × Value → H} {P : Program} {W : World} {t : TypeId} {v : Value} {d : DataW H} {p : List MemPlace} {r : Reach} {b0 : Nat} {f0 f1 : Field}
    (ht : P.underlying t = some (.struct #[f0, f1])) (hone : oneCellFields P #[f0, f1] = true) (hC : P.cellsOf t = 2)
    (t0 : P.underlying f0.type = some (.int .i64)) (t1 : P.underlying f1.type = some .string)
    (hval : Value.okWide P W r b0 t v) (h : DataW.Trod enc P W 0 (fun _ => true) true t v d p) : ∃ (n : Int) (xs : List Nat), v = ent n xs ∧ I64 n ∧ Byt xs := by
  obtain ⟨v0, v1, y0, y1, n, rfl, _, _, h0, h1⟩ := open_agg2 ht hone hC hval h
  obtain ⟨z0, e0, _, w0⟩ := DataW.trod_int t0 h0
  obtain ⟨s1, e1, _, _⟩ := DataW.trod_string t1 h1
  simp at e0 e1
  subst e0; subst e1
  exact ⟨z0, nums s1, by unfold ent; rw [str_nums], i64_of w0, nums_byt s1⟩
theorem str_of (s : ByteArray) : ∃ xs, s = str xs ∧ Byt xs := ⟨nums s, (str_nums s).symm, nums_byt s⟩
end Go.Proofs.Ytomkfggilehhgaa
