/- An argument that is an array of two calls, opened. -/
import Derived.Test.YtlnagdodnkhbmaaTG
import Derived.Test.YtlnagdodnkhbmaaT36
namespace Go.Proofs.Ytlnagdodnkhbmaa
open Go.RowKit Go.ChangeShapes Go.WideShapes Go.ChangeAt Go.Joins Go.Deep

set_option maxRecDepth 100000
section
variable {H : Type} {enc : TypeId × Value → H} {W : World} {v : Value} {d : DataW H} {p : List MemPlace} {r : Reach} {b0 : Nat}
theorem open_ops2 (hval : Value.okWide Try.prog W r b0 59 v) (h : DataW.Trod enc Try.prog W 0 (fun _ => true) true 59 v d p) : ∃ a b : Op7, v = opV2 a b ∧ a.Ok ∧ b.Ok := by
  simp only [Value.okWide, Try.underlying59] at hval
  obtain ⟨cs, rfl, hsz, _⟩ := hval
  obtain ⟨fuel, hf⟩ := h
  obtain ⟨xs, m, _, _, _, hl, hel⟩ := DataW.trod_array Try.underlying59 hf
  have h0 := hel 0 (by omega)
  have h1 := hel 1 (by omega)
  rw [show Try.prog.cellsOf 35 = 6 by kernel_rfl] at h0 h1
  rw [List.getElem?_eq_getElem (by omega)] at h0 h1
  obtain ⟨a, ha, oa⟩ := trod_op h0
  obtain ⟨b, hb, ob⟩ := trod_op h1
  refine ⟨a, b, ?_, oa, ob⟩
  have hc : cs.toList.length = 12 := by rw [Array.length_toList, hsz]; kernel_rfl
  have hx : cs.toList = cOp a ++ cOp b := by
    simp [Value.cells] at ha hb
    rw [← ha, ← hb]
    have h6 : (cs.toList.drop 6).take 6 = cs.toList.drop 6 := List.take_of_length_le (by rw [List.length_drop]; omega)
    first
      | rw [h6, List.take_append_drop]
      | (rw [← List.take_append_drop 6 cs.toList]; simp [h6])
  unfold opV2
  congr 1
  rw [← Array.toList_inj, hx]
  rfl
end
end Go.Proofs.Ytlnagdodnkhbmaa
