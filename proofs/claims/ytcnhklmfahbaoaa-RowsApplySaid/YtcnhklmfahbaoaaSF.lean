/- The frame of this seat's laws: closed facts of the program; arguments that are rows, or two rows and whether they are there, opened. -/
import Derived.Test.YtcnhklmfahbaoaaS13
import Derived.ChangeMaps5
import Derived.Lib.SmallJoins
import Derived.Deep.Fields
import Derived.Deep.Slices
namespace Go.Proofs.Ytcnhklmfahbaoaa
open Go.RowKit Go.ChangeShapes Go.WideShapes Go.ChangeAt Go.Joins Go.Deep

set_option maxRecDepth 100000
theorem own : ownKnob Try.prog.godebug = none := by kernel_rfl
theorem laidOut : laidOutB Try.prog = true := by kernel_rfl
theorem cells5 : Try.prog.cellsOf 5 = 1 := by kernel_rfl
theorem i64_of {n : Int} (h : (Lit.int IntKind.i64 n).wf = true) : I64 n := by have := bounds_i64 h; exact ⟨by omega, by omega⟩
theorem str_of (s : ByteArray) : ∃ xs, s = str xs ∧ Byt xs := ⟨nums s, (str_nums s).symm, nums_byt s⟩
theorem array_four {α : Type} {cs : List α} (h : cs.length = 4) : ∃ a b c d, cs = [a, b, c, d] := by
  match cs, h with
  | [a, b, c, d], _ => exact ⟨a, b, c, d, rfl⟩
section
variable {H : Type} {enc : TypeId × Value → H} {W : World} {v : Value} {d : DataW H} {p : List MemPlace} {r : Reach} {b0 : Nat}
theorem trod_row {n : Nat} {cs : List Value} {y : DataW H × List MemPlace} (h : DataW.trod enc Try.prog W 0 (fun _ => true) true n 23 cs = some y) : ∃ r : Ro, cs = (rowc r).toList ∧ r.ok := by
  obtain ⟨xs, m, _, _, hlen, hl, hel⟩ := DataW.trod_array Try.underlying23 h
  obtain ⟨c0, c1, c2, c3, rfl⟩ := array_four (hlen.trans (by kernel_rfl))
  have h0 := hel 0 (by omega)
  have h1 := hel 1 (by omega)
  have h2 := hel 2 (by omega)
  have h3 := hel 3 (by omega)
  rw [show Try.prog.cellsOf 3 = 1 by kernel_rfl] at h0 h1 h2 h3
  rw [List.getElem?_eq_getElem (by omega)] at h0 h1 h2 h3
  obtain ⟨z0, e0, _, w0⟩ := DataW.trod_int Try.underlying3 h0
  obtain ⟨z1, e1, _, w1⟩ := DataW.trod_int Try.underlying3 h1
  obtain ⟨z2, e2, _, w2⟩ := DataW.trod_int Try.underlying3 h2
  obtain ⟨z3, e3, _, w3⟩ := DataW.trod_int Try.underlying3 h3
  simp at e0 e1 e2 e3
  subst e0; subst e1; subst e2; subst e3
  refine ⟨⟨z0, z1, z2, z3⟩, rfl, ?_⟩
  intro x hx
  simp [Ro.l] at hx
  rcases hx with rfl | rfl | rfl | rfl
  · exact i64_of w0
  · exact i64_of w1
  · exact i64_of w2
  · exact i64_of w3
theorem open_row (hval : Value.okWide Try.prog W r b0 23 v) (h : DataW.Trod enc Try.prog W 0 (fun _ => true) true 23 v d p) : ∃ r : Ro, v = rowv r ∧ r.ok := by
  simp only [Value.okWide, Try.underlying23] at hval
  obtain ⟨cs, rfl, hsz, _⟩ := hval
  obtain ⟨fuel, hf⟩ := h
  obtain ⟨r, hr, ho⟩ := trod_row hf
  refine ⟨r, ?_, ho⟩
  unfold rowv
  have : cs.toList = (rowc r).toList := by simpa [Value.cells] using hr
  rw [Array.toList_inj.1 this]
theorem open_turn (hval : Value.okWide Try.prog W r b0 36 v) (h : DataW.Trod enc Try.prog W 0 (fun _ => true) true 36 v d p) :
    ∃ (r : Ro) (had : Bool) (s : Ro) (has : Bool), v = turnv r had s has := by
  obtain ⟨cs, rfl, hsz⟩ := okWide_struct Try.underlying36 hval
  obtain ⟨fuel, hf⟩ := h
  obtain ⟨xs, n, _, _, hl, hxl, hfs⟩ := DataW.trod_struct Try.underlying36 hf
  have h0 := hfs 0 _ rfl
  have h1 := hfs 1 _ rfl
  have h2 := hfs 2 _ rfl
  have h3 := hfs 3 _ rfl
  have hcs : cs.size = 10 := hsz.trans (by kernel_rfl)
  change DataW.trod enc Try.prog W 0 (fun _ => true) true n 23 ((cs.toList.drop 0).take (Try.prog.cellsOf 23)) = xs[0]? at h0
  change DataW.trod enc Try.prog W 0 (fun _ => true) true n 4 ((cs.toList.drop 4).take (Try.prog.cellsOf 4)) = xs[1]? at h1
  change DataW.trod enc Try.prog W 0 (fun _ => true) true n 23 ((cs.toList.drop 5).take (Try.prog.cellsOf 23)) = xs[2]? at h2
  change DataW.trod enc Try.prog W 0 (fun _ => true) true n 4 ((cs.toList.drop 9).take (Try.prog.cellsOf 4)) = xs[3]? at h3
  rw [show Try.prog.cellsOf 23 = 4 by kernel_rfl] at h0 h2
  rw [show Try.prog.cellsOf 4 = 1 by kernel_rfl] at h1 h3
  have hx4 : xs.length = 4 := hxl
  rw [List.getElem?_eq_getElem (by omega)] at h0 h1 h2 h3
  obtain ⟨r, e0, _⟩ := trod_row h0
  obtain ⟨had, e1, _⟩ := DataW.trod_bool Try.underlying4 h1
  obtain ⟨s, e2, _⟩ := trod_row h2
  obtain ⟨has, e3, _⟩ := DataW.trod_bool Try.underlying4 h3
  have hl10 : cs.toList.length = 10 := by rw [Array.length_toList]; exact hcs
  have hall : cs.toList = (rowc r).toList ++ [.bool had] ++ (rowc s).toList ++ [.bool has] := by
    rw [← e0, ← e1, ← e2, ← e3]
    have q1 : cs.toList = cs.toList.take 4 ++ cs.toList.drop 4 := (List.take_append_drop 4 _).symm
    have q2 : cs.toList.drop 4 = (cs.toList.drop 4).take 1 ++ cs.toList.drop 5 := by
      have := (List.take_append_drop 1 (cs.toList.drop 4)).symm
      rwa [List.drop_drop] at this
    have q3 : cs.toList.drop 5 = (cs.toList.drop 5).take 4 ++ cs.toList.drop 9 := by
      have := (List.take_append_drop 4 (cs.toList.drop 5)).symm
      rwa [List.drop_drop] at this
    have q4 : cs.toList.drop 9 = (cs.toList.drop 9).take 1 := by rw [List.take_of_length_le (by rw [List.length_drop]; omega)]
    rw [List.drop_zero, List.append_assoc, List.append_assoc, ← q4, ← q3, ← q2, ← q1]
  refine ⟨r, had, s, has, ?_⟩
  unfold turnv
  congr 1
  exact Array.toList_inj.1 hall
end
end Go.Proofs.Ytcnhklmfahbaoaa
