/- Arguments opened: calls of the table ahead, and of the buffer. -/
import Derived.Test.YtlnagdodnkhbmaaGreatTF
namespace Go.Proofs.YtlnagdodnkhbmaaGreat
open Go.RowKit Go.ChangeShapes Go.WideShapes Go.ChangeAt Go.Joins Go.Deep

set_option maxRecDepth 100000
theorem str_of (s : ByteArray) : ∃ xs, s = str xs ∧ Byt xs := ⟨nums s, (str_nums s).symm, nums_byt s⟩
section
variable {H : Type} {enc : TypeId × Value → H} {W : World} {v : Value} {d : DataW H} {p : List MemPlace} {r : Reach} {b0 : Nat}
theorem trod_ops {n : Nat} {c0 : Value} {y : DataW H × List MemPlace} (h : DataW.trod enc Tryz.prog W 0 (fun _ => true) true n 22 [c0] = some y) : ∃ l : List Op7, Elems 6 cOp W c0 l ∧ OpsOk l := by
  rcases open_slice Tryz.underlying22 h with ⟨hcs, _⟩ | ⟨a, len, cap, m, k, D, Pl, hcs, _, hl, hm, hmm, _, hi⟩
  · obtain rfl : c0 = .slice none 0 0 := by simpa using hcs
    exact ⟨[], Elems.nil _ cOp W, ⟨by simp⟩⟩
  · obtain rfl : c0 = .slice (some a) len cap := by simpa using hcs
    simp only [if_pos] at hmm
    obtain ⟨l, h1, h2⟩ := rows_of (c := cOp) (G := fun o : Op7 => o.Ok) cOp_len (by decide) (W := W) (a := a) (n := len) (cp := cap) (m := m) (by rw [hmm]; exact hl) hl hm fun i him => by
      obtain ⟨cs', hcell, htr⟩ := hi i him
      rw [show Tryz.prog.cellsOf 43 = 6 by kernel_rfl] at hcell
      obtain ⟨_, _, hat⟩ := World.cells?_some hcell
      obtain ⟨o, rfl, hk⟩ := trod_op htr
      refine ⟨o, fun j u hj => ?_, hk⟩
      have hjl : j < 6 := (List.getElem?_eq_some_iff.1 hj).1
      have h2 := hat j hjl
      rw [← add_add', h2]
      exact hj
    exact ⟨l, h1, ⟨h2⟩⟩
theorem open_ops8 (hval : Value.okWide Tryz.prog W r b0 24 v) (h : DataW.Trod enc Tryz.prog W 0 (fun _ => true) true 24 v d p) : ∃ (v1 v2 : Value) (l1 l2 : List Op7), v = .agg #[v1, v2] ∧ Elems 6 cOp W v1 l1 ∧ Elems 6 cOp W v2 l2 ∧ OpsOk l1 ∧ OpsOk l2 := by
  obtain ⟨cs, rfl, hsz⟩ := okWide_struct Tryz.underlying24 hval
  obtain ⟨fuel, hf⟩ := h
  obtain ⟨xs, m, _, _, hlen, hl, hfs⟩ := DataW.trod_struct Tryz.underlying24 hf
  rw [show Tryz.prog.cellsOf 24 = 2 by kernel_rfl] at hlen
  have hcs : (Value.agg cs).cells.toList = cs.toList := by simp [Value.cells]
  rw [hcs] at hlen hfs
  obtain ⟨c0, c1, e⟩ : ∃ c0 c1, cs.toList = [c0, c1] := by
    match hc : cs.toList, hlen with
    | [a, b], _ => exact ⟨a, b, rfl⟩
  rw [e] at hfs
  have g0 : DataW.trod enc Tryz.prog W 0 (fun _ => true) true m 22 (([c0, c1].drop 0).take (Tryz.prog.cellsOf 22)) = xs[0]? := hfs 0 _ rfl
  have g1 : DataW.trod enc Tryz.prog W 0 (fun _ => true) true m 22 (([c0, c1].drop 1).take (Tryz.prog.cellsOf 22)) = xs[1]? := hfs 1 _ rfl
  rw [show Tryz.prog.cellsOf 22 = 1 by kernel_rfl] at g0 g1
  have hx : xs.length = 2 := by simpa using hl
  rw [List.getElem?_eq_getElem (by omega)] at g0 g1
  simp only [List.drop_zero, List.take_succ_cons, List.take_zero, List.drop_succ_cons] at g0 g1
  obtain ⟨l1, h1, k1⟩ := trod_ops g0
  obtain ⟨l2, h2, k2⟩ := trod_ops g1
  refine ⟨c0, c1, l1, l2, ?_, h1, h2, k1, k2⟩
  congr 1
  rw [← Array.toList_inj, e]
end
end Go.Proofs.YtlnagdodnkhbmaaGreat
