/- Arguments opened: a slice of what is asked for; an array of two calls. -/
import Derived.Test.YtlnagdodnkhbmaaTF
namespace Go.Proofs.Ytlnagdodnkhbmaa
open Go.RowKit Go.ChangeShapes Go.WideShapes Go.ChangeAt Go.Joins Go.Deep

set_option maxRecDepth 100000
section
variable {H : Type} {enc : TypeId × Value → H} {W : World} {v : Value} {d : DataW H} {p : List MemPlace} {r : Reach} {b0 : Nat}
structure AsksOk (l : List Ask7) : Prop where
  ok : ∀ a ∈ l, a.Ok
theorem open_asks (hval : Value.okWide Try.prog W r b0 23 v) (h : DataW.Trod enc Try.prog W 0 (fun _ => true) true 23 v d p) : ∃ l : List Ask7, Elems 4 cAsk W v l ∧ AsksOk l := by
  obtain ⟨A, n, cp, rfl⟩ := okWide_slice Try.underlying23 hval
  obtain ⟨fuel, hf⟩ := h
  rcases open_slice Try.underlying23 hf with ⟨hcs, _⟩ | ⟨a, len, cap, m, k, D, Pl, hcs, _, hl, hm, hmm, _, hi⟩
  · simp [Value.cells] at hcs
    obtain ⟨rfl, rfl, rfl⟩ := hcs
    exact ⟨[], Elems.nil _ cAsk W, ⟨by simp⟩⟩
  · simp [Value.cells] at hcs
    obtain ⟨rfl, rfl, rfl⟩ := hcs
    simp only [if_pos] at hmm
    obtain ⟨l, h1, h2⟩ := rows_of (c := cAsk) (G := fun o : Ask7 => o.Ok) cAsk_len (by decide) (W := W) (a := a) (n := n) (cp := cp) (m := m) (by rw [hmm]; exact hl) hl hm fun i him => by
      obtain ⟨cs', hcell, htr⟩ := hi i him
      rw [show Try.prog.cellsOf 38 = 4 by kernel_rfl] at hcell
      obtain ⟨_, _, hat⟩ := World.cells?_some hcell
      obtain ⟨o, rfl, hk⟩ := trod_ask htr
      refine ⟨o, fun j u hj => ?_, hk⟩
      have hjl : j < 4 := (List.getElem?_eq_some_iff.1 hj).1
      have h2 := hat j hjl
      rw [← add_add', h2]
      exact hj
    exact ⟨l, h1, ⟨h2⟩⟩
end
end Go.Proofs.Ytlnagdodnkhbmaa
