/- An argument that is a slice of things that are written: opened. -/
import Derived.Test.YtjhgebfabjbbjaaF1
import Derived.Test.YtjhgebfabjbbjaaT22
import Derived.Deep.Slices
import Derived.Deep.Fields
namespace Go.Proofs.Ytjhgebfabjbbjaa
open Go.RowKit Go.ChangeShapes Go.WideShapes Go.Deep

theorem open_ops {H : Type} {enc : TypeId × Value → H} {P : Program} {W : World} {t e : TypeId} {v : Value} {d : DataW H} {p : List MemPlace} {r : Reach} {b0 : Nat} {f0 f1 f2 : Field}
    (ht : P.underlying t = some (.slice e)) (he : P.underlying e = some (.struct #[f0, f1, f2])) (hone : oneCellFields P #[f0, f1, f2] = true) (hC : P.cellsOf e = 3)
    (t0 : P.underlying f0.type = some (.int .i64)) (t1 : P.underlying f1.type = some (.int .i64)) (t2 : P.underlying f2.type = some .string)
    (hval : Value.okWide P W r b0 t v) (h : DataW.Trod enc P W 0 (fun _ => true) true t v d p) : ∃ l : List O, Ops W v l ∧ ∀ o ∈ l, Fit o := by
  obtain ⟨A, n, c, rfl⟩ := okWide_slice ht hval
  obtain ⟨fuel, hf⟩ := h
  rcases open_slice ht hf with ⟨hcs, _⟩ | ⟨a, len, cap, m, k, D, Pl, hcs, _, hl, hm, hmm, _, hi⟩
  · simp [Value.cells] at hcs
    obtain ⟨rfl, rfl, rfl⟩ := hcs
    exact ⟨[], ⟨none, 0, rfl, Nat.le_refl _, Nat.zero_le _, by simp⟩, by simp⟩
  · simp [Value.cells] at hcs
    obtain ⟨rfl, rfl, rfl⟩ := hcs
    simp only [if_pos] at hmm
    have key : ∀ i, i < m → ∃ o : O, OpAt W (a.add (i * 3)) o ∧ Fit o := by
      intro i him
      obtain ⟨cs', hc, htr⟩ := hi i him
      rw [hC] at hc
      obtain ⟨ys, n', _, _, hlen, hyl, hg⟩ := DataW.trod_struct he htr
      have hys : ys.length = 3 := by simpa using hyl
      rw [hC] at hlen
      obtain ⟨_, _, hat⟩ := World.cells?_some hc
      obtain ⟨o0, k0⟩ := hone_of hone 0 f0 rfl
      obtain ⟨o1, k1⟩ := hone_of hone 1 f1 rfl
      obtain ⟨o2, k2⟩ := hone_of hone 2 f2 rfl
      match cs', hlen with
      | [c0, c1, c2], _ =>
        have g0 := hg 0 f0 rfl
        have g1 := hg 1 f1 rfl
        have g2 := hg 2 f2 rfl
        rw [o0, k0] at g0
        rw [o1, k1] at g1
        rw [o2, k2] at g2
        have q0 : ∃ y, ys[0]? = some y := ⟨ys[0]'(by omega), List.getElem?_eq_getElem _⟩
        have q1 : ∃ y, ys[1]? = some y := ⟨ys[1]'(by omega), List.getElem?_eq_getElem _⟩
        have q2 : ∃ y, ys[2]? = some y := ⟨ys[2]'(by omega), List.getElem?_eq_getElem _⟩
        obtain ⟨y0, e0⟩ := q0
        obtain ⟨y1, e1⟩ := q1
        obtain ⟨y2, e2⟩ := q2
        rw [e0] at g0
        rw [e1] at g1
        rw [e2] at g2
        obtain ⟨z0, h0, _, _⟩ := DataW.trod_int t0 g0
        obtain ⟨z1, h1, _, w1⟩ := DataW.trod_int t1 g1
        obtain ⟨s2, h2, _, _⟩ := DataW.trod_string t2 g2
        simp at h0 h1 h2
        subst h0; subst h1; subst h2
        have a0 := hat 0 (by omega)
        have a1 := hat 1 (by omega)
        have a2 := hat 2 (by omega)
        rw [add_zero'] at a0
        rw [show (a.add (i * 3)).add 1 = { block := (a.add (i * 3)).block, off := (a.add (i * 3)).off + 1, spot := none } from Addr.add_succ' _ 0] at a1
        rw [show (a.add (i * 3)).add 2 = { block := (a.add (i * 3)).block, off := (a.add (i * 3)).off + 2, spot := none } from Addr.add_succ' _ 1] at a2
        have wb := bounds_i64 w1
        exact ⟨⟨z0, z1, s2⟩, ⟨a0, a1, a2⟩, by constructor <;> (simp only; omega)⟩
    have hlm : n ≤ m := by rw [hmm]; exact hl
    have hch : ∃ f : Nat → O, ∀ i, i < m → OpAt W (a.add (i * 3)) (f i) ∧ Fit (f i) := by
      refine ⟨fun i => if hi : i < m then (key i hi).choose else ⟨0, 0, ⟨#[]⟩⟩, fun i hi => ?_⟩
      simp only [dif_pos hi]
      exact (key i hi).choose_spec
    obtain ⟨f, hfm⟩ := hch
    refine ⟨(List.range n).map f, ⟨some a, c, by simp, by simp; exact hl, hm, fun i o ho => ⟨a, rfl, ?_⟩⟩, fun o ho => ?_⟩
    · rw [List.getElem?_map] at ho
      cases hr : (List.range n)[i]? with
      | none => rw [hr] at ho; cases ho
      | some j =>
        rw [hr] at ho
        have hil : i < n := by have := (List.getElem?_eq_some_iff.1 hr).1; simpa using this
        have hj : j = i := by rw [List.getElem?_range hil] at hr; injection hr with hr; exact hr.symm
        subst hj
        injection ho with ho
        rw [← ho]
        exact (hfm j (by omega)).1
    · rw [List.mem_map] at ho
      obtain ⟨j, hj, rfl⟩ := ho
      rw [List.mem_range] at hj
      exact (hfm j (by omega)).2
theorem cells30 : Try.prog.cellsOf 30 = 3 := by kernel_rfl
end Go.Proofs.Ytjhgebfabjbbjaa
