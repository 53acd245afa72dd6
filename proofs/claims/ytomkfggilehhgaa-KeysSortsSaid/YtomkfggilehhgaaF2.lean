/- An argument that is a slice of entries: opened. -/
import Derived.Test.YtomkfggilehhgaaF1
import Derived.Test.YtomkfggilehhgaaT16
import Derived.Deep.Slices
import Derived.Deep.Fields
namespace Go.Proofs.Ytomkfggilehhgaa
open Go.RowKit Go.ChangeShapes Go.WideShapes Go.Deep

theorem open_ents {H : Type} {enc : TypeId × Value → H} {P : Program} {W : World} {t e : TypeId} {v : Value} {d : DataW H} {p : List MemPlace} {r : Reach} {b0 : Nat} {f0 f1 : Field}
    (ht : P.underlying t = some (.slice e)) (he : P.underlying e = some (.struct #[f0, f1])) (hone : oneCellFields P #[f0, f1] = true) (hC : P.cellsOf e = 2)
    (t0 : P.underlying f0.type = some (.int .i64)) (t1 : P.underlying f1.type = some .string)
    (hval : Value.okWide P W r b0 t v) (h : DataW.Trod enc P W 0 (fun _ => true) true t v d p) : ∃ l : List En, Row 2 W v l.length (cellsE l) ∧ Goods l := by
  obtain ⟨A, n, c, rfl⟩ := okWide_slice ht hval
  obtain ⟨fuel, hf⟩ := h
  rcases open_slice ht hf with ⟨hcs, _⟩ | ⟨a, len, cap, m, k, D, Pl, hcs, _, hl, hm, hmm, _, hi⟩
  · simp [Value.cells] at hcs
    obtain ⟨rfl, rfl, rfl⟩ := hcs
    exact ⟨[], Row.nil 2 W, ⟨by simp, by simp⟩⟩
  · simp [Value.cells] at hcs
    obtain ⟨rfl, rfl, rfl⟩ := hcs
    simp only [if_pos] at hmm
    have keyf : ∀ i, i < m → ∃ o : En, (W.cell? (a.add (i * 2)) = some (.int .i64 o.1) ∧ W.cell? (a.add (i * 2 + 1)) = some (.string (str o.2))) ∧ I64 o.1 ∧ Byt o.2 := by
      intro i him
      obtain ⟨cs', hc, htr⟩ := hi i him
      rw [hC] at hc
      obtain ⟨ys, n', _, _, hlen, hyl, hg⟩ := DataW.trod_struct he htr
      have hys : ys.length = 2 := by simpa using hyl
      rw [hC] at hlen
      obtain ⟨_, _, hat⟩ := World.cells?_some hc
      obtain ⟨o0, k0⟩ := hone_of hone 0 f0 rfl
      obtain ⟨o1, k1⟩ := hone_of hone 1 f1 rfl
      match cs', hlen with
      | [c0, c1], _ =>
        have g0 := hg 0 f0 rfl
        have g1 := hg 1 f1 rfl
        rw [o0, k0] at g0
        rw [o1, k1] at g1
        have q0 : ∃ y, ys[0]? = some y := ⟨ys[0]'(by omega), List.getElem?_eq_getElem _⟩
        have q1 : ∃ y, ys[1]? = some y := ⟨ys[1]'(by omega), List.getElem?_eq_getElem _⟩
        obtain ⟨y0, e0⟩ := q0
        obtain ⟨y1, e1⟩ := q1
        rw [e0] at g0
        rw [e1] at g1
        obtain ⟨z0, h0, _, w0⟩ := DataW.trod_int t0 g0
        obtain ⟨s1, h1, _, _⟩ := DataW.trod_string t1 g1
        simp at h0 h1
        subst h0; subst h1
        have a0 := hat 0 (by omega)
        have a1 := hat 1 (by omega)
        rw [add_zero'] at a0
        rw [add_add'] at a1
        exact ⟨(z0, nums s1), ⟨a0, by rw [str_nums]; exact a1⟩, i64_of w0, nums_byt s1⟩
    have hlm : n ≤ m := by rw [hmm]; exact hl
    have hch : ∃ f : Nat → En, ∀ i, i < m → (W.cell? (a.add (i * 2)) = some (.int .i64 (f i).1) ∧ W.cell? (a.add (i * 2 + 1)) = some (.string (str (f i).2))) ∧ I64 (f i).1 ∧ Byt (f i).2 := by
      refine ⟨fun i => if hi : i < m then (keyf i hi).choose else (0, []), fun i hi => ?_⟩
      simp only [dif_pos hi]
      exact (keyf i hi).choose_spec
    obtain ⟨f, hfm⟩ := hch
    have hlen : ((List.range n).map f).length = n := by simp
    have hget : ∀ i o, ((List.range n).map f)[i]? = some o → i < n ∧ o = f i := fun i o ho => by
      rw [List.getElem?_map] at ho
      cases hr : (List.range n)[i]? with
      | none => rw [hr] at ho; cases ho
      | some j =>
        rw [hr] at ho
        have hil : i < n := by have := (List.getElem?_eq_some_iff.1 hr).1; simpa using this
        rw [List.getElem?_range hil] at hr
        injection hr with hr
        subst hr
        injection ho with ho
        exact ⟨hil, ho.symm⟩
    have hcell : ∀ (j : Nat) (u : Value), (cellsE ((List.range n).map f))[j]? = some u → W.cell? (a.add j) = some u := fun j u hj => by
      have hjl := (List.getElem?_eq_some_iff.1 hj).1
      rw [cellsE_len, hlen] at hjl
      have hi2 : j / 2 < n := by omega
      have hat := cellsE_at (l := (List.range n).map f) (i := j / 2) (e := f (j / 2)) (by rw [List.getElem?_map, List.getElem?_range hi2]; rfl)
      have hc := (hfm (j / 2) (by omega)).1
      rcases Nat.mod_two_eq_zero_or_one j with h0 | h1
      · rw [show j / 2 * 2 = j by omega] at hat hc
        rw [hat.1] at hj
        injection hj with hj
        rw [← hj]; exact hc.1
      · rw [show j / 2 * 2 + 1 = j by omega] at hat hc
        rw [hat.2] at hj
        injection hj with hj
        rw [← hj]; exact hc.2
    refine ⟨(List.range n).map f, ⟨cellsE_len _, some a, c, by rw [hlen], by rw [hlen]; exact hl, hm, (fun h => by cases h), fun j u hj => ⟨a, rfl, hcell j u hj⟩⟩, ?_, ?_⟩
    · intro e he'
      obtain ⟨i, hi'⟩ := List.getElem?_of_mem he'
      obtain ⟨hil, rfl⟩ := hget i e hi'
      exact (hfm i (by omega)).2.1
    · intro e he'
      obtain ⟨i, hi'⟩ := List.getElem?_of_mem he'
      obtain ⟨hil, rfl⟩ := hget i e hi'
      exact (hfm i (by omega)).2.2
theorem sorts_any (w : World) (v : Value) (l : List En) (hr : Row 2 w v l.length (cellsE l)) (hg : Goods l) : Calls Try.prog 8 #[v] w (Yes w) := by
  obtain ⟨A, cap, rfl⟩ := hr.slice
  by_cases h : l.length ≤ 20
  · exact sorts_short w A cap l.length l hr rfl hg h
  · exact sorts_long w A cap l.length (by omega) (Nat.le_trans hr.cap.2.1 hr.cap.2.2)
end Go.Proofs.Ytomkfggilehhgaa
