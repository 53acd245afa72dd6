/- The frame of this seat's laws: closed facts of the program; arguments that are slices of calls, of texts, or arrays of two, opened. -/
import Derived.Test.YtpckaglefmpkcaaRA
import Derived.ChangeMaps5
import Derived.Lib.SmallJoins
import Derived.Deep.Fields
import Derived.Deep.Slices
namespace Go.Proofs.Ytpckaglefmpkcaa
open Go.RowKit Go.ChangeShapes Go.WideShapes Go.ChangeAt Go.Joins Go.Deep

set_option maxRecDepth 100000
structure ClsOk (os : List Cl) : Prop where
  ok : ∀ o ∈ os, ClOk o
theorem own : ownKnob Try.prog.godebug = none := by kernel_rfl
theorem laidOut : laidOutB Try.prog = true := by kernel_rfl
theorem i64_of {n : Int} (h : (Lit.int IntKind.i64 n).wf = true) : -9223372036854775808 ≤ n ∧ n ≤ 9223372036854775807 := by have := bounds_i64 h; exact ⟨by omega, by omega⟩
theorem str_of (s : ByteArray) : ∃ xs, s = str xs ∧ Byt xs := ⟨nums s, (str_nums s).symm, nums_byt s⟩
section
variable {H : Type} {enc : TypeId × Value → H} {W : World} {v : Value} {d : DataW H} {p : List MemPlace} {r : Reach} {b0 : Nat}
theorem open_ops (hval : Value.okWide Try.prog W r b0 22 v) (h : DataW.Trod enc Try.prog W 0 (fun _ => true) true 22 v d p) : ∃ l : List Cl, Elems 3 cO W v l ∧ ClsOk l := by
  obtain ⟨l, h1, h2⟩ := open_rows (c := cO) (G := ClOk) (by exact cO_len) (by decide) Try.underlying22 Try.underlying35 (by kernel_rfl) (by kernel_rfl) (fun g n hg => by
    obtain ⟨y0, g0⟩ := hg 0 _ rfl
    obtain ⟨y1, g1⟩ := hg 1 _ rfl
    obtain ⟨y2, g2⟩ := hg 2 _ rfl
    obtain ⟨z0, e0, _, w0⟩ := DataW.trod_int Try.underlying3 g0
    obtain ⟨s1, e1, _, _⟩ := DataW.trod_string Try.underlying9 g1
    obtain ⟨s2, e2, _, _⟩ := DataW.trod_string Try.underlying9 g2
    simp at e0 e1 e2
    refine ⟨⟨z0, nums s1, nums s2⟩, fun j u hj => ?_, ⟨(i64_of w0).1, (i64_of w0).2, nums_byt s1, nums_byt s2⟩⟩
    unfold cO at hj
    match j with
    | 0 => simp at hj; rw [← hj, e0]
    | 1 => simp at hj; rw [← hj, e1, str_nums]
    | 2 => simp at hj; rw [← hj, e2, str_nums]
    | j + 3 => simp at hj) hval h
  exact ⟨l, h1, ⟨h2⟩⟩
theorem open_two {P : Program} {t e : TypeId} (ht : P.underlying t = some (.array 2 e)) (hce : P.cellsOf e = 1) (hC : P.cellsOf t = 2) (hval : Value.okWide P W r b0 t v) (h : DataW.Trod enc P W 0 (fun _ => true) true t v d p) :
    ∃ (v0 v1 : Value) (y0 y1 : DataW H × List MemPlace) (n : Nat), v = .agg #[v0, v1] ∧ DataW.trod enc P W 0 (fun _ => true) true n e [v0] = some y0 ∧ DataW.trod enc P W 0 (fun _ => true) true n e [v1] = some y1 := by
  simp only [Value.okWide, ht] at hval
  obtain ⟨cs, rfl, hsz, _⟩ := hval
  obtain ⟨c0, c1, rfl⟩ := array2 (hsz.trans hC)
  obtain ⟨fuel, hf⟩ := h
  obtain ⟨xs, m, _, _, _, hl, hel⟩ := DataW.trod_array ht hf
  have h0 := hel 0 (by omega)
  have h1 := hel 1 (by omega)
  rw [hce] at h0 h1
  rw [List.getElem?_eq_getElem (by omega)] at h0 h1
  exact ⟨c0, c1, _, _, m, rfl, by simpa [Value.cells] using h0, by simpa [Value.cells] using h1⟩
theorem open_strs2 (hval : Value.okWide Try.prog W r b0 48 v) (h : DataW.Trod enc Try.prog W 0 (fun _ => true) true 48 v d p) :
    ∃ xs ys, v = .agg #[.string (str xs), .string (str ys)] ∧ Byt xs ∧ Byt ys := by
  obtain ⟨v0, v1, y0, y1, n, rfl, h0, h1⟩ := open_two Try.underlying48 (by kernel_rfl) (by kernel_rfl) hval h
  obtain ⟨s0, e0, _, _⟩ := DataW.trod_string Try.underlying9 h0
  obtain ⟨s1, e1, _, _⟩ := DataW.trod_string Try.underlying9 h1
  simp at e0 e1
  subst e0; subst e1
  exact ⟨nums s0, nums s1, by rw [str_nums, str_nums], nums_byt s0, nums_byt s1⟩
theorem open_ints2 (hval : Value.okWide Try.prog W r b0 54 v) (h : DataW.Trod enc Try.prog W 0 (fun _ => true) true 54 v d p) :
    ∃ x y : Int, v = .agg #[.int .i64 x, .int .i64 y] := by
  obtain ⟨v0, v1, y0, y1, n, rfl, h0, h1⟩ := open_two Try.underlying54 (by kernel_rfl) (by kernel_rfl) hval h
  obtain ⟨s0, e0, _, _⟩ := DataW.trod_int Try.underlying3 h0
  obtain ⟨s1, e1, _, _⟩ := DataW.trod_int Try.underlying3 h1
  simp at e0 e1
  subst e0; subst e1
  exact ⟨s0, s1, rfl⟩
def cT (xs : List Nat) : List Value := [.string (str xs)]
theorem cT_len (xs : List Nat) : (cT xs).length = 1 := rfl
theorem open_texts (hval : Value.okWide Try.prog W r b0 62 v) (h : DataW.Trod enc Try.prog W 0 (fun _ => true) true 62 v d p) : ∃ l : List (List Nat), Elems 1 cT W v l ∧ ∀ x ∈ l, Byt x := by
  obtain ⟨A, n, cp, rfl⟩ := okWide_slice Try.underlying62 hval
  obtain ⟨fuel, hf⟩ := h
  rcases open_slice Try.underlying62 hf with ⟨hcs, _⟩ | ⟨a, len, cap, m, k, D, Pl, hcs, _, hl, hm, hmm, _, hi⟩
  · simp [Value.cells] at hcs
    obtain ⟨rfl, rfl, rfl⟩ := hcs
    exact ⟨[], Elems.nil _ cT W, by simp⟩
  · simp [Value.cells] at hcs
    obtain ⟨rfl, rfl, rfl⟩ := hcs
    simp only [if_pos] at hmm
    refine rows_of (c := cT) cT_len (by decide) (m := m) (by rw [hmm]; exact hl) hl hm fun i him => ?_
    obtain ⟨cs', hcell, htr⟩ := hi i him
    rw [show Try.prog.cellsOf 9 = 1 by kernel_rfl] at hcell
    obtain ⟨_, hlen, hat⟩ := World.cells?_some hcell
    obtain ⟨s, e0, _, _⟩ := DataW.trod_string Try.underlying9 htr
    subst e0
    refine ⟨nums s, fun j u hj => ?_, nums_byt s⟩
    unfold cT at hj
    match j with
    | 0 =>
      simp at hj
      have := hat 0 (by omega)
      rw [add_zero'] at this
      rw [Nat.add_zero, this, ← hj, str_nums]; rfl
    | j + 1 => simp at hj
end
end Go.Proofs.Ytpckaglefmpkcaa
