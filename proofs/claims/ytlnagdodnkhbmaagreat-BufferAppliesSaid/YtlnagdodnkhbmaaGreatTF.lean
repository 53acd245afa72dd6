/- The frame of this seat's laws: closed facts of the program; arguments that are calls, slices of calls, what is asked for, or arrays of two, opened. -/
import Derived.Test.YtlnagdodnkhbmaaGreatTB
import Derived.ChangeMaps5
import Derived.Lib.SmallJoins
import Derived.Deep.Fields
import Derived.Deep.Slices
namespace Go.Proofs.YtlnagdodnkhbmaaGreat
open Go.RowKit Go.ChangeShapes Go.WideShapes Go.ChangeAt Go.Joins Go.Deep

set_option maxRecDepth 100000
theorem own : ownKnob Tryz.prog.godebug = none := by kernel_rfl
theorem laidOut : laidOutB Tryz.prog = true := by kernel_rfl
theorem i64_of {n : Int} (h : (Lit.int IntKind.i64 n).wf = true) : I64 n := by have := bounds_i64 h; exact ⟨by omega, by omega⟩
theorem array_four {α : Type} {cs : List α} (h : cs.length = 4) : ∃ a b c d, cs = [a, b, c, d] := by
  match cs, h with
  | [a, b, c, d], _ => exact ⟨a, b, c, d, rfl⟩
section
variable {H : Type} {enc : TypeId × Value → H} {W : World} {v : Value} {d : DataW H} {p : List MemPlace} {r : Reach} {b0 : Nat}
theorem trod_row {n : Nat} {cs : List Value} {y : DataW H × List MemPlace} (h : DataW.trod enc Tryz.prog W 0 (fun _ => true) true n 41 cs = some y) : ∃ r : Ro, cs = (rowc r).toList ∧ r.ok := by
  obtain ⟨xs, m, _, _, hlen, hl, hel⟩ := DataW.trod_array Tryz.underlying41 h
  obtain ⟨c0, c1, c2, c3, rfl⟩ := array_four (hlen.trans (by kernel_rfl))
  have h0 := hel 0 (by omega)
  have h1 := hel 1 (by omega)
  have h2 := hel 2 (by omega)
  have h3 := hel 3 (by omega)
  rw [show Tryz.prog.cellsOf 3 = 1 by kernel_rfl] at h0 h1 h2 h3
  rw [List.getElem?_eq_getElem (by omega)] at h0 h1 h2 h3
  obtain ⟨z0, e0, _, w0⟩ := DataW.trod_int Tryz.underlying3 h0
  obtain ⟨z1, e1, _, w1⟩ := DataW.trod_int Tryz.underlying3 h1
  obtain ⟨z2, e2, _, w2⟩ := DataW.trod_int Tryz.underlying3 h2
  obtain ⟨z3, e3, _, w3⟩ := DataW.trod_int Tryz.underlying3 h3
  simp at e0 e1 e2 e3
  subst e0; subst e1; subst e2; subst e3
  refine ⟨⟨z0, z1, z2, z3⟩, rfl, ?_⟩
  intro x hx
  simp [Ro.l] at hx
  rcases hx with rfl | rfl | rfl | rfl
  · exact i64_of w0
  · exact i64_of w1
  · exact i64_of w2
  · exact i64_of w3
theorem trod_op {n : Nat} {cs : List Value} {y : DataW H × List MemPlace} (h : DataW.trod enc Tryz.prog W 0 (fun _ => true) true n 43 cs = some y) : ∃ o : Op7, cs = cOp o ∧ o.Ok := by
  obtain ⟨xs, m, _, _, hlen, hl, hfs⟩ := DataW.trod_struct Tryz.underlying43 h
  rw [show Tryz.prog.cellsOf 43 = 6 by kernel_rfl] at hlen
  match cs, hlen with
  | [c0, c1, c2, c3, c4, c5], _ =>
    have g0 : DataW.trod enc Tryz.prog W 0 (fun _ => true) true m 3 (([c0, c1, c2, c3, c4, c5].drop 0).take (Tryz.prog.cellsOf 3)) = xs[0]? := hfs 0 _ rfl
    have g1 : DataW.trod enc Tryz.prog W 0 (fun _ => true) true m 9 (([c0, c1, c2, c3, c4, c5].drop 1).take (Tryz.prog.cellsOf 9)) = xs[1]? := hfs 1 _ rfl
    have g2 : DataW.trod enc Tryz.prog W 0 (fun _ => true) true m 41 (([c0, c1, c2, c3, c4, c5].drop 2).take (Tryz.prog.cellsOf 41)) = xs[2]? := hfs 2 _ rfl
    rw [show Tryz.prog.cellsOf 3 = 1 by kernel_rfl] at g0
    rw [show Tryz.prog.cellsOf 9 = 1 by kernel_rfl] at g1
    rw [show Tryz.prog.cellsOf 41 = 4 by kernel_rfl] at g2
    have hx : xs.length = 3 := by simpa using hl
    rw [List.getElem?_eq_getElem (by omega)] at g0 g1 g2
    simp only [List.drop_zero, List.take_succ_cons, List.take_zero, List.drop_succ_cons] at g0 g1 g2
    obtain ⟨z0, e0, _, w0⟩ := DataW.trod_int Tryz.underlying3 g0
    obtain ⟨s1, e1, _, _⟩ := DataW.trod_string Tryz.underlying9 g1
    obtain ⟨q, e2, hq⟩ := trod_row g2
    simp [rowc] at e0 e1 e2
    obtain ⟨rfl, rfl, rfl, rfl⟩ := e2
    subst e0; subst e1
    exact ⟨⟨z0, nums s1, q⟩, by unfold cOp; rw [str_nums], nums_byt s1, hq⟩
theorem open_op (hval : Value.okWide Tryz.prog W r b0 43 v) (h : DataW.Trod enc Tryz.prog W 0 (fun _ => true) true 43 v d p) : ∃ o : Op7, v = opV o ∧ o.Ok := by
  obtain ⟨cs, rfl, hsz⟩ := okWide_struct Tryz.underlying43 hval
  obtain ⟨fuel, hf⟩ := h
  obtain ⟨o, ho, hk⟩ := trod_op hf
  refine ⟨o, ?_, hk⟩
  unfold opV
  have : cs.toList = cOp o := by simpa [Value.cells] using ho
  congr 1
  rw [← Array.toList_inj, this]
  rfl
theorem open_ops (hval : Value.okWide Tryz.prog W r b0 22 v) (h : DataW.Trod enc Tryz.prog W 0 (fun _ => true) true 22 v d p) : ∃ l : List Op7, Elems 6 cOp W v l ∧ OpsOk l := by
  obtain ⟨A, n, cp, rfl⟩ := okWide_slice Tryz.underlying22 hval
  obtain ⟨fuel, hf⟩ := h
  rcases open_slice Tryz.underlying22 hf with ⟨hcs, _⟩ | ⟨a, len, cap, m, k, D, Pl, hcs, _, hl, hm, hmm, _, hi⟩
  · simp [Value.cells] at hcs
    obtain ⟨rfl, rfl, rfl⟩ := hcs
    exact ⟨[], Elems.nil _ cOp W, ⟨by simp⟩⟩
  · simp [Value.cells] at hcs
    obtain ⟨rfl, rfl, rfl⟩ := hcs
    simp only [if_pos] at hmm
    obtain ⟨l, h1, h2⟩ := rows_of (c := cOp) (G := fun o : Op7 => o.Ok) cOp_len (by decide) (W := W) (a := a) (n := n) (cp := cp) (m := m) (by rw [hmm]; exact hl) hl hm fun i him => by
      obtain ⟨cs', hcell, htr⟩ := hi i him
      rw [show Tryz.prog.cellsOf 43 = 6 by kernel_rfl] at hcell
      obtain ⟨_, _, hat⟩ := World.cells?_some hcell
      obtain ⟨o, rfl, hk⟩ := trod_op htr
      refine ⟨o, fun j u hj => ?_, hk⟩
      have hjl : j < 6 := (List.getElem?_eq_some_iff.1 hj).1
      have h2 := hat j hjl
      rw [← add_add', h2]
      exact hj
    exact ⟨l, h1, ⟨h2⟩⟩
theorem open_two {P : Program} {t e : TypeId} (ht : P.underlying t = some (.array 2 e)) (hce : P.cellsOf e = 1) (hC : P.cellsOf t = 2) (hval : Value.okWide P W r b0 t v) (h : DataW.Trod enc P W 0 (fun _ => true) true t v d p) :
    ∃ (v0 v1 : Value) (y0 y1 : DataW H × List MemPlace) (n : Nat), v = .agg #[v0, v1] ∧ DataW.trod enc P W 0 (fun _ => true) true n e [v0] = some y0 ∧ DataW.trod enc P W 0 (fun _ => true) true n e [v1] = some y1 := by
  simp only [Value.okWide, ht] at hval
  obtain ⟨cs, rfl, hsz, _⟩ := hval
  obtain ⟨c0, c1, rfl⟩ := array2 (hsz.trans hC)
  obtain ⟨fuel, hf⟩ := h
  obtain ⟨xs, m, _, _, _, hl, hel⟩ := DataW.trod_array ht hf
  have h0 := hel 0 (by omega)
  have h1 := hel 1 (by omega)
  rw [hce] at h0 h1
  rw [List.getElem?_eq_getElem (by omega)] at h0 h1
  exact ⟨c0, c1, _, _, m, rfl, by simpa [Value.cells] using h0, by simpa [Value.cells] using h1⟩
theorem open_ints2 (hval : Value.okWide Tryz.prog W r b0 58 v) (h : DataW.Trod enc Tryz.prog W 0 (fun _ => true) true 58 v d p) :
    ∃ x y : Int, v = .agg #[.int .i64 x, .int .i64 y] ∧ I64 x ∧ I64 y := by
  obtain ⟨v0, v1, y0, y1, n, rfl, h0, h1⟩ := open_two Tryz.underlying58 (by kernel_rfl) (by kernel_rfl) hval h
  obtain ⟨s0, e0, _, w0⟩ := DataW.trod_int Tryz.underlying3 h0
  obtain ⟨s1, e1, _, w1⟩ := DataW.trod_int Tryz.underlying3 h1
  simp at e0 e1
  subst e0; subst e1
  exact ⟨s0, s1, rfl, i64_of w0, i64_of w1⟩
structure Ask7 where
  c : Int
  lo : Int
  hi : Int
  m : Int
structure Ask7.Ok (a : Ask7) : Prop where
  c : I64 a.c
  lo : I64 a.lo
  hi : I64 a.hi
  m : I64 a.m
def askV (a : Ask7) : Value := .agg #[.int .i64 a.c, .int .i64 a.lo, .int .i64 a.hi, .int .i64 a.m]
def cAsk (a : Ask7) : List Value := [.int .i64 a.c, .int .i64 a.lo, .int .i64 a.hi, .int .i64 a.m]
theorem cAsk_len (a : Ask7) : (cAsk a).length = 4 := rfl
theorem trod_ask {n : Nat} {cs : List Value} {y : DataW H × List MemPlace} (h : DataW.trod enc Tryz.prog W 0 (fun _ => true) true n 52 cs = some y) : ∃ o : Ask7, cs = cAsk o ∧ o.Ok := by
  obtain ⟨xs, m, _, _, hlen, hl, hfs⟩ := DataW.trod_struct Tryz.underlying52 h
  rw [show Tryz.prog.cellsOf 52 = 4 by kernel_rfl] at hlen
  match cs, hlen with
  | [c0, c1, c2, c3], _ =>
    have g0 : DataW.trod enc Tryz.prog W 0 (fun _ => true) true m 3 (([c0, c1, c2, c3].drop 0).take (Tryz.prog.cellsOf 3)) = xs[0]? := hfs 0 _ rfl
    have g1 : DataW.trod enc Tryz.prog W 0 (fun _ => true) true m 3 (([c0, c1, c2, c3].drop 1).take (Tryz.prog.cellsOf 3)) = xs[1]? := hfs 1 _ rfl
    have g2 : DataW.trod enc Tryz.prog W 0 (fun _ => true) true m 3 (([c0, c1, c2, c3].drop 2).take (Tryz.prog.cellsOf 3)) = xs[2]? := hfs 2 _ rfl
    have g3 : DataW.trod enc Tryz.prog W 0 (fun _ => true) true m 3 (([c0, c1, c2, c3].drop 3).take (Tryz.prog.cellsOf 3)) = xs[3]? := hfs 3 _ rfl
    rw [show Tryz.prog.cellsOf 3 = 1 by kernel_rfl] at g0 g1 g2 g3
    have hx : xs.length = 4 := by simpa using hl
    rw [List.getElem?_eq_getElem (by omega)] at g0 g1 g2 g3
    simp only [List.drop_zero, List.take_succ_cons, List.take_zero, List.drop_succ_cons] at g0 g1 g2 g3
    obtain ⟨z0, e0, _, w0⟩ := DataW.trod_int Tryz.underlying3 g0
    obtain ⟨z1, e1, _, w1⟩ := DataW.trod_int Tryz.underlying3 g1
    obtain ⟨z2, e2, _, w2⟩ := DataW.trod_int Tryz.underlying3 g2
    obtain ⟨z3, e3, _, w3⟩ := DataW.trod_int Tryz.underlying3 g3
    simp at e0 e1 e2 e3
    subst e0; subst e1; subst e2; subst e3
    exact ⟨⟨z0, z1, z2, z3⟩, rfl, i64_of w0, i64_of w1, i64_of w2, i64_of w3⟩
theorem open_ask (hval : Value.okWide Tryz.prog W r b0 52 v) (h : DataW.Trod enc Tryz.prog W 0 (fun _ => true) true 52 v d p) : ∃ o : Ask7, v = askV o ∧ o.Ok := by
  obtain ⟨cs, rfl, hsz⟩ := okWide_struct Tryz.underlying52 hval
  obtain ⟨fuel, hf⟩ := h
  obtain ⟨o, ho, hk⟩ := trod_ask hf
  refine ⟨o, ?_, hk⟩
  unfold askV
  have : cs.toList = cAsk o := by simpa [Value.cells] using ho
  congr 1
  rw [← Array.toList_inj, this]
  rfl
end
end Go.Proofs.YtlnagdodnkhbmaaGreat

