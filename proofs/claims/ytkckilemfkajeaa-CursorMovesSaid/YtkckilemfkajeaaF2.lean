/- An argument that is a slice of moves: opened. -/
import Derived.Test.YtkckilemfkajeaaF1
namespace Go.Proofs.Ytkckilemfkajeaa
open Go.RowKit Go.ChangeShapes Go.WideShapes Go.ChangeAt Go.Joins Go.Deep
set_option maxRecDepth 100000

structure Mv where
  d : Int
  o : Cl
def cM (m : Mv) : List Value := [.int .i64 m.d, .int .i64 m.o.k, .string (str m.o.key), .string (str m.o.val)]
theorem cM_len (m : Mv) : (cM m).length = 4 := rfl
structure MvsOk (l : List Mv) : Prop where
  ok : ∀ m ∈ l, (-9223372036854775808 ≤ m.d ∧ m.d ≤ 9223372036854775807) ∧ ClOk m.o
section
variable {H : Type} {enc : TypeId × Value → H} {W : World} {v : Value} {d : DataW H} {p : List MemPlace} {r : Reach} {b0 : Nat}
theorem open_moves (hval : Value.okWide Try.prog W r b0 72 v) (h : DataW.Trod enc Try.prog W 0 (fun _ => true) true 72 v d p) : ∃ l : List Mv, Elems 4 cM W v l ∧ MvsOk l := by
  obtain ⟨A, n, cp, rfl⟩ := okWide_slice Try.underlying72 hval
  obtain ⟨fuel, hf⟩ := h
  rcases open_slice Try.underlying72 hf with ⟨hcs, _⟩ | ⟨a, len, cap, m, k, D, Pl, hcs, _, hl, hm, hmm, _, hi⟩
  · simp [Value.cells] at hcs
    obtain ⟨rfl, rfl, rfl⟩ := hcs
    exact ⟨[], Elems.nil _ cM W, ⟨by simp⟩⟩
  · simp [Value.cells] at hcs
    obtain ⟨rfl, rfl, rfl⟩ := hcs
    simp only [if_pos] at hmm
    obtain ⟨l, h1, h2⟩ := rows_of (c := cM) (G := fun m : Mv => (-9223372036854775808 ≤ m.d ∧ m.d ≤ 9223372036854775807) ∧ ClOk m.o) cM_len (by decide) (W := W) (a := a) (n := n) (cp := cp) (m := m) (by rw [hmm]; exact hl) hl hm fun i him => by
      obtain ⟨cs', hcell, htr⟩ := hi i him
      rw [show Try.prog.cellsOf 77 = 4 by kernel_rfl] at hcell
      obtain ⟨_, _, hat⟩ := World.cells?_some hcell
      obtain ⟨ys, n', _, _, hlen, hyl, hg⟩ := DataW.trod_struct Try.underlying77 htr
      rw [show Try.prog.cellsOf 77 = 4 by kernel_rfl] at hlen
      match cs', hlen with
      | [c0, c1, c2, c3], _ =>
        have g0 : DataW.trod enc Try.prog W 0 (fun _ => true) true n' 3 (([c0, c1, c2, c3].drop 0).take (Try.prog.cellsOf 3)) = ys[0]? := hg 0 _ rfl
        have g1 : DataW.trod enc Try.prog W 0 (fun _ => true) true n' 35 (([c0, c1, c2, c3].drop 1).take (Try.prog.cellsOf 35)) = ys[1]? := hg 1 _ rfl
        rw [show Try.prog.cellsOf 3 = 1 by kernel_rfl] at g0
        rw [show Try.prog.cellsOf 35 = 3 by kernel_rfl] at g1
        have hys : ys.length = 2 := by simpa using hyl
        rw [List.getElem?_eq_getElem (by omega)] at g0 g1
        simp only [List.drop_zero, List.take_succ_cons, List.take_zero, List.drop_succ_cons] at g0 g1
        obtain ⟨z0, e0, _, w0⟩ := DataW.trod_int Try.underlying3 g0
        obtain ⟨zs, m2, _, _, _, hzl, hz⟩ := DataW.trod_struct Try.underlying35 g1
        have hzs : zs.length = 3 := by simpa using hzl
        have k0 : DataW.trod enc Try.prog W 0 (fun _ => true) true m2 3 (([c1, c2, c3].drop 0).take (Try.prog.cellsOf 3)) = zs[0]? := hz 0 _ rfl
        have k1 : DataW.trod enc Try.prog W 0 (fun _ => true) true m2 9 (([c1, c2, c3].drop 1).take (Try.prog.cellsOf 9)) = zs[1]? := hz 1 _ rfl
        have k2 : DataW.trod enc Try.prog W 0 (fun _ => true) true m2 9 (([c1, c2, c3].drop 2).take (Try.prog.cellsOf 9)) = zs[2]? := hz 2 _ rfl
        rw [show Try.prog.cellsOf 3 = 1 by kernel_rfl] at k0
        rw [show Try.prog.cellsOf 9 = 1 by kernel_rfl] at k1 k2
        rw [List.getElem?_eq_getElem (by omega)] at k0 k1 k2
        simp only [List.drop_zero, List.take_succ_cons, List.take_zero, List.drop_succ_cons] at k0 k1 k2
        obtain ⟨z1, e1, _, w1⟩ := DataW.trod_int Try.underlying3 k0
        obtain ⟨s1, e2, _, _⟩ := DataW.trod_string Try.underlying9 k1
        obtain ⟨s2, e3, _, _⟩ := DataW.trod_string Try.underlying9 k2
        simp at e0 e1 e2 e3
        refine ⟨⟨z0, ⟨z1, nums s1, nums s2⟩⟩, fun j u hj => ?_, i64_of w0, ⟨(i64_of w1).1, (i64_of w1).2, nums_byt s1, nums_byt s2⟩⟩
        have hjl : j < 4 := (List.getElem?_eq_some_iff.1 hj).1
        have h2 := hat j hjl
        rw [← add_add', h2]
        unfold cM at hj
        match j with
        | 0 => simp at hj; rw [← hj, e0]; rfl
        | 1 => simp at hj; rw [← hj, e1]; rfl
        | 2 => simp at hj; rw [← hj, str_nums, e2]; rfl
        | 3 => simp at hj; rw [← hj, str_nums, e3]; rfl
        | j + 4 => omega
    exact ⟨l, h1, ⟨h2⟩⟩
end
theorem Elems.mv {w : World} {A : Option Addr} {n cap i : Nat} {l : List Mv} {m : Mv} (h : Elems 4 cM w (.slice A n cap) l) (hi : l[i]? = some m) :
    ∃ ad, A = some ad ∧ w.cell? (ad.add (i * 4)) = some (.int .i64 m.d) ∧ w.cell? { block := (ad.add (i * 4)).block, off := (ad.add (i * 4)).off + 1, spot := none } = some (.int .i64 m.o.k) ∧
      w.cell? { block := (ad.add (i * 4)).block, off := (ad.add (i * 4)).off + 1 + 1, spot := none } = some (.string (str m.o.key)) ∧ w.cell? { block := (ad.add (i * 4)).block, off := (ad.add (i * 4)).off + 1 + 2, spot := none } = some (.string (str m.o.val)) := by
  obtain ⟨ad, rfl, h0⟩ := h.cell cM_len (j := 0) hi (u := .int .i64 m.d) rfl
  obtain ⟨ad1, e1, h1⟩ := h.cell cM_len (j := 1) hi (u := .int .i64 m.o.k) rfl
  obtain ⟨ad2, e2, h2⟩ := h.cell cM_len (j := 2) hi (u := .string (str m.o.key)) rfl
  obtain ⟨ad3, e3, h3⟩ := h.cell cM_len (j := 3) hi (u := .string (str m.o.val)) rfl
  injection e1 with e1
  injection e2 with e2
  injection e3 with e3
  subst e1; subst e2; subst e3
  rw [Nat.add_zero] at h0
  rw [← add_add', Addr.add_succ' _ 0] at h1
  rw [← add_add', Addr.add_succ' _ 1] at h2
  rw [← add_add', Addr.add_succ' _ 2] at h3
  exact ⟨ad, rfl, h0, h1, h2, h3⟩
end Go.Proofs.Ytkckilemfkajeaa
