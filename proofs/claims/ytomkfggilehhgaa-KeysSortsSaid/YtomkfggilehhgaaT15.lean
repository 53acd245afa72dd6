import Derived.Test.YtomkfggilehhgaaT12
import Derived.Test.YtomkfggilehhgaaB4
namespace Go.Proofs.Ytomkfggilehhgaa
open Go.RowKit

theorem Try.info23 : (Try.prog.info? 23).map (fun i => (i.zero, i.size, i.bytes)) = some (some (.agg #[.int .i64 0, .string ⟨#[]⟩]), 2, 24) := by kernel_rfl
theorem Try.info9 : (Try.prog.info? 9).map (fun i => (i.zero, i.size, i.bytes)) = some (some (.string ⟨#[]⟩), 1, 16) := by kernel_rfl
theorem elem43 : Try.prog.elem 43 = 23 := by kernel_rfl
theorem elem44 : Try.prog.elem 44 = 9 := by kernel_rfl
theorem run_size23 (W : World) : (sizeOf 23).run Try.prog W = .ok 2 W := by kernel_rfl
theorem run_size9 (W : World) : (sizeOf 9).run Try.prog W = .ok 1 W := by kernel_rfl
theorem cutE_to (W : World) (A : Option Addr) (len cap h : Nat) (hh : h ≤ cap) : (Instr.slice 43 (.slice A len cap) none (some (.int .i64 (h : Int))) none).run Try.prog W = .ok (sliced A 0 h cap 2) W := by
  have e := run_slice_h (P := Try.prog) (w := W) 43 A len cap (by rw [elem43]; exact Try.underlying43) .i64 (h : Int) (by omega) (by omega)
  rw [elem43, run_size23] at e
  simpa [Result.andThen] using e
theorem cutE_from (W : World) (A : Option Addr) (len cap a : Nat) (ha : a ≤ len) : (Instr.slice 43 (.slice A len cap) (some (.int .i64 (a : Int))) none none).run Try.prog W = .ok (sliced A a len cap 2) W := by
  have e := run_slice_l (P := Try.prog) (w := W) 43 A len cap (by rw [elem43]; exact Try.underlying43) .i64 (a : Int) (by omega) (by omega)
  rw [elem43, run_size23] at e
  simpa [Result.andThen] using e
theorem cutS_to (W : World) (A : Option Addr) (len cap h : Nat) (hh : h ≤ cap) : (Instr.slice 44 (.slice A len cap) none (some (.int .i64 (h : Int))) none).run Try.prog W = .ok (sliced A 0 h cap 1) W := by
  have e := run_slice_h (P := Try.prog) (w := W) 44 A len cap (by rw [elem44]; exact Try.underlying44) .i64 (h : Int) (by omega) (by omega)
  rw [elem44, run_size9] at e
  simpa [Result.andThen] using e
theorem cutS_from (W : World) (A : Option Addr) (len cap a : Nat) (ha : a ≤ len) : (Instr.slice 44 (.slice A len cap) (some (.int .i64 (a : Int))) none none).run Try.prog W = .ok (sliced A a len cap 1) W := by
  have e := run_slice_l (P := Try.prog) (w := W) 44 A len cap (by rw [elem44]; exact Try.underlying44) .i64 (a : Int) (by omega) (by omega)
  rw [elem44, run_size9] at e
  simpa [Result.andThen] using e

/-- Where an entry of a row lies. -/
theorem Row.ent {w : World} {A : Option Addr} {n c i len : Nat} {l : List En} {e : En} (h : Row 2 w (.slice A n c) len (cellsE l)) (hi : l[i]? = some e) : ∃ ad, A = some ad ∧ EntAt w (ad.add (i * 2)) e.1 e.2 := by
  obtain ⟨h1, h2⟩ := cellsE_at hi
  obtain ⟨ad, rfl, c1⟩ := h.cell h1
  obtain ⟨ad', hA, c2⟩ := h.cell h2
  injection hA with hA
  subst hA
  refine ⟨ad, rfl, c1, ?_⟩
  rw [← add_add', Addr.add_succ' _ 0] at c2
  exact c2
theorem Row.cutE {w : World} {A : Option Addr} {n c len : Nat} {l : List En} (h : Row 2 w (.slice A n c) len (cellsE l)) {a b : Nat} (ha : a ≤ b) (hb : b ≤ len) : Row 2 w (sliced A a b c 2) (b - a) (cellsE ((l.drop a).take (b - a))) := by
  have := h.cut ha hb
  rwa [cellsE_drop, cellsE_take] at this
theorem Row.cutS {w : World} {A : Option Addr} {n c len : Nat} {l : List (List Nat)} (h : Row 1 w (.slice A n c) len (cellsS l)) {a b : Nat} (ha : a ≤ b) (hb : b ≤ len) : Row 1 w (sliced A a b c 1) (b - a) (cellsS ((l.drop a).take (b - a))) := by
  have := h.cut ha hb
  unfold cellsS at this ⊢
  rw [Nat.mul_one, Nat.mul_one] at this
  rw [← List.map_drop, ← List.map_take] at this
  exact this

/-- What is sorted so far. -/
def Srt (l : List En) : Prop := l.Pairwise fun a b => ¬ key b < key a
structure Goods (l : List En) : Prop where
  i : ∀ e ∈ l, I64 e.1
  b : ∀ e ∈ l, Byt e.2
theorem Goods.key_byt {e : En} (h : Byt e.2) : Byt (key e) := (wv_byt e.1).app h
/-- e is put behind the first n, which are not behind it, ahead of the next one, if any, which is. -/
theorem Srt.ins {l : List En} (h : Srt l) {n : Nat} {e : En} (h1 : ∀ (j : Nat) (x : En), j < n → l[j]? = some x → ¬ key e < key x) (h2 : ∀ (x : En), l[n]? = some x → key e < key x) : Srt (l.take n ++ [e] ++ l.drop n) := by
  unfold Srt at h ⊢
  have ht : (l.take n).Pairwise fun a b => ¬ key b < key a := h.sublist (List.take_sublist n l)
  have hd : (l.drop n).Pairwise fun a b => ¬ key b < key a := h.sublist (List.drop_sublist n l)
  have htm : ∀ x ∈ l.take n, ¬ key e < key x := fun x hx => by
    obtain ⟨j, hj⟩ := List.getElem?_of_mem hx
    rw [List.getElem?_take] at hj
    split at hj
    · rename_i hjn
      exact h1 j x hjn hj
    · cases hj
  have hdm : ∀ x ∈ l.drop n, ¬ key x < key e := fun x hx => by
    have hne : l.drop n ≠ [] := List.ne_nil_of_mem hx
    have hnl : n < l.length := by
      rcases Nat.lt_or_ge n l.length with hh | hh
      · exact hh
      · exact absurd (List.drop_of_length_le hh) hne
    have hlt := h2 _ (List.getElem?_eq_getElem hnl)
    rw [List.drop_eq_getElem_cons hnl] at hx hd
    rcases List.mem_cons.1 hx with rfl | hx
    · exact fun hh => List.lt_irrefl _ (List.lt_trans hh hlt)
    · have h3 := (List.pairwise_cons.1 hd).1 x hx
      intro hh
      exact h3 (List.lt_trans hh hlt)
  have htd : ∀ x ∈ l.take n, ∀ y ∈ l.drop n, ¬ key y < key x := fun x hx y hy => by
    have := h
    rw [← List.take_append_drop n l, List.pairwise_append] at this
    exact this.2.2 x hx y hy
  rw [List.append_assoc, List.pairwise_append]
  refine ⟨ht, List.pairwise_cons.2 ⟨hdm, hd⟩, fun x hx y hy => ?_⟩
  rcases List.mem_cons.1 hy with rfl | hy
  · exact htm x hx
  · exact htd x hx y hy
theorem Srt.at_ {l : List En} (h : Srt l) {k i : Nat} {x y : En} (hki : k < i) (hk : l[k]? = some x) (hi : l[i]? = some y) : ¬ key y < key x := by
  obtain ⟨h1, rfl⟩ := List.getElem?_eq_some_iff.1 hk
  obtain ⟨h2, rfl⟩ := List.getElem?_eq_some_iff.1 hi
  exact List.pairwise_iff_getElem.1 h k i h1 h2 hki
theorem Goods.ins {l : List En} (h : Goods l) {n : Nat} {e : En} (h1 : I64 e.1) (h2 : Byt e.2) : Goods (l.take n ++ [e] ++ l.drop n) := by
  have hm : ∀ x ∈ l.take n ++ [e] ++ l.drop n, x = e ∨ x ∈ l := fun x hx => by
    simp only [List.mem_append, List.mem_singleton] at hx
    rcases hx with (hx | hx) | hx
    · exact .inr (List.mem_of_mem_take hx)
    · exact .inl hx
    · exact .inr (List.mem_of_mem_drop hx)
  exact ⟨fun x hx => (hm x hx).elim (fun e => e ▸ h1) (h.i x), fun x hx => (hm x hx).elim (fun e => e ▸ h2) (h.b x)⟩
theorem ins_len {l : List En} {n : Nat} (e : En) (h : n ≤ l.length) : (l.take n ++ [e] ++ l.drop n).length = l.length + 1 := by
  simp; omega
end Go.Proofs.Ytomkfggilehhgaa
