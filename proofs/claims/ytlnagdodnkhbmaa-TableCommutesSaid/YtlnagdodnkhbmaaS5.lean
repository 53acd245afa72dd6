/- The reference's Decode. -/
import Derived.Test.YtlnagdodnkhbmaaS4
namespace Go.Proofs.Ytlnagdodnkhbmaa
open Go.RowKit

theorem felem8 : Try.prog.elem 92 = 5 := by kernel_rfl
theorem frun_size8 (W : World) : (sizeOf 5).run Try.prog W = .ok 1 W := by kernel_rfl
/-- What is cut off from a to h, whatever the capacity. -/
theorem cut_sl {w : World} {A : Option Addr} {len cap : Nat} {xs : List Nat} (hs : Sl .u8 w (.slice A len cap) xs) {a h : Nat} (ha : a ≤ h) (hh : h ≤ len) :
    Sl .u8 w (sliced A a h cap 1) ((xs.drop a).take (h - a)) := by
  have hl := hs.len
  obtain ⟨A', c', hv, hc, hm, hn, hx⟩ := hs
  injection hv with e1 e2 e3
  subst e1; subst e3
  unfold sliced
  have hlen : ((xs.drop a).take (h - a)).length = h - a := by rw [List.length_take, List.length_drop]; omega
  refine ⟨_, cap - a, by rw [hlen], by rw [hlen]; omega, by omega, fun hA => ?_, fun i b hi => ?_⟩
  · split at hA
    · omega
    · cases A with
      | none => have := hn rfl; omega
      | some ad => cases hA
  · rw [List.getElem?_take] at hi
    split at hi
    · rw [List.getElem?_drop] at hi
      obtain ⟨ad, hA, hcell⟩ := hx _ _ hi
      have hil : a + i < xs.length := (List.getElem?_eq_some_iff.1 hi).1
      rw [if_neg (by omega), hA]
      exact ⟨_, rfl, by rw [Nat.mul_one, add_add']; exact hcell⟩
    · cases hi
theorem run_cut_from (W : World) (A : Option Addr) (len cap a : Nat) (ha : a ≤ len) :
    (Instr.slice 92 (.slice A len cap) (some (.int .i64 (a : Int))) none none).run Try.prog W = .ok (sliced A a len cap 1) W := by
  have h := run_slice_l (P := Try.prog) (w := W) 92 A len cap (by rw [felem8]; exact Try.underlying92) .i64 (a : Int) (by omega) (by omega)
  rw [felem8, frun_size8] at h
  simpa [Result.andThen] using h

theorem enc_cut (l : List Int) (k : Nat) : enc l = enc (l.take k) ++ enc (l.drop k) := by
  unfold enc
  rw [← List.flatMap_append, List.take_append_drop]

def RDecRel (W : World) (l : List Int) (k : Nat) (wr : World) : Prop :=
  Lies wr W.heap.size zero4 ∧ wr.heap[W.heap.size + 1]? = some (.cells (rowl (padr l k)) 33 (0, 0)) ∧ Below W.heap.size W wr

/-- The world behind a number's reading: it lies in a cell of its own, and the column is stored. -/
theorem rdec_step {W w' : World} {l : List Int} {k : Nat} {x : Int} {c : Array Value} {t : TypeId} (hZ : Lies w' W.heap.size zero4) (hP : w'.heap[W.heap.size + 1]? = some (.cells (rowl (padr l k)) 33 (0, 0)))
    (hB : Below W.heap.size W w') (hx : l[k]? = some x) (h4 : k < 4) :
    Hid (RDecRel W l (k + 1) ((w'.alloc (.cells c t)).setCell ⟨W.heap.size + 1, k, none⟩ (.int .i64 x))) ∧
    (∀ y : Value, Hid (RDecRel W l (k + 1) (((w'.alloc (.cells c t)).setCell ⟨W.heap.size + 1, k, none⟩ y).setCell ⟨W.heap.size + 1, k, none⟩ (.int .i64 x)))) ∧
    (∃ u, (w'.alloc (.cells c t)).cell? ⟨W.heap.size + 1, k, none⟩ = some u) ∧ (w'.alloc (.cells c t)).frozen? ⟨W.heap.size + 1, k, none⟩ = false := by
  have hl : W.heap.size + 1 < w'.heap.size := (Array.getElem?_eq_some_iff.1 hP).1
  have hP1 : (w'.alloc (.cells c t)).heap[W.heap.size + 1]? = some (.cells (rowl (padr l k)) 33 (0, 0)) := by
    rw [Below.heap_alloc _ _ _ hl]; exact hP
  have hZ1 : Lies (w'.alloc (.cells c t)) W.heap.size zero4 := hZ.below ((Below.refl _ _).alloc (Nat.le_refl _) _)
  have hB1 : Below W.heap.size W (w'.alloc (.cells c t)) := hB.alloc hB.size _
  have hkl : k < l.length := (List.getElem?_eq_some_iff.1 hx).1
  refine ⟨⟨?_, ?_, hB1.setCell (by show W.heap.size ≤ W.heap.size + 1; omega) _⟩, fun y => ⟨?_, ?_, (hB1.setCell (by show W.heap.size ≤ W.heap.size + 1; omega) _).setCell (by show W.heap.size ≤ W.heap.size + 1; omega) _⟩, ?_, ?_⟩
  · exact hZ1.keep (Below.heap_setCell _ _ _ _ (by show W.heap.size ≠ W.heap.size + 1; omega))
  · have := setCell_row hP1 (i := k) (.int .i64 x)
    rw [rowl_set, padr_step hx h4] at this
    exact this
  · exact (hZ1.keep (Below.heap_setCell _ _ _ _ (by show W.heap.size ≠ W.heap.size + 1; omega))).keep (Below.heap_setCell _ _ _ _ (by show W.heap.size ≠ W.heap.size + 1; omega))
  · have h1 := setCell_row hP1 (i := k) y
    have := setCell_row h1 (i := k) (.int .i64 x)
    rw [show ((rowl (padr l k)).set! k y).set! k (.int .i64 x) = rowl ((padr l k).set k x) by rw [← rowl_set]; simp [Array.set!_eq_setIfInBounds], padr_step hx h4] at this
    exact this
  · exact ⟨_, (cell_of_row _ _ k _ _ _ hP1).trans (rowl_at (List.getElem?_eq_getElem (by rw [padr_len (by omega) (by omega)]; exact h4)))⟩
  · simp [World.frozen?, hP1]

end Go.Proofs.Ytlnagdodnkhbmaa

