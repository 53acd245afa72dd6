import Derived.Test.YtmakcfnmdohedaaDoorT8
import Derived.StillTailTactics
namespace Go.Proofs.YtmakcfnmdohedaaDoor
open Go.RowKit

theorem one_row {w : World} {e : TypeId} {b : Nat} : Sl .u8 (w.alloc (.cells #[.int .u8 (b : Int)] e)) (.slice (some ⟨w.heap.size, 0, none⟩) 1 1) [b] := by
  refine Sl.row (xs := [b]) (c := 1) (heap_alloc_new w _) (by simp) (by simp [maxLen]) ?_
  intro i x hi
  match i with
  | 0 => simp at hi ⊢; omega
  | i + 1 => simp at hi

def xors3 (a b c : List Nat) : List Nat := Crc.xors (Crc.xors a b) c
theorem xors_snoc {a b : List Nat} {k x y : Nat} (hx : a[k]? = some x) (hy : b[k]? = some y) : Crc.xors (a.take (k + 1)) (b.take (k + 1)) = Crc.xors (a.take k) (b.take k) ++ [x ^^^ y] := by
  have ha : k < a.length := (List.getElem?_eq_some_iff.1 hx).1
  have hb : k < b.length := (List.getElem?_eq_some_iff.1 hy).1
  rw [List.take_add_one, List.take_add_one, hx, hy]
  unfold Crc.xors
  rw [Option.toList_some, Option.toList_some, List.zipWith_append (by simp; omega)]
  rfl
theorem xors_len {a b : List Nat} {k : Nat} (ha : k ≤ a.length) (hb : k ≤ b.length) : (Crc.xors (a.take k) (b.take k)).length = k := by
  unfold Crc.xors; simp; omega
theorem xors3_snoc {a b c : List Nat} {k x y z : Nat} (hx : a[k]? = some x) (hy : b[k]? = some y) (hz : c[k]? = some z) :
    xors3 (a.take (k + 1)) (b.take (k + 1)) (c.take (k + 1)) = xors3 (a.take k) (b.take k) (c.take k) ++ [x ^^^ y ^^^ z] := by
  unfold xors3
  rw [xors_snoc hx hy]
  have ha : k < a.length := (List.getElem?_eq_some_iff.1 hx).1
  have hb : k < b.length := (List.getElem?_eq_some_iff.1 hy).1
  have hc : k < c.length := (List.getElem?_eq_some_iff.1 hz).1
  rw [List.take_add_one (l := c), hz, Option.toList_some]
  have hl : (Crc.xors (a.take k) (b.take k)).length = (c.take k).length := by rw [xors_len (by omega) (by omega)]; simp; omega
  unfold Crc.xors at hl ⊢
  rw [List.zipWith_append hl]
  rfl
theorem xors3_len {a b c : List Nat} {k : Nat} (ha : k ≤ a.length) (hb : k ≤ b.length) (hc : k ≤ c.length) : (xors3 (a.take k) (b.take k) (c.take k)).length = k := by
  unfold xors3 Crc.xors; simp; omega
theorem xor_byte {x y : Nat} (hx : x < 256) (hy : y < 256) : x ^^^ y < 256 := Nat.xor_lt_two_pow (n := 8) hx hy
theorem xors3_byt {a b c : List Nat} (ha : Crc.Byt a) (hb : Crc.Byt b) (hc : Crc.Byt c) : ∀ k, Crc.Byt (xors3 (a.take k) (b.take k) (c.take k))
  | 0 => by intro x hx; simp [xors3, Crc.xors] at hx
  | k + 1 => by
    by_cases h : k < a.length ∧ k < b.length ∧ k < c.length
    · obtain ⟨h1, h2, h3⟩ := h
      rw [xors3_snoc (List.getElem?_eq_getElem h1) (List.getElem?_eq_getElem h2) (List.getElem?_eq_getElem h3)]
      intro x hx
      rcases List.mem_append.1 hx with hx | hx
      · exact xors3_byt ha hb hc k x hx
      · simp at hx
        rw [hx]
        exact xor_byte (xor_byte (ha _ (List.getElem_mem _)) (hb _ (List.getElem_mem _))) (hc _ (List.getElem_mem _))
    · have e : xors3 (a.take (k + 1)) (b.take (k + 1)) (c.take (k + 1)) = xors3 (a.take k) (b.take k) (c.take k) := by
        unfold xors3 Crc.xors
        apply List.ext_getElem?
        intro i
        simp only [List.getElem?_zipWith, List.getElem?_take]
        by_cases hi : i < k
        · simp [hi, show i < k + 1 by omega]
        · by_cases hi2 : i < k + 1
          · obtain rfl : i = k := by omega
            simp only [Nat.lt_irrefl, if_false, hi2, if_true]
            have : a[i]? = none ∨ b[i]? = none ∨ c[i]? = none := by
              simp only [List.getElem?_eq_none_iff]; omega
            rcases this with h | h | h <;> rw [h] <;> cases a[i]? <;> cases b[i]? <;> cases c[i]? <;> simp_all
          · simp [hi, hi2]
      rw [e]
      exact xors3_byt ha hb hc k
end Go.Proofs.YtmakcfnmdohedaaDoor
