import Derived.Test.YtmakcfnmdohedaaDoorT4
namespace Go.Proofs.YtmakcfnmdohedaaDoor
open Go.RowKit

def four (n : Nat) : List Nat := [n % 256, n / 256 % 256, n / 65536 % 256, n / 16777216 % 256]
theorem four_byt (n : Nat) : Crc.Byt (four n) := by
  intro b hb
  simp [four] at hb
  omega

theorem four_row {w : World} {n : Nat} {e : TypeId} {a b c d : Int} (ha : a = ((n % 256 : Nat) : Int)) (hb : b = ((n / 256 % 256 : Nat) : Int)) (hc : c = ((n / 65536 % 256 : Nat) : Int)) (hd : d = ((n / 16777216 % 256 : Nat) : Int)) :
    Sl .u8 (w.alloc (.cells #[.int .u8 a, .int .u8 b, .int .u8 c, .int .u8 d] e)) (.slice (some ⟨w.heap.size, 0, none⟩) 4 4) (four n) := by
  subst ha; subst hb; subst hc; subst hd
  refine Sl.row (xs := four n) (c := 4) (heap_alloc_new w _) (by simp [four]) (by simp [maxLen]) ?_
  intro i x hi
  match i with
  | 0 | 1 | 2 | 3 => simp [four] at hi ⊢; omega
  | i + 4 => simp [four] at hi

theorem Tryd.info5 : (Tryd.prog.info? 5).map (fun i => (i.zero, i.size, i.bytes)) = some (some (.int .u8 0), 1, 1) := by kernel_rfl

theorem four_any (w : World) (n : Nat) (hn : n < 4294967296) :
    Calls Tryd.prog 14 #[.int .i64 n] w fun e w' => ∃ v, e = .returned v ∧ Sl .u8 w' v (four n) ∧ Below w.heap.size w w' := by
  go_enter Tryd.func14, Tryd.ntmps14
  go_wp2
  go_ret
  exact ⟨_, rfl, four_row (by omega) (by omega) (by omega) (by omega), (Below.refl _ _).alloc (Nat.le_refl _) _⟩

def sealed (xs : List Nat) : List Nat := xs ++ four (Crc.sum 0 xs)

theorem own_of {w : World} {base e n : Nat} {v : Value} (h : w.ownsRow base e 1 v 0 []) : Own .u8 w base e v [] := h

theorem sealed_any (w : World) (v : Value) (xs : List Nat) (hs : Sl .u8 w v xs) (hb : Crc.Byt xs) (ht : Tab w) (hl : xs.length ≤ 1000000000000) :
    Calls Tryd.prog 16 #[v] w fun e w' => ∃ v, e = .returned v ∧ Sl .u8 w' v (sealed xs) ∧ Below w.heap.size w w' := by
  obtain ⟨i0, hi, hz0, hz1, hz2⟩ := info_parts Tryd.info5
  have HS := hid hs
  obtain ⟨A, cap, rfl, hlc, hm, _, hc⟩ := hs
  clear hc
  have hsum := Crc.sum_lt (n := 0) (by omega) hb
  obtain ⟨S, HSum⟩ : ∃ S, Hid (S = Crc.sum 0 xs) := ⟨_, rfl⟩
  rw [← HSum.out] at hsum
  obtain ⟨len, HL⟩ : ∃ len, Hid (len = xs.length) := ⟨_, rfl⟩
  rw [← HL.out] at hl hlc HS ⊢
  go_enter Tryd.func16, Tryd.ntmps16
  go_wp2_with fail
  refine (sum_any w _ xs HS.out hb ht).mono ?_
  rw [← HSum.out]
  rintro e w' ⟨rfl, rfl⟩
  go_wp2_with (first | (at_make; refine wpList_make_own _ rfl _ _ 22 rfl w.heap.size 5 i0 (.int .u8 0) 1 Tryd.underlying22 hi hz0 hz1 .i64 .i64 _ (len + 4) rfl rfl (by omega) (by rw [hz2]; omega) (by unfold maxLen; omega) (Nat.le_refl _) ?_; intro w1 hown1 hgrow1; have hb1 := below_grown hgrow1 (Nat.le_refl _) (fun k h => by cases h)) | (at_builtin; refine wpList_append_sl _ rfl (.tmp 10) (.tmp 11) 22 rfl w.heap.size 5 i0 (.int .u8 0) 1 Tryd.underlying22 hi hz0 hz1 hz2 rfl .u8 _ [] rfl hown1 _ xs rfl (HS.out.below hb1) (by rw [← HL.out]; unfold maxLen; simp; omega) (by rw [← HL.out]; simp; omega) hb1.size ?_; intro v2 w2 hown2 hgrow2 hb2; rw [List.nil_append] at hown2) | (at_builtin; refine wpList_append_sl _ rfl (.tmp 13) (.tmp 25) 22 rfl w.heap.size 5 i0 (.int .u8 0) 1 Tryd.underlying22 hi hz0 hz1 hz2 rfl .u8 _ xs rfl (hown2.alloc _) _ (four S) rfl (four_row (by omega) (by omega) (by omega) (by omega)) (by rw [← HL.out]; unfold maxLen; simp [four]; omega) (by rw [← HL.out]; simp [four]; omega) (by have := hb1.size; have := hb2.size; simp; omega) ?_; intro v3 w3 hown3 hgrow3 hb3))
  go_ret
  refine ⟨_, rfl, ?_, ?_⟩
  · have := hown3.sl
    rw [HSum.out] at this
    exact this
  · exact ((hb1.trans hb2).alloc (by have := hb1.size; have := hb2.size; omega) _).trans hb3
end Go.Proofs.YtmakcfnmdohedaaDoor
