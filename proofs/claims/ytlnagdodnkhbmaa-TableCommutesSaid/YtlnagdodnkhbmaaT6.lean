/- A table: Delete. -/
import Derived.Test.YtlnagdodnkhbmaaT5
namespace Go.Proofs.Ytlnagdodnkhbmaa
open Go.RowKit
set_option maxRecDepth 100000

set_option maxHeartbeats 1000000 in
theorem tdel_nil (w : World) (s : ByteArray) : Calls Try.prog 26 #[.pointer none, .string s] w (RowEnd w zero4 2) := by
  go_enter Try.func26, Try.ntmps26
  go_wp2_with fail
  refine (tget_nil _ s).mono ?_
  rintro e w1 ⟨rfl, hb1⟩
  have HB1 := hid (below_step (below_zero w) hb1)
  have HBA : Hid (Below w1.heap.size w1 (w1.alloc (.cells (rowc zero4) 33))) := (Below.refl _ _).alloc (Nat.le_refl _) _
  have HZ1 := hid (((lies_zero w).below hb1).below HBA.out)
  have HB2 := hid (below_step HB1.out HBA.out)
  have HL1 := hid (Lies.new w1 zero4)
  clear hb1
  dsimp only [rowv, rowc, zero4] at HZ1 HBA HB2 HL1 ⊢
  have hsame := put4_same HZ1.out
  dsimp only [put4, zero4] at hsame
  obtain ⟨⟨z0, z1, z2, z3⟩, f0, f1, f2, f3⟩ := HZ1.out.cells
  dsimp only [zero4] at z0 z1 z2 z3
  go_wp2
  exact bodyPost_ret (v := .tuple #[rowv zero4, .int .i64 2]) (by simp [results, Try.results26, go_sem, z0, z1, z2, z3, rowv, rowc, zero4]) rfl ⟨rfl, HB2.out⟩
set_option maxHeartbeats 1000000 in
theorem tdel_bad {w : World} (T : Nat) (k : List Nat) (hk : keyB k = false) : Calls Try.prog 26 #[.pointer (some ⟨T, 0, none⟩), .string (str k)] w (RowEnd w zero4 13) := by
  go_enter Try.func26, Try.ntmps26
  go_wp2_with fail
  refine (tget_bad T k hk).mono ?_
  rintro e w1 ⟨rfl, hb1⟩
  have HB1 := hid (below_step (below_zero w) hb1)
  have HBA : Hid (Below w1.heap.size w1 (w1.alloc (.cells (rowc zero4) 33))) := (Below.refl _ _).alloc (Nat.le_refl _) _
  have HZ1 := hid (((lies_zero w).below hb1).below HBA.out)
  have HB2 := hid (below_step HB1.out HBA.out)
  have HL1 := hid (Lies.new w1 zero4)
  clear hb1
  dsimp only [rowv, rowc, zero4] at HZ1 HBA HB2 HL1 ⊢
  have hsame := put4_same HZ1.out
  dsimp only [put4, zero4] at hsame
  obtain ⟨⟨z0, z1, z2, z3⟩, f0, f1, f2, f3⟩ := HZ1.out.cells
  dsimp only [zero4] at z0 z1 z2 z3
  go_wp2
  exact bodyPost_ret (v := .tuple #[rowv zero4, .int .i64 13]) (by simp [results, Try.results26, go_sem, z0, z1, z2, z3, rowv, rowc, zero4]) rfl ⟨rfl, HB2.out⟩
section
variable {w : World} {T : Nat} {p : Nat → Nat} {Q : Bl} {most o : Nat} {l : List KR}
set_option maxHeartbeats 1000000 in
theorem tdel_none (h : Tab w T p Q most o l) (k : List Nat) (hb : Byt k) (hk : keyB k = true) (hg : getK l k = none) : Calls Try.prog 26 #[.pointer (some ⟨T, 0, none⟩), .string (str k)] w (RowEnd w zero4 14) := by
  go_enter Try.func26, Try.ntmps26
  go_wp2_with fail
  refine (tget_none (h.below (below_zero w)) k hb hk hg).mono ?_
  rintro e w1 ⟨rfl, hb1⟩
  have HB1 := hid (below_step (below_zero w) hb1)
  have HBA : Hid (Below w1.heap.size w1 (w1.alloc (.cells (rowc zero4) 33))) := (Below.refl _ _).alloc (Nat.le_refl _) _
  have HZ1 := hid (((lies_zero w).below hb1).below HBA.out)
  have HB2 := hid (below_step HB1.out HBA.out)
  have HL1 := hid (Lies.new w1 zero4)
  clear hb1
  dsimp only [rowv, rowc, zero4] at HZ1 HBA HB2 HL1 ⊢
  have hsame := put4_same HZ1.out
  dsimp only [put4, zero4] at hsame
  obtain ⟨⟨z0, z1, z2, z3⟩, f0, f1, f2, f3⟩ := HZ1.out.cells
  dsimp only [zero4] at z0 z1 z2 z3
  go_wp2
  exact bodyPost_ret (v := .tuple #[rowv zero4, .int .i64 14]) (by simp [results, Try.results26, go_sem, z0, z1, z2, z3, rowv, rowc, zero4]) rfl ⟨rfl, HB2.out⟩
def DelEnd (w : World) (T : Nat) (p : Nat → Nat) (Q : Bl) (most o : Nat) (l : List KR) (r : Ro) (c : Int) (e : Ending) (w' : World) : Prop :=
  e = .returned (.tuple #[rowv r, .int .i64 c]) ∧ Tab w' T p (New Q w w') most o l ∧ Chg (five p) w w' (five p)
set_option maxHeartbeats 1000000 in
theorem tdel_some (h : Tab w T p Q most o l) (k : List Nat) (hb : Byt k) (hk : keyB k = true) {s : Ro} (hg : getK l k = some s) :
    Calls Try.prog 26 #[.pointer (some ⟨T, 0, none⟩), .string (str k)] w (DelEnd w T p Q most o (delK l k) s 0) := by
  have hle := h.le
  have hmo := h.most_le
  have hfu := h.full
  have HT := hid h
  obtain ⟨J, hT, hok, _⟩ := h
  have hlp := delK_len hg
  have hso : s.ok := hok.rows.ok _ (getK_mem hg)
  have HTI := hid hT
  have HOK := hid (hok.del hg hk)
  have HJL : Hid (∀ i, i < 5 → (J i).length ≤ 2000) := fun i hi => by rw [hok.len hi]; omega
  clear hok hT
  go_enter Try.func26, Try.ntmps26
  go_wp2_with fail
  refine (tget_some (HT.out.below (below_zero w)) k hb hk hg).mono ?_
  rintro e w1 ⟨rfl, hb1⟩
  have HB1 := hid (below_step (below_zero w) hb1)
  have HBA : Hid (Below w1.heap.size w1 (w1.alloc (.cells (rowc s) 33))) := (Below.refl _ _).alloc (Nat.le_refl _) _
  have HZ1 := hid (((lies_zero w).below hb1).below HBA.out)
  have HB2 := hid (below_step HB1.out HBA.out)
  have HL1 := hid (Lies.new w1 s)
  clear hb1
  dsimp only [rowv, rowc, zero4] at HZ1 HBA HB2 HL1 ⊢
  go_wp2_with fail
  refine (turn_none _ T p Q most o J k (.pointer (some ⟨w1.heap.size, 0, none⟩)) (some s) (HTI.out.below HB2.out) hb hk HJL.out ⟨_, rfl, HL1.out⟩ (fun x e => by cases e; exact hso)).mono ?_
  rintro e w3 ⟨⟨v, rfl⟩, hr3⟩
  have HR3 := hid (hr3.close HB2.out HTI.out (Nat.le_refl _) HZ1.out.lt s)
  have HZ3 := hid (HZ1.out.keep (hr3.c.block _ HZ1.out.lt ((HTI.out.below HB2.out).rows HZ1.out)))
  have HL3 := hid (HL1.out.keep (hr3.c.block _ HL1.out.lt ((HTI.out.below HB2.out).rows HL1.out)))
  clear hr3
  obtain ⟨⟨z0, z1, z2, z3⟩, f0, f1, f2, f3⟩ := HZ3.out.cells
  obtain ⟨y0, y1, y2, y3⟩ := HL3.out.four
  dsimp only [zero4] at z0 z1 z2 z3
  go_wp2
  obtain ⟨p0, p1, p2, p3⟩ := (HZ3.out.put s).four
  exact bodyPost_ret (v := .tuple #[rowv s, .int .i64 0]) (by simp [results, Try.results26, go_sem, p0, p1, p2, p3, rowv, rowc]) rfl ⟨rfl, HR3.out.tab HOK.out (by omega) hmo, HR3.out.c⟩
theorem tdel (h : Tab w T p Q most o l) (k : List Nat) (hb : Byt k) :
    Calls Try.prog 26 #[.pointer (some ⟨T, 0, none⟩), .string (str k)] w (DelEnd w T p Q most o (kdelN l k) (kgetR l k) (kgetE l k)) := by
  unfold kdelN kgetR kgetE
  cases hk : keyB k with
  | false =>
    refine (tdel_bad T k hk).mono ?_
    rintro e w' ⟨rfl, hb'⟩
    exact ⟨rfl, h.still hb'⟩
  | true =>
    cases hg : getK l k with
    | some s => exact tdel_some h k hb hk hg
    | none =>
      refine (tdel_none h k hb hk hg).mono ?_
      rintro e w' ⟨rfl, hb'⟩
      exact ⟨rfl, h.still hb'⟩
end
end Go.Proofs.Ytlnagdodnkhbmaa
