/- A buffer: Apply, refused. -/
import Derived.Test.YtlnagdodnkhbmaaGreatV12
namespace Go.Proofs.YtlnagdodnkhbmaaGreat
open Go.RowKit Go.Maps Go.WideMaps
set_option maxRecDepth 100000

theorem TreeAt.not_buf {w : World} {a o B T m : Nat} {l : List Pr} {P : Bl} {ws : List WR} (h : TreeAt w a o l P) (hb : Buf w B T m ws) : B ≠ a := by
  obtain ⟨H, n, t, h⟩ := h
  rintro rfl
  have h1 := h.c
  unfold TreeC at h1
  have h2 := hb.c
  rw [h1] at h2
  injection h2 with h2
  injection h2 with _ ht
  exact absurd ht (by decide)
theorem TreeAt.not_map {w : World} {a o m : Nat} {l : List Pr} {P : Bl} {ws : List WR} (h : TreeAt w a o l P) (hb : BufM w m ws) : m ≠ a := by
  obtain ⟨H, n, t, h⟩ := h
  rintro rfl
  have h1 := h.c
  unfold TreeC at h1
  obtain ⟨_, _, _, ⟨_, _, hb, _⟩, _⟩ := hb
  rw [h1] at hb
  cases hb
section
variable {w : World} {T : Nat} {p : Nat → Nat} {Q : Bl} {most o : Nat} {l : List KR} {B m : Nat} {ws : List WR}
theorem Tab.not_buf (h : Tab w T p Q most o l) (hb : Buf w B T m ws) : B ∉ five p := fun hm => by
  obtain ⟨J, hT, _⟩ := h
  obtain ⟨i, hi, e⟩ := mem_five.1 hm
  exact (hT.t i hi).not_buf hb e
theorem Tab.not_map (h : Tab w T p Q most o l) (hb : BufM w m ws) : m ∉ five p := fun hm => by
  obtain ⟨J, hT, _⟩ := h
  obtain ⟨i, hi, e⟩ := mem_five.1 hm
  exact (hT.t i hi).not_map hb e
theorem bapply_nil (w : World) : Calls Tryz.prog 26 #[.pointer none] w fun e w' => e = .returned (.int .i64 2) ∧ Below w.heap.size w w' := by
  go_enter Tryz.func26, Tryz.ntmps26
  go_wp2
  go_ret
  exact ⟨rfl, (Below.refl _ _).alloc (Nat.le_refl _) _⟩
set_option maxHeartbeats 2000000 in
theorem bapply_full (h : Buf w B T m ws) (ht : Tab w T p Q most o l) (hlen : ws.length ≤ 1000000) (hf : most < (showW l ws).length) :
    Calls Tryz.prog 26 #[.pointer (some ⟨B, 0, none⟩)] w fun e w' => e = .returned (.int .i64 16) ∧ Below w.heap.size w w' := by
  obtain ⟨n, HN⟩ : ∃ n, Hid (n = (showW l ws).length) := ⟨_, rfl⟩
  rw [← HN.out] at hf
  have hba : Below w.heap.size w (w.alloc (.cells #[.pointer (some ⟨B, 0, none⟩)] 33)) := (Below.refl _ _).alloc (Nat.le_refl _) _
  have HBA := hid hba
  have HB := hid (h.below hba)
  have HT := hid (ht.below hba)
  have c0 := HB.out.c0
  have cb : (w.alloc (.cells #[.pointer (some ⟨B, 0, none⟩)] 33)).cell? ⟨w.heap.size, 0, none⟩ = some (.pointer (some ⟨B, 0, none⟩)) := (cellNew w (.pointer (some ⟨B, 0, none⟩)) 33).1
  obtain ⟨wb, HWB⟩ : ∃ W, Hid (W = w.alloc (.cells #[.pointer (some ⟨B, 0, none⟩)] 33)) := ⟨_, rfl⟩
  have HL : Hid (∀ W, Below wb.heap.size wb W → Calls Tryz.prog 16 #[.pointer (some ⟨B, 0, none⟩)] W fun e w' => e = .returned (.int .i64 (n : Int)) ∧ Below W.heap.size W w') := fun W hb => by
    rw [HN.out]
    rw [HWB.out] at hb
    exact blen (HB.out.below hb) (HT.out.below hb) hlen
  have HM : Hid (∀ W, Below wb.heap.size wb W → Calls Tryz.prog 50 #[.pointer (some ⟨T, 0, none⟩)] W fun e w' => e = .returned (.int .i64 (most : Int)) ∧ w' = W) := fun W hb => by
    rw [HWB.out] at hb
    exact tmost (HT.out.below hb)
  rw [← HWB.out] at HBA c0 cb
  have hgt : (most : Int) < (n : Int) := by omega
  clear h ht hba
  go_enter Tryz.func26, Tryz.ntmps26
  go_wp2
  rw [← HWB.out]
  go_region_held3 (fun W => W.cell? ⟨w.heap.size, 0, none⟩ = some (.pointer (some ⟨B, 0, none⟩)) ∧ W.cell? ⟨B, 0, none⟩ = some (.pointer (some ⟨T, 0, none⟩))) (first | exact ⟨cb, c0⟩ | exact HS4.out)
    (first
      | (go_at_call 16; ((with_reducible refine (HL.out _ (below_drew' wb)).mono ?_); rintro e w4 ⟨rfl, hb4⟩; have HB4 : Hid (Below wb.heap.size wb w4) := below_step (below_drew' wb) hb4; have HS4 : Hid (w4.cell? ⟨w.heap.size, 0, none⟩ = some (.pointer (some ⟨B, 0, none⟩)) ∧ w4.cell? ⟨B, 0, none⟩ = some (.pointer (some ⟨T, 0, none⟩))) := ⟨below_keep HB4.out _ _ cb, below_keep HB4.out _ _ c0⟩; clear hb4))
      | (go_at_call 50; ((with_reducible refine (HM.out _ (by first | exact below_drew' wb | exact HB4.out)).mono ?_); intro e w5 hh; obtain ⟨rfl, hw5⟩ := hh; rw [hw5]; clear hw5)))
  all_goals
    go_wp2
    go_ret
    exact ⟨rfl, below_step HBA.out HB4.out⟩
end
end Go.Proofs.YtlnagdodnkhbmaaGreat
