/- A buffer: Put, Delete. -/
import Derived.Test.YtlnagdodnkhbmaaGreatV5
namespace Go.Proofs.YtlnagdodnkhbmaaGreat
open Go.RowKit Go.Maps Go.WideMaps
set_option maxRecDepth 100000

def PutB (w : World) (B T m : Nat) (ws us : List WR) (c : Int) (e : Ending) (w' : World) : Prop :=
  e = .returned (.int .i64 c) ∧ Buf w' B T m (if c = 0 then us else ws) ∧ Chg [m] w w' [m]
theorem bput_nil (w : World) (s : ByteArray) (r : Ro) : Calls Tryz.prog 22 #[.pointer none, .string s, .agg #[.int .i64 r.a, .int .i64 r.b, .int .i64 r.c, .int .i64 r.d]] w fun e w' => e = .returned (.int .i64 2) ∧ Below w.heap.size w w' := by
  have HBA : Hid (Below w.heap.size w (w.alloc (.cells #[.int .i64 r.a, .int .i64 r.b, .int .i64 r.c, .int .i64 r.d] 41))) := (Below.refl _ _).alloc (Nat.le_refl _) _
  go_enter Tryz.func22, Tryz.ntmps22
  go_wp2_with fail
  refine (bget_nil _ s).mono ?_
  rintro e w1 ⟨rfl, hb1⟩
  have HB1 := hid (below_step HBA.out hb1)
  dsimp only [rowv, rowc, zero4]
  clear hb1
  go_wp2
  go_ret
  exact ⟨rfl, HB1.out.alloc HB1.out.size _⟩
theorem bdel_nil (w : World) (s : ByteArray) : Calls Tryz.prog 24 #[.pointer none, .string s] w fun e w' => e = .returned (.int .i64 2) ∧ Below w.heap.size w w' := by
  go_enter Tryz.func24, Tryz.ntmps24
  go_wp2_with fail
  refine (bget_nil _ s).mono ?_
  rintro e w1 ⟨rfl, hb1⟩
  have HB1 := hid hb1
  dsimp only [rowv, rowc, zero4]
  clear hb1
  go_wp2
  go_ret
  exact ⟨rfl, HB1.out.alloc HB1.out.size _⟩
section
variable {w : World} {T : Nat} {p : Nat → Nat} {Q : Bl} {most o : Nat} {l : List KR} {B m : Nat} {ws : List WR}
theorem bput_bad (h : Buf w B T m ws) (ht : Tab w T p Q most o l) (hlen : ws.length ≤ 1000000) (k : List Nat) (hb : Byt k) (hl : k.length ≤ maxLen) (r : Ro) (hr : r.ok) (hk : keyB k = false) :
    Calls Tryz.prog 22 #[.pointer (some ⟨B, 0, none⟩), .string (str k), .agg #[.int .i64 r.a, .int .i64 r.b, .int .i64 r.c, .int .i64 r.d]] w (PutB w B T m ws (insW ws k (some r)) 13) := by
  have HBA : Hid (Below w.heap.size w (w.alloc (.cells #[.int .i64 r.a, .int .i64 r.b, .int .i64 r.c, .int .i64 r.d] 41))) := (Below.refl _ _).alloc (Nat.le_refl _) _
  have HL := hid (Lies.new w r)
  have HB := hid (h.below HBA.out)
  have HT := hid (ht.below HBA.out)
  have HG := hid (bget HB.out HT.out k hb hl)
  dsimp only [rowc] at HL HB HT HG
  have HBY := hid hb
  have HRO := hid hr
  obtain ⟨A, HA⟩ : ∃ A, Hid (A = kgetR (showW l ws) k) := ⟨_, rfl⟩
  have HE : Hid (kgetE (showW l ws) k = 13) := by show _ = _; unfold kgetE; rw [hk]; rfl
  clear h ht hb hr
  go_enter Tryz.func22, Tryz.ntmps22
  go_wp2_with fail
  refine HG.out.mono ?_
  rw [← HA.out, HE.out]
  rintro e w1 ⟨rfl, hb1⟩
  dsimp only [rowv, rowc]
  have hba : Below w1.heap.size w1 (w1.alloc (.cells #[.int .i64 A.a, .int .i64 A.b, .int .i64 A.c, .int .i64 A.d] 41)) := (Below.refl _ _).alloc (Nat.le_refl _) _
  have HB1 := hid (HB.out.below (below_step hb1 hba))
  have HT1 := hid (HT.out.below (below_step hb1 hba))
  have HL1 := hid (HL.out.below (below_step hb1 hba))
  have HS1 := hid (below_step HBA.out (below_step hb1 hba))
  clear hb1 hba
  go_wp2
  go_ret
  exact ⟨rfl, by rw [if_neg (by decide)]; exact HB1.out, Chg.of_below HS1.out⟩
theorem bput_was (h : Buf w B T m ws) (ht : Tab w T p Q most o l) (hlen : ws.length ≤ 1000000) (k : List Nat) (hb : Byt k) (hl : k.length ≤ maxLen) (r : Ro) (hr : r.ok) (hk : keyB k = true) {s : Ro} (hg : getK (showW l ws) k = some s) :
    Calls Tryz.prog 22 #[.pointer (some ⟨B, 0, none⟩), .string (str k), .agg #[.int .i64 r.a, .int .i64 r.b, .int .i64 r.c, .int .i64 r.d]] w (PutB w B T m ws (insW ws k (some r)) 0) := by
  have HBA : Hid (Below w.heap.size w (w.alloc (.cells #[.int .i64 r.a, .int .i64 r.b, .int .i64 r.c, .int .i64 r.d] 41))) := (Below.refl _ _).alloc (Nat.le_refl _) _
  have HL := hid (Lies.new w r)
  have HB := hid (h.below HBA.out)
  have HT := hid (ht.below HBA.out)
  have HG := hid (bget HB.out HT.out k hb hl)
  dsimp only [rowc] at HL HB HT HG
  have HBY := hid hb
  have HRO := hid hr
  obtain ⟨A, HA⟩ : ∃ A, Hid (A = kgetR (showW l ws) k) := ⟨_, rfl⟩
  have HE : Hid (kgetE (showW l ws) k = 0) := by show _ = _; unfold kgetE; rw [hk, hg]; rfl
  have HKY := hid hk
  clear hg
  clear h ht hb hr
  go_enter Tryz.func22, Tryz.ntmps22
  go_wp2_with fail
  refine HG.out.mono ?_
  rw [← HA.out, HE.out]
  rintro e w1 ⟨rfl, hb1⟩
  dsimp only [rowv, rowc]
  have hba : Below w1.heap.size w1 (w1.alloc (.cells #[.int .i64 A.a, .int .i64 A.b, .int .i64 A.c, .int .i64 A.d] 41)) := (Below.refl _ _).alloc (Nat.le_refl _) _
  have HB1 := hid (HB.out.below (below_step hb1 hba))
  have HT1 := hid (HT.out.below (below_step hb1 hba))
  have HL1 := hid (HL.out.below (below_step hb1 hba))
  have HS1 := hid (below_step HBA.out (below_step hb1 hba))
  clear hb1 hba
  go_wp2
  go_quiet (fail)
  rename_i nq
  have HBN := hid (HB1.out.below (below_drewN' (Below.refl _ _) nq))
  have HLN := hid (HL1.out.below (below_drewN' (Below.refl _ _) nq))
  have HSN := hid (below_drewN' HS1.out nq)
  go_wp2_with fail
  refine (bkeep HBN.out hlen k HBY.out HKY.out (w.heap.size + 1) (some r) ⟨r, rfl, HLN.out⟩ (fun s e => by injection e with e; subst e; exact HRO.out)).mono ?_
  rintro e w9 ⟨⟨u, rfl⟩, hB9, hc9⟩
  have HB9 := hid hB9
  have HC9 := hid hc9
  clear hB9 hc9
  go_wp2
  go_ret
  exact ⟨rfl, by rw [if_pos rfl]; exact HB9.out, (Chg.of_below HSN.out).trans HC9.out⟩
set_option maxHeartbeats 1000000 in
theorem bput_full (h : Buf w B T m ws) (ht : Tab w T p Q most o l) (hlen : ws.length ≤ 1000000) (k : List Nat) (hb : Byt k) (hl : k.length ≤ maxLen) (r : Ro) (hr : r.ok) (hk : keyB k = true) (hg : getK (showW l ws) k = none) (hroom : most ≤ (showW l ws).length) :
    Calls Tryz.prog 22 #[.pointer (some ⟨B, 0, none⟩), .string (str k), .agg #[.int .i64 r.a, .int .i64 r.b, .int .i64 r.c, .int .i64 r.d]] w (PutB w B T m ws (insW ws k (some r)) 16) := by
  have HBA : Hid (Below w.heap.size w (w.alloc (.cells #[.int .i64 r.a, .int .i64 r.b, .int .i64 r.c, .int .i64 r.d] 41))) := (Below.refl _ _).alloc (Nat.le_refl _) _
  have HL := hid (Lies.new w r)
  have HB := hid (h.below HBA.out)
  have HT := hid (ht.below HBA.out)
  have HG := hid (bget HB.out HT.out k hb hl)
  dsimp only [rowc] at HL HB HT HG
  have HBY := hid hb
  have HRO := hid hr
  obtain ⟨A, HA⟩ : ∃ A, Hid (A = kgetR (showW l ws) k) := ⟨_, rfl⟩
  have HE : Hid (kgetE (showW l ws) k = 14) := by show _ = _; unfold kgetE; rw [hk, hg]; rfl
  have HKY := hid hk
  obtain ⟨n, HN⟩ : ∃ n, Hid (n = (showW l ws).length) := ⟨_, rfl⟩
  rw [← HN.out] at hroom
  have hm24 := ht.most_le
  have hri : (most : Int) ≤ (n : Int) := by omega
  clear hg hroom
  clear h ht hb hr
  go_enter Tryz.func22, Tryz.ntmps22
  go_wp2_with fail
  refine HG.out.mono ?_
  rw [← HA.out, HE.out]
  rintro e w1 ⟨rfl, hb1⟩
  dsimp only [rowv, rowc]
  have hba : Below w1.heap.size w1 (w1.alloc (.cells #[.int .i64 A.a, .int .i64 A.b, .int .i64 A.c, .int .i64 A.d] 41)) := (Below.refl _ _).alloc (Nat.le_refl _) _
  have HB1 := hid (HB.out.below (below_step hb1 hba))
  have HT1 := hid (HT.out.below (below_step hb1 hba))
  have HL1 := hid (HL.out.below (below_step hb1 hba))
  have HS1 := hid (below_step HBA.out (below_step hb1 hba))
  clear hb1 hba
  have c0 := HB1.out.c0
  obtain ⟨wa, HWA⟩ : ∃ W, Hid (W = w1.alloc (.cells #[.int .i64 A.a, .int .i64 A.b, .int .i64 A.c, .int .i64 A.d] 41)) := ⟨_, rfl⟩
  have HLEN : Hid (Calls Tryz.prog 16 #[.pointer (some ⟨B, 0, none⟩)] wa.drew fun e w' => e = .returned (.int .i64 (n : Int)) ∧ Below wa.drew.heap.size wa.drew w') := by
    rw [HN.out, HWA.out]
    exact blen (HB1.out.below (below_drew' _)) (HT1.out.below (below_drew' _)) hlen
  go_wp2_with fail
  rw [← HWA.out] at HB1 HT1 HL1 HS1 c0 ⊢
  go_region_held3 (fun W => W.cell? ⟨B, 0, none⟩ = some (.pointer (some ⟨T, 0, none⟩))) (first | exact c0 | exact HS4.out | exact HS5.out)
    (first
      | (go_at_call 50; ((with_reducible refine (tmost (HT1.out.below (below_step (below_drew' wa) HB4.out))).mono ?_); rintro e w5 ⟨rfl, e5⟩; have HS5 : Hid (w5.cell? ⟨B, 0, none⟩ = some (.pointer (some ⟨T, 0, none⟩))) := (by rw [e5]; exact HS4.out); have HB5 : Hid (Below wa.heap.size wa w5) := (by rw [e5]; exact below_step (below_drew' wa) HB4.out); clear e5))
      | (go_at_call 16; ((with_reducible refine HLEN.out.mono ?_); rintro e w4 ⟨rfl, hb4⟩; have HB4 := hid hb4; have HS4 : Hid (w4.cell? ⟨B, 0, none⟩ = some (.pointer (some ⟨T, 0, none⟩))) := below_keep hb4 _ _ c0; clear hb4)))
  go_wp2
  go_ret
  exact ⟨rfl, by rw [if_neg (by decide)]; exact HB1.out.below HB5.out, Chg.of_below (below_step HS1.out HB5.out)⟩
set_option maxHeartbeats 1000000 in
theorem bput_room (h : Buf w B T m ws) (ht : Tab w T p Q most o l) (hlen : ws.length ≤ 1000000) (k : List Nat) (hb : Byt k) (hl : k.length ≤ maxLen) (r : Ro) (hr : r.ok) (hk : keyB k = true) (hg : getK (showW l ws) k = none) (hroom : ¬ most ≤ (showW l ws).length) :
    Calls Tryz.prog 22 #[.pointer (some ⟨B, 0, none⟩), .string (str k), .agg #[.int .i64 r.a, .int .i64 r.b, .int .i64 r.c, .int .i64 r.d]] w (PutB w B T m ws (insW ws k (some r)) 0) := by
  have HBA : Hid (Below w.heap.size w (w.alloc (.cells #[.int .i64 r.a, .int .i64 r.b, .int .i64 r.c, .int .i64 r.d] 41))) := (Below.refl _ _).alloc (Nat.le_refl _) _
  have HL := hid (Lies.new w r)
  have HB := hid (h.below HBA.out)
  have HT := hid (ht.below HBA.out)
  have HG := hid (bget HB.out HT.out k hb hl)
  dsimp only [rowc] at HL HB HT HG
  have HBY := hid hb
  have HRO := hid hr
  obtain ⟨A, HA⟩ : ∃ A, Hid (A = kgetR (showW l ws) k) := ⟨_, rfl⟩
  have HE : Hid (kgetE (showW l ws) k = 14) := by show _ = _; unfold kgetE; rw [hk, hg]; rfl
  have HKY := hid hk
  obtain ⟨n, HN⟩ : ∃ n, Hid (n = (showW l ws).length) := ⟨_, rfl⟩
  rw [← HN.out] at hroom
  have hm24 := ht.most_le
  have hri : ¬ (most : Int) ≤ (n : Int) := by omega
  clear hg hroom
  clear h ht hb hr
  go_enter Tryz.func22, Tryz.ntmps22
  go_wp2_with fail
  refine HG.out.mono ?_
  rw [← HA.out, HE.out]
  rintro e w1 ⟨rfl, hb1⟩
  dsimp only [rowv, rowc]
  have hba : Below w1.heap.size w1 (w1.alloc (.cells #[.int .i64 A.a, .int .i64 A.b, .int .i64 A.c, .int .i64 A.d] 41)) := (Below.refl _ _).alloc (Nat.le_refl _) _
  have HB1 := hid (HB.out.below (below_step hb1 hba))
  have HT1 := hid (HT.out.below (below_step hb1 hba))
  have HL1 := hid (HL.out.below (below_step hb1 hba))
  have HS1 := hid (below_step HBA.out (below_step hb1 hba))
  clear hb1 hba
  have c0 := HB1.out.c0
  obtain ⟨wa, HWA⟩ : ∃ W, Hid (W = w1.alloc (.cells #[.int .i64 A.a, .int .i64 A.b, .int .i64 A.c, .int .i64 A.d] 41)) := ⟨_, rfl⟩
  have HLEN : Hid (Calls Tryz.prog 16 #[.pointer (some ⟨B, 0, none⟩)] wa.drew fun e w' => e = .returned (.int .i64 (n : Int)) ∧ Below wa.drew.heap.size wa.drew w') := by
    rw [HN.out, HWA.out]
    exact blen (HB1.out.below (below_drew' _)) (HT1.out.below (below_drew' _)) hlen
  go_wp2_with fail
  rw [← HWA.out] at HB1 HT1 HL1 HS1 c0 ⊢
  go_region_held3 (fun W => W.cell? ⟨B, 0, none⟩ = some (.pointer (some ⟨T, 0, none⟩))) (first | exact c0 | exact HS4.out | exact HS5.out)
    (first
      | (go_at_call 50; ((with_reducible refine (tmost (HT1.out.below (below_step (below_drew' wa) HB4.out))).mono ?_); rintro e w5 ⟨rfl, e5⟩; have HS5 : Hid (w5.cell? ⟨B, 0, none⟩ = some (.pointer (some ⟨T, 0, none⟩))) := (by rw [e5]; exact HS4.out); have HB5 : Hid (Below wa.heap.size wa w5) := (by rw [e5]; exact below_step (below_drew' wa) HB4.out); clear e5))
      | (go_at_call 16; ((with_reducible refine HLEN.out.mono ?_); rintro e w4 ⟨rfl, hb4⟩; have HB4 := hid hb4; have HS4 : Hid (w4.cell? ⟨B, 0, none⟩ = some (.pointer (some ⟨T, 0, none⟩))) := below_keep hb4 _ _ c0; clear hb4)))
  have HBN := hid (HB1.out.below HB5.out)
  have HLN := hid (HL1.out.below HB5.out)
  have HSN := hid (below_step HS1.out HB5.out)
  go_wp2_with fail
  refine (bkeep HBN.out hlen k HBY.out HKY.out (w.heap.size + 1) (some r) ⟨r, rfl, HLN.out⟩ (fun s e => by injection e with e; subst e; exact HRO.out)).mono ?_
  rintro e w9 ⟨⟨u, rfl⟩, hB9, hc9⟩
  have HB9 := hid hB9
  have HC9 := hid hc9
  clear hB9 hc9
  go_wp2
  go_ret
  exact ⟨rfl, by rw [if_pos rfl]; exact HB9.out, (Chg.of_below HSN.out).trans HC9.out⟩
theorem bput (h : Buf w B T m ws) (ht : Tab w T p Q most o l) (hlen : ws.length ≤ 1000000) (k : List Nat) (hb : Byt k) (hl : k.length ≤ maxLen) (r : Ro) (hr : r.ok) :
    Calls Tryz.prog 22 #[.pointer (some ⟨B, 0, none⟩), .string (str k), .agg #[.int .i64 r.a, .int .i64 r.b, .int .i64 r.c, .int .i64 r.d]] w (PutB w B T m ws (insW ws k (some r)) (kputE most (showW l ws) k)) := by
  unfold kputE
  cases hk : keyB k with
  | false => exact bput_bad h ht hlen k hb hl r hr hk
  | true =>
    cases hg : getK (showW l ws) k with
    | some s => exact bput_was h ht hlen k hb hl r hr hk hg
    | none =>
      by_cases hroom : most ≤ (showW l ws).length
      · simp only [if_true, Option.isSome_none, Bool.false_eq_true, if_false, if_pos hroom]
        exact bput_full h ht hlen k hb hl r hr hk hg hroom
      · simp only [if_true, Option.isSome_none, Bool.false_eq_true, if_false, if_neg hroom]
        exact bput_room h ht hlen k hb hl r hr hk hg hroom
theorem bdel (h : Buf w B T m ws) (ht : Tab w T p Q most o l) (hlen : ws.length ≤ 1000000) (k : List Nat) (hb : Byt k) (hl : k.length ≤ maxLen) :
    Calls Tryz.prog 24 #[.pointer (some ⟨B, 0, none⟩), .string (str k)] w (PutB w B T m ws (insW ws k none) (kgetE (showW l ws) k)) := by
  have HB := hid h
  have HG := hid (bget h ht k hb hl)
  have HBY := hid hb
  obtain ⟨A, HA⟩ : ∃ A, Hid (A = kgetR (showW l ws) k) := ⟨_, rfl⟩
  obtain ⟨E, HE⟩ : ∃ A, Hid (A = kgetE (showW l ws) k) := ⟨_, rfl⟩
  rw [← HE.out]
  clear h ht hb
  by_cases he : E = 0
  · have HKY : Hid (keyB k = true) := by
      show _ = _
      have h5 := HE.out
      unfold kgetE at h5
      cases hk : keyB k with
      | true => rfl
      | false => rw [hk, he] at h5; simp at h5
    rw [he] at HE ⊢
    clear he
    go_enter Tryz.func24, Tryz.ntmps24
    go_wp2_with fail
    refine HG.out.mono ?_
    rw [← HA.out, ← HE.out]
    rintro e w1 ⟨rfl, hb1⟩
    dsimp only [rowv, rowc]
    have hba : Below w1.heap.size w1 (w1.alloc (.cells #[.int .i64 A.a, .int .i64 A.b, .int .i64 A.c, .int .i64 A.d] 41)) := (Below.refl _ _).alloc (Nat.le_refl _) _
    have HB1 := hid (HB.out.below (below_step hb1 hba))
    have HS1 := hid (below_step hb1 hba)
    clear hb1 hba
    go_wp2_with fail
    refine (bkeep HB1.out hlen k HBY.out HKY.out 0 none rfl (fun s e => by cases e)).mono ?_
    rintro e w9 ⟨⟨u, rfl⟩, hB9, hc9⟩
    have HB9 := hid hB9
    have HC9 := hid hc9
    clear hB9 hc9
    go_wp2
    go_ret
    exact ⟨rfl, by rw [if_pos rfl]; exact HB9.out, (Chg.of_below HS1.out).trans HC9.out⟩
  · go_enter Tryz.func24, Tryz.ntmps24
    go_wp2_with fail
    refine HG.out.mono ?_
    rw [← HA.out, ← HE.out]
    rintro e w1 ⟨rfl, hb1⟩
    dsimp only [rowv, rowc]
    have hba : Below w1.heap.size w1 (w1.alloc (.cells #[.int .i64 A.a, .int .i64 A.b, .int .i64 A.c, .int .i64 A.d] 41)) := (Below.refl _ _).alloc (Nat.le_refl _) _
    have HB1 := hid (HB.out.below (below_step hb1 hba))
    have HS1 := hid (below_step hb1 hba)
    clear hb1 hba
    go_wp2
    go_ret
    exact ⟨rfl, by rw [if_neg he]; exact HB1.out, Chg.of_below HS1.out⟩
end
end Go.Proofs.YtlnagdodnkhbmaaGreat

