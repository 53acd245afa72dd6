/- The reference's table: what Put refuses; Delete. -/
import Derived.Test.YtlnagdodnkhbmaaT8
namespace Go.Proofs.Ytlnagdodnkhbmaa
open Go.RowKit
set_option maxRecDepth 100000

section
variable {w : World} {F : List Nat} {p most : Nat} {l : List KR}
theorem rput_bad (w : World) (p : Nat) (k : List Nat) (hk : keyB k = false) (r : Ro) : Calls Try.prog 29 #[.pointer (some ⟨p, 0, none⟩), .string (str k), rowv r] w fun e w' => e = .returned (.tuple #[rowv zero4, .bool false, .int .i64 13]) ∧ Below w.heap.size w w' := by
  have HS0 := hid (put_start w r)
  have hsame := put4_same HS0.out.2.1
  dsimp only [put4, zero4] at hsame
  obtain ⟨⟨z0, z1, z2, z3⟩, f0, f1, f2, f3⟩ := HS0.out.2.1.cells
  dsimp only [zero4] at z0 z1 z2 z3
  unfold rowv rowc
  go_enter Try.func29, Try.ntmps29
  go_wp2_with fail
  refine (rright _ k).mono ?_
  rw [hk]
  rintro e w' ⟨rfl, rfl⟩
  go_wp2
  exact bodyPost_ret (v := .tuple #[rowv zero4, .bool false, .int .i64 13]) (by simp [results, Try.results29, go_sem, z0, z1, z2, z3, rowv, rowc, zero4]) rfl ⟨rfl, HS0.out.2.2⟩
set_option maxHeartbeats 1000000 in
theorem rput_full (hR : RTab w F p most l) (hl : KByt l) (k : List Nat) (hb : Byt k) (hsz : l.length ≤ 1024) (hk : keyB k = true) (hg : getK l k = none) (hf : most ≤ l.length) (r : Ro) :
    Calls Try.prog 29 #[.pointer (some ⟨p, 0, none⟩), .string (str k), rowv r] w fun e w' => e = .returned (.tuple #[rowv zero4, .bool false, .int .i64 16]) ∧ Below w.heap.size w w' := by
  have HR := hid hR
  obtain ⟨u, h1, h2, hF, hlt2, hpn⟩ := hR
  obtain ⟨A, cap, rfl⟩ := h2.slice
  obtain ⟨len, HLEN⟩ : ∃ len, Hid (len = l.length) := ⟨_, rfl⟩
  have hpw := cell_of_row _ p 0 _ _ _ h1
  have hmw := cell_of_row _ p 1 _ _ _ h1
  simp at hpw hmw
  rw [← HLEN.out] at hpw
  have hm : len ≤ 1024 := by rw [HLEN.out]; exact hsz
  have hfi : (most : Int) ≤ (len : Int) := by have := HLEN.out; omega
  have hfd : decide ((most : Int) ≤ (len : Int)) = true := decide_eq_true hfi
  have hfn : decide (most ≤ len) = true := by rw [decide_eq_true_iff]; have := HLEN.out; omega
  have hfg : most ≤ len := by have := HLEN.out; omega
  have HG := hid hg
  have HS0 := hid (put_start w r)
  have hp0 := below_keep HS0.out.2.2 _ _ hpw
  have hm0 := below_keep HS0.out.2.2 _ _ hmw
  clear h1 h2 hg hsz hF hlt2 hpn hpw hmw hf
  unfold rowv rowc
  go_enter Try.func29, Try.ntmps29
  go_wp2_with fail
  refine (rright _ k).mono ?_
  rw [hk]
  rintro e w' ⟨rfl, rfl⟩
  go_wp2_with fail
  refine (rhas (HR.out.below HS0.out.2.2) hl k hb).mono ?_
  rw [HG.out]
  rintro e w' ⟨rfl, rfl⟩
  go_wp2
  go_quiet (fail)
  rename_i nq
  obtain ⟨wd, HWD⟩ : ∃ wd, Hid (wd = World.drewN ((w.alloc (.cells #[.int .i64 r.a, .int .i64 r.b, .int .i64 r.c, .int .i64 r.d] 33)).alloc (.cells #[.int .i64 0, .int .i64 0, .int .i64 0, .int .i64 0] 33)) nq) := ⟨_, rfl⟩
  have HBD : Hid (Below w.heap.size w wd) := by rw [HWD.out]; exact below_drewN' HS0.out.2.2 nq
  have HLZ : Hid (Lies wd (w.heap.size + 1) zero4) := by rw [HWD.out]; exact HS0.out.2.1
  rw [← HWD.out]
  have hsame := put4_same HLZ.out
  dsimp only [put4, zero4] at hsame
  obtain ⟨⟨z0, z1, z2, z3⟩, f0, f1, f2, f3⟩ := HLZ.out.cells
  dsimp only [zero4] at z0 z1 z2 z3
  clear hp0 hm0
  go_wp2
  exact bodyPost_ret (v := .tuple #[rowv zero4, .bool false, .int .i64 16]) (by simp [results, Try.results29, go_sem, z0, z1, z2, z3, rowv, rowc, zero4]) rfl ⟨rfl, HBD.out⟩
/-- What a call of the reference's table leaves. -/
def REnd (w : World) (F : List Nat) (p most : Nat) (l : List KR) (u : Value) (e : Ending) (w' : World) : Prop :=
  e = .returned u ∧ ∃ F', RTab w' F' p most l ∧ Chg [p] w w' [p] ∧ ∀ b ∈ F', b ∈ F ∨ w.heap.size ≤ b
theorem RTab.still (h : RTab w F p most l) {u : Value} {e : Ending} {w' : World} (he : e = .returned u) (hb : Below w.heap.size w w') : REnd w F p most l u e w' :=
  ⟨he, F, h.below hb, Chg.of_below hb, fun _ h => .inl h⟩
theorem RTurn.end_ {l' : List KR} (h : RTab w F p most l) {u : Value} {e : Ending} {w' : World} (hr : RTurn w p most l' u e w') : REnd w F p most l' u e w' := by
  obtain ⟨he, F', h1, h2, h3⟩ := hr
  refine ⟨he, F', h1, h2, fun b hb => ?_⟩
  rcases h3 b hb with rfl | hh
  · exact .inl h.mem
  · exact .inr hh
theorem rput (hR : RTab w F p most l) (hl : KByt l) (k : List Nat) (hb : Byt k) (hsz : l.length ≤ 1024) (r : Ro) :
    Calls Try.prog 29 #[.pointer (some ⟨p, 0, none⟩), .string (str k), rowv r] w (REnd w F p most (kputN most l k r) (.tuple #[rowv (kgetR l k), .bool (kputW l k), .int .i64 (kputE most l k)])) := by
  unfold kputN kgetR kputW kputE
  cases hk : keyB k with
  | false =>
    refine (rput_bad w p k hk r).mono ?_
    rintro e w' ⟨rfl, hb'⟩
    exact hR.still rfl hb'
  | true =>
    cases hg : getK l k with
    | some s =>
      refine (rput_was hR hl k hb hsz hk hg r).mono ?_
      intro e w' h
      exact h.end_ hR
    | none =>
      by_cases hf : most ≤ l.length
      · refine (rput_full hR hl k hb hsz hk hg hf r).mono ?_
        rintro e w' ⟨rfl, hb'⟩
        simp only [if_true, Option.isSome_none, Bool.false_eq_true, if_false, if_pos hf]
        exact hR.still rfl hb'
      · simp only [if_true, Option.isSome_none, Bool.false_eq_true, if_false, if_neg hf]
        refine (rput_new hR hl k hb hsz hk hg (by omega) r).mono ?_
        intro e w' h
        exact h.end_ hR
theorem rget (hR : RTab w F p most l) (hl : KByt l) (k : List Nat) (hb : Byt k) : Calls Try.prog 31 #[.pointer (some ⟨p, 0, none⟩), .string (str k)] w (RowEnd w (kgetR l k) (kgetE l k)) := by
  unfold kgetR kgetE
  cases hk : keyB k with
  | false => exact rget_bad w p k hk
  | true =>
    cases hg : getK l k with
    | none => exact rget_none hR hl k hb hk hg
    | some r => exact rget_some hR hl k hb hk hg
set_option maxHeartbeats 1000000 in
theorem rdel_bad (w : World) (p : Nat) (k : List Nat) (hk : keyB k = false) : Calls Try.prog 30 #[.pointer (some ⟨p, 0, none⟩), .string (str k)] w (RowEnd w zero4 13) := by
  go_enter Try.func30, Try.ntmps30
  go_wp2_with fail
  refine (rget_bad _ p k hk).mono ?_
  rintro e w1 ⟨rfl, hb1⟩
  have HB1 := hid (below_step (below_zero w) hb1)
  have HBA : Hid (Below w1.heap.size w1 (w1.alloc (.cells (rowc zero4) 33))) := (Below.refl _ _).alloc (Nat.le_refl _) _
  have HZ1 := hid (((lies_zero w).below hb1).below HBA.out)
  have HB2 := hid (below_step HB1.out HBA.out)
  have HL1 := hid (Lies.new w1 zero4)
  clear hb1
  dsimp only [rowv, rowc, zero4] at HZ1 HBA HB2 HL1 ⊢
  have hsame := put4_same HZ1.out
  dsimp only [put4, zero4] at hsame
  obtain ⟨⟨z0, z1, z2, z3⟩, f0, f1, f2, f3⟩ := HZ1.out.cells
  dsimp only [zero4] at z0 z1 z2 z3
  go_wp2
  exact bodyPost_ret (v := .tuple #[rowv zero4, .int .i64 13]) (by simp [results, Try.results30, go_sem, z0, z1, z2, z3, rowv, rowc, zero4]) rfl ⟨rfl, HB2.out⟩
set_option maxHeartbeats 1000000 in
theorem rdel_none (hR : RTab w F p most l) (hl : KByt l) (k : List Nat) (hb : Byt k) (hk : keyB k = true) (hg : getK l k = none) : Calls Try.prog 30 #[.pointer (some ⟨p, 0, none⟩), .string (str k)] w (RowEnd w zero4 14) := by
  go_enter Try.func30, Try.ntmps30
  go_wp2_with fail
  refine (rget_none (hR.below (below_zero w)) hl k hb hk hg).mono ?_
  rintro e w1 ⟨rfl, hb1⟩
  have HB1 := hid (below_step (below_zero w) hb1)
  have HBA : Hid (Below w1.heap.size w1 (w1.alloc (.cells (rowc zero4) 33))) := (Below.refl _ _).alloc (Nat.le_refl _) _
  have HZ1 := hid (((lies_zero w).below hb1).below HBA.out)
  have HB2 := hid (below_step HB1.out HBA.out)
  have HL1 := hid (Lies.new w1 zero4)
  clear hb1
  dsimp only [rowv, rowc, zero4] at HZ1 HBA HB2 HL1 ⊢
  have hsame := put4_same HZ1.out
  dsimp only [put4, zero4] at hsame
  obtain ⟨⟨z0, z1, z2, z3⟩, f0, f1, f2, f3⟩ := HZ1.out.cells
  dsimp only [zero4] at z0 z1 z2 z3
  go_wp2
  exact bodyPost_ret (v := .tuple #[rowv zero4, .int .i64 14]) (by simp [results, Try.results30, go_sem, z0, z1, z2, z3, rowv, rowc, zero4]) rfl ⟨rfl, HB2.out⟩
set_option maxHeartbeats 2000000 in
theorem rdel_some (hR : RTab w F p most l) (hl : KByt l) (k : List Nat) (hb : Byt k) (hsz : l.length ≤ 1024) (hk : keyB k = true) {s : Ro} (hg : getK l k = some s) :
    Calls Try.prog 30 #[.pointer (some ⟨p, 0, none⟩), .string (str k)] w (RTurn w p most (delK l k) (.tuple #[rowv s, .int .i64 0])) := by
  obtain ⟨i0, hi0, hz0, hs0, hy0⟩ := info_parts qinfo
  have HR := hid hR
  obtain ⟨u, h1, h2, hF, hlt2, hpn⟩ := hR
  obtain ⟨A, cap, rfl⟩ := h2.slice
  have H1 := hid h1
  have hcap := h2.cap
  obtain ⟨n, HNE⟩ : ∃ n, Hid (n = atN (lines l) k) := ⟨_, rfl⟩
  obtain ⟨len, HLEN⟩ : ∃ len, Hid (len = l.length) := ⟨_, rfl⟩
  have hle := atN_le (lines l) k
  rw [lines_len] at hle
  have HSZ : Hid (l.length ≤ 1024) := hsz
  have hpw := cell_of_row _ p 0 _ _ _ h1
  have hmw := cell_of_row _ p 1 _ _ _ h1
  simp at hpw hmw
  rw [← HNE.out] at hle
  rw [← HLEN.out] at hle hcap hpw
  have hm : len ≤ 1024 := by rw [HLEN.out]; exact hsz
  have HP := hid hpw
  have HM := hid hmw
  have hat := getK_some hg
  rw [← HNE.out] at hat
  have hlt : n < len := by rw [HLEN.out]; exact (List.getElem?_eq_some_iff.1 hat).1
  have hlti : (n : Int) < len := by omega
  obtain ⟨VA, HVA⟩ : ∃ V, Hid (V = sliced A 0 n cap 5) := ⟨_, rfl⟩
  obtain ⟨VC, HVC⟩ : ∃ V, Hid (V = sliced A (n + 1) len cap 5) := ⟨_, rfl⟩
  have hcA : ∀ W, (Instr.slice 66 (.slice A len cap) none (some (.int .i64 (n : Int))) none).run Try.prog W = .ok VA W := fun W => by rw [HVA.out]; exact qcut_to W A len cap n (by omega)
  have hcC : ∀ W, (Instr.slice 66 (.slice A len cap) (some (.int .i64 ((n : Int) + 1))) none none).run Try.prog W = .ok VC W := fun W => by rw [HVC.out]; have := qcut_from W A len cap (n + 1) (by omega); rwa [show ((n + 1 : Nat) : Int) = (n : Int) + 1 by omega] at this
  have HRA : Hid (Elems 5 cQ w VA (l.take n)) := by rw [HVA.out]; exact h2.to_ cQ_len (by have := HLEN.out; omega)
  have HRC : Hid (Elems 5 cQ w VC (l.drop (n + 1))) := by rw [HVC.out, HLEN.out]; exact h2.from_ cQ_len (by have := HLEN.out; omega)
  obtain ⟨LP, HLP⟩ : ∃ LP, Hid (LP = l.take n ++ l.drop (n + 1)) := ⟨_, rfl⟩
  have HDEL : Hid (delK l k = LP) := by
    show _ = _
    unfold delK; rw [HLP.out, ← HNE.out]
  rw [HDEL.out]
  clear h1 h2 hsz hF hlt2 hpn hpw hmw hat
  go_enter Try.func30, Try.ntmps30
  go_wp2_with fail
  refine (rget_some (HR.out.below (below_zero w)) hl k hb hk hg).mono ?_
  rintro e w1 ⟨rfl, hb1⟩
  have HB1 := hid (below_step (below_zero w) hb1)
  have HBA : Hid (Below w1.heap.size w1 (w1.alloc (.cells (rowc s) 33))) := (Below.refl _ _).alloc (Nat.le_refl _) _
  have HZ1 := hid (((lies_zero w).below hb1).below HBA.out)
  have HB2 := hid (below_step HB1.out HBA.out)
  have HL1 := hid (Lies.new w1 s)
  clear hb1
  dsimp only [rowv, rowc, zero4] at HZ1 HBA HB2 HL1 ⊢
  obtain ⟨wd, HWD⟩ : ∃ wd, Hid (wd = w1.alloc (.cells #[.int .i64 s.a, .int .i64 s.b, .int .i64 s.c, .int .i64 s.d] 33)) := ⟨_, rfl⟩
  rw [← HWD.out] at HZ1 HB2 HL1
  go_wp2_with fail
  rw [← HWD.out]
  refine (rat (HR.out.below HB2.out) hl k hb).mono ?_
  rw [← HNE.out]
  rintro e w' ⟨rfl, rfl⟩
  have hpa := below_keep HB2.out _ _ HP.out
  clear hg
  go_wp2_with (first
    | (at_builtin; refine wpList_append_rows _ rfl (.tmp 32) (.tmp 39) 66 rfl w.heap.size 94 i0 _ 5 48 Try.underlying66 hi0 hz0 hs0 hy0 rfl (by omega) cQ_one v2 _ rfl HO2.out _ _ rfl (HRC.out.below HB3.out) (by have := HSZ.out; simp [maxLen]; omega) (by have := HSZ.out; simp; omega) HB3.out.size ?_; intro v3 w3 ho3 hg3 hf3; obtain ⟨A3, N3, c3, rfl⟩ := (OwnElems.rows ho3).form; have HO3 := hid ho3; have HB4 := hid (HB3.out.grown hg3 HB3.out.size (fun g hg => (HO2.out.lt g (mem_ownFoot.2 hg)).1)); have HZ3 := hid (HZ2.out.grown hg3 (HO2.out.ne_ HZ2.out (by decide))); have HT3 := hid (HL2.out.grown hg3 (HO2.out.ne_ HL2.out (by decide))); have H13 : Hid (w3.heap[p]? = some (.cells #[.slice A l.length cap, .int .i64 (most : Int)] 68 (0, 0))) := (HB4.out.block _ (Array.getElem?_eq_some_iff.1 H1.out).1).trans H1.out; have hp3 := below_keep HB4.out _ _ HP.out; have hz3 : w3.frozen? ⟨p, 0, none⟩ = false := (by have h := H13.out; simp [World.frozen?, h]); have hn1 : p ≠ w1.heap.size := HT3.out.ne_blk H13.out; have hn2 : p ≠ w.heap.size := HZ3.out.ne_blk H13.out; have HF := hid (rturn_of H1.out HB4.out HO3.out (Nat.le_refl _) HZ3.out s); have HPP : Hid (Lies (put4 (w3.setCell ⟨p, 0, none⟩ (.slice A3 N3 c3)) w.heap.size s) w.heap.size s) := Lies.put (HZ3.out.keep (Below.heap_setCell _ _ _ _ (Ne.symm hn2))) s; have HTS := hid (HT3.out.keep (w' := w3.setCell ⟨p, 0, none⟩ (.slice A3 N3 c3)) (Below.heap_setCell _ _ _ _ (Ne.symm hn1))); have HZS := hid (HZ3.out.keep (w' := w3.setCell ⟨p, 0, none⟩ (.slice A3 N3 c3)) (Below.heap_setCell _ _ _ _ (Ne.symm hn2))); obtain ⟨y0, y1, y2, y3⟩ := HTS.out.four; obtain ⟨⟨z0, z1, z2, z3⟩, f0, f1, f2, f3⟩ := HZS.out.cells; (try dsimp only [zero4] at z0 z1 z2 z3 y0 y1 y2 y3); clear ho3 hg3 hf3)
    | (at_builtin; refine wpList_append_rows _ rfl (.tmp 23) (.tmp 29) 66 rfl w.heap.size 94 i0 _ 5 48 Try.underlying66 hi0 hz0 hs0 hy0 rfl (by omega) cQ_one (.slice none 0 0) _ rfl (OwnElems.nil _ _ _ _ _) _ _ rfl (HRA.out.below HB2.out) (by have := HSZ.out; simp [maxLen]; omega) (by have := HSZ.out; simp; omega) HB2.out.size ?_; intro v2 w2 ho2 hg2 hf2; rw [List.nil_append] at ho2; have HO2 := hid ho2; have HB3 := hid (HB2.out.grown hg2 HB2.out.size (fun g hg => by simp [Value.ownBlock] at hg)); have HZ2 := hid (HZ1.out.grown hg2 (by simp [ownFoot, Value.ownBlock])); have HL2 := hid (HL1.out.grown hg2 (by simp [ownFoot, Value.ownBlock])); have hp2 := below_keep HB3.out _ _ HP.out; clear ho2 hg2 hf2 hpa))
  obtain ⟨p0, p1, p2, p3⟩ := HPP.out.four
  dsimp only [put4] at p0 p1 p2 p3
  exact bodyPost_ret (v := .tuple #[rowv s, .int .i64 0]) (by simp [results, Try.results30, go_sem, p0, p1, p2, p3, rowv, rowc]) rfl (by rw [HLP.out]; exact ⟨rfl, HF.out⟩)
theorem rdel (hR : RTab w F p most l) (hl : KByt l) (k : List Nat) (hb : Byt k) (hsz : l.length ≤ 1024) :
    Calls Try.prog 30 #[.pointer (some ⟨p, 0, none⟩), .string (str k)] w (REnd w F p most (kdelN l k) (.tuple #[rowv (kgetR l k), .int .i64 (kgetE l k)])) := by
  unfold kdelN kgetR kgetE
  cases hk : keyB k with
  | false =>
    refine (rdel_bad w p k hk).mono ?_
    rintro e w' ⟨rfl, hb'⟩
    exact hR.still rfl hb'
  | true =>
    cases hg : getK l k with
    | some s =>
      refine (rdel_some hR hl k hb hsz hk hg).mono ?_
      intro e w' h
      exact h.end_ hR
    | none =>
      refine (rdel_none hR hl k hb hk hg).mono ?_
      rintro e w' ⟨rfl, hb'⟩
      exact hR.still rfl hb'
end
end Go.Proofs.Ytlnagdodnkhbmaa
