/- The reference's table: Put, Delete. -/
import Derived.Test.YtlnagdodnkhbmaaT7
namespace Go.Proofs.Ytlnagdodnkhbmaa
open Go.RowKit
set_option maxRecDepth 100000

theorem qinfo : (Try.prog.info? 94).map (fun i => (i.zero, i.size, i.bytes)) = some (some (.agg #[.string ⟨#[]⟩, .int .i64 0, .int .i64 0, .int .i64 0, .int .i64 0]), 5, 48) := by kernel_rfl
theorem qelem : Try.prog.elem 66 = 94 := by kernel_rfl
theorem qsize (W : World) : (sizeOf 94).run Try.prog W = .ok 5 W := by kernel_rfl
theorem qcut_to (W : World) (A : Option Addr) (len cap h : Nat) (hh : h ≤ cap) : (Instr.slice 66 (.slice A len cap) none (some (.int .i64 (h : Int))) none).run Try.prog W = .ok (sliced A 0 h cap 5) W := by
  have e := run_slice_h (P := Try.prog) (w := W) 66 A len cap (by rw [qelem]; exact Try.underlying66) .i64 (h : Int) (by omega) (by omega)
  rw [qelem, qsize] at e
  simpa [Result.andThen] using e
theorem qcut_from (W : World) (A : Option Addr) (len cap a : Nat) (ha : a ≤ len) : (Instr.slice 66 (.slice A len cap) (some (.int .i64 (a : Int))) none none).run Try.prog W = .ok (sliced A a len cap 5) W := by
  have e := run_slice_l (P := Try.prog) (w := W) 66 A len cap (by rw [qelem]; exact Try.underlying66) .i64 (a : Int) (by omega) (by omega)
  rw [qelem, qsize] at e
  simpa [Result.andThen] using e

/-- Behind a call that turned the table at p alone. -/
def RTurn (w : World) (p most : Nat) (l : List KR) (u : Value) (e : Ending) (w' : World) : Prop :=
  e = .returned u ∧ ∃ F', RTab w' F' p most l ∧ Chg [p] w w' [p] ∧ ∀ b ∈ F', b = p ∨ w.heap.size ≤ b
/-- The table, once p's cell names a row that the call made; then a row is stored where the call's result lies. -/
theorem rturn_of {w w3 : World} {p most g : Nat} {l : List KR} {u0 v3 : Value} (h1 : w.heap[p]? = some (.cells #[u0, .int .i64 (most : Int)] 68 (0, 0))) (hb : Below w.heap.size w w3) (ho : OwnElems 5 cQ 94 w3 w.heap.size v3 l)
    (hg : w.heap.size ≤ g) {r0 : Ro} (hl : Lies w3 g r0) (r : Ro) :
    ∃ F', RTab (put4 (w3.setCell ⟨p, 0, none⟩ v3) g r) F' p most l ∧ Chg [p] w (put4 (w3.setCell ⟨p, 0, none⟩ v3) g r) [p] ∧ ∀ b ∈ F', b = p ∨ w.heap.size ≤ b := by
  have hpl : p < w.heap.size := (Array.getElem?_eq_some_iff.1 h1).1
  have h3 : w3.heap[p]? = _ := (hb.block _ hpl).trans h1
  have hne : p ∉ ownFoot v3 := fun hm => by have := (ho.lt p hm).1; omega
  have hgf : g ∉ ownFoot v3 := ho.ne_ hl (by decide)
  have hk1 : ∀ b ∈ ownFoot v3, (w3.setCell ⟨p, 0, none⟩ v3).heap[b]? = w3.heap[b]? := fun b hbb => Below.heap_setCell _ _ _ _ (fun e => hne (by rw [e] at hbb; exact hbb))
  have hk2 : ∀ b ∈ ownFoot v3, (put4 (w3.setCell ⟨p, 0, none⟩ v3) g r).heap[b]? = w3.heap[b]? := fun b hbb => (put4_far (fun e => hgf (by rw [e] at hbb; exact hbb))).trans (hk1 b hbb)
  have hc : Chg [p] w (w3.setCell ⟨p, 0, none⟩ v3) [p] := (Chg.of_below (F := [p]) hb).setCell (by simp) _
  have hc2 : Chg [p] w (put4 (w3.setCell ⟨p, 0, none⟩ v3) g r) [p] := ((hc.less (K := [g, p]) fun k hk => by simp at hk; rcases hk with rfl | rfl; exact .inr hg; exact .inl (by simp)).put4 (by simp) r).less fun k hk => .inl (by simp at hk; simp [hk])
  refine ⟨p :: ownFoot v3, ⟨v3, ?_, ho.rows.keep hk2, rfl, fun b hbb => ?_, hne⟩, hc2, fun b hbb => ?_⟩
  · rw [put4_far (by omega)]
    simp [World.setCell, Array.getElem?_modify, h3]
  · have := (ho.lt b hbb).2
    simpa [put4, World.setCell] using this
  · rcases List.mem_cons.1 hbb with rfl | hbb
    · exact .inl rfl
    · exact .inr (ho.lt b hbb).1
theorem OwnElems.put4_ {w : World} {base g : Nat} {v : Value} {l : List KR} {r0 : Ro} (ho : OwnElems 5 cQ 94 w base v l) (hl : Lies w g r0) (r : Ro) : OwnElems 5 cQ 94 (put4 w g r) base v l :=
  ho.keep fun b hb => put4_far fun e => ho.ne_ hl (by decide) (by rw [e] at hb; exact hb)
theorem Lies.grown {w w' : World} {g : Nat} {r : Ro} {v : Value} (hl : Lies w g r) (hg : w.grownBy w' v.ownBlock) (hne : g ∉ ownFoot v) : Lies w' g r :=
  hl.keep (hg.block g hl.lt fun e => hne (mem_ownFoot.2 e.symm))
theorem Lies.ne_blk {w : World} {p g : Nat} {r : Ro} {u0 : Value} {most : Nat} (hl : Lies w g r) (h1 : w.heap[p]? = some (.cells #[u0, .int .i64 (most : Int)] 68 (0, 0))) : p ≠ g := by
  rintro rfl
  unfold Lies at hl
  rw [h1] at hl
  injection hl with hl
  injection hl with _ ht
  exact absurd ht (by decide)
section
variable {w : World} {F : List Nat} {p most : Nat} {l : List KR}
set_option maxHeartbeats 2000000 in
theorem rput_was (hR : RTab w F p most l) (hl : KByt l) (k : List Nat) (hb : Byt k) (hsz : l.length ≤ 1024) (hk : keyB k = true) {s : Ro} (hg : getK l k = some s) (r : Ro) :
    Calls Try.prog 29 #[.pointer (some ⟨p, 0, none⟩), .string (str k), rowv r] w (RTurn w p most (putK l k r) (.tuple #[rowv s, .bool true, .int .i64 0])) := by
  obtain ⟨i0, hi0, hz0, hs0, hy0⟩ := info_parts qinfo
  have HR := hid hR
  obtain ⟨u, h1, h2, hF, hlt2, hpn⟩ := hR
  obtain ⟨A, cap, rfl⟩ := h2.slice
  have H1 := hid h1
  have hcap := h2.cap
  obtain ⟨n, HNE⟩ : ∃ n, Hid (n = atN (lines l) k) := ⟨_, rfl⟩
  obtain ⟨len, HLEN⟩ : ∃ len, Hid (len = l.length) := ⟨_, rfl⟩
  have hle := atN_le (lines l) k
  rw [lines_len] at hle
  have HSZ : Hid (l.length ≤ 1024) := hsz
  have hpw := cell_of_row _ p 0 _ _ _ h1
  have hmw := cell_of_row _ p 1 _ _ _ h1
  simp at hpw hmw
  rw [← HNE.out] at hle
  rw [← HLEN.out] at hle hcap hpw
  have hm : len ≤ 1024 := by rw [HLEN.out]; exact hsz
  have HP := hid hpw
  have HM := hid hmw
  have hat := getK_some hg
  rw [← HNE.out] at hat
  have hlt : n < len := by rw [HLEN.out]; exact (List.getElem?_eq_some_iff.1 hat).1
  have hlti : (n : Int) < len := by omega
  obtain ⟨VA, HVA⟩ : ∃ V, Hid (V = sliced A 0 n cap 5) := ⟨_, rfl⟩
  obtain ⟨VC, HVC⟩ : ∃ V, Hid (V = sliced A (n + 1) len cap 5) := ⟨_, rfl⟩
  have hcA : ∀ W, (Instr.slice 66 (.slice A len cap) none (some (.int .i64 (n : Int))) none).run Try.prog W = .ok VA W := fun W => by rw [HVA.out]; exact qcut_to W A len cap n (by omega)
  have hcC : ∀ W, (Instr.slice 66 (.slice A len cap) (some (.int .i64 ((n : Int) + 1))) none none).run Try.prog W = .ok VC W := fun W => by rw [HVC.out]; have := qcut_from W A len cap (n + 1) (by omega); rwa [show ((n + 1 : Nat) : Int) = (n : Int) + 1 by omega] at this
  have HRA : Hid (Elems 5 cQ w VA (l.take n)) := by rw [HVA.out]; exact h2.to_ cQ_len (by have := HLEN.out; omega)
  have HRC : Hid (Elems 5 cQ w VC (l.drop (n + 1))) := by rw [HVC.out, HLEN.out]; exact h2.from_ cQ_len (by have := HLEN.out; omega)
  obtain ⟨ad, rfl, hcw⟩ := h2.qat hat
  have HC := hid hcw
  clear hcw hat
  have HPUT : Hid (putK l k r = l.take n ++ [(k, r)] ++ l.drop (n + 1)) := by
    show _ = _
    unfold putK; rw [hg, ← HNE.out]; rfl
  have HG := hid hg
  have HS0 := hid (put_start w r)
  have hp0 := below_keep HS0.out.2.2 _ _ hpw
  have hm0 := below_keep HS0.out.2.2 _ _ hmw
  obtain ⟨LP, HLP⟩ : ∃ LP, Hid (LP = l.take n ++ [(k, r)] ++ l.drop (n + 1)) := ⟨_, rfl⟩
  rw [HPUT.out, ← HLP.out]
  clear h1 h2 hg hsz hF hlt2 hpn hpw hmw
  unfold rowv rowc
  go_enter Try.func29, Try.ntmps29
  go_wp2_with fail
  refine (rright _ k).mono ?_
  rw [hk]
  rintro e w' ⟨rfl, rfl⟩
  go_wp2_with fail
  refine (rhas (HR.out.below HS0.out.2.2) hl k hb).mono ?_
  rw [HG.out]
  rintro e w' ⟨rfl, rfl⟩
  go_wp2
  go_quiet (fail)
  rename_i nq
  obtain ⟨wd, HWD⟩ : ∃ wd, Hid (wd = World.drewN ((w.alloc (.cells #[.int .i64 r.a, .int .i64 r.b, .int .i64 r.c, .int .i64 r.d] 33)).alloc (.cells #[.int .i64 0, .int .i64 0, .int .i64 0, .int .i64 0] 33)) nq) := ⟨_, rfl⟩
  have HBD : Hid (Below w.heap.size w wd) := by rw [HWD.out]; exact below_drewN' HS0.out.2.2 nq
  have HLR : Hid (Lies wd w.heap.size r) := by rw [HWD.out]; exact HS0.out.1
  have HLZ : Hid (Lies wd (w.heap.size + 1) zero4) := by rw [HWD.out]; exact HS0.out.2.1
  have HSD : Hid (wd.heap.size = w.heap.size + 2) := by show _ = _; rw [HWD.out]; simp
  rw [← HWD.out]
  clear hp0 hm0
  go_wp2_with fail
  refine (rat (HR.out.below HBD.out) hl k hb).mono ?_
  rw [← HNE.out]
  rintro e w' ⟨rfl, rfl⟩
  have HBA : Hid (Below w.heap.size w (wd.alloc (.cells #[.int .i64 0, .int .i64 0, .int .i64 0, .int .i64 0] 33))) := HBD.out.alloc HBD.out.size _
  have HAA : Hid (Below wd.heap.size wd (wd.alloc (.cells #[.int .i64 0, .int .i64 0, .int .i64 0, .int .i64 0] 33))) := (Below.refl _ _).alloc (Nat.le_refl _) _
  have HLO := hid (lies_zero wd)
  have hpa := below_keep HBA.out _ _ HP.out
  go_wp2_with (first
    | (at_builtin; refine wpList_append_rows _ rfl (.tmp 64) (.tmp 70) 66 rfl w.heap.size 94 i0 _ 5 48 Try.underlying66 hi0 hz0 hs0 hy0 rfl (by omega) cQ_one v2 _ rfl HOP.out _ _ rfl (HRC.out.below HBP.out) (by have := HSZ.out; simp [maxLen]; omega) (by have := HSZ.out; simp; omega) HBP.out.size ?_; intro v3 w3 ho3 hg3 hf3; clear z0 z1 z2 z3 f0 f1 f2 f3 hp2 hpp c0 c1 c2 c3; obtain ⟨A3, N3, c3, rfl⟩ := (OwnElems.rows ho3).form; have HO3 := hid ho3; have HB3 := hid (HBP.out.grown hg3 HBP.out.size (fun g hg => (HOP.out.lt g (mem_ownFoot.2 hg)).1)); have HZ3 := hid (HZP.out.grown hg3 (HOP.out.ne_ HZP.out (by decide))); have HT3 := hid (HTP.out.grown hg3 (HOP.out.ne_ HTP.out (by decide))); have H13 : Hid (w3.heap[p]? = some (.cells #[.slice (some ad) l.length cap, .int .i64 (most : Int)] 68 (0, 0))) := (HB3.out.block _ (Array.getElem?_eq_some_iff.1 H1.out).1).trans H1.out; have hp3 := below_keep HB3.out _ _ HP.out; have hz3 : w3.frozen? ⟨p, 0, none⟩ = false := (by have h := H13.out; simp [World.frozen?, h]); have hn1 : p ≠ wd.heap.size := HT3.out.ne_blk H13.out; have hn2 : p ≠ w.heap.size + 1 := HZ3.out.ne_blk H13.out; have HF := hid (rturn_of H1.out HB3.out HO3.out (Nat.le_succ _) HZ3.out s); have HPP : Hid (Lies (put4 (w3.setCell ⟨p, 0, none⟩ (.slice A3 N3 c3)) (w.heap.size + 1) s) (w.heap.size + 1) s) := Lies.put (HZ3.out.keep (Below.heap_setCell _ _ _ _ (Ne.symm hn2))) s; have HTS := hid (HT3.out.keep (w' := w3.setCell ⟨p, 0, none⟩ (.slice A3 N3 c3)) (Below.heap_setCell _ _ _ _ (Ne.symm hn1))); have HZS := hid (HZ3.out.keep (w' := w3.setCell ⟨p, 0, none⟩ (.slice A3 N3 c3)) (Below.heap_setCell _ _ _ _ (Ne.symm hn2))); obtain ⟨y0, y1, y2, y3⟩ := HTS.out.four; obtain ⟨⟨z0, z1, z2, z3⟩, f0, f1, f2, f3⟩ := HZS.out.cells; (try dsimp only [zero4] at z0 z1 z2 z3 y0 y1 y2 y3); clear ho3 hg3 hf3)
    | (at_builtin; refine wpList_append_rows _ rfl (.tmp 46) (.tmp 50) 66 rfl w.heap.size 94 i0 _ 5 48 Try.underlying66 hi0 hz0 hs0 hy0 rfl (by omega) cQ_one v1 _ rfl (HO1.out.alloc _) _ _ rfl (rows_new w1 5 cQ cQ_len (k, r) 94) (by have := HSZ.out; simp [maxLen]; omega) (by have := HSZ.out; simp; omega) (HB1.out.alloc HB1.out.size _).size ?_; intro v2 w2 ho2 hg2 hf2; have HO2 := hid ho2; have HB2 := hid ((HB1.out.alloc HB1.out.size _).grown hg2 (HB1.out.alloc HB1.out.size _).size (fun g hg => (HO1.out.lt g (mem_ownFoot.2 hg)).1)); have hnl : ∀ {g : Nat} {r0 : Ro}, Lies w1 g r0 → g ∉ ownFoot v1 := fun h => HO1.out.ne_ h (by decide); have HZ2 := hid ((HZ1.out.below HB1A.out).grown hg2 (hnl HZ1.out)); have HT2 := hid ((HO1'.out.below HB1A.out).grown hg2 (hnl HO1'.out)); have hp2 := below_keep HB2.out _ _ HP.out; clear ho2 hg2 hf2 y0 y1 y2 y3 hnl; obtain ⟨⟨z0, z1, z2, z3⟩, f0, f1, f2, f3⟩ := HT2.out.cells; dsimp only [zero4] at z0 z1 z2 z3; obtain ⟨_, c0, c1, c2, c3⟩ := HC.out.below HB2.out; dsimp only at c0 c1 c2 c3; have hpne : p ≠ wd.heap.size := HT2.out.ne_blk ((HB2.out.block _ (Array.getElem?_eq_some_iff.1 H1.out).1).trans H1.out); have HOP := hid (HO2.out.put4_ HT2.out s); have HBP : Hid (Below w.heap.size w (put4 w2 wd.heap.size s)) := below_put4 HB2.out HBD.out.size s; have HZP := hid (put4_far_lies (r := s) HZ2.out (by have := HSD.out; omega : w.heap.size + 1 ≠ wd.heap.size)); have HTP := hid (HT2.out.put s); have hpp := below_keep HBP.out _ _ HP.out; dsimp only [put4] at hpp HOP HBP HZP HTP)
    | (at_builtin; refine wpList_append_rows _ rfl (.tmp 38) (.tmp 44) 66 rfl w.heap.size 94 i0 _ 5 48 Try.underlying66 hi0 hz0 hs0 hy0 rfl (by omega) cQ_one (.slice none 0 0) _ rfl (OwnElems.nil _ _ _ _ _) _ _ rfl (HRA.out.below HBA.out) (by have := HSZ.out; simp [maxLen]; omega) (by have := HSZ.out; simp; omega) HBA.out.size ?_; intro v1 w1 ho1 hg1 hf1; rw [List.nil_append] at ho1; have HO1 := hid ho1; have HB1 := hid (HBA.out.grown hg1 HBA.out.size (fun g hg => by simp [Value.ownBlock] at hg)); have HL1 := hid ((HLR.out.below HAA.out).grown hg1 (by simp [ownFoot, Value.ownBlock])); have HZ1 := hid ((HLZ.out.below HAA.out).grown hg1 (by simp [ownFoot, Value.ownBlock])); have HO1' := hid (HLO.out.grown hg1 (by simp [ownFoot, Value.ownBlock])); obtain ⟨y0, y1, y2, y3⟩ := HL1.out.four; have HB1A : Hid (Below w1.heap.size w1 (w1.alloc (.cells (cQ (k, r)).toArray 94))) := (Below.refl _ _).alloc (Nat.le_refl _) _; clear ho1 hg1 hf1 hpa))
  obtain ⟨p0, p1, p2, p3⟩ := HPP.out.four
  dsimp only [put4, id] at p0 p1 p2 p3
  exact bodyPost_ret (v := .tuple #[rowv s, .bool true, .int .i64 0]) (by simp [results, Try.results29, go_sem, p0, p1, p2, p3, rowv, rowc]) rfl (by rw [HLP.out]; exact ⟨rfl, HF.out⟩)
set_option maxHeartbeats 2000000 in
theorem rput_new (hR : RTab w F p most l) (hl : KByt l) (k : List Nat) (hb : Byt k) (hsz : l.length ≤ 1024) (hk : keyB k = true) (hg : getK l k = none) (hf : l.length < most) (r : Ro) :
    Calls Try.prog 29 #[.pointer (some ⟨p, 0, none⟩), .string (str k), rowv r] w (RTurn w p most (putK l k r) (.tuple #[rowv zero4, .bool false, .int .i64 0])) := by
  obtain ⟨i0, hi0, hz0, hs0, hy0⟩ := info_parts qinfo
  have HR := hid hR
  obtain ⟨u, h1, h2, hF, hlt2, hpn⟩ := hR
  obtain ⟨A, cap, rfl⟩ := h2.slice
  have H1 := hid h1
  have hcap := h2.cap
  obtain ⟨n, HNE⟩ : ∃ n, Hid (n = atN (lines l) k) := ⟨_, rfl⟩
  obtain ⟨len, HLEN⟩ : ∃ len, Hid (len = l.length) := ⟨_, rfl⟩
  have hle := atN_le (lines l) k
  rw [lines_len] at hle
  have HSZ : Hid (l.length ≤ 1024) := hsz
  have hpw := cell_of_row _ p 0 _ _ _ h1
  have hmw := cell_of_row _ p 1 _ _ _ h1
  simp at hpw hmw
  rw [← HNE.out] at hle
  rw [← HLEN.out] at hle hcap hpw
  have hm : len ≤ 1024 := by rw [HLEN.out]; exact hsz
  have HP := hid hpw
  have HM := hid hmw
  have hfi : ¬ (most : Int) ≤ (len : Int) := by have := HLEN.out; omega
  have hfd : decide ((most : Int) ≤ (len : Int)) = false := decide_eq_false hfi
  have hfn : decide (most ≤ len) = false := by rw [decide_eq_false_iff_not]; have := HLEN.out; omega
  have hfg : ¬ most ≤ len := by have := HLEN.out; omega
  obtain ⟨VA, HVA⟩ : ∃ V, Hid (V = sliced A 0 n cap 5) := ⟨_, rfl⟩
  obtain ⟨VC, HVC⟩ : ∃ V, Hid (V = sliced A (n) len cap 5) := ⟨_, rfl⟩
  have hcA : ∀ W, (Instr.slice 66 (.slice A len cap) none (some (.int .i64 (n : Int))) none).run Try.prog W = .ok VA W := fun W => by rw [HVA.out]; exact qcut_to W A len cap n (by omega)
  have hcC : ∀ W, (Instr.slice 66 (.slice A len cap) (some (.int .i64 ((n : Int)))) none none).run Try.prog W = .ok VC W := fun W => by rw [HVC.out]; have := qcut_from W A len cap (n) (by omega); rwa [show ((n : Nat) : Int) = (n : Int) by omega] at this
  have HRA : Hid (Elems 5 cQ w VA (l.take n)) := by rw [HVA.out]; exact h2.to_ cQ_len (by have := HLEN.out; omega)
  have HRC : Hid (Elems 5 cQ w VC (l.drop (n))) := by rw [HVC.out, HLEN.out]; exact h2.from_ cQ_len (by have := HLEN.out; omega)
  have HPUT : Hid (putK l k r = l.take n ++ [(k, r)] ++ l.drop (n)) := by
    show _ = _
    unfold putK; rw [hg, ← HNE.out]; rfl
  have HG := hid hg
  have HS0 := hid (put_start w r)
  have hp0 := below_keep HS0.out.2.2 _ _ hpw
  have hm0 := below_keep HS0.out.2.2 _ _ hmw
  obtain ⟨LP, HLP⟩ : ∃ LP, Hid (LP = l.take n ++ [(k, r)] ++ l.drop (n)) := ⟨_, rfl⟩
  rw [HPUT.out, ← HLP.out]
  clear h1 h2 hg hsz hF hlt2 hpn hpw hmw
  unfold rowv rowc
  go_enter Try.func29, Try.ntmps29
  go_wp2_with fail
  refine (rright _ k).mono ?_
  rw [hk]
  rintro e w' ⟨rfl, rfl⟩
  go_wp2_with fail
  refine (rhas (HR.out.below HS0.out.2.2) hl k hb).mono ?_
  rw [HG.out]
  rintro e w' ⟨rfl, rfl⟩
  go_wp2
  go_quiet (fail)
  rename_i nq
  obtain ⟨wd, HWD⟩ : ∃ wd, Hid (wd = World.drewN ((w.alloc (.cells #[.int .i64 r.a, .int .i64 r.b, .int .i64 r.c, .int .i64 r.d] 33)).alloc (.cells #[.int .i64 0, .int .i64 0, .int .i64 0, .int .i64 0] 33)) nq) := ⟨_, rfl⟩
  have HBD : Hid (Below w.heap.size w wd) := by rw [HWD.out]; exact below_drewN' HS0.out.2.2 nq
  have HLR : Hid (Lies wd w.heap.size r) := by rw [HWD.out]; exact HS0.out.1
  have HLZ : Hid (Lies wd (w.heap.size + 1) zero4) := by rw [HWD.out]; exact HS0.out.2.1
  have HSD : Hid (wd.heap.size = w.heap.size + 2) := by show _ = _; rw [HWD.out]; simp
  rw [← HWD.out]
  clear hp0 hm0
  go_wp2_with fail
  refine (rat (HR.out.below HBD.out) hl k hb).mono ?_
  rw [← HNE.out]
  rintro e w' ⟨rfl, rfl⟩
  have HBA : Hid (Below w.heap.size w (wd.alloc (.cells #[.int .i64 0, .int .i64 0, .int .i64 0, .int .i64 0] 33))) := HBD.out.alloc HBD.out.size _
  have HAA : Hid (Below wd.heap.size wd (wd.alloc (.cells #[.int .i64 0, .int .i64 0, .int .i64 0, .int .i64 0] 33))) := (Below.refl _ _).alloc (Nat.le_refl _) _
  have HLO := hid (lies_zero wd)
  have hpa := below_keep HBA.out _ _ HP.out
  go_wp2_with (first
    | (at_builtin; refine wpList_append_rows _ rfl (.tmp 64) (.tmp 70) 66 rfl w.heap.size 94 i0 _ 5 48 Try.underlying66 hi0 hz0 hs0 hy0 rfl (by omega) cQ_one v2 _ rfl HOP.out _ _ rfl (HRC.out.below HBP.out) (by have := HSZ.out; simp [maxLen]; omega) (by have := HSZ.out; simp; omega) HBP.out.size ?_; intro v3 w3 ho3 hg3 hf3; clear hp2; obtain ⟨A3, N3, c3, rfl⟩ := (OwnElems.rows ho3).form; have HO3 := hid ho3; have HB3 := hid (HBP.out.grown hg3 HBP.out.size (fun g hg => (HOP.out.lt g (mem_ownFoot.2 hg)).1)); have HZ3 := hid (HZP.out.grown hg3 (HOP.out.ne_ HZP.out (by decide))); have HT3 := hid (HTP.out.grown hg3 (HOP.out.ne_ HTP.out (by decide))); have H13 : Hid (w3.heap[p]? = some (.cells #[.slice A l.length cap, .int .i64 (most : Int)] 68 (0, 0))) := (HB3.out.block _ (Array.getElem?_eq_some_iff.1 H1.out).1).trans H1.out; have hp3 := below_keep HB3.out _ _ HP.out; have hz3 : w3.frozen? ⟨p, 0, none⟩ = false := (by have h := H13.out; simp [World.frozen?, h]); have hn1 : p ≠ wd.heap.size := HT3.out.ne_blk H13.out; have hn2 : p ≠ w.heap.size + 1 := HZ3.out.ne_blk H13.out; have HF := hid (rturn_of H1.out HB3.out HO3.out (Nat.le_succ _) HZ3.out zero4); have HPP : Hid (Lies (put4 (w3.setCell ⟨p, 0, none⟩ (.slice A3 N3 c3)) (w.heap.size + 1) zero4) (w.heap.size + 1) zero4) := Lies.put (HZ3.out.keep (Below.heap_setCell _ _ _ _ (Ne.symm hn2))) zero4; have HTS := hid (HT3.out.keep (w' := w3.setCell ⟨p, 0, none⟩ (.slice A3 N3 c3)) (Below.heap_setCell _ _ _ _ (Ne.symm hn1))); have HZS := hid (HZ3.out.keep (w' := w3.setCell ⟨p, 0, none⟩ (.slice A3 N3 c3)) (Below.heap_setCell _ _ _ _ (Ne.symm hn2))); obtain ⟨y0, y1, y2, y3⟩ := HTS.out.four; obtain ⟨⟨z0, z1, z2, z3⟩, f0, f1, f2, f3⟩ := HZS.out.cells; (try dsimp only [zero4] at z0 z1 z2 z3 y0 y1 y2 y3); clear ho3 hg3 hf3)
    | (at_builtin; refine wpList_append_rows _ rfl (.tmp 46) (.tmp 50) 66 rfl w.heap.size 94 i0 _ 5 48 Try.underlying66 hi0 hz0 hs0 hy0 rfl (by omega) cQ_one v1 _ rfl (HO1.out.alloc _) _ _ rfl (rows_new w1 5 cQ cQ_len (k, r) 94) (by have := HSZ.out; simp [maxLen]; omega) (by have := HSZ.out; simp; omega) (HB1.out.alloc HB1.out.size _).size ?_; intro v2 w2 ho2 hg2 hf2; have HO2 := hid ho2; have HB2 := hid ((HB1.out.alloc HB1.out.size _).grown hg2 (HB1.out.alloc HB1.out.size _).size (fun g hg => (HO1.out.lt g (mem_ownFoot.2 hg)).1)); have hnl : ∀ {g : Nat} {r0 : Ro}, Lies w1 g r0 → g ∉ ownFoot v1 := fun h => HO1.out.ne_ h (by decide); have HZ2 := hid ((HZ1.out.below HB1A.out).grown hg2 (hnl HZ1.out)); have HT2 := hid ((HO1'.out.below HB1A.out).grown hg2 (hnl HO1'.out)); have hp2 := below_keep HB2.out _ _ HP.out; clear ho2 hg2 hf2 y0 y1 y2 y3 hnl; have HOP := HO2; have HBP := HB2; have HZP := HZ2; have HTP := HT2)
    | (at_builtin; refine wpList_append_rows _ rfl (.tmp 38) (.tmp 44) 66 rfl w.heap.size 94 i0 _ 5 48 Try.underlying66 hi0 hz0 hs0 hy0 rfl (by omega) cQ_one (.slice none 0 0) _ rfl (OwnElems.nil _ _ _ _ _) _ _ rfl (HRA.out.below HBA.out) (by have := HSZ.out; simp [maxLen]; omega) (by have := HSZ.out; simp; omega) HBA.out.size ?_; intro v1 w1 ho1 hg1 hf1; rw [List.nil_append] at ho1; have HO1 := hid ho1; have HB1 := hid (HBA.out.grown hg1 HBA.out.size (fun g hg => by simp [Value.ownBlock] at hg)); have HL1 := hid ((HLR.out.below HAA.out).grown hg1 (by simp [ownFoot, Value.ownBlock])); have HZ1 := hid ((HLZ.out.below HAA.out).grown hg1 (by simp [ownFoot, Value.ownBlock])); have HO1' := hid (HLO.out.grown hg1 (by simp [ownFoot, Value.ownBlock])); obtain ⟨y0, y1, y2, y3⟩ := HL1.out.four; have HB1A : Hid (Below w1.heap.size w1 (w1.alloc (.cells (cQ (k, r)).toArray 94))) := (Below.refl _ _).alloc (Nat.le_refl _) _; clear ho1 hg1 hf1 hpa))
  obtain ⟨p0, p1, p2, p3⟩ := HPP.out.four
  dsimp only [put4, zero4] at p0 p1 p2 p3
  exact bodyPost_ret (v := .tuple #[rowv zero4, .bool false, .int .i64 0]) (by simp [results, Try.results29, go_sem, p0, p1, p2, p3, rowv, rowc, zero4]) rfl (by rw [HLP.out]; exact ⟨rfl, HF.out⟩)
end
end Go.Proofs.Ytlnagdodnkhbmaa
