/- A buffer: Apply, done. -/
import Derived.Test.YtlnagdodnkhbmaaGreatV14
namespace Go.Proofs.YtlnagdodnkhbmaaGreat
open Go.RowKit Go.Maps Go.WideMaps Go.Shelf
set_option maxRecDepth 100000
attribute [local go_sem] Oper.semAt_some

def ApEnd (w : World) (T : Nat) (p : Nat → Nat) (Q : Bl) (most o : Nat) (l : List KR) (B m : Nat) (e : Ending) (w' : World) : Prop :=
  e = .returned (.int .i64 0) ∧ ∃ Q', ApFin w T p Q Q' most o l B m w'
theorem chg_wide {F F' G : List Nat} {a b : World} (h : Chg F a b F') (hs : ∀ k ∈ F, k ∈ G) : Chg G a b G :=
  ⟨h.os, h.tape, h.output, h.size, fun k hk hn => h.block k hk fun hm => hn (hs k hm), fun k hk => .inl hk⟩
theorem Tab.ne_map {w : World} {T : Nat} {p : Nat → Nat} {Q : Bl} {most o : Nat} {l : List KR} {m : Nat} {ws : List WR} (h : Tab w T p Q most o l) (hb : BufM w m ws) : T ≠ m := by
  rintro rfl
  obtain ⟨J, hT, _⟩ := h
  have h1 := hT.c
  obtain ⟨_, _, _, ⟨_, _, hb, _⟩, _⟩ := hb
  rw [h1] at hb
  cases hb
/-- What Apply's second round reads. -/
def SAp (bb B T g : Nat) (r : Ro) (X : World) : Prop :=
  X.cell? ⟨bb, 0, none⟩ = some (.pointer (some ⟨B, 0, none⟩)) ∧ X.cell? ⟨B, 0, none⟩ = some (.pointer (some ⟨T, 0, none⟩)) ∧ X.cell? ⟨g, 0, none⟩ = some (.int .i64 r.a) ∧ X.cell? ⟨g, 1, none⟩ = some (.int .i64 r.b) ∧ X.cell? ⟨g, 2, none⟩ = some (.int .i64 r.c) ∧ X.cell? ⟨g, 3, none⟩ = some (.int .i64 r.d)
section
variable {w : World} {T : Nat} {p : Nat → Nat} {Q : Bl} {most o : Nat} {l : List KR} {B m : Nat} {ws : List WR}
set_option maxHeartbeats 8000000 in
theorem bapply_ok (h : Buf w B T m ws) (ht : Tab w T p Q most o l) (hlen : ws.length ≤ 1000000) (hf : (showW l ws).length ≤ most) (hQm : ¬ Q m) :
    Calls Tryz.prog 26 #[.pointer (some ⟨B, 0, none⟩)] w (ApEnd w T p Q most o (showW l ws) B m) := by
  have HAP := hid (apply_rows ht.rows h.ok hf)
  have HWS := hid h.ok
  have HLEN := hid hlen
  have HTM : Hid (T ≠ m) := ht.ne_map h.d
  obtain ⟨n, HN⟩ : ∃ n, Hid (n = (showW l ws).length) := ⟨_, rfl⟩
  rw [← HN.out] at hf
  obtain ⟨shw, HSHW⟩ : ∃ s, Hid (s = showW l ws) := ⟨_, rfl⟩
  rw [← HSHW.out]
  have hba : Below w.heap.size w (w.alloc (.cells #[.pointer (some ⟨B, 0, none⟩)] 33)) := (Below.refl _ _).alloc (Nat.le_refl _) _
  have HBA := hid hba
  have HB := hid (h.below hba)
  have HT := hid (ht.below hba)
  have HLO : Hid (T < w.heap.size ∧ B < w.heap.size ∧ m < w.heap.size ∧ (∀ b ∈ five p, b < w.heap.size) ∧ (∀ b, Q b → b < w.heap.size) ∧ B ∉ five p ∧ m ∉ five p) := ⟨ht.lt, h.lt, h.mlt, ht.flt, ht.under, ht.not_buf h, ht.not_map h.d⟩
  have c0 := HB.out.c0
  have cb : (w.alloc (.cells #[.pointer (some ⟨B, 0, none⟩)] 33)).cell? ⟨w.heap.size, 0, none⟩ = some (.pointer (some ⟨B, 0, none⟩)) := (cellNew w (.pointer (some ⟨B, 0, none⟩)) 33).1
  obtain ⟨wb, HWB⟩ : ∃ W, Hid (W = w.alloc (.cells #[.pointer (some ⟨B, 0, none⟩)] 33)) := ⟨_, rfl⟩
  have HL : Hid (∀ W, Below wb.heap.size wb W → Calls Tryz.prog 16 #[.pointer (some ⟨B, 0, none⟩)] W fun e w' => e = .returned (.int .i64 (n : Int)) ∧ Below W.heap.size W w') := fun W hb => by
    rw [HN.out]
    rw [HWB.out] at hb
    exact blen (HB.out.below hb) (HT.out.below hb) hlen
  have HM : Hid (∀ W, Below wb.heap.size wb W → Calls Tryz.prog 50 #[.pointer (some ⟨T, 0, none⟩)] W fun e w' => e = .returned (.int .i64 (most : Int)) ∧ w' = W) := fun W hb => by
    rw [HWB.out] at hb
    exact tmost (HT.out.below hb)
  rw [← HWB.out] at HBA c0 cb HB HT
  have hgt : ¬ (most : Int) < (n : Int) := by omega
  clear h ht hba
  refine (callsIn_wide (n := 3)).1 ?_
  refine callsIn_of_wp_marks Tryz.func26 rfl trivial ?_ rfl
  simp only [Tryz.ntmps26, List.size_toArray, List.length_cons, List.length_nil, Nat.reduceAdd, Nat.reduceSub, Array.replicate_succ, Array.replicate_zero, List.push_toArray, List.append_toArray, List.nil_append, List.cons_append]
  refine wpIn_wide.2 ?_
  go_wp2
  rw [← HWB.out]
  go_region_held3 (fun W => W.cell? ⟨w.heap.size, 0, none⟩ = some (.pointer (some ⟨B, 0, none⟩)) ∧ W.cell? ⟨B, 0, none⟩ = some (.pointer (some ⟨T, 0, none⟩))) (first | exact ⟨cb, c0⟩ | exact HS4.out)
    (first
      | (go_at_call 16; ((with_reducible refine (HL.out _ (below_drew' wb)).mono ?_); rintro e w4 ⟨rfl, hb4⟩; have HB4 : Hid (Below wb.heap.size wb w4) := below_step (below_drew' wb) hb4; have HS4 : Hid (w4.cell? ⟨w.heap.size, 0, none⟩ = some (.pointer (some ⟨B, 0, none⟩)) ∧ w4.cell? ⟨B, 0, none⟩ = some (.pointer (some ⟨T, 0, none⟩))) := ⟨below_keep HB4.out _ _ cb, below_keep HB4.out _ _ c0⟩; clear hb4))
      | (go_at_call 50; ((with_reducible refine (HM.out _ (by first | exact below_drew' wb | exact HB4.out)).mono ?_); intro e w5 hh; obtain ⟨rfl, hw5⟩ := hh; rw [hw5]; clear hw5)))
  all_goals
    clear cb c0
    obtain ⟨cb, c0⟩ := HS4.out
    go_wp2_with fail
    refine (bwrites (HB.out.below HB4.out) HLEN.out).mono ?_
    rintro e w5 ⟨rfl, v, cs, hbl, hel, htold, hb5, hnew, hfoot⟩
    obtain ⟨A, cap, rfl⟩ := hel.slice
    have HB5 := hid (below_step HB4.out hb5)
    have HBU5 := hid (HB.out.below HB5.out)
    have HT5 := hid (HT.out.below HB5.out)
    have HTO := hid htold
    have HW4 : Hid (w.heap.size < w4.heap.size ∧ w4.heap.size < w5.heap.size) := ⟨by have := HB4.out.size; rw [HWB.out] at this; simp at this; omega, (Array.getElem?_eq_some_iff.1 hbl).1⟩
    have HCL : Hid (cs.length ≤ 1000000) := by
      have h1 := congrArg List.length htold.keys
      simp at h1
      show _ ≤ _
      rw [h1]; exact HLEN.out
    have HFW : Hid (w5.cell? ⟨w.heap.size, 0, none⟩ = some (.pointer (some ⟨B, 0, none⟩)) ∧ w5.cell? ⟨B, 0, none⟩ = some (.pointer (some ⟨T, 0, none⟩))) := ⟨below_keep hb5 _ _ cb, below_keep hb5 _ _ c0⟩
    have hcell : w5.cell? ⟨w4.heap.size, 0, none⟩ = some (.slice A cs.length cap) := by
      have := cell_of_row w5 w4.heap.size 0 _ _ _ hbl
      simpa using this
    have HGV := hid (writes_gives w5 A cap w4.heap.size cs hel hcell HCL.out)
    have HGLT : Hid (∀ b, (b = w4.heap.size ∨ b ∈ ownFoot (.slice A cs.length cap)) → w4.heap.size ≤ b ∧ b < w5.heap.size) := fun b hb => by
      rcases hb with rfl | hb
      · exact ⟨Nat.le_refl _, HW4.out.2⟩
      · have := hfoot b hb
        omega
    have HEN := hid (enters_of Tryz.func65 (by kernel_rfl) rfl)
    have HI1 : Hid (ItT T p Q most o (fun n => delsW l (ws.take n)) w5 [] (fun b => b = w4.heap.size ∨ b ∈ ownFoot (.slice A cs.length cap)) w5) :=
      ⟨Q, HT5.out, fun b hq hb => by have h1 := HGLT.out b hb; have h2 := HLO.out.2.2.2.2.1 b hq; have := HW4.out; omega, fun b hq hb => by have h1 := HGLT.out b hb; have h2 := HLO.out.2.2.2.1 b hq; have := HW4.out; omega, Chg.refl _ _, fun b h => .inl h⟩
    have HNF : Hid (w.heap.size ∉ five p) := fun h => by have := HLO.out.2.2.2.1 _ h; omega
    clear hbl hel htold hb5 hnew hfoot hcell cb c0
    obtain ⟨cb, c0⟩ := HFW.out
    go_wp2
    refine (wpIn_wide (n := 3)).1 ?_
    refine range_own (gf := 65) (lb := #[.pointer (some ⟨w4.heap.size, 0, none⟩)]) rfl HEN.out HGV.out (w0 := w5) (Stay.refl _ _) (fun _ => rfl) (ItT T p Q most o (fun n => delsW l (ws.take n)) w5) (fun _ _ _ _ => False) (itT_abide HT5.out.lt) (fun _ _ _ _ _ _ h => h.elim) (fun b => b = w4.heap.size ∨ b ∈ ownFoot (.slice A cs.length cap)) (fun _ h => h) (fun b hb => (HGLT.out b hb).2)
      HI1.out ?round ?done ?stop
    case stop =>
      rintro D c pre K W _ h
      exact h.elim
    case round =>
      rintro lq pre ⟨k, c⟩ K W mm hI hKW hKl hlq hpre
      obtain ⟨x, hx, hpx⟩ := HTO.out.at_ (prefix_get hpre)
      have HKB := hid (HWS.out.byt _ (List.mem_of_getElem? hx))
      have hf1 : delsW l (ws.take (pre.length + 1)) = delStep (delsW l (ws.take pre.length)) (k, x) := foldl_take _ _ hx
      unfold encW
      dsimp only
      cases x with
      | none =>
        obtain rfl := hpx.zero
        unfold ptrC
        gi_wp2
        refine ⟨Stay.refl _ _, fun W2 hg2 => ?_⟩
        have hI2 := itT_abide HT5.out.lt pre K W W2 (some lq) hI hg2 (fun r e => by injection e with e; subst e; exact ⟨hlq, hKl⟩) K fun b h => .inl h
        have q0 := hI2.cell cb HNF.out
        have q1 := hI2.cell c0 HLO.out.2.2.2.2.2.1
        obtain ⟨Q', ht2, hQ2, hp2, hc2, hn2⟩ := hI2
        have HT2 := hid ht2
        have HTU : Hid (∀ W', Tab W' T p (New Q' W2 W') most o (kdelN (delsW l (ws.take pre.length)) k) → Chg (five p) W2 W' (five p) → Stay K W2 W' ∧ ItT T p Q most o (fun n => delsW l (ws.take n)) w5 (pre ++ [(k, 0)]) K W') :=
          fun W' h1 h2 => itT_turn hQ2 hp2 hc2 hn2 (fun b hb => Nat.lt_of_lt_of_le (hKW b hb) hg2.size) hf1 h1 h2
        clear hI hg2 hpre hx hpx hf1 ht2 hQ2 hp2 hc2 hn2 cb c0
        gi_wp2
        refine ⟨trivial, fun h => (by cases h), ?_⟩
        refine (CallsIn.inRound lq (callsIn_wide.2 (tdel HT2.out k HKB.out))).mono ?_
        rintro e w6 ⟨rfl, ht6, hc6⟩
        have HEND := hid (HTU.out w6 ht6 hc6)
        clear ht6 hc6
        gi_wp2
        exact HEND.out
      | some r =>
        obtain ⟨g, rfl, _⟩ := hpx.row
        unfold ptrC
        gi_wp2
        refine ⟨Stay.refl _ _, fun W2 hg2 => ?_⟩
        have hI2 := itT_abide HT5.out.lt pre K W W2 (some lq) hI hg2 (fun r e => by injection e with e; subst e; exact ⟨hlq, hKl⟩) K fun b h => .inl h
        have HEND := hid (itT_same (x := (k, g + 1)) hI2 hf1)
        clear hI hg2 hpre hx hpx hf1 hI2 cb c0
        gi_wp2
        exact HEND.out
    case done =>
      rintro D1 K1 W1 ⟨Q1, ht1, hQ1, hp1, hc1, hn1⟩ _ hKD hD hS
      have hle : cs.length = ws.length := by
        have h1 := congrArg List.length HTO.out.keys
        simpa using h1
      rw [hle] at ht1
      dsimp only at ht1
      rw [List.take_length] at ht1
      have HT1 := hid ht1
      have HC1 := hid hc1
      have HN1 := hid hn1
      have HD1 : Hid (¬ Q1 D1 ∧ D1 ∉ five p ∧ w5.heap.size ≤ D1 ∧ Shut W1 D1) := ⟨fun h => hQ1 _ h hKD, fun h => hp1 _ h hKD, hD, hS⟩
      have HD1L : Hid (D1 < W1.heap.size) := (Array.getElem?_eq_some_iff.1 hS).1
      have HLE := hid hle
      have HTO1 : Hid (ToldW W1 cs ws) := HTO.out.keep fun g r hl => hc1.block g hl.lt (HT5.out.not_row hl)
      have HCB1 : Hid (W1.cell? ⟨w.heap.size, 0, none⟩ = some (.pointer (some ⟨B, 0, none⟩)) ∧ W1.cell? ⟨B, 0, none⟩ = some (.pointer (some ⟨T, 0, none⟩))) := ⟨chg_cell hc1 cb HNF.out, chg_cell hc1 c0 HLO.out.2.2.2.2.2.1⟩
      have HGV1 := hid (HGV.out.later (w' := W1) ⟨hc1.size, fun b hb => hc1.block b (HGLT.out b hb).2 fun hm => by have h1 := HGLT.out b hb; have h2 := HLO.out.2.2.2.1 b hm; have := HW4.out; omega⟩)
      have HI2 : Hid (ItT T p Q1 most o (fun n => putsW most (delsW l ws) (ws.take n)) W1 [] (fun b => b = w4.heap.size ∨ b ∈ ownFoot (.slice A cs.length cap)) W1) :=
        ⟨Q1, HT1.out, fun b hq hb => by
          have h1 := HGLT.out b hb
          have := HW4.out
          rcases hn1 b hq with h2 | h2
          · have h2 := HLO.out.2.2.2.2.1 b h2; omega
          · omega, fun b hq hb => by have h1 := HGLT.out b hb; have h2 := HLO.out.2.2.2.1 b hq; have := HW4.out; omega, Chg.refl _ _, fun b h => .inl h⟩
      have HG1 : Hid (∀ b, (b = w4.heap.size ∨ b ∈ ownFoot (.slice A cs.length cap)) → b < W1.heap.size) := fun b hb => Nat.lt_of_lt_of_le (HGLT.out b hb).2 hc1.size
      clear ht1 hQ1 hp1 hc1 hn1 hKD hD hS hle cb c0
      obtain ⟨cb, c0⟩ := HCB1.out
      go_wp2
      refine (wpIn_wide (n := 3)).1 ?_
      refine range_own (gf := 65) (lb := #[.pointer (some ⟨w4.heap.size, 0, none⟩)]) rfl HEN.out HGV1.out (w0 := W1) (Stay.refl _ _) (fun _ => rfl) (ItT T p Q1 most o (fun n => putsW most (delsW l ws) (ws.take n)) W1) (fun _ _ _ _ => False) (itT_abide HT1.out.lt) (fun _ _ _ _ _ _ h => h.elim) (fun b => b = w4.heap.size ∨ b ∈ ownFoot (.slice A cs.length cap)) (fun _ h => h) HG1.out
        HI2.out ?round2 ?done2 ?stop2
      case stop2 =>
        rintro D c pre K W _ h
        exact h.elim
      case round2 =>
        rintro lq pre ⟨k, c⟩ K W mm hI hKW hKl hlq hpre
        obtain ⟨x, hx, hpx⟩ := HTO1.out.at_ (prefix_get hpre)
        have HKB := hid (HWS.out.byt _ (List.mem_of_getElem? hx))
        have HROK := hid (HWS.out.ok _ (List.mem_of_getElem? hx))
        have hf1 : putsW most (delsW l ws) (ws.take (pre.length + 1)) = putStep most (putsW most (delsW l ws) (ws.take pre.length)) (k, x) := foldl_take _ _ hx
        unfold encW
        dsimp only
        cases x with
        | none =>
          obtain rfl := hpx.zero
          unfold ptrC
          gi_wp2
          refine ⟨Stay.refl _ _, fun W2 hg2 => ?_⟩
          have hI2 := itT_abide HT1.out.lt pre K W W2 (some lq) hI hg2 (fun r e => by injection e with e; subst e; exact ⟨hlq, hKl⟩) K fun b h => .inl h
          have HEND := hid (itT_same (x := (k, 0)) hI2 hf1)
          clear hI hg2 hpre hx hpx hf1 hI2 cb c0
          gi_wp2
          exact HEND.out
        | some r =>
          obtain ⟨g, rfl, _⟩ := hpx.row
          unfold ptrC
          gi_wp2
          refine ⟨Stay.refl _ _, fun W2 hg2 => ?_⟩
          have hI2 := itT_abide HT1.out.lt pre K W W2 (some lq) hI hg2 (fun r e => by injection e with e; subst e; exact ⟨hlq, hKl⟩) K fun b h => .inl h
          have q0 := hI2.cell cb HNF.out
          have q1 := hI2.cell c0 HLO.out.2.2.2.2.2.1
          obtain ⟨g2, e2, hl2⟩ := (hI2.told HT1.out hpx).row
          obtain rfl : g = g2 := by omega
          obtain ⟨y0, y1, y2, y3⟩ := hl2.four
          obtain ⟨Q', ht2, hQ2, hp2, hc2, hn2⟩ := hI2
          have HPUT : Hid (Calls Tryz.prog 23 #[.pointer (some ⟨T, 0, none⟩), .string (str k), .agg #[.int .i64 r.a, .int .i64 r.b, .int .i64 r.c, .int .i64 r.d]] W2.drew (PutEnd W2.drew T p Q' most o (kputN most (putsW most (delsW l ws) (ws.take pre.length)) k r) (kgetR (putsW most (delsW l ws) (ws.take pre.length)) k) (kputW (putsW most (delsW l ws) (ws.take pre.length)) k) (kputE most (putsW most (delsW l ws) (ws.take pre.length)) k))) :=
            tput (ht2.below (below_drew' W2)) k HKB.out r (HROK.out r rfl)
          have HSN : Hid (∀ W', Chg (five p) W2 W' (five p) → SAp w.heap.size B T g r W') := fun W' hc =>
            ⟨chg_cell hc q0 HNF.out, chg_cell hc q1 HLO.out.2.2.2.2.2.1, chg_cell hc y0 (ht2.not_row hl2), chg_cell hc y1 (ht2.not_row hl2), chg_cell hc y2 (ht2.not_row hl2), chg_cell hc y3 (ht2.not_row hl2)⟩
          have HTU : Hid (∀ W', Tab W' T p (New Q' W2 W') most o (kputN most (putsW most (delsW l ws) (ws.take pre.length)) k r) → Chg (five p) W2 W' (five p) → Stay K W2 W' ∧ ItT T p Q1 most o (fun n => putsW most (delsW l ws) (ws.take n)) W1 (pre ++ [(k, g + 1)]) K W') :=
            fun W' h1 h2 => itT_turn hQ2 hp2 hc2 hn2 (fun b hb => Nat.lt_of_lt_of_le (hKW b hb) hg2.size) hf1 h1 h2
          clear hI hg2 hpre hx hpx hf1 ht2 hQ2 hp2 hc2 hn2 cb c0 q0 q1 y0 y1 y2 y3 hl2 e2
          gi_wp2
          refine region_in_round 9 (SAp w.heap.size B T g r) rfl (by kernel_rfl) (by kernel_rfl) (fun _ _ h => h) (HSN.out _ (Chg.of_below (below_drew' W2))) fun hS => ?_
          refine wpAnyH_take (i := 0) (v := ?_) rfl (by kernel_rfl) (by kernel_rfl) (by kernel_rfl) (fun _ _ _ h => h) (Or.inl ⟨by rfl, ?hy0⟩) (by assumption) ?rs0
          case hy0 => (intro X hSX; (try dsimp only [SAp] at hSX); go_simp <;> with_reducible rfl)
          try simp only [Act.put, List.setIfInBounds_toArray, List.set_cons_zero, List.set_cons_succ]
          refine wpAnyH_take (i := 1) (v := ?_) rfl (by kernel_rfl) (by kernel_rfl) (by kernel_rfl) (fun _ _ _ h => h) (Or.inl ⟨by rfl, ?hy1⟩) (by assumption) ?rs1
          case hy1 => (intro X hSX; (try dsimp only [SAp] at hSX); go_simp <;> with_reducible rfl)
          try simp only [Act.put, List.setIfInBounds_toArray, List.set_cons_zero, List.set_cons_succ]
          refine wpAnyH_take (i := 2) (v := ?_) rfl (by kernel_rfl) (by kernel_rfl) (by kernel_rfl) (fun _ _ _ h => h) (Or.inl ⟨by rfl, ?hy2⟩) (by assumption) ?rs2
          case hy2 => (intro X hSX; (try dsimp only [SAp] at hSX); go_simp <;> with_reducible rfl)
          try simp only [Act.put, List.setIfInBounds_toArray, List.set_cons_zero, List.set_cons_succ]
          refine wpAnyH_take (i := 3) (v := ?_) rfl (by kernel_rfl) (by kernel_rfl) (by kernel_rfl) (fun _ _ _ h => h) (Or.inl ⟨by rfl, ?hy3⟩) (by assumption) ?rs3
          case hy3 => (intro X hSX; (try dsimp only [SAp] at hSX); go_simp <;> with_reducible rfl)
          try simp only [Act.put, List.setIfInBounds_toArray, List.set_cons_zero, List.set_cons_succ]
          refine wpAnyH_take (i := 4) (v := ?_) rfl (by kernel_rfl) (by kernel_rfl) (by kernel_rfl) (fun _ _ _ h => h) (Or.inl ⟨by rfl, ?hy4⟩) (by assumption) ?rs4
          case hy4 => (intro X hSX; (try dsimp only [SAp] at hSX); go_simp <;> with_reducible rfl)
          try simp only [Act.put, List.setIfInBounds_toArray, List.set_cons_zero, List.set_cons_succ]
          refine wpAnyH_take (i := 5) (v := ?_) rfl (by kernel_rfl) (by kernel_rfl) (by kernel_rfl) (fun _ _ _ h => h) (Or.inl ⟨by rfl, ?hy5⟩) (by assumption) ?rs5
          case hy5 => (intro X hSX; (try dsimp only [SAp] at hSX); go_simp <;> with_reducible rfl)
          try simp only [Act.put, List.setIfInBounds_toArray, List.set_cons_zero, List.set_cons_succ]
          refine wpAnyH_take (i := 6) (v := ?_) rfl (by kernel_rfl) (by kernel_rfl) (by kernel_rfl) (fun _ _ _ h => h) (Or.inl ⟨by rfl, ?hy6⟩) (by assumption) ?rs6
          case hy6 => (intro X hSX; (try dsimp only [SAp] at hSX); go_simp <;> with_reducible rfl)
          try simp only [Act.put, List.setIfInBounds_toArray, List.set_cons_zero, List.set_cons_succ]
          refine wpAnyH_take (i := 7) (v := ?_) rfl (by kernel_rfl) (by kernel_rfl) (by kernel_rfl) (fun _ _ _ h => h) (Or.inl ⟨by rfl, ?hy7⟩) (by assumption) ?rs7
          case hy7 => (intro X hSX; (try dsimp only [SAp] at hSX); go_simp <;> with_reducible rfl)
          try simp only [Act.put, List.setIfInBounds_toArray, List.set_cons_zero, List.set_cons_succ]
          refine wpAnyH_ready (rs := [8]) (by kernel_rfl) (by simp) ?_
          refine AllReadyH.cons rfl (fun KK hKK => ?_) AllReadyH.nil
          go_simp
          refine HPUT.out.mono ?_
          rintro e w6 ⟨rfl, ht6, hc6⟩
          have HC6 := hid ((Chg.of_below (F := five p) (below_drew' W2)).trans hc6)
          have HEND := hid (HTU.out w6 ht6 HC6.out)
          refine hKK.out _ _ (HSN.out _ HC6.out) (fun hH => ?_)
          clear hKK KK ht6 hc6 hS hH
          refine wpAnyH_done (by kernel_rfl) ?_ _
          dsimp only [Exit.inBlock, postB]
          exact HEND.out
      case done2 =>
        rintro D2 K2 W2 ⟨Q2, ht2, hQ2, hp2, hc2, hn2⟩ _ hKD hD hS
        rw [HLE.out] at ht2
        dsimp only at ht2
        rw [List.take_length, HAP.out, ← HSHW.out] at ht2
        have hcc := HC1.out.trans hc2
        have HBU2 := hid (HBU5.out.chg hcc HLO.out.2.2.2.2.2.1 HLO.out.2.2.2.2.2.2 (fun g r hl => HT5.out.not_row hl))
        have q0 := chg_cell hc2 cb HNF.out
        have HDD : Hid (Shut W2 D2 ∧ Shut W2 D1 ∧ ¬ Q2 D2 ∧ ¬ Q2 D1 ∧ w.heap.size ≤ D1 ∧ w.heap.size ≤ D2 ∧ D1 ≠ D2) := by
          have h1 := HD1.out
          have h2 := HD1L.out
          have h3 := HW4.out
          refine ⟨hS, (hc2.block D1 h2 h1.2.1).trans h1.2.2.2, fun h => hQ2 _ h hKD, fun h => ?_, by omega, by omega, by omega⟩
          rcases hn2 D1 h with h5 | h5
          · exact h1.1 h5
          · omega
        have HCC : Hid (Chg (m :: five p) w W2 (m :: five p)) := (Chg.of_below (below_step HBA.out HB5.out)).trans (chg_wide hcc fun k hk => List.mem_cons_of_mem _ hk)
        have HNQ : Hid (∀ b, Q2 b → Q b ∨ w.heap.size ≤ b) := fun b hb => by
          have h3 := HW4.out
          have h4 := HD1.out.2.2.1
          have h5 := HD1L.out
          rcases hn2 b hb with h | h
          · rcases HN1.out b h with h | h
            · exact .inl h
            · right; omega
          · right; omega
        have HT2 := hid ht2
        clear ht2 hQ2 hp2 hc2 hn2 hKD hD hS hcc cb c0
        go_wp2_with fail
        refine (bdrop HBU2.out).mono ?_
        rintro e w6 ⟨⟨u, rfl⟩, hb6, hc6⟩
        have HFIN : Hid (ApFin w T p Q Q2 most o shw B m w6) := by
          have hq : ¬ Q2 m := fun h => by
            rcases HNQ.out m h with h | h
            · exact hQm h
            · have := HLO.out.2.2.1; omega
          refine ⟨HT2.out.chg hc6 (by simp; exact HTM.out) (fun i hi hm => HLO.out.2.2.2.2.2.2 (by simp at hm; exact mem_five.2 ⟨i, hi, hm.symm⟩)) (fun b hb h => by simp at hb; subst hb; exact hq h), hb6, HCC.out.trans (chg_wide hc6 fun k hk => by simp at hk; simp [hk]), HNQ.out⟩
        have HSH : Hid (Shut w6 D2 ∧ Shut w6 D1) := by
          have h1 := HDD.out
          have h2 := HLO.out.2.2.1
          exact ⟨(hc6.block D2 (Array.getElem?_eq_some_iff.1 h1.1).1 (by simp; omega)).trans h1.1, (hc6.block D1 (Array.getElem?_eq_some_iff.1 h1.2.1).1 (by simp; omega)).trans h1.2.1⟩
        clear hb6 hc6 q0
        go_wp2
        have HPUT2 : Hid (∀ D X, w.heap.size ≤ D → ¬ Q2 D → Shut X D → ApFin w T p Q Q2 most o shw B m X → ApFin w T p Q Q2 most o shw B m (X.putObj D (.deferred none))) := fun D X h1 h2 h3 h4 =>
          h4.put HLO.out.1 HLO.out.2.1 HLO.out.2.2.1 HLO.out.2.2.2.1 h1 h2 (.inl h3) _
        refine ⟨by simp, .inl ⟨_, _, rfl, run_takeDeferred HSH.out.1, ?_⟩⟩
        have HSH2 : Hid (Shut (w6.putObj D2 (.deferred none)) D1) := (World.putObj_heap_other HDD.out.2.2.2.2.2.2).trans HSH.out.2
        refine ⟨by simp, .inl ⟨_, _, rfl, run_takeDeferred HSH2.out, ?_⟩⟩
        refine ⟨.int .i64 0, ?_, rfl, Q2, HPUT2.out D1 _ HDD.out.2.2.2.2.1 HDD.out.2.2.2.1 HSH2.out (HPUT2.out D2 _ HDD.out.2.2.2.2.2.1 HDD.out.2.2.1 HSH.out.1 HFIN.out)⟩
        simp [results, Tryz.f26, go_sem]
end
end Go.Proofs.YtlnagdodnkhbmaaGreat
