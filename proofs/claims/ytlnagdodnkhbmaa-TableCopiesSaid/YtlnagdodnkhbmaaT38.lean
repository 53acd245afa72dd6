/- A table's Copy; the reference's Copy. -/
import Derived.Test.YtlnagdodnkhbmaaT37
import Derived.Test.YtlnagdodnkhbmaaT33
import Derived.Deep.RegionLaw
namespace Go.Proofs.Ytlnagdodnkhbmaa
open Go.RowKit
set_option maxRecDepth 100000
/-- A copy's cells, while its trees are copied. -/
def padC (most : Int) (p p' : Nat → Nat) (k : Nat) : Array Value := #[.int .i64 most, if 0 < k then ptr (p' 0) else ptr (p 0), if 1 < k then ptr (p' 1) else ptr (p 1), if 2 < k then ptr (p' 2) else ptr (p 2), if 3 < k then ptr (p' 3) else ptr (p 3), if 4 < k then ptr (p' 4) else ptr (p 4)]
def upd (p' : Nat → Nat) (k b : Nat) : Nat → Nat := fun i => if i = k then b else p' i
theorem padC_set (most : Int) (p p' : Nat → Nat) (b : Nat) {k : Nat} (h : k < 5) : (padC most p p' k).set! (1 + k) (ptr b) = padC most p (upd p' k b) (k + 1) := by
  match k with
  | 0 => rfl
  | 1 => rfl
  | 2 => rfl
  | 3 => rfl
  | 4 => rfl
  | k + 5 => omega
theorem padC_at (most : Int) (p p' : Nat → Nat) {k : Nat} (h : k < 5) : (padC most p p' k)[1 + k]? = some (.pointer (some ⟨p k, 0, none⟩)) := by
  match k with
  | 0 => rfl
  | 1 => rfl
  | 2 => rfl
  | 3 => rfl
  | 4 => rfl
  | k + 5 => omega
theorem idx_any (p : Nat → Nat) {k : Nat} (h : k < 5) (W : World) : (Instr.index 70 (.agg #[.pointer (some ⟨p 0, 0, none⟩), .pointer (some ⟨p 1, 0, none⟩), .pointer (some ⟨p 2, 0, none⟩), .pointer (some ⟨p 3, 0, none⟩), .pointer (some ⟨p 4, 0, none⟩)]) (.int .i64 (k : Int))).run Try.prog W = .ok (.pointer (some ⟨p k, 0, none⟩)) W := by
  obtain ⟨h0, h1, h2, h3, h4⟩ := idx5 p
  rcases (by omega : k = 0 ∨ k = 1 ∨ k = 2 ∨ k = 3 ∨ k = 4) with rfl | rfl | rfl | rfl | rfl
  · exact h0 W
  · exact h1 W
  · exact h2 W
  · exact h3 W
  · exact h4 W
structure CopyRel (w : World) (most : Int) (o : Nat) (p p' : Nat → Nat) (Q : Bl) (J : Nat → List Pr) (k : Nat) (wr : World) : Prop where
  below : Below w.heap.size w wr
  c : wr.heap[w.heap.size]? = some (.cells (padC most p p' k) 72 (0, 0))
  t : ∀ j, j < k → TreeAt wr (p' j) o (J j) Q
  lt : ∀ j, j < k → w.heap.size < p' j ∧ p' j < wr.heap.size
  ne : ∀ i j, i < k → j < k → p' i = p' j → i = j
theorem CopyRel.start (w : World) (most : Int) (o : Nat) (p : Nat → Nat) (Q : Bl) (J : Nat → List Pr) : CopyRel w most o p p Q J 0 (w.alloc (.cells #[.int .i64 most, .pointer (some ⟨p 0, 0, none⟩), .pointer (some ⟨p 1, 0, none⟩), .pointer (some ⟨p 2, 0, none⟩), .pointer (some ⟨p 3, 0, none⟩), .pointer (some ⟨p 4, 0, none⟩)] 72)) :=
  ⟨(Below.refl _ _).alloc (Nat.le_refl _) _, heap_alloc_new w _, fun j h => by omega, fun j h => by omega, fun i j h => by omega⟩
theorem CopyRel.step {w wr w' : World} {most : Int} {o k : Nat} {p p' : Nat → Nat} {Q : Bl} {J : Nat → List Pr} (h : CopyRel w most o p p' Q J k wr) (hQ : Under Q w) (hk : k < 5) (hb : Below wr.heap.size wr w') (hs : wr.heap.size < w'.heap.size) (ht : TreeAt w' wr.heap.size o (J k) Q) :
    CopyRel w most o p (upd p' k wr.heap.size) Q J (k + 1) (w'.setCell ⟨w.heap.size, 1 + k, none⟩ (.pointer (some ⟨wr.heap.size, 0, none⟩))) := by
  have hlt : w.heap.size < wr.heap.size := (Array.getElem?_eq_some_iff.1 h.c).1
  have hc : w'.heap[w.heap.size]? = some (.cells (padC most p p' k) 72 (0, 0)) := (hb.block _ hlt).trans h.c
  have hk1 : ∀ b, b ≠ w.heap.size → (w'.setCell ⟨w.heap.size, 1 + k, none⟩ (.pointer (some ⟨wr.heap.size, 0, none⟩))).heap[b]? = w'.heap[b]? := fun b hne => Below.heap_setCell _ _ _ _ hne
  have hsz : (w'.setCell ⟨w.heap.size, 1 + k, none⟩ (.pointer (some ⟨wr.heap.size, 0, none⟩))).heap.size = w'.heap.size := by simp [World.setCell]
  have hQ1 : ∀ b, Q b → b ≠ w.heap.size := fun b hb e => by have := hQ b hb; omega
  refine ⟨(h.below.trans (hb.mono h.below.size)).setCell (p := ⟨w.heap.size, 1 + k, none⟩) (Nat.le_refl _) _, ?_, fun j hj => ?_, fun j hj => ?_, fun i j hi hj e => ?_⟩
  · rw [setCell_row hc, ← padC_set most p p' wr.heap.size hk]; rfl
  · unfold upd
    by_cases e : j = k
    · subst e
      rw [if_pos rfl]
      exact ht.keep (hk1 _ (by omega)) (fun b hb => hk1 b (hQ1 b hb)) (by omega)
    · rw [if_neg e]
      have h3 := h.lt j (by omega)
      exact ((h.t j (by omega)).below hb).keep (hk1 _ (by omega)) (fun b hb => hk1 b (hQ1 b hb)) (by omega)
  · unfold upd
    rw [hsz]
    by_cases e : j = k
    · rw [if_pos e]; omega
    · rw [if_neg e]
      have h3 := h.lt j (by omega)
      omega
  · unfold upd at e
    by_cases e1 : i = k
    · by_cases e2 : j = k
      · omega
      · rw [if_pos e1, if_neg e2] at e
        have h3 := h.lt j (by omega)
        omega
    · by_cases e2 : j = k
      · rw [if_neg e1, if_pos e2] at e
        have h3 := h.lt i (by omega)
        omega
      · rw [if_neg e1, if_neg e2] at e
        exact h.ne i j (by omega) (by omega) e
theorem CopyRel.tab {w wr : World} {most o : Nat} {p p' : Nat → Nat} {Q : Bl} {J : Nat → List Pr} (h : CopyRel w (most : Int) o p p' Q J 5 wr) : TabI wr w.heap.size p' Q most o J :=
  ⟨h.c, h.t, fun i j hi hj e => h.ne i j hi hj e, fun i hi => by have := h.lt i hi; omega⟩
def CopyEnd (w : World) (Q : Bl) (most o : Nat) (l : List KR) (e : Ending) (w' : World) : Prop :=
  e = .returned (.pointer (some ⟨w.heap.size, 0, none⟩)) ∧ Below w.heap.size w w' ∧ ∃ p', Tab w' w.heap.size p' Q most o l ∧ ∀ i, i < 5 → w.heap.size < p' i
set_option maxHeartbeats 1000000 in
theorem tcopy {w : World} {T : Nat} {p : Nat → Nat} {Q : Bl} {most o : Nat} {l : List KR} (h : Tab w T p Q most o l) : Calls Try.prog 19 #[.pointer (some ⟨T, 0, none⟩)] w (CopyEnd w Q most o l) := by
  obtain ⟨J, hT, hrest⟩ := h
  have HR := hid hrest
  have HT := hid hT
  have HST := hid (CopyRel.start w (most : Int) o p Q J)
  have HQU : Hid (Under Q w) := hT.under
  have hba : Below w.heap.size w (w.alloc (.cells #[.int .i64 (most : Int), .pointer (some ⟨p 0, 0, none⟩), .pointer (some ⟨p 1, 0, none⟩), .pointer (some ⟨p 2, 0, none⟩), .pointer (some ⟨p 3, 0, none⟩), .pointer (some ⟨p 4, 0, none⟩)] 72)) := (Below.refl _ _).alloc (Nat.le_refl _) _
  have q0 := hT.c0
  have q1 := hT.cp (i := 0) (by omega)
  have q2 := hT.cp (i := 1) (by omega)
  have q3 := hT.cp (i := 2) (by omega)
  have q4 := hT.cp (i := 3) (by omega)
  have q5 := hT.cp (i := 4) (by omega)
  have r1 := (hT.below hba).cp (i := 0) (by omega)
  have r2 := (hT.below hba).cp (i := 1) (by omega)
  have r3 := (hT.below hba).cp (i := 2) (by omega)
  have r4 := (hT.below hba).cp (i := 3) (by omega)
  have r5 := (hT.below hba).cp (i := 4) (by omega)
  obtain ⟨wa, HWA⟩ : ∃ W, Hid (W = w.alloc (.cells #[.int .i64 (most : Int), .pointer (some ⟨p 0, 0, none⟩), .pointer (some ⟨p 1, 0, none⟩), .pointer (some ⟨p 2, 0, none⟩), .pointer (some ⟨p 3, 0, none⟩), .pointer (some ⟨p 4, 0, none⟩)] 72)) := ⟨_, rfl⟩
  rw [← HWA.out] at HST
  clear hT hrest hba
  go_enter Try.func19, Try.ntmps19
  go_wp2
  rw [← HWA.out]
  clear q0 q1 q2 q3 q4 q5 r1 r2 r3 r4 r5
  go_loopw [15] (fun i wr => ∃ k : Nat, k ≤ 5 ∧ i = .int .i64 k ∧ ∃ p', CopyRel w (most : Int) o p p' Q J k wr) (fun i _ => 5 - (intOf i).toNat)
  case atStart => exact ⟨0, by omega, rfl, p, HST.out⟩
  case round =>
    obtain ⟨k, hk, rfl, p', hrl⟩ := hrel
    have HRL := hid hrl
    by_cases hlt : k < 5
    · have hlti : (k : Int) < 5 := by omega
      have hk0 : (0 : Int) ≤ (k : Int) := by omega
      have hix := idx_any p hlt
      clear hrl
      go_wp2_with fail
      refine ((HT.out.below HRL.out.below).t k (by omega)).copy.mono ?_
      rintro e w' ⟨rfl, hb, hs, ht⟩
      have hc : w'.heap[w.heap.size]? = some (.cells (padC (most : Int) p p' k) 72 (0, 0)) := (hb.block _ (Array.getElem?_eq_some_iff.1 HRL.out.c).1).trans HRL.out.c
      have q0 : w'.cell? ⟨w.heap.size, 1 + k, none⟩ = some (.pointer (some ⟨p k, 0, none⟩)) := (cell_of_row _ _ _ _ _ _ hc).trans (padC_at _ _ _ hlt)
      have qf : w'.frozen? ⟨w.heap.size, 1 + k, none⟩ = false := by simp [World.frozen?, hc]
      have HS := hid (HRL.out.step HQU.out hlt hb hs ht)
      clear hb hs ht hc
      go_wp2
      go_roundw
      case rel => exact ⟨k + 1, by omega, by go_num, _, HS.out⟩
      case measure => simp [intOf]; omega
    · obtain rfl : k = 5 := by omega
      go_wp2
      go_ret
      exact ⟨rfl, HRL.out.below, p', ⟨J, HRL.out.tab, HR.out⟩, fun i hi => (HRL.out.lt i hi).1⟩
section
variable {P : Program} {α : Type} {c : α → List Value}
theorem step_append_rows {w : World} {ops : Array Oper} {o : Oper} {a : Act} {K : Act → World → Prop} {Q : Exit → Act → World → Prop} {E : Prop} (hgd : o.guard = none) (s x : Operand) (t : TypeId)
    (ho : o.op = .call { callee := .builtin .append, args := #[s, x], argTypes := #[t, t] })
    (base : Nat) (e : TypeId) (i : TypeInfo) (z : Value) (size bytes : Nat) (ht : P.underlying t = some (.slice e)) (hi : P.info? e = some i) (hz : i.zero = some z)
    (hsize : i.size = size) (hby : i.bytes = bytes) (hzs : z.cells.size = size) (hsz : 0 < size) (hone : ∀ a, ∀ y ∈ c a, y.oneCell' = true)
    (v : Value) (l : List α) (hs : a.eval s = v) (hown : OwnElems size c e w base v l) (u : Value) (l' : List α) (hx : a.eval x = u) (hu : Elems size c w u l')
    (h63 : l.length + l'.length ≤ maxLen) (hbytes : (l.length + l'.length) * bytes ≤ 140737488355328) (hbase : base ≤ w.heap.size)
    (h : ∀ v' w', OwnElems size c e w' base v' (l ++ l') → w.grownBy w' v.ownBlock → (∀ b ∈ ownFoot v', b ∈ ownFoot v ∨ w.heap.size ≤ b) → K (a.put o.dst v') w') :
    if Region.wanted o (yielded ops a.tmps) = true then Oper.wp P o a w K Q else E := by
  rw [if_pos (by unfold Region.wanted; rw [hgd])]
  obtain ⟨v', w', hrun, h2, h3, h4⟩ := run_append_rows (P := P) w base t o.type e i z size bytes ht hi hz hsize hby hzs hsz hone v l hown u l' hu h63 hbytes hbase
  unfold Oper.wp execOp
  simp only [ho, resolve, invoke, builtin, Sem.run_bind, Sem.run_pure, Result.andThen_ok, List.map_toArray, List.map_cons, List.map_nil, hs, hx, hrun]
  exact h v' w' h2 h3 h4
end
set_option maxHeartbeats 1000000 in
theorem rcopy {w : World} {G : List Nat} {rp most : Nat} {l : List KR} (h : RTab w G rp most l) (hsz : l.length ≤ 200000) : Calls Try.prog 23 #[.pointer (some ⟨rp, 0, none⟩)] w fun e w' =>
    e = .returned (.pointer (some ⟨w.heap.size, 0, none⟩)) ∧ Below w.heap.size w w' ∧ ∃ G', RTab w' G' w.heap.size most l ∧ ∀ b ∈ G', w.heap.size ≤ b := by
  have H := hid h
  have HSZ := hid hsz
  obtain ⟨v, h1, h2, rfl, h4, h5⟩ := h
  obtain ⟨A, cap, rfl⟩ := h2.slice
  obtain ⟨i0, hi0, hz0, hs0, hy0⟩ := info_parts qinfo
  have HEL := hid h2
  obtain ⟨n, HN⟩ : ∃ n, Hid (n = l.length) := ⟨_, rfl⟩
  rw [← HN.out] at h1 HEL
  have HRP : Hid (rp < w.heap.size) := (Array.getElem?_eq_some_iff.1 h1).1
  have m1 : w.cell? ⟨rp, 1, none⟩ = some (.int .i64 (most : Int)) := cell_of_row w rp 1 _ _ _ h1
  have m0 : w.cell? ⟨rp, 0, none⟩ = some (.slice A n cap) := by have := cell_of_row w rp 0 _ _ _ h1; simpa using this
  have hba : Below w.heap.size w (w.alloc (.cells #[.slice none 0 0, .int .i64 (most : Int)] 68)) := (Below.refl _ _).alloc (Nat.le_refl _) _
  have HBA := hid hba
  have HROW : Hid ((w.alloc (.cells #[.slice none 0 0, .int .i64 (most : Int)] 68)).heap[w.heap.size]? = some (.cells #[.slice none 0 0, .int .i64 (most : Int)] 68 (0, 0))) := heap_alloc_new w _
  have k0 := below_keep hba _ _ m0
  have x0 : (w.alloc (.cells #[.slice none 0 0, .int .i64 (most : Int)] 68)).cell? ⟨w.heap.size, 0, none⟩ = some (.slice none 0 0) := cell_of_row _ w.heap.size 0 _ _ _ HROW.out
  have HSA : Hid (w.heap.size + 1 ≤ (w.alloc (.cells #[.slice none 0 0, .int .i64 (most : Int)] 68)).heap.size) := by show _ ≤ _; simp
  obtain ⟨wa, HWA⟩ : ∃ W, Hid (W = w.alloc (.cells #[.slice none 0 0, .int .i64 (most : Int)] 68)) := ⟨_, rfl⟩
  rw [← HWA.out] at HBA HROW k0 x0 HSA
  clear h1 h2 h4 h5 hba
  go_enter Try.func23, Try.ntmps23
  go_wp2
  rw [← HWA.out]
  go_region_law
    (refine step_append_rows (by rfl) (.tmp 14) (.tmp 18) 66 (by rfl) (w.heap.size + 1) 94 i0 _ 5 48 Try.underlying66 hi0 hz0 hs0 hy0 (by rfl) (by omega) cQ_one (.slice none 0 0) [] (by rfl) (OwnElems.nil _ _ _ _ _) (.slice A n cap) l (by rfl) (HEL.out.below (below_step HBA.out (below_drew' wa))) (by have := HSZ.out; simp [maxLen]; omega) (by have := HSZ.out; simp; omega) HSA.out ?_; intro v4 w4 ho4 hg4 hf4;
          have HO4 := hid ho4; have HG4 := hid hg4; have HF4 := hid hf4;
          have HR4 : Hid (w4.heap[w.heap.size]? = some (.cells #[.slice none 0 0, .int .i64 (most : Int)] 68 (0, 0))) := (HG4.out.block _ HSA.out (by intro e; cases e)).trans HROW.out;
          have x4 : w4.cell? ⟨w.heap.size, 0, none⟩ = some (.slice none 0 0) := cell_of_row _ w.heap.size 0 _ _ _ HR4.out;
          have x4f : w4.frozen? ⟨w.heap.size, 0, none⟩ = false := (by have := HR4.out; simp [World.frozen?, this]);
          obtain ⟨A4, n4, c4, rfl⟩ := ho4.rows.form;
          clear ho4 hg4 hf4)
  all_goals
    have HRF := hid (setCell_row HR4.out (i := 0) (.slice A4 n4 c4))
    have HBF : Hid (Below w.heap.size w (w4.setCell ⟨w.heap.size, 0, none⟩ (.slice A4 n4 c4))) := (below_step HBA.out (((Below.refl wa.heap.size wa).drew).grown HG4.out (Nat.le_refl _) (fun k e => by cases e))).setCell (p := ⟨w.heap.size, 0, none⟩) (Nat.le_refl _) _
    have HFG : Hid (∀ b ∈ ownFoot (.slice A4 n4 c4), w.heap.size + 1 ≤ b ∧ b < w4.heap.size) := fun b hb => HO4.out.lt b hb
    have HFE : Hid (Elems 5 cQ (w4.setCell ⟨w.heap.size, 0, none⟩ (.slice A4 n4 c4)) (.slice A4 n4 c4) l) := by
      have h5 := HO4.out.rows
      rw [List.nil_append] at h5
      exact h5.keep fun b hb => Below.heap_setCell _ _ _ _ (by have := (HFG.out b hb).1; show b ≠ w.heap.size; omega)
    go_wp2
    go_ret
    refine ⟨rfl, HBF.out, _, ⟨_, HRF.out, HFE.out, rfl, fun b hb => ?_, fun hb => ?_⟩, fun b hb => ?_⟩
    · have := (HFG.out b hb).2
      simpa [World.setCell] using this
    · have := (HFG.out _ hb).1; omega
    · rcases List.mem_cons.1 hb with rfl | hb
      · exact Nat.le_refl _
      · have := (HFG.out b hb).1; omega
end Go.Proofs.Ytlnagdodnkhbmaa
