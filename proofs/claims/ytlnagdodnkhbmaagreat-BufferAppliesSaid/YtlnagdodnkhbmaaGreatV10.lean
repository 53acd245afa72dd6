/- A buffer: Writes, walked. -/
import Derived.Test.YtlnagdodnkhbmaaGreatV9
namespace Go.Proofs.YtlnagdodnkhbmaaGreat
open Go.RowKit Go.Maps Go.WideMaps Go.Shelf
set_option maxRecDepth 100000

theorem winfo : (Tryz.prog.info? 119).map (fun i => (i.zero, i.size, i.bytes)) = some (some (.agg #[.string ⟨#[]⟩, .pointer none]), 2, 24) := by kernel_rfl
/-- What Writes has made: a function over a block that holds a slice of keys and pointers. -/
def WrEnd (w : World) (ws : List WR) (e : Ending) (w' : World) : Prop :=
  e = .returned (.func (.func 65) #[] #[.pointer (some ⟨w.heap.size, 0, none⟩)]) ∧ ∃ v cs, w'.heap[w.heap.size]? = some (.cells #[v] 116 (0, 0)) ∧ Elems 2 cE8 w' v cs ∧ ToldW w' cs ws ∧ Below w.heap.size w w' ∧ (∀ q ∈ cs, ∀ g, q.2 = g + 1 → w.heap.size ≤ g) ∧ ∀ b ∈ ownFoot v, w.heap.size < b ∧ b < w'.heap.size
theorem ptrC_ptr (c : Nat) : ∃ q, ptrC c = .pointer q := by cases c <;> exact ⟨_, rfl⟩
theorem keys_ext {A B : List (List Nat)} (hA : A.Pairwise (· < ·)) (hB : B.Pairwise (· < ·)) (hp : A.Perm B) : A = B := by
  have f : ∀ C : List (List Nat), C.Pairwise (· < ·) → (C.map fun k => ((k, none) : WR)).Pairwise fun a b => a.1 < b.1 := fun C h => by
    rw [List.pairwise_map]; exact h
  have h := ws_ext (f A hA) (f B hB) (fun q => (hp.map _).mem_iff)
  have h2 := congrArg (List.map Prod.fst) h
  simpa [List.map_map, Function.comp_def] using h2
/-- Behind the sort. -/
theorem wr_end {w0 wr w6 : World} {m r cnt : Nat} {ws us : List WR} {cs d : List CE} {v : Value} (h : WRel w0 m r ws [] cnt us cs v wr) (hw : WsOk ws) (hp : d.Perm cs) (hs : d.Pairwise fun a b => a.1 < b.1) (ho : OwnElems 2 cE8 119 w6 (w0.heap.size + 2) v d) (hg : wr.grownBy w6 v.ownBlock) :
    ∃ v cs, w6.heap[w0.heap.size]? = some (.cells #[v] 116 (0, 0)) ∧ Elems 2 cE8 w6 v cs ∧ ToldW w6 cs ws ∧ Below w0.heap.size w0 w6 ∧ (∀ q ∈ cs, ∀ g, q.2 = g + 1 → w0.heap.size ≤ g) ∧ ∀ b ∈ ownFoot v, w0.heap.size < b ∧ b < w6.heap.size := by
  have hfoot : ∀ b, v.ownBlock = some b → w0.heap.size + 2 ≤ b := fun b e => (h.own.lt b (mem_ownFoot.2 e)).1
  have hperm := h.perm
  rw [List.append_nil] at hperm
  refine ⟨v, d, ?_, ho.rows, ⟨?_, fun k c x hc hx => ?_⟩, h.below.grown hg h.below.size (fun b e => by have := hfoot b e; omega), fun q hq => h.new_ q (hp.mem_iff.1 hq), fun b hb => by have := ho.lt b hb; omega⟩
  · exact (hg.block _ (Array.getElem?_eq_some_iff.1 h.bl).1 (by intro e; have := hfoot _ e.symm; omega)).trans h.bl
  · refine keys_ext (List.pairwise_map.2 hs) (List.pairwise_map.2 hw.rise) ?_
    have h1 := hp.map Prod.fst
    rw [h.told.keys] at h1
    exact h1.trans (hperm.map Prod.fst)
  · exact (h.told.ptr k c x (hp.mem_iff.1 hc) (hperm.mem_iff.2 hx)).keep fun g y hl => hg.block g hl.lt (own_not_row h.own hl)
set_option maxHeartbeats 2000000 in
theorem bwrites {w : World} {B T m : Nat} {ws : List WR} (h : Buf w B T m ws) (hlen : ws.length ≤ 1000000) : Calls Tryz.prog 39 #[.pointer (some ⟨B, 0, none⟩)] w (WrEnd w ws) := by
  have HB := hid h
  have HW := hid h.ok
  have HML := hid h.mlt
  obtain ⟨i0, hi0, hz0, hs0, hy0⟩ := info_parts winfo
  have hmf := hmf
  have hba : Below w.heap.size w (w.alloc (.cells #[.slice none 0 0] 116)) := (Below.refl _ _).alloc (Nat.le_refl _) _
  have c1 : (w.alloc (.cells #[.slice none 0 0] 116)).cell? ⟨B, 1, none⟩ = some (.map (some m)) := (h.below hba).c1
  have HBA := hid hba
  have HNEW : Hid ((w.alloc (.cells #[.slice none 0 0] 116)).heap[w.heap.size]? = some (.cells #[.slice none 0 0] 116 (0, 0))) := heap_alloc_new w _
  have HSA : Hid ((w.alloc (.cells #[.slice none 0 0] 116)).heap.size = w.heap.size + 1) := by show _ = _; simp
  obtain ⟨wa, HWA⟩ : ∃ W, Hid (W = w.alloc (.cells #[.slice none 0 0] 116)) := ⟨_, rfl⟩
  rw [← HWA.out] at HBA HNEW HSA
  clear h hba
  go_enter Tryz.func39, Tryz.ntmps39
  go_wp2_with (first | (at_range; rw [← HWA.out]; refine wpList_range_buf _ rfl _ rfl m ws rfl (HB.out.below HBA.out).d HW.out ?_; intro w2 cnt hrg hgr hs2) | go_in)
  obtain ⟨r, HR⟩ : ∃ r, Hid (r = wa.heap.size) := ⟨_, rfl⟩
  rw [← HR.out] at hrg ⊢
  go_frame
  have HST : Hid (WRel w m r ws ws cnt [] [] (.slice none 0 0) w2) := ⟨HR.out.trans HSA.out, hrg, by simp, ToldW.nil _, (hgr.block _ (by have := HSA.out; omega) (by simp)).trans HNEW.out, OwnElems.nil _ _ _ _ _, (HBA.out.mono (Nat.le_refl _)).grown hgr HBA.out.size (fun k e => by cases e), by simp⟩
  clear hrg hgr hs2 c1
  go_loopw [4] (fun _ wr => ∃ L cnt us cs v, WRel w m r ws L cnt us cs v wr) (fun _ wr => wr.rangeLeft m r)
  case atStart => exact ⟨ws, cnt, [], [], _, HST.out⟩
  case round =>
    obtain ⟨L, cnt', us, cs, v, hrl⟩ := hrel
    obtain ⟨A, n, cap, rfl⟩ := hrl.own.rows.form
    have HRL := hid hrl
    clear hrl
    go_wp2_with (first | (at_next; refine wpList_next_buf _ rfl _ rfl m r ws L cnt' HW.out rfl HRL.out.rng ?_ ?_) | go_in)
    · intro hL
      rw [hL] at HRL
      clear hL
      have x0 := HRL.out.cell
      have HDI : Hid (cs.Pairwise fun a b => a.1 ≠ b.1) := keys_diff (B := us) HRL.out.told.keys (by
        have h1 := HRL.out.perm
        rw [List.append_nil] at h1
        exact h1.symm.pairwise HW.out.diff (fun {a b} h e => h e.symm))
      have HBY : Hid (∀ q ∈ cs, Byt q.1) := fun q hq => by
        obtain ⟨u, hu⟩ := keys_mem HRL.out.told.keys (k := q.1) (a := q.2) hq
        have h1 := HRL.out.perm
        rw [List.append_nil] at h1
        exact HW.out.byt _ (h1.mem_iff.1 hu)
      have HLC := hid HRL.out.len
      go_wp2_with fail
      refine (sort_w HRL.out.own HBY.out HDI.out (by have := HLC.out; omega)).mono ?_
      rintro e w6 ⟨rfl, d, hp, hs, ho, hg⟩
      have HF := hid (wr_end HRL.out HW.out hp hs ho hg)
      clear hp hs ho hg
      go_wp2
      go_ret
      exact ⟨rfl, HF.out⟩
    · intro k x c w3 L' cnt2 hb hv hp hperm hrg3 hlt hg3 hs3 hen
      have HM3 := hid (HRL.out.next hg3 hrg3)
      have HLT := hid hlt
      have HPC := hid hp
      have HPERM : Hid ((us ++ (k, x) :: L').Perm ws) := (hperm.symm.append_left us).trans HRL.out.perm
      have HLEN := hid HRL.out.len
      obtain ⟨p, HP⟩ : ∃ p, Hid (p = ptrC c) := ⟨_, rfl⟩
      rw [← HP.out] at hen ⊢
      have x3 : w3.drew.cell? ⟨w.heap.size, 0, none⟩ = some (.slice A n cap) := HM3.out.cell
      clear hb hp hrg3 hlt hg3 hs3 hperm hv
      go_wp2
      go_region_law (first
        | (refine step_call_ret (by rfl) 62 (.tmp 20) 87 (by rfl) p (by rfl) (enters_of Tryz.func62 (by kernel_rfl) rfl) ptrC _ (by rw [HP.out]; exact copied_any _ c x HPC.out) ?_; intro c4 w4 hs4;
            have HM4 := hid (HM3.out.step (below_step (below_drew' w3) hs4.2.1));
            have HPC4 := hid hs4.1;
            have HNC : Hid (∀ g, c4 = g + 1 → w.heap.size ≤ g) := (fun g e => Nat.le_trans HM3.out.below.size (hs4.2.2 g e));
            obtain ⟨q4, HP4⟩ : ∃ q, Hid (ptrC c4 = .pointer q) := ptrC_ptr c4;
            rw [HP4.out];
            have hba4 : Below w4.heap.size w4 (w4.alloc (.cells #[.string (str k), .pointer q4] 119)) := (Below.refl _ _).alloc (Nat.le_refl _) _;
            have HM4A := hid (HM4.out.step hba4);
            have HPC4A : Hid (PtrIs (w4.alloc (.cells #[.string (str k), .pointer q4] 119)) c4 x) := HPC4.out.keep (fun g _ hl => hba4.block g hl.lt);
            have HEL : Hid (Elems 2 cE8 (w4.alloc (.cells #[.string (str k), .pointer q4] 119)) (.slice (some ⟨w4.heap.size, 0, none⟩) 1 1) [(k, c4)]) := (by rw [← HP4.out]; exact rows_new w4 2 cE8 cE8_len (k, c4) 119);
            have x4 : w4.cell? ⟨w.heap.size, 0, none⟩ = some (.slice A n cap) := HM4.out.cell;
            have x4a : (w4.alloc (.cells #[.string (str k), .pointer q4] 119)).cell? ⟨w.heap.size, 0, none⟩ = some (.slice A n cap) := HM4A.out.cell;
            clear hs4 hba4)
        | (refine step_append_rows (by rfl) (.tmp 18) (.tmp 23) 116 (by rfl) (w.heap.size + 2) 119 i0 _ 2 24 Tryz.underlying116 hi0 hz0 hs0 hy0 (by rfl) (by omega) cE8_one (.slice A n cap) cs (by rfl) HM4A.out.own (.slice (some ⟨w4.heap.size, 0, none⟩) 1 1) [(k, c4)] (by rfl) HEL.out (by have := HLEN.out; simp [maxLen]; omega) (by have := HLEN.out; simp; omega) HM4A.out.rlt ?_; intro v5 w5 ho5 hg5 hf5;
            have HD := hid (HM4A.out.done HW.out HML.out HPERM.out HPC4A.out HRL.out.new_ HNC.out ho5 hg5);
            have HB5 : Hid (w5.heap[w.heap.size]? = some (.cells #[.slice A n cap] 116 (0, 0))) := (hg5.block _ HM4A.out.lt (by intro e; have := (HM4A.out.own.lt _ (mem_ownFoot.2 e.symm)).1; omega)).trans HM4A.out.bl;
            have x5 : w5.cell? ⟨w.heap.size, 0, none⟩ = some (.slice A n cap) := cell_of_row _ w.heap.size 0 _ _ _ HB5.out;
            have x5f : w5.frozen? ⟨w.heap.size, 0, none⟩ = false := (by have := HB5.out; simp [World.frozen?, this]);
            obtain ⟨A5, n5, c5, rfl⟩ := ho5.rows.form;
            clear ho5 hg5 hf5))
      all_goals
        go_wp2
        go_roundw
        case rel => exact ⟨L', cnt2, _, _, _, HD.out⟩
        case measure => rw [HD.out.rng.left_eq, HRL.out.rng.left_eq]; exact HLT.out
end Go.Proofs.YtlnagdodnkhbmaaGreat
