/- A buffer: keep, Drop, Len, Put, Delete. -/
import Derived.Test.YtlnagdodnkhbmaaGreatV4
import Derived.Deep.RegionHeld3
namespace Go.Proofs.YtlnagdodnkhbmaaGreat
open Go.RowKit Go.Maps Go.WideMaps
set_option maxRecDepth 100000

section
variable {w : World} {B T m : Nat} {ws : List WR}
theorem Buf.wrote (h : Buf w B T m ws) {w' : World} {us : List WR} (hd : BufM w' m us) (ht : w.mapTurned w' m) (hu : WsOk us) : Buf w' B T m us :=
  ⟨((turned_chg ht).block B h.lt (by have := h.ne; simp; exact this)).trans h.c, hd, hu⟩
theorem bkeep (h : Buf w B T m ws) (hlen : ws.length ≤ 1000000) (k : List Nat) (hb : Byt k) (hk : keyB k = true) (c : Nat) (v : Option Ro) (hv : PtrIs w c v) (hok : ∀ r, v = some r → r.ok) :
    Calls Tryz.prog 51 #[.pointer (some ⟨B, 0, none⟩), .string (str k), ptrC c] w fun e w' => (∃ u, e = .returned u) ∧ Buf w' B T m (insW ws k v) ∧ Chg [m] w w' [m] := by
  have HB := hid h
  have HV := hid hv
  have HOK := hid (h.ok.put hb hk hok)
  have HK := hid hk
  have HBY := hid hb
  have hkl := keyB_yes hk
  have c1 := h.c1
  have c1d : w.drew.cell? ⟨B, 1, none⟩ = some (.map (some m)) := c1
  obtain ⟨p, HP⟩ : ∃ p, Hid (p = ptrC c) := ⟨_, rfl⟩
  rw [← HP.out]
  clear h hv hok hk hb
  go_enter Tryz.func51, Tryz.ntmps51
  go_wp2_with fail
  go_region_held3 (fun W => W.cell? ⟨B, 1, none⟩ = some (.map (some m))) (first | exact c1 | exact HS4.out | exact HS5.out)
    (first | (go_at_call 79; ((with_reducible refine (clone_any _ k (by omega)).mono ?_); rintro e w4 ⟨rfl, hb4⟩; have HB4 := hid (HB.out.below (below_step (below_drew' w) hb4)); have HBB := hid (below_step (below_drew' w) hb4); obtain ⟨w5, hrun, hd5, ht5⟩ := HB4.out.d.store HB4.out.ok hlen HBY.out HK.out (HV.out.keep fun g _ hl => HBB.out.block g hl.lt); rw [← HP.out] at hrun; have HB5 := hid (HB4.out.wrote hd5 ht5 HOK.out); have HT5 := hid ht5; have HS4 : Hid (w4.cell? ⟨B, 1, none⟩ = some (.map (some m))) := HB4.out.c1; have HS5 : Hid (w5.cell? ⟨B, 1, none⟩ = some (.map (some m))) := HB5.out.c1; clear hb4 hd5 ht5)))
  go_wp2
  refine bodyPost_end (results_none rfl _ _ _) rfl ?_
  exact ⟨⟨_, rfl⟩, HB5.out, (Chg.of_below HBB.out).trans (turned_chg HT5.out)⟩
theorem bdrop (h : Buf w B T m ws) : Calls Tryz.prog 30 #[.pointer (some ⟨B, 0, none⟩)] w fun e w' => (∃ u, e = .returned u) ∧ Buf w' B T m [] ∧ Chg [m] w w' [m] := by
  have HB := hid h
  have c1 := h.c1
  obtain ⟨w5, hrun, hd5, ht5⟩ := h.d.clear_ 0
  have HB5 := hid (h.wrote hd5 ht5 WsOk.nil)
  have HT5 := hid ht5
  clear h hd5 ht5
  go_enter Tryz.func30, Tryz.ntmps30
  go_wp2
  refine bodyPost_end (results_none rfl _ _ _) rfl ?_
  exact ⟨⟨_, rfl⟩, HB5.out, turned_chg HT5.out⟩
theorem bdrop_nil (w : World) : Calls Tryz.prog 30 #[.pointer none] w fun e w' => (∃ u, e = .returned u) ∧ w' = w := by
  go_enter Tryz.func30, Tryz.ntmps30
  go_wp2
  refine bodyPost_end (results_none rfl _ _ _) rfl ?_
  exact ⟨⟨_, rfl⟩, rfl⟩
theorem blen_nil (w : World) : Calls Tryz.prog 16 #[.pointer none] w fun e w' => e = .returned (.int .i64 0) ∧ w' = w := by
  go_enter Tryz.func16, Tryz.ntmps16
  go_wp2
  go_ret
  exact ⟨rfl, rfl⟩
end
section
variable {w : World} {T : Nat} {p : Nat → Nat} {Q : Bl} {most o : Nat} {l : List KR} {B m : Nat} {ws : List WR}
set_option maxHeartbeats 2000000 in
theorem blen (h : Buf w B T m ws) (ht : Tab w T p Q most o l) (hlen : ws.length ≤ 1000000) :
    Calls Tryz.prog 16 #[.pointer (some ⟨B, 0, none⟩)] w fun e w' => e = .returned (.int .i64 ((showW l ws).length : Int)) ∧ Below w.heap.size w w' := by
  have HB := hid h
  have HT := hid ht
  have HW := hid h.ok
  have HSL := hid (show_len ws ht.rows h.ok)
  have hle := ht.le
  have c0 := h.c0
  have c1 := h.c1
  obtain ⟨n0, HN⟩ : ∃ n, Hid (n = l.length) := ⟨_, rfl⟩
  have hn0 : n0 ≤ 1024 := by rw [HN.out]; exact hle
  have HLN : Hid (Calls Tryz.prog 29 #[.pointer (some ⟨T, 0, none⟩)] w fun e w' => e = .returned (.int .i64 (n0 : Int)) ∧ w' = w) := by rw [HN.out]; exact tlen ht
  have HDB : Hid (∀ L : List WR, L.length ≤ ws.length → -1000000 ≤ deltas l L ∧ deltas l L ≤ 1000000) := fun L hL => by have := deltas_le l L; omega
  clear h ht hle
  go_enter Tryz.func16, Tryz.ntmps16
  go_wp2_with fail
  refine HLN.out.mono ?_
  rintro e w1 ⟨rfl, rfl⟩
  go_wp2_with (first | (at_range; refine wpList_range_buf _ rfl _ rfl m ws rfl HB.out.d HW.out ?_; intro w2 cnt hrg hgr hs2) | go_in)
  go_frame
  have HRG := hid hrg
  have HB2 : Hid (Below w1.heap.size w1 w2) := ⟨hgr.os, hgr.tape, hgr.output, hgr.size, fun k hk => hgr.block k hk (by simp)⟩
  clear hrg hgr
  go_loopw [3] (fun i wr => ∃ L cnt, RngB wr m w1.heap.size ws L cnt ∧ (∃ z : Int, i = .int .i64 z ∧ Hid (z = (n0 : Int) + deltas l ws - deltas l L)) ∧ L.length ≤ ws.length ∧ Chg [w1.heap.size] w2 wr [w1.heap.size]) (fun _ wr => wr.rangeLeft m w1.heap.size)
  case atStart => exact ⟨ws, cnt, HRG.out, ⟨_, rfl, by show _ = _; omega⟩, Nat.le_refl _, Chg.refl _ _⟩
  case round =>
    obtain ⟨L, cnt', hrg, ⟨z, rfl, HZ⟩, hLl, hch⟩ := hrel
    have HRG := hid hrg
    have HCH := hid hch
    have HTW : Hid (∀ W, Chg [w1.heap.size] w2 W [w1.heap.size] → Tab W T p Q most o l) := fun W hc => (HT.out.below HB2.out).chg hc (by have := HT.out.lt; simp; omega) (fun i hi => by have := HT.out.plt hi; simp; omega) (fun b hb hq => by simp at hb; have := HT.out.under b hq; omega)
    have HBW : Hid (∀ W, Chg [w1.heap.size] w2 W [w1.heap.size] → W.cell? ⟨B, 0, none⟩ = some (.pointer (some ⟨T, 0, none⟩)) ∧ W.cell? ⟨B, 1, none⟩ = some (.map (some m))) := fun W hc => by
      have hB : B ∉ [w1.heap.size] := by have := HB.out.lt; simp; omega
      exact ⟨chg_cell hc (HB.out.below HB2.out).c0 hB, chg_cell hc (HB.out.below HB2.out).c1 hB⟩
    have hz := HDB.out ws (Nat.le_refl _)
    have hzl := HDB.out L hLl
    have hz1 : -3000000 ≤ z ∧ z ≤ 3000000 := by have := HZ.out; omega
    have hzm : IntKind.i64.wrap (z - 1) = z - 1 := wrap_ok (by omega) (by omega)
    have hzp : IntKind.i64.wrap (z + 1) = z + 1 := wrap_ok (by omega) (by omega)
    have HLL0 := hid hLl
    obtain ⟨b0, b1⟩ := HBW.out wr hch
    clear hrg hch hz hzl hz1 hLl
    go_wp2_with (first | (at_next; refine wpList_next_buf _ rfl _ rfl m w1.heap.size ws L cnt' HW.out rfl HRG.out ?_ ?_) | go_in)
    · intro hL
      have HE : Hid (z = ((showW l ws).length : Int)) := by
        show _ = _
        have := HZ.out
        rw [hL, deltas_nil] at this
        have := HSL.out
        have := HN.out
        omega
      clear hL
      go_wp2
      go_ret
      refine ⟨by rw [HE.out]; rfl, ?_⟩
      have h5 := (HCH.out.below (B := w1.heap.size) (fun k hk => by simp at hk; omega) (by omega))
      exact HB2.out.trans h5
    · intro k v c w3 L' cnt2 hb hv hp hperm hrg3 hlt hg3 hs3 hen
      have HKB := hid hb
      have HRG3 := hid hrg3
      have HLT := hid hlt
      have HCH3 : Hid (Chg [w1.heap.size] w2 w3 [w1.heap.size]) := HCH.out.grown hg3 (fun j e => by injection e with e; simp [e])
      have HDL : Hid (deltas l L = delta l (k, v) + deltas l L') := by show _ = _; rw [deltas_perm hperm, deltas_cons]
      have HLL : Hid (L'.length ≤ ws.length) := by have h5 := hperm.length_eq; have := HLL0.out; rw [List.length_cons] at h5; show _ ≤ _; omega
      have hkk : keyB k = true := HW.out.key _ hv
      have HKK := hid hkk
      clear b0 b1 hb hrg3 hlt hg3 hs3 hperm hkk
      obtain ⟨b0, b1⟩ := HBW.out w3 HCH3.out
      cases v with
      | none =>
        obtain rfl := hp.zero
        unfold ptrC at hen ⊢
        clear hp hv
        cases hg : getK l k with
        | some s =>
          have HDD : Hid (delta l (k, none) = -1) := by show _ = _; unfold delta; dsimp only; rw [hg]; rfl
          rw [HDD.out] at HDL
          have hgr : kgetR l k = s := by unfold kgetR; rw [HKK.out, hg]; rfl
          have hge : kgetE l k = 0 := by unfold kgetE; rw [HKK.out, hg]; rfl
          have HGR := hid hgr
          have HGE := hid hge
          clear hg hgr hge
          go_wp2_with fail
          refine (tget (HTW.out _ HCH3.out) k HKB.out).mono ?_
          rw [HGR.out, HGE.out]
          rintro e w4 ⟨rfl, hb4⟩
          dsimp only [rowv, rowc, zero4]
          have HR4 := hid (HRG3.out.below (below_step hb4 ((Below.refl _ w4).alloc (Nat.le_refl _) (.cells #[.int .i64 s.a, .int .i64 s.b, .int .i64 s.c, .int .i64 s.d] 41))))
          have HC4 : Hid (Chg [w1.heap.size] w2 (w4.alloc (.cells #[.int .i64 s.a, .int .i64 s.b, .int .i64 s.c, .int .i64 s.d] 41)) [w1.heap.size]) := (HCH3.out.step_below hb4).step_below ((Below.refl _ _).alloc (Nat.le_refl _) _)
          clear hb4 b0 b1
          go_wp2
          go_roundw
          case rel => exact ⟨L', cnt2, HR4.out, ⟨_, rfl, by show _ = _; have := HZ.out; have := HDL.out; omega⟩, HLL.out, HC4.out⟩
          case measure => rw [HR4.out.left_eq, HRG.out.left_eq]; exact HLT.out
        | none =>
          have HDD : Hid (delta l (k, none) = 0) := by show _ = _; unfold delta; dsimp only; rw [hg]; rfl
          rw [HDD.out] at HDL
          have hgr : kgetR l k = zero4 := by unfold kgetR; rw [HKK.out, hg]; rfl
          have hge : kgetE l k = 14 := by unfold kgetE; rw [HKK.out, hg]; rfl
          have HGR := hid hgr
          have HGE := hid hge
          clear hg hgr hge
          go_wp2_with fail
          refine (tget (HTW.out _ HCH3.out) k HKB.out).mono ?_
          rw [HGR.out, HGE.out]
          rintro e w4 ⟨rfl, hb4⟩
          dsimp only [rowv, rowc, zero4]
          have HR4 := hid (HRG3.out.below (below_step hb4 ((Below.refl _ w4).alloc (Nat.le_refl _) (.cells #[.int .i64 0, .int .i64 0, .int .i64 0, .int .i64 0] 41))))
          have HC4 : Hid (Chg [w1.heap.size] w2 (w4.alloc (.cells #[.int .i64 0, .int .i64 0, .int .i64 0, .int .i64 0] 41)) [w1.heap.size]) := (HCH3.out.step_below hb4).step_below ((Below.refl _ _).alloc (Nat.le_refl _) _)
          clear hb4 b0 b1
          go_wp2
          go_roundw
          case rel => exact ⟨L', cnt2, HR4.out, ⟨_, rfl, by show _ = _; have := HZ.out; have := HDL.out; omega⟩, HLL.out, HC4.out⟩
          case measure => rw [HR4.out.left_eq, HRG.out.left_eq]; exact HLT.out
      | some r =>
        obtain ⟨g, rfl, _⟩ := hp.row
        unfold ptrC at hen ⊢
        clear hp hv
        cases hg : getK l k with
        | some s =>
          have HDD : Hid (delta l (k, some r) = 0) := by show _ = _; unfold delta; dsimp only; rw [hg]; rfl
          rw [HDD.out] at HDL
          have hgr : kgetR l k = s := by unfold kgetR; rw [HKK.out, hg]; rfl
          have hge : kgetE l k = 0 := by unfold kgetE; rw [HKK.out, hg]; rfl
          have HGR := hid hgr
          have HGE := hid hge
          clear hg hgr hge
          go_wp2_with fail
          refine (tget (HTW.out _ HCH3.out) k HKB.out).mono ?_
          rw [HGR.out, HGE.out]
          rintro e w4 ⟨rfl, hb4⟩
          dsimp only [rowv, rowc, zero4]
          have HR4 := hid (HRG3.out.below (below_step hb4 ((Below.refl _ w4).alloc (Nat.le_refl _) (.cells #[.int .i64 s.a, .int .i64 s.b, .int .i64 s.c, .int .i64 s.d] 41))))
          have HC4 : Hid (Chg [w1.heap.size] w2 (w4.alloc (.cells #[.int .i64 s.a, .int .i64 s.b, .int .i64 s.c, .int .i64 s.d] 41)) [w1.heap.size]) := (HCH3.out.step_below hb4).step_below ((Below.refl _ _).alloc (Nat.le_refl _) _)
          clear hb4 b0 b1
          go_wp2
          go_roundw
          case rel => exact ⟨L', cnt2, HR4.out, ⟨_, rfl, by show _ = _; have := HZ.out; have := HDL.out; omega⟩, HLL.out, HC4.out⟩
          case measure => rw [HR4.out.left_eq, HRG.out.left_eq]; exact HLT.out
        | none =>
          have HDD : Hid (delta l (k, some r) = 1) := by show _ = _; unfold delta; dsimp only; rw [hg]; rfl
          rw [HDD.out] at HDL
          have hgr : kgetR l k = zero4 := by unfold kgetR; rw [HKK.out, hg]; rfl
          have hge : kgetE l k = 14 := by unfold kgetE; rw [HKK.out, hg]; rfl
          have HGR := hid hgr
          have HGE := hid hge
          clear hg hgr hge
          go_wp2_with fail
          refine (tget (HTW.out _ HCH3.out) k HKB.out).mono ?_
          rw [HGR.out, HGE.out]
          rintro e w4 ⟨rfl, hb4⟩
          dsimp only [rowv, rowc, zero4]
          have HR4 := hid (HRG3.out.below (below_step hb4 ((Below.refl _ w4).alloc (Nat.le_refl _) (.cells #[.int .i64 0, .int .i64 0, .int .i64 0, .int .i64 0] 41))))
          have HC4 : Hid (Chg [w1.heap.size] w2 (w4.alloc (.cells #[.int .i64 0, .int .i64 0, .int .i64 0, .int .i64 0] 41)) [w1.heap.size]) := (HCH3.out.step_below hb4).step_below ((Below.refl _ _).alloc (Nat.le_refl _) _)
          clear hb4 b0 b1
          go_wp2
          go_roundw
          case rel => exact ⟨L', cnt2, HR4.out, ⟨_, rfl, by show _ = _; have := HZ.out; have := HDL.out; omega⟩, HLL.out, HC4.out⟩
          case measure => rw [HR4.out.left_eq, HRG.out.left_eq]; exact HLT.out
end
end Go.Proofs.YtlnagdodnkhbmaaGreat
