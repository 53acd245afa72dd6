/- A buffer: New, Get. -/
import Derived.Test.YtlnagdodnkhbmaaGreatV2
import Derived.Test.YtlnagdodnkhbmaaGreatTA
namespace Go.Proofs.YtlnagdodnkhbmaaGreat
open Go.RowKit Go.Maps Go.WideMaps
set_option maxRecDepth 100000

theorem zeroPtr (w : World) : (zeroValue 87).run Tryz.prog w = .ok (.pointer none) w := by kernel_rfl
section
variable {w : World} {m : Nat} {ws : List WR}
theorem look_none (h : BufM w m ws) {k : List Nat} (hb : Byt k) (hl : k.length ≤ maxLen) (hg : getW ws k = none) : (Instr.lookup 84 (.map (some m)) (.string (str k)) true).run Tryz.prog w = .ok (.tuple #[.pointer none, .bool false]) w := by
  obtain ⟨n, D, cs, h1, h2, h3, h4, h5⟩ := h
  obtain ⟨v, ps, hr, hv⟩ := h1.look_ok mapLaw Tryz.underlying84 (zeroPtr w) (ptrElem_mk 0) (kl_any hl)
  have hn : Maps.has D (kl k) = false := by
    rw [Bool.eq_false_iff]
    intro e
    obtain ⟨c, hc⟩ := (h3.has k hb).1 e
    obtain ⟨u, hu⟩ := keys_mem h4 hc
    exact getW_none.1 hg u hu
  rw [hn] at hr
  rw [atKey_of_not_has hn] at hv
  obtain ⟨c, rfl, hc⟩ := ptrElem_inv hv
  have : c = 0 := by
    have h6 := congrArg Prod.fst hc
    simp at h6
    omega
  subst this
  exact hr
theorem look_some (h : BufM w m ws) {k : List Nat} (hb : Byt k) (hl : k.length ≤ maxLen) {v : Option Ro} (hg : (k, v) ∈ ws) : ∃ c, PtrIs w c v ∧ (Instr.lookup 84 (.map (some m)) (.string (str k)) true).run Tryz.prog w = .ok (.tuple #[ptrC c, .bool true]) w := by
  obtain ⟨n, D, cs, h1, h2, h3, h4, h5⟩ := h
  obtain ⟨u, ps, hr, hv⟩ := h1.look_ok mapLaw Tryz.underlying84 (zeroPtr w) (ptrElem_mk 0) (kl_any hl)
  obtain ⟨c, hc⟩ := keys_mem h4.symm hg
  rw [(h3.has k hb).2 ⟨c, hc⟩] at hr
  rw [h3.at_ _ hc] at hv
  obtain ⟨c', rfl, hc'⟩ := ptrElem_inv hv
  have : c' = c := by
    have h6 := congrArg Prod.fst hc'
    simp at h6
    omega
  subst this
  exact ⟨c', h5 k c' v hc hg, hr⟩
end
def NewB (w : World) (T : Nat) (e : Ending) (w' : World) : Prop :=
  e = .returned (.tuple #[.pointer (some ⟨w.heap.size + 1, 0, none⟩), .int .i64 0]) ∧ Below w.heap.size w w' ∧ Buf w' (w.heap.size + 1) T w.heap.size [] ∧ w'.heap.size = w.heap.size + 2
theorem bnew (w : World) (T : Nat) : Calls Tryz.prog 13 #[.pointer (some ⟨T, 0, none⟩)] w (NewB w T) := by
  have hmm := @run_makeMap Tryz.prog
  have HB : Hid (Below w.heap.size w ((w.alloc (.map #[] 0)).alloc (.cells #[.pointer (some ⟨T, 0, none⟩), .map (some w.heap.size)] 86))) := ((Below.refl _ w).alloc (Nat.le_refl _) _).alloc (by simp) _
  have HC : Hid (Buf ((w.alloc (.map #[] 0)).alloc (.cells #[.pointer (some ⟨T, 0, none⟩), .map (some w.heap.size)] 86)) (w.heap.size + 1) T w.heap.size []) :=
    ⟨by have := heap_alloc_new (w.alloc (.map #[] 0)) (.cells #[.pointer (some ⟨T, 0, none⟩), .map (some w.heap.size)] 86); rwa [World.size_alloc] at this, (BufM.made w).below ((Below.refl _ _).alloc (Nat.le_refl _) _), WsOk.nil⟩
  go_enter Tryz.func13, Tryz.ntmps13
  go_wp2
  go_ret2
  exact ⟨rfl, HB.out, HC.out, by simp⟩
theorem bnew_nil (w : World) : Calls Tryz.prog 13 #[.pointer none] w fun e w' => e = .returned (.tuple #[.pointer none, .int .i64 2]) ∧ w' = w := by
  go_enter Tryz.func13, Tryz.ntmps13
  go_wp2
  go_ret2
  exact ⟨rfl, rfl⟩
theorem bget_nil (w : World) (s : ByteArray) : Calls Tryz.prog 31 #[.pointer none, .string s] w (RowEnd w zero4 2) := by
  go_enter Tryz.func31, Tryz.ntmps31
  obtain ⟨⟨⟨z0, z1, z2, z3⟩, f0, f1, f2, f3⟩, HPP, HBB⟩ := stored (lies_zero w) (below_zero w) (Nat.le_refl _) zero4
  have HPP := hid HPP
  have HBB := hid HBB
  dsimp only [zero4] at z0 z1 z2 z3
  go_wp2
  obtain ⟨p0, p1, p2, p3⟩ := HPP.out
  try dsimp only [zero4] at p0 p1 p2 p3
  exact bodyPost_ret (v := .tuple #[rowv zero4, .int .i64 2]) (by simp [results, Tryz.results31, go_sem, rowv, rowc, zero4]) rfl (by first | exact ⟨rfl, HBB.out⟩ | exact ⟨rfl, (below_zero w)⟩)
section
variable {w : World} {T : Nat} {p : Nat → Nat} {Q : Bl} {most o : Nat} {l : List KR} {B m : Nat} {ws : List WR}
theorem bget_table (h : Buf w B T m ws) (ht : Tab w T p Q most o l) (k : List Nat) (hb : Byt k) (hl : k.length ≤ maxLen) (hg : getW ws k = none) : Calls Tryz.prog 31 #[.pointer (some ⟨B, 0, none⟩), .string (str k)] w (RowEnd w (kgetR l k) (kgetE l k)) := by
  have HB := hid (h.below (below_zero w))
  have HT := hid (ht.below (below_zero w))
  have c0 := HB.out.c0
  have c1 := HB.out.c1
  have hlook := look_none HB.out.d hb hl hg
  obtain ⟨r, HR⟩ : ∃ r, Hid (r = kgetR l k) := ⟨_, rfl⟩
  obtain ⟨E, HE⟩ : ∃ r, Hid (r = kgetE l k) := ⟨_, rfl⟩
  rw [← HR.out, ← HE.out]
  clear h ht hg
  go_enter Tryz.func31, Tryz.ntmps31
  go_wp2_with fail
  refine (tget HT.out k hb).mono ?_
  rw [← HR.out, ← HE.out]
  rintro e w3 ⟨rfl, hb3⟩
  unfold rowv rowc
  have HLZ3 := hid ((lies_zero w).below hb3)
  have HLB3 := hid (below_step (below_zero w) hb3)
  clear hb3 c0 c1 hlook
  obtain ⟨⟨⟨z0, z1, z2, z3⟩, f0, f1, f2, f3⟩, HPP, HBB⟩ := stored HLZ3.out HLB3.out (Nat.le_refl _) r
  have HPP := hid HPP
  have HBB := hid HBB
  dsimp only [zero4] at z0 z1 z2 z3
  go_wp2
  obtain ⟨p0, p1, p2, p3⟩ := HPP.out
  try dsimp only [zero4] at p0 p1 p2 p3
  exact bodyPost_ret (v := .tuple #[rowv r, .int .i64 E]) (by simp [results, Tryz.results31, go_sem, p0, p1, p2, p3, rowv, rowc]) rfl (by first | exact ⟨rfl, HBB.out⟩ | exact ⟨rfl, HLB3.out⟩)
theorem bget_gone (h : Buf w B T m ws) (k : List Nat) (hb : Byt k) (hl : k.length ≤ maxLen) (hg : (k, none) ∈ ws) : Calls Tryz.prog 31 #[.pointer (some ⟨B, 0, none⟩), .string (str k)] w (RowEnd w zero4 14) := by
  have HB := hid (h.below (below_zero w))
  have c0 := HB.out.c0
  have c1 := HB.out.c1
  obtain ⟨c, hc, hlook⟩ := look_some HB.out.d hb hl hg
  obtain rfl := hc.zero
  unfold ptrC at hlook
  clear h hg hc
  go_enter Tryz.func31, Tryz.ntmps31
  obtain ⟨⟨⟨z0, z1, z2, z3⟩, f0, f1, f2, f3⟩, HPP, HBB⟩ := stored (lies_zero w) (below_zero w) (Nat.le_refl _) zero4
  have HPP := hid HPP
  have HBB := hid HBB
  dsimp only [zero4] at z0 z1 z2 z3
  go_wp2
  obtain ⟨p0, p1, p2, p3⟩ := HPP.out
  try dsimp only [zero4] at p0 p1 p2 p3
  exact bodyPost_ret (v := .tuple #[rowv zero4, .int .i64 14]) (by simp [results, Tryz.results31, go_sem, rowv, rowc, zero4]) rfl (by first | exact ⟨rfl, HBB.out⟩ | exact ⟨rfl, (below_zero w)⟩)
theorem bget_row (h : Buf w B T m ws) (k : List Nat) (hb : Byt k) (hl : k.length ≤ maxLen) {r : Ro} (hg : (k, some r) ∈ ws) : Calls Tryz.prog 31 #[.pointer (some ⟨B, 0, none⟩), .string (str k)] w (RowEnd w r 0) := by
  have HB := hid (h.below (below_zero w))
  have c0 := HB.out.c0
  have c1 := HB.out.c1
  obtain ⟨c, hc, hlook⟩ := look_some HB.out.d hb hl hg
  obtain ⟨g, rfl, hlies⟩ := hc.row
  unfold ptrC at hlook
  obtain ⟨y0, y1, y2, y3⟩ := hlies.four
  clear h hg hc hlies
  go_enter Tryz.func31, Tryz.ntmps31
  obtain ⟨⟨⟨z0, z1, z2, z3⟩, f0, f1, f2, f3⟩, HPP, HBB⟩ := stored (lies_zero w) (below_zero w) (Nat.le_refl _) r
  have HPP := hid HPP
  have HBB := hid HBB
  dsimp only [zero4] at z0 z1 z2 z3
  go_wp2
  obtain ⟨p0, p1, p2, p3⟩ := HPP.out
  try dsimp only [zero4] at p0 p1 p2 p3
  exact bodyPost_ret (v := .tuple #[rowv r, .int .i64 0]) (by simp [results, Tryz.results31, go_sem, rowv, rowc]) rfl ⟨rfl, (Below.refl _ _).alloc (Nat.le_refl _) _⟩
/-- What a buffer answers of a key: what the rows that it shows tell. -/
theorem bget (h : Buf w B T m ws) (ht : Tab w T p Q most o l) (k : List Nat) (hb : Byt k) (hl : k.length ≤ maxLen) : Calls Tryz.prog 31 #[.pointer (some ⟨B, 0, none⟩), .string (str k)] w (RowEnd w (kgetR (showW l ws) k) (kgetE (showW l ws) k)) := by
  have hs := getK_show ht.rows h.ok k
  cases hg : getW ws k with
  | none =>
    rw [hg] at hs
    have := bget_table h ht k hb hl hg
    unfold kgetR kgetE at this ⊢
    rw [hs]; exact this
  | some v =>
    rw [hg] at hs
    have hm := (getW_iff h.ok).1 hg
    have hk := h.ok.key _ hm
    dsimp only at hk hs
    unfold kgetR kgetE
    rw [if_pos hk, if_pos hk, hs]
    cases v with
    | none => exact bget_gone h k hb hl hm
    | some r => exact bget_row h k hb hl hm
end
end Go.Proofs.YtlnagdodnkhbmaaGreat
