/- A table: Get. -/
import Derived.Test.YtlnagdodnkhbmaaT3
namespace Go.Proofs.Ytlnagdodnkhbmaa
open Go.RowKit
set_option maxRecDepth 100000

/-- Block T is a table of the rows l, of so many at most. -/
def Tab (w : World) (T : Nat) (p : Nat → Nat) (Q : Bl) (most o : Nat) (l : List KR) : Prop := ∃ J, TabI w T p Q most o J ∧ TOk l J ∧ l.length ≤ most ∧ most ≤ 1024
section
variable {w w' : World} {T : Nat} {p : Nat → Nat} {Q : Bl} {most o : Nat} {l : List KR}
theorem Tab.lt (h : Tab w T p Q most o l) : T < w.heap.size := let ⟨_, h, _⟩ := h; h.lt
theorem Tab.plt (h : Tab w T p Q most o l) {i : Nat} (hi : i < 5) : p i < w.heap.size := let ⟨_, h, _⟩ := h; h.plt hi
theorem Tab.flt (h : Tab w T p Q most o l) : ∀ b ∈ five p, b < w.heap.size := fun b hb => by
  obtain ⟨i, hi, rfl⟩ := mem_five.1 hb
  exact h.plt hi
theorem Tab.under (h : Tab w T p Q most o l) : Under Q w := let ⟨_, h, _⟩ := h; h.under
theorem Tab.out (h : Tab w T p Q most o l) {i : Nat} (hi : i < 5) : ¬ Q (p i) := let ⟨_, h, _⟩ := h; h.out hi
theorem Tab.nT (h : Tab w T p Q most o l) : T ∉ five p := fun hm => by
  obtain ⟨_, h, _⟩ := h
  obtain ⟨i, hi, e⟩ := mem_five.1 hm
  exact h.nT i hi e.symm
theorem Tab.rows (h : Tab w T p Q most o l) : RowsOk l := let ⟨_, _, h, _⟩ := h; h.rows
theorem Tab.le (h : Tab w T p Q most o l) : l.length ≤ 1024 := let ⟨_, _, _, h1, h2⟩ := h; Nat.le_trans h1 h2
theorem Tab.full (h : Tab w T p Q most o l) : l.length ≤ most := let ⟨_, _, _, h1, _⟩ := h; h1
theorem Tab.most_le (h : Tab w T p Q most o l) : most ≤ 1024 := let ⟨_, _, _, _, h1⟩ := h; h1
theorem Tab.below (h : Tab w T p Q most o l) (hb : Below w.heap.size w w') : Tab w' T p Q most o l := let ⟨J, h1, h2⟩ := h; ⟨J, h1.below hb, h2⟩
theorem Tab.chg {F F' : List Nat} (h : Tab w T p Q most o l) (hc : Chg F w w' F') (hT : T ∉ F) (hp : ∀ i, i < 5 → p i ∉ F) (hQ : ∀ b ∈ F, ¬ Q b) : Tab w' T p Q most o l := let ⟨J, h1, h2⟩ := h; ⟨J, h1.chg hc hT hp hQ, h2⟩
theorem Tab.not_row (h : Tab w T p Q most o l) {g : Nat} {r : Ro} (hl : Lies w g r) : g ∉ five p := let ⟨_, h, _⟩ := h; h.rows hl
end

theorem zero_cells (w : World) : (w.alloc (.cells #[.int .i64 0, .int .i64 0, .int .i64 0, .int .i64 0] 33)).heap[w.heap.size]? = some (.cells #[.int .i64 0, .int .i64 0, .int .i64 0, .int .i64 0] 33 (0, 0)) := heap_alloc_new w _
/-- A row that a call stores where its result lies. -/
theorem stored {w a : World} {g : Nat} {r0 : Ro} (hl : Lies a g r0) (hb : Below w.heap.size w a) (hg : w.heap.size ≤ g) (r : Ro) :
    ((a.cell? ⟨g, 0, none⟩ = some (.int .i64 r0.a) ∧ a.cell? ⟨g, 1, none⟩ = some (.int .i64 r0.b) ∧ a.cell? ⟨g, 2, none⟩ = some (.int .i64 r0.c) ∧ a.cell? ⟨g, 3, none⟩ = some (.int .i64 r0.d)) ∧
      a.frozen? ⟨g, 0, none⟩ = false ∧ a.frozen? ⟨g, 1, none⟩ = false ∧ a.frozen? ⟨g, 2, none⟩ = false ∧ a.frozen? ⟨g, 3, none⟩ = false) ∧
    ((put4 a g r).cell? ⟨g, 0, none⟩ = some (.int .i64 r.a) ∧ (put4 a g r).cell? ⟨g, 1, none⟩ = some (.int .i64 r.b) ∧ (put4 a g r).cell? ⟨g, 2, none⟩ = some (.int .i64 r.c) ∧ (put4 a g r).cell? ⟨g, 3, none⟩ = some (.int .i64 r.d)) ∧
    Below w.heap.size w (put4 a g r) :=
  ⟨hl.cells, (hl.put r).cells.1, below_put4 hb hg r⟩

/-- A row stored where it lies. -/
theorem put4_same {w : World} {g : Nat} {r : Ro} (h : Lies w g r) : put4 w g r = w := by
  have h2 := h.put r
  have hne := fun k (hk : k ≠ g) => put4_far (w := w) (r := r) hk
  have hs : (put4 w g r).heap = w.heap := by
    apply Array.ext_getElem?
    intro i
    by_cases e : i = g
    · subst e
      unfold Lies at h h2
      rw [h, h2]
    · exact hne i e
  have h3 : put4 w g r = { w with heap := (put4 w g r).heap } := by simp [put4, World.setCell]
  rw [h3, hs]
/-- A row and a number: what Get and Delete answer. -/
def RowEnd (w : World) (r : Ro) (c : Int) (e : Ending) (w' : World) : Prop := e = .returned (.tuple #[rowv r, .int .i64 c]) ∧ Below w.heap.size w w'
theorem lies_zero (w : World) : Lies (w.alloc (.cells #[.int .i64 0, .int .i64 0, .int .i64 0, .int .i64 0] 33)) w.heap.size zero4 := Lies.new w zero4
theorem below_zero (w : World) : Below w.heap.size w (w.alloc (.cells #[.int .i64 0, .int .i64 0, .int .i64 0, .int .i64 0] 33)) := (Below.refl _ _).alloc (Nat.le_refl _) _
theorem tget_nil (w : World) (s : ByteArray) : Calls Try.prog 17 #[.pointer none, .string s] w (RowEnd w zero4 2) := by
  go_enter Try.func17, Try.ntmps17
  obtain ⟨⟨⟨z0, z1, z2, z3⟩, f0, f1, f2, f3⟩, HPP, HBB⟩ := stored (lies_zero w) (below_zero w) (Nat.le_refl _) zero4
  have HPP := hid HPP
  have HBB := hid HBB
  dsimp only [zero4] at z0 z1 z2 z3
  go_wp2
  obtain ⟨p0, p1, p2, p3⟩ := HPP.out
  try dsimp only [zero4] at p0 p1 p2 p3
  exact bodyPost_ret (v := .tuple #[rowv zero4, .int .i64 2]) (by simp [results, Try.results17, go_sem, rowv, rowc, zero4]) rfl (by first | exact ⟨rfl, HBB.out⟩ | exact ⟨rfl, (below_zero w)⟩)
section
variable {w : World} {T : Nat} {p : Nat → Nat} {Q : Bl} {most o : Nat} {l : List KR}
theorem tget_bad (T : Nat) (k : List Nat) (hk : keyB k = false) : Calls Try.prog 17 #[.pointer (some ⟨T, 0, none⟩), .string (str k)] w (RowEnd w zero4 13) := by
  go_enter Try.func17, Try.ntmps17
  go_wp2_with fail
  refine (kcheck_any _ k).mono ?_
  rw [checkE_no hk]
  rintro e w' ⟨rfl, rfl⟩
  obtain ⟨⟨⟨z0, z1, z2, z3⟩, f0, f1, f2, f3⟩, HPP, HBB⟩ := stored (lies_zero w) (below_zero w) (Nat.le_refl _) zero4
  have HPP := hid HPP
  have HBB := hid HBB
  dsimp only [zero4] at z0 z1 z2 z3
  go_wp2
  obtain ⟨p0, p1, p2, p3⟩ := HPP.out
  try dsimp only [zero4] at p0 p1 p2 p3
  exact bodyPost_ret (v := .tuple #[rowv zero4, .int .i64 13]) (by simp [results, Try.results17, go_sem, rowv, rowc, zero4]) rfl (by first | exact ⟨rfl, HBB.out⟩ | exact ⟨rfl, (below_zero w)⟩)
theorem tget_none (h : Tab w T p Q most o l) (k : List Nat) (hb : Byt k) (hk : keyB k = true) (hg : getK l k = none) : Calls Try.prog 17 #[.pointer (some ⟨T, 0, none⟩), .string (str k)] w (RowEnd w zero4 14) := by
  have hle := h.le
  obtain ⟨J, hT, hok, _, _⟩ := h
  have h4 : (J 4).length ≤ 5000 := by rw [hok.lin, lines_len]; omega
  have hgv : getV (J 4) k = [] := by unfold getV; rw [hok.lin, getL_lines, hg]; simp
  have hge : getE (J 4) k = 14 := by unfold getE; rw [hok.lin, isSome_lines, hg, keyB_64 hk]; rfl
  have HT := hid (hT.below (below_zero w))
  have c5 := HT.out.c5
  have hkl := keyB_yes hk
  have hce := checkE_yes hk
  have HGV := hid hgv
  have HGE := hid hge
  clear hgv hge hT hok hle
  go_enter Try.func17, Try.ntmps17
  go_wp2_with fail
  refine (kcheck_any _ k).mono ?_
  rw [hce]
  rintro e w' ⟨rfl, rfl⟩
  go_wp2_with fail
  refine ((HT.out.t 4 (by omega)).get h4 k hb (by omega)).mono ?_
  rw [HGV.out, HGE.out]
  rintro e w2 ⟨rfl, hb2⟩
  have HLZ := hid ((lies_zero w).below hb2)
  have HLB := hid (below_step (below_zero w) hb2)
  clear hb2 c5
  obtain ⟨⟨⟨z0, z1, z2, z3⟩, f0, f1, f2, f3⟩, HPP, HBB⟩ := stored HLZ.out HLB.out (Nat.le_refl _) zero4
  have HPP := hid HPP
  have HBB := hid HBB
  dsimp only [zero4] at z0 z1 z2 z3
  go_wp2
  obtain ⟨p0, p1, p2, p3⟩ := HPP.out
  try dsimp only [zero4] at p0 p1 p2 p3
  exact bodyPost_ret (v := .tuple #[rowv zero4, .int .i64 14]) (by simp [results, Try.results17, go_sem, p0, p1, p2, p3, rowv, rowc, zero4]) rfl (by first | exact ⟨rfl, HBB.out⟩ | exact ⟨rfl, HLB.out⟩)
theorem tget_some (h : Tab w T p Q most o l) (k : List Nat) (hb : Byt k) (hk : keyB k = true) {r : Ro} (hg : getK l k = some r) : Calls Try.prog 17 #[.pointer (some ⟨T, 0, none⟩), .string (str k)] w (RowEnd w r 0) := by
  have hle := h.le
  obtain ⟨J, hT, hok, _, _⟩ := h
  have h4 : (J 4).length ≤ 5000 := by rw [hok.lin, lines_len]; omega
  have hgv : getV (J 4) k = enc r.l := by unfold getV; rw [hok.lin, getL_lines, hg, keyB_64 hk]; rfl
  have hge : getE (J 4) k = 0 := by unfold getE; rw [hok.lin, isSome_lines, hg, keyB_64 hk]; rfl
  have hro : r.ok := hok.rows.ok _ (getK_mem hg)
  have HRO : Hid (r.ok) := hro
  have hel := enc_256 hro
  have HT := hid (hT.below (below_zero w))
  have c5 := HT.out.c5
  have hkl := keyB_yes hk
  have hce := checkE_yes hk
  have HGV := hid hgv
  have HGE := hid hge
  have hcv := fun (W : World) => Lib.run_convert_string_bytes (P := Try.prog) W 9 92 5 (str (enc r.l)) (u := .string) Try.underlying9 Try.underlying92 Try.underlying5
  have HSL := hid (fun (W : World) => bytesWorld_sl W 5 (enc r.l) (enc_byt _) (by unfold maxLen; omega))
  obtain ⟨s, HS⟩ : ∃ s, Hid (s = str (enc r.l)) := ⟨_, rfl⟩
  have hsz : Hid (s.size = (enc r.l).length) := by show _ = _; rw [HS.out, str_size]
  rw [← HS.out] at hcv
  rw [← HS.out, ← hsz.out] at HSL
  clear hgv hge hT hok hle hro
  go_enter Try.func17, Try.ntmps17
  go_wp2_with fail
  refine (kcheck_any _ k).mono ?_
  rw [hce]
  rintro e w' ⟨rfl, rfl⟩
  go_wp2_with fail
  refine ((HT.out.t 4 (by omega)).get h4 k hb (by omega)).mono ?_
  rw [HGV.out, HGE.out, ← HS.out]
  rintro e w2 ⟨rfl, hb2⟩
  have HLZ := hid (((lies_zero w).below hb2).below (bytesWorld_below w2 5 s))
  have HLB := hid (below_step (below_step (below_zero w) hb2) (bytesWorld_below w2 5 s))
  clear hb2 c5
  go_wp2_with fail
  refine (rdecode _ _ r.l [] r 0 (by rw [List.append_nil]; exact HSL.out _) Byt.nil HRO.out (.inl ⟨rfl, rfl, rfl, rfl⟩) (by simp)).mono ?_
  rintro e w3 ⟨rfl, hb3⟩
  unfold rowv rowc
  have HLZ3 := hid (HLZ.out.below hb3)
  have HLB3 := hid (below_step HLB.out hb3)
  clear hb3
  obtain ⟨⟨⟨z0, z1, z2, z3⟩, f0, f1, f2, f3⟩, HPP, HBB⟩ := stored HLZ3.out HLB3.out (Nat.le_refl _) r
  have HPP := hid HPP
  have HBB := hid HBB
  dsimp only [zero4] at z0 z1 z2 z3
  go_wp2
  obtain ⟨p0, p1, p2, p3⟩ := HPP.out
  try dsimp only [zero4] at p0 p1 p2 p3
  exact bodyPost_ret (v := .tuple #[rowv r, .int .i64 0]) (by simp [results, Try.results17, go_sem, p0, p1, p2, p3, rowv, rowc]) rfl (by first | exact ⟨rfl, HBB.out⟩ | exact ⟨rfl, HLB3.out⟩)
theorem tget (h : Tab w T p Q most o l) (k : List Nat) (hb : Byt k) : Calls Try.prog 17 #[.pointer (some ⟨T, 0, none⟩), .string (str k)] w (RowEnd w (kgetR l k) (kgetE l k)) := by
  unfold kgetR kgetE
  cases hk : keyB k with
  | false => exact tget_bad T k hk
  | true =>
    cases hg : getK l k with
    | none => exact tget_none h k hb hk hg
    | some r => exact tget_some h k hb hk hg
end
end Go.Proofs.Ytlnagdodnkhbmaa
