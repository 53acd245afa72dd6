import Derived.Test.YtlnagdodnkhbmaaGreatUB
import Derived.Test.YtlnagdodnkhbmaaGreatRA

namespace Go.Proofs.YtlnagdodnkhbmaaGreat
open Go.RowKit
set_option maxRecDepth 100000

theorem cellsBy_set {α : Type} {c : α → List Value} {sz : Nat} (hc : ∀ a, (c a).length = sz) : ∀ {l : List α} {i j : Nat} {a a' : α} {u : Value}, l[i]? = some a → j < sz → c a' = (c a).set j u → (cellsBy c l).set (i * sz + j) u = cellsBy c (l.set i a')
  | [], _, _, _, _, _, h, _, _ => by simp at h
  | b :: l, 0, j, a, a', u, h, hj, hs => by
    simp at h; subst h
    rw [cellsBy_cons, Nat.zero_mul, Nat.zero_add, List.set_append_left _ _ (by rw [hc]; exact hj), List.set_cons_zero, cellsBy_cons, hs]
  | b :: l, i + 1, j, a, a', u, h, hj, hs => by
    rw [List.getElem?_cons_succ] at h
    have e : (i + 1) * sz + j = (c b).length + (i * sz + j) := by rw [hc, Nat.add_mul]; omega
    rw [cellsBy_cons, e, List.set_append_right _ _ (by omega), Nat.add_sub_cancel_left, cellsBy_set hc h hj hs, List.set_cons_succ, cellsBy_cons]
/-- An own row in one block. -/
theorem OwnElems.block_ {α : Type} {sz : Nat} {c : α → List Value} {e : TypeId} {w : World} {base : Nat} {v : Value} {l : List α} (h : OwnElems sz c e w base v l) (hl : l ≠ []) :
    ∃ g cap cur, v = .slice (some ⟨g, 0, none⟩) l.length cap ∧ base ≤ g ∧ w.heap[g]? = some (.cells cur e (0, 0)) ∧ l.length ≤ cap ∧ cap ≤ maxLen ∧ cur.size = cap * sz ∧ cur.toList.take (l.length * sz) = cellsBy c l := by
  rcases h.2 with ⟨_, h0⟩ | ⟨g, cap, cur, h1, h2, h3, h4, h5, h6, h7⟩
  · exact absurd (List.eq_nil_of_length_eq_zero h0) hl
  · exact ⟨g, cap, cur, h1, h2, h3, h4, h5, h6, h7⟩
theorem OwnElems.set_ {α : Type} {sz : Nat} {c : α → List Value} (hc : ∀ a, (c a).length = sz) {e : TypeId} {w : World} {base g n cap : Nat} {l : List α} (h : OwnElems sz c e w base (.slice (some ⟨g, 0, none⟩) n cap) l) {i j : Nat} {a a' : α} {u : Value}
    (hi : l[i]? = some a) (hj : j < sz) (hs : c a' = (c a).set j u) : OwnElems sz c e (w.setCell ⟨g, i * sz + j, none⟩ u) base (.slice (some ⟨g, 0, none⟩) n cap) (l.set i a') := by
  have hne : l ≠ [] := fun e => by rw [e] at hi; simp at hi
  obtain ⟨g', cap', cur, h1, h2, h3, h4, h5, h6, h7⟩ := h.block_ hne
  injection h1 with h1 hn hcap
  injection h1 with h1
  injection h1 with h1
  subst h1; subst hn; subst hcap
  refine ⟨by rw [cellsBy_len hc], .inr ⟨g, cap, cur.setIfInBounds (i * sz + j) u, by rw [List.length_set], h2, ?_, by rw [List.length_set]; exact h4, h5, by rw [Array.size_setIfInBounds]; exact h6, ?_⟩⟩
  · simp [World.setCell, Array.getElem?_modify, h3]
  · rw [List.length_set, Array.toList_setIfInBounds, List.take_set, h7, cellsBy_set hc hi hj hs]
theorem OwnElems.cell_ {α : Type} {sz : Nat} {c : α → List Value} (hc : ∀ a, (c a).length = sz) {e : TypeId} {w : World} {base g n cap : Nat} {l : List α} (h : OwnElems sz c e w base (.slice (some ⟨g, 0, none⟩) n cap) l) {i j : Nat} {a : α} {u : Value}
    (hi : l[i]? = some a) (hj : (c a)[j]? = some u) : w.cell? ⟨g, i * sz + j, none⟩ = some u ∧ w.frozen? ⟨g, i * sz + j, none⟩ = false := by
  obtain ⟨ad, hA, hcell⟩ := h.rows.cell hc hi hj
  injection hA with hA
  subst hA
  rw [add_at] at hcell
  refine ⟨hcell, ?_⟩
  have hne : l ≠ [] := fun e => by rw [e] at hi; simp at hi
  obtain ⟨g', cap', cur, h1, h2, h3, h4, h5, h6, h7⟩ := h.block_ hne
  injection h1 with h1 hn hcap
  injection h1 with h1
  injection h1 with h1
  subst h1
  simp [World.frozen?, h3]

theorem set_mid {α : Type} (A B : List α) (x y : α) : (A ++ [x] ++ B).set A.length y = A ++ [y] ++ B := by
  rw [List.append_assoc, List.set_append_right _ _ (Nat.le_refl _), Nat.sub_self]
  simp
theorem set_last {α : Type} (A : List α) (x y : α) : (A ++ [x]).set A.length y = A ++ [y] := by
  have := set_mid A [] x y
  rw [List.append_nil, List.append_nil] at this
  exact this
theorem get_end {α : Type} (A B : List α) (x : α) : (A ++ (B ++ [x]))[A.length + B.length]? = some x := by
  rw [← List.append_assoc, ← List.length_append, List.getElem?_append_right (Nat.le_refl _), Nat.sub_self]; rfl
theorem cell_set_off (W : World) (g i j : Nat) (x : Value) (hj : j ≠ i) : (W.setCell ⟨g, i, none⟩ x).cell? ⟨g, j, none⟩ = W.cell? ⟨g, j, none⟩ := by
  unfold World.setCell World.cell?
  simp only [Array.getElem?_modify, if_true]
  cases h : W.heap[g]? with
  | none => simp
  | some o =>
    cases o <;> simp [Ne.symm hj]
set_option maxHeartbeats 8000000 in
theorem lead_any (w : World) (P : Bl) (base h up gu au m : Nat) (A : Option Addr) (cw : Nat) (ss0 : List (Nat × Nat)) (tu c : T) (binit : List (T × Nat)) (lf : T) (k : List Nat) (q pred : Pr)
    (how : OwnElems 2 cS 162 w base (.slice A (up + 1) cw) (ss0 ++ [(gu, au)])) (hup : up = ss0.length) (hPb : ∀ b, P b → b < base) (hbase : base ≤ w.heap.size)
    (hn : NodeAt P w (h + 1) gu tu) (hkc : tu.ks[au]? = some c) (hg : GoodT h c) (hf : Full h c) (hq : tu.ps[au]? = some q) (hpath : pathT h c k = binit ++ [(lf, m)]) (hm : m = lf.ps.length) (hpred : lf.ps[m - 1]? = some pred) (hm1 : 1 ≤ m) (h0 : h - binit.length = 0)
    (hh : h ≤ 5000) (hu300 : up ≤ 5000) (hkb : Byt k) (hsz : tu.ps.length ≤ 100 ∧ tu.ks.length ≤ 101 ∧ m ≤ 100) :
    Calls Tryz.prog 111 #[.slice A (up + 1) cw, .string (str k)] w fun e w' => ∃ v' ssb glf gn, e = .returned v' ∧ OwnElems 2 cS 162 w' base v' (ss0 ++ [(gn, au)] ++ (ssb ++ [(glf, m - 1)])) ∧ WayAt P w' h ssb binit ∧ NodeAt P w' 0 glf lf ∧ Below base w w' ∧ Chg (ownFoot (.slice A (up + 1) cw)) w w' (ownFoot v') ∧
      ∃ P' : Bl, NodeAt P' w' (h + 1) gn (repT tu au pred) ∧ (∀ b, P' b → P b ∨ (w.heap.size ≤ b ∧ b < w'.heap.size)) ∧ (∀ b, P' b → b ∉ ownFoot v') ∧ (∀ b, P b → P' b) ∧ ∀ b ∈ ownFoot v', b < w'.heap.size := by
  obtain ⟨i0, hi0, hz0, hs0, hy0⟩ := info_parts Tryz.info162
  obtain ⟨g0, cap0, cur0, e0, hg0, hh0, _⟩ := how.block_ (by simp)
  injection e0 with e0 en ec
  subst e0
  subst ec
  clear en
  have hu : Under P w := fun b hb => Nat.lt_of_lt_of_le (hPb b hb) hbase
  have s0 := (how.cell_ cS_len (i := up) (j := 0) (a := (gu, au)) (u := .pointer (some ⟨gu, 0, none⟩)) (by rw [hup, List.getElem?_append_right (Nat.le_refl _)]; simp) rfl).1
  rw [Nat.add_zero] at s0
  have s1 := (how.cell_ cS_len (i := up) (j := 1) (a := (gu, au)) (u := .int .i64 (au : Int)) (by rw [hup, List.getElem?_append_right (Nat.le_refl _)]; simp) rfl).1
  obtain ⟨vp, vk, gs, hhd, hsd⟩ := hn
  obtain ⟨Ap, capp, rfl⟩ := hhd.pairs.slice
  obtain ⟨Bk, capk, rfl⟩ := hhd.kids.slice
  obtain ⟨gk, hgk, hnk⟩ := hsd.at_ hkc
  obtain ⟨adk, rfl, k0⟩ := hhd.kids.kcell hgk
  have c1 := hhd.c1'
  obtain ⟨nk, HNK⟩ : ∃ n, Hid (n = gs.length) := ⟨_, rfl⟩
  obtain ⟨n1, HN1⟩ : ∃ n, Hid (n = tu.ps.length) := ⟨_, rfl⟩
  rw [← HNK.out] at c1
  have hak : (au : Int) < nk := by have := (List.getElem?_eq_some_iff.1 hgk).1; have := HNK.out; omega
  have huw : IntKind.i64.wrap ((up : Int) + 1 - 1) = up := by rw [wrap_ok (by omega) (by omega)]; omega
  have huw2 : IntKind.i64.wrap (up : Int) = up := wrap_ok (by omega) (by omega)
  have HHD := hid hhd
  have HSD := hid hsd
  have HOW := hid how
  have HU := hid hu
  have HPB := hid hPb
  have HDN := hid (fun (W : World) (hb : Below w.heap.size w W) => down_any W P h gk c k (NodeAt.keep (hu.stay hb) hnk) (hu.later hb.size) hg hf hkb hh)
  have HPATH := hid hpath
  have HM := hid hm
  have HUP := hid hup
  have HPRED := hid hpred
  clear hhd hsd how hu hPb hg hf hpath hm hup hpred hgk hnk hkc hh0
  go_enter Tryz.func111, Tryz.ntmps111
  go_wp2
  go_quiet (fail)
  rename_i nq
  go_wp2_with fail
  have hb0 : Below w.heap.size w (w.drewN nq) := below_drewN' (Below.refl _ _) nq
  refine (HDN.out _ hb0).mono ?_
  rintro e w1 ⟨vb, ssx, rfl, hb, hmid, hw⟩
  rw [HPATH.out] at hw
  obtain ⟨ssb, glf, rfl, hw0, hnlf⟩ := way_last hw
  rw [h0] at hnlf
  obtain ⟨Ab, nb, cb, rfl⟩ := hmid.rows.form
  have HB1 : Hid (Below w.heap.size w w1) := below_step hb0 hb
  have HVB := hid hmid.rows
  have HOW1 : Hid (OwnElems 2 cS 162 w1 base (.slice (some ⟨g0, 0, none⟩) (up + 1) cw) (ss0 ++ [(gu, au)])) := HOW.out.keep fun b hb => HB1.out.block b (HOW.out.lt b hb).2
  have HWB : Hid (WayAt P w1 h ssb binit) := hw0.keep (HU.out.stay HB1.out)
  have HNL : Hid (NodeAt P w 0 glf lf) := NodeAt.keep (w := w.drewN nq) (w' := w) (fun b _ => rfl) hnlf
  have HBND : Hid ((ss0 ++ [(gu, au)]).length + (ssb ++ [(glf, m)]).length ≤ maxLen ∧ ((ss0 ++ [(gu, au)]).length + (ssb ++ [(glf, m)]).length) * 16 ≤ 140737488355328 ∧ ssb.length ≤ 5001) := by
    have h1 := hw0.deep
    have h2 := HUP.out
    refine ⟨?_, ?_, by omega⟩
    · simp [maxLen]; omega
    · simp; omega
  clear hw hw0 hmid hb hnlf hb0
  go_wp2_with (at_builtin; refine wpList_append_rows _ rfl (.tmp 36) (.tmp 37) 158 rfl base 162 i0 _ 2 16 Tryz.underlying158 hi0 hz0 hs0 hy0 rfl (by omega) cS_one _ _ rfl HOW1.out _ _ rfl HVB.out HBND.out.1 HBND.out.2.1 (Nat.le_trans hbase HB1.out.size) ?_; intro v2 w2 ho2 hg2 hf2; obtain ⟨g2, c2, cur2, e2, hg2b, hh2, _⟩ := ho2.block_ (by simp); subst e2; have HO2 := hid ho2; obtain ⟨nl, HNL2⟩ : (∃ nl : Nat, Hid (nl + 1 = ((ss0 ++ [(gu, au)]) ++ (ssb ++ [(glf, m)])).length)) := ⟨ss0.length + 1 + ssb.length, by show _ = _; simp; omega⟩; rw [← HNL2.out] at HO2 ⊢; have hnl : nl ≤ 12000 := (by have := HNL2.out; have := HBND.out.2.2; have := HUP.out; simp at *; omega); have hnw : IntKind.i64.wrap ((nl : Int) + 1 - 1) = nl := (by rw [wrap_ok (by omega) (by omega)]; omega); have hnw2 : IntKind.i64.wrap (nl : Int) = nl := wrap_ok (by omega) (by omega); have hmw : IntKind.i64.wrap ((m : Int) - 1) = ((m - 1 : Nat) : Int) := (by rw [wrap_ok (by omega) (by omega)]; omega); have hlast := HO2.out.cell_ cS_len (i := nl) (j := 1) (a := (glf, m)) (u := .int .i64 (m : Int)) (by have := HNL2.out; simp at this; rw [show nl = (ss0 ++ [(gu, au)]).length + ssb.length by simp; omega]; exact get_end _ _ _) rfl; obtain ⟨x1, x2⟩ := hlast; have HG2 := hid hg2b; have HGR := hid hg2; have HF2 := hid hf2; clear ho2 hg2 hf2 hh2 hg2b)
  obtain ⟨w3, HW3⟩ : ∃ W, Hid (W = w2.setCell ⟨g2, nl * 2 + 1, none⟩ (.int .i64 ((m - 1 : Nat) : Int))) := ⟨_, rfl⟩
  have hnlen : nl = (ss0 ++ [(gu, au)]).length + ssb.length := by have := HNL2.out; simp at this ⊢; omega
  have hB2 : Below base w1 w2 := (Below.refl base w1).grown HGR.out (Nat.le_trans hbase HB1.out.size) fun b e => (HOW1.out.lt b (mem_ownFoot.2 e)).1
  have HCC : Hid (Chg [g0] w w3 [g2]) := by
    rw [HW3.out]
    have h1 : Chg [g0] w w2 [g0] := (Chg.of_below (F := [g0]) HB1.out).grown (row := some g0) HGR.out fun k hk => by injection hk with hk; simp [hk]
    refine (h1.less (K := [g2]) fun k hk => ?_).setCell (p := ⟨g2, nl * 2 + 1, none⟩) (by simp) _
    simp at hk
    subst hk
    rcases HF2.out k (mem_ownFoot.2 rfl) with h | h
    · have h2 : some g0 = some k := mem_ownFoot.1 h
      injection h2 with h2
      left; simp [h2]
    · right; have := HB1.out.size; omega
  have HBB : Hid (Below base w w3) := by
    rw [HW3.out]
    exact ((HB1.out.mono hbase).trans hB2).setCell (p := ⟨g2, nl * 2 + 1, none⟩) HG2.out _
  have HO3 : Hid (OwnElems 2 cS 162 w3 base (.slice (some ⟨g2, 0, none⟩) (nl + 1) c2) ((ss0 ++ [(gu, au)]) ++ (ssb ++ [(glf, m - 1)]))) := by
    have h1 := HO2.out.set_ cS_len (i := nl) (j := 1) (a := (glf, m)) (a' := (glf, m - 1)) (u := .int .i64 ((m - 1 : Nat) : Int)) (by rw [hnlen]; exact get_end _ _ _) (by omega) rfl
    rw [← HW3.out] at h1
    have e : (((ss0 ++ [(gu, au)]) ++ (ssb ++ [(glf, m)])).set nl (glf, m - 1)) = (ss0 ++ [(gu, au)]) ++ (ssb ++ [(glf, m - 1)]) := by
      rw [← List.append_assoc, hnlen, ← List.length_append, set_last, List.append_assoc]
    rw [e] at h1
    exact h1
  have hst3 : ∀ b, P b → w3.heap[b]? = w.heap[b]? := fun b hb => HBB.out.block b (HPB.out b hb)
  have HU3 : Hid (Under P w3) := HU.out.later HBB.out.size
  have HHD3 := hid (HHD.out.keep hst3)
  have c0 := HHD3.out.c0
  have c1 := HHD3.out.c1'
  rw [← HN1.out] at c0
  rw [← HNK.out] at c1
  have hlf3 := NodeAt.keep hst3 HNL.out
  obtain ⟨vpl, vkl, gsl, hhl, _⟩ := hlf3
  obtain ⟨Al, capl, rfl⟩ := hhl.pairs.slice
  obtain ⟨adl, rfl, r0, r1⟩ := hhl.pairs.pcell HPRED.out
  have l0 := hhl.c0
  rw [← HM.out] at l0
  have y0 := (HO3.out.cell_ cS_len (i := nl) (j := 0) (a := (glf, m - 1)) (u := .pointer (some ⟨glf, 0, none⟩)) (by rw [hnlen]; exact get_end _ _ _) rfl).1
  rw [Nat.add_zero] at y0
  have y1 := (HO3.out.cell_ cS_len (i := nl) (j := 1) (a := (glf, m - 1)) (u := .int .i64 ((m - 1 : Nat) : Int)) (by rw [hnlen]; exact get_end _ _ _) rfl).1
  have hgu2 : gu ≠ g2 := fun e => by have := HPB.out gu HHD.out.blk; have := HG2.out; omega
  have hglf2 : glf ≠ g2 := fun e => by have := HPB.out glf hhl.blk; have := HG2.out; omega
  have hadl : adl.block ≠ g2 := fun e => by have := HPB.out adl.block (hhl.pairs.2 _ (by rw [mem_ownFoot]; rfl)); have := HG2.out; omega
  have hup2 : up < nl := by have := HUP.out; simp at hnlen; omega
  have JS : Hid (∀ W, Below w3.heap.size w3 W → W.cell? ⟨gu, 0, none⟩ = some (.slice Ap n1 capp) ∧ W.cell? ⟨gu, 0 + 1, none⟩ = some (.slice (some adk) nk capk) ∧ W.cell? ⟨g2, nl * 2, none⟩ = some (.pointer (some ⟨glf, 0, none⟩)) ∧ W.cell? ⟨g2, nl * 2 + 1, none⟩ = some (.int .i64 ((m - 1 : Nat) : Int)) ∧
      W.cell? ⟨glf, 0, none⟩ = some (.slice (some adl) m capl) ∧ W.cell? (adl.add ((m - 1) * 2)) = some (.string (str pred.1)) ∧ W.cell? { block := (adl.add ((m - 1) * 2)).block, off := (adl.add ((m - 1) * 2)).off + 1, spot := none } = some (.string (str pred.2))) := fun W hb =>
    ⟨below_keep hb _ _ c0, below_keep hb _ _ c1, below_keep hb _ _ y0, below_keep hb _ _ y1, below_keep hb _ _ l0, below_keep hb _ _ r0, below_keep hb _ _ r1⟩
  have JS2 : Hid (∀ (W : World) (x : Value), Below w3.heap.size w3 W → (W.setCell ⟨g2, up * 2, none⟩ x).cell? ⟨gu, 0, none⟩ = some (.slice Ap n1 capp) ∧ (W.setCell ⟨g2, up * 2, none⟩ x).cell? ⟨gu, 0 + 1, none⟩ = some (.slice (some adk) nk capk) ∧ (W.setCell ⟨g2, up * 2, none⟩ x).cell? ⟨g2, nl * 2, none⟩ = some (.pointer (some ⟨glf, 0, none⟩)) ∧ (W.setCell ⟨g2, up * 2, none⟩ x).cell? ⟨g2, nl * 2 + 1, none⟩ = some (.int .i64 ((m - 1 : Nat) : Int)) ∧
      (W.setCell ⟨g2, up * 2, none⟩ x).cell? ⟨glf, 0, none⟩ = some (.slice (some adl) m capl) ∧ (W.setCell ⟨g2, up * 2, none⟩ x).cell? (adl.add ((m - 1) * 2)) = some (.string (str pred.1)) ∧ (W.setCell ⟨g2, up * 2, none⟩ x).cell? { block := (adl.add ((m - 1) * 2)).block, off := (adl.add ((m - 1) * 2)).off + 1, spot := none } = some (.string (str pred.2))) := fun W x hb => by
    obtain ⟨z0, z1, z2, z3, z4, z5, z6⟩ := JS.out W hb
    have hfar : ∀ b, b ≠ g2 → (W.setCell ⟨g2, up * 2, none⟩ x).heap[b]? = W.heap[b]? := fun b hb => Below.heap_setCell W ⟨g2, up * 2, none⟩ x b hb
    have hin : ∀ j, j ≠ up * 2 → (W.setCell ⟨g2, up * 2, none⟩ x).cell? ⟨g2, j, none⟩ = W.cell? ⟨g2, j, none⟩ := fun j hj => cell_set_off W g2 (up * 2) j x hj
    refine ⟨(World.cell?_of_block (a := ⟨gu, 0, none⟩) (hfar gu hgu2)).trans z0, (World.cell?_of_block (a := ⟨gu, 0 + 1, none⟩) (hfar gu hgu2)).trans z1, (hin _ (by omega)).trans z2, (hin _ (by omega)).trans z3, (World.cell?_of_block (a := ⟨glf, 0, none⟩) (hfar glf hglf2)).trans z4, (World.cell?_of_block (hfar _ (by rw [add_blk]; exact hadl))).trans z5, (World.cell?_of_block (hfar _ (by show (adl.add _).block ≠ g2; rw [add_blk]; exact hadl))).trans z6⟩
  have HSP : Hid (∀ (W : World) (b : Nat), Below w3.heap.size w3 W → w3.heap.size ≤ b → W.heap[b]? = some (.cells #[.string (str pred.1), .string (str pred.2)] 164 (0, 0)) →
      Calls Tryz.prog 113 #[.slice Ap n1 capp, .int .i64 (au : Int), .int .i64 ((au : Int) + 1), .slice (some ⟨b, 0, none⟩) 1 1] W fun e w' => ∃ u, e = .returned u ∧ Below w3.heap.size w3 w' ∧ Lay (New P w3 w') 2 cP w' u (spl tu.ps au (au + 1) [pred])) := fun W b hb hle hrow => by
    have h1 : Lay (New P w3 W) 2 cP W (.slice Ap n1 capp) tu.ps := by
      have := HHD3.out.pairs
      rw [← HN1.out] at this
      exact (this.keep (HU3.out.stay hb)).mono fun _ h => .inl h
    have h2 : Lay (New P w3 W) 2 cP W (.slice (some ⟨b, 0, none⟩) 1 1) [pred] := ⟨elems_pair (p := pred) hrow, fun x hx => by
      simp [ownFoot, Value.ownBlock] at hx
      subst hx
      exact .inr ⟨hle, (Array.getElem?_eq_some_iff.1 hrow).1⟩⟩
    have h3 := splice_P W (New P w3 W) (.slice Ap n1 capp) tu.ps au (au + 1) _ [pred] h1 h2 (by omega) (by have := (List.getElem?_eq_some_iff.1 hq).1; omega) (HU3.out.new hb.size) (by omega) (by simp)
    rw [show ((au + 1 : Nat) : Int) = (au : Int) + 1 by omega] at h3
    refine h3.mono ?_
    rintro e w' ⟨u, rfl, hb', hl'⟩
    exact ⟨u, rfl, below_step hb hb', hl'.mono fun x hx => New.trans hb.size hb'.size hx⟩
  have JST : Hid (∀ W, Below w3.heap.size w3 W → W.cell? ⟨g2, up * 2, none⟩ = some (.pointer (some ⟨gu, 0, none⟩)) ∧ W.frozen? ⟨g2, up * 2, none⟩ = false ∧ OwnElems 2 cS 162 W base (.slice (some ⟨g2, 0, none⟩) (nl + 1) c2) ((ss0 ++ [(gu, au)]) ++ (ssb ++ [(glf, m - 1)]))) := fun W hb => by
    have h1 : OwnElems 2 cS 162 W base (.slice (some ⟨g2, 0, none⟩) (nl + 1) c2) ((ss0 ++ [(gu, au)]) ++ (ssb ++ [(glf, m - 1)])) := HO3.out.keep fun b hb1 => hb.block b (HO3.out.lt b hb1).2
    have h2 := h1.cell_ cS_len (i := up) (j := 0) (a := (gu, au)) (u := .pointer (some ⟨gu, 0, none⟩)) (by rw [HUP.out, List.append_assoc, List.getElem?_append_right (Nat.le_refl _)]; simp) rfl
    rw [Nat.add_zero] at h2
    exact ⟨h2.1, h2.2, h1⟩
  have haw : IntKind.i64.wrap ((au : Int) + 1) = (au : Int) + 1 := wrap_ok (by omega) (by have := (List.getElem?_eq_some_iff.1 hq).1; omega)
  have hm1i : ((m - 1 : Nat) : Int) < m := by omega
  have hm2i : (0 : Int) ≤ ((m - 1 : Nat) : Int) := by omega
  have hupi : (up : Int) < (nl : Int) + 1 := by omega
  have hupi2 : (up : Int) < ((nl + 1 : Nat) : Int) := by omega
  rw [← HW3.out]
  clear c0 c1 y0 y1 l0 r0 r1 hst3 hhl hnlen s0 s1 x1 x2 hB2 hgu2 hglf2 hadl
  go_region_held3 (fun W => W.cell? ⟨gu, 0, none⟩ = some (.slice Ap n1 capp) ∧ W.cell? ⟨gu, 0 + 1, none⟩ = some (.slice (some adk) nk capk) ∧ W.cell? ⟨g2, nl * 2, none⟩ = some (.pointer (some ⟨glf, 0, none⟩)) ∧ W.cell? ⟨g2, nl * 2 + 1, none⟩ = some (.int .i64 ((m - 1 : Nat) : Int)) ∧
      W.cell? ⟨glf, 0, none⟩ = some (.slice (some adl) m capl) ∧ W.cell? (adl.add ((m - 1) * 2)) = some (.string (str pred.1)) ∧ W.cell? { block := (adl.add ((m - 1) * 2)).block, off := (adl.add ((m - 1) * 2)).off + 1, spot := none } = some (.string (str pred.2)))
    (first | assumption | exact JS2.out _ _ (by repeat (with_reducible (first | assumption | exact Below.refl _ _ | refine below_drew1 ?_ | refine below_drewN_ ?_ | refine below_alloc' ?_ _))) | exact JS.out _ (by repeat (with_reducible (first | assumption | exact Below.refl _ _ | refine below_drew1 ?_ | refine below_drewN_ ?_ | refine below_alloc' ?_ _))))
    (first
      | (go_at_call 113; (with_reducible refine (HSP.out _ _ (by repeat (with_reducible (first | assumption | exact Below.refl _ _ | refine below_drew1 ?_ | refine below_drewN_ ?_ | refine below_alloc' ?_ _))) ?hle ?hrow).mono ?_); (case hle => simp); (case hrow => (repeat (first | (with_reducible exact hp_new (by simp)) | (with_reducible refine hp_drew ?_) | (with_reducible refine hp_old ?_)))); rintro e w4 ⟨u4, rfl, hb4, hl4⟩; obtain ⟨A4, n4, c4, rfl⟩ := hl4.1.form; have HL4 := hid hl4; obtain ⟨t1, t2, t3⟩ := JST.out (w4.alloc (.cells #[.slice A4 n4 c4, .slice (some adk) nk capk] 168)) (below_alloc' hb4 _); have HT3 := hid t3; clear hl4 t3))
  clear t1 t2
  have hb5 := below_alloc' hb4 (.cells #[.slice A4 n4 c4, .slice (some adk) nk capk] 168)
  obtain ⟨w5, HW5⟩ : ∃ W, Hid (W = w4.alloc (.cells #[.slice A4 n4 c4, .slice (some adk) nk capk] 168)) := ⟨_, rfl⟩
  have hs5 : w5.heap.size = w4.heap.size + 1 := by rw [HW5.out]; simp
  have hg2w3 : g2 < w3.heap.size := (HO3.out.lt g2 (by rw [mem_ownFoot]; rfl)).2
  have hPg : ∀ b, New P w3 w5 b → b ≠ g2 := fun b hb e => by
    rcases hb with hb | hb
    · have := HPB.out b hb; have := HG2.out; omega
    · omega
  rw [← HW5.out] at hb5 HT3 ⊢
  obtain ⟨w6, HW6⟩ : ∃ W, Hid (W = w5.setCell ⟨g2, up * 2, none⟩ (.pointer (some ⟨w4.heap.size, 0, none⟩))) := ⟨_, rfl⟩
  have hs6 : w6.heap.size = w5.heap.size := by rw [HW6.out]; show (w5.heap.modify _ _).size = _; rw [Array.size_modify]
  have hP6 : ∀ b, New P w3 w5 b → w6.heap[b]? = w5.heap[b]? := fun b hb => by rw [HW6.out]; exact Below.heap_setCell _ ⟨g2, up * 2, none⟩ _ b (hPg b hb)
  have hPw : ∀ b, P b → w6.heap[b]? = w.heap[b]? := fun b hb => (hP6 b (.inl hb)).trans ((hb5.block b (HU3.out b hb)).trans (HBB.out.block b (HPB.out b hb)))
  have HB6 : Hid (Below base w w6) := by
    rw [HW6.out]
    exact (HBB.out.trans (hb5.mono (Nat.le_trans hbase HBB.out.size))).setCell (p := ⟨g2, up * 2, none⟩) HG2.out _
  have HC6 : Hid (Chg [g0] w w6 [g2]) := by
    rw [HW6.out]
    exact (HCC.out.step_below hb5).setCell (p := ⟨g2, up * 2, none⟩) (by simp) _
  have HO6 : Hid (OwnElems 2 cS 162 w6 base (.slice (some ⟨g2, 0, none⟩) (nl + 1) c2) ((ss0 ++ [(w4.heap.size, au)]) ++ (ssb ++ [(glf, m - 1)]))) := by
    have h1 := HT3.out.set_ cS_len (i := up) (j := 0) (a := (gu, au)) (a' := (w4.heap.size, au)) (u := .pointer (some ⟨w4.heap.size, 0, none⟩)) (by rw [HUP.out, List.append_assoc, List.getElem?_append_right (Nat.le_refl _)]; simp) (by omega) rfl
    rw [Nat.add_zero, ← HW6.out, HUP.out, set_mid] at h1
    exact h1
  have HWY6 : Hid (WayAt P w6 h ssb binit) := HWB.out.keep fun b hb => (hPw b hb).trans (HU.out.stay HB1.out b hb).symm
  have HNL6 : Hid (NodeAt P w6 0 glf lf) := NodeAt.keep hPw HNL.out
  have HN6 : Hid (NodeAt (New P w3 w5) w6 (h + 1) w4.heap.size (repT tu au pred)) := by
    refine ⟨.slice A4 n4 c4, .slice (some adk) nk capk, gs, ?_, ?_⟩
    · have hk3 : Lay (New P w3 w4) 1 cK w4 (.slice (some adk) nk capk) gs := by
        have := HHD3.out.kids
        rw [← HNK.out] at this
        exact (this.keep (HU3.out.stay hb4)).mono fun _ h => .inl h
      have h1 := hd_new (New P w3 w4) _ _ HL4.out hk3 (HU3.out.new hb4.size)
      rw [← HW5.out] at h1
      have h2 := h1.mono (P' := New P w3 w5) fun b hb => New.trans hb4.size (by omega) hb
      exact h2.keep hP6
    · exact HSD.out.imp fun _ _ hn => NodeAt.mono (fun _ h => .inl h) (NodeAt.keep hPw hn)
  rw [← HW6.out]
  go_wp2
  go_ret
  refine ⟨_, ssb, glf, w4.heap.size, rfl, HO6.out, HWY6.out, HNL6.out, HB6.out, by simpa [ownFoot, Value.ownBlock] using HC6.out, New P w3 w5, HN6.out, fun b hb => ?_, fun b hb hf => ?_, fun b hb => .inl hb, fun b hb => ?_⟩
  · rcases hb with hb | hb
    · exact .inl hb
    · exact .inr ⟨by have := HBB.out.size; omega, by omega⟩
  · simp [ownFoot, Value.ownBlock] at hf
    exact hPg b hb hf
  · simp [ownFoot, Value.ownBlock] at hb
    have := hb5.size
    omega
end Go.Proofs.YtlnagdodnkhbmaaGreat

/- A pair between children goes: the last one ahead of it comes to stand in its place. -/
namespace Go.Proofs.YtlnagdodnkhbmaaGreat
open Go.RowKit
set_option maxRecDepth 100000

structure LeadOf (o H : Nat) (t : T) (k : List Nat) (init : List (T × Nat)) (tl : T) (h : Nat) (c : T) (binit : List (T × Nat)) (lf : T) (pred : Pr) : Prop where
  kid : tl.ks[atN tl.ps k]? = some c
  ok : Ok o h (o - 1) (2 * o - 1) c
  sub : (flat h c).Sublist (flat H t)
  path : pathT h c k = binit ++ [(lf, lf.ps.length)]
  one : 1 ≤ lf.ps.length
  most : lf.ps.length ≤ 2 * o - 1
  last : lf.ps[lf.ps.length - 1]? = some pred
  low : h - binit.length = 0
  deep : binit.length ≤ h
  leaf : lf.ks = []
  pok : POk o H 1 (init ++ ((repT tl (atN tl.ps k) pred, atN tl.ps k) :: binit))
  kok : Ok o (H - (init ++ ((repT tl (atN tl.ps k) pred, atN tl.ps k) :: binit)).length) (if (init ++ ((repT tl (atN tl.ps k) pred, atN tl.ps k) :: binit)).length = 0 then 0 else o - 2) (2 * o) (.nd (spl lf.ps (lf.ps.length - 1) lf.ps.length []) [])
  fl : flat H (upT o (init ++ ((repT tl (atN tl.ps k) pred, atN tl.ps k) :: binit)) (.nd (spl lf.ps (lf.ps.length - 1) lf.ps.length []) [])) = delL (flat H t) k
theorem lead_of {o H lo h : Nat} {t : T} {k v : List Nat} {init : List (T × Nat)} {tl : T} (ho : 2 ≤ o) (hlo : 1 ≤ lo ∨ H = 0) (q : WayOf o H lo t k init tl) (hr : Rising (flat H t)) (hv : tl.ps[atN tl.ps k]? = some (k, v)) (hh : H - init.length = h + 1) :
    ∃ c binit lf pred, LeadOf o H t k init tl h c binit lf pred := by
  have hlt := (List.getElem?_eq_some_iff.1 hv).1
  have hlast := q.last
  rw [hh] at hlast
  have hkl := hlast.2.1
  obtain ⟨c, hc⟩ : ∃ c, tl.ks[atN tl.ps k]? = some c := ⟨tl.ks[atN tl.ps k]'(by omega), List.getElem?_eq_getElem _⟩
  have hcm := List.mem_of_getElem? hc
  have hcok := hlast.2.2 c hcm
  obtain ⟨X, Z, g1, g2, g3, g4⟩ := q.split hr hv
  rw [hh] at g3 g4
  have hbef : bef (h + 1) tl (atN tl.ps k) = LL h tl (atN tl.ps k) ++ flat h c := by
    show LL h tl (atN tl.ps k) ++ (match tl.ks[atN tl.ps k]? with | some k => flat h k | none => []) = _
    rw [hc]
  rw [hbef] at g3
  have hcl : ∀ x ∈ flat h c, x.1 < k := fun x hx => g2 x (by rw [g3]; simp [hx])
  have hsub : (flat h c).Sublist (flat H t) := by
    rw [g1, g3]
    refine List.Sublist.trans ?_ (List.sublist_append_left _ _)
    rw [← List.append_assoc]
    exact List.sublist_append_right _ _
  obtain ⟨binit, lf, q2⟩ := way_of ho (k := k) hcok (rising_sub hr hsub)
  have hlfs : ∀ x ∈ lf.ps, x.1 < k := fun x hx => hcl x (by rw [q2.fl]; simp [(ps_sub (h := h - binit.length)).subset hx])
  have hn : getL lf.ps k = none := by
    cases hg : getL lf.ps k with
    | none => rfl
    | some v' =>
      obtain ⟨v2, hv2⟩ := find_lt (t := lf) (k := k) (by rw [hg]; rfl)
      exact absurd (hlfs _ (List.mem_of_getElem? hv2)) (List.lt_irrefl _)
  have hlow := q2.leaf hn
  have hm : atN lf.ps k = lf.ps.length := by
    have := (at_none (X := lf.ps) (Z := []) (k := k) hlfs (by simp)).1
    rwa [List.append_nil] at this
  have hRR : RRp h binit = [] := by
    refine List.eq_nil_iff_forall_not_mem.2 fun x hx => ?_
    have h1 := q2.behind x hx
    have h2 := hcl x (by rw [q2.fl]; simp [hx])
    exact absurd (Std.lt_trans h1 h2) (List.lt_irrefl _)
  have hll := q2.last.len
  have hone : 1 ≤ lf.ps.length := by have := hll.1; split at this <;> omega
  have hl2 : lf.ks = [] := by have := q2.last; rw [hlow] at this; exact this.2
  obtain ⟨pred, hpred⟩ : ∃ pred, lf.ps[lf.ps.length - 1]? = some pred := ⟨lf.ps[lf.ps.length - 1]'(by omega), List.getElem?_eq_getElem _⟩
  have hil := q.pok.len
  have hbl := q2.pok.len
  have hlo1 : 1 ≤ lo := by omega
  have hpok : POk o H 1 (init ++ ((repT tl (atN tl.ps k) pred, atN tl.ps k) :: binit)) := by
    refine POk.app (pok_one hlo q.pok) ?_
    rw [hh]
    refine ⟨(repT_ok hlast hlt pred).to_ ?_ ?_, ?_, q2.pok⟩
    · rw [repT_len hlt]
      have := hlast.len.1
      split
      · omega
      · rename_i hne; rw [if_neg hne] at this; omega
    · rw [repT_len hlt]; exact hlast.len.2
    · show atN tl.ps k ≤ (repT tl (atN tl.ps k) pred).ps.length
      rw [repT_len hlt]; omega
  have hpl : (init ++ ((repT tl (atN tl.ps k) pred, atN tl.ps k) :: binit)).length = init.length + (binit.length + 1) := by simp
  have hd : H - (init ++ ((repT tl (atN tl.ps k) pred, atN tl.ps k) :: binit)).length = 0 := by rw [hpl]; omega
  have hspl : spl lf.ps (lf.ps.length - 1) lf.ps.length [] = lf.ps.take (lf.ps.length - 1) := by unfold spl; simp
  have hkok : Ok o (H - (init ++ ((repT tl (atN tl.ps k) pred, atN tl.ps k) :: binit)).length) (if (init ++ ((repT tl (atN tl.ps k) pred, atN tl.ps k) :: binit)).length = 0 then 0 else o - 2) (2 * o) (.nd (spl lf.ps (lf.ps.length - 1) lf.ps.length []) []) := by
    rw [hd, if_neg (by rw [hpl]; omega), hspl]
    have e : (T.nd (lf.ps.take (lf.ps.length - 1)) []).ps.length = lf.ps.length - 1 := by show (lf.ps.take _).length = _; rw [List.length_take]; omega
    refine ⟨⟨?_, ?_⟩, rfl⟩
    · rw [e]; have := hll.1; split at this <;> omega
    · rw [e]; omega
  refine ⟨c, binit, lf, pred, hc, hcok, hsub, by rw [q2.path, hm], hone, hll.2, hpred, hlow, hbl, hl2, hpok, hkok, ?_⟩
  rw [up_flat ho (Nat.le_refl 1) hpok hkok, hd, LLp_app hil, RRp_app hil, hh]
  show LLp H init ++ (LL h (repT tl (atN tl.ps k) pred) (atN tl.ps k) ++ LLp h binit) ++ spl lf.ps (lf.ps.length - 1) lf.ps.length [] ++ ((RRp h binit ++ RR h (repT tl (atN tl.ps k) pred) (atN tl.ps k)) ++ RRp H init) = _
  have e2 : LL h (repT tl (atN tl.ps k) pred) (atN tl.ps k) = LL h tl (atN tl.ps k) := by unfold LL; rw [repT_take hlt]; rfl
  rw [hRR, RR_some (repT_at hlt pred), repT_drop hlt pred, e2, hspl, g1, delL_found g2, g3, g4, q2.fl, hRR, hlow]
  show _ = _ ++ (LL h tl (atN tl.ps k) ++ (LLp h binit ++ lf.ps ++ [])) ++ (inter (tl.ps.drop (atN tl.ps k + 1)) ((tl.ks.drop (atN tl.ps k + 1)).map (flat h)) ++ RRp H init)
  have e3 : lf.ps = lf.ps.take (lf.ps.length - 1) ++ [pred] := by
    have e4 : lf.ps.take (lf.ps.length - 1 + 1) = lf.ps.take (lf.ps.length - 1) ++ [pred] := by rw [List.take_add_one, hpred]; rfl
    rw [← e4, List.take_of_length_le (by omega)]
  generalize hA : lf.ps.take (lf.ps.length - 1) = A at e3 ⊢
  rw [e3]
  show _ ++ ((([] : List Pr) ++ pred :: inter (tl.ps.drop (atN tl.ps k + 1)) ((tl.ks.drop (atN tl.ps k + 1)).map (flat h))) ++ RRp H init) = _
  simp
end Go.Proofs.YtlnagdodnkhbmaaGreat

namespace Go.Proofs.YtlnagdodnkhbmaaGreat
open Go.RowKit
set_option maxRecDepth 100000

theorem WayAt.app {P : Bl} {w : World} {H : Nat} {ss ss' : List (Nat × Nat)} {path path' : List (T × Nat)} (h : WayAt P w H ss path) (hd : path.length ≤ H) (h' : WayAt P w (H - path.length) ss' path') : WayAt P w H (ss ++ ss') (path ++ path') := by
  have hl := h.len
  refine ⟨by simp [h.len, h'.len], by have := h'.deep; simp; omega, fun j s x h1 h2 => ?_⟩
  rcases Nat.lt_or_ge j ss.length with hj | hj
  · rw [List.getElem?_append_left hj] at h1
    rw [List.getElem?_append_left (by rw [← h.len]; exact hj)] at h2
    exact h.node j s x h1 h2
  · rw [List.getElem?_append_right hj] at h1
    rw [List.getElem?_append_right (by rw [← h.len]; exact hj), ← hl] at h2
    obtain ⟨q1, q2⟩ := h'.node _ s x h1 h2
    refine ⟨q1, ?_⟩
    rwa [show H - path.length - (j - ss.length) = H - j by omega] at q2
theorem WayAt.mono {P P' : Bl} {w : World} {H : Nat} {ss : List (Nat × Nat)} {path : List (T × Nat)} (h : WayAt P w H ss path) (hP : ∀ b, P b → P' b) : WayAt P' w H ss path :=
  ⟨h.len, h.deep, fun j s x h1 h2 => by obtain ⟨q1, q2⟩ := h.node j s x h1 h2; exact ⟨q1, NodeAt.mono hP q2⟩⟩

/-- A leaf's pair goes: the last two calls. -/
theorem del_tail {w w3 : World} {P P3 : Bl} {p o g H m cw a n1 capp : Nat} {ad : Addr} {Ap : Option Addr} {ss0 : List (Nat × Nat)} {last : Nat × Nat} {path : List (T × Nat)} {ps l' : List Pr}
    (hu : Under P w) (hpl : p < w.heap.size) (hP : ¬ P p) (hc : TreeC w3 p o l'.length g) (h2 : 2 ≤ o) (h16 : o ≤ 16) (hH : H ≤ 5000) (hu3 : Under P3 w3) (hP3 : ¬ P3 p) (hsub : ∀ b, P3 b → New P w w3 b) (hch : Chg [p] w w3 [p]) (hm : m = ss0.length)
    (hv : Elems 2 cS w3 (.slice (some ad) (m + 1) cw) (ss0 ++ [last])) (hw : WayAt P3 w3 H ss0 path) (hpk : POk o H 1 path) (hlf : Lay P3 2 cP w3 (.slice Ap n1 capp) ps) (ha : a < ps.length) (hps : ps.length ≤ 1000)
    (hk : Ok o (H - path.length) (if path.length = 0 then 0 else o - 2) (2 * o) (.nd (spl ps a (a + 1) []) [])) (hfl : flat H (upT o path (.nd (spl ps a (a + 1) []) [])) = l') (hr : Rising l') (hb : PByt l') :
    (∀ W, Below w3.heap.size w3 W → Calls Tryz.prog 113 #[.slice Ap n1 capp, .int .i64 (a : Int), .int .i64 ((a : Int) + 1), .slice none 0 0] W fun e w' => ∃ u, e = .returned u ∧ Below w3.heap.size w3 w' ∧ Lay (New P3 w3 w') 2 cP w' u (spl ps a (a + 1) [])) ∧
    (∀ W A3 n3 c3, Below w3.heap.size w3 W → Lay (New P3 w3 W) 2 cP W (.slice A3 n3 c3) (spl ps a (a + 1) []) →
      Calls Tryz.prog 112 #[.pointer (some ⟨p, 0, none⟩), .slice (some ad) (m + 1) cw, .pointer (some ⟨W.heap.size, 0, none⟩)] (W.alloc (.cells #[.slice A3 n3 c3, .slice none 0 0] 168)) fun e w5 =>
        (∃ v, e = .returned v) ∧ Done P w w5 p o l' ∧ ∀ b, b < w3.heap.size → b ≠ p → w5.heap[b]? = w3.heap[b]?) := by
  refine ⟨fun W hbw => ?_, fun W A3 n3 c3 hbw hlp => ?_⟩
  · have h1 : Lay (New P3 w3 W) 2 cP W (.slice Ap n1 capp) ps := (hlf.keep (hu3.stay hbw)).mono fun _ h => .inl h
    have h3 := splice_P W (New P3 w3 W) (.slice Ap n1 capp) ps a (a + 1) _ [] h1 (Lay.nil _ _ _ _) (by omega) (by omega) (hu3.new hbw.size) hps (by simp)
    rw [show ((a + 1 : Nat) : Int) = (a : Int) + 1 by omega] at h3
    refine h3.mono ?_
    rintro e w' ⟨u, rfl, hb', hl'⟩
    exact ⟨u, rfl, below_step hbw hb', hl'.mono fun x hx => New.trans hbw.size hb'.size hx⟩
  · refine (turn_new w3 W P3 p o l'.length g H m (some ad) cw ss0 last path (.slice A3 n3 c3) (.slice none 0 0) _ [] [] hc h2 h16 hu3 hP3 hm hv hw hpk (Lay.nil _ _ _ _) (Side.nil _) hbw hlp hk hH).mono ?_
    rintro e w5 ⟨hv, ht⟩
    have hbl : Below W.heap.size W (W.alloc (.cells #[.slice A3 n3 c3, .slice none 0 0] 168)) := (Below.refl _ W).alloc (Nat.le_refl _) _
    have hb4 := below_step hbw hbl
    refine ⟨hv, turn_done hu hpl hP (hch.step_below hb4) ht (fun b hb1 => ?_) h2 h16 (up_root h2 hpk hk) hfl hr hb, fun b h1 h2 => ?_⟩
    · rcases hb1 with h | h
      · exact New.later hb4.size (hsub b h)
      · exact .inr ⟨Nat.le_trans hch.size h.1, h.2⟩
    · exact (ht.block b (Nat.lt_of_lt_of_le h1 hb4.size) h2).trans (hb4.block b h1)

/-! Delete -/
theorem tree_del_bad (w : World) (p : Nat) (k : List Nat) (hk : k.length ≤ 5000) (h64 : key64 k = false) : Calls Tryz.prog 80 #[.pointer (some ⟨p, 0, none⟩), .string (str k)] w fun e w' => e = .returned (.tuple #[.string (str []), .int .i64 13]) ∧ Below w.heap.size w w' := by
  rw [← str_nil]
  go_enter Tryz.func80, Tryz.ntmps80
  go_wp2_with fail
  refine (check_any w p k (by omega)).mono ?_
  rw [show checkR k = 13 by unfold checkR; rw [h64]; rfl]
  rintro e w' ⟨rfl, rfl⟩
  go_wp2
  go_ret2
  exact ⟨rfl, Below.refl _ _⟩
set_option maxHeartbeats 1000000 in
theorem tree_del_none (w : World) (p o : Nat) (l : List Pr) (P : Bl) (H g : Nat) (t : T) (k : List Nat) (hT : TreeIn w p o l P H g t) (hl : l.length ≤ 5000) (hkb : Byt k) (hk : k.length ≤ 5000) (h64 : key64 k = true) (hf : foundT H t k = false) :
    Calls Tryz.prog 80 #[.pointer (some ⟨p, 0, none⟩), .string (str k)] w fun e w' => e = .returned (.tuple #[.string (str []), .int .i64 14]) ∧ Below w.heap.size w w' := by
  rw [← str_nil]
  have c2 := hT.c.c2'
  have HD := hid (down_any w P H g t k hT.node hT.under hT.good hT.full hkb (hT.deep hl))
  have HF := hid hf
  clear hT hf
  go_enter Tryz.func80, Tryz.ntmps80
  go_wp2_with fail
  refine (check_any w p k (by omega)).mono ?_
  rw [show checkR k = 0 by unfold checkR; rw [h64]; rfl]
  rintro e w' ⟨rfl, rfl⟩
  go_wp2_with fail
  refine HD.out.mono ?_
  rw [HF.out]
  rintro e w1 ⟨v, ss, rfl, hb, hm, _⟩
  obtain ⟨Aw, nw, cw, rfl⟩ := hm.rows.form
  have HB := hid hb
  clear hb hm
  go_wp2
  go_ret2
  exact ⟨rfl, HB.out⟩
end Go.Proofs.YtlnagdodnkhbmaaGreat

namespace Go.Proofs.YtlnagdodnkhbmaaGreat
open Go.RowKit
set_option maxRecDepth 100000

set_option maxHeartbeats 8000000 in
theorem tree_del_leaf (w : World) (p o : Nat) (l : List Pr) (P : Bl) (H g : Nat) (t : T) (k v : List Nat) (hT : TreeIn w p o l P H g t) (hl : l.length ≤ 5000) (hkb : Byt k) (hk : k.length ≤ 5000) (h64 : key64 k = true)
    (init : List (T × Nat)) (tl : T) (hq : WayOf o H (if H = 0 then 0 else 1) t k init tl) (hv : tl.ps[atN tl.ps k]? = some (k, v)) (h0 : H - init.length = 0) :
    Calls Tryz.prog 80 #[.pointer (some ⟨p, 0, none⟩), .string (str k)] w fun e w' => e = .returned (.tuple #[.string (str v), .int .i64 0]) ∧ Done P w w' p o (delL l k) := by
  have HTI := hid hT
  have HD := hid (fun (W : World) (hb : Below w.heap.size w W) => down_any W P H g t k (NodeAt.keep (hT.under.stay hb) hT.node) (hT.under.later hb.size) hT.good hT.full hkb (hT.deep hl))
  have HF : Hid (foundT H t k = true) := by show _ = _; rw [hq.found]; unfold getL; rw [hv]; simp
  have HQ := hid hq.path
  have HW := hid hq
  have HU := hid hT.under
  have HDEEP := hid (hT.deep hl)
  have HIL : Hid (init.length ≤ 5000) := by have := hq.pok.len; have := hT.deep hl; show _ ≤ _; omega
  have hpl := hT.c.lt
  have HV := hid hv
  have c2 := hT.c.c2'
  have HLEN : Hid (l.length = (delL l k).length + 1) := by
    have h1 := hq.get (by rw [hT.fl]; exact hT.rise) hv
    rw [hT.fl] at h1
    have h2 := (List.getElem?_eq_some_iff.1 (getL_some h1)).1
    show _ = _
    unfold delL
    simp
    omega
  clear hv hT hq
  go_enter Tryz.func80, Tryz.ntmps80
  go_wp2_with fail
  refine (check_any w p k (by omega)).mono ?_
  rw [show checkR k = 0 by unfold checkR; rw [h64]; rfl]
  rintro e w' ⟨rfl, rfl⟩
  go_wp2_with fail
  refine (HD.out w (Below.refl _ _)).mono ?_
  rw [HF.out]
  rintro e w1 ⟨vw, ss, rfl, hb, hm, hw⟩
  rw [HQ.out] at hw
  obtain ⟨ss0, gl, rfl, hw0, hn⟩ := way_last hw
  obtain ⟨Aw, nw, cw, rfl⟩ := hm.rows.form
  obtain ⟨ad, rfl, hnw, s0, s1⟩ := last_cells hm.rows
  have HB1 := hid hb
  obtain ⟨m, HM⟩ : ∃ m, Hid (m = ss0.length) := ⟨_, rfl⟩
  obtain ⟨a, HA⟩ : ∃ a, Hid (a = atN tl.ps k) := ⟨_, rfl⟩
  obtain ⟨n1, HN1⟩ : ∃ n, Hid (n = tl.ps.length) := ⟨_, rfl⟩
  rw [← HM.out] at s0 s1 hnw
  rw [← HA.out] at s1
  subst hnw
  have hm300 : m ≤ 5000 := by have := HM.out; have := hw0.len; have := HIL.out; omega
  have hmw : IntKind.i64.wrap ((m : Int) + 1 - 1) = m := by rw [wrap_ok (by omega) (by omega)]; omega
  have hmw2 : IntKind.i64.wrap (m : Int) = m := wrap_ok (by omega) (by omega)
  -- behind 'last'
  obtain ⟨w2, HW2⟩ : ∃ W, Hid (W = w1.alloc (.cells #[.pointer (some ⟨gl, 0, none⟩), .int .i64 (a : Int)] 162)) := ⟨_, rfl⟩
  have HB12 : Hid (Below w1.heap.size w1 w2) := by rw [HW2.out]; exact (Below.refl _ _).alloc (Nat.le_refl _) _
  have HB2 := hid (below_step HB1.out HB12.out)
  have HOWN : Hid (OwnElems 2 cS 162 w2 w.heap.size (.slice (some ad) (m + 1) cw) (ss0 ++ [(gl, a)])) := by
    rw [HA.out]
    have h1 := hm.own (by simp)
    exact h1.keep fun b hb => HB12.out.block b (h1.lt b hb).2
  have HW0 : Hid (WayAt P w2 H ss0 init) := hw0.keep (HU.out.stay HB2.out)
  have HT2 := hid (HTI.out.below HB2.out)
  obtain ⟨vp, vk, gs, hh, hsd⟩ := nodeAt_iff.1 (NodeAt.keep (HU.out.stay HB2.out) hn)
  obtain ⟨Ap, capp, rfl⟩ := hh.pairs.slice
  obtain ⟨Bk, capk, rfl⟩ := hh.kids.slice
  have c0 := hh.c0
  have c1 := hh.c1'
  obtain ⟨nk, HNK⟩ : ∃ n, Hid (n = gs.length) := ⟨_, rfl⟩
  have HHD := hid hh
  have HSD := hid hsd
  rw [← HN1.out] at c0
  rw [← HNK.out] at c1
  obtain ⟨adp, rfl, p0, p1⟩ := hh.pairs.pcell HV.out
  rw [← HA.out] at p0 p1
  have hai : (a : Int) < n1 := by have := (List.getElem?_eq_some_iff.1 HV.out).1; have := HA.out; have := HN1.out; omega
  have HPO : Hid (¬ P p ∧ p < w.heap.size) := ⟨HTI.out.out, hpl⟩
  have HN2 := hid (NodeAt.keep (HU.out.stay HB2.out) hn)
  have HADL : Hid (ad.block < w1.heap.size) := ((hm.own (by simp)).lt ad.block (by rw [mem_ownFoot]; rfl)).2
  have HL12 : Hid (w2.heap.size = w1.heap.size + 1) := by show _ = _; rw [HW2.out]; simp
  clear hh hsd hn hw0 hw hm hb
  have t2 := HT2.out.c
  have q1 := t2.c1'
  have q2 := t2.f 1
  go_wp2
  rw [← HW2.out]
  have d0 : w2.cell? ⟨w1.heap.size, 0, none⟩ = some (.pointer (some ⟨gl, 0, none⟩)) := by rw [HW2.out]; exact cell_of_row _ _ 0 _ _ _ (heap_alloc_new w1 _)
  have d1 : w2.cell? ⟨w1.heap.size, 0 + 1, none⟩ = some (.int .i64 (a : Int)) := by rw [HW2.out]; exact cell_of_row _ _ 1 _ _ _ (heap_alloc_new w1 _)
  have JS : Hid (∀ W, Below w2.heap.size w2 W → W.cell? ⟨w1.heap.size, 0, none⟩ = some (.pointer (some ⟨gl, 0, none⟩)) ∧ W.cell? ⟨w1.heap.size, 0 + 1, none⟩ = some (.int .i64 (a : Int)) ∧ W.cell? ⟨gl, 0, none⟩ = some (.slice (some adp) n1 capp) ∧ W.cell? (adp.add (a * 2)) = some (.string (str k)) ∧ W.cell? { block := (adp.add (a * 2)).block, off := (adp.add (a * 2)).off + 1, spot := none } = some (.string (str v))) := fun W hb =>
    ⟨below_keep hb _ _ d0, below_keep hb _ _ d1, below_keep hb _ _ c0, below_keep hb _ _ p0, below_keep hb _ _ p1⟩
  go_region_held3 (fun W => W.cell? ⟨w1.heap.size, 0, none⟩ = some (.pointer (some ⟨gl, 0, none⟩)) ∧ W.cell? ⟨w1.heap.size, 0 + 1, none⟩ = some (.int .i64 (a : Int)) ∧ W.cell? ⟨gl, 0, none⟩ = some (.slice (some adp) n1 capp) ∧ W.cell? (adp.add (a * 2)) = some (.string (str k)) ∧ W.cell? { block := (adp.add (a * 2)).block, off := (adp.add (a * 2)).off + 1, spot := none } = some (.string (str v)))
    (first | assumption | exact JS.out _ (by repeat (with_reducible (first | assumption | exact Below.refl _ _ | refine below_drew1 ?_ | refine below_drewN_ ?_ | refine below_alloc' ?_ _)))) (fail)
  obtain ⟨w3, HW3⟩ : ∃ W, Hid (W = (w2.alloc (.cells #[.string (str k), .string (str v)] 164)).drew) := ⟨_, rfl⟩
  have HB23 : Hid (Below w2.heap.size w2 w3) := by rw [HW3.out]; exact below_drew1 (below_alloc' (Below.refl _ _) _)
  have HG3 : Hid (w3.cell? ⟨w2.heap.size, 0 + 1, none⟩ = some (.string (str v))) := by rw [HW3.out]; exact cell_of_row _ _ 1 _ _ _ (heap_alloc_new w2 (.cells #[.string (str k), .string (str v)] 164))
  have HL23 : Hid (w3.heap.size = w2.heap.size + 1) := by show _ = _; rw [HW3.out]; show (w2.alloc _).heap.size = _; simp
  have HB3 := hid (below_step HB2.out HB23.out)
  rw [← HW3.out]
  obtain ⟨e0, e1, e2, _, _⟩ := JS.out w3 HB23.out
  have e3 := below_keep HB23.out _ _ c1
  clear c0 c1 d0 d1 p0 p1 s0 s1 c2 q1 q2 t2
  have t3 := (HTI.out.below HB3.out).c
  have q1 := t3.c1'
  have q2 := t3.f 1
  have hnk0 : nk = 0 := by
    have h1 := HW.out.last
    rw [h0] at h1
    have h2 := HSD.out.1
    rw [h1.2] at h2
    exact HNK.out.trans h2
  subst hnk0
  have hwn : IntKind.i64.wrap ((l.length : Int) - 1) = ((delL l k).length : Int) := by have := HLEN.out; rw [wrap_ok (by omega) (by omega)]; omega
  go_wp2
  obtain ⟨w4, HW4⟩ : ∃ W, Hid (W = w3.setCell ⟨p, 1, none⟩ (.int .i64 ((delL l k).length : Int))) := ⟨_, rfl⟩
  rw [← HW4.out]
  have hfar : ∀ b, b ≠ p → w4.heap[b]? = w3.heap[b]? := fun b hb => by rw [HW4.out]; exact Below.heap_setCell w3 ⟨p, 1, none⟩ _ b hb
  have hs4 : w4.heap.size = w3.heap.size := by rw [HW4.out]; show (w3.heap.modify _ _).size = _; rw [Array.size_modify]
  have hgl : gl ≠ p := fun e => HPO.out.1 (e ▸ HHD.out.blk)
  have hPp : ∀ b, P b → b ≠ p := fun b hb e => HPO.out.1 (e ▸ hb)
  have hst : ∀ b, P b → w4.heap[b]? = w2.heap[b]? := fun b hb => (hfar b (hPp b hb)).trans (HB23.out.block b (Nat.lt_of_lt_of_le (HU.out b hb) HB2.out.size))
  have hw1p : w1.heap.size ≠ p := by have := HPO.out.2; have := HB1.out.size; omega
  have hw2p : w2.heap.size ≠ p := by have := HPO.out.2; have := HB2.out.size; omega
  have JS4 : Hid (∀ W, Below w4.heap.size w4 W → W.cell? ⟨w1.heap.size, 0, none⟩ = some (.pointer (some ⟨gl, 0, none⟩)) ∧ W.cell? ⟨w1.heap.size, 0 + 1, none⟩ = some (.int .i64 (a : Int)) ∧ W.cell? ⟨gl, 0, none⟩ = some (.slice (some adp) n1 capp) ∧ W.cell? ⟨w2.heap.size, 0 + 1, none⟩ = some (.string (str v))) := fun W hb =>
    ⟨below_keep hb _ _ ((World.cell?_of_block (a := ⟨w1.heap.size, 0, none⟩) (hfar _ hw1p)).trans e0), below_keep hb _ _ ((World.cell?_of_block (a := ⟨w1.heap.size, 0 + 1, none⟩) (hfar _ hw1p)).trans e1), below_keep hb _ _ ((World.cell?_of_block (a := ⟨gl, 0, none⟩) (hfar _ hgl)).trans e2), below_keep hb _ _ ((World.cell?_of_block (a := ⟨w2.heap.size, 0 + 1, none⟩) (hfar _ hw2p)).trans HG3.out)⟩
  have HTL : Hid _ := hid (del_tail (w := w) (w3 := w4) (P := P) (P3 := P) (p := p) (o := o) (g := g) (H := H) (m := m) (cw := cw) (a := a) (n1 := n1) (capp := capp) (ad := ad) (Ap := some adp) (ss0 := ss0) (last := (gl, a)) (path := init) (ps := tl.ps) (l' := delL l k)
    HU.out HPO.out.2 HPO.out.1 (by rw [HW4.out]; exact t3.count _) HTI.out.o2 HTI.out.o16 HDEEP.out (HU.out.later (by rw [hs4]; exact HB3.out.size)) HPO.out.1 (fun b hb => .inl hb) (by rw [HW4.out]; exact (Chg.of_below (F := [p]) HB3.out).setCell (p := ⟨p, 1, none⟩) (by simp) _) HM.out
    (HOWN.out.rows.keep fun b hb => (hfar b fun e => by have h1 := HOWN.out.lt b hb; have := HPO.out.2; omega).trans (HB23.out.block b (HOWN.out.lt b hb).2)) (HW0.out.keep hst) (pok_one HTI.out.lo HW.out.pok)
    (by have := HHD.out.pairs; rw [← HN1.out] at this; exact this.keep hst) (by have := HN1.out; omega) (by have := HW.out.last.len; have := HTI.out.o16; omega)
    (by
      have hle := HW.out.last.len
      have hsl := spl_len (l := tl.ps) (o := ([] : List Pr)) (a := a) (b := a + 1) (by omega) (by have := HN1.out; omega)
      simp at hsl
      exact (HW.out.leafs HTI.out.o2 HTI.out.lo h0 (ps := spl tl.ps a (a + 1) []) (by omega) (by omega)).2)
    (by
      have hle := HW.out.last.len
      have hsl := spl_len (l := tl.ps) (o := ([] : List Pr)) (a := a) (b := a + 1) (by omega) (by have := HN1.out; omega)
      simp at hsl
      rw [(HW.out.leafs HTI.out.o2 HTI.out.lo h0 (ps := spl tl.ps a (a + 1) []) (by omega) (by omega)).1]
      obtain ⟨X, Z, g1, g2, g3, g4⟩ := HW.out.split (by rw [HTI.out.fl]; exact HTI.out.rise) HV.out
      rw [h0] at g3 g4
      rw [← HTI.out.fl, g1, delL_found g2, g3, g4, ← HA.out]
      show _ = LLp H init ++ tl.ps.take a ++ (tl.ps.drop (a + 1) ++ RRp H init)
      unfold spl
      simp)
    (delL_rising HTI.out.rise k) (delL_byt HTI.out.byt k))
  have hlow : w1.heap.size < w4.heap.size ∧ gl < w4.heap.size ∧ w2.heap.size < w4.heap.size := by
    have := HHD.out.lt; have := HL12.out; have := HL23.out; refine ⟨?_, ?_, ?_⟩ <;> omega
  have HTC : Hid (∀ (W : World) (A3 : Option Addr) (n3 c3 : Nat), Below w4.heap.size w4 W → Lay (New P w4 W) 2 cP W (.slice A3 n3 c3) (spl tl.ps a (a + 1) []) →
      Calls Tryz.prog 112 #[.pointer (some ⟨p, 0, none⟩), .slice (some ad) (m + 1) cw, .pointer (some ⟨W.heap.size, 0, none⟩)] (W.alloc (.cells #[.slice A3 n3 c3, .slice none 0 0] 168)) fun e w5 => (∃ v, e = .returned v) ∧ Done P w w5 p o (delL l k) ∧
        (w5.cell? ⟨w1.heap.size, 0, none⟩ = some (.pointer (some ⟨gl, 0, none⟩)) ∧ w5.cell? ⟨w1.heap.size, 0 + 1, none⟩ = some (.int .i64 (a : Int)) ∧ w5.cell? ⟨gl, 0, none⟩ = some (.slice (some adp) n1 capp) ∧ w5.cell? ⟨w2.heap.size, 0 + 1, none⟩ = some (.string (str v)))) := fun W A3 n3 c3 hb hlp => by
    refine (HTL.out.2 W A3 n3 c3 hb hlp).mono ?_
    rintro e w5 ⟨hv, hd, hk⟩
    obtain ⟨j0, j1, j2, j3⟩ := JS4.out _ (Below.refl _ _)
    exact ⟨hv, hd, (World.cell?_of_block (a := ⟨w1.heap.size, 0, none⟩) (hk _ hlow.1 hw1p)).trans j0, (World.cell?_of_block (a := ⟨w1.heap.size, 0 + 1, none⟩) (hk _ hlow.1 hw1p)).trans j1, (World.cell?_of_block (a := ⟨gl, 0, none⟩) (hk _ hlow.2.1 hgl)).trans j2, (World.cell?_of_block (a := ⟨w2.heap.size, 0 + 1, none⟩) (hk _ hlow.2.2 hw2p)).trans j3⟩
  have HSP := hid HTL.out.1
  have haw : IntKind.i64.wrap ((a : Int) + 1) = (a : Int) + 1 := wrap_ok (by omega) (by have := HN1.out; have := HW.out.last.len; have := HTI.out.o16; omega)
  clear e0 e1 e2 e3 q1 q2 t3 HTL hfar hst hs4 hlow
  go_region_held3 (fun W => W.cell? ⟨w1.heap.size, 0, none⟩ = some (.pointer (some ⟨gl, 0, none⟩)) ∧ W.cell? ⟨w1.heap.size, 0 + 1, none⟩ = some (.int .i64 (a : Int)) ∧ W.cell? ⟨gl, 0, none⟩ = some (.slice (some adp) n1 capp) ∧ W.cell? ⟨w2.heap.size, 0 + 1, none⟩ = some (.string (str v)))
    (first | assumption | exact JS4.out _ (by repeat (with_reducible (first | assumption | exact Below.refl _ _ | refine below_drew1 ?_ | refine below_drewN_ ?_ | refine below_alloc' ?_ _))))
    (first
      | (go_at_call 112; (with_reducible refine (HTC.out _ A3 n3 c3 (by repeat (with_reducible (first | assumption | exact Below.refl _ _ | refine below_drew1 ?_ | refine below_drewN_ ?_ | refine below_alloc' ?_ _))) HL3.out).mono ?_); rintro e w5 ⟨⟨v5, rfl⟩, hdone, hS5⟩; have HDN := hid hdone; clear hdone)
      | (go_at_call 113; (with_reducible refine (HSP.out _ (by repeat (with_reducible (first | assumption | exact Below.refl _ _ | refine below_drew1 ?_ | refine below_drewN_ ?_ | refine below_alloc' ?_ _)))).mono ?_); rintro e wq ⟨u3, rfl, hb3, hl3⟩; obtain ⟨A3, n3, c3, rfl⟩ := hl3.1.form; have HL3 := hid hl3; clear hl3))
  go_wp2
  go_ret2
  exact ⟨rfl, HDN.out⟩
end Go.Proofs.YtlnagdodnkhbmaaGreat

namespace Go.Proofs.YtlnagdodnkhbmaaGreat
open Go.RowKit
set_option maxRecDepth 100000

set_option maxHeartbeats 8000000 in
theorem tree_del_inner (w : World) (p o : Nat) (l : List Pr) (P : Bl) (H g : Nat) (t : T) (k v : List Nat) (hT : TreeIn w p o l P H g t) (hl : l.length ≤ 5000) (hkb : Byt k) (hk : k.length ≤ 5000) (h64 : key64 k = true)
    (init : List (T × Nat)) (tl : T) (hq : WayOf o H (if H = 0 then 0 else 1) t k init tl) (hv : tl.ps[atN tl.ps k]? = some (k, v)) (h : Nat) (hh : H - init.length = h + 1) :
    Calls Tryz.prog 80 #[.pointer (some ⟨p, 0, none⟩), .string (str k)] w fun e w' => e = .returned (.tuple #[.string (str v), .int .i64 0]) ∧ Done P w w' p o (delL l k) := by
  have HTI := hid hT
  have HD := hid (fun (W : World) (hb : Below w.heap.size w W) => down_any W P H g t k (NodeAt.keep (hT.under.stay hb) hT.node) (hT.under.later hb.size) hT.good hT.full hkb (hT.deep hl))
  have HF : Hid (foundT H t k = true) := by show _ = _; rw [hq.found]; unfold getL; rw [hv]; simp
  have HQ := hid hq.path
  have HW := hid hq
  have HU := hid hT.under
  have HDEEP := hid (hT.deep hl)
  have HIL : Hid (init.length ≤ 5000) := by have := hq.pok.len; have := hT.deep hl; show _ ≤ _; omega
  have hpl := hT.c.lt
  have HV := hid hv
  have c2 := hT.c.c2'
  have HLEN : Hid (l.length = (delL l k).length + 1) := by
    have h1 := hq.get (by rw [hT.fl]; exact hT.rise) hv
    rw [hT.fl] at h1
    have h2 := (List.getElem?_eq_some_iff.1 (getL_some h1)).1
    show _ = _
    unfold delL
    simp
    omega
  clear hv hT hq
  go_enter Tryz.func80, Tryz.ntmps80
  go_wp2_with fail
  refine (check_any w p k (by omega)).mono ?_
  rw [show checkR k = 0 by unfold checkR; rw [h64]; rfl]
  rintro e w' ⟨rfl, rfl⟩
  go_wp2_with fail
  refine (HD.out w (Below.refl _ _)).mono ?_
  rw [HF.out]
  rintro e w1 ⟨vw, ss, rfl, hb, hm, hw⟩
  rw [HQ.out] at hw
  obtain ⟨ss0, gl, rfl, hw0, hn⟩ := way_last hw
  obtain ⟨Aw, nw, cw, rfl⟩ := hm.rows.form
  obtain ⟨ad, rfl, hnw, s0, s1⟩ := last_cells hm.rows
  have HB1 := hid hb
  obtain ⟨m, HM⟩ : ∃ m, Hid (m = ss0.length) := ⟨_, rfl⟩
  obtain ⟨a, HA⟩ : ∃ a, Hid (a = atN tl.ps k) := ⟨_, rfl⟩
  obtain ⟨n1, HN1⟩ : ∃ n, Hid (n = tl.ps.length) := ⟨_, rfl⟩
  rw [← HM.out] at s0 s1 hnw
  rw [← HA.out] at s1
  subst hnw
  have hm300 : m ≤ 5000 := by have := HM.out; have := hw0.len; have := HIL.out; omega
  have hmw : IntKind.i64.wrap ((m : Int) + 1 - 1) = m := by rw [wrap_ok (by omega) (by omega)]; omega
  have hmw2 : IntKind.i64.wrap (m : Int) = m := wrap_ok (by omega) (by omega)
  -- behind 'last'
  obtain ⟨w2, HW2⟩ : ∃ W, Hid (W = w1.alloc (.cells #[.pointer (some ⟨gl, 0, none⟩), .int .i64 (a : Int)] 162)) := ⟨_, rfl⟩
  have HB12 : Hid (Below w1.heap.size w1 w2) := by rw [HW2.out]; exact (Below.refl _ _).alloc (Nat.le_refl _) _
  have HB2 := hid (below_step HB1.out HB12.out)
  have HOWN : Hid (OwnElems 2 cS 162 w2 w.heap.size (.slice (some ad) (m + 1) cw) (ss0 ++ [(gl, a)])) := by
    rw [HA.out]
    have h1 := hm.own (by simp)
    exact h1.keep fun b hb => HB12.out.block b (h1.lt b hb).2
  have HW0 : Hid (WayAt P w2 H ss0 init) := hw0.keep (HU.out.stay HB2.out)
  have HT2 := hid (HTI.out.below HB2.out)
  obtain ⟨vp, vk, gs, hh, hsd⟩ := nodeAt_iff.1 (NodeAt.keep (HU.out.stay HB2.out) hn)
  obtain ⟨Ap, capp, rfl⟩ := hh.pairs.slice
  obtain ⟨Bk, capk, rfl⟩ := hh.kids.slice
  have c0 := hh.c0
  have c1 := hh.c1'
  obtain ⟨nk, HNK⟩ : ∃ n, Hid (n = gs.length) := ⟨_, rfl⟩
  have HHD := hid hh
  have HSD := hid hsd
  rw [← HN1.out] at c0
  rw [← HNK.out] at c1
  obtain ⟨adp, rfl, p0, p1⟩ := hh.pairs.pcell HV.out
  rw [← HA.out] at p0 p1
  have hai : (a : Int) < n1 := by have := (List.getElem?_eq_some_iff.1 HV.out).1; have := HA.out; have := HN1.out; omega
  have HPO : Hid (¬ P p ∧ p < w.heap.size) := ⟨HTI.out.out, hpl⟩
  have HN2 := hid (NodeAt.keep (HU.out.stay HB2.out) hn)
  have HADL : Hid (ad.block < w1.heap.size) := ((hm.own (by simp)).lt ad.block (by rw [mem_ownFoot]; rfl)).2
  have HL12 : Hid (w2.heap.size = w1.heap.size + 1) := by show _ = _; rw [HW2.out]; simp
  clear hh hsd hn hw0 hw hm hb
  have t2 := HT2.out.c
  have q1 := t2.c1'
  have q2 := t2.f 1
  go_wp2
  rw [← HW2.out]
  have d0 : w2.cell? ⟨w1.heap.size, 0, none⟩ = some (.pointer (some ⟨gl, 0, none⟩)) := by rw [HW2.out]; exact cell_of_row _ _ 0 _ _ _ (heap_alloc_new w1 _)
  have d1 : w2.cell? ⟨w1.heap.size, 0 + 1, none⟩ = some (.int .i64 (a : Int)) := by rw [HW2.out]; exact cell_of_row _ _ 1 _ _ _ (heap_alloc_new w1 _)
  have JS : Hid (∀ W, Below w2.heap.size w2 W → W.cell? ⟨w1.heap.size, 0, none⟩ = some (.pointer (some ⟨gl, 0, none⟩)) ∧ W.cell? ⟨w1.heap.size, 0 + 1, none⟩ = some (.int .i64 (a : Int)) ∧ W.cell? ⟨gl, 0, none⟩ = some (.slice (some adp) n1 capp) ∧ W.cell? (adp.add (a * 2)) = some (.string (str k)) ∧ W.cell? { block := (adp.add (a * 2)).block, off := (adp.add (a * 2)).off + 1, spot := none } = some (.string (str v))) := fun W hb =>
    ⟨below_keep hb _ _ d0, below_keep hb _ _ d1, below_keep hb _ _ c0, below_keep hb _ _ p0, below_keep hb _ _ p1⟩
  go_region_held3 (fun W => W.cell? ⟨w1.heap.size, 0, none⟩ = some (.pointer (some ⟨gl, 0, none⟩)) ∧ W.cell? ⟨w1.heap.size, 0 + 1, none⟩ = some (.int .i64 (a : Int)) ∧ W.cell? ⟨gl, 0, none⟩ = some (.slice (some adp) n1 capp) ∧ W.cell? (adp.add (a * 2)) = some (.string (str k)) ∧ W.cell? { block := (adp.add (a * 2)).block, off := (adp.add (a * 2)).off + 1, spot := none } = some (.string (str v)))
    (first | assumption | exact JS.out _ (by repeat (with_reducible (first | assumption | exact Below.refl _ _ | refine below_drew1 ?_ | refine below_drewN_ ?_ | refine below_alloc' ?_ _)))) (fail)
  obtain ⟨w3, HW3⟩ : ∃ W, Hid (W = (w2.alloc (.cells #[.string (str k), .string (str v)] 164)).drew) := ⟨_, rfl⟩
  have HB23 : Hid (Below w2.heap.size w2 w3) := by rw [HW3.out]; exact below_drew1 (below_alloc' (Below.refl _ _) _)
  have HG3 : Hid (w3.cell? ⟨w2.heap.size, 0 + 1, none⟩ = some (.string (str v))) := by rw [HW3.out]; exact cell_of_row _ _ 1 _ _ _ (heap_alloc_new w2 (.cells #[.string (str k), .string (str v)] 164))
  have HL23 : Hid (w3.heap.size = w2.heap.size + 1) := by show _ = _; rw [HW3.out]; show (w2.alloc _).heap.size = _; simp
  have HB3 := hid (below_step HB2.out HB23.out)
  rw [← HW3.out]
  obtain ⟨e0, e1, e2, _, _⟩ := JS.out w3 HB23.out
  have e3 := below_keep HB23.out _ _ c1
  clear c0 c1 d0 d1 p0 p1 s0 s1 c2 q1 q2 t2
  have t3 := (HTI.out.below HB3.out).c
  have q1 := t3.c1'
  have q2 := t3.f 1
  have hnkp : (0 : Int) < nk := by
    have h1 := HW.out.last
    rw [hh] at h1
    have h2 := HSD.out.1
    have h3 := h1.2.1
    have := HNK.out
    omega
  obtain ⟨c, binit, lf, pred, hL⟩ := lead_of HTI.out.o2 HTI.out.lo HW.out (by rw [HTI.out.fl]; exact HTI.out.rise) HV.out hh
  obtain ⟨m2, HM2⟩ : ∃ m2, Hid (m2 = lf.ps.length) := ⟨_, rfl⟩
  have hst3 : ∀ b, P b → w3.heap[b]? = w2.heap[b]? := fun b hb => HB23.out.block b (Nat.lt_of_lt_of_le (HU.out b hb) HB2.out.size)
  have hn3 : NodeAt P w3 (h + 1) gl tl := by have := NodeAt.keep hst3 HN2.out; rwa [hh] at this
  have hgc : GoodT h c := good_of hL.ok HTI.out.o16 (by have := HTI.out.o16; omega) (rising_sub (by rw [HTI.out.fl]; exact HTI.out.rise) hL.sub) (fun q hq => HTI.out.byt q (by rw [← HTI.out.fl]; exact hL.sub.subset hq))
  have HLEAD := hid (lead_any w3 P w.heap.size h m gl a m2 (some ad) cw ss0 tl c binit lf k (k, v) pred (HOWN.out.keep fun b hb => HB23.out.block b (HOWN.out.lt b hb).2) HM.out (fun b hb => HU.out b hb) HB3.out.size hn3 (by rw [HA.out]; exact hL.kid) hgc (Ok.full hL.ok) (by rw [HA.out]; exact HV.out)
    (by rw [HM2.out]; exact hL.path) HM2.out (by rw [HM2.out]; exact hL.last) (by rw [HM2.out]; exact hL.one) hL.low (by have := HDEEP.out; omega) hm300 hkb (by
      have h1 := HW.out.last
      rw [hh] at h1
      have h2 := h1.len
      have h3 := h1.2.1
      have h4 := HTI.out.o16
      have h5 := hL.most
      have h6 := HM2.out
      omega))
  have HLO := hid hL
  clear hL hst3 hn3 hgc
  go_wp2_with fail
  refine HLEAD.out.mono ?_
  rintro e wl ⟨v', ssb, glf, gn, rfl, ho, hwb, hnl, hbb, hcc, P', hnr, hP1, hP2, hP3, hP4⟩
  obtain ⟨a2, HA2⟩ : ∃ a2, Hid (a2 = m2 - 1) := ⟨_, rfl⟩
  rw [← HA2.out] at ho
  obtain ⟨gw, cw2, curw, ew, hgw, _⟩ := ho.block_ (by simp)
  subst ew
  obtain ⟨nl, HNL⟩ : ∃ nl : Nat, Hid (nl + 1 = (ss0 ++ [(gn, a)] ++ (ssb ++ [(glf, a2)])).length) := ⟨ss0.length + 1 + ssb.length, by show _ = _; simp; omega⟩
  rw [← HNL.out] at ho hcc hP2 hP4 ⊢
  have hnlen : nl = (ss0 ++ [(gn, a)]).length + ssb.length := by have := HNL.out; simp at this ⊢; omega
  have hnl700 : nl ≤ 12000 := by
    have h1 := hwb.deep
    have h2 := HM.out
    have h3 := HDEEP.out
    simp at hnlen
    omega
  have y0 := (ho.cell_ cS_len (i := nl) (j := 0) (a := (glf, a2)) (u := .pointer (some ⟨glf, 0, none⟩)) (by rw [hnlen]; exact get_end _ _ _) rfl).1
  rw [Nat.add_zero] at y0
  have y1 := (ho.cell_ cS_len (i := nl) (j := 1) (a := (glf, a2)) (u := .int .i64 (a2 : Int)) (by rw [hnlen]; exact get_end _ _ _) rfl).1
  have hnw : IntKind.i64.wrap ((nl : Int) + 1 - 1) = nl := by rw [wrap_ok (by omega) (by omega)]; omega
  have hnw2 : IntKind.i64.wrap (nl : Int) = nl := wrap_ok (by omega) (by omega)
  have HO := hid ho
  have HWB := hid hwb
  have HNLF := hid hnl
  have HCC := hid hcc
  have HNR := hid hnr
  have HP1 := hid hP1
  have HP2 := hid hP2
  have HP3 := hid hP3
  have HP4 := hid hP4
  have hkl : ∀ b, b < w3.heap.size → b ≠ ad.block → wl.heap[b]? = w3.heap[b]? := fun b h1 h2 => HCC.out.block b h1 fun h => h2 (by have := mem_ownFoot.1 h; injection this with this; exact this.symm)
  have hLB : w3.heap[w1.heap.size]? = some (.cells #[.pointer (some ⟨gl, 0, none⟩), .int .i64 (a : Int)] 162 (0, 0)) := by
    refine (HB23.out.block _ (by have := HL12.out; omega)).trans ?_
    rw [HW2.out]; exact heap_alloc_new w1 _
  have hLBl := (hkl w1.heap.size (by have := HL12.out; have := HL23.out; omega) (by have := HADL.out; omega)).trans hLB
  have z0 := cell_of_row _ _ 0 _ _ _ hLBl
  have z1 := cell_of_row _ _ 1 _ _ _ hLBl
  have zf : ∀ i, wl.frozen? ⟨w1.heap.size, i, none⟩ = false := fun i => by simp [World.frozen?, hLBl]
  have zf0 := zf 0
  have zf1 := zf 1
  clear ho hwb hnl hbb hcc hnr hP1 hP2 hP3 hP4
  have HNLEN := hid hnlen
  clear hnlen e0 e1 e2 e3 q1 q2 t3
  have hwn : IntKind.i64.wrap ((l.length : Int) - 1) = ((delL l k).length : Int) := by have := HLEN.out; rw [wrap_ok (by omega) (by omega)]; omega
  have hpad : p ≠ ad.block := fun e => by have h1 := (HOWN.out.lt ad.block (by rw [mem_ownFoot]; rfl)).1; have := HPO.out.2; omega
  have hpw1 : p ≠ w1.heap.size := by have := HPO.out.2; have := HB1.out.size; omega
  have HTL3 : Hid (TreeC w3 p o l.length g) := (HTI.out.below HB3.out).c
  have htl : TreeC wl p o l.length g := HTL3.out.keep (hkl p HTL3.out.lt hpad)
  obtain ⟨wm, HWM⟩ : ∃ W, Hid (W = (wl.setCell ⟨w1.heap.size, 0, none⟩ (.pointer (some ⟨glf, 0, none⟩))).setCell ⟨w1.heap.size, 1, none⟩ (.int .i64 (a2 : Int))) := ⟨_, rfl⟩
  have hfm : ∀ b, b ≠ w1.heap.size → wm.heap[b]? = wl.heap[b]? := fun b hb => by rw [HWM.out]; exact (Below.heap_setCell _ ⟨w1.heap.size, 1, none⟩ _ b hb).trans (Below.heap_setCell _ ⟨w1.heap.size, 0, none⟩ _ b hb)
  have hLBm : wm.heap[w1.heap.size]? = some (.cells #[.pointer (some ⟨glf, 0, none⟩), .int .i64 (a2 : Int)] 162 (0, 0)) := by rw [HWM.out]; simp [World.setCell, Array.getElem?_modify, hLBl]
  have htm : TreeC wm p o l.length g := htl.keep (hfm p hpw1)
  have q1 := htm.c1'
  have q2 := htm.f 1
  rw [HWM.out] at q1 q2
  go_wp2
  rw [← HWM.out]
  have hsm : wm.heap.size = wl.heap.size := by rw [HWM.out]; simp [World.setCell]
  clear q1 q2
  obtain ⟨w4, HW4⟩ : ∃ W, Hid (W = wm.setCell ⟨p, 1, none⟩ (.int .i64 ((delL l k).length : Int))) := ⟨_, rfl⟩
  rw [← HW4.out]
  have hfar : ∀ b, b ≠ p → w4.heap[b]? = wm.heap[b]? := fun b hb => by rw [HW4.out]; exact Below.heap_setCell wm ⟨p, 1, none⟩ _ b hb
  have hs4 : w4.heap.size = wl.heap.size := by rw [HW4.out]; show (wm.heap.modify _ _).size = _; rw [Array.size_modify]; exact hsm
  have hf4 : ∀ b, b ≠ p → b ≠ w1.heap.size → w4.heap[b]? = wl.heap[b]? := fun b h1 h2 => (hfar b h1).trans (hfm b h2)
  have hw1p : w1.heap.size ≠ p := fun e => hpw1 e.symm
  have hw2p : w2.heap.size ≠ p := by have := HPO.out.2; have := HB2.out.size; omega
  have hPp : ∀ b, P' b → b ≠ p ∧ b ≠ w1.heap.size := fun b hb => by
    have h1 := HPO.out.2
    have h2 := HB3.out.size
    have h3 := HB1.out.size
    have h4 := HL12.out
    have h5 := HL23.out
    rcases HP1.out b hb with h | h
    · have h6 := HU.out b h
      exact ⟨fun e => HPO.out.1 (e ▸ h), by omega⟩
    · exact ⟨by omega, by omega⟩
  have hst : ∀ b, P' b → w4.heap[b]? = wl.heap[b]? := fun b hb => hf4 b (hPp b hb).1 (hPp b hb).2
  have hstP : ∀ b, P b → wl.heap[b]? = w2.heap[b]? := fun b hb => by
    have h1 := HU.out b hb
    have h2 := HB2.out.size
    have h3 := HL23.out
    have h4 := (HOWN.out.lt ad.block (by rw [mem_ownFoot]; rfl)).1
    exact (hkl b (by omega) (by omega)).trans (HB23.out.block b (by omega))
  have hgw2 : gw = ad.block ∨ w3.heap.size ≤ gw := (HCC.out.foot gw (mem_ownFoot.2 rfl)).imp (fun h => by have := mem_ownFoot.1 h; injection this with this; exact this.symm) id
  have hgwp : gw ≠ p ∧ gw ≠ w1.heap.size := by
    have h1 := (HOWN.out.lt ad.block (by rw [mem_ownFoot]; rfl)).1
    have h2 := HADL.out
    have h3 := HPO.out.2
    have h4 := HL12.out
    have h5 := HL23.out
    have h6 := HB3.out.size
    omega
  obtain ⟨vpl, vkl, gsl, hhl, _⟩ := HNLF.out
  obtain ⟨Al, capl, rfl⟩ := hhl.pairs.slice
  obtain ⟨adl, rfl, _, _⟩ := hhl.pairs.pcell HLO.out.last
  have l0 := hhl.c0
  rw [← HM2.out] at l0
  have hglf := hPp glf (HP3.out glf hhl.blk)
  have hw2l : wl.heap[w2.heap.size]? = w3.heap[w2.heap.size]? := hkl _ (by have := HL23.out; omega) (by have := HADL.out; have := HL12.out; omega)
  have hw2w1 : w2.heap.size ≠ w1.heap.size := by have := HL12.out; omega
  have JS4 : Hid (∀ W, Below w4.heap.size w4 W → W.cell? ⟨w1.heap.size, 0, none⟩ = some (.pointer (some ⟨glf, 0, none⟩)) ∧ W.cell? ⟨w1.heap.size, 0 + 1, none⟩ = some (.int .i64 (a2 : Int)) ∧ W.cell? ⟨glf, 0, none⟩ = some (.slice (some adl) m2 capl) ∧ W.cell? ⟨w2.heap.size, 0 + 1, none⟩ = some (.string (str v))) := fun W hb =>
    ⟨below_keep hb _ _ (cell_of_row _ _ 0 _ _ _ ((hfar _ hw1p).trans hLBm)), below_keep hb _ _ (cell_of_row _ _ 1 _ _ _ ((hfar _ hw1p).trans hLBm)), below_keep hb _ _ ((World.cell?_of_block (a := ⟨glf, 0, none⟩) (hf4 _ hglf.1 hglf.2)).trans l0), below_keep hb _ _ ((World.cell?_of_block (a := ⟨w2.heap.size, 0 + 1, none⟩) ((hf4 _ hw2p hw2w1).trans hw2l)).trans HG3.out)⟩
  have k1 := HLO.out.pok
  have k2 := HLO.out.kok
  have k3 := HLO.out.fl
  have hone := HLO.out.one
  have hmost := HLO.out.most
  have e1 : spl lf.ps (lf.ps.length - 1) lf.ps.length [] = spl lf.ps a2 (a2 + 1) [] := by rw [HA2.out, HM2.out, Nat.sub_add_cancel hone]
  rw [← HA.out] at k1 k2 k3
  rw [e1] at k2 k3
  rw [HTI.out.fl] at k3
  have hwy : WayAt P' w4 H ((ss0 ++ [(gn, a)]) ++ ssb) (init ++ ((repT tl a pred, a) :: binit)) := by
    have h0 : WayAt P' wl H ss0 init := (HW0.out.keep hstP).mono HP3.out
    have hl0 := h0.len
    have h1 := h0.snoc (a := a) (g := gn) (t := repT tl a pred) (by omega) (by rw [hl0, hh]; exact HNR.out)
    have h2 := h1.app (ss' := ssb) (path' := binit) (by simp; omega) (by rw [show H - (init ++ [(repT tl a pred, a)]).length = h by simp; omega]; exact HWB.out.mono HP3.out)
    have h3 := h2.keep hst
    rw [show (init ++ [(repT tl a pred, a)]) ++ binit = init ++ ((repT tl a pred, a) :: binit) by simp] at h3
    exact h3
  have HTL : Hid _ := hid (del_tail (w := w) (w3 := w4) (P := P) (P3 := P') (p := p) (o := o) (g := g) (H := H) (m := nl) (cw := cw2) (a := a2) (n1 := m2) (capp := capl) (ad := ⟨gw, 0, none⟩) (Ap := some adl) (ss0 := (ss0 ++ [(gn, a)]) ++ ssb) (last := (glf, a2)) (path := init ++ ((repT tl a pred, a) :: binit)) (ps := lf.ps) (l' := delL l k)
    HU.out HPO.out.2 HPO.out.1 (by rw [HW4.out]; exact htm.count _) HTI.out.o2 HTI.out.o16 HDEEP.out
    (fun b hb => by
      rw [hs4]
      rcases HP1.out b hb with h | h
      · have := HU.out b h; have := HB3.out.size; have := HCC.out.size; omega
      · exact h.2)
    (fun h => (hPp p h).1 rfl)
    (fun b hb => by
      rcases HP1.out b hb with h | h
      · exact .inl h
      · exact .inr ⟨by have := HB3.out.size; omega, by rw [hs4]; exact h.2⟩)
    (by
      refine ⟨?_, ?_, ?_, ?_, fun b h1 h2 => ?_, fun b h => .inl h⟩
      · rw [HW4.out, HWM.out]; exact HCC.out.os.trans HB3.out.os
      · rw [HW4.out, HWM.out]; exact HCC.out.tape.trans HB3.out.tape
      · rw [HW4.out, HWM.out]; exact HCC.out.output.trans HB3.out.output
      · rw [hs4]; exact Nat.le_trans HB3.out.size HCC.out.size
      · have h3 := HB1.out.size
        have h4 := (HOWN.out.lt ad.block (by rw [mem_ownFoot]; rfl)).1
        have h5 := HB3.out.size
        exact (hf4 b (by simpa using h2) (by omega)).trans ((hkl b (by omega) (by omega)).trans (HB3.out.block b h1)))
    (by rw [HNLEN.out]; simp; omega)
    (by
      have := HO.out.rows.keep (w' := w4) fun b hb => hf4 b (by have := mem_ownFoot.1 hb; injection this with this; rw [← this]; exact hgwp.1) (by have := mem_ownFoot.1 hb; injection this with this; rw [← this]; exact hgwp.2)
      rwa [← List.append_assoc] at this)
    hwy k1
    (by have := hhl.pairs; rw [← HM2.out] at this; exact (this.mono HP3.out).keep hst) (by have := HA2.out; have := HM2.out; omega) (by have := HTI.out.o16; omega)
    k2 k3 (delL_rising HTI.out.rise k) (delL_byt HTI.out.byt k))
  clear hf4 hPp hstP hgw2 hw2l k1 k2 k3 e1 hwy l0 hhl htl htm hLBm hfm hLBl hLB z0 z1 zf zf0 zf1 y0 y1 hkl hgwp hsm
  have hlow : w1.heap.size < w4.heap.size ∧ glf < w4.heap.size ∧ w2.heap.size < w4.heap.size := by
    have h1 := (HNLF.out); obtain ⟨_, _, _, hx, _⟩ := h1; have := hx.lt; have := HL12.out; have := HL23.out; have := HCC.out.size; refine ⟨?_, ?_, ?_⟩ <;> omega
  have HTC : Hid (∀ (W : World) (A3 : Option Addr) (n3 c3 : Nat), Below w4.heap.size w4 W → Lay (New P' w4 W) 2 cP W (.slice A3 n3 c3) (spl lf.ps a2 (a2 + 1) []) →
      Calls Tryz.prog 112 #[.pointer (some ⟨p, 0, none⟩), .slice (some ⟨gw, 0, none⟩) (nl + 1) cw2, .pointer (some ⟨W.heap.size, 0, none⟩)] (W.alloc (.cells #[.slice A3 n3 c3, .slice none 0 0] 168)) fun e w5 => (∃ v, e = .returned v) ∧ Done P w w5 p o (delL l k) ∧
        (w5.cell? ⟨w1.heap.size, 0, none⟩ = some (.pointer (some ⟨glf, 0, none⟩)) ∧ w5.cell? ⟨w1.heap.size, 0 + 1, none⟩ = some (.int .i64 (a2 : Int)) ∧ w5.cell? ⟨glf, 0, none⟩ = some (.slice (some adl) m2 capl) ∧ w5.cell? ⟨w2.heap.size, 0 + 1, none⟩ = some (.string (str v)))) := fun W A3 n3 c3 hb hlp => by
    refine (HTL.out.2 W A3 n3 c3 hb hlp).mono ?_
    rintro e w5 ⟨hv, hd, hk⟩
    obtain ⟨j0, j1, j2, j3⟩ := JS4.out _ (Below.refl _ _)
    exact ⟨hv, hd, (World.cell?_of_block (a := ⟨w1.heap.size, 0, none⟩) (hk _ hlow.1 hw1p)).trans j0, (World.cell?_of_block (a := ⟨w1.heap.size, 0 + 1, none⟩) (hk _ hlow.1 hw1p)).trans j1, (World.cell?_of_block (a := ⟨glf, 0, none⟩) (hk _ hlow.2.1 hglf.1)).trans j2, (World.cell?_of_block (a := ⟨w2.heap.size, 0 + 1, none⟩) (hk _ hlow.2.2 hw2p)).trans j3⟩
  have HSP := hid HTL.out.1
  have haw : IntKind.i64.wrap ((a2 : Int) + 1) = (a2 : Int) + 1 := wrap_ok (by omega) (by have := HA2.out; have := HM2.out; have := HTI.out.o16; omega)
  clear HTL hfar hst hs4 hlow
  go_region_held3 (fun W => W.cell? ⟨w1.heap.size, 0, none⟩ = some (.pointer (some ⟨glf, 0, none⟩)) ∧ W.cell? ⟨w1.heap.size, 0 + 1, none⟩ = some (.int .i64 (a2 : Int)) ∧ W.cell? ⟨glf, 0, none⟩ = some (.slice (some adl) m2 capl) ∧ W.cell? ⟨w2.heap.size, 0 + 1, none⟩ = some (.string (str v)))
    (first | assumption | exact JS4.out _ (by repeat (with_reducible (first | assumption | exact Below.refl _ _ | refine below_drew1 ?_ | refine below_drewN_ ?_ | refine below_alloc' ?_ _))))
    (first
      | (go_at_call 112; (with_reducible refine (HTC.out _ A3 n3 c3 (by repeat (with_reducible (first | assumption | exact Below.refl _ _ | refine below_drew1 ?_ | refine below_drewN_ ?_ | refine below_alloc' ?_ _))) HL3.out).mono ?_); rintro e w5 ⟨⟨v5, rfl⟩, hdone, hS5⟩; have HDN := hid hdone; clear hdone)
      | (go_at_call 113; (with_reducible refine (HSP.out _ (by repeat (with_reducible (first | assumption | exact Below.refl _ _ | refine below_drew1 ?_ | refine below_drewN_ ?_ | refine below_alloc' ?_ _)))).mono ?_); rintro e wq ⟨u3, rfl, hb3, hl3⟩; obtain ⟨A3, n3, c3, rfl⟩ := hl3.1.form; have HL3 := hid hl3; clear hl3))
  go_wp2
  go_ret2
  exact ⟨rfl, HDN.out⟩
end Go.Proofs.YtlnagdodnkhbmaaGreat

namespace Go.Proofs.YtlnagdodnkhbmaaGreat
open Go.RowKit
set_option maxRecDepth 100000

theorem tree_len (w : World) (p o : Nat) (l : List Pr) (P : Bl) (H g : Nat) (t : T) (hT : TreeIn w p o l P H g t) : Calls Tryz.prog 53 #[.pointer (some ⟨p, 0, none⟩)] w fun e w' => e = .returned (.int .i64 (l.length : Int)) ∧ w' = w := by
  have c1 := hT.c.c1'
  clear hT
  go_enter Tryz.func53, Tryz.ntmps53
  go_wp2
  go_ret
  exact ⟨rfl, rfl⟩
theorem tree_new_bad (w : World) (o : Int) (ho : o < 2 ∨ 16 < o) : Calls Tryz.prog 70 #[.int .i64 o] w fun e w' => e = .returned (.tuple #[.pointer none, .int .i64 23]) ∧ w' = w := by
  by_cases h : o < 2
  · clear ho
    go_enter Tryz.func70, Tryz.ntmps70
    go_wp2
    go_ret2
    exact ⟨rfl, rfl⟩
  · have h2 : 16 < o := ho.resolve_left h
    clear ho
    go_enter Tryz.func70, Tryz.ntmps70
    go_wp2
    go_ret2
    exact ⟨rfl, rfl⟩
theorem tree_new (w : World) (o : Nat) (h2 : 2 ≤ o) (h16 : o ≤ 16) : Calls Tryz.prog 70 #[.int .i64 (o : Int)] w fun e w' => e = .returned (.tuple #[.pointer (some ⟨w.heap.size + 1, 0, none⟩), .int .i64 0]) ∧ Below w.heap.size w w' ∧ w'.heap.size = w.heap.size + 2 ∧ TreeIn w' (w.heap.size + 1) o [] (fun b => b = w.heap.size) 0 w.heap.size (.nd [] []) := by
  have g2 : ¬ (o : Int) < 2 := by omega
  have g16 : ¬ (16 : Int) < o := by omega
  go_enter Tryz.func70, Tryz.ntmps70
  go_wp2
  go_ret2
  refine ⟨by simp, ((Below.refl _ w).alloc (Nat.le_refl _) _).alloc (by simp) _, by simp, ?_⟩
  have hc := heap_alloc_new (w.alloc (.cells #[.slice none 0 0, .slice none 0 0] 168)) (.cells #[.int .i64 (o : Int), .int .i64 0, .pointer (some ⟨w.heap.size, 0, none⟩)] 157)
  rw [World.size_alloc] at hc
  have hn := hp_old (o := .cells #[.int .i64 (o : Int), .int .i64 0, .pointer (some ⟨w.heap.size, 0, none⟩)] 157) (heap_alloc_new w (.cells #[.slice none 0 0, .slice none 0 0] 168))
  refine ⟨hc, ⟨.slice none 0 0, .slice none 0 0, [], ⟨hn, rfl, Lay.nil _ _ _ _, Lay.nil _ _ _ _⟩, Side.nil _⟩, fun b hb => by subst hb; simp; omega, fun hb => by simp at hb, ⟨⟨Nat.le_refl _, by show 0 ≤ _; omega⟩, rfl⟩, rfl, List.Pairwise.nil, fun q hq => by simp at hq, h2, h16⟩
end Go.Proofs.YtlnagdodnkhbmaaGreat

/- How many keys each node has, level by level. -/
namespace Go.Proofs.YtlnagdodnkhbmaaGreat
open Go.RowKit
set_option maxRecDepth 100000

def lev : Nat → List T → List (List Nat)
  | 0, _ => []
  | n + 1, ts => ts.map (fun t => t.ps.length) :: lev n (ts.flatMap T.ks)
def fsum (n : Nat) (ts : List T) : Nat := (ts.map fun t => (flat n t).length).sum
theorem lev_len : ∀ (n : Nat) (ts : List T), (lev n ts).length = n
  | 0, _ => rfl
  | n + 1, ts => by show (lev n _).length + 1 = n + 1; rw [lev_len n]
theorem inter_len : ∀ (ps : List Pr) (ks : List (List Pr)), ks.length = ps.length + 1 → (inter ps ks).length = ps.length + (ks.map List.length).sum
  | [], [k], _ => by simp [inter]
  | [], [], h => by simp at h
  | [], _ :: _ :: _, h => by simp at h
  | _ :: _, [], h => by simp at h
  | p :: ps, k :: ks, h => by
    show (k ++ p :: inter ps ks).length = _
    rw [List.length_append, List.length_cons, inter_len ps ks (by simpa using h)]
    simp; omega
theorem fsum_cons (n : Nat) (t : T) (ts : List T) : fsum n (t :: ts) = (flat n t).length + fsum n ts := by unfold fsum; simp
theorem fsum_app (n : Nat) : ∀ (xs ys : List T), fsum n (xs ++ ys) = fsum n xs + fsum n ys
  | [], ys => by simp [fsum]
  | a :: xs, ys => by rw [List.cons_append, fsum_cons, fsum_cons, fsum_app n xs ys]; omega
theorem flat_len {n : Nat} {t : T} (hf : Full (n + 1) t) : (flat (n + 1) t).length = t.ps.length + fsum n t.ks := by
  show (inter t.ps (t.ks.map (flat n))).length = _
  rw [inter_len _ _ (by rw [List.length_map]; exact hf.1)]
  unfold fsum
  rw [List.map_map]
  rfl
theorem fsum_step {n : Nat} : ∀ {ts : List T}, (∀ t ∈ ts, Full (n + 1) t) → fsum (n + 1) ts = (ts.map fun t => t.ps.length).sum + fsum n (ts.flatMap T.ks)
  | [], _ => by simp [fsum]
  | t :: ts, h => by
    rw [fsum_cons, flat_len (h t List.mem_cons_self), fsum_step fun t ht => h t (List.mem_cons_of_mem _ ht), List.flatMap_cons, fsum_app]
    simp; omega
theorem full_kids {n : Nat} {ts : List T} (h : ∀ t ∈ ts, Full (n + 1) t) : ∀ t ∈ ts.flatMap T.ks, Full n t := fun t ht => by
  obtain ⟨u, hu, hk⟩ := List.mem_flatMap.1 ht
  exact (h u hu).2 t hk
theorem kids_len {n : Nat} : ∀ {ts : List T}, (∀ t ∈ ts, Full (n + 1) t) → (ts.flatMap T.ks).length = (ts.map fun t => t.ps.length).sum + ts.length
  | [], _ => rfl
  | t :: ts, h => by
    rw [List.flatMap_cons, List.length_append, kids_len fun t ht => h t (List.mem_cons_of_mem _ ht), (h t List.mem_cons_self).1]
    simp; omega
theorem leaf_kids {ts : List T} (h : ∀ t ∈ ts, Full 0 t) : ts.flatMap T.ks = [] := by
  rw [List.flatMap_eq_nil_iff]
  exact h
theorem lev_sum : ∀ {n : Nat} {ts : List T}, (∀ t ∈ ts, Full n t) → ((lev (n + 1) ts).map List.sum).sum = fsum n ts
  | 0, ts, h => by
    show ([(ts.map fun t => t.ps.length).sum] : List Nat).sum = _
    unfold fsum
    simp
    rfl
  | n + 1, ts, h => by
    show (ts.map fun t => t.ps.length).sum + ((lev (n + 1) (ts.flatMap T.ks)).map List.sum).sum = _
    rw [lev_sum (full_kids h), fsum_step h]
theorem lev_next : ∀ {n : Nat} {ts : List T}, (∀ t ∈ ts, Full n t) → ∀ (i : Nat) (xs ys : List Nat), (lev (n + 1) ts)[i]? = some xs → (lev (n + 1) ts)[i + 1]? = some ys → ys.length = xs.sum + xs.length
  | 0, ts, _, i, xs, ys, _, h2 => by
    have := (List.getElem?_eq_some_iff.1 h2).1
    rw [lev_len] at this
    omega
  | n + 1, ts, h, 0, xs, ys, h1, h2 => by
    have e1 : ts.map (fun t => t.ps.length) = xs := by simpa [lev] using h1
    have e2 : (ts.flatMap T.ks).map (fun t => t.ps.length) = ys := by simpa [lev] using h2
    rw [← e1, ← e2, List.length_map, List.length_map, kids_len h]
  | n + 1, ts, h, i + 1, xs, ys, h1, h2 => by
    have h1 : (lev (n + 1) (ts.flatMap T.ks))[i]? = some xs := h1
    have h2 : (lev (n + 1) (ts.flatMap T.ks))[i + 1]? = some ys := h2
    exact lev_next (full_kids h) i xs ys h1 h2
theorem ok_kids {o n : Nat} {ts : List T} (h : ∀ t ∈ ts, ∃ lo, Ok o (n + 1) lo (2 * o - 1) t) : ∀ t ∈ ts.flatMap T.ks, Ok o n (o - 1) (2 * o - 1) t := fun t ht => by
  obtain ⟨u, hu, hk⟩ := List.mem_flatMap.1 ht
  obtain ⟨lo, ho⟩ := h u hu
  exact ho.2.2 t hk
theorem lev_mem {o : Nat} : ∀ {n : Nat} {ts : List T}, (∀ t ∈ ts, Ok o n (o - 1) (2 * o - 1) t) → ∀ xs ∈ lev (n + 1) ts, ∀ x ∈ xs, o - 1 ≤ x ∧ x ≤ 2 * o - 1
  | n, ts, h, xs, hx, x, hm => by
    have h0 : ∀ x ∈ ts.map (fun t => t.ps.length), o - 1 ≤ x ∧ x ≤ 2 * o - 1 := fun x hx => by
      obtain ⟨t, ht, rfl⟩ := List.mem_map.1 hx
      exact (h t ht).len
    cases n with
    | zero =>
      have e : xs = ts.map fun t => t.ps.length := by simpa [lev] using hx
      rw [e] at hm
      exact h0 x hm
    | succ n =>
      rcases List.mem_cons.1 (show xs ∈ ts.map (fun t => t.ps.length) :: lev (n + 1) (ts.flatMap T.ks) from hx) with e | hx
      · rw [e] at hm; exact h0 x hm
      · exact lev_mem (ok_kids fun t ht => ⟨_, h t ht⟩) xs hx x hm
theorem shape_of {o H : Nat} {t : T} {l : List Pr} (ho : 2 ≤ o) (hk : RootOk o (H, t)) (hf : flat H t = l) : ShapeOk (lev (H + 1) [t]) o l.length := by
  have hk' : Ok o H (if H = 0 then 0 else 1) (2 * o - 1) t := hk
  have hfull : ∀ u ∈ [t], Full H u := fun u hu => by simp at hu; subst hu; exact hk'.full
  refine ⟨⟨t.ps.length, by simp [lev]⟩, fun xs hx n hn => ?_, fun i xs hi hx n hn => ?_, lev_next hfull, ?_, fun h0 => ?_⟩
  · have e : xs = [t.ps.length] := by simpa [lev] using hx.symm
    rw [e] at hn
    simp at hn
    subst hn
    refine ⟨?_, hk'.len.2⟩
    have hl := hk'.len.1
    by_cases h0 : H = 0
    · subst h0
      have : l.length = t.ps.length := by rw [← hf]; rfl
      omega
    · rw [if_neg h0] at hl; omega
  · cases i with
    | zero => omega
    | succ i =>
      have hx : (lev H ([t].flatMap T.ks))[i]? = some xs := hx
      cases H with
      | zero => simp [lev] at hx
      | succ H => exact lev_mem (ok_kids (n := H) (ts := [t]) fun u hu => by simp at hu; subst hu; exact ⟨_, hk'⟩) xs (List.mem_of_getElem? hx) n hn
  · rw [lev_sum hfull]
    unfold fsum
    simp [hf]
  · rw [lev_len]
    by_cases h1 : H = 0
    · omega
    · rw [if_neg h1] at hk'
      have := deep_le ho (Nat.le_refl 1) hk'
      rw [hf] at this
      omega
/-- How wide a level is. -/
theorem kids_few {o n N : Nat} (ho : 2 ≤ o) {ts : List T} (h : ∀ t ∈ ts, ∃ lo, Ok o (n + 1) lo (2 * o - 1) t) (hs : fsum (n + 1) ts ≤ N) : fsum n (ts.flatMap T.ks) ≤ N ∧ (ts.flatMap T.ks).length ≤ N := by
  have hf : ∀ t ∈ ts, Full (n + 1) t := fun t ht => (h t ht).elim fun _ h => Ok.full h
  have h1 := fsum_step hf
  refine ⟨by omega, ?_⟩
  have : ∀ us : List T, (∀ t ∈ us, Ok o n (o - 1) (2 * o - 1) t) → us.length ≤ fsum n us := fun us => by
    induction us with
    | nil => intro _; exact Nat.zero_le _
    | cons u us ih =>
      intro hu
      have h2 := ih fun t ht => hu t (List.mem_cons_of_mem _ ht)
      have h3 := deep_le ho (by omega) (hu u List.mem_cons_self)
      rw [fsum_cons]; simp; omega
  have := this _ (ok_kids h)
  omega
end Go.Proofs.YtlnagdodnkhbmaaGreat

/- Shape. -/
namespace Go.Proofs.YtlnagdodnkhbmaaGreat
open Go.RowKit
set_option maxRecDepth 100000

theorem info_int : (Tryz.prog.info? 3).map (fun i => (i.zero, i.size, i.bytes)) = some (some (.int .i64 0), 1, 8) := by kernel_rfl
theorem info_ints : (Tryz.prog.info? 193).map (fun i => (i.zero, i.size, i.bytes)) = some (some (.slice none 0 0), 1, 24) := by kernel_rfl
theorem und_ints : Tryz.prog.underlying 193 = some (.slice 3) := by kernel_rfl
def cI (n : Nat) : List Value := [.int .i64 (n : Int)]
theorem cI_len (n : Nat) : (cI n).length = 1 := rfl
theorem cI_one (n : Nat) : ∀ y ∈ cI n, y.oneCell' = true := by
  intro y hy
  simp [cI] at hy
  subst hy; rfl
def cW (x : Option Addr × Nat × Nat) : List Value := [.slice x.1 x.2.1 x.2.2]
theorem cW_len (x : Option Addr × Nat × Nat) : (cW x).length = 1 := rfl
theorem cW_one (x : Option Addr × Nat × Nat) : ∀ y ∈ cW x, y.oneCell' = true := by
  intro y hy
  simp [cW] at hy
  subst hy; rfl
section
variable {α β : Type} {c : α → List Value} {c' : β → List Value} {sz sz' : Nat} {e e' : TypeId} {w w' : World} {base base' : Nat} {v v' : Value} {l : List α} {l' : List β}
theorem OwnElems.apart (h : OwnElems sz c e w base v l) (h' : OwnElems sz' c' e' w base' v' l') (hne : e ≠ e') : ∀ b ∈ ownFoot v, b ∉ ownFoot v' := by
  intro b hb
  rcases h.2 with ⟨rfl, _⟩ | ⟨g, cap, cur, rfl, _, hh, _⟩
  · simp [ownFoot, Value.ownBlock] at hb
  · simp [ownFoot, Value.ownBlock] at hb
    subst hb
    exact own_row_ne h' hh (Ne.symm hne)
theorem OwnElems.grown (h : OwnElems sz c e w base v l) (hg : w.grownBy w' v'.ownBlock) (hap : ∀ b ∈ ownFoot v', b ∉ ownFoot v) : OwnElems sz c e w' base v l :=
  h.keep fun b hb => hg.block b (h.lt b hb).2 fun he => hap b (mem_ownFoot.2 he.symm) hb
theorem OwnElems.down_ (h : OwnElems sz c e w base v l) (hb : base' ≤ base) : OwnElems sz c e w base' v l := by
  refine ⟨h.1, ?_⟩
  rcases h.2 with hn | ⟨g, cap, cur, h1, h2, r⟩
  · exact .inl hn
  · exact .inr ⟨g, cap, cur, h1, Nat.le_trans hb h2, r⟩
end
theorem elems_sl {w : World} {v : Value} {xs : List Nat} (h : Elems 1 cI w v xs) : Sl .i64 w v xs := by
  obtain ⟨hl, A, cp, rfl, hc, hm, hn, hcell⟩ := h
  exact ⟨A, cp, rfl, hc, hm, hn, fun i b hi => hcell i _ (by have := cellsBy_at (j := 0) cI_len hi (by omega); rw [Nat.mul_one, Nat.add_zero] at this; rw [this]; rfl)⟩
/-- The rows of the levels that are done. -/
def Inn (w : World) (B : Nat) (shs : List (Option Addr × Nat × Nat)) (dn : List (List Nat)) : Prop :=
  shs.length = dn.length ∧ ∀ (i : Nat) (x : Option Addr × Nat × Nat) (xs : List Nat), shs[i]? = some x → dn[i]? = some xs → OwnElems 1 cI 3 w B (.slice x.1 x.2.1 x.2.2) xs
theorem Inn.shp {w : World} {B : Nat} {v : Value} {shs : List (Option Addr × Nat × Nat)} {dn : List (List Nat)} (h : Inn w B shs dn) (hv : Elems 1 cW w v shs) : Shp w v dn := by
  have hat : ∀ i : Nat, (cellsBy cW shs)[i]? = (shs[i]?).map fun (x : Option Addr × Nat × Nat) => Value.slice x.1 x.2.1 x.2.2 := fun i => by
    cases hs : shs[i]? with
    | none =>
      rw [List.getElem?_eq_none]
      · rfl
      · rw [cellsBy_len cW_len, Nat.mul_one]; exact List.getElem?_eq_none_iff.1 hs
    | some x =>
      have := cellsBy_at (j := 0) cW_len hs (by omega)
      rw [Nat.mul_one, Nat.add_zero] at this
      rw [this]; rfl
  have hl : (cellsBy cW shs).length = dn.length := by rw [cellsBy_len cW_len, Nat.mul_one, h.1]
  refine ⟨cellsBy cW shs, hl, by have := hv; unfold Elems at this; rw [h.1] at this; exact this, fun i x xs hx hi => ?_⟩
  rw [hat] at hx
  cases hs : shs[i]? with
  | none => rw [hs] at hx; cases hx
  | some y =>
    rw [hs] at hx
    injection hx with hx
    subst hx
    exact elems_sl (h.2 i y xs hs hi).rows
theorem Inn.keep {w w' : World} {B : Nat} {shs : List (Option Addr × Nat × Nat)} {dn : List (List Nat)} (h : Inn w B shs dn) (hk : ∀ (x : Option Addr × Nat × Nat) (xs : List Nat), OwnElems 1 cI 3 w B (.slice x.1 x.2.1 x.2.2) xs → OwnElems 1 cI 3 w' B (.slice x.1 x.2.1 x.2.2) xs) : Inn w' B shs dn :=
  ⟨h.1, fun i x xs h1 h2 => hk x xs (h.2 i x xs h1 h2)⟩
theorem Inn.snoc {w : World} {B : Nat} {shs : List (Option Addr × Nat × Nat)} {dn : List (List Nat)} {x : Option Addr × Nat × Nat} {xs : List Nat} (h : Inn w B shs dn) (hx : OwnElems 1 cI 3 w B (.slice x.1 x.2.1 x.2.2) xs) : Inn w B (shs ++ [x]) (dn ++ [xs]) := by
  refine ⟨by simp [h.1], fun i y ys h1 h2 => ?_⟩
  rcases Nat.lt_or_ge i shs.length with hi | hi
  · rw [List.getElem?_append_left hi] at h1
    rw [List.getElem?_append_left (by rw [← h.1]; exact hi)] at h2
    exact h.2 i y ys h1 h2
  · rw [List.getElem?_append_right hi] at h1
    rw [List.getElem?_append_right (by rw [← h.1]; exact hi), ← h.1] at h2
    cases hj : i - shs.length with
    | zero => rw [hj] at h1 h2; simp at h1 h2; subst h1; subst h2; exact hx
    | succ j => rw [hj] at h1; simp at h1

/-- Between two rounds of Shape's loop: n levels are left. -/
structure SI (P : Bl) (w : World) (o H N : Nat) (t : T) (n : Nat) (ts : List T) (gs : List Nat) (dn : List (List Nat)) (shs : List (Option Addr × Nat × Nat)) (wr : World) (sh lv : Value) : Prop where
  levs : dn ++ lev n ts = lev (H + 1) [t]
  side : Side (Sub P w n) gs ts
  ok : ∀ u ∈ ts, ∃ lo, Ok o (n - 1) lo (2 * o - 1) u
  more : n ≠ 0 → ts ≠ []
  few : fsum (n - 1) ts ≤ N
  len : ts.length ≤ N + 1
  row : Elems 1 cK wr lv gs
  out : OwnElems 1 cW 193 wr w.heap.size sh shs
  inn : Inn wr w.heap.size shs dn
  base : Below w.heap.size w wr
theorem SI.count {P : Bl} {w : World} {o H N : Nat} {t : T} {n : Nat} {ts : List T} {gs : List Nat} {dn : List (List Nat)} {shs : List (Option Addr × Nat × Nat)} {wr : World} {sh lv : Value} (h : SI P w o H N t n ts gs dn shs wr sh lv) : shs.length + n = H + 1 := by
  have := congrArg List.length h.levs
  rw [List.length_append, lev_len, lev_len] at this
  rw [h.inn.1]; exact this

theorem side_snoc {R : Nat → T → Prop} {gs gs' : List Nat} {ts ts' : List T} (h : Side R gs ts) (h' : Side R gs' ts') : Side R (gs ++ gs') (ts ++ ts') := h.app h'
/-- A slice of slices of numbers whose rows are all new since B. -/
def ShpOwn (w : World) (B : Nat) (v : Value) (s : List (List Nat)) : Prop := ∃ shs, OwnElems 1 cW 193 w B v shs ∧ Inn w B shs s
theorem ShpOwn.shp {w : World} {B : Nat} {v : Value} {s : List (List Nat)} (h : ShpOwn w B v s) : Shp w v s := let ⟨_, h1, h2⟩ := h; h2.shp h1.rows
theorem ShpOwn.keep {w w' : World} {B : Nat} {v : Value} {s : List (List Nat)} (h : ShpOwn w B v s) (hk : ∀ b, B ≤ b → b < w.heap.size → w'.heap[b]? = w.heap[b]?) : ShpOwn w' B v s := by
  obtain ⟨shs, h1, h2⟩ := h
  exact ⟨shs, h1.keep fun b hb => hk b (h1.lt b hb).1 (h1.lt b hb).2, h2.keep fun x xs hx => hx.keep fun b hb => hk b (hx.lt b hb).1 (hx.lt b hb).2⟩
end Go.Proofs.YtlnagdodnkhbmaaGreat

