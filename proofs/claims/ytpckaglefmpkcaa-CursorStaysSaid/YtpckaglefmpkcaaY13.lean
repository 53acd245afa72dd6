/- The calls of a tree and its reference, with what they leave alone; the reference's Next; CursorMoves. -/
import Derived.Test.YtpckaglefmpkcaaY2
namespace Go.Proofs.Ytpckaglefmpkcaa
open Go.RowKit
set_option maxRecDepth 100000

/-- Behind a call of both: besides, what may have turned. -/
def BothX (W w : World) (P : Bl) (G : List Nat) (a p : Nat) (l : List Pr) (o : Nat) (e : Ending) (w' : World) : Prop :=
  e = .returned (.bool true) ∧ ∃ P' G', St W w' P' G' a p l o ∧ Chg [a, p] w w' [a, p] ∧ (∀ b, P' b → P b ∨ w.heap.size ≤ b) ∧ ∀ b ∈ G', b ∈ G ∨ w.heap.size ≤ b
theorem St.bothX {W w0 w w1 w' : World} {P : Bl} {G : List Nat} {a p o : Nat} {l l' : List Pr} {u : Value} {e : Ending} (h : St W w P G a p l o) (hb : Below w0.heap.size w0 w) (h1 : Done P w w1 a o l') (h2 : Refd w1 G p l' u e w') :
    ∃ P' G', St W w' P' G' a p l' o ∧ Chg [a, p] w0 w' [a, p] ∧ (∀ b, P' b → P b ∨ w0.heap.size ≤ b) ∧ ∀ b ∈ G', b ∈ G ∨ w0.heap.size ≤ b := by
  obtain ⟨-, G', r2, c2, hG⟩ := h2
  have c1 := h1.2
  have hal := h.t.lt
  have hpl : p < w.heap.size := h.r.lt p h.r.mem
  have t1 := h1.tree
  have hs0 := hb.size
  have hs1 := c1.size
  have hnp : ∀ b ∈ [p], ¬ New P w w1 b := fun b hb => by
    simp at hb; subst hb
    rintro (hh | hh)
    · exact h.m hh
    · omega
  have c3 : Chg [a, p] w w1 [a, p] := c1.wide2 (by simp)
  have c4 : Chg [a, p] w1 w' [a, p] := c2.wide2 (by simp)
  refine ⟨_, G', ⟨t1.chg c2 (by simpa using h.ne) hnp, r2, fun hm => ?_, hnp p (by simp), (h.c.trans c3).trans c4⟩, ((Chg.of_below hb).trans c3).trans c4, fun b hb => ?_, fun b hb => ?_⟩
  · rcases hG a hm with hh | hh
    · exact h.n hh
    · omega
  · rcases hb with hb | hb
    · exact .inl hb
    · exact .inr (by omega)
  · rcases hG b hb with hh | hh
    · exact .inl hh
    · exact .inr (by omega)
section
variable {W w : World} {P : Bl} {G : List Nat} {a p : Nat} {l : List Pr} {od : Nat}
theorem doesX_put (h : St W w P G a p l od) (kx vx : List Nat) (hkb : Byt kx) (hvb : Byt vx) (hk : kx.length ≤ 300) (_hv : vx.length ≤ 300) (hl : l.length ≤ 900) :
    Calls Try.prog 20 #[.pointer (some ⟨a, 0, none⟩), .pointer (some ⟨p, 0, none⟩), opV ⟨0, kx, vx⟩] w (BothX W w P G a p (putN l kx vx) od) := by
  have hst := h.below_ ((Below.refl _ w).alloc (Nat.le_refl _) (.cells #[.int .i64 0, .string (str kx), .string (str vx)] 35))
  have HO := hid (opAt_new w ⟨0, kx, vx⟩)
  have HBF : Hid (w.heap.size ∉ [a]) := fun hm => by simp at hm; have := h.t.lt; omega
  have HBG : Hid (w.heap.size ∉ G) := fun hm => by have := h.r.lt _ hm; omega
  have HST := hid hst
  have HAL : Hid (Below w.heap.size w (w.alloc (.cells #[.int .i64 0, .string (str kx), .string (str vx)] 35))) := (Below.refl _ w).alloc (Nat.le_refl _) _
  have HL := hid h.t.byt
  have HK := hid hkb
  have HV := hid hvb
  obtain ⟨A, HA⟩ : ∃ A, Hid (A = str (putA l kx vx)) := ⟨_, rfl⟩
  obtain ⟨B, HB⟩ : ∃ B, Hid (B = putW l kx vx) := ⟨_, rfl⟩
  obtain ⟨E, HE⟩ : ∃ E, Hid (E = putE kx vx) := ⟨_, rfl⟩
  obtain ⟨hc0, hc1, hc2⟩ := HO.out
  clear hst h
  unfold opV
  go_enter Try.func20, Try.ntmps20
  go_wp2_with fail
  refine (HST.out.t.put (by omega) kx vx HK.out HV.out (by omega)).mono ?_
  rw [← HA.out, ← HB.out, ← HE.out]
  rintro e w1 ⟨rfl, hd1⟩
  have HD1 := hid hd1
  have cg1 := hd1.2
  have HR1 := hid (HST.out.r.chg cg1 (by simpa using HST.out.n))
  clear hc0 hc1 hc2
  obtain ⟨hc0, hc1, hc2⟩ := HO.out.chg cg1 HBF.out
  clear cg1 hd1
  go_wp2_with fail
  refine (refput _ G p l kx vx HR1.out HL.out HK.out (by omega)).mono ?_
  rw [← HA.out, ← HB.out, ← HE.out]
  intro e w2 hr2
  have HR2 := hid hr2
  obtain ⟨rfl, -⟩ := hr2
  go_wp2
  go_ret
  exact ⟨rfl, HST.out.bothX HAL.out HD1.out HR2.out⟩
theorem doesX_del (h : St W w P G a p l od) (kx vx : List Nat) (hkb : Byt kx) (hk : kx.length ≤ 300) (hl : l.length ≤ 900) :
    Calls Try.prog 20 #[.pointer (some ⟨a, 0, none⟩), .pointer (some ⟨p, 0, none⟩), opV ⟨1, kx, vx⟩] w (BothX W w P G a p (delN l kx) od) := by
  have hst := h.below_ ((Below.refl _ w).alloc (Nat.le_refl _) (.cells #[.int .i64 1, .string (str kx), .string (str vx)] 35))
  have HO := hid (opAt_new w ⟨1, kx, vx⟩)
  have HBF : Hid (w.heap.size ∉ [a]) := fun hm => by simp at hm; have := h.t.lt; omega
  have HST := hid hst
  have HAL : Hid (Below w.heap.size w (w.alloc (.cells #[.int .i64 1, .string (str kx), .string (str vx)] 35))) := (Below.refl _ w).alloc (Nat.le_refl _) _
  have HL := hid h.t.byt
  have HK := hid hkb
  obtain ⟨A, HA⟩ : ∃ A, Hid (A = str (delA l kx)) := ⟨_, rfl⟩
  obtain ⟨E, HE⟩ : ∃ E, Hid (E = getE l kx) := ⟨_, rfl⟩
  obtain ⟨hc0, hc1, hc2⟩ := HO.out
  clear hst h
  unfold opV
  go_enter Try.func20, Try.ntmps20
  go_wp2_with fail
  refine (HST.out.t.del (by omega) kx HK.out (by omega)).mono ?_
  rw [← HA.out, ← HE.out]
  rintro e w1 ⟨rfl, hd1⟩
  have HD1 := hid hd1
  have cg1 := hd1.2
  have HR1 := hid (HST.out.r.chg cg1 (by simpa using HST.out.n))
  clear hc0 hc1 hc2
  obtain ⟨hc0, hc1, hc2⟩ := HO.out.chg cg1 HBF.out
  clear cg1 hd1
  go_wp2_with fail
  refine (refdel _ G p l kx HR1.out HL.out HK.out (by omega)).mono ?_
  rw [← HA.out, ← HE.out]
  intro e w2 hr2
  have HR2 := hid hr2
  obtain ⟨rfl, -⟩ := hr2
  go_wp2
  go_ret
  exact ⟨rfl, HST.out.bothX HAL.out HD1.out HR2.out⟩
theorem doesX_get (h : St W w P G a p l od) (kk : Int) (kx vx : List Nat) (hkb : Byt kx) (hk : kx.length ≤ 300) (hl : l.length ≤ 900) (h0 : ¬ kk = 0) (h1 : ¬ kk = 1) :
    Calls Try.prog 20 #[.pointer (some ⟨a, 0, none⟩), .pointer (some ⟨p, 0, none⟩), opV ⟨kk, kx, vx⟩] w (BothX W w P G a p l od) := by
  have hst := h.below_ ((Below.refl _ w).alloc (Nat.le_refl _) (.cells #[.int .i64 kk, .string (str kx), .string (str vx)] 35))
  have HO := hid (opAt_new w ⟨kk, kx, vx⟩)
  have HST := hid hst
  have HAL : Hid (Below w.heap.size w (w.alloc (.cells #[.int .i64 kk, .string (str kx), .string (str vx)] 35))) := (Below.refl _ w).alloc (Nat.le_refl _) _
  have HL := hid h.t.byt
  have HK := hid hkb
  obtain ⟨A, HA⟩ : ∃ A, Hid (A = str (getV l kx)) := ⟨_, rfl⟩
  obtain ⟨E, HE⟩ : ∃ E, Hid (E = getE l kx) := ⟨_, rfl⟩
  obtain ⟨hc0, hc1, hc2⟩ := HO.out
  clear hst h
  unfold opV
  go_enter Try.func20, Try.ntmps20
  go_wp2_with fail
  refine (HST.out.t.get (by omega) kx HK.out (by omega)).mono ?_
  rw [← HA.out, ← HE.out]
  rintro e w1 ⟨rfl, hb1⟩
  have HB1 := hid hb1
  clear hc0 hc1 hc2
  obtain ⟨hc0, hc1, hc2⟩ := HO.out.below hb1
  clear hb1
  go_wp2_with fail
  refine (refget _ G p l kx (HST.out.r.below HB1.out) HL.out HK.out).mono ?_
  rw [← HA.out, ← HE.out]
  rintro e w2 ⟨rfl, hb2⟩
  go_wp2
  go_ret
  exact ⟨rfl, P, G, (HST.out.below_ HB1.out).below_ hb2, Chg.of_below (below_step (below_step HAL.out HB1.out) hb2), fun b h => .inl h, fun b h => .inl h⟩
theorem doesX_any (h : St W w P G a p l od) (o : Cl) (ho : ClOk o) (hk : o.key.length ≤ 300) (hv : o.val.length ≤ 300) (hl : l.length ≤ 900) :
    Calls Try.prog 20 #[.pointer (some ⟨a, 0, none⟩), .pointer (some ⟨p, 0, none⟩), opV o] w (BothX W w P G a p (stepL l o) od) := by
  unfold stepL
  obtain ⟨kk, kx, vx⟩ := o
  by_cases h0 : kk = 0
  · rw [if_pos h0]; subst h0; exact doesX_put h kx vx ho.key ho.val hk hv hl
  · rw [if_neg h0]
    by_cases h1 : kk = 1
    · rw [if_pos h1]; subst h1; exact doesX_del h kx vx ho.key hk hl
    · rw [if_neg h1]; exact doesX_get h kk kx vx ho.key hk hl h0 h1
end
/-- What turns a block besides, new since W. -/
theorem St.aside {W w w' : World} {P : Bl} {G : List Nat} {a p c o : Nat} {l : List Pr} (h : St W w P G a p l o) (hc : Chg [c] w w' [c]) (hW : W.heap.size ≤ c) (hca : c ≠ a) (hG : c ∉ G) (hP : ¬ P c) : St W w' P G a p l o :=
  ⟨h.t.chg hc (by simp; exact fun e => hca e.symm) (fun b hb hh => by simp at hb; subst hb; exact hP hh), h.r.chg hc (fun b hb => by simp at hb; subst hb; exact hG), h.n, h.m, ⟨hc.os.trans h.c.os, hc.tape.trans h.c.tape, hc.output.trans h.c.output, Nat.le_trans h.c.size hc.size, fun k hk hn => (hc.block k (Nat.lt_of_lt_of_le hk h.c.size) (fun hm => by simp at hm; omega)).trans (h.c.block k hk hn), h.c.foot⟩⟩

/-! The reference's Next -/
def nextI (l : List Pr) (hi at_ : List Nat) : Int := if atN l at_ < endN l hi then (atN l at_ : Int) else -1
theorem atN_mono {l : List Pr} (hr : Rising l) {lo k : List Nat} (h : ¬ k < lo) : atN l lo ≤ atN l k := by
  refine Nat.le_of_not_lt fun hlt => ?_
  have hle := atN_le l lo
  have hq : l[atN l k]? = some l[atN l k] := List.getElem?_eq_getElem (by omega)
  have h1 := (atN_iff hr hq).2 hlt
  have h2 : ¬ (l[atN l k]).1 < k := fun h => by have := (atN_iff hr hq).1 h; omega
  by_cases e : k = lo
  · exact h2 (e ▸ h1)
  · exact h2 (List.lt_trans h1 (lt_of_not h e))
/-- Where a cursor stands of which the reference says that it was at a text, told or not. -/
def at2 (td : Bool) (k : List Nat) : List Nat := if td = true then k ++ [0] else k
theorem sel_iff {l : List Pr} (hr : Rising l) {lo hi at_ : List Nat} (h0 : ¬ at_ < lo) {k : Nat} {q : Pr} (hq : l[k]? = some q) : (inB lo hi q.1 = true ∧ ¬ q.1 < at_) ↔ (atN l at_ ≤ k ∧ k < endN l hi) := by
  have hlt := (List.getElem?_eq_some_iff.1 hq).1
  have h1 := atN_iff (k := lo) hr hq
  have h2 := atN_iff (k := at_) hr hq
  have hm := atN_mono hr h0
  unfold inB endN
  rw [decide_eq_true_iff]
  by_cases hn : hi = []
  · rw [if_pos hn]
    constructor
    · rintro ⟨_, b⟩; exact ⟨Nat.le_of_not_lt fun h => b (h2.2 h), hlt⟩
    · rintro ⟨a, _⟩; exact ⟨⟨fun h => by have := h1.1 h; omega, .inl hn⟩, fun h => by have := h2.1 h; omega⟩
  · rw [if_neg hn]
    have h3 := atN_iff (k := hi) hr hq
    constructor
    · rintro ⟨⟨_, a⟩, b⟩; exact ⟨Nat.le_of_not_lt fun h => b (h2.2 h), h3.1 (a.resolve_left hn)⟩
    · rintro ⟨a, b⟩; exact ⟨⟨fun h => by have := h1.1 h; omega, .inr (h3.2 b)⟩, fun h => by have := h2.1 h; omega⟩
set_option maxHeartbeats 4000000 in
theorem refnext_any (w : World) (F : List Nat) (p : Nat) (l : List Pr) (lo hi at_ : List Nat) (td : Bool) (hR : RList w F p l) (hl : PByt l) (hr : Rising l) (hsz : l.length ≤ 1000) (blo : Byt lo) (bhi : Byt hi) (bat : Byt at_) (h0 : ¬ at2 td at_ < lo) :
    Calls Try.prog 39 #[.pointer (some ⟨p, 0, none⟩), two2 lo hi, .string (str at_), .bool td] w fun e w' => e = .returned (.int .i64 (nextI l hi (at2 td at_))) ∧ Below w.heap.size w w' := by
  obtain ⟨wB, HW⟩ : ∃ W, Hid (W = w.alloc (.cells #[.string (str lo), .string (str hi)] 48)) := ⟨_, rfl⟩
  obtain ⟨x0, x1, b0⟩ := boxed w lo hi 48
  rw [← HW.out] at x0 x1 b0
  have X0 := hid x0
  have X1 := hid x1
  have HB0 := hid b0
  have HR := hid (hR.below b0)
  have HL := hid hl
  have HRI := hid hr
  have BLO := hid blo
  have BHI := hid bhi
  have BAT := hid bat
  have H0 := hid h0
  obtain ⟨u, hone, hel, _⟩ := HR.out
  obtain ⟨A, cap, rfl⟩ := hel.slice
  have HONE := hid hone
  have HEL := hid hel
  obtain ⟨len, HLEN⟩ : ∃ len, Hid (len = l.length) := ⟨_, rfl⟩
  have hlen : len ≤ 1000 := by rw [HLEN.out]; exact hsz
  rw [← HLEN.out] at HONE HEL
  clear x0 x1 b0 hR hl hr blo bhi bat h0 hone hel
  unfold two2
  go_enter Try.func39, Try.ntmps39
  go_wp2
  rw [← HW.out]
  go_loopw [9] (fun i wr => ∃ k : Nat, k ≤ len ∧ i = .int .i64 k ∧ Hid (atN l (at2 td at_) < endN l hi → k ≤ atN l (at2 td at_)) ∧ Below wB.heap.size wB wr) (fun i _ => len - (intOf i).toNat)
  case atStart => exact ⟨0, by omega, rfl, fun _ => Nat.zero_le _, Below.refl _ _⟩
  case round =>
    obtain ⟨k, hk, rfl, HJ, hb⟩ := hrel
    have HB := hid hb
    have c0 := below_keep hb _ _ HONE.out.cell
    clear hb
    by_cases hkl : k < len
    · have hkli : (k : Int) < len := by omega
      obtain ⟨q, hq⟩ : ∃ q, l[k]? = some q := ⟨l[k]'(by have := HLEN.out; omega), List.getElem?_eq_getElem _⟩
      have bq := HL.out q (List.mem_of_getElem? hq)
      obtain ⟨ad, rfl, q0, _⟩ := (HEL.out.below HB.out).pcell2 hq
      have x0 := below_keep HB.out _ _ X0.out
      have x1 := below_keep HB.out _ _ X1.out
      have HSEL := hid (sel_iff (hi := hi) HRI.out H0.out hq)
      have HIN := hid (fun W => in_any W q.1 lo hi bq.1 BLO.out BHI.out)
      have BQ := hid bq.1
      clear hq bq
      cases hin : inB lo hi q.1 with
      | false =>
        rw [hin] at HIN
        have HNO : Hid (¬ (inB lo hi q.1 = true ∧ ¬ q.1 < at2 td at_)) := fun h => by rw [hin] at h; cases h.1
        go_wp2_with fail
        refine (HIN.out _).mono ?_
        rintro e w2 ⟨rfl, rfl⟩
        have HJ2 : Hid (atN l (at2 td at_) < endN l hi → k + 1 ≤ atN l (at2 td at_)) := fun h => by
          have h1 := HJ.out h
          have h2 : ¬ (atN l (at2 td at_) ≤ k ∧ k < endN l hi) := fun hh => HNO.out (HSEL.out.2 hh)
          omega
        go_wp2
        go_roundw
        case rel => exact ⟨k + 1, by omega, by go_num, HJ2.out, HB.out⟩
        case measure => simp [intOf]; omega
      | true =>
        rw [hin] at HIN
        by_cases h1 : q.1 < at_
        · have f1 : Op.bytesLess (str q.1).toList (str at_).toList = true := by rw [less_str BQ.out BAT.out, decide_eq_true h1]
          have f2 : ¬ (str q.1).toList = (str at_).toList := fun e => by rw [str_toList, str_toList] at e; rw [ofNat_inj BQ.out BAT.out e] at h1; exact List.lt_irrefl _ h1
          have f3 : ((str q.1).toList == (str at_).toList) = false := by rw [beq_eq_false_iff_ne]; exact f2
          have HNO : Hid (¬ (inB lo hi q.1 = true ∧ ¬ q.1 < at2 td at_)) := fun h => h.2 (by unfold at2; split; exact List.lt_trans h1 (lt_next _); exact h1)
          go_wp2_with fail
          refine (HIN.out _).mono ?_
          rintro e w2 ⟨rfl, rfl⟩
          have HJ2 : Hid (atN l (at2 td at_) < endN l hi → k + 1 ≤ atN l (at2 td at_)) := fun h => by
            have h1 := HJ.out h
            have h2 : ¬ (atN l (at2 td at_) ≤ k ∧ k < endN l hi) := fun hh => HNO.out (HSEL.out.2 hh)
            omega
          go_wp2
          go_roundw
          case rel => exact ⟨k + 1, by omega, by go_num, HJ2.out, HB.out⟩
          case measure => simp [intOf]; omega
        · by_cases h2 : q.1 = at_
          · have HE := hid h2
            have f1 : Op.bytesLess (str at_).toList (str at_).toList = false := by rw [less_str BAT.out BAT.out, decide_eq_false (List.lt_irrefl _)]
            rw [h2] at q0 HIN
            cases td with
            | false =>
              have HY : Hid (inB lo hi q.1 = true ∧ ¬ q.1 < at2 false at_) := ⟨hin, by rw [HE.out]; exact List.lt_irrefl _⟩
              clear h2
              go_wp2_with fail
              refine (HIN.out _).mono ?_
              rintro e w2 ⟨rfl, rfl⟩
              have HR2 : Hid (nextI l hi (at2 false at_) = (k : Int)) := by
                have h1 := HSEL.out.1 HY.out
                have h2 := HJ.out (by omega)
                show _ = _
                unfold nextI
                rw [if_pos (by omega)]
                omega
              go_wp2
              go_ret
              rw [HR2.out]
              exact ⟨rfl, below_step HB0.out HB.out⟩
            | true =>
              have HNO : Hid (¬ (inB lo hi q.1 = true ∧ ¬ q.1 < at2 true at_)) := fun h => h.2 (by rw [HE.out]; exact lt_next _)
              clear h2
              go_wp2_with fail
              refine (HIN.out _).mono ?_
              rintro e w2 ⟨rfl, rfl⟩
              have HJ2 : Hid (atN l (at2 true at_) < endN l hi → k + 1 ≤ atN l (at2 true at_)) := fun h => by
                have h1 := HJ.out h
                have h2 : ¬ (atN l (at2 true at_) ≤ k ∧ k < endN l hi) := fun hh => HNO.out (HSEL.out.2 hh)
                omega
              go_wp2
              go_roundw
              case rel => exact ⟨k + 1, by omega, by go_num, HJ2.out, HB.out⟩
              case measure => simp [intOf]; omega
          · have h3 : at_ < q.1 := lt_of_not h1 h2
            have f1 : Op.bytesLess (str q.1).toList (str at_).toList = false := by rw [less_str BQ.out BAT.out, decide_eq_false h1]
            have f2 : ¬ (str q.1).toList = (str at_).toList := fun e => by rw [str_toList, str_toList] at e; exact h2 (ofNat_inj BQ.out BAT.out e)
            have f3 : ((str q.1).toList == (str at_).toList) = false := by rw [beq_eq_false_iff_ne]; exact f2
            have HY : Hid (inB lo hi q.1 = true ∧ ¬ q.1 < at2 td at_) := ⟨hin, by unfold at2; split; exact next_lt _ _ h3; exact h1⟩
            go_wp2_with fail
            refine (HIN.out _).mono ?_
            rintro e w2 ⟨rfl, rfl⟩
            have HR2 : Hid (nextI l hi (at2 td at_) = (k : Int)) := by
              have h1 := HSEL.out.1 HY.out
              have h2 := HJ.out (by omega)
              show _ = _
              unfold nextI
              rw [if_pos (by omega)]
              omega
            go_wp2
            go_ret
            rw [HR2.out]
            exact ⟨rfl, below_step HB0.out HB.out⟩
    · obtain rfl : k = len := by omega
      have HR2 : Hid (nextI l hi (at2 td at_) = -1) := by
        show _ = _
        unfold nextI
        rw [if_neg fun h => by have := HJ.out h; have := endN_le l hi; have := HLEN.out; omega]
      go_wp2
      go_ret
      rw [HR2.out]
      exact ⟨rfl, below_step HB0.out HB.out⟩
end Go.Proofs.Ytpckaglefmpkcaa
