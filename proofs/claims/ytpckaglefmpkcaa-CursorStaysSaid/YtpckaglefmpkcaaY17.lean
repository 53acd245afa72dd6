/- CursorStays. -/
import Derived.Test.YtpckaglefmpkcaaY14
namespace Go.Proofs.Ytpckaglefmpkcaa
open Go.RowKit Go.Shelf
set_option maxRecDepth 100000

theorem cT_one' (x : List Nat) : ∀ y ∈ cT x, y.oneCell' = true := by
  intro y hy
  simp [cT] at hy
  subst hy; rfl
theorem sinfo : (Try.prog.info? 9).map (fun i => (i.zero, i.size, i.bytes)) = some (some (.string ⟨#[]⟩), 1, 16) := by kernel_rfl
theorem Elems.txt {w : World} {A : Option Addr} {n cap i : Nat} {l : List (List Nat)} {x : List Nat} (h : Elems 1 cT w (.slice A n cap) l) (hi : l[i]? = some x) : ∃ ad, A = some ad ∧ w.cell? (ad.add i) = some (.string (str x)) := by
  obtain ⟨ad, hA, h0⟩ := h.cell cT_len hi (j := 0) rfl
  exact ⟨ad, hA, by rw [Nat.mul_one, Nat.add_zero] at h0; exact h0⟩
/-- What holds, but for memory, behind some calls. -/
structure SP (was : List Pr) (K V : List Nat) (ds : List Cl) (L : List Pr) (at_ : List Nat) (T : List (List Nat)) : Prop where
  bat : Byt at_
  keyed : Keyed L
  lo : ¬ at_ < K
  tells : Tells was V L at_ T ds
  bT : ∀ x ∈ T, Byt x
theorem St.grown {W w w' : World} {P : Bl} {G : List Nat} {a p o : Nat} {l : List Pr} {r : Option Nat} (h : St W w P G a p l o) (hg : w.grownBy w' r) (hr : ∀ k, r = some k → W.heap.size ≤ k ∧ k ≠ a ∧ k ∉ G ∧ ¬ P k) : St W w' P G a p l o := by
  cases r with
  | none => exact h.below_ ⟨hg.os, hg.tape, hg.output, hg.size, fun k hk => hg.block k hk (fun e => by cases e)⟩
  | some k =>
    obtain ⟨h1, h2, h3, h4⟩ := hr k rfl
    exact h.aside ((Chg.refl [k] w).grown hg (fun j e => by injection e with e; subst e; exact List.mem_cons_self)) h1 h2 h3 h4
section
variable {was : List Pr} {K V : List Nat} {ms ds : List Cl} {k : Nat} {L : List Pr} {at_ : List Nat} {T : List (List Nat)}
theorem SP.does (h : SP was K V (ms.take k) L at_ T) (hr : Rising L) {o : Cl} (ho : ms[k]? = some o) : SP was K V (ms.take (k + 1)) (stepL L o) at_ T := by
  have e : ms.take (k + 1) = ms.take k ++ [o] := by rw [List.take_add_one, ho]; rfl
  rw [e]
  exact ⟨h.bat, h.keyed.step o, h.lo, h.tells.does hr o, h.bT⟩
theorem SP.stay (h : SP was K V (ms.take k) L at_ T) (hk : ms.length ≤ k) : SP was K V (ms.take (k + 1)) L at_ T := by
  rw [List.take_of_length_le (by omega)]
  rwa [List.take_of_length_le (by omega)] at h
theorem SP.next {q : Pr} (h : SP was K V ds L at_ T) (hr : Rising L) (hb : PByt L) (hn : nxt L V at_ = some q) : SP was K V ds L (q.1 ++ [0]) (T ++ [q.1]) ∧ (∀ x ∈ T, x < q.1) ∧ inB K V q.1 = true ∧ Byt q.1 := by
  obtain ⟨h1, h2, h3, _⟩ := nxt_some hr hn
  obtain ⟨t1, t2⟩ := h.tells.next hr hn
  have bq := (hb q h1).1
  have hlo : ¬ q.1 < K := fun hh => by
    by_cases e : q.1 = at_
    · exact h.lo (e ▸ hh)
    · exact h.lo (List.lt_trans (lt_of_not h2 e) hh)
  refine ⟨⟨bq.app (by intro b hb; simp at hb; omega), h.keyed, fun hh => hlo (List.lt_trans (lt_next q.1) hh), t1, fun x hx => ?_⟩, t2, ?_, bq⟩
  · rcases List.mem_append.1 hx with hx | hx
    · exact h.bT x hx
    · simp at hx; subst hx; exact bq
  · unfold inB
    exact decide_eq_true ⟨hlo, h3⟩
end
set_option maxHeartbeats 8000000 in
theorem stays_okB (w : World) (v v2 : Value) (os ms : List Cl) (K : List Nat) (hv : Elems 3 cO w v os) (hv2 : Elems 3 cO w v2 ms) (hfm : fewB ms = true) (hom : ClsOk ms) (hml : ms.length ≤ 100) (hos : ClsOk os) (bK : Byt K) (hf : fewB os = true) (hs : shortB K [] = true) : Calls Try.prog 14 #[v, two2 K [], v2] w (Yes w) := by
  obtain ⟨wB, HW⟩ : ∃ W, Hid (W = w.alloc (.cells #[.string (str K), .string (str [])] 48)) := ⟨_, rfl⟩
  obtain ⟨x0, x1, b0⟩ := boxed w K [] 48
  rw [← HW.out] at x0 x1 b0
  rw [← str_nil] at x1
  have HB0 := hid b0
  have X0 := hid x0
  have X1 := hid x1
  clear x0 x1 b0
  have BK := hid bK
  have HE := hid str_nil
  obtain ⟨hK, hV⟩ : K.length ≤ 300 ∧ ([] : List Nat).length ≤ 300 := by unfold shortB at hs; exact of_decide_eq_true hs
  obtain ⟨A2, cap2, rfl⟩ := hv2.slice
  have hmi : ¬ (100 : Int) < ms.length := by omega
  unfold two2
  go_enter Try.func14, Try.ntmps14
  go_wp2_with fail
  rw [← HW.out]
  refine (few_any wB _ os (hv.below HB0.out)).mono ?_
  rw [hf]
  rintro e w1 ⟨rfl, rfl⟩
  go_wp2_with fail
  refine (few_any wB _ ms (hv2.below HB0.out)).mono ?_
  rw [hfm]
  rintro e w1 ⟨rfl, rfl⟩
  have x0 := X0.out
  have x1 := X1.out
  go_wp2_with fail
  rw [HE.out]
  refine (short_any wB K []).mono ?_
  rw [hs]
  rintro e w2 ⟨rfl, hb2⟩
  have HB2 := hid hb2
  clear hb2
  go_wp2_with fail
  refine (made_ok w2 2 (by decide) (by decide) v os ((hv.below HB0.out).below HB2.out) hos hf).mono ?_
  rintro e w1 ⟨a, p, P, G, rfl, hst⟩
  have HS : Hid (St wB w1 P G a p (runL [] os) 2) := ⟨hst.t, hst.r, hst.n, hst.m, ((Chg.of_below (F := []) HB2.out).less (K := []) (fun k hk => by cases hk)).trans hst.c⟩
  clear hst x0 x1
  have x0 := below_keep HS.out.since _ _ X0.out
  have x1 := below_keep HS.out.since _ _ X1.out
  obtain ⟨i0, hi, hz0, hz1, hz2⟩ := info_parts sinfo
  have HV2 := hid (hv2.below HB0.out)
  have HOM := hid hom
  have HFM := hid (fewB_yes hfm).1
  obtain ⟨len, HLEN⟩ : ∃ len, Hid (len = ms.length) := ⟨_, rfl⟩
  have hl100 : len ≤ 100 := by rw [HLEN.out]; exact hml
  rw [← HLEN.out] at HV2 ⊢
  have hLL := run_few hf
  obtain ⟨L0, HLE⟩ : ∃ L, Hid (L = runL [] os) := ⟨_, rfl⟩
  have HKY : Hid (Keyed L0) := by rw [HLE.out]; exact run_keyed os
  rw [← HLE.out] at HS hLL
  have hal := HS.out.t.lt
  have hpl := HS.out.r.lt _ HS.out.r.mem
  go_wp2_with fail
  rw [HE.out]
  refine (new_ok _ a K [] BK.out (fun b hb => by cases hb) (by omega) (by decide) (.inl rfl)).mono ?_
  rintro e w3 ⟨c, rfl, hb3, hc3, hcur⟩
  have HC3 := hid hcur
  have HS3 := hid (HS.out.below_ hb3)
  have hcl := hcur.lt
  have hs3 := hb3.size
  have hcW : wB.heap.size ≤ c := Nat.le_trans HS.out.since.size hc3
  have HCG3 : Hid (c ∉ G ∧ ¬ P c) := ⟨fun h => by have := HS.out.r.lt c h; omega, fun h => by have := HS.out.t.under c h; omega⟩
  have hca : c ≠ a := by omega
  have hcp : c ≠ p := by omega
  clear x0 x1 hcur hb3 hv2 hom hml hfm
  have x0 := below_keep HS3.out.since _ _ X0.out
  have x1 := below_keep HS3.out.since _ _ X1.out
  rw [← HE.out]
  go_wp2_with fail
  rw [HE.out]
  refine (range_any _ G p 1000 L0 K [] HS3.out.r HS3.out.t.byt (by omega) BK.out (fun b hb => by cases hb) (by decide)).mono ?_
  rintro e w5 ⟨vw, rfl, hw5, hb5⟩
  have hwas : (L0.filter (inQ K [])).take 1000 = L0.filter (inQ K []) := List.take_of_length_le (Nat.le_trans (List.length_filter_le _ _) (by omega))
  rw [hwas] at hw5
  obtain ⟨was, HWAS⟩ : ∃ W, Hid (W = L0.filter (inQ K [])) := ⟨_, rfl⟩
  rw [← HWAS.out] at hw5
  have HWL : Hid (was.length ≤ 200) := by show _ ≤ _; rw [HWAS.out]; exact Nat.le_trans (List.length_filter_le _ _) (by omega)
  obtain ⟨Aw, nw, cw, rfl⟩ := hw5.rows.form
  have HNW : Hid (nw = was.length) := hw5.rows.cap.1
  have HWF : Hid (∀ b ∈ ownFoot (.slice Aw nw cw), b < w5.heap.size ∧ b ≠ c ∧ b ≠ a ∧ b ≠ p) := fun b hb => by have := hw5.lt b hb; omega
  have HW5 := hid hw5.rows
  have HS5 := hid (HS3.out.below_ hb5)
  have HC5 := hid (HC3.out.below hb5)
  have hs5 := hb5.size
  have HP0 : Hid (SP was K [] (ms.take 0) L0 K []) := ⟨BK.out, HKY.out, List.lt_irrefl _, by rw [HWAS.out]; exact Tells.start HS5.out.t.rise, by simp⟩
  clear hw5 hb5 x0 x1 hwas
  go_wp2
  go_loopw [12, 13] (fun tv i wr => ∃ k : Nat, k ≤ len + 1000 ∧ i = .int .i64 k ∧ ∃ (T : List (List Nat)) (at_ : List Nat) (L : List Pr) (P : Bl) (G : List Nat), Hid (SP was K [] (ms.take k) L at_ T) ∧ Hid (L.length ≤ 200 + k ∧ (len ≤ k → L.length ≤ 200 + len) ∧ T.length ≤ k ∧ (len ≤ k → k - len ≤ atN L at_)) ∧ St wB wr P G a p L 2 ∧ CurAt wr c a K [] at_ ∧ OwnElems 1 cT 9 wr w5.heap.size tv T ∧ Hid (c ∉ G ∧ ¬ P c) ∧ Hid (∀ b ∈ ownFoot tv, b ∉ G ∧ ¬ P b) ∧ Elems 2 cP wr (.slice Aw nw cw) was ∧ Hid (w5.heap.size ≤ wr.heap.size)) (fun _ i _ => len + 1000 - (intOf i).toNat)
  case atStart => exact ⟨0, by omega, rfl, [], K, L0, P, G, HP0.out, ⟨by omega, fun h => by omega, by simp, fun h => by omega⟩, HS5.out, HC5.out, OwnElems.nil _ _ _ _ _, HCG3.out, fun b hb => by simp [ownFoot, Value.ownBlock] at hb, HW5.out, Nat.le_refl _⟩
  case round =>
    obtain ⟨k, hk, rfl, T, at_, L, P2, G2, HP, HNUM, hst, hcu, hto, HCG, HD, hwl, HSZ⟩ := hrel
    obtain ⟨Av, nv, cv, rfl⟩ := hto.rows.form
    have HS := hid hst
    have HC := hid hcu
    have HT := hid hto
    have HW := hid hwl
    have HNV : Hid (nv = T.length) := hto.rows.cap.1
    obtain ⟨n1, n2, n3, n4⟩ := HNUM.out
    have hnvk : nv ≤ k := by rw [HNV.out]; exact n3
    have hwBa : wB.heap.size ≤ w5.heap.size := by have := HS5.out.since.size; omega
    have x0 := below_keep HS.out.since _ _ X0.out
    have x1 := below_keep HS.out.since _ _ X1.out
    clear hst hcu hto hwl
    by_cases hlt2 : k < len
    · have hlti : (k : Int) < len := by omega
      have hki : (k : Int) < (len : Int) + 1000 := by omega
      obtain ⟨o, ho⟩ : ∃ o, ms[k]? = some o := ⟨ms[k]'(by have := HLEN.out; omega), List.getElem?_eq_getElem _⟩
      obtain ⟨adm, rfl, m0, m1, m2⟩ := (HV2.out.below HS.out.since).opAt ho
      have HOK := hid (HOM.out.ok o (List.mem_of_getElem? ho))
      have HOF := hid (HFM.out o (List.mem_of_getElem? ho))
      have HPD := hid (HP.out.does HS.out.t.rise ho)
      have hsl := stepL_len L o
      clear ho
      go_wp2_with fail
      refine (doesX_any HS.out o HOK.out HOF.out.1 HOF.out.2 (by omega)).mono ?_
      rintro e w6 ⟨rfl, P6, G6, hst6, hch6, hP6, hG6⟩
      obtain ⟨L1, hL1⟩ : ∃ x, x = stepL L o := ⟨_, rfl⟩
      rw [← hL1] at hst6 hsl HPD
      have HC_ := hid (HC.out.chg hch6 (by simp; omega))
      have HT_ := hid (HT.out.keep fun b hb => hch6.block b (HT.out.lt b hb).2 (by simp; have := (HT.out.lt b hb).1; omega))
      have HW_ := hid (HW.out.keep fun b hb => hch6.block b (Nat.lt_of_lt_of_le (HWF.out b hb).1 HSZ.out) (by simp; exact ⟨(HWF.out b hb).2.2.1, (HWF.out b hb).2.2.2⟩))
      have HCG_ : Hid (c ∉ G6 ∧ ¬ P6 c) := ⟨fun h => (hG6 c h).elim HCG.out.1 fun h => by have := HC.out.lt; omega, fun h => (hP6 c h).elim HCG.out.2 fun h => by have := HC.out.lt; omega⟩
      have HD_ : Hid (∀ b ∈ ownFoot (.slice Av nv cv), b ∉ G6 ∧ ¬ P6 b) := fun b hb => ⟨fun h => (hG6 b h).elim (HD.out b hb).1 fun h => by have := (HT.out.lt b hb).2; omega, fun h => (hP6 b h).elim (HD.out b hb).2 fun h => by have := (HT.out.lt b hb).2; omega⟩
      have HSZ_ := hid (Nat.le_trans HSZ.out hch6.size)
      clear HS HC HT HW HCG HD HSZ HP hch6 hP6 hG6 hL1 m0 m1 m2 x0 x1 HNUM
      have HS := hid hst6
      have HC := HC_
      have HT := HT_
      have HW := HW_
      have HCG := HCG_
      have HD := HD_
      have HSZ := HSZ_
      have HP := HPD
      clear hst6 HC_ HT_ HW_ HCG_ HD_ HSZ_ HPD
      have x0 := below_keep HS.out.since _ _ X0.out
      have x1 := below_keep HS.out.since _ _ X1.out
      cases hN : nxt L1 [] at_ with
      | none =>
        go_wp2_with fail
        refine (next_none HC.out HS.out.t (by omega) (fun b hb => by cases hb) HP.out.bat hN).mono ?_
        rintro e w4 ⟨rfl, hb4⟩
        have HS4 := hid (HS.out.below_ hb4)
        have HC4 := hid (HC.out.below hb4)
        have HT4 := hid (HT.out.keep fun b hb => hb4.block b (HT.out.lt b hb).2)
        have HW4 := hid (HW.out.below hb4)
        have HSZ4 := hid (Nat.le_trans HSZ.out hb4.size)
        clear hb4 x0 x1
        go_wp2
        go_roundw
        case rel => first | exact ⟨k + 1, by omega, by go_num, T, at_, L1, P6, G6, HP.out, ⟨by omega, fun h => by omega, by omega, fun h => by omega⟩, HS4.out, HC4.out, HT4.out, HCG.out, HD.out, HW4.out, HSZ4.out⟩ | ((repeat apply Exists.intro); refine ⟨?_, rfl⟩; exact ⟨k + 1, by omega, by go_num, T, at_, L1, P6, G6, HP.out, ⟨by omega, fun h => by omega, by omega, fun h => by omega⟩, HS4.out, HC4.out, HT4.out, HCG.out, HD.out, HW4.out, HSZ4.out⟩)
        case measure => simp [intOf]; omega
      | some q =>
        obtain ⟨hp, hlast, hinb, bq⟩ := HP.out.next HS.out.t.rise HS.out.t.byt hN
        have HP' := hid hp
        have HLAST := hid hlast
        have HINB := hid hinb
        have BQ := hid bq
        have HAT := hid (atN_behind HS.out.t.rise hN)
        clear hp hlast hinb bq
        go_wp2_with fail
        refine (next_some HC.out HS.out.t (by omega) HP.out.keyed (fun b hb => by cases hb) HP.out.bat hN).mono ?_
        rintro e w4 ⟨rfl, hcu, hch⟩
        have HS4 := hid (HS.out.aside hch hcW hca HCG.out.1 HCG.out.2)
        have HC4 := hid hcu
        have HT4 := hid (HT.out.keep fun b hb => hch.block b (HT.out.lt b hb).2 (by simp; have := (HT.out.lt b hb).1; omega))
        have HW4 := hid (HW.out.keep fun b hb => hch.block b (Nat.lt_of_lt_of_le (HWF.out b hb).1 HSZ.out) (by simp; exact (HWF.out b hb).2.1))
        have HSZ4 := hid (Nat.le_trans HSZ.out hch.size)
        have HGR : Hid (∀ b ∈ ownFoot (.slice Av nv cv), wB.heap.size ≤ b ∧ b ≠ a ∧ b ∉ G6 ∧ ¬ P6 b) := fun b hb => by
          have h1 := (HT.out.lt b hb).1
          exact ⟨by omega, by omega, (HD.out b hb).1, (HD.out b hb).2⟩
        have HCO : Hid (c ∉ ownFoot (.slice Av nv cv)) := fun h => by have := (HT.out.lt c h).1; omega
        have HWO : Hid (∀ b ∈ ownFoot (.slice Aw nw cw), b ∉ ownFoot (.slice Av nv cv)) := fun b hb h => by have h1 := (HT.out.lt b h).1; have h2 := (HWF.out b hb).1; omega
        clear hcu hch x0 x1
        have x0 := below_keep HS4.out.since _ _ X0.out
        have x1 := below_keep HS4.out.since _ _ X1.out
        by_cases hT0 : nv = 0
        · have hni : ¬ (0 : Int) < (nv : Int) := by omega
          clear hT0
          go_wp2_with fail
          rw [HE.out]
          refine (in_any _ q.1 K [] BQ.out BK.out (fun b hb => by cases hb)).mono ?_
          rw [HINB.out]
          rintro e w6 ⟨rfl, rfl⟩
          go_wp2_with (at_builtin; refine wpList_append_rows _ rfl (.tmp 136) (.tmp 138) 62 rfl w5.heap.size 9 i0 _ 1 16 Try.underlying62 hi hz0 hz1 hz2 rfl (by omega) cT_one' (.slice Av nv cv) T rfl (HT4.out.alloc _) _ [q.1] rfl (rows_new _ 1 cT cT_len q.1 9) (by unfold maxLen; simp; omega) (by simp; omega) (Nat.le_trans HSZ4.out (by simp)) ?_; intro v' w7 hown hgr hf)
          have HS7 := hid ((HS4.out.below_ ((Below.refl _ _).alloc (Nat.le_refl _) _)).grown hgr (fun b e => HGR.out b (mem_ownFoot.2 e)))
          have HC7 := hid ((HC4.out.below ((Below.refl _ _).alloc (Nat.le_refl _) _)).keep (hgr.block c (Nat.lt_of_lt_of_le HC4.out.lt (by simp)) (fun e => HCO.out (mem_ownFoot.2 e.symm))))
          have HW7 := hid ((HW4.out.below ((Below.refl _ _).alloc (Nat.le_refl _) _)).keep (fun b hb => hgr.block b (Nat.lt_of_lt_of_le (Nat.lt_of_lt_of_le (HWF.out b hb).1 HSZ4.out) (by simp)) (fun e => HWO.out b hb (mem_ownFoot.2 e.symm))))
          have HT7 := hid hown
          have HD7 : Hid (∀ b ∈ ownFoot v', b ∉ G6 ∧ ¬ P6 b) := fun b hb => by
            rcases hf b hb with h | h
            · exact HD.out b h
            · simp at h
              exact ⟨fun hG => by have := HS4.out.r.lt b hG; omega, fun hP => by have := HS4.out.t.under b hP; omega⟩
          have HSZ7 : Hid (w5.heap.size ≤ w7.heap.size) := Nat.le_trans (Nat.le_trans HSZ4.out (by simp)) hgr.size
          clear hown hgr hf
          go_roundw
          case rel => first | exact ⟨k + 1, by omega, by go_num, T ++ [q.1], q.1 ++ [0], L1, P6, G6, HP'.out, ⟨by omega, fun h => by omega, by rw [List.length_append]; simp; omega, fun h => by rw [HAT.out]; omega⟩, HS7.out, HC7.out, HT7.out, HCG.out, HD7.out, HW7.out, HSZ7.out⟩ | ((repeat apply Exists.intro); refine ⟨?_, rfl⟩; exact ⟨k + 1, by omega, by go_num, T ++ [q.1], q.1 ++ [0], L1, P6, G6, HP'.out, ⟨by omega, fun h => by omega, by rw [List.length_append]; simp; omega, fun h => by rw [HAT.out]; omega⟩, HS7.out, HC7.out, HT7.out, HCG.out, HD7.out, HW7.out, HSZ7.out⟩)
          case measure => simp [intOf]; omega
        · obtain ⟨j, hj⟩ : ∃ j, nv = j + 1 := ⟨nv - 1, by omega⟩
          obtain ⟨x, hx⟩ : ∃ x, T[j]? = some x := ⟨T[j]'(by have := HNV.out; omega), List.getElem?_eq_getElem _⟩
          obtain ⟨ad, hAv, htx⟩ := HT4.out.rows.txt hx
          subst hAv
          have hxq := HLAST.out x (List.mem_of_getElem? hx)
          have bx := HP.out.bT x (List.mem_of_getElem? hx)
          have e4 : Op.bytesLess (str q.1).toList (str x).toList = false := by rw [less_str BQ.out bx, decide_eq_false (fun h => List.lt_irrefl _ (List.lt_trans h hxq))]
          have e6 : ¬ (str q.1).toList = (str x).toList := fun e => by rw [str_toList, str_toList] at e; rw [ofNat_inj BQ.out bx e] at hxq; exact List.lt_irrefl _ hxq
          have e7 : ((str q.1).toList == (str x).toList) = false := by rw [beq_eq_false_iff_ne]; exact e6
          have hni : (0 : Int) < (nv : Int) := by omega
          have hjn : (nv : Int) - 1 = (j : Int) := by omega
          have hjn2 : IntKind.i64.wrap ((nv : Int) - 1) = (j : Int) := by rw [hjn]; exact IntWalk.i64_in _ (by omega)
          have hjl : (j : Int) < (nv : Int) := by omega
          clear hx hxq bx hj hT0
          go_wp2_with fail
          rw [HE.out]
          refine (in_any _ q.1 K [] BQ.out BK.out (fun b hb => by cases hb)).mono ?_
          rw [HINB.out]
          rintro e w6 ⟨rfl, rfl⟩
          go_wp2_with (at_builtin; refine wpList_append_rows _ rfl (.tmp 136) (.tmp 138) 62 rfl w5.heap.size 9 i0 _ 1 16 Try.underlying62 hi hz0 hz1 hz2 rfl (by omega) cT_one' (.slice (some ad) nv cv) T rfl (HT4.out.alloc _) _ [q.1] rfl (rows_new _ 1 cT cT_len q.1 9) (by unfold maxLen; simp; omega) (by simp; omega) (Nat.le_trans HSZ4.out (by simp)) ?_; intro v' w7 hown hgr hf)
          have HS7 := hid ((HS4.out.below_ ((Below.refl _ _).alloc (Nat.le_refl _) _)).grown hgr (fun b e => HGR.out b (mem_ownFoot.2 e)))
          have HC7 := hid ((HC4.out.below ((Below.refl _ _).alloc (Nat.le_refl _) _)).keep (hgr.block c (Nat.lt_of_lt_of_le HC4.out.lt (by simp)) (fun e => HCO.out (mem_ownFoot.2 e.symm))))
          have HW7 := hid ((HW4.out.below ((Below.refl _ _).alloc (Nat.le_refl _) _)).keep (fun b hb => hgr.block b (Nat.lt_of_lt_of_le (Nat.lt_of_lt_of_le (HWF.out b hb).1 HSZ4.out) (by simp)) (fun e => HWO.out b hb (mem_ownFoot.2 e.symm))))
          have HT7 := hid hown
          have HD7 : Hid (∀ b ∈ ownFoot v', b ∉ G6 ∧ ¬ P6 b) := fun b hb => by
            rcases hf b hb with h | h
            · exact HD.out b h
            · simp at h
              exact ⟨fun hG => by have := HS4.out.r.lt b hG; omega, fun hP => by have := HS4.out.t.under b hP; omega⟩
          have HSZ7 : Hid (w5.heap.size ≤ w7.heap.size) := Nat.le_trans (Nat.le_trans HSZ4.out (by simp)) hgr.size
          clear hown hgr hf
          go_roundw
          case rel => first | exact ⟨k + 1, by omega, by go_num, T ++ [q.1], q.1 ++ [0], L1, P6, G6, HP'.out, ⟨by omega, fun h => by omega, by rw [List.length_append]; simp; omega, fun h => by rw [HAT.out]; omega⟩, HS7.out, HC7.out, HT7.out, HCG.out, HD7.out, HW7.out, HSZ7.out⟩ | ((repeat apply Exists.intro); refine ⟨?_, rfl⟩; exact ⟨k + 1, by omega, by go_num, T ++ [q.1], q.1 ++ [0], L1, P6, G6, HP'.out, ⟨by omega, fun h => by omega, by rw [List.length_append]; simp; omega, fun h => by rw [HAT.out]; omega⟩, HS7.out, HC7.out, HT7.out, HCG.out, HD7.out, HW7.out, HSZ7.out⟩)
          case measure => simp [intOf]; omega
    · have hlti : ¬ (k : Int) < len := by omega
      have hk2 : k < len + 1000 := by
        have := atN_le L at_
        have := n4 (by omega)
        have := n2 (by omega)
        omega
      have hki : (k : Int) < (len : Int) + 1000 := by omega
      have hli2 : (len : Int) ≤ (k : Int) := by omega
      have HP_ := hid (HP.out.stay (by have := HLEN.out; omega))
      have HPX : Hid (SP was K [] (ms.take k) L at_ T) := HP.out
      clear HP
      have HP := HP_
      clear HP_
      cases hN : nxt L [] at_ with
      | none =>
        go_wp2_with fail
        refine (next_none HC.out HS.out.t (by omega) (fun b hb => by cases hb) HP.out.bat hN).mono ?_
        rintro e w4 ⟨rfl, hb4⟩
        have HS4 := hid (HS.out.below_ hb4)
        have HC4 := hid (HC.out.below hb4)
        have HT4 := hid (HT.out.keep fun b hb => hb4.block b (HT.out.lt b hb).2)
        have HW4 := hid (HW.out.below hb4)
        have HSZ4 := hid (Nat.le_trans HSZ.out hb4.size)
        clear hb4 x0 x1
        have HEND := hid (HP.out.tells.end_ HS.out.t.rise hN)
        have HEND2 : Hid (∀ q ∈ was, touchB q.1 ms = true ∨ q.1 ∈ T) := by
          have h := HEND.out
          rw [List.take_of_length_le (by have := HLEN.out; omega)] at h
          exact h
        have HVM := hid (HV2.out.below HS4.out.since)
        have HROW := hid HT4.out.rows
        have HBYT := hid HS5.out.t.byt
        clear hlti hli2 hki hk2
        have hn200 : nw ≤ 200 := by
          have h1 := HNW.out
          have h2 := HWL.out
          omega
        have x0 := below_keep HS4.out.since _ _ X0.out
        have x1 := below_keep HS4.out.since _ _ X1.out
        go_wp2
        obtain ⟨wq, rfl⟩ : ∃ wq, wq = w4 := ⟨_, rfl⟩
        go_loopw [17] (fun i wr => ∃ y : Nat, y ≤ nw ∧ i = .int .i64 y ∧ Below wq.heap.size wq wr) (fun i _ => nw - (intOf i).toNat)
        case atStart => exact ⟨0, by omega, rfl, Below.refl _ _⟩
        case round =>
          obtain ⟨y, hy, rfl, hbr⟩ := hrel
          have HBR := hid hbr
          clear hbr
          by_cases hlt : y < nw
          · have hlti : (y : Int) < nw := by omega
            obtain ⟨q, hq⟩ : ∃ q, was[y]? = some q := ⟨was[y]'(by have := HNW.out; omega), List.getElem?_eq_getElem _⟩
            obtain ⟨adw, hAW, q0, q1⟩ := (HW4.out.below HBR.out).pcell2 hq
            subst hAW
            have Q0 := hid q0
            have HOR := hid (HEND2.out q (List.mem_of_getElem? hq))
            have BQ : Hid (Byt q.1) := by
              have h := List.mem_of_getElem? hq
              rw [HWAS.out] at h
              exact (HBYT.out q (List.mem_filter.1 h).1).1
            clear hq q1
            go_wp2
            obtain ⟨wt, rfl⟩ : ∃ wt, wt = wr := ⟨_, rfl⟩
            go_loopw [18, 19] (fun tb i wr => ∃ j : Nat, j ≤ len ∧ i = .int .i64 j ∧ ∃ b : Bool, tb = .bool b ∧ Hid (b = touchB q.1 (ms.take j)) ∧ Below wt.heap.size wt wr) (fun _ i _ => len - (intOf i).toNat)
            case atStart => exact ⟨0, by omega, rfl, false, rfl, rfl, Below.refl _ _⟩
            case round =>
              obtain ⟨j, hj, rfl, b, rfl, HBT, hbj⟩ := hrel
              have HBJ := hid hbj
              clear hbj q0
              have q0 := below_keep HBJ.out _ _ Q0.out
              by_cases hjl : j < len
              · have hjli : (j : Int) < len := by omega
                obtain ⟨o, ho⟩ : ∃ o, ms[j]? = some o := ⟨ms[j]'(by have := HLEN.out; omega), List.getElem?_eq_getElem _⟩
                obtain ⟨adm, rfl, m0, m1, m2⟩ := ((HVM.out.below HBR.out).below HBJ.out).opAt ho
                have HOK := hid (HOM.out.ok o (List.mem_of_getElem? ho))
                have HTS := hid (touch_take_succ (x := q.1) ho)
                clear ho m2
                cases b with
                | true =>
                  go_wp2
                  go_quiet (fail)
                  go_wp2
                  go_roundw
                  case rel => exact ⟨j + 1, by omega, by go_num, true, rfl, (by show _ = _; rw [HTS.out, ← HBT.out]; simp []), below_drewN' HBJ.out _⟩
                  case measure => simp [intOf]; omega
                | false =>
                  by_cases hkq : o.key = q.1
                  · rw [hkq] at m1
                    by_cases hk1 : o.k = 1
                    · rw [hk1] at m0
                      go_wp2
                      go_quiet (fail)
                      go_wp2
                      go_roundw
                      case rel => exact ⟨j + 1, by omega, by go_num, true, rfl, (by show _ = _; rw [HTS.out, ← HBT.out]; simp [hkq, hk1]), below_drewN' HBJ.out _⟩
                      case measure => simp [intOf]; omega
                    · have hkd : decide (o.k = 1) = false := decide_eq_false hk1
                      have hkd2 : (o.k == 1) = false := beq_eq_false_iff_ne.2 hk1
                      go_wp2
                      go_quiet (fail)
                      go_wp2
                      go_roundw
                      case rel => exact ⟨j + 1, by omega, by go_num, false, rfl, (by show _ = _; rw [HTS.out, ← HBT.out]; simp [hk1]), below_drewN' HBJ.out _⟩
                      case measure => simp [intOf]; omega
                  · have hke : ¬ (str o.key).toList = (str q.1).toList := fun e => hkq (by rw [str_toList, str_toList] at e; exact ofNat_inj HOK.out.key BQ.out e)
                    have hkb : ((str o.key).toList == (str q.1).toList) = false := by rw [beq_eq_false_iff_ne]; exact hke
                    go_wp2
                    go_quiet (fail)
                    go_wp2
                    go_roundw
                    case rel => exact ⟨j + 1, by omega, by go_num, false, rfl, (by show _ = _; rw [HTS.out, ← HBT.out]; simp [hkq]), below_drewN' HBJ.out _⟩
                    case measure => simp [intOf]; omega
              · obtain rfl : j = len := by omega
                have HBM : Hid (b = touchB q.1 ms) := by
                  have h := HBT.out
                  rw [List.take_of_length_le (by have := HLEN.out; omega)] at h
                  exact h
                have HBK := hid HBJ.out
                clear HBT HBJ
                go_wp2
                obtain ⟨ws, rfl⟩ : ∃ ws, ws = wr := ⟨_, rfl⟩
                go_loopw [20, 21] (fun tb i wr => ∃ j : Nat, j ≤ nv ∧ i = .int .i64 j ∧ ∃ b : Bool, tb = .bool b ∧ Hid (b = decide (q.1 ∈ T.take j)) ∧ Below ws.heap.size ws wr) (fun _ i _ => nv - (intOf i).toNat)
                case atStart => exact ⟨0, by omega, rfl, false, rfl, by show _ = _; simp, Below.refl _ _⟩
                case round =>
                  obtain ⟨j, hj, rfl, b2, rfl, HBT, hbj⟩ := hrel
                  have HBJ := hid hbj
                  clear hbj q0
                  have q0 := below_keep HBJ.out _ _ (below_keep HBK.out _ _ Q0.out)
                  by_cases hjl : j < nv
                  · have hjli : (j : Int) < nv := by omega
                    obtain ⟨x, hx⟩ : ∃ x, T[j]? = some x := ⟨T[j]'(by have := HNV.out; omega), List.getElem?_eq_getElem _⟩
                    obtain ⟨ad, rfl, htx⟩ := (((HROW.out.below HBR.out).below HBK.out).below HBJ.out).txt hx
                    have BX := hid (HP.out.bT x (List.mem_of_getElem? hx))
                    have HTS : Hid (T.take (j + 1) = T.take j ++ [x]) := by show _ = _; rw [List.take_add_one, hx]; rfl
                    clear hx
                    cases b2 with
                    | true =>
                      have hm : q.1 ∈ T.take j := of_decide_eq_true HBT.out.symm
                      go_wp2
                      go_quiet (fail)
                      go_wp2
                      go_roundw
                      case rel => exact ⟨j + 1, by omega, by go_num, true, rfl, (by show _ = _; rw [HTS.out]; simp [hm]), below_drewN' HBJ.out _⟩
                      case measure => simp [intOf]; omega
                    | false =>
                      by_cases hkq : x = q.1
                      · rw [hkq] at htx
                        go_wp2
                        go_quiet (fail)
                        go_wp2
                        go_roundw
                        case rel => exact ⟨j + 1, by omega, by go_num, true, rfl, (by show _ = _; rw [HTS.out]; simp [hkq]), below_drewN' HBJ.out _⟩
                        case measure => simp [intOf]; omega
                      · have hke : ¬ (str x).toList = (str q.1).toList := fun e => hkq (by rw [str_toList, str_toList] at e; exact ofNat_inj BX.out BQ.out e)
                        have hkb : ((str x).toList == (str q.1).toList) = false := by rw [beq_eq_false_iff_ne]; exact hke
                        have hm : ¬ q.1 ∈ T.take j := of_decide_eq_false HBT.out.symm
                        have hkq2 : ¬ q.1 = x := fun e => hkq e.symm
                        go_wp2
                        go_quiet (fail)
                        go_wp2
                        go_roundw
                        case rel => exact ⟨j + 1, by omega, by go_num, false, rfl, (by show _ = _; rw [HTS.out]; simp [hm, hkq2]), below_drewN' HBJ.out _⟩
                        case measure => simp [intOf]; omega
                  · obtain rfl : j = nv := by omega
                    have HIS : Hid (b2 = decide (q.1 ∈ T)) := by
                      have h := HBT.out
                      rw [List.take_of_length_le (by have := HNV.out; omega)] at h
                      exact h
                    clear HBT q0
                    have hb12 : b = true ∨ b2 = true := by
                      rcases HOR.out with h | h
                      · exact .inl (HBM.out.trans h)
                      · exact .inr (HIS.out.trans (decide_eq_true h))
                    cases b with
                    | true =>
                      go_wp2
                      go_roundw
                      case rel => exact ⟨y + 1, by omega, by go_num, below_step (below_step HBR.out HBK.out) HBJ.out⟩
                      case measure => simp [intOf]; omega
                    | false =>
                      obtain rfl : b2 = true := hb12.resolve_left (by decide)
                      clear hb12
                      go_wp2
                      go_roundw
                      case rel => exact ⟨y + 1, by omega, by go_num, below_step (below_step HBR.out HBK.out) HBJ.out⟩
                      case measure => simp [intOf]; omega
          · obtain rfl : y = nw := by omega
            go_wp2_with fail
            refine (awake5_yes _).mono ?_
            rintro e wz ⟨rfl, hbz⟩
            go_wp2
            go_ret
            exact ⟨rfl, below_step HB0.out (below_step HS4.out.since (below_step HBR.out hbz))⟩
      | some q =>
        obtain ⟨hp, hlast, hinb, bq⟩ := HP.out.next HS.out.t.rise HS.out.t.byt hN
        have HP' := hid hp
        have HLAST := hid hlast
        have HINB := hid hinb
        have BQ := hid bq
        have HAT := hid (atN_behind HS.out.t.rise hN)
        clear hp hlast hinb bq
        go_wp2_with fail
        refine (next_some HC.out HS.out.t (by omega) HP.out.keyed (fun b hb => by cases hb) HP.out.bat hN).mono ?_
        rintro e w4 ⟨rfl, hcu, hch⟩
        have HS4 := hid (HS.out.aside hch hcW hca HCG.out.1 HCG.out.2)
        have HC4 := hid hcu
        have HT4 := hid (HT.out.keep fun b hb => hch.block b (HT.out.lt b hb).2 (by simp; have := (HT.out.lt b hb).1; omega))
        have HW4 := hid (HW.out.keep fun b hb => hch.block b (Nat.lt_of_lt_of_le (HWF.out b hb).1 HSZ.out) (by simp; exact (HWF.out b hb).2.1))
        have HSZ4 := hid (Nat.le_trans HSZ.out hch.size)
        have HGR : Hid (∀ b ∈ ownFoot (.slice Av nv cv), wB.heap.size ≤ b ∧ b ≠ a ∧ b ∉ G2 ∧ ¬ P2 b) := fun b hb => by
          have h1 := (HT.out.lt b hb).1
          exact ⟨by omega, by omega, (HD.out b hb).1, (HD.out b hb).2⟩
        have HCO : Hid (c ∉ ownFoot (.slice Av nv cv)) := fun h => by have := (HT.out.lt c h).1; omega
        have HWO : Hid (∀ b ∈ ownFoot (.slice Aw nw cw), b ∉ ownFoot (.slice Av nv cv)) := fun b hb h => by have h1 := (HT.out.lt b h).1; have h2 := (HWF.out b hb).1; omega
        clear hcu hch x0 x1
        have x0 := below_keep HS4.out.since _ _ X0.out
        have x1 := below_keep HS4.out.since _ _ X1.out
        by_cases hT0 : nv = 0
        · have hni : ¬ (0 : Int) < (nv : Int) := by omega
          clear hT0
          go_wp2_with fail
          rw [HE.out]
          refine (in_any _ q.1 K [] BQ.out BK.out (fun b hb => by cases hb)).mono ?_
          rw [HINB.out]
          rintro e w6 ⟨rfl, rfl⟩
          go_wp2_with (at_builtin; refine wpList_append_rows _ rfl (.tmp 136) (.tmp 138) 62 rfl w5.heap.size 9 i0 _ 1 16 Try.underlying62 hi hz0 hz1 hz2 rfl (by omega) cT_one' (.slice Av nv cv) T rfl (HT4.out.alloc _) _ [q.1] rfl (rows_new _ 1 cT cT_len q.1 9) (by unfold maxLen; simp; omega) (by simp; omega) (Nat.le_trans HSZ4.out (by simp)) ?_; intro v' w7 hown hgr hf)
          have HS7 := hid ((HS4.out.below_ ((Below.refl _ _).alloc (Nat.le_refl _) _)).grown hgr (fun b e => HGR.out b (mem_ownFoot.2 e)))
          have HC7 := hid ((HC4.out.below ((Below.refl _ _).alloc (Nat.le_refl _) _)).keep (hgr.block c (Nat.lt_of_lt_of_le HC4.out.lt (by simp)) (fun e => HCO.out (mem_ownFoot.2 e.symm))))
          have HW7 := hid ((HW4.out.below ((Below.refl _ _).alloc (Nat.le_refl _) _)).keep (fun b hb => hgr.block b (Nat.lt_of_lt_of_le (Nat.lt_of_lt_of_le (HWF.out b hb).1 HSZ4.out) (by simp)) (fun e => HWO.out b hb (mem_ownFoot.2 e.symm))))
          have HT7 := hid hown
          have HD7 : Hid (∀ b ∈ ownFoot v', b ∉ G2 ∧ ¬ P2 b) := fun b hb => by
            rcases hf b hb with h | h
            · exact HD.out b h
            · simp at h
              exact ⟨fun hG => by have := HS4.out.r.lt b hG; omega, fun hP => by have := HS4.out.t.under b hP; omega⟩
          have HSZ7 : Hid (w5.heap.size ≤ w7.heap.size) := Nat.le_trans (Nat.le_trans HSZ4.out (by simp)) hgr.size
          clear hown hgr hf
          go_roundw
          case rel => first | exact ⟨k + 1, by omega, by go_num, T ++ [q.1], q.1 ++ [0], L, P2, G2, HP'.out, ⟨by omega, fun h => by omega, by rw [List.length_append]; simp; omega, fun h => by rw [HAT.out]; omega⟩, HS7.out, HC7.out, HT7.out, HCG.out, HD7.out, HW7.out, HSZ7.out⟩ | ((repeat apply Exists.intro); refine ⟨?_, rfl⟩; exact ⟨k + 1, by omega, by go_num, T ++ [q.1], q.1 ++ [0], L, P2, G2, HP'.out, ⟨by omega, fun h => by omega, by rw [List.length_append]; simp; omega, fun h => by rw [HAT.out]; omega⟩, HS7.out, HC7.out, HT7.out, HCG.out, HD7.out, HW7.out, HSZ7.out⟩)
          case measure => simp [intOf]; omega
        · obtain ⟨j, hj⟩ : ∃ j, nv = j + 1 := ⟨nv - 1, by omega⟩
          obtain ⟨x, hx⟩ : ∃ x, T[j]? = some x := ⟨T[j]'(by have := HNV.out; omega), List.getElem?_eq_getElem _⟩
          obtain ⟨ad, hAv, htx⟩ := HT4.out.rows.txt hx
          subst hAv
          have hxq := HLAST.out x (List.mem_of_getElem? hx)
          have bx := HP.out.bT x (List.mem_of_getElem? hx)
          have e4 : Op.bytesLess (str q.1).toList (str x).toList = false := by rw [less_str BQ.out bx, decide_eq_false (fun h => List.lt_irrefl _ (List.lt_trans h hxq))]
          have e6 : ¬ (str q.1).toList = (str x).toList := fun e => by rw [str_toList, str_toList] at e; rw [ofNat_inj BQ.out bx e] at hxq; exact List.lt_irrefl _ hxq
          have e7 : ((str q.1).toList == (str x).toList) = false := by rw [beq_eq_false_iff_ne]; exact e6
          have hni : (0 : Int) < (nv : Int) := by omega
          have hjn : (nv : Int) - 1 = (j : Int) := by omega
          have hjn2 : IntKind.i64.wrap ((nv : Int) - 1) = (j : Int) := by rw [hjn]; exact IntWalk.i64_in _ (by omega)
          have hjl : (j : Int) < (nv : Int) := by omega
          clear hx hxq bx hj hT0
          go_wp2_with fail
          rw [HE.out]
          refine (in_any _ q.1 K [] BQ.out BK.out (fun b hb => by cases hb)).mono ?_
          rw [HINB.out]
          rintro e w6 ⟨rfl, rfl⟩
          go_wp2_with (at_builtin; refine wpList_append_rows _ rfl (.tmp 136) (.tmp 138) 62 rfl w5.heap.size 9 i0 _ 1 16 Try.underlying62 hi hz0 hz1 hz2 rfl (by omega) cT_one' (.slice (some ad) nv cv) T rfl (HT4.out.alloc _) _ [q.1] rfl (rows_new _ 1 cT cT_len q.1 9) (by unfold maxLen; simp; omega) (by simp; omega) (Nat.le_trans HSZ4.out (by simp)) ?_; intro v' w7 hown hgr hf)
          have HS7 := hid ((HS4.out.below_ ((Below.refl _ _).alloc (Nat.le_refl _) _)).grown hgr (fun b e => HGR.out b (mem_ownFoot.2 e)))
          have HC7 := hid ((HC4.out.below ((Below.refl _ _).alloc (Nat.le_refl _) _)).keep (hgr.block c (Nat.lt_of_lt_of_le HC4.out.lt (by simp)) (fun e => HCO.out (mem_ownFoot.2 e.symm))))
          have HW7 := hid ((HW4.out.below ((Below.refl _ _).alloc (Nat.le_refl _) _)).keep (fun b hb => hgr.block b (Nat.lt_of_lt_of_le (Nat.lt_of_lt_of_le (HWF.out b hb).1 HSZ4.out) (by simp)) (fun e => HWO.out b hb (mem_ownFoot.2 e.symm))))
          have HT7 := hid hown
          have HD7 : Hid (∀ b ∈ ownFoot v', b ∉ G2 ∧ ¬ P2 b) := fun b hb => by
            rcases hf b hb with h | h
            · exact HD.out b h
            · simp at h
              exact ⟨fun hG => by have := HS4.out.r.lt b hG; omega, fun hP => by have := HS4.out.t.under b hP; omega⟩
          have HSZ7 : Hid (w5.heap.size ≤ w7.heap.size) := Nat.le_trans (Nat.le_trans HSZ4.out (by simp)) hgr.size
          clear hown hgr hf
          go_roundw
          case rel => first | exact ⟨k + 1, by omega, by go_num, T ++ [q.1], q.1 ++ [0], L, P2, G2, HP'.out, ⟨by omega, fun h => by omega, by rw [List.length_append]; simp; omega, fun h => by rw [HAT.out]; omega⟩, HS7.out, HC7.out, HT7.out, HCG.out, HD7.out, HW7.out, HSZ7.out⟩ | ((repeat apply Exists.intro); refine ⟨?_, rfl⟩; exact ⟨k + 1, by omega, by go_num, T ++ [q.1], q.1 ++ [0], L, P2, G2, HP'.out, ⟨by omega, fun h => by omega, by rw [List.length_append]; simp; omega, fun h => by rw [HAT.out]; omega⟩, HS7.out, HC7.out, HT7.out, HCG.out, HD7.out, HW7.out, HSZ7.out⟩)
          case measure => simp [intOf]; omega
set_option maxHeartbeats 8000000 in
theorem stays_okC (w : World) (v v2 : Value) (os ms : List Cl) (K V : List Nat) (hv : Elems 3 cO w v os) (hv2 : Elems 3 cO w v2 ms) (hfm : fewB ms = true) (hom : ClsOk ms) (hml : ms.length ≤ 100) (hos : ClsOk os) (bK : Byt K) (bV : Byt V) (hf : fewB os = true) (hs : shortB K V = true) (hn : V ≠ []) (hlt : ¬ V < K) : Calls Try.prog 14 #[v, two2 K V, v2] w (Yes w) := by
  obtain ⟨wB, HW⟩ : ∃ W, Hid (W = w.alloc (.cells #[.string (str K), .string (str V)] 48)) := ⟨_, rfl⟩
  obtain ⟨x0, x1, b0⟩ := boxed w K V 48
  rw [← HW.out] at x0 x1 b0
  have HB0 := hid b0
  have X0 := hid x0
  have X1 := hid x1
  clear x0 x1 b0
  obtain ⟨e1, e2⟩ := ne_nil_str hn
  have e3 : Op.bytesLess (str V).toList (str K).toList = false := by rw [less_str bV bK, decide_eq_false hlt]
  have BV := hid bV
  have BK := hid bK
  have HE := hid str_nil
  obtain ⟨hK, hV⟩ : K.length ≤ 300 ∧ V.length ≤ 300 := by unfold shortB at hs; exact of_decide_eq_true hs
  obtain ⟨A2, cap2, rfl⟩ := hv2.slice
  have hmi : ¬ (100 : Int) < ms.length := by omega
  unfold two2
  go_enter Try.func14, Try.ntmps14
  go_wp2_with fail
  rw [← HW.out]
  refine (few_any wB _ os (hv.below HB0.out)).mono ?_
  rw [hf]
  rintro e w1 ⟨rfl, rfl⟩
  go_wp2_with fail
  refine (few_any wB _ ms (hv2.below HB0.out)).mono ?_
  rw [hfm]
  rintro e w1 ⟨rfl, rfl⟩
  have x0 := X0.out
  have x1 := X1.out
  go_wp2_with fail
  refine (short_any wB K V).mono ?_
  rw [hs]
  rintro e w2 ⟨rfl, hb2⟩
  have HB2 := hid hb2
  clear hb2
  go_wp2_with fail
  refine (made_ok w2 2 (by decide) (by decide) v os ((hv.below HB0.out).below HB2.out) hos hf).mono ?_
  rintro e w1 ⟨a, p, P, G, rfl, hst⟩
  have HS : Hid (St wB w1 P G a p (runL [] os) 2) := ⟨hst.t, hst.r, hst.n, hst.m, ((Chg.of_below (F := []) HB2.out).less (K := []) (fun k hk => by cases hk)).trans hst.c⟩
  clear hst x0 x1
  have x0 := below_keep HS.out.since _ _ X0.out
  have x1 := below_keep HS.out.since _ _ X1.out
  obtain ⟨i0, hi, hz0, hz1, hz2⟩ := info_parts sinfo
  have HV2 := hid (hv2.below HB0.out)
  have HOM := hid hom
  have HFM := hid (fewB_yes hfm).1
  obtain ⟨len, HLEN⟩ : ∃ len, Hid (len = ms.length) := ⟨_, rfl⟩
  have hl100 : len ≤ 100 := by rw [HLEN.out]; exact hml
  rw [← HLEN.out] at HV2 ⊢
  have hLL := run_few hf
  obtain ⟨L0, HLE⟩ : ∃ L, Hid (L = runL [] os) := ⟨_, rfl⟩
  have HKY : Hid (Keyed L0) := by rw [HLE.out]; exact run_keyed os
  rw [← HLE.out] at HS hLL
  have hal := HS.out.t.lt
  have hpl := HS.out.r.lt _ HS.out.r.mem
  go_wp2_with fail
  refine (new_ok _ a K V BK.out BV.out (by omega) (by omega) (.inr hlt)).mono ?_
  rintro e w3 ⟨c, rfl, hb3, hc3, hcur⟩
  have HC3 := hid hcur
  have HS3 := hid (HS.out.below_ hb3)
  have hcl := hcur.lt
  have hs3 := hb3.size
  have hcW : wB.heap.size ≤ c := Nat.le_trans HS.out.since.size hc3
  have HCG3 : Hid (c ∉ G ∧ ¬ P c) := ⟨fun h => by have := HS.out.r.lt c h; omega, fun h => by have := HS.out.t.under c h; omega⟩
  have hca : c ≠ a := by omega
  have hcp : c ≠ p := by omega
  clear x0 x1 hcur hb3 hv2 hom hml hfm
  have x0 := below_keep HS3.out.since _ _ X0.out
  have x1 := below_keep HS3.out.since _ _ X1.out
  go_wp2_with fail
  refine (range_any _ G p 1000 L0 K V HS3.out.r HS3.out.t.byt (by omega) BK.out BV.out (by decide)).mono ?_
  rintro e w5 ⟨vw, rfl, hw5, hb5⟩
  have hwas : (L0.filter (inQ K V)).take 1000 = L0.filter (inQ K V) := List.take_of_length_le (Nat.le_trans (List.length_filter_le _ _) (by omega))
  rw [hwas] at hw5
  obtain ⟨was, HWAS⟩ : ∃ W, Hid (W = L0.filter (inQ K V)) := ⟨_, rfl⟩
  rw [← HWAS.out] at hw5
  have HWL : Hid (was.length ≤ 200) := by show _ ≤ _; rw [HWAS.out]; exact Nat.le_trans (List.length_filter_le _ _) (by omega)
  obtain ⟨Aw, nw, cw, rfl⟩ := hw5.rows.form
  have HNW : Hid (nw = was.length) := hw5.rows.cap.1
  have HWF : Hid (∀ b ∈ ownFoot (.slice Aw nw cw), b < w5.heap.size ∧ b ≠ c ∧ b ≠ a ∧ b ≠ p) := fun b hb => by have := hw5.lt b hb; omega
  have HW5 := hid hw5.rows
  have HS5 := hid (HS3.out.below_ hb5)
  have HC5 := hid (HC3.out.below hb5)
  have hs5 := hb5.size
  have HP0 : Hid (SP was K V (ms.take 0) L0 K []) := ⟨BK.out, HKY.out, List.lt_irrefl _, by rw [HWAS.out]; exact Tells.start HS5.out.t.rise, by simp⟩
  clear hw5 hb5 x0 x1 hwas
  go_wp2
  go_loopw [12, 13] (fun tv i wr => ∃ k : Nat, k ≤ len + 1000 ∧ i = .int .i64 k ∧ ∃ (T : List (List Nat)) (at_ : List Nat) (L : List Pr) (P : Bl) (G : List Nat), Hid (SP was K V (ms.take k) L at_ T) ∧ Hid (L.length ≤ 200 + k ∧ (len ≤ k → L.length ≤ 200 + len) ∧ T.length ≤ k ∧ (len ≤ k → k - len ≤ atN L at_)) ∧ St wB wr P G a p L 2 ∧ CurAt wr c a K V at_ ∧ OwnElems 1 cT 9 wr w5.heap.size tv T ∧ Hid (c ∉ G ∧ ¬ P c) ∧ Hid (∀ b ∈ ownFoot tv, b ∉ G ∧ ¬ P b) ∧ Elems 2 cP wr (.slice Aw nw cw) was ∧ Hid (w5.heap.size ≤ wr.heap.size)) (fun _ i _ => len + 1000 - (intOf i).toNat)
  case atStart => exact ⟨0, by omega, rfl, [], K, L0, P, G, HP0.out, ⟨by omega, fun h => by omega, by simp, fun h => by omega⟩, HS5.out, HC5.out, OwnElems.nil _ _ _ _ _, HCG3.out, fun b hb => by simp [ownFoot, Value.ownBlock] at hb, HW5.out, Nat.le_refl _⟩
  case round =>
    obtain ⟨k, hk, rfl, T, at_, L, P2, G2, HP, HNUM, hst, hcu, hto, HCG, HD, hwl, HSZ⟩ := hrel
    obtain ⟨Av, nv, cv, rfl⟩ := hto.rows.form
    have HS := hid hst
    have HC := hid hcu
    have HT := hid hto
    have HW := hid hwl
    have HNV : Hid (nv = T.length) := hto.rows.cap.1
    obtain ⟨n1, n2, n3, n4⟩ := HNUM.out
    have hnvk : nv ≤ k := by rw [HNV.out]; exact n3
    have hwBa : wB.heap.size ≤ w5.heap.size := by have := HS5.out.since.size; omega
    have x0 := below_keep HS.out.since _ _ X0.out
    have x1 := below_keep HS.out.since _ _ X1.out
    clear hst hcu hto hwl
    by_cases hlt2 : k < len
    · have hlti : (k : Int) < len := by omega
      have hki : (k : Int) < (len : Int) + 1000 := by omega
      obtain ⟨o, ho⟩ : ∃ o, ms[k]? = some o := ⟨ms[k]'(by have := HLEN.out; omega), List.getElem?_eq_getElem _⟩
      obtain ⟨adm, rfl, m0, m1, m2⟩ := (HV2.out.below HS.out.since).opAt ho
      have HOK := hid (HOM.out.ok o (List.mem_of_getElem? ho))
      have HOF := hid (HFM.out o (List.mem_of_getElem? ho))
      have HPD := hid (HP.out.does HS.out.t.rise ho)
      have hsl := stepL_len L o
      clear ho
      go_wp2_with fail
      refine (doesX_any HS.out o HOK.out HOF.out.1 HOF.out.2 (by omega)).mono ?_
      rintro e w6 ⟨rfl, P6, G6, hst6, hch6, hP6, hG6⟩
      obtain ⟨L1, hL1⟩ : ∃ x, x = stepL L o := ⟨_, rfl⟩
      rw [← hL1] at hst6 hsl HPD
      have HC_ := hid (HC.out.chg hch6 (by simp; omega))
      have HT_ := hid (HT.out.keep fun b hb => hch6.block b (HT.out.lt b hb).2 (by simp; have := (HT.out.lt b hb).1; omega))
      have HW_ := hid (HW.out.keep fun b hb => hch6.block b (Nat.lt_of_lt_of_le (HWF.out b hb).1 HSZ.out) (by simp; exact ⟨(HWF.out b hb).2.2.1, (HWF.out b hb).2.2.2⟩))
      have HCG_ : Hid (c ∉ G6 ∧ ¬ P6 c) := ⟨fun h => (hG6 c h).elim HCG.out.1 fun h => by have := HC.out.lt; omega, fun h => (hP6 c h).elim HCG.out.2 fun h => by have := HC.out.lt; omega⟩
      have HD_ : Hid (∀ b ∈ ownFoot (.slice Av nv cv), b ∉ G6 ∧ ¬ P6 b) := fun b hb => ⟨fun h => (hG6 b h).elim (HD.out b hb).1 fun h => by have := (HT.out.lt b hb).2; omega, fun h => (hP6 b h).elim (HD.out b hb).2 fun h => by have := (HT.out.lt b hb).2; omega⟩
      have HSZ_ := hid (Nat.le_trans HSZ.out hch6.size)
      clear HS HC HT HW HCG HD HSZ HP hch6 hP6 hG6 hL1 m0 m1 m2 x0 x1 HNUM
      have HS := hid hst6
      have HC := HC_
      have HT := HT_
      have HW := HW_
      have HCG := HCG_
      have HD := HD_
      have HSZ := HSZ_
      have HP := HPD
      clear hst6 HC_ HT_ HW_ HCG_ HD_ HSZ_ HPD
      have x0 := below_keep HS.out.since _ _ X0.out
      have x1 := below_keep HS.out.since _ _ X1.out
      cases hN : nxt L1 V at_ with
      | none =>
        go_wp2_with fail
        refine (next_none HC.out HS.out.t (by omega) BV.out HP.out.bat hN).mono ?_
        rintro e w4 ⟨rfl, hb4⟩
        have HS4 := hid (HS.out.below_ hb4)
        have HC4 := hid (HC.out.below hb4)
        have HT4 := hid (HT.out.keep fun b hb => hb4.block b (HT.out.lt b hb).2)
        have HW4 := hid (HW.out.below hb4)
        have HSZ4 := hid (Nat.le_trans HSZ.out hb4.size)
        clear hb4 x0 x1
        go_wp2
        go_roundw
        case rel => first | exact ⟨k + 1, by omega, by go_num, T, at_, L1, P6, G6, HP.out, ⟨by omega, fun h => by omega, by omega, fun h => by omega⟩, HS4.out, HC4.out, HT4.out, HCG.out, HD.out, HW4.out, HSZ4.out⟩ | ((repeat apply Exists.intro); refine ⟨?_, rfl⟩; exact ⟨k + 1, by omega, by go_num, T, at_, L1, P6, G6, HP.out, ⟨by omega, fun h => by omega, by omega, fun h => by omega⟩, HS4.out, HC4.out, HT4.out, HCG.out, HD.out, HW4.out, HSZ4.out⟩)
        case measure => simp [intOf]; omega
      | some q =>
        obtain ⟨hp, hlast, hinb, bq⟩ := HP.out.next HS.out.t.rise HS.out.t.byt hN
        have HP' := hid hp
        have HLAST := hid hlast
        have HINB := hid hinb
        have BQ := hid bq
        have HAT := hid (atN_behind HS.out.t.rise hN)
        clear hp hlast hinb bq
        go_wp2_with fail
        refine (next_some HC.out HS.out.t (by omega) HP.out.keyed BV.out HP.out.bat hN).mono ?_
        rintro e w4 ⟨rfl, hcu, hch⟩
        have HS4 := hid (HS.out.aside hch hcW hca HCG.out.1 HCG.out.2)
        have HC4 := hid hcu
        have HT4 := hid (HT.out.keep fun b hb => hch.block b (HT.out.lt b hb).2 (by simp; have := (HT.out.lt b hb).1; omega))
        have HW4 := hid (HW.out.keep fun b hb => hch.block b (Nat.lt_of_lt_of_le (HWF.out b hb).1 HSZ.out) (by simp; exact (HWF.out b hb).2.1))
        have HSZ4 := hid (Nat.le_trans HSZ.out hch.size)
        have HGR : Hid (∀ b ∈ ownFoot (.slice Av nv cv), wB.heap.size ≤ b ∧ b ≠ a ∧ b ∉ G6 ∧ ¬ P6 b) := fun b hb => by
          have h1 := (HT.out.lt b hb).1
          exact ⟨by omega, by omega, (HD.out b hb).1, (HD.out b hb).2⟩
        have HCO : Hid (c ∉ ownFoot (.slice Av nv cv)) := fun h => by have := (HT.out.lt c h).1; omega
        have HWO : Hid (∀ b ∈ ownFoot (.slice Aw nw cw), b ∉ ownFoot (.slice Av nv cv)) := fun b hb h => by have h1 := (HT.out.lt b h).1; have h2 := (HWF.out b hb).1; omega
        clear hcu hch x0 x1
        have x0 := below_keep HS4.out.since _ _ X0.out
        have x1 := below_keep HS4.out.since _ _ X1.out
        by_cases hT0 : nv = 0
        · have hni : ¬ (0 : Int) < (nv : Int) := by omega
          clear hT0
          go_wp2_with fail
          refine (in_any _ q.1 K V BQ.out BK.out BV.out).mono ?_
          rw [HINB.out]
          rintro e w6 ⟨rfl, rfl⟩
          go_wp2_with (at_builtin; refine wpList_append_rows _ rfl (.tmp 136) (.tmp 138) 62 rfl w5.heap.size 9 i0 _ 1 16 Try.underlying62 hi hz0 hz1 hz2 rfl (by omega) cT_one' (.slice Av nv cv) T rfl (HT4.out.alloc _) _ [q.1] rfl (rows_new _ 1 cT cT_len q.1 9) (by unfold maxLen; simp; omega) (by simp; omega) (Nat.le_trans HSZ4.out (by simp)) ?_; intro v' w7 hown hgr hf)
          have HS7 := hid ((HS4.out.below_ ((Below.refl _ _).alloc (Nat.le_refl _) _)).grown hgr (fun b e => HGR.out b (mem_ownFoot.2 e)))
          have HC7 := hid ((HC4.out.below ((Below.refl _ _).alloc (Nat.le_refl _) _)).keep (hgr.block c (Nat.lt_of_lt_of_le HC4.out.lt (by simp)) (fun e => HCO.out (mem_ownFoot.2 e.symm))))
          have HW7 := hid ((HW4.out.below ((Below.refl _ _).alloc (Nat.le_refl _) _)).keep (fun b hb => hgr.block b (Nat.lt_of_lt_of_le (Nat.lt_of_lt_of_le (HWF.out b hb).1 HSZ4.out) (by simp)) (fun e => HWO.out b hb (mem_ownFoot.2 e.symm))))
          have HT7 := hid hown
          have HD7 : Hid (∀ b ∈ ownFoot v', b ∉ G6 ∧ ¬ P6 b) := fun b hb => by
            rcases hf b hb with h | h
            · exact HD.out b h
            · simp at h
              exact ⟨fun hG => by have := HS4.out.r.lt b hG; omega, fun hP => by have := HS4.out.t.under b hP; omega⟩
          have HSZ7 : Hid (w5.heap.size ≤ w7.heap.size) := Nat.le_trans (Nat.le_trans HSZ4.out (by simp)) hgr.size
          clear hown hgr hf
          go_roundw
          case rel => first | exact ⟨k + 1, by omega, by go_num, T ++ [q.1], q.1 ++ [0], L1, P6, G6, HP'.out, ⟨by omega, fun h => by omega, by rw [List.length_append]; simp; omega, fun h => by rw [HAT.out]; omega⟩, HS7.out, HC7.out, HT7.out, HCG.out, HD7.out, HW7.out, HSZ7.out⟩ | ((repeat apply Exists.intro); refine ⟨?_, rfl⟩; exact ⟨k + 1, by omega, by go_num, T ++ [q.1], q.1 ++ [0], L1, P6, G6, HP'.out, ⟨by omega, fun h => by omega, by rw [List.length_append]; simp; omega, fun h => by rw [HAT.out]; omega⟩, HS7.out, HC7.out, HT7.out, HCG.out, HD7.out, HW7.out, HSZ7.out⟩)
          case measure => simp [intOf]; omega
        · obtain ⟨j, hj⟩ : ∃ j, nv = j + 1 := ⟨nv - 1, by omega⟩
          obtain ⟨x, hx⟩ : ∃ x, T[j]? = some x := ⟨T[j]'(by have := HNV.out; omega), List.getElem?_eq_getElem _⟩
          obtain ⟨ad, hAv, htx⟩ := HT4.out.rows.txt hx
          subst hAv
          have hxq := HLAST.out x (List.mem_of_getElem? hx)
          have bx := HP.out.bT x (List.mem_of_getElem? hx)
          have e4 : Op.bytesLess (str q.1).toList (str x).toList = false := by rw [less_str BQ.out bx, decide_eq_false (fun h => List.lt_irrefl _ (List.lt_trans h hxq))]
          have e6 : ¬ (str q.1).toList = (str x).toList := fun e => by rw [str_toList, str_toList] at e; rw [ofNat_inj BQ.out bx e] at hxq; exact List.lt_irrefl _ hxq
          have e7 : ((str q.1).toList == (str x).toList) = false := by rw [beq_eq_false_iff_ne]; exact e6
          have hni : (0 : Int) < (nv : Int) := by omega
          have hjn : (nv : Int) - 1 = (j : Int) := by omega
          have hjn2 : IntKind.i64.wrap ((nv : Int) - 1) = (j : Int) := by rw [hjn]; exact IntWalk.i64_in _ (by omega)
          have hjl : (j : Int) < (nv : Int) := by omega
          clear hx hxq bx hj hT0
          go_wp2_with fail
          refine (in_any _ q.1 K V BQ.out BK.out BV.out).mono ?_
          rw [HINB.out]
          rintro e w6 ⟨rfl, rfl⟩
          go_wp2_with (at_builtin; refine wpList_append_rows _ rfl (.tmp 136) (.tmp 138) 62 rfl w5.heap.size 9 i0 _ 1 16 Try.underlying62 hi hz0 hz1 hz2 rfl (by omega) cT_one' (.slice (some ad) nv cv) T rfl (HT4.out.alloc _) _ [q.1] rfl (rows_new _ 1 cT cT_len q.1 9) (by unfold maxLen; simp; omega) (by simp; omega) (Nat.le_trans HSZ4.out (by simp)) ?_; intro v' w7 hown hgr hf)
          have HS7 := hid ((HS4.out.below_ ((Below.refl _ _).alloc (Nat.le_refl _) _)).grown hgr (fun b e => HGR.out b (mem_ownFoot.2 e)))
          have HC7 := hid ((HC4.out.below ((Below.refl _ _).alloc (Nat.le_refl _) _)).keep (hgr.block c (Nat.lt_of_lt_of_le HC4.out.lt (by simp)) (fun e => HCO.out (mem_ownFoot.2 e.symm))))
          have HW7 := hid ((HW4.out.below ((Below.refl _ _).alloc (Nat.le_refl _) _)).keep (fun b hb => hgr.block b (Nat.lt_of_lt_of_le (Nat.lt_of_lt_of_le (HWF.out b hb).1 HSZ4.out) (by simp)) (fun e => HWO.out b hb (mem_ownFoot.2 e.symm))))
          have HT7 := hid hown
          have HD7 : Hid (∀ b ∈ ownFoot v', b ∉ G6 ∧ ¬ P6 b) := fun b hb => by
            rcases hf b hb with h | h
            · exact HD.out b h
            · simp at h
              exact ⟨fun hG => by have := HS4.out.r.lt b hG; omega, fun hP => by have := HS4.out.t.under b hP; omega⟩
          have HSZ7 : Hid (w5.heap.size ≤ w7.heap.size) := Nat.le_trans (Nat.le_trans HSZ4.out (by simp)) hgr.size
          clear hown hgr hf
          go_roundw
          case rel => first | exact ⟨k + 1, by omega, by go_num, T ++ [q.1], q.1 ++ [0], L1, P6, G6, HP'.out, ⟨by omega, fun h => by omega, by rw [List.length_append]; simp; omega, fun h => by rw [HAT.out]; omega⟩, HS7.out, HC7.out, HT7.out, HCG.out, HD7.out, HW7.out, HSZ7.out⟩ | ((repeat apply Exists.intro); refine ⟨?_, rfl⟩; exact ⟨k + 1, by omega, by go_num, T ++ [q.1], q.1 ++ [0], L1, P6, G6, HP'.out, ⟨by omega, fun h => by omega, by rw [List.length_append]; simp; omega, fun h => by rw [HAT.out]; omega⟩, HS7.out, HC7.out, HT7.out, HCG.out, HD7.out, HW7.out, HSZ7.out⟩)
          case measure => simp [intOf]; omega
    · have hlti : ¬ (k : Int) < len := by omega
      have hk2 : k < len + 1000 := by
        have := atN_le L at_
        have := n4 (by omega)
        have := n2 (by omega)
        omega
      have hki : (k : Int) < (len : Int) + 1000 := by omega
      have hli2 : (len : Int) ≤ (k : Int) := by omega
      have HP_ := hid (HP.out.stay (by have := HLEN.out; omega))
      have HPX : Hid (SP was K V (ms.take k) L at_ T) := HP.out
      clear HP
      have HP := HP_
      clear HP_
      cases hN : nxt L V at_ with
      | none =>
        go_wp2_with fail
        refine (next_none HC.out HS.out.t (by omega) BV.out HP.out.bat hN).mono ?_
        rintro e w4 ⟨rfl, hb4⟩
        have HS4 := hid (HS.out.below_ hb4)
        have HC4 := hid (HC.out.below hb4)
        have HT4 := hid (HT.out.keep fun b hb => hb4.block b (HT.out.lt b hb).2)
        have HW4 := hid (HW.out.below hb4)
        have HSZ4 := hid (Nat.le_trans HSZ.out hb4.size)
        clear hb4 x0 x1
        have HEND := hid (HP.out.tells.end_ HS.out.t.rise hN)
        have HEND2 : Hid (∀ q ∈ was, touchB q.1 ms = true ∨ q.1 ∈ T) := by
          have h := HEND.out
          rw [List.take_of_length_le (by have := HLEN.out; omega)] at h
          exact h
        have HVM := hid (HV2.out.below HS4.out.since)
        have HROW := hid HT4.out.rows
        have HBYT := hid HS5.out.t.byt
        clear hlti hli2 hki hk2
        have hn200 : nw ≤ 200 := by
          have h1 := HNW.out
          have h2 := HWL.out
          omega
        have x0 := below_keep HS4.out.since _ _ X0.out
        have x1 := below_keep HS4.out.since _ _ X1.out
        go_wp2
        obtain ⟨wq, rfl⟩ : ∃ wq, wq = w4 := ⟨_, rfl⟩
        go_loopw [17] (fun i wr => ∃ y : Nat, y ≤ nw ∧ i = .int .i64 y ∧ Below wq.heap.size wq wr) (fun i _ => nw - (intOf i).toNat)
        case atStart => exact ⟨0, by omega, rfl, Below.refl _ _⟩
        case round =>
          obtain ⟨y, hy, rfl, hbr⟩ := hrel
          have HBR := hid hbr
          clear hbr
          by_cases hlt : y < nw
          · have hlti : (y : Int) < nw := by omega
            obtain ⟨q, hq⟩ : ∃ q, was[y]? = some q := ⟨was[y]'(by have := HNW.out; omega), List.getElem?_eq_getElem _⟩
            obtain ⟨adw, hAW, q0, q1⟩ := (HW4.out.below HBR.out).pcell2 hq
            subst hAW
            have Q0 := hid q0
            have HOR := hid (HEND2.out q (List.mem_of_getElem? hq))
            have BQ : Hid (Byt q.1) := by
              have h := List.mem_of_getElem? hq
              rw [HWAS.out] at h
              exact (HBYT.out q (List.mem_filter.1 h).1).1
            clear hq q1
            go_wp2
            obtain ⟨wt, rfl⟩ : ∃ wt, wt = wr := ⟨_, rfl⟩
            go_loopw [18, 19] (fun tb i wr => ∃ j : Nat, j ≤ len ∧ i = .int .i64 j ∧ ∃ b : Bool, tb = .bool b ∧ Hid (b = touchB q.1 (ms.take j)) ∧ Below wt.heap.size wt wr) (fun _ i _ => len - (intOf i).toNat)
            case atStart => exact ⟨0, by omega, rfl, false, rfl, rfl, Below.refl _ _⟩
            case round =>
              obtain ⟨j, hj, rfl, b, rfl, HBT, hbj⟩ := hrel
              have HBJ := hid hbj
              clear hbj q0
              have q0 := below_keep HBJ.out _ _ Q0.out
              by_cases hjl : j < len
              · have hjli : (j : Int) < len := by omega
                obtain ⟨o, ho⟩ : ∃ o, ms[j]? = some o := ⟨ms[j]'(by have := HLEN.out; omega), List.getElem?_eq_getElem _⟩
                obtain ⟨adm, rfl, m0, m1, m2⟩ := ((HVM.out.below HBR.out).below HBJ.out).opAt ho
                have HOK := hid (HOM.out.ok o (List.mem_of_getElem? ho))
                have HTS := hid (touch_take_succ (x := q.1) ho)
                clear ho m2
                cases b with
                | true =>
                  go_wp2
                  go_quiet (fail)
                  go_wp2
                  go_roundw
                  case rel => exact ⟨j + 1, by omega, by go_num, true, rfl, (by show _ = _; rw [HTS.out, ← HBT.out]; simp []), below_drewN' HBJ.out _⟩
                  case measure => simp [intOf]; omega
                | false =>
                  by_cases hkq : o.key = q.1
                  · rw [hkq] at m1
                    by_cases hk1 : o.k = 1
                    · rw [hk1] at m0
                      go_wp2
                      go_quiet (fail)
                      go_wp2
                      go_roundw
                      case rel => exact ⟨j + 1, by omega, by go_num, true, rfl, (by show _ = _; rw [HTS.out, ← HBT.out]; simp [hkq, hk1]), below_drewN' HBJ.out _⟩
                      case measure => simp [intOf]; omega
                    · have hkd : decide (o.k = 1) = false := decide_eq_false hk1
                      have hkd2 : (o.k == 1) = false := beq_eq_false_iff_ne.2 hk1
                      go_wp2
                      go_quiet (fail)
                      go_wp2
                      go_roundw
                      case rel => exact ⟨j + 1, by omega, by go_num, false, rfl, (by show _ = _; rw [HTS.out, ← HBT.out]; simp [hk1]), below_drewN' HBJ.out _⟩
                      case measure => simp [intOf]; omega
                  · have hke : ¬ (str o.key).toList = (str q.1).toList := fun e => hkq (by rw [str_toList, str_toList] at e; exact ofNat_inj HOK.out.key BQ.out e)
                    have hkb : ((str o.key).toList == (str q.1).toList) = false := by rw [beq_eq_false_iff_ne]; exact hke
                    go_wp2
                    go_quiet (fail)
                    go_wp2
                    go_roundw
                    case rel => exact ⟨j + 1, by omega, by go_num, false, rfl, (by show _ = _; rw [HTS.out, ← HBT.out]; simp [hkq]), below_drewN' HBJ.out _⟩
                    case measure => simp [intOf]; omega
              · obtain rfl : j = len := by omega
                have HBM : Hid (b = touchB q.1 ms) := by
                  have h := HBT.out
                  rw [List.take_of_length_le (by have := HLEN.out; omega)] at h
                  exact h
                have HBK := hid HBJ.out
                clear HBT HBJ
                go_wp2
                obtain ⟨ws, rfl⟩ : ∃ ws, ws = wr := ⟨_, rfl⟩
                go_loopw [20, 21] (fun tb i wr => ∃ j : Nat, j ≤ nv ∧ i = .int .i64 j ∧ ∃ b : Bool, tb = .bool b ∧ Hid (b = decide (q.1 ∈ T.take j)) ∧ Below ws.heap.size ws wr) (fun _ i _ => nv - (intOf i).toNat)
                case atStart => exact ⟨0, by omega, rfl, false, rfl, by show _ = _; simp, Below.refl _ _⟩
                case round =>
                  obtain ⟨j, hj, rfl, b2, rfl, HBT, hbj⟩ := hrel
                  have HBJ := hid hbj
                  clear hbj q0
                  have q0 := below_keep HBJ.out _ _ (below_keep HBK.out _ _ Q0.out)
                  by_cases hjl : j < nv
                  · have hjli : (j : Int) < nv := by omega
                    obtain ⟨x, hx⟩ : ∃ x, T[j]? = some x := ⟨T[j]'(by have := HNV.out; omega), List.getElem?_eq_getElem _⟩
                    obtain ⟨ad, rfl, htx⟩ := (((HROW.out.below HBR.out).below HBK.out).below HBJ.out).txt hx
                    have BX := hid (HP.out.bT x (List.mem_of_getElem? hx))
                    have HTS : Hid (T.take (j + 1) = T.take j ++ [x]) := by show _ = _; rw [List.take_add_one, hx]; rfl
                    clear hx
                    cases b2 with
                    | true =>
                      have hm : q.1 ∈ T.take j := of_decide_eq_true HBT.out.symm
                      go_wp2
                      go_quiet (fail)
                      go_wp2
                      go_roundw
                      case rel => exact ⟨j + 1, by omega, by go_num, true, rfl, (by show _ = _; rw [HTS.out]; simp [hm]), below_drewN' HBJ.out _⟩
                      case measure => simp [intOf]; omega
                    | false =>
                      by_cases hkq : x = q.1
                      · rw [hkq] at htx
                        go_wp2
                        go_quiet (fail)
                        go_wp2
                        go_roundw
                        case rel => exact ⟨j + 1, by omega, by go_num, true, rfl, (by show _ = _; rw [HTS.out]; simp [hkq]), below_drewN' HBJ.out _⟩
                        case measure => simp [intOf]; omega
                      · have hke : ¬ (str x).toList = (str q.1).toList := fun e => hkq (by rw [str_toList, str_toList] at e; exact ofNat_inj BX.out BQ.out e)
                        have hkb : ((str x).toList == (str q.1).toList) = false := by rw [beq_eq_false_iff_ne]; exact hke
                        have hm : ¬ q.1 ∈ T.take j := of_decide_eq_false HBT.out.symm
                        have hkq2 : ¬ q.1 = x := fun e => hkq e.symm
                        go_wp2
                        go_quiet (fail)
                        go_wp2
                        go_roundw
                        case rel => exact ⟨j + 1, by omega, by go_num, false, rfl, (by show _ = _; rw [HTS.out]; simp [hm, hkq2]), below_drewN' HBJ.out _⟩
                        case measure => simp [intOf]; omega
                  · obtain rfl : j = nv := by omega
                    have HIS : Hid (b2 = decide (q.1 ∈ T)) := by
                      have h := HBT.out
                      rw [List.take_of_length_le (by have := HNV.out; omega)] at h
                      exact h
                    clear HBT q0
                    have hb12 : b = true ∨ b2 = true := by
                      rcases HOR.out with h | h
                      · exact .inl (HBM.out.trans h)
                      · exact .inr (HIS.out.trans (decide_eq_true h))
                    cases b with
                    | true =>
                      go_wp2
                      go_roundw
                      case rel => exact ⟨y + 1, by omega, by go_num, below_step (below_step HBR.out HBK.out) HBJ.out⟩
                      case measure => simp [intOf]; omega
                    | false =>
                      obtain rfl : b2 = true := hb12.resolve_left (by decide)
                      clear hb12
                      go_wp2
                      go_roundw
                      case rel => exact ⟨y + 1, by omega, by go_num, below_step (below_step HBR.out HBK.out) HBJ.out⟩
                      case measure => simp [intOf]; omega
          · obtain rfl : y = nw := by omega
            go_wp2_with fail
            refine (awake5_yes _).mono ?_
            rintro e wz ⟨rfl, hbz⟩
            go_wp2
            go_ret
            exact ⟨rfl, below_step HB0.out (below_step HS4.out.since (below_step HBR.out hbz))⟩
      | some q =>
        obtain ⟨hp, hlast, hinb, bq⟩ := HP.out.next HS.out.t.rise HS.out.t.byt hN
        have HP' := hid hp
        have HLAST := hid hlast
        have HINB := hid hinb
        have BQ := hid bq
        have HAT := hid (atN_behind HS.out.t.rise hN)
        clear hp hlast hinb bq
        go_wp2_with fail
        refine (next_some HC.out HS.out.t (by omega) HP.out.keyed BV.out HP.out.bat hN).mono ?_
        rintro e w4 ⟨rfl, hcu, hch⟩
        have HS4 := hid (HS.out.aside hch hcW hca HCG.out.1 HCG.out.2)
        have HC4 := hid hcu
        have HT4 := hid (HT.out.keep fun b hb => hch.block b (HT.out.lt b hb).2 (by simp; have := (HT.out.lt b hb).1; omega))
        have HW4 := hid (HW.out.keep fun b hb => hch.block b (Nat.lt_of_lt_of_le (HWF.out b hb).1 HSZ.out) (by simp; exact (HWF.out b hb).2.1))
        have HSZ4 := hid (Nat.le_trans HSZ.out hch.size)
        have HGR : Hid (∀ b ∈ ownFoot (.slice Av nv cv), wB.heap.size ≤ b ∧ b ≠ a ∧ b ∉ G2 ∧ ¬ P2 b) := fun b hb => by
          have h1 := (HT.out.lt b hb).1
          exact ⟨by omega, by omega, (HD.out b hb).1, (HD.out b hb).2⟩
        have HCO : Hid (c ∉ ownFoot (.slice Av nv cv)) := fun h => by have := (HT.out.lt c h).1; omega
        have HWO : Hid (∀ b ∈ ownFoot (.slice Aw nw cw), b ∉ ownFoot (.slice Av nv cv)) := fun b hb h => by have h1 := (HT.out.lt b h).1; have h2 := (HWF.out b hb).1; omega
        clear hcu hch x0 x1
        have x0 := below_keep HS4.out.since _ _ X0.out
        have x1 := below_keep HS4.out.since _ _ X1.out
        by_cases hT0 : nv = 0
        · have hni : ¬ (0 : Int) < (nv : Int) := by omega
          clear hT0
          go_wp2_with fail
          refine (in_any _ q.1 K V BQ.out BK.out BV.out).mono ?_
          rw [HINB.out]
          rintro e w6 ⟨rfl, rfl⟩
          go_wp2_with (at_builtin; refine wpList_append_rows _ rfl (.tmp 136) (.tmp 138) 62 rfl w5.heap.size 9 i0 _ 1 16 Try.underlying62 hi hz0 hz1 hz2 rfl (by omega) cT_one' (.slice Av nv cv) T rfl (HT4.out.alloc _) _ [q.1] rfl (rows_new _ 1 cT cT_len q.1 9) (by unfold maxLen; simp; omega) (by simp; omega) (Nat.le_trans HSZ4.out (by simp)) ?_; intro v' w7 hown hgr hf)
          have HS7 := hid ((HS4.out.below_ ((Below.refl _ _).alloc (Nat.le_refl _) _)).grown hgr (fun b e => HGR.out b (mem_ownFoot.2 e)))
          have HC7 := hid ((HC4.out.below ((Below.refl _ _).alloc (Nat.le_refl _) _)).keep (hgr.block c (Nat.lt_of_lt_of_le HC4.out.lt (by simp)) (fun e => HCO.out (mem_ownFoot.2 e.symm))))
          have HW7 := hid ((HW4.out.below ((Below.refl _ _).alloc (Nat.le_refl _) _)).keep (fun b hb => hgr.block b (Nat.lt_of_lt_of_le (Nat.lt_of_lt_of_le (HWF.out b hb).1 HSZ4.out) (by simp)) (fun e => HWO.out b hb (mem_ownFoot.2 e.symm))))
          have HT7 := hid hown
          have HD7 : Hid (∀ b ∈ ownFoot v', b ∉ G2 ∧ ¬ P2 b) := fun b hb => by
            rcases hf b hb with h | h
            · exact HD.out b h
            · simp at h
              exact ⟨fun hG => by have := HS4.out.r.lt b hG; omega, fun hP => by have := HS4.out.t.under b hP; omega⟩
          have HSZ7 : Hid (w5.heap.size ≤ w7.heap.size) := Nat.le_trans (Nat.le_trans HSZ4.out (by simp)) hgr.size
          clear hown hgr hf
          go_roundw
          case rel => first | exact ⟨k + 1, by omega, by go_num, T ++ [q.1], q.1 ++ [0], L, P2, G2, HP'.out, ⟨by omega, fun h => by omega, by rw [List.length_append]; simp; omega, fun h => by rw [HAT.out]; omega⟩, HS7.out, HC7.out, HT7.out, HCG.out, HD7.out, HW7.out, HSZ7.out⟩ | ((repeat apply Exists.intro); refine ⟨?_, rfl⟩; exact ⟨k + 1, by omega, by go_num, T ++ [q.1], q.1 ++ [0], L, P2, G2, HP'.out, ⟨by omega, fun h => by omega, by rw [List.length_append]; simp; omega, fun h => by rw [HAT.out]; omega⟩, HS7.out, HC7.out, HT7.out, HCG.out, HD7.out, HW7.out, HSZ7.out⟩)
          case measure => simp [intOf]; omega
        · obtain ⟨j, hj⟩ : ∃ j, nv = j + 1 := ⟨nv - 1, by omega⟩
          obtain ⟨x, hx⟩ : ∃ x, T[j]? = some x := ⟨T[j]'(by have := HNV.out; omega), List.getElem?_eq_getElem _⟩
          obtain ⟨ad, hAv, htx⟩ := HT4.out.rows.txt hx
          subst hAv
          have hxq := HLAST.out x (List.mem_of_getElem? hx)
          have bx := HP.out.bT x (List.mem_of_getElem? hx)
          have e4 : Op.bytesLess (str q.1).toList (str x).toList = false := by rw [less_str BQ.out bx, decide_eq_false (fun h => List.lt_irrefl _ (List.lt_trans h hxq))]
          have e6 : ¬ (str q.1).toList = (str x).toList := fun e => by rw [str_toList, str_toList] at e; rw [ofNat_inj BQ.out bx e] at hxq; exact List.lt_irrefl _ hxq
          have e7 : ((str q.1).toList == (str x).toList) = false := by rw [beq_eq_false_iff_ne]; exact e6
          have hni : (0 : Int) < (nv : Int) := by omega
          have hjn : (nv : Int) - 1 = (j : Int) := by omega
          have hjn2 : IntKind.i64.wrap ((nv : Int) - 1) = (j : Int) := by rw [hjn]; exact IntWalk.i64_in _ (by omega)
          have hjl : (j : Int) < (nv : Int) := by omega
          clear hx hxq bx hj hT0
          go_wp2_with fail
          refine (in_any _ q.1 K V BQ.out BK.out BV.out).mono ?_
          rw [HINB.out]
          rintro e w6 ⟨rfl, rfl⟩
          go_wp2_with (at_builtin; refine wpList_append_rows _ rfl (.tmp 136) (.tmp 138) 62 rfl w5.heap.size 9 i0 _ 1 16 Try.underlying62 hi hz0 hz1 hz2 rfl (by omega) cT_one' (.slice (some ad) nv cv) T rfl (HT4.out.alloc _) _ [q.1] rfl (rows_new _ 1 cT cT_len q.1 9) (by unfold maxLen; simp; omega) (by simp; omega) (Nat.le_trans HSZ4.out (by simp)) ?_; intro v' w7 hown hgr hf)
          have HS7 := hid ((HS4.out.below_ ((Below.refl _ _).alloc (Nat.le_refl _) _)).grown hgr (fun b e => HGR.out b (mem_ownFoot.2 e)))
          have HC7 := hid ((HC4.out.below ((Below.refl _ _).alloc (Nat.le_refl _) _)).keep (hgr.block c (Nat.lt_of_lt_of_le HC4.out.lt (by simp)) (fun e => HCO.out (mem_ownFoot.2 e.symm))))
          have HW7 := hid ((HW4.out.below ((Below.refl _ _).alloc (Nat.le_refl _) _)).keep (fun b hb => hgr.block b (Nat.lt_of_lt_of_le (Nat.lt_of_lt_of_le (HWF.out b hb).1 HSZ4.out) (by simp)) (fun e => HWO.out b hb (mem_ownFoot.2 e.symm))))
          have HT7 := hid hown
          have HD7 : Hid (∀ b ∈ ownFoot v', b ∉ G2 ∧ ¬ P2 b) := fun b hb => by
            rcases hf b hb with h | h
            · exact HD.out b h
            · simp at h
              exact ⟨fun hG => by have := HS4.out.r.lt b hG; omega, fun hP => by have := HS4.out.t.under b hP; omega⟩
          have HSZ7 : Hid (w5.heap.size ≤ w7.heap.size) := Nat.le_trans (Nat.le_trans HSZ4.out (by simp)) hgr.size
          clear hown hgr hf
          go_roundw
          case rel => first | exact ⟨k + 1, by omega, by go_num, T ++ [q.1], q.1 ++ [0], L, P2, G2, HP'.out, ⟨by omega, fun h => by omega, by rw [List.length_append]; simp; omega, fun h => by rw [HAT.out]; omega⟩, HS7.out, HC7.out, HT7.out, HCG.out, HD7.out, HW7.out, HSZ7.out⟩ | ((repeat apply Exists.intro); refine ⟨?_, rfl⟩; exact ⟨k + 1, by omega, by go_num, T ++ [q.1], q.1 ++ [0], L, P2, G2, HP'.out, ⟨by omega, fun h => by omega, by rw [List.length_append]; simp; omega, fun h => by rw [HAT.out]; omega⟩, HS7.out, HC7.out, HT7.out, HCG.out, HD7.out, HW7.out, HSZ7.out⟩)
          case measure => simp [intOf]; omega
theorem stays_any (w : World) (v : Value) (os : List Cl) (K V : List Nat) (v2 : Value) (ms : List Cl) (hv : Elems 3 cO w v os) (hos : ClsOk os) (bK : Byt K) (bV : Byt V) (hv2 : Elems 3 cO w v2 ms) (hom : ClsOk ms) : Calls Try.prog 14 #[v, two2 K V, v2] w (Yes w) := by
  cases hf : fewB os with
  | false => exact stays_fewl w v v2 os ms K V hv hv2 hf
  | true =>
    cases hfm : fewB ms with
    | false => exact stays_fewm w v v2 os ms K V hv hv2 hf hfm
    | true =>
      cases hs : shortB K V with
      | false => exact stays_short w v v2 os ms K V hv hv2 hf hfm hs
      | true =>
        by_cases hl : 100 < ms.length
        · exact stays_long w v v2 os ms K V hv hv2 hf hfm hs hl
        · have hml : ms.length ≤ 100 := by omega
          by_cases h0 : V = []
          · subst h0
            exact stays_okB w v v2 os ms K hv hv2 hfm hom hml hos bK hf hs
          · by_cases h1 : V < K
            · exact stays_bad w v v2 os ms K V hv hv2 hfm hom hml hos bK bV hf hs h0 h1
            · exact stays_okC w v v2 os ms K V hv hv2 hfm hom hml hos bK bV hf hs h0 h1
end Go.Proofs.Ytpckaglefmpkcaa
