/- TreeCopies. -/
import Derived.Test.YtpckaglefmpkcaaW3
namespace Go.Proofs.Ytpckaglefmpkcaa
open Go.RowKit
set_option maxRecDepth 100000

theorem same_at {w : World} {P : Bl} {G : List Nat} {a p o : Nat} {l : List Pr} (t : TreeAt w a o l P) (r : RList w G p l) (hl : l.length ≤ 900) :
    Calls Try.prog 24 #[.pointer (some ⟨a, 0, none⟩), .pointer (some ⟨p, 0, none⟩)] w fun e w' => e = .returned (.bool true) ∧ Below w.heap.size w w' := by
  refine same_yes w _ G p l r t.byt (by omega) (fun w' hb => ?_) (fun w' hb => ?_)
  · refine (t.below hb).all.mono ?_
    rintro e w2 ⟨gf, lb, K, rfl, h1, h2, _⟩
    exact ⟨gf, lb, K, rfl, h1, h2⟩
  · refine (t.below hb).len.mono ?_
    rintro e w2 ⟨rfl, hb⟩
    exact ⟨rfl, hb⟩
theorem copies_no (w : World) (n : Int) (hn : n < 2 ∨ 16 < n) (v v2 : Value) : Calls Try.prog 5 #[.int .i64 n, v, v2] w (Yes w) := by
  go_enter Try.func5, Try.ntmps5
  go_wp2_with fail
  refine (tree_new_no w n hn).mono ?_
  rintro e w1 ⟨rfl, hb1⟩
  go_wp2_with fail
  refine (awake_yes _).mono ?_
  rintro e w2 ⟨rfl, hb2⟩
  go_wp2
  go_ret
  exact ⟨rfl, below_step hb1 hb2⟩
theorem copies_many (w : World) (o : Nat) (h2 : 2 ≤ o) (h16 : o ≤ 16) (v v2 : Value) (os : List Cl) (hv : Elems 3 cO w v os) (hf : fewB os = false) : Calls Try.prog 5 #[.int .i64 (o : Int), v, v2] w (Yes w) := by
  go_enter Try.func5, Try.ntmps5
  go_wp2_with fail
  refine (tree_new_at w o h2 h16).mono ?_
  rintro e w1 ⟨a, P, rfl, hb1, ha, ht⟩
  have HB1 := hid hb1
  clear ht hb1 ha
  go_wp2_with fail
  refine (few_any w1 _ os (hv.below HB1.out)).mono ?_
  rw [hf]
  rintro e w1' ⟨rfl, rfl⟩
  go_wp2_with fail
  refine (awake_yes _).mono ?_
  rintro e w2 ⟨rfl, hb2⟩
  go_wp2
  go_ret
  exact ⟨rfl, below_step HB1.out hb2⟩

theorem copies_many2 (w : World) (o : Nat) (h2 : 2 ≤ o) (h16 : o ≤ 16) (v v2 : Value) (os ms : List Cl) (hv : Elems 3 cO w v os) (hv2 : Elems 3 cO w v2 ms) (hf : fewB os = true) (hf2 : fewB ms = false) : Calls Try.prog 5 #[.int .i64 (o : Int), v, v2] w (Yes w) := by
  go_enter Try.func5, Try.ntmps5
  go_wp2_with fail
  refine (tree_new_at w o h2 h16).mono ?_
  rintro e w1 ⟨a, P, rfl, hb1, ha, ht⟩
  have HB1 := hid hb1
  clear ht hb1 ha
  go_wp2_with fail
  refine (few_any w1 _ os (hv.below HB1.out)).mono ?_
  rw [hf]
  rintro e w1' ⟨rfl, rfl⟩
  go_wp2_with fail
  refine (few_any w1 _ ms (hv2.below HB1.out)).mono ?_
  rw [hf2]
  rintro e w1' ⟨rfl, rfl⟩
  go_wp2_with fail
  refine (awake_yes _).mono ?_
  rintro e w2 ⟨rfl, hb2⟩
  go_wp2
  go_ret
  exact ⟨rfl, below_step HB1.out hb2⟩

set_option maxHeartbeats 8000000 in
theorem copies_ok (w : World) (o : Nat) (h2 : 2 ≤ o) (h16 : o ≤ 16) (v v2 : Value) (os ms : List Cl) (hv : Elems 3 cO w v os) (hos : ClsOk os) (hv2 : Elems 3 cO w v2 ms) (hms : ClsOk ms) (hf : fewB os = true) (hf2 : fewB ms = true) :
    Calls Try.prog 5 #[.int .i64 (o : Int), v, v2] w (Yes w) := by
  obtain ⟨A, cap, rfl⟩ := hv.slice
  obtain ⟨A2, cap2, rfl⟩ := hv2.slice
  obtain ⟨hfew, hlen⟩ := fewB_yes hf
  obtain ⟨hfew2, hlen2⟩ := fewB_yes hf2
  obtain ⟨len, HLEN⟩ : ∃ len, Hid (len = os.length) := ⟨_, rfl⟩
  obtain ⟨len2, HLEN2⟩ : ∃ len, Hid (len = ms.length) := ⟨_, rfl⟩
  have hl200 : len ≤ 200 := by rw [HLEN.out]; exact hlen
  have hm200 : len2 ≤ 200 := by rw [HLEN2.out]; exact hlen2
  have HV := hid hv
  have HV2 := hid hv2
  have HOS := hid hos
  have HMS := hid hms
  have HFEW := hid hfew
  have HFEW2 := hid hfew2
  have HF := hid hf
  have HF2 := hid hf2
  rw [← HLEN.out] at HV ⊢
  rw [← HLEN2.out] at HV2 ⊢
  clear hv hos hfew hf hlen hv2 hms hfew2 hf2 hlen2
  go_enter Try.func5, Try.ntmps5
  go_wp2_with fail
  refine (tree_new_at w o h2 h16).mono ?_
  rintro e w1 ⟨a, P, rfl, hb1, ha, ht⟩
  have HT := hid ht
  have HA := hid ha
  have HB1 := hid hb1
  clear ht hb1 ha
  go_wp2_with fail
  refine (few_any w1 _ os (HV.out.below HB1.out)).mono ?_
  rw [HF.out]
  rintro e w1' ⟨rfl, rfl⟩
  go_wp2_with fail
  refine (few_any w1 _ ms (HV2.out.below HB1.out)).mono ?_
  rw [HF2.out]
  rintro e w1' ⟨rfl, rfl⟩
  have HST := hid (st_new HT.out HB1.out HA.out)
  go_wp2
  go_loopw [10] (fun i wr => ∃ k : Nat, k ≤ len ∧ i = .int .i64 k ∧ ∃ P G, St w wr P G a w1.heap.size (runL [] (os.take k)) o) (fun i _ => len - (intOf i).toNat)
  case atStart => exact ⟨0, by omega, rfl, P, _, HST.out⟩
  case round =>
    obtain ⟨k, hk, rfl, P', G', hst⟩ := hrel
    have HS := hid hst
    by_cases hlt : k < len
    · have hlti : (k : Int) < len := by omega
      obtain ⟨op, hop⟩ : ∃ op, os[k]? = some op := ⟨os[k]'(by have := HLEN.out; omega), List.getElem?_eq_getElem _⟩
      obtain ⟨ad, rfl, hat⟩ := (HV.out.below hst.since).opAt hop
      obtain ⟨hc0, hc1, hc2⟩ := hat
      have HN := hid (runL_take [] hop)
      have hmem := List.mem_of_getElem? hop
      have HOK := hid (HOS.out.ok op hmem)
      have hk1 := (HFEW.out op hmem).1
      have hk2 := (HFEW.out op hmem).2
      have HRL : Hid ((runL [] (os.take k)).length ≤ 900) := by
        have := runL_len (os.take k) []
        rw [List.length_take] at this
        show _ ≤ _
        (try simp at this); omega
      clear hst hop hmem
      go_wp2_with fail
      refine (does_any HS.out op HOK.out hk1 hk2 HRL.out).mono ?_
      rw [← HN.out]
      rintro e w2 ⟨rfl, P2, G2, hst2⟩
      have HST2 := hid hst2
      clear hst2 hc0 hc1 hc2
      go_wp2
      go_roundw
      case rel => exact ⟨k + 1, by omega, by go_num, P2, G2, HST2.out⟩
      case measure => simp [intOf]; omega
    · obtain rfl : k = len := by omega
      have hall : os.take k = os := List.take_of_length_le (by have := HLEN.out; omega)
      rw [hall] at HS
      obtain ⟨L, HLE⟩ : ∃ L, Hid (L = runL [] os) := ⟨_, rfl⟩
      rw [← HLE.out] at HS
      have hLL : L.length ≤ 200 := by
        have := runL_len os []
        have := HLEN.out
        rw [HLE.out]
        simp at *; omega
      obtain ⟨wa, rfl⟩ : ∃ wa, wa = wr := ⟨_, rfl⟩
      obtain ⟨u, hone, hel, hGv, hvlt, hvp⟩ := HS.out.r
      have HONE := hid hone
      have HEL := hid hel
      have HVL := hid hvlt
      have hpl : w1.heap.size < wa.heap.size := HS.out.r.lt _ HS.out.r.mem
      obtain ⟨H, g, T, hT⟩ := HS.out.t
      have HTI := hid hT
      clear hst hall hT hone hel hGv hvlt hvp
      go_wp2_with fail
      refine (tree_copy _ a o L P' H g T HTI.out).mono ?_
      rintro e w3 ⟨rfl, hb3, hl3, hc3⟩
      obtain ⟨c, HC⟩ : ∃ c, Hid (c = wa.heap.size) := ⟨_, rfl⟩
      rw [← HC.out] at hc3
      have HC3 := hid hc3
      have HB3 := hid hb3
      have HL3 : Hid (c < w3.heap.size) := by show _ < _; rw [HC.out]; exact hl3
      rw [← HC.out]
      clear hc3 hb3 hl3
      go_wp2_with fail
      refine (same_at ⟨_, _, _, HC3.out⟩ (HS.out.r.below HB3.out) (by omega)).mono ?_
      rintro e w4 ⟨rfl, hb4⟩
      have HB4 := hid (below_step HB3.out hb4)
      have HC4 := hid (HC3.out.below hb4)
      clear hb4
      go_wp2_with fail
      refine (shape_any _ a o L P' H g T (HTI.out.below HB4.out) (by omega)).mono ?_
      rintro e w5 ⟨vx, rfl, hx, hb5⟩
      have HB5 := hid (below_step HB4.out hb5)
      have HC5 := hid (HC4.out.below hb5)
      have HX := hid hx
      clear hb5 hx
      go_wp2_with fail
      refine (shape_any _ c o L P' H g T HC5.out (by omega)).mono ?_
      rintro e w6 ⟨vy, rfl, hy, hb6⟩
      have HB6 := hid (below_step HB5.out hb6)
      have HC6 := hid (HC5.out.below hb6)
      obtain ⟨s, HSH⟩ : ∃ s, Hid (s = lev (H + 1) [T]) := ⟨_, rfl⟩
      have hx := HX.out.below hb6
      rw [← HSH.out] at hx hy
      obtain ⟨Ax, cx, rfl⟩ : ∃ A c, vx = .slice A s.length c := (let ⟨_, _, hr, _⟩ := hx; hr.slice)
      obtain ⟨Ay, cy, rfl⟩ : ∃ A c, vy = .slice A s.length c := (let ⟨_, _, hr, _⟩ := hy; hr.slice)
      have HX6 := hid hx
      have HY6 := hid hy
      have hmax : s.length ≤ 9223372036854775807 := by
        obtain ⟨_, _, hr, _⟩ := hx
        have := hr.cap
        unfold maxLen at this
        omega
      obtain ⟨n, HN⟩ : ∃ n, Hid (n = s.length) := ⟨_, rfl⟩
      rw [← HN.out] at HX6 HY6 hmax ⊢
      clear hb6 hx hy HX
      go_wp2
      go_loopw [14] (fun i wr => ∃ k : Nat, k ≤ n ∧ i = .int .i64 k ∧ Below w6.heap.size w6 wr) (fun i _ => n - (intOf i).toNat)
      case atStart => exact ⟨0, by omega, rfl, Below.refl _ _⟩
      case round =>
        obtain ⟨i, hi, rfl, hbr⟩ := hrel
        have HBR := hid hbr
        clear hbr
        by_cases hlt : i < n
        · have hlti : (i : Int) < n := by omega
          obtain ⟨xs, hxs⟩ : ∃ xs, s[i]? = some xs := ⟨s[i]'(by have := HN.out; omega), List.getElem?_eq_getElem _⟩
          obtain ⟨adx, Bx, cbx, rfl, qx, sx⟩ := (HX6.out.below HBR.out).at_ hxs
          obtain ⟨ady, By, cby, rfl, qy, sy⟩ := (HY6.out.below HBR.out).at_ hxs
          have hxm : xs.length ≤ 9223372036854775807 := by obtain ⟨_, _, _, q1, q2, _⟩ := sx; unfold maxLen at q2; omega
          obtain ⟨xl, HXL⟩ : ∃ xl, Hid (xl = xs.length) := ⟨_, rfl⟩
          rw [← HXL.out] at qx qy sx sy hxm
          have SX := hid sx
          have SY := hid sy
          have QX := hid qx
          have QY := hid qy
          clear sx sy hxs
          go_wp2
          go_quiet (fail)
          rename_i nq
          obtain ⟨wv, HWV⟩ : ∃ wv, Hid (wv = wr.drewN nq) := ⟨_, rfl⟩
          have HBV : Hid (Below wr.heap.size wr wv) := by rw [HWV.out]; exact below_drewN' (Below.refl _ _) nq
          rw [← HWV.out]
          have qx := below_keep HBV.out _ _ QX.out
          have qy := below_keep HBV.out _ _ QY.out
          go_wp2
          obtain ⟨wt, rfl⟩ : ∃ wt, wt = wv := ⟨_, rfl⟩
          go_loopw [15] (fun j wr2 => ∃ k : Nat, k ≤ xl ∧ j = .int .i64 k ∧ Below wt.heap.size wt wr2) (fun j _ => xl - (intOf j).toNat)
          case atStart => exact ⟨0, by omega, rfl, Below.refl _ _⟩
          case round =>
            obtain ⟨j, hj, rfl, hbj⟩ := hrel
            have HBJ := hid (below_step HBV.out hbj)
            have HBT := hid hbj
            clear hbj qx qy
            have qx := below_keep HBJ.out _ _ QX.out
            have qy := below_keep HBJ.out _ _ QY.out
            by_cases hjlt : j < xl
            · have hjlti : (j : Int) < xl := by omega
              obtain ⟨x, hx⟩ : ∃ x, xs[j]? = some x := ⟨xs[j]'(by have := HXL.out; omega), List.getElem?_eq_getElem _⟩
              obtain ⟨zx, rfl, kx⟩ := (SX.out.below HBJ.out).cell hx
              obtain ⟨zy, rfl, ky⟩ := (SY.out.below HBJ.out).cell hx
              clear hx
              go_wp2
              go_quiet (fail)
              rename_i nq2
              go_wp2
              go_roundw
              case rel => exact ⟨j + 1, by omega, by go_num, below_drewN' HBT.out _⟩
              case measure => simp [intOf]; omega
            · obtain rfl : j = xl := by omega
              go_wp2
              go_roundw
              case rel => exact ⟨i + 1, by omega, by go_num, below_step HBR.out HBJ.out⟩
              case measure => simp [intOf]; omega
        · obtain rfl : i = n := by omega
          have HB7 := hid (below_step HB6.out HBR.out)
          have HC7 := hid (HC6.out.below HBR.out)
          obtain ⟨ws, rfl⟩ : ∃ ws, ws = wr := ⟨_, rfl⟩
          have hone7 : One ws w1.heap.size 32 u := HONE.out.keep (HB7.out.block _ hpl)
          have q0 := hone7.cell
          obtain ⟨Au, cu, rfl⟩ := HEL.out.slice
          obtain ⟨p2, HP2⟩ : ∃ p2, Hid (p2 = ws.heap.size) := ⟨_, rfl⟩
          have hws := HB7.out.size
          have hcl : c < ws.heap.size := HC7.out.c.lt
          have HST2 : Hid (St wa (ws.alloc (.cells #[.slice Au L.length cu] 32)) P' (p2 :: ownFoot (.slice Au L.length cu)) c p2 L o) := by
            have hbn : Below ws.heap.size ws (ws.alloc (.cells #[.slice Au L.length cu] 32)) := (Below.refl _ _).alloc (Nat.le_refl _) _
            have hown : ∀ b ∈ ownFoot (.slice Au L.length cu), b < wa.heap.size := HVL.out
            rw [HP2.out]
            refine ⟨⟨_, _, _, HC7.out.below hbn⟩, ⟨.slice Au L.length cu, One.new ws 32 _, (HEL.out.below HB7.out).below hbn, rfl, fun b hb => ?_, fun hb => ?_⟩, fun hm => ?_, fun h => ?_, ?_⟩
            · have := hown b hb; simp; omega
            · have := hown _ hb; omega
            · rcases List.mem_cons.1 hm with h | h
              · omega
              · have := hown _ h; have := HC.out; omega
            · have := HTI.out.under _ h; omega
            · exact ((Chg.of_below (F := []) HB7.out).step_below hbn).less fun k hk => by
                simp at hk
                rcases hk with rfl | rfl
                · exact .inr (by have := HC.out; omega)
                · exact .inr hws
          have hL0 : L.length = L.length := rfl
          have HV2a := hid ((HV2.out.below HS.out.since).below (Below.refl _ _))
          go_wp2
          rw [← HP2.out]
          clear q0 hone7
          go_loopw [17] (fun i wr => ∃ k : Nat, k ≤ len2 ∧ i = .int .i64 k ∧ ∃ P G, St wa wr P G c p2 (runL L (ms.take k)) o) (fun i _ => len2 - (intOf i).toNat)
          case atStart => exact ⟨0, by omega, rfl, P', _, HST2.out⟩
          case round =>
            obtain ⟨k, hk, rfl, P', G', hst⟩ := hrel
            have HSS := hid hst
            by_cases hlt : k < len2
            · have hlti : (k : Int) < len2 := by omega
              obtain ⟨op, hop⟩ : ∃ op, ms[k]? = some op := ⟨ms[k]'(by have := HLEN2.out; omega), List.getElem?_eq_getElem _⟩
              obtain ⟨ad, rfl, hat⟩ := (HV2a.out.below hst.since).opAt hop
              obtain ⟨hc0, hc1, hc2⟩ := hat
              have HN := hid (runL_take L hop)
              have hmem := List.mem_of_getElem? hop
              have HOK := hid (HMS.out.ok op hmem)
              have hk1 := (HFEW2.out op hmem).1
              have hk2 := (HFEW2.out op hmem).2
              have HRL : Hid ((runL L (ms.take k)).length ≤ 900) := by
                have := runL_len (ms.take k) L
                rw [List.length_take] at this
                show _ ≤ _
                (try simp at this); omega
              clear hst hop hmem
              go_wp2_with fail
              refine (does_any HSS.out op HOK.out hk1 hk2 HRL.out).mono ?_
              rw [← HN.out]
              rintro e w2 ⟨rfl, P2, G2, hst2⟩
              have HST2 := hid hst2
              clear hst2 hc0 hc1 hc2
              go_wp2
              go_roundw
              case rel => exact ⟨k + 1, by omega, by go_num, P2, G2, HST2.out⟩
              case measure => simp [intOf]; omega
            · obtain rfl : k = len2 := by omega
              have hall : ms.take k = ms := List.take_of_length_le (by have := HLEN2.out; omega)
              rw [hall] at HSS
              have HLM : Hid ((runL L ms).length ≤ 900) := by
                have := runL_len ms L
                have := HLEN2.out
                show _ ≤ _
                omega
              have HS9 := hid (HS.out.below_ HSS.out.since)
              clear hst hall
              go_wp2_with fail
              refine (same_st HS9.out (by omega)).mono ?_
              rintro e w20 ⟨rfl, hb20⟩
              have HS20 := hid (HSS.out.below_ hb20)
              have HS21 := hid (HS9.out.below_ hb20)
              clear hb20
              go_wp2_with fail
              refine (same_st HS20.out HLM.out).mono ?_
              rintro e w21 ⟨rfl, hb21⟩
              have HS22 := hid (HS21.out.below_ hb21)
              clear hb21
              go_wp2_with fail
              refine (awake_yes _).mono ?_
              rintro e w22 ⟨rfl, hb22⟩
              go_wp2
              go_ret
              exact ⟨rfl, below_step HS22.out.since hb22⟩
theorem copies_any (w : World) (n : Int) (v v2 : Value) (os ms : List Cl) (hv : Elems 3 cO w v os) (hv2 : Elems 3 cO w v2 ms) (hos : ClsOk os) (hms : ClsOk ms) : Calls Try.prog 5 #[.int .i64 n, v, v2] w (Yes w) := by
  by_cases hn : n < 2 ∨ 16 < n
  · exact copies_no w n hn v v2
  · obtain ⟨o, rfl⟩ : ∃ o : Nat, n = (o : Int) := ⟨n.toNat, by omega⟩
    cases hf : fewB os with
    | false => exact copies_many w o (by omega) (by omega) v v2 os hv hf
    | true =>
      cases hf2 : fewB ms with
      | false => exact copies_many2 w o (by omega) (by omega) v v2 os ms hv hv2 hf hf2
      | true => exact copies_ok w o (by omega) (by omega) v v2 os ms hv hos hv2 hms hf hf2
end Go.Proofs.Ytpckaglefmpkcaa
