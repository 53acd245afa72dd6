/- TreeBack. -/
import Derived.Test.YtpckaglefmpkcaaW6
namespace Go.Proofs.Ytpckaglefmpkcaa
open Go.RowKit
set_option maxRecDepth 100000

/-- A tree, and a reference's list beside it, each with pairs of its own; nothing else has turned since W. -/
structure Sd (W w : World) (P : Bl) (G : List Nat) (a p : Nat) (lt lr : List Pr) (o : Nat) : Prop where
  t : TreeAt w a o lt P
  r : RList w G p lr
  n : a ∉ G
  m : ¬ P p
  c : Chg [] W w [a, p]
section
variable {W w w' : World} {P : Bl} {G : List Nat} {a p : Nat} {l lt lr l' : List Pr} {o : Nat}
theorem St.sd (h : St W w P G a p l o) : Sd W w P G a p l l o := ⟨h.t, h.r, h.n, h.m, h.c⟩
theorem Sd.st (h : Sd W w P G a p l l o) : St W w P G a p l o := ⟨h.t, h.r, h.n, h.m, h.c⟩
theorem Sd.below_ (h : Sd W w P G a p lt lr o) (hb : Below w.heap.size w w') : Sd W w' P G a p lt lr o :=
  ⟨h.t.below hb, h.r.below hb, h.n, h.m, h.c.step_below hb⟩
theorem Sd.turn (h : Sd W w P G a p lt lr o) (d : Done P w w' a o l') : Sd W w' (New P w w') G a p l' lr o := by
  have hpl : p < w.heap.size := h.r.lt p h.r.mem
  refine ⟨d.tree, h.r.chg d.2 (by simpa using h.n), h.n, ?_, h.c.trans (d.2.wide2 (by simp))⟩
  rintro (hh | hh)
  · exact h.m hh
  · omega
theorem Sd.since (h : Sd W w P G a p lt lr o) : Below W.heap.size W w := h.c.below (fun _ h => by cases h) (Nat.le_refl _)
end
theorem putL_parts {L : List Pr} (hr : Rising L) (K V : List Nat) : ∃ X Z, (∀ x ∈ X, x.1 < K) ∧ (∀ z ∈ Z, K < z.1) ∧ putL L K V = X ++ (K, V) :: Z ∧ (∀ old, getL L K = some old → L = X ++ (K, old) :: Z) ∧ (getL L K = none → L = X ++ Z) := by
  obtain ⟨h1, h2⟩ := splitL (k := K) hr
  refine ⟨_, _, h1, h2, by unfold putL; simp, fun old hg => ?_, fun hg => ?_⟩
  · have hk := getL_some hg
    rw [hg]
    obtain ⟨hlt, he⟩ := List.getElem?_eq_some_iff.1 hk
    conv => lhs; rw [← List.take_append_drop (atN L K) L, List.drop_eq_getElem_cons hlt, he]
    simp
  · rw [hg]
    simp
theorem putL_into {X Z : List Pr} {K V : List Nat} (hX : ∀ x ∈ X, x.1 < K) (hZ : ∀ z ∈ Z, K < z.1) : putL (X ++ Z) K V = X ++ (K, V) :: Z := by
  obtain ⟨h1, h2⟩ := at_none hX hZ
  unfold putL
  rw [h1, h2]
  simp
theorem delL_out {X Z : List Pr} {K V : List Nat} (hX : ∀ x ∈ X, x.1 < K) : delL (X ++ (K, V) :: Z) K = X ++ Z := by
  obtain ⟨h1, _⟩ := at_found (v := V) (Z := Z) hX
  unfold delL
  rw [h1]
  simp
/-- No value is longer than may be. -/
def Fit (l : List Pr) : Prop := ∀ q ∈ l, q.2.length ≤ 256
theorem Fit.put {l : List Pr} (h : Fit l) (k v : List Nat) : Fit (putN l k v) := by
  unfold putN
  rcases putE_cases k v with ⟨h1, h2⟩ | ⟨h1, h2, h3⟩ | ⟨h1, h2, h3⟩
  · rw [h2, if_neg (by decide)]; exact h
  · rw [h3, if_neg (by decide)]; exact h
  · rw [h3, if_pos rfl]
    intro q hq
    unfold putL at hq
    simp only [List.mem_append, List.mem_singleton] at hq
    rcases hq with (hq | rfl) | hq
    · exact h q (List.mem_of_mem_take hq)
    · exact h2
    · exact h q (List.mem_of_mem_drop hq)
theorem Fit.del {l : List Pr} (h : Fit l) (k : List Nat) : Fit (delN l k) := by
  unfold delN
  split
  · intro q hq
    unfold delL at hq
    rcases List.mem_append.1 hq with hq | hq
    · exact h q (List.mem_of_mem_take hq)
    · exact h q (List.mem_of_mem_drop hq)
  · exact h
theorem Fit.step {l : List Pr} (h : Fit l) (o : Cl) : Fit (stepL l o) := by
  unfold stepL
  split
  · exact h.put _ _
  · split
    · exact h.del _
    · exact h
theorem Fit.run : ∀ (os : List Cl) {l : List Pr}, Fit l → Fit (runL l os)
  | [], _, h => h
  | o :: os, _, h => Fit.run os (h.step o)
/-- What Put of a key that may be, and then Delete of it, come to. -/
structure BackP (L : List Pr) (K V : List Nat) (was : Bool) (old : List Nat) : Prop where
  a : putA L K V = old
  w : putW L K V = was
  g : getV (putL L K V) K = V
  ge : getE (putL L K V) K = 0
  c : ceilR (putL L K V) K = .tuple #[.string (str K), .string (str V), .int .i64 0]
  d : delA (putL L K V) K = V
  dn : delN (putL L K V) K = delL (putL L K V) K
  n : getE (delL (putL L K V) K) K = 14
  gn : getV (delL (putL L K V) K) K = []
  same : (if was = true then putL (delL (putL L K V) K) K old else delL (putL L K V) K) = L
  len : (putL L K V).length = if was = true then L.length else L.length + 1
  dlen : (delL (putL L K V) K).length ≤ L.length
theorem backP {L : List Pr} (hr : Rising L) {K V : List Nat} (he : putE K V = 0) : BackP L K V (getL L K).isSome (oldL L K) := by
  have h64 : key64 K = true := by
    rcases putE_cases K V with ⟨h1, h2⟩ | ⟨h1, h2, h3⟩ | ⟨h1, h2, h3⟩
    · omega
    · exact h1
    · exact h1
  obtain ⟨X, Z, hX, hZ, hp, hs, hn⟩ := putL_parts hr K V
  obtain ⟨f1, f2⟩ := at_found (v := V) (Z := Z) hX
  have hd := delL_out (V := V) (Z := Z) hX
  obtain ⟨n1, n2⟩ := at_none hX hZ
  have hv : getV (putL L K V) K = V := by unfold getV; rw [h64, hp, f2]; rfl
  have hge : getE (putL L K V) K = 0 := by unfold getE; rw [h64, hp, f2]; rfl
  refine ⟨by unfold putA; rw [he]; rfl, by unfold putW; rw [he]; rfl, hv, hge, ?_, by unfold delA; rw [hge, hv]; rfl, by unfold delN; rw [hge]; rfl, ?_, ?_, ?_, ?_, ?_⟩
  · unfold ceilR
    rw [hp, f1, List.getElem?_append_right (Nat.le_refl _)]
    simp
  · unfold getE
    rw [h64, hp, hd, n2]; rfl
  · unfold getV
    rw [h64, hp, hd, n2]; rfl
  · cases hg : getL L K with
    | some old =>
      have e := hs old hg
      rw [hp, hd]
      unfold oldL
      rw [hg]
      show putL (X ++ Z) K old = L
      rw [putL_into hX hZ, ← e]
    | none =>
      have e := hn hg
      rw [hp, hd, e]; rfl
  · cases hg : getL L K with
    | some old =>
      have e := hs old hg
      rw [hp, e]; simp
    | none =>
      have e := hn hg
      rw [hp, e]; simp; omega
  · cases hg : getL L K with
    | some old =>
      have e := hs old hg
      rw [hp, hd, e]; simp
    | none =>
      have e := hn hg
      rw [hp, hd, e]; exact Nat.le_refl _
def two2 (K V : List Nat) : Value := .agg #[.string (str K), .string (str V)]
/-- Where an array of two texts lies. -/
theorem boxed (w : World) (K V : List Nat) (t : TypeId) : (w.alloc (.cells #[.string (str K), .string (str V)] t)).cell? ⟨w.heap.size, 0, none⟩ = some (.string (str K)) ∧ (w.alloc (.cells #[.string (str K), .string (str V)] t)).cell? ⟨w.heap.size, 0 + 1, none⟩ = some (.string (str V)) ∧ Below w.heap.size w (w.alloc (.cells #[.string (str K), .string (str V)] t)) :=
  ⟨cell_of_row _ _ 0 _ _ _ (heap_alloc_new w _), cell_of_row _ _ 1 _ _ _ (heap_alloc_new w _), (Below.refl _ w).alloc (Nat.le_refl _) _⟩
theorem back_no (w : World) (n : Int) (hn : n < 2 ∨ 16 < n) (v : Value) (K V : List Nat) : Calls Try.prog 6 #[.int .i64 n, v, two2 K V] w (Yes w) := by
  obtain ⟨hx0, hx1, hb0⟩ := boxed w K V 48
  have HB0 := hid hb0
  clear hx0 hx1 hb0
  unfold two2
  go_enter Try.func6, Try.ntmps6
  go_wp2_with fail
  refine (tree_new_no _ n hn).mono ?_
  rintro e w1 ⟨rfl, hb1⟩
  go_wp2_with fail
  refine (awake_yes _).mono ?_
  rintro e w2 ⟨rfl, hb2⟩
  go_wp2
  go_ret
  exact ⟨rfl, below_step HB0.out (below_step hb1 hb2)⟩
theorem back_many (w : World) (o : Nat) (h2 : 2 ≤ o) (h16 : o ≤ 16) (v : Value) (os : List Cl) (K V : List Nat) (hv : Elems 3 cO w v os)  (hf : fewB os = false) : Calls Try.prog 6 #[.int .i64 (o : Int), v, two2 K V] w (Yes w) := by
  obtain ⟨wB, HW⟩ : ∃ W, Hid (W = w.alloc (.cells #[.string (str K), .string (str V)] 48)) := ⟨_, rfl⟩
  obtain ⟨x0, x1, b0⟩ := boxed w K V 48
  rw [← HW.out] at x0 x1 b0
  have X0 := hid x0
  have X1 := hid x1
  have HB0 := hid b0
  have hsK := str_size K
  have hsV := str_size V
  clear x0 x1 b0
  unfold two2
  go_enter Try.func6, Try.ntmps6
  go_wp2_with fail
  rw [← HW.out]
  refine (tree_new_at wB o h2 h16).mono ?_
  rintro e w1 ⟨a, P, rfl, hb1, ha, ht⟩
  have HB1 := hid hb1
  have x0 := below_keep hb1 _ _ X0.out
  have x1 := below_keep hb1 _ _ X1.out
  clear ht hb1 ha
  go_wp2_with fail
  refine (few_any w1 _ os ((hv.below HB0.out).below HB1.out)).mono ?_
  rw [hf]
  rintro e w1' ⟨rfl, rfl⟩
  go_wp2_with fail
  refine (awake_yes _).mono ?_
  rintro e w2 ⟨rfl, hb2⟩
  go_wp2
  go_ret
  exact ⟨rfl, below_step HB0.out (below_step HB1.out hb2)⟩
theorem back_key (w : World) (o : Nat) (h2 : 2 ≤ o) (h16 : o ≤ 16) (v : Value) (os : List Cl) (K V : List Nat) (hv : Elems 3 cO w v os)  (hf : fewB os = true) (hK : 300 < K.length) : Calls Try.prog 6 #[.int .i64 (o : Int), v, two2 K V] w (Yes w) := by
  obtain ⟨wB, HW⟩ : ∃ W, Hid (W = w.alloc (.cells #[.string (str K), .string (str V)] 48)) := ⟨_, rfl⟩
  obtain ⟨x0, x1, b0⟩ := boxed w K V 48
  rw [← HW.out] at x0 x1 b0
  have X0 := hid x0
  have X1 := hid x1
  have HB0 := hid b0
  have hsK := str_size K
  have hsV := str_size V
  clear x0 x1 b0
  unfold two2
  go_enter Try.func6, Try.ntmps6
  go_wp2_with fail
  rw [← HW.out]
  refine (tree_new_at wB o h2 h16).mono ?_
  rintro e w1 ⟨a, P, rfl, hb1, ha, ht⟩
  have HB1 := hid hb1
  have x0 := below_keep hb1 _ _ X0.out
  have x1 := below_keep hb1 _ _ X1.out
  clear ht hb1 ha
  go_wp2_with fail
  have hKi : (300 : Int) < K.length := by omega
  refine (few_any w1 _ os ((hv.below HB0.out).below HB1.out)).mono ?_
  rw [hf]
  rintro e w1' ⟨rfl, rfl⟩
  go_wp2_with fail
  refine (awake_yes _).mono ?_
  rintro e w2 ⟨rfl, hb2⟩
  go_wp2
  go_ret
  exact ⟨rfl, below_step HB0.out (below_step HB1.out hb2)⟩
theorem back_val (w : World) (o : Nat) (h2 : 2 ≤ o) (h16 : o ≤ 16) (v : Value) (os : List Cl) (K V : List Nat) (hv : Elems 3 cO w v os)  (hf : fewB os = true) (hK : ¬ 300 < K.length) (hV : 300 < V.length) : Calls Try.prog 6 #[.int .i64 (o : Int), v, two2 K V] w (Yes w) := by
  obtain ⟨wB, HW⟩ : ∃ W, Hid (W = w.alloc (.cells #[.string (str K), .string (str V)] 48)) := ⟨_, rfl⟩
  obtain ⟨x0, x1, b0⟩ := boxed w K V 48
  rw [← HW.out] at x0 x1 b0
  have X0 := hid x0
  have X1 := hid x1
  have HB0 := hid b0
  have hsK := str_size K
  have hsV := str_size V
  clear x0 x1 b0
  unfold two2
  go_enter Try.func6, Try.ntmps6
  go_wp2_with fail
  rw [← HW.out]
  refine (tree_new_at wB o h2 h16).mono ?_
  rintro e w1 ⟨a, P, rfl, hb1, ha, ht⟩
  have HB1 := hid hb1
  have x0 := below_keep hb1 _ _ X0.out
  have x1 := below_keep hb1 _ _ X1.out
  clear ht hb1 ha
  go_wp2_with fail
  have hKi : ¬ (300 : Int) < K.length := by omega
  have hVi : (300 : Int) < V.length := by omega
  refine (few_any w1 _ os ((hv.below HB0.out).below HB1.out)).mono ?_
  rw [hf]
  rintro e w1' ⟨rfl, rfl⟩
  go_wp2_with fail
  refine (awake_yes _).mono ?_
  rintro e w2 ⟨rfl, hb2⟩
  go_wp2
  go_ret
  exact ⟨rfl, below_step HB0.out (below_step HB1.out hb2)⟩
set_option maxHeartbeats 8000000 in
theorem back_ok (w : World) (o : Nat) (h2 : 2 ≤ o) (h16 : o ≤ 16) (v : Value) (os : List Cl) (K V : List Nat) (hv : Elems 3 cO w v os) (hos : ClsOk os) (hKb : Byt K) (hVb : Byt V) (hf : fewB os = true) (hK : K.length ≤ 300) (hV : V.length ≤ 300) : Calls Try.prog 6 #[.int .i64 (o : Int), v, two2 K V] w (Yes w) := by
  obtain ⟨A, cap, rfl⟩ := hv.slice
  obtain ⟨hfew, hlen⟩ := fewB_yes hf
  obtain ⟨len, HLEN⟩ : ∃ len, Hid (len = os.length) := ⟨_, rfl⟩
  have hl200 : len ≤ 200 := by rw [HLEN.out]; exact hlen
  obtain ⟨wB, HW⟩ : ∃ W, Hid (W = w.alloc (.cells #[.string (str K), .string (str V)] 48)) := ⟨_, rfl⟩
  obtain ⟨x0, x1, b0⟩ := boxed w K V 48
  rw [← HW.out] at x0 x1 b0
  have X0 := hid x0
  have X1 := hid x1
  have HB0 := hid b0
  have HV := hid (hv.below b0)
  have HOS := hid hos
  have HFEW := hid hfew
  have HF := hid hf
  have HKB := hid hKb
  have HVB := hid hVb
  have hsK := str_size K
  have hsV := str_size V
  have hKi : (K.length : Int) ≤ 300 := by omega
  have hVi : (V.length : Int) ≤ 300 := by omega
  rw [← HLEN.out] at HV ⊢
  clear hv hos hfew hf hlen x0 x1 b0 hKb hVb
  unfold two2
  go_enter Try.func6, Try.ntmps6
  go_wp2_with fail
  rw [← HW.out]
  refine (tree_new_at wB o h2 h16).mono ?_
  rintro e w1 ⟨a, P, rfl, hb1, ha, ht⟩
  have HT := hid ht
  have HA := hid ha
  have HB1 := hid hb1
  have x0 := below_keep hb1 _ _ X0.out
  have x1 := below_keep hb1 _ _ X1.out
  clear ht hb1 ha
  go_wp2_with fail
  refine (few_any w1 _ os (HV.out.below HB1.out)).mono ?_
  rw [HF.out]
  rintro e w1' ⟨rfl, rfl⟩
  have HST := hid (st_new HT.out HB1.out HA.out)
  go_wp2
  clear x0 x1
  go_loopw [10] (fun i wr => ∃ k : Nat, k ≤ len ∧ i = .int .i64 k ∧ ∃ P G, St wB wr P G a w1.heap.size (runL [] (os.take k)) o) (fun i _ => len - (intOf i).toNat)
  case atStart => exact ⟨0, by omega, rfl, P, _, HST.out⟩
  case round =>
    obtain ⟨k, hk, rfl, P', G', hst⟩ := hrel
    have HS := hid hst
    by_cases hlt : k < len
    · have hlti : (k : Int) < len := by omega
      obtain ⟨op, hop⟩ : ∃ op, os[k]? = some op := ⟨os[k]'(by have := HLEN.out; omega), List.getElem?_eq_getElem _⟩
      obtain ⟨ad, rfl, hat⟩ := (HV.out.below hst.since).opAt hop
      obtain ⟨hc0, hc1, hc2⟩ := hat
      have HN := hid (runL_take [] hop)
      have hmem := List.mem_of_getElem? hop
      have HOK := hid (HOS.out.ok op hmem)
      have hk1 := (HFEW.out op hmem).1
      have hk2 := (HFEW.out op hmem).2
      have HRL : Hid ((runL [] (os.take k)).length ≤ 900) := by
        have := runL_len (os.take k) []
        rw [List.length_take] at this
        show _ ≤ _
        (try simp at this); omega
      clear hst hop hmem
      go_wp2_with fail
      refine (does_any HS.out op HOK.out hk1 hk2 HRL.out).mono ?_
      rw [← HN.out]
      rintro e w2 ⟨rfl, P2, G2, hst2⟩
      have HST2 := hid hst2
      clear hst2 hc0 hc1 hc2
      go_wp2
      go_roundw
      case rel => exact ⟨k + 1, by omega, by go_num, P2, G2, HST2.out⟩
      case measure => simp [intOf]; omega
    · obtain rfl : k = len := by omega
      have hall : os.take k = os := List.take_of_length_le (by have := HLEN.out; omega)
      rw [hall] at HS
      have HFIT : Hid (Fit (runL [] os)) := Fit.run os (fun _ h => by cases h)
      obtain ⟨L, HLE⟩ : ∃ L, Hid (L = runL [] os) := ⟨_, rfl⟩
      rw [← HLE.out] at HS HFIT
      have HLL : Hid (L.length ≤ 200) := by
        have := runL_len os []
        have := HLEN.out
        show _ ≤ _
        rw [HLE.out]
        simp at *; omega
      obtain ⟨m, HM⟩ : ∃ m, Hid (m = L.length) := ⟨_, rfl⟩
      have hm200 : m ≤ 200 := by rw [HM.out]; exact HLL.out
      obtain ⟨E, HE⟩ : ∃ E, Hid (E = putE K V) := ⟨_, rfl⟩
      have HSD := hid HS.out.sd
      clear hst hall
      go_wp2_with fail
      refine HSD.out.t.len.mono ?_
      rw [← HM.out]
      rintro e w3 ⟨rfl, hb3⟩
      have HS3 := hid (HSD.out.below_ hb3)
      clear hb3
      have x0 := below_keep HS3.out.since _ _ X0.out
      have x1 := below_keep HS3.out.since _ _ X1.out
      go_wp2_with fail
      refine (HS3.out.t.put (by have := HLL.out; omega) K V HKB.out HVB.out (by omega)).mono ?_
      rw [← HE.out]
      by_cases hE : E = 0
      · have hp0 : putE K V = 0 := HE.out.symm.trans hE
        have hB := backP HS3.out.t.rise hp0
        have hpn : putN L K V = putL L K V := by unfold putN; rw [if_pos hp0]
        rw [hB.a, hB.w, hpn]
        have HBP := hid hB
        clear hB hpn
        rintro e w4 ⟨rfl, hd4⟩
        have HS4 := hid (HS3.out.turn hd4)
        clear hd4 x0 x1
        have x0 := below_keep HS4.out.since _ _ X0.out
        have x1 := below_keep HS4.out.since _ _ X1.out
        obtain ⟨m1, HM1⟩ : ∃ m1, Hid (m1 = (putL L K V).length) := ⟨_, rfl⟩
        have HL1 : Hid (m1 = if (getL L K).isSome = true then m else m + 1) := by show _ = _; rw [HM1.out, HM.out]; exact HBP.out.len
        have HL4 : Hid ((putL L K V).length ≤ 300) := by
          have h1 := HL1.out
          have h2 := HM1.out
          show _ ≤ _
          split at h1 <;> omega
        obtain ⟨old, HOLD⟩ : ∃ old, Hid (old = oldL L K) := ⟨_, rfl⟩
        obtain ⟨was, HWAS⟩ : ∃ was, Hid (was = (getL L K).isSome) := ⟨_, rfl⟩
        rw [← HOLD.out, ← HWAS.out] at HBP
        rw [← HOLD.out, ← HWAS.out]
        rw [← HWAS.out] at HL1
        subst hE
        go_wp2_with fail
        refine (HS4.out.t.get (Nat.le_trans HL4.out (by decide)) K HKB.out (by omega)).mono ?_
        rw [HBP.out.g, HBP.out.ge]
        rintro e w5 ⟨rfl, hb5⟩
        have HS5 := hid (HS4.out.below_ hb5)
        clear hb5 x0 x1
        have x0 := below_keep HS5.out.since _ _ X0.out
        have x1 := below_keep HS5.out.since _ _ X1.out
        go_wp2_with fail
        refine (HS5.out.t.ceil (Nat.le_trans HL4.out (by decide)) K HKB.out).mono ?_
        rw [HBP.out.c]
        rintro e w6 ⟨rfl, hb6⟩
        have HS6 := hid (HS5.out.below_ hb6)
        clear hb6 x0 x1
        have x0 := below_keep HS6.out.since _ _ X0.out
        have x1 := below_keep HS6.out.since _ _ X1.out
        cases was with
        | true =>
          have hm1 : m1 = m := HL1.out
          subst hm1
          go_wp2_with fail
          refine HS6.out.t.len.mono ?_
          rw [← HM1.out]
          rintro e w7 ⟨rfl, hb7⟩
          have HS7 := hid (HS6.out.below_ hb7)
          clear hb7 x0 x1
          have x0 := below_keep HS7.out.since _ _ X0.out
          have x1 := below_keep HS7.out.since _ _ X1.out
          go_wp2_with fail
          refine (HS7.out.t.del (Nat.le_trans HL4.out (by decide)) K HKB.out (by omega)).mono ?_
          rw [HBP.out.d, HBP.out.ge, HBP.out.dn]
          rintro e w8 ⟨rfl, hd⟩
          have HS8 := hid (HS7.out.turn hd)
          clear hd x0 x1
          have x0 := below_keep HS8.out.since _ _ X0.out
          have x1 := below_keep HS8.out.since _ _ X1.out
          have HL5 : Hid ((delL (putL L K V) K).length ≤ 300) := by
            have h1 := HBP.out.dlen
            have h2 := HLL.out
            show _ ≤ _
            omega
          go_wp2_with fail
          refine (HS8.out.t.get (Nat.le_trans HL5.out (by decide)) K HKB.out (by omega)).mono ?_
          rw [HBP.out.n, HBP.out.gn]
          rintro e w9 ⟨rfl, hb⟩
          have HS9 := hid (HS8.out.below_ hb)
          clear hb x0 x1
          have x0 := below_keep HS9.out.since _ _ X0.out
          have x1 := below_keep HS9.out.since _ _ X1.out
          have HFO : Hid (putE K old = 0 ∧ Byt old) := by
            obtain ⟨v0, hg⟩ : ∃ v, getL L K = some v := Option.isSome_iff_exists.1 HWAS.out.symm
            have hv0 : old = v0 := by rw [HOLD.out]; unfold oldL; rw [hg]; rfl
            have hmem := List.mem_of_getElem? (getL_some hg)
            subst hv0
            refine ⟨?_, (HS.out.t.byt _ hmem).2⟩
            have h1 := HFIT.out _ hmem
            rcases putE_cases K old with ⟨g1, g2⟩ | ⟨g1, g2, g3⟩ | ⟨g1, g2, g3⟩
            · rcases putE_cases K V with ⟨k1, k2⟩ | ⟨k1, k2, k3⟩ | ⟨k1, k2, k3⟩
              · omega
              · omega
              · rw [g1] at k1; cases k1
            · simp at h1; omega
            · exact g3
          have HPN : Hid (putN (delL (putL L K V) K) K old = L) := by
            show _ = _
            have h1 := HBP.out.same
            rw [if_pos rfl] at h1
            unfold putN
            rw [if_pos HFO.out.1, h1]
          go_wp2_with fail
          refine (HS9.out.t.put (Nat.le_trans HL5.out (by decide)) K old HKB.out HFO.out.2 (by omega)).mono ?_
          rw [HPN.out]
          rintro e w10 ⟨rfl, hd⟩
          have HS10 := hid (HS9.out.turn hd).st
          clear hd x0 x1
          go_wp2_with fail
          refine (same_st HS10.out (by have := HLL.out; omega)).mono ?_
          rintro e w20 ⟨rfl, hb20⟩
          have HS20 := hid (HS10.out.below_ hb20)
          clear hb20
          go_wp2_with fail
          refine (awake_yes _).mono ?_
          rintro e w21 ⟨rfl, hb21⟩
          go_wp2
          go_ret
          exact ⟨rfl, below_step HB0.out (below_step HS20.out.since hb21)⟩
        | false =>
          have hm1 : m1 = m + 1 := HL1.out
          have hne : ¬ (m1 : Int) = m := by omega
          have hwm : IntKind.i64.wrap ((m : Int) + 1) = m1 := by rw [wrap_ok (by omega) (by omega)]; omega
          have HM1' := hid hm1
          clear hm1
          go_wp2_with fail
          refine HS6.out.t.len.mono ?_
          rw [← HM1.out]
          rintro e w7 ⟨rfl, hb7⟩
          have HS7 := hid (HS6.out.below_ hb7)
          clear hb7 x0 x1
          have x0 := below_keep HS7.out.since _ _ X0.out
          have x1 := below_keep HS7.out.since _ _ X1.out
          go_wp2_with fail
          refine HS7.out.t.len.mono ?_
          rw [← HM1.out]
          rintro e w8 ⟨rfl, hb8⟩
          have HS8 := hid (HS7.out.below_ hb8)
          clear hb8 x0 x1
          have x0 := below_keep HS8.out.since _ _ X0.out
          have x1 := below_keep HS8.out.since _ _ X1.out
          go_wp2_with fail
          refine (HS8.out.t.del (Nat.le_trans HL4.out (by decide)) K HKB.out (by omega)).mono ?_
          rw [HBP.out.d, HBP.out.ge, HBP.out.dn]
          rintro e w9 ⟨rfl, hd⟩
          have HS9 := hid (HS8.out.turn hd)
          clear hd x0 x1
          have x0 := below_keep HS9.out.since _ _ X0.out
          have x1 := below_keep HS9.out.since _ _ X1.out
          have HL5 : Hid ((delL (putL L K V) K).length ≤ 300) := by
            have h1 := HBP.out.dlen
            have h2 := HLL.out
            show _ ≤ _
            omega
          go_wp2_with fail
          refine (HS9.out.t.get (Nat.le_trans HL5.out (by decide)) K HKB.out (by omega)).mono ?_
          rw [HBP.out.n, HBP.out.gn]
          rintro e w10 ⟨rfl, hb⟩
          have HS10 := hid (HS9.out.below_ hb)
          clear hb x0 x1
          have x0 := below_keep HS10.out.since _ _ X0.out
          have x1 := below_keep HS10.out.since _ _ X1.out
          have hsm : delL (putL L K V) K = L := by
            have h1 := HBP.out.same
            rw [if_neg (by decide)] at h1
            exact h1
          rw [hsm] at HS10
          have HSQ := hid HS10.out.st
          clear hsm
          go_wp2_with fail
          refine (same_st HSQ.out (by have := HLL.out; omega)).mono ?_
          rintro e w20 ⟨rfl, hb20⟩
          have HS20 := hid (HSQ.out.below_ hb20)
          clear hb20
          go_wp2_with fail
          refine (awake_yes _).mono ?_
          rintro e w21 ⟨rfl, hb21⟩
          go_wp2
          go_ret
          exact ⟨rfl, below_step HB0.out (below_step HS20.out.since hb21)⟩
      · have hB : putN L K V = L ∧ putA L K V = [] ∧ putW L K V = false := by
          have hp0 : ¬ putE K V = 0 := fun h => hE (HE.out.trans h)
          unfold putN putA putW
          rw [if_neg hp0, if_neg hp0, if_neg hp0]
          exact ⟨rfl, rfl, rfl⟩
        rw [hB.1, hB.2.1, hB.2.2, ← str_nil]
        clear hB
        rintro e w4 ⟨rfl, hd4⟩
        have HS4 := hid (HS3.out.turn hd4).st
        clear hd4 x0 x1
        go_wp2_with fail
        refine (same_st HS4.out (by have := HLL.out; omega)).mono ?_
        rintro e w20 ⟨rfl, hb20⟩
        have HS20 := hid (HS4.out.below_ hb20)
        clear hb20
        go_wp2_with fail
        refine (awake_yes _).mono ?_
        rintro e w21 ⟨rfl, hb21⟩
        go_wp2
        go_ret
        exact ⟨rfl, below_step HB0.out (below_step HS20.out.since hb21)⟩
theorem back_any (w : World) (n : Int) (v : Value) (os : List Cl) (K V : List Nat) (hv : Elems 3 cO w v os) (hos : ClsOk os) (hKb : Byt K) (hVb : Byt V) : Calls Try.prog 6 #[.int .i64 n, v, two2 K V] w (Yes w) := by
  by_cases hn : n < 2 ∨ 16 < n
  · exact back_no w n hn v K V
  · obtain ⟨o, rfl⟩ : ∃ o : Nat, n = (o : Int) := ⟨n.toNat, by omega⟩
    cases hf : fewB os with
    | false => exact back_many w o (by omega) (by omega) v os K V hv hf
    | true =>
      by_cases hK : 300 < K.length
      · exact back_key w o (by omega) (by omega) v os K V hv hf hK
      · by_cases hV : 300 < V.length
        · exact back_val w o (by omega) (by omega) v os K V hv hf hK hV
        · exact back_ok w o (by omega) (by omega) v os K V hv hos hKb hVb hf (by omega) (by omega)
end Go.Proofs.Ytpckaglefmpkcaa
