/- TableBack. -/
import Derived.Test.YtlnagdodnkhbmaaT32
import Derived.Test.YtlnagdodnkhbmaaT33
namespace Go.Proofs.Ytlnagdodnkhbmaa
open Go.RowKit
set_option maxRecDepth 100000
theorem in_any (w : World) (v : Value) (l : List (List Nat)) (hv : Elems 1 cT w v l) (hl : ∀ x ∈ l, Byt x) (k : List Nat) (hk : Byt k) :
    Calls Try.prog 25 #[v, .string (str k)] w fun e w' => e = .returned (.bool (decide (k ∈ l))) ∧ w' = w := by
  obtain ⟨A, cap, rfl⟩ := hv.slice
  have HL := hid hv
  have HBL := hid hl
  have HK := hid hk
  have hcap := hv.cap
  have hml : l.length ≤ 9223372036854775807 := by have := hcap.2.2; unfold maxLen at this; omega
  obtain ⟨len, HLEN⟩ : ∃ len, Hid (len = l.length) := ⟨_, rfl⟩
  rw [← HLEN.out] at hml HL ⊢
  clear hv hl hk hcap
  go_enter Try.func25, Try.ntmps25
  go_wp2
  go_loop [5] (fun i => ∃ n : Nat, n ≤ len ∧ i = .int .i64 n ∧ Hid (∀ (j : Nat) (x : List Nat), j < n → l[j]? = some x → x ≠ k)) (fun i => len - (intOf i).toNat)
  case atStart => exact ⟨0, by omega, rfl, fun j x hj => by omega⟩
  case round =>
    obtain ⟨n, hn, rfl, HJ⟩ := hrel
    by_cases hlt : n < len
    · have hlti : (n : Int) < len := by omega
      obtain ⟨x, hx⟩ : ∃ x, l[n]? = some x := ⟨l[n]'(by have := HLEN.out; omega), List.getElem?_eq_getElem _⟩
      obtain ⟨ad, rfl, h0⟩ := HL.out.cell cT_len hx (j := 0) (u := .string (str x)) rfl
      rw [Nat.mul_one, Nat.add_zero] at h0
      have hbeq := beq_str (HBL.out x (List.mem_of_getElem? hx)) HK.out
      have HX := hid hx
      clear hx
      by_cases hxy : x = k
      · have HY : Hid (decide (k ∈ l) = true) := decide_eq_true (by rw [← hxy]; exact List.mem_of_getElem? HX.out)
        subst hxy
        go_wp2
        go_ret
        exact ⟨ret_bool HY.out.symm, rfl⟩
      · simp only [hxy, decide_false] at hbeq
        have HJ' : Hid (∀ (j : Nat) (y : List Nat), j < n + 1 → l[j]? = some y → y ≠ k) := fun j y hj hy => by
          rcases Nat.lt_or_ge j n with h | h
          · exact HJ.out j y h hy
          · obtain rfl : j = n := by omega
            have h1 := HX.out
            rw [hy] at h1
            injection h1 with h1
            rw [h1]; exact hxy
        clear hxy
        go_wp2
        go_round
        case rel => exact ⟨n + 1, by omega, by go_num, HJ'⟩
        case measure => simp [intOf]; omega
    · obtain rfl : n = len := by omega
      have HY : Hid (decide (k ∈ l) = false) := decide_eq_false fun hm => by
        obtain ⟨i, hi⟩ := List.getElem?_of_mem hm
        exact HJ.out i k (by have := (List.getElem?_eq_some_iff.1 hi).1; have := HLEN.out; omega) hi rfl
      go_wp2
      go_ret
      exact ⟨ret_bool HY.out.symm, rfl⟩
/-- A table of the rows m beside a reference of the rows l; nothing else has turned since W. -/
structure Hf (W w : World) (T : Nat) (p : Nat → Nat) (Q : Bl) (most o : Nat) (G : List Nat) (rp : Nat) (l m : List KR) : Prop where
  t : Tab w T p Q most o m
  r : RTab w G rp most l
  n : ∀ i, i < 5 → p i ∉ G
  c : Chg [] W w (rp :: five p)
section
variable {W w w' : World} {T : Nat} {p : Nat → Nat} {Q Q' : Bl} {most o : Nat} {G : List Nat} {rp : Nat} {l m m' : List KR}
theorem St.hf (h : St W w T p Q most o G rp l) : Hf W w T p Q most o G rp l l := ⟨h.t, h.r, h.n, h.c⟩
theorem Hf.since (h : Hf W w T p Q most o G rp l m) : Below W.heap.size W w := h.c.below (fun _ h => by cases h) (Nat.le_refl _)
theorem Hf.below_ (h : Hf W w T p Q most o G rp l m) (hb : Below w.heap.size w w') : Hf W w' T p Q most o G rp l m := ⟨h.t.below hb, h.r.below hb, h.n, h.c.step_below hb⟩
theorem Hf.step (h : Hf W w T p Q most o G rp l m) (ht : Tab w' T p Q' most o m') (hc : Chg (five p) w w' (five p)) : Hf W w' T p Q' most o G rp l m' :=
  ⟨ht, h.r.chg hc (fun b hb => by obtain ⟨i, hi, rfl⟩ := mem_five.1 hb; exact h.n i hi), h.n, h.c.trans (hc.wide2 fun k hk => List.mem_cons_of_mem _ hk)⟩
end
theorem back_e1 (w : World) (n : Int) (v : Value) (o : Op7) (h : rightB n = false) : Calls Try.prog 6 #[.int .i64 n, v, opV o] w (Yes w) := by
  obtain ⟨kk, kx, r⟩ := o
  obtain ⟨wa, HWA⟩ : ∃ wa, Hid (wa = w.alloc (.cells #[.int .i64 kk, .string (str kx), .int .i64 r.a, .int .i64 r.b, .int .i64 r.c, .int .i64 r.d] 35)) := ⟨_, rfl⟩
  have HBA : Hid (Below w.heap.size w wa) := by rw [HWA.out]; exact (Below.refl _ _).alloc (Nat.le_refl _) _
  have HO : Hid (OpAt wa ⟨w.heap.size, 0, none⟩ ⟨kk, kx, r⟩) := by rw [HWA.out]; exact opAt_new w ⟨kk, kx, r⟩
  unfold opV
  go_enter Try.func6, Try.ntmps6
  go_wp2_with fail
  rw [← HWA.out]
  refine (right_any wa n).mono ?_
  rw [h]
  rintro e w1 ⟨rfl, rfl⟩
  go_wp2_with fail
  refine (awake_any _).mono ?_
  rintro e w9 ⟨rfl, hb9⟩
  go_wp2
  go_ret
  exact ⟨rfl, below_step HBA.out hb9⟩
theorem back_e2 (w : World) (n : Int) (v : Value) (o : Op7) (os : List Op7) (hv : Elems 6 cOp w v os) (h : rightB n = true) (hf : few7 os = false) : Calls Try.prog 6 #[.int .i64 n, v, opV o] w (Yes w) := by
  obtain ⟨kk, kx, r⟩ := o
  obtain ⟨wa, HWA⟩ : ∃ wa, Hid (wa = w.alloc (.cells #[.int .i64 kk, .string (str kx), .int .i64 r.a, .int .i64 r.b, .int .i64 r.c, .int .i64 r.d] 35)) := ⟨_, rfl⟩
  have HBA : Hid (Below w.heap.size w wa) := by rw [HWA.out]; exact (Below.refl _ _).alloc (Nat.le_refl _) _
  have HO : Hid (OpAt wa ⟨w.heap.size, 0, none⟩ ⟨kk, kx, r⟩) := by rw [HWA.out]; exact opAt_new w ⟨kk, kx, r⟩
  unfold opV
  go_enter Try.func6, Try.ntmps6
  go_wp2_with fail
  rw [← HWA.out]
  refine (right_any wa n).mono ?_
  rw [h]
  rintro e w1 ⟨rfl, rfl⟩
  go_wp2_with fail
  refine (few7_any _ v os (hv.below HBA.out)).mono ?_
  rw [hf]
  rintro e w2 ⟨rfl, rfl⟩
  go_wp2_with fail
  refine (awake_any _).mono ?_
  rintro e w9 ⟨rfl, hb9⟩
  go_wp2
  go_ret
  exact ⟨rfl, below_step HBA.out hb9⟩
theorem back_e3 (w : World) (n : Int) (v : Value) (o : Op7) (os : List Op7) (hv : Elems 6 cOp w v os) (h : rightB n = true) (hf : few7 os = true) (hk : 100 < o.key.length) : Calls Try.prog 6 #[.int .i64 n, v, opV o] w (Yes w) := by
  obtain ⟨kk, kx, r⟩ := o
  obtain ⟨wa, HWA⟩ : ∃ wa, Hid (wa = w.alloc (.cells #[.int .i64 kk, .string (str kx), .int .i64 r.a, .int .i64 r.b, .int .i64 r.c, .int .i64 r.d] 35)) := ⟨_, rfl⟩
  have HBA : Hid (Below w.heap.size w wa) := by rw [HWA.out]; exact (Below.refl _ _).alloc (Nat.le_refl _) _
  have HO : Hid (OpAt wa ⟨w.heap.size, 0, none⟩ ⟨kk, kx, r⟩) := by rw [HWA.out]; exact opAt_new w ⟨kk, kx, r⟩
  obtain ⟨hc0, hc1, hc2, hc3, hc4, hc5⟩ := HO.out
  dsimp only at hc0 hc1 hc2 hc3 hc4 hc5 hk
  have hs1 := str_size kx
  have hki : (100 : Int) < (kx.length : Int) := by omega
  unfold opV
  go_enter Try.func6, Try.ntmps6
  go_wp2_with fail
  rw [← HWA.out]
  refine (right_any wa n).mono ?_
  rw [h]
  rintro e w1 ⟨rfl, rfl⟩
  go_wp2_with fail
  refine (few7_any _ v os (hv.below HBA.out)).mono ?_
  rw [hf]
  rintro e w2 ⟨rfl, rfl⟩
  go_wp2_with fail
  refine (awake_any _).mono ?_
  rintro e w9 ⟨rfl, hb9⟩
  go_wp2
  go_ret
  exact ⟨rfl, below_step HBA.out hb9⟩
theorem back_bad (w : World) (most : Nat) (h1 : 1 ≤ most) (h2 : most ≤ 1024) (v : Value) (os : List Op7) (hv : Elems 6 cOp w v os) (hos : OpsOk os) (o : Op7) (ho : o.Ok) (hk : o.key.length ≤ 100) (hf : few7 os = true) (he : kputE most (runK most [] os) o.key ≠ 0) :
    Calls Try.prog 6 #[.int .i64 (most : Int), v, opV o] w (Yes w) := by
  obtain ⟨kk, kx, r⟩ := o
  have HKB : Hid (Byt kx) := ho.key
  have HRO : Hid (r.ok) := ho.row
  obtain ⟨wa, HWA⟩ : ∃ wa, Hid (wa = w.alloc (.cells #[.int .i64 kk, .string (str kx), .int .i64 r.a, .int .i64 r.b, .int .i64 r.c, .int .i64 r.d] 35)) := ⟨_, rfl⟩
  have HBA : Hid (Below w.heap.size w wa) := by rw [HWA.out]; exact (Below.refl _ _).alloc (Nat.le_refl _) _
  have HO : Hid (OpAt wa ⟨w.heap.size, 0, none⟩ ⟨kk, kx, r⟩) := by rw [HWA.out]; exact opAt_new w ⟨kk, kx, r⟩
  have HOP : Hid (∀ W, Below wa.heap.size wa W → W.cell? ⟨w.heap.size, 1, none⟩ = some (.string (str kx)) ∧ W.cell? ⟨w.heap.size, 2, none⟩ = some (.int .i64 r.a) ∧ W.cell? ⟨w.heap.size, 3, none⟩ = some (.int .i64 r.b) ∧ W.cell? ⟨w.heap.size, 4, none⟩ = some (.int .i64 r.c) ∧ W.cell? ⟨w.heap.size, 5, none⟩ = some (.int .i64 r.d)) := fun W hb => (HO.out.below hb).2
  have HV := hid (hv.below HBA.out)
  have HR : Hid (rightB (most : Int) = true) := decide_eq_true (by omega)
  have HOS := hid hos
  have HE := hid he
  obtain ⟨hc1, hc2, hc3, hc4, hc5⟩ := HOP.out _ (Below.refl _ _)
  dsimp only at hk
  have hs1 := str_size kx
  have hki : ¬ (100 : Int) < (kx.length : Int) := by omega
  have heq := eq_rows r r
  rw [decide_eq_true rfl] at heq
  clear hv hos ho he hk
  unfold opV
  go_enter Try.func6, Try.ntmps6
  go_wp2_with fail
  rw [← HWA.out]
  refine (right_any wa _).mono ?_
  rw [HR.out]
  rintro e w1 ⟨rfl, rfl⟩
  go_wp2_with fail
  refine (few7_any _ v os HV.out).mono ?_
  rw [hf]
  rintro e w2 ⟨rfl, rfl⟩
  go_wp2_with fail
  refine (made_any _ most h1 h2 v os HV.out HOS.out).mono ?_
  rintro e w3 ⟨p, Q, G, rp, rfl, hst⟩
  have HH := hid hst.hf
  obtain ⟨l, HL⟩ : ∃ l, Hid (l = runK most [] os) := ⟨_, rfl⟩
  rw [← HL.out] at HH HE
  have HROWS := hid HH.out.t.rows
  have HLM := hid HH.out.t.full
  obtain ⟨T, HTT⟩ : ∃ T, Hid (T = w1.heap.size) := ⟨_, rfl⟩
  rw [← HTT.out] at HH ⊢
  have HKY := hid HROWS.out.kbyt
  obtain ⟨A, HA⟩ : ∃ A, Hid (A = kgetR l kx) := ⟨_, rfl⟩
  obtain ⟨ws, HWS⟩ : ∃ b, Hid (b = kputW l kx) := ⟨_, rfl⟩
  obtain ⟨E, HEE⟩ : ∃ E, Hid (E = kputE most l kx) := ⟨_, rfl⟩
  clear hst hc1 hc2 hc3 hc4 hc5
  obtain ⟨hc1, hc2, hc3, hc4, hc5⟩ := HOP.out _ HH.out.since
  have HBAD := hid (put_refused HE.out r)
  have hEn : ¬ E = 0 := by rw [HEE.out]; exact HE.out
  go_wp2_with fail
  refine (tput_raw HH.out.t kx HKB.out r HRO.out).mono ?_
  rw [← HEE.out, HBAD.out.1, HBAD.out.2.1, HBAD.out.2.2]
  rintro e w4 ⟨rfl, ht4, cg4⟩
  have HH4 := hid (HH.out.step ht4 cg4)
  have HH5 : Hid (Hf w1 (w4.alloc (.cells #[.int .i64 0, .int .i64 0, .int .i64 0, .int .i64 0] 33)) T p _ most 2 G rp l l) := HH4.out.below_ ((Below.refl _ _).alloc (Nat.le_refl _) _)
  have heq0 := eq_rows zero4 zero4
  rw [decide_eq_true rfl] at heq0
  dsimp only [rowv, rowc, zero4] at heq0 ⊢
  obtain ⟨y0, y1, y2, y3⟩ := (lies_zero w4).four
  dsimp only [rowc, zero4] at y0 y1 y2 y3
  clear ht4 cg4 hc1 hc2 hc3 hc4 hc5
  go_wp2_with fail
  refine (same7_yes _ T p _ most 2 l G rp HH5.out.t HH5.out.r HKY.out).mono ?_
  rintro e w6 ⟨rfl, hb6⟩
  have HH6 := hid (HH5.out.below_ hb6)
  clear hb6
  go_wp2_with fail
  refine (check_yes HH6.out.t).mono ?_
  rintro e w7 ⟨rfl, hb7⟩
  have HH7 := hid (HH6.out.below_ hb7)
  clear hb7
  go_wp2_with fail
  refine (awake_any _).mono ?_
  rintro e w8 ⟨rfl, hb8⟩
  go_wp2
  go_ret
  exact ⟨rfl, below_step (below_step HBA.out HH7.out.since) hb8⟩
set_option maxHeartbeats 4000000 in
theorem back_ok (w : World) (most : Nat) (h1 : 1 ≤ most) (h2 : most ≤ 1024) (v : Value) (os : List Op7) (hv : Elems 6 cOp w v os) (hos : OpsOk os) (o : Op7) (ho : o.Ok) (hk : o.key.length ≤ 100) (hf : few7 os = true) (he : kputE most (runK most [] os) o.key = 0) :
    Calls Try.prog 6 #[.int .i64 (most : Int), v, opV o] w (Yes w) := by
  obtain ⟨kk, kx, r⟩ := o
  have HKB : Hid (Byt kx) := ho.key
  have HRO : Hid (r.ok) := ho.row
  obtain ⟨wa, HWA⟩ : ∃ wa, Hid (wa = w.alloc (.cells #[.int .i64 kk, .string (str kx), .int .i64 r.a, .int .i64 r.b, .int .i64 r.c, .int .i64 r.d] 35)) := ⟨_, rfl⟩
  have HBA : Hid (Below w.heap.size w wa) := by rw [HWA.out]; exact (Below.refl _ _).alloc (Nat.le_refl _) _
  have HO : Hid (OpAt wa ⟨w.heap.size, 0, none⟩ ⟨kk, kx, r⟩) := by rw [HWA.out]; exact opAt_new w ⟨kk, kx, r⟩
  have HOP : Hid (∀ W, Below wa.heap.size wa W → W.cell? ⟨w.heap.size, 1, none⟩ = some (.string (str kx)) ∧ W.cell? ⟨w.heap.size, 2, none⟩ = some (.int .i64 r.a) ∧ W.cell? ⟨w.heap.size, 3, none⟩ = some (.int .i64 r.b) ∧ W.cell? ⟨w.heap.size, 4, none⟩ = some (.int .i64 r.c) ∧ W.cell? ⟨w.heap.size, 5, none⟩ = some (.int .i64 r.d)) := fun W hb => (HO.out.below hb).2
  have HV := hid (hv.below HBA.out)
  have HR : Hid (rightB (most : Int) = true) := decide_eq_true (by omega)
  have HOS := hid hos
  have HE := hid he
  obtain ⟨hc1, hc2, hc3, hc4, hc5⟩ := HOP.out _ (Below.refl _ _)
  dsimp only at hk
  have hs1 := str_size kx
  have hki : ¬ (100 : Int) < (kx.length : Int) := by omega
  have heq := eq_rows r r
  rw [decide_eq_true rfl] at heq
  clear hv hos ho he hk
  unfold opV
  go_enter Try.func6, Try.ntmps6
  go_wp2_with fail
  rw [← HWA.out]
  refine (right_any wa _).mono ?_
  rw [HR.out]
  rintro e w1 ⟨rfl, rfl⟩
  go_wp2_with fail
  refine (few7_any _ v os HV.out).mono ?_
  rw [hf]
  rintro e w2 ⟨rfl, rfl⟩
  go_wp2_with fail
  refine (made_any _ most h1 h2 v os HV.out HOS.out).mono ?_
  rintro e w3 ⟨p, Q, G, rp, rfl, hst⟩
  have HH := hid hst.hf
  obtain ⟨l, HL⟩ : ∃ l, Hid (l = runK most [] os) := ⟨_, rfl⟩
  rw [← HL.out] at HH HE
  have HROWS := hid HH.out.t.rows
  have HLM := hid HH.out.t.full
  obtain ⟨T, HTT⟩ : ∃ T, Hid (T = w1.heap.size) := ⟨_, rfl⟩
  rw [← HTT.out] at HH ⊢
  have HKY := hid HROWS.out.kbyt
  obtain ⟨A, HA⟩ : ∃ A, Hid (A = kgetR l kx) := ⟨_, rfl⟩
  obtain ⟨ws, HWS⟩ : ∃ b, Hid (b = kputW l kx) := ⟨_, rfl⟩
  obtain ⟨E, HEE⟩ : ∃ E, Hid (E = kputE most l kx) := ⟨_, rfl⟩
  clear hst hc1 hc2 hc3 hc4 hc5
  obtain ⟨hc1, hc2, hc3, hc4, hc5⟩ := HOP.out _ HH.out.since
  have HM1 := hid (kget_put HROWS.out HKB.out HRO.out HE.out)
  have HG1 := hid (getK_put HROWS.out HKB.out HRO.out HE.out)
  have HKEY := hid (put_key HE.out)
  obtain ⟨m, HMM⟩ : ∃ m, Hid (m = kputN most l kx r) := ⟨_, rfl⟩
  rw [← HMM.out] at HM1 HG1
  have hpf : ∀ i, i < 5 → p i < w3.heap.size := fun i hi => HH.out.t.plt hi
  have HPF := hid hpf
  clear hpf
  go_wp2_with fail
  refine (tput_raw HH.out.t kx HKB.out r HRO.out).mono ?_
  rw [HE.out, ← HA.out, ← HWS.out, ← HMM.out]
  rintro e w4 ⟨rfl, ht4, cg4⟩
  have HH4 := hid (HH.out.step ht4 cg4)
  have HS4 := hid cg4.size
  dsimp only [rowv, rowc]
  have hba : Below w4.heap.size w4 (w4.alloc (.cells #[.int .i64 A.a, .int .i64 A.b, .int .i64 A.c, .int .i64 A.d] 33)) := (Below.refl _ _).alloc (Nat.le_refl _) _
  have HH5 := hid (HH4.out.below_ hba)
  have HOLD := hid (Lies.new w4 A)
  dsimp only [rowc] at HOLD
  clear ht4 cg4 hc1 hc2 hc3 hc4 hc5 hba
  obtain ⟨hc1, hc2, hc3, hc4, hc5⟩ := HOP.out _ HH5.out.since
  go_wp2_with fail
  refine (tget HH5.out.t kx HKB.out).mono ?_
  rw [HM1.out.1, HM1.out.2]
  rintro e w6 ⟨rfl, hb6⟩
  dsimp only [rowv, rowc]
  have hba : Below w6.heap.size w6 (w6.alloc (.cells #[.int .i64 r.a, .int .i64 r.b, .int .i64 r.c, .int .i64 r.d] 33)) := (Below.refl _ _).alloc (Nat.le_refl _) _
  have HH7 := hid (HH5.out.below_ (below_step hb6 hba))
  have HOLD7 := hid (HOLD.out.below (below_step hb6 hba))
  obtain ⟨z0, z1, z2, z3⟩ := (Lies.new w6 r).four
  dsimp only [rowc] at z0 z1 z2 z3
  clear hb6 hba hc1 hc2 hc3 hc4 hc5
  obtain ⟨hc1, hc2, hc3, hc4, hc5⟩ := HOP.out _ HH7.out.since
  obtain ⟨wb, HWB⟩ : ∃ W, Hid (W = w6.alloc (.cells #[.int .i64 r.a, .int .i64 r.b, .int .i64 r.c, .int .i64 r.d] 33)) := ⟨_, rfl⟩
  go_wp2
  rw [← HWB.out] at HH7 HOLD7 hc1 hc2 hc3 hc4 hc5 z0 z1 z2 z3 ⊢
  obtain ⟨B9, HB9⟩ : ∃ B, Hid (B = w4.heap.size) := ⟨_, rfl⟩
  rw [← HB9.out] at HOLD7 ⊢
  have HHB := HH7
  have HOLDB := HOLD7
  clear hc1 hc2 hc3 hc4 hc5 z0 z1 z2 z3
  go_loopw [14] (fun i wr => ∃ j : Nat, j ≤ 4 ∧ i = .int .i64 j ∧ Below wb.heap.size wb wr) (fun i _ => 4 - (intOf i).toNat)
  case atStart => exact ⟨0, by omega, rfl, Below.refl _ _⟩
  case round =>
    obtain ⟨j, hj, rfl, hbr⟩ := hrel
    have HBR := hid hbr
    clear hbr
    by_cases hlt : j < 4
    · have hlti : (j : Int) < 4 := by omega
      have hlti5 : (j : Int) < 5 := by omega
      have hj0 : (0 : Int) ≤ (j : Int) := by omega
      obtain ⟨X, HX⟩ : ∃ X, Hid (X = r.at j) := ⟨_, rfl⟩
      have HIX : Hid (I64 X) := by rw [HX.out]; exact HRO.out.at hlt
      have HCX : Hid (∀ W, Below w1.heap.size w1 W → W.cell? ⟨w.heap.size, 2 + j, none⟩ = some (.int .i64 X) ∧ W.cell? ⟨w.heap.size, 1, none⟩ = some (.string (str kx))) := fun W hb => by
        obtain ⟨k1, k2, k3, k4, k5⟩ := HOP.out W hb
        refine ⟨?_, k1⟩
        rw [HX.out]
        rcases (by omega : j = 0 ∨ j = 1 ∨ j = 2 ∨ j = 3) with rfl | rfl | rfl | rfl
        · exact k2
        · exact k3
        · exact k4
        · exact k5
      obtain ⟨K, HK⟩ : ∃ K, Hid (K = (tellK j X X m).map Prod.fst) := ⟨_, rfl⟩
      have HKBY : Hid (∀ x ∈ K, Byt x) := by rw [HK.out]; exact keys_byt HHB.out.t.rows j X X
      have HIN : Hid (decide (kx ∈ K) = true) := by
        show _ = _
        rw [HK.out, ← findL_all HHB.out.t.rows HHB.out.t.le]
        exact decide_eq_true ((findL_one HHB.out.t.rows HHB.out.t.le j X).2 ⟨r, getK_mem HG1.out, HX.out.symm⟩)
      have HFI : Hid (∀ W, Below wb.heap.size wb W → Calls Try.prog 15 #[.pointer (some ⟨T, 0, none⟩), .int .i64 (j : Int), .int .i64 X, .int .i64 X, .int .i64 2000] W (FindEnd W K)) := fun W hb => by
        rw [HK.out]
        exact tfind_all (HHB.out.t.below hb) j hlt X X HIX.out HIX.out (Int.le_refl _)
      obtain ⟨cx, ck⟩ := HCX.out _ (below_step HHB.out.since HBR.out)
      go_wp2_with fail
      go_region_held3 (fun W => W.cell? ⟨w.heap.size, 2 + j, none⟩ = some (.int .i64 X)) (first | exact cx | exact HS5.out)
        (first | (go_at_call 15; ((with_reducible refine (HFI.out _ HBR.out.drew).mono ?_); rintro e wf ⟨vf, rfl, hof, hbf⟩; have HB5 := hid (below_step HBR.out.drew hbf); have HOF := hid hof.rows; have HS5 : Hid (wf.cell? ⟨w.heap.size, 2 + j, none⟩ = some (.int .i64 X)) := (HCX.out _ (below_step HHB.out.since HB5.out)).1; clear hbf hof)))
      clear cx ck
      obtain ⟨cx, ck⟩ := HCX.out _ (below_step HHB.out.since HB5.out)
      go_wp2_with fail
      refine (in_any _ _ K HOF.out HKBY.out kx HKB.out).mono ?_
      rw [HIN.out]
      rintro e w6 ⟨rfl, rfl⟩
      go_wp2
      go_roundw
      case rel => exact ⟨j + 1, by omega, by go_num, HB5.out⟩
      case measure => simp [intOf]; omega
    · have hj4 : ¬ (j : Int) < 4 := by omega
      have HJ4 := hid hj4
      clear hj hlt
      have HHN := hid (HHB.out.below_ HBR.out)
      have HOLDN := hid (HOLDB.out.below HBR.out)

      obtain ⟨hc1, hc2, hc3, hc4, hc5⟩ := HOP.out _ HHN.out.since
      have HB9F : Hid (B9 ∉ five p) := fun hm => by
        obtain ⟨i, hi, e⟩ := mem_five.1 hm
        have := HPF.out i hi
        have := HB9.out
        have := HS4.out
        omega
      obtain ⟨m2, HM2⟩ : ∃ m2, Hid (m2 = kdelN m kx) := ⟨_, rfl⟩
      go_wp2_with fail
      refine (tdel HHN.out.t kx HKB.out).mono ?_
      rw [HM1.out.1, HM1.out.2, ← HM2.out]
      rintro e w8 ⟨rfl, ht8, cg8⟩
      have HH8 := hid (HHN.out.step ht8 cg8)
      have HS8 := hid cg8.size
      have HOLD8 : Hid (Lies w8 B9 A) := HOLDN.out.keep (cg8.block _ HOLDN.out.lt HB9F.out)
      dsimp only [rowv, rowc]
      have hba : Below w8.heap.size w8 (w8.alloc (.cells #[.int .i64 r.a, .int .i64 r.b, .int .i64 r.c, .int .i64 r.d] 33)) := (Below.refl _ _).alloc (Nat.le_refl _) _
      have HH9 := hid (HH8.out.below_ hba)
      have HOLD9 := hid (HOLD8.out.below hba)
      have HY9 := hid (Lies.new w8 r)
      dsimp only [rowc] at HY9
      clear ht8 cg8 hba hc1 hc2 hc3 hc4 hc5
      obtain ⟨B17, HB17⟩ : ∃ B, Hid (B = w8.heap.size) := ⟨_, rfl⟩
      obtain ⟨wc, HWC⟩ : ∃ W, Hid (W = w8.alloc (.cells #[.int .i64 r.a, .int .i64 r.b, .int .i64 r.c, .int .i64 r.d] 33)) := ⟨_, rfl⟩
      go_wp2
      rw [← HWC.out] at HH9 HOLD9 HY9 ⊢
      rw [← HB17.out] at HY9 ⊢
      clear HHB HOLDB
      have HHB := HH9
      have HOLDB := HOLD9
      have HGONE : Hid (∀ q ∈ m2, q.1 ≠ kx) := fun q hq => by
        rw [HM2.out] at hq
        have hok : RowsOk m := by rw [HMM.out]; exact HROWS.out.kput most HKB.out HRO.out
        exact ((mem_kdelN hok kx).1 hq).2
      go_loopw [19] (fun i wr => ∃ j : Nat, j ≤ 4 ∧ i = .int .i64 j ∧ Below wc.heap.size wc wr) (fun i _ => 4 - (intOf i).toNat)
      case atStart => exact ⟨0, by omega, rfl, Below.refl _ _⟩
      case round =>
        obtain ⟨j, hj, rfl, hbr⟩ := hrel
        have HBR := hid hbr
        clear hbr
        by_cases hlt : j < 4
        · have hlti : (j : Int) < 4 := by omega
          have hlti5 : (j : Int) < 5 := by omega
          have hj0 : (0 : Int) ≤ (j : Int) := by omega
          obtain ⟨X, HX⟩ : ∃ X, Hid (X = r.at j) := ⟨_, rfl⟩
          have HIX : Hid (I64 X) := by rw [HX.out]; exact HRO.out.at hlt
          have HCX : Hid (∀ W, Below w1.heap.size w1 W → W.cell? ⟨w.heap.size, 2 + j, none⟩ = some (.int .i64 X) ∧ W.cell? ⟨w.heap.size, 1, none⟩ = some (.string (str kx))) := fun W hb => by
            obtain ⟨k1, k2, k3, k4, k5⟩ := HOP.out W hb
            refine ⟨?_, k1⟩
            rw [HX.out]
            rcases (by omega : j = 0 ∨ j = 1 ∨ j = 2 ∨ j = 3) with rfl | rfl | rfl | rfl
            · exact k2
            · exact k3
            · exact k4
            · exact k5
          obtain ⟨K, HK⟩ : ∃ K, Hid (K = (tellK j X X m2).map Prod.fst) := ⟨_, rfl⟩
          have HKBY : Hid (∀ x ∈ K, Byt x) := by rw [HK.out]; exact keys_byt HHB.out.t.rows j X X
          have HIN : Hid (decide (kx ∈ K) = false) := by
            show _ = _
            rw [HK.out, ← findL_all HHB.out.t.rows HHB.out.t.le]
            exact decide_eq_false fun hm => by
              obtain ⟨s, hs, _⟩ := (findL_one HHB.out.t.rows HHB.out.t.le j X).1 hm
              exact HGONE.out _ hs rfl
          have HFI : Hid (∀ W, Below wc.heap.size wc W → Calls Try.prog 15 #[.pointer (some ⟨T, 0, none⟩), .int .i64 (j : Int), .int .i64 X, .int .i64 X, .int .i64 2000] W (FindEnd W K)) := fun W hb => by
            rw [HK.out]
            exact tfind_all (HHB.out.t.below hb) j hlt X X HIX.out HIX.out (Int.le_refl _)
          obtain ⟨cx, ck⟩ := HCX.out _ (below_step HHB.out.since HBR.out)
          go_wp2_with fail
          go_region_held3 (fun W => W.cell? ⟨w.heap.size, 2 + j, none⟩ = some (.int .i64 X)) (first | exact cx | exact HS5.out)
            (first | (go_at_call 15; ((with_reducible refine (HFI.out _ HBR.out.drew).mono ?_); rintro e wf ⟨vf, rfl, hof, hbf⟩; have HB5 := hid (below_step HBR.out.drew hbf); have HOF := hid hof.rows; have HS5 : Hid (wf.cell? ⟨w.heap.size, 2 + j, none⟩ = some (.int .i64 X)) := (HCX.out _ (below_step HHB.out.since HB5.out)).1; clear hbf hof)))
          clear cx ck
          obtain ⟨cx, ck⟩ := HCX.out _ (below_step HHB.out.since HB5.out)
          go_wp2_with fail
          refine (in_any _ _ K HOF.out HKBY.out kx HKB.out).mono ?_
          rw [HIN.out]
          rintro e w6 ⟨rfl, rfl⟩
          go_wp2
          go_roundw
          case rel => exact ⟨j + 1, by omega, by go_num, HB5.out⟩
          case measure => simp [intOf]; omega
        · have hj4 : ¬ (j : Int) < 4 := by omega
          have HJ4 := hid hj4
          clear hj hlt
          have HHM := hid (HHB.out.below_ HBR.out)
          have HOLDM := hid (HOLDB.out.below HBR.out)
          have HYM := hid (HY9.out.below HBR.out)
          obtain ⟨hc1, hc2, hc3, hc4, hc5⟩ := HOP.out _ HHM.out.since
          have HEND : Hid (∀ (Q' : Bl) (wz : World), Hf w1 wz T p Q' most 2 G rp l l → Hid (Calls Try.prog 20 #[.pointer (some ⟨T, 0, none⟩), .pointer (some ⟨rp, 0, none⟩)] wz fun e w' => e = .returned (.bool true) ∧ Below wz.heap.size wz w')) := fun Q' wz h => same7_yes _ T p _ most 2 l G rp h.t h.r HKY.out
          cases ws with
          | true =>
            obtain ⟨s, hs⟩ : ∃ s, getK l kx = some s := by
              have h5 := HWS.out
              unfold kputW at h5
              rw [HKEY.out] at h5
              cases hg : getK l kx with
              | none => rw [hg] at h5; cases h5
              | some s => exact ⟨s, rfl⟩
            have HAS : Hid (A = s) := by
              show _ = _
              rw [HA.out]
              unfold kgetR
              rw [HKEY.out, hs]
              rfl
            have hbw := back_was HROWS.out HLM.out HKB.out HRO.out HE.out hs
            rw [← HMM.out, ← HM2.out, ← HAS.out] at hbw
            have HBK := hid hbw
            have HAO : Hid (A.ok) := by rw [HAS.out]; exact HROWS.out.ok _ (getK_mem hs)
            obtain ⟨o0, o1, o2, o3⟩ := HOLDM.out.four
            clear hbw hs
            go_wp2_with fail
            refine (tput_raw HHM.out.t kx HKB.out A HAO.out).mono ?_
            rw [HBK.out.1, HBK.out.2]
            rintro e w7 ⟨rfl, ht7, cg7⟩
            have HHZ := hid (HHM.out.step ht7 cg7)
            have HB17F : Hid (B17 ∉ five p) := fun hm => by
              obtain ⟨i, hi, e⟩ := mem_five.1 hm
              have := HHN.out.t.plt hi
              have := HB17.out
              have := HS8.out
              omega
            have HYZ : Hid (Lies w7 B17 r) := HYM.out.keep (cg7.block _ HYM.out.lt HB17F.out)
            clear ht7 cg7 hc1 hc2 hc3 hc4 hc5 o0 o1 o2 o3
            obtain ⟨hc1, hc2, hc3, hc4, hc5⟩ := HOP.out _ HHZ.out.since
            obtain ⟨z0, z1, z2, z3⟩ := HYZ.out.four
            go_wp2_with fail
            refine (HEND.out _ _ HHZ.out).out.mono ?_
            rintro e w10 ⟨rfl, hb10⟩
            have HHY := hid (HHZ.out.below_ hb10)
            clear hb10
            go_wp2_with fail
            refine (check_yes HHY.out.t).mono ?_
            rintro e w11 ⟨rfl, hb11⟩
            have HHX := hid (HHY.out.below_ hb11)
            clear hb11
            go_wp2_with fail
            refine (awake_any _).mono ?_
            rintro e w12 ⟨rfl, hb12⟩
            go_wp2
            go_ret
            exact ⟨rfl, below_step (below_step HBA.out HHX.out.since) hb12⟩
          | false =>
            have HM2L : Hid (m2 = l) := by
              show _ = _
              have h5 : getK l kx = none := by
                have h6 := HWS.out
                unfold kputW at h6
                rw [HKEY.out] at h6
                cases hg : getK l kx with
                | none => rfl
                | some s => rw [hg] at h6; cases h6
              rw [HM2.out, HMM.out]
              exact back_new HROWS.out HKB.out HRO.out HE.out h5
            have HHZ := HHM
            rw [HM2L.out] at HHZ
            obtain ⟨z0, z1, z2, z3⟩ := HYM.out.four
            go_wp2_with fail
            refine (HEND.out _ _ HHZ.out).out.mono ?_
            rintro e w10 ⟨rfl, hb10⟩
            have HHY := hid (HHZ.out.below_ hb10)
            clear hb10
            go_wp2_with fail
            refine (check_yes HHY.out.t).mono ?_
            rintro e w11 ⟨rfl, hb11⟩
            have HHX := hid (HHY.out.below_ hb11)
            clear hb11
            go_wp2_with fail
            refine (awake_any _).mono ?_
            rintro e w12 ⟨rfl, hb12⟩
            go_wp2
            go_ret
            exact ⟨rfl, below_step (below_step HBA.out HHX.out.since) hb12⟩
theorem tableback_any (w : World) (n : Int) (v : Value) (os : List Op7) (hv : Elems 6 cOp w v os) (hos : OpsOk os) (o : Op7) (ho : o.Ok) : Calls Try.prog 6 #[.int .i64 n, v, opV o] w (Yes w) := by
  by_cases hn : 1 ≤ n ∧ n ≤ 1024
  · have hr : rightB n = true := decide_eq_true hn
    cases hf : few7 os with
    | false => exact back_e2 w n v o os hv hr hf
    | true =>
      by_cases hk : 100 < o.key.length
      · exact back_e3 w n v o os hv hr hf hk
      · obtain ⟨k, rfl⟩ : ∃ k : Nat, n = (k : Int) := ⟨n.toNat, by omega⟩
        by_cases he : kputE k (runK k [] os) o.key = 0
        · exact back_ok w k (by omega) (by omega) v os hv hos o ho (by omega) hf he
        · exact back_bad w k (by omega) (by omega) v os hv hos o ho (by omega) hf he
  · exact back_e1 w n v o (decide_eq_false hn)
end Go.Proofs.Ytlnagdodnkhbmaa

