/- TablePlays. -/
import Derived.Test.YtaineeappnlbfaaT22
namespace Go.Proofs.Ytaineeappnlbfaa
open Go.RowKit
set_option maxRecDepth 100000
theorem st7_len {W w : World} {T : Nat} {p : Nat → Nat} {Q : Bl} {most o : Nat} {G : List Nat} {rp : Nat} {l : List KR} (h : St W w T p Q most o G rp l) : ∃ A n c, Hid (n = l.length) ∧ w.cell? ⟨rp, 0, none⟩ = some (.slice A n c) := by
  obtain ⟨v, h1, h2, _⟩ := h.r
  obtain ⟨A, cap, rfl⟩ := h2.slice
  exact ⟨A, _, cap, rfl, by have := cell_of_row w rp 0 _ _ _ h1; simpa using this⟩
/-- A box of two numbers. -/
def Box2 (w : World) (b : Nat) (x y : Int) : Prop := w.cell? ⟨b, 0, none⟩ = some (.int .i64 x) ∧ w.cell? ⟨b, 1, none⟩ = some (.int .i64 y)
theorem Box2.new (w : World) (x y : Int) (e : TypeId) : Box2 (w.alloc (.cells #[.int .i64 x, .int .i64 y] e)) w.heap.size x y := ⟨cell_of_row _ _ 0 _ _ _ (heap_alloc_new w _), cell_of_row _ _ 1 _ _ _ (heap_alloc_new w _)⟩
theorem Box2.below {w w' : World} {b : Nat} {x y : Int} (h : Box2 w b x y) (hb : Below w.heap.size w w') : Box2 w' b x y := ⟨below_keep hb _ _ h.1, below_keep hb _ _ h.2⟩
theorem plays_no (w : World) (x y : Int) (v : Value) (h : ¬ (1 ≤ x ∧ x ≤ 1024) ∨ ((1 ≤ x ∧ x ≤ 1024) ∧ (y < 2 ∨ (2 ≤ y ∧ 16 < y)))) : Calls Try.prog 3 #[.agg #[.int .i64 x, .int .i64 y], v] w (Yes w) := by
  obtain ⟨wa, HWA⟩ : ∃ wa, Hid (wa = w.alloc (.cells #[.int .i64 x, .int .i64 y] 22)) := ⟨_, rfl⟩
  have HBA : Hid (Below w.heap.size w wa) := by rw [HWA.out]; exact (Below.refl _ _).alloc (Nat.le_refl _) _
  have HBX : Hid (Box2 wa w.heap.size x y) := by rw [HWA.out]; exact Box2.new w x y _
  have hn : Hid (Calls Try.prog 11 #[.int .i64 x, .int .i64 y] wa fun e w' => e = .returned (.tuple #[.pointer none, .int .i64 23]) ∧ Below wa.heap.size wa w') := by
    rcases h with h | ⟨⟨h1, h2⟩, h⟩
    · exact tnew_range wa x y (by omega)
    · have := tnew_order wa x.toNat (by omega) (by omega) y (by omega)
      rwa [show ((x.toNat : Nat) : Int) = x by omega] at this
  have HAW := awake_any
  rcases h with h | ⟨h, hy⟩
  · have HR : Hid (rightB x = false) := decide_eq_false h
    go_enter Try.func3, Try.ntmps3
    go_wp2_with fail
    rw [← HWA.out]
    refine hn.out.mono ?_
    rintro e w1 ⟨rfl, hb1⟩
    obtain ⟨b0, b1⟩ := HBX.out.below hb1
    have HB1 := hid (below_step HBA.out hb1)
    clear hb1
    go_wp2_with fail
    refine (right_any w1 x).mono ?_
    rw [HR.out]
    rintro e w2 ⟨rfl, rfl⟩
    go_wp2_with fail
    refine (awake_any _).mono ?_
    rintro e w2 ⟨rfl, hb2⟩
    go_wp2
    go_ret
    exact ⟨rfl, below_step HB1.out hb2⟩
  · have HR : Hid (rightB x = true) := decide_eq_true h
    rcases hy with hy | ⟨hy, hy2⟩
    · skip
      go_enter Try.func3, Try.ntmps3
      go_wp2_with fail
      rw [← HWA.out]
      refine hn.out.mono ?_
      rintro e w1 ⟨rfl, hb1⟩
      obtain ⟨b0, b1⟩ := HBX.out.below hb1
      have HB1 := hid (below_step HBA.out hb1)
      clear hb1
      go_wp2_with fail
      refine (right_any w1 x).mono ?_
      rw [HR.out]
      rintro e w2 ⟨rfl, rfl⟩
      go_wp2_with fail
      refine (awake_any _).mono ?_
      rintro e w2 ⟨rfl, hb2⟩
      go_wp2
      go_ret
      exact ⟨rfl, below_step HB1.out hb2⟩
    · have hy' : ¬ y < 2 := by omega
      go_enter Try.func3, Try.ntmps3
      go_wp2_with fail
      rw [← HWA.out]
      refine hn.out.mono ?_
      rintro e w1 ⟨rfl, hb1⟩
      obtain ⟨b0, b1⟩ := HBX.out.below hb1
      have HB1 := hid (below_step HBA.out hb1)
      clear hb1
      go_wp2_with fail
      refine (right_any w1 x).mono ?_
      rw [HR.out]
      rintro e w2 ⟨rfl, rfl⟩
      go_wp2_with fail
      refine (awake_any _).mono ?_
      rintro e w2 ⟨rfl, hb2⟩
      go_wp2
      go_ret
      exact ⟨rfl, below_step HB1.out hb2⟩
theorem plays_many (w : World) (most o : Nat) (h1 : 1 ≤ most) (h2 : most ≤ 1024) (ho2 : 2 ≤ o) (ho16 : o ≤ 16) (v : Value) (os : List Op7) (hv : Elems 6 cOp w v os) (hf : few7 os = false) : Calls Try.prog 3 #[.agg #[.int .i64 (most : Int), .int .i64 (o : Int)], v] w (Yes w) := by
  obtain ⟨wa, HWA⟩ : ∃ wa, Hid (wa = w.alloc (.cells #[.int .i64 (most : Int), .int .i64 (o : Int)] 22)) := ⟨_, rfl⟩
  have HBA : Hid (Below w.heap.size w wa) := by rw [HWA.out]; exact (Below.refl _ _).alloc (Nat.le_refl _) _
  have HBX : Hid (Box2 wa w.heap.size (most : Int) (o : Int)) := by rw [HWA.out]; exact Box2.new w _ _ _
  have HR : Hid (rightB (most : Int) = true) := decide_eq_true (by omega)
  have HV := hid hv
  have HF := hid hf
  have hoi : ¬ (o : Int) < 2 := by omega
  have hoi2 : ¬ (16 : Int) < o := by omega
  clear hv hf
  go_enter Try.func3, Try.ntmps3
  go_wp2_with fail
  rw [← HWA.out]
  refine (tnew wa most o h1 h2 ho2 ho16).mono ?_
  rintro e w1 ⟨rfl, hb1, _⟩
  obtain ⟨b0, b1⟩ := HBX.out.below hb1
  have HB1 := hid (below_step HBA.out hb1)
  clear hb1
  go_wp2_with fail
  refine (right_any w1 _).mono ?_
  rw [HR.out]
  rintro e w2 ⟨rfl, rfl⟩
  go_wp2_with fail
  refine (few7_any _ v os (HV.out.below HB1.out)).mono ?_
  rw [HF.out]
  rintro e w2 ⟨rfl, rfl⟩
  go_wp2_with fail
  refine (awake_any _).mono ?_
  rintro e w2 ⟨rfl, hb2⟩
  go_wp2
  go_ret
  exact ⟨rfl, below_step HB1.out hb2⟩
set_option maxHeartbeats 4000000 in
theorem plays_ok (w : World) (most o : Nat) (h1 : 1 ≤ most) (h2 : most ≤ 1024) (ho2 : 2 ≤ o) (ho16 : o ≤ 16) (v : Value) (os : List Op7) (hv : Elems 6 cOp w v os) (hos : OpsOk os) (hf : few7 os = true) : Calls Try.prog 3 #[.agg #[.int .i64 (most : Int), .int .i64 (o : Int)], v] w (Yes w) := by
  obtain ⟨A, cap, rfl⟩ := hv.slice
  obtain ⟨len, HLEN⟩ : ∃ len, Hid (len = os.length) := ⟨_, rfl⟩
  have hl100 : len ≤ 100 := by rw [HLEN.out]; exact (few7_yes hf).2
  obtain ⟨wa, HWA⟩ : ∃ wa, Hid (wa = w.alloc (.cells #[.int .i64 (most : Int), .int .i64 (o : Int)] 22)) := ⟨_, rfl⟩
  have HBA : Hid (Below w.heap.size w wa) := by rw [HWA.out]; exact (Below.refl _ _).alloc (Nat.le_refl _) _
  have HBX : Hid (Box2 wa w.heap.size (most : Int) (o : Int)) := by rw [HWA.out]; exact Box2.new w _ _ _
  have HR : Hid (rightB (most : Int) = true) := decide_eq_true (by omega)
  have HV := hid hv
  have HOS := hid hos
  have HF := hid hf
  have hoi : ¬ (o : Int) < 2 := by omega
  have hoi2 : ¬ (16 : Int) < o := by omega
  rw [← HLEN.out] at HV ⊢
  clear hv hf hos
  go_enter Try.func3, Try.ntmps3
  go_wp2_with fail
  rw [← HWA.out]
  refine (tnew wa most o h1 h2 ho2 ho16).mono ?_
  rintro e w1 ⟨rfl, hb1, p, Q, ht, hp, hQ⟩
  have HBX1 := hid (HBX.out.below hb1)
  obtain ⟨b0, b1⟩ := HBX1.out
  have HB1 := hid (below_step HBA.out hb1)
  have HST := hid (st_new ht hb1 hp)
  obtain ⟨wc, HWC⟩ : ∃ wc, Hid (wc = w1.alloc (.cells #[.slice none 0 0, .int .i64 (most : Int)] 34)) := ⟨_, rfl⟩
  rw [← HWC.out] at HST
  clear hb1 ht hp hQ
  go_wp2_with fail
  refine (right_any w1 _).mono ?_
  rw [HR.out]
  rintro e w2 ⟨rfl, rfl⟩
  go_wp2_with fail
  refine (few7_any _ _ os (HV.out.below HB1.out)).mono ?_
  rw [HF.out]
  rintro e w2 ⟨rfl, rfl⟩
  go_wp2
  rw [← HWC.out]
  go_loopw [8] (fun i wr => ∃ k : Nat, k ≤ len ∧ i = .int .i64 k ∧ ∃ Q G, St wa wr wa.heap.size p Q most o G w2.heap.size (runK most [] (os.take k))) (fun i _ => len - (intOf i).toNat)
  case atStart => exact ⟨0, by omega, rfl, Q, _, HST.out⟩
  case round =>
    obtain ⟨k, hk, rfl, Q', G', hst⟩ := hrel
    have HS := hid hst
    have HBK := hid (below_step HBA.out hst.since)
    have HBXK := hid (HBX.out.below hst.since)
    by_cases hlt : k < len
    · have hlti : (k : Int) < len := by omega
      obtain ⟨op, hop⟩ : ∃ op, os[k]? = some op := ⟨os[k]'(by have := HLEN.out; omega), List.getElem?_eq_getElem _⟩
      obtain ⟨ad, rfl, hat⟩ := (HV.out.below HBK.out).opAt hop
      obtain ⟨hc0, hc1, hc2, hc3, hc4, hc5⟩ := hat
      have HN := hid (runK_take most [] hop)
      have HOK := hid (HOS.out.ok op (List.mem_of_getElem? hop))
      clear hst hop b0 b1
      go_wp2_with fail
      go_region_with (first
        | (go_at_call 15; refine (does_any (HS.out.below_ (Below.refl _ wr).drew) op HOK.out).mono ?_; rw [← HN.out]; rintro e w3 ⟨rfl, Q2, G2, hst2⟩; have HST2 := hid hst2; obtain ⟨A2, n2, c2, HN2, hp2⟩ := st7_len hst2; clear hst2 hc0 hc1 hc2 hc3 hc4 hc5)
        | (go_at_call 16; refine (tlen HST2.out.t).mono ?_; rw [← HN2.out]; rintro e w4 ⟨rfl, rfl⟩))
      all_goals
        go_wp2
        go_roundw
        case rel => exact ⟨k + 1, by omega, by go_num, Q2, G2, HST2.out⟩
        case measure => simp [intOf]; omega
    · obtain rfl : k = len := by omega
      have hall : os.take k = os := List.take_of_length_le (by have := HLEN.out; omega)
      rw [hall] at HS
      clear hst hall b0 b1
      have hlen0 := HS.out.t.le
      have HKY := hid HS.out.t.rows.kbyt
      have HSD := hid (HS.out.below_ (Below.refl _ wr).drew)
      have HBXD := hid (HBXK.out.below (Below.refl _ wr).drew)
      go_wp2_with fail
      go_region_with (first
        | (go_at_call 17; refine (same7_yes wr.drew wa.heap.size p Q' most o _ G' w2.heap.size HSD.out.t HSD.out.r HKY.out).mono ?_; rintro e w3 ⟨rfl, hb3⟩; have HS3 := hid (HSD.out.below_ hb3); obtain ⟨b0, b1⟩ := HBXD.out.below hb3; clear hb3)
        | (go_at_call 18; refine (tmost HS3.out.t).mono ?_; rintro e w4 ⟨rfl, rfl⟩)
        | (go_at_call 13; refine (awake_any _).mono ?_; rintro e w5 ⟨rfl, hb5⟩; have HB5 := hid hb5; clear hb5))
      all_goals
        go_wp2
        go_ret
        exact ⟨rfl, below_step (below_step HBA.out HS3.out.since) HB5.out⟩
theorem tableplays_any (w : World) (x y : Int) (v : Value) (os : List Op7) (hv : Elems 6 cOp w v os) (hos : OpsOk os) : Calls Try.prog 3 #[.agg #[.int .i64 x, .int .i64 y], v] w (Yes w) := by
  by_cases hx : 1 ≤ x ∧ x ≤ 1024
  · by_cases hy : 2 ≤ y ∧ y ≤ 16
    · obtain ⟨m, rfl⟩ : ∃ m : Nat, x = (m : Int) := ⟨x.toNat, by omega⟩
      obtain ⟨o, rfl⟩ : ∃ m : Nat, y = (m : Int) := ⟨y.toNat, by omega⟩
      cases hf : few7 os with
      | false => exact plays_many w m o (by omega) (by omega) (by omega) (by omega) v os hv hf
      | true => exact plays_ok w m o (by omega) (by omega) (by omega) (by omega) v os hv hos hf
    · exact plays_no w x y v (.inr ⟨hx, by omega⟩)
  · exact plays_no w x y v (.inl hx)
end Go.Proofs.Ytaineeappnlbfaa
