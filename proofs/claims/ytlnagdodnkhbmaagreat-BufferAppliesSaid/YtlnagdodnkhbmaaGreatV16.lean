/- The chapter's example. -/
import Derived.Test.YtlnagdodnkhbmaaGreatV15
import Derived.Test.YtlnagdodnkhbmaaGreatTC
namespace Go.Proofs.YtlnagdodnkhbmaaGreat
open Go.RowKit Go.Maps Go.WideMaps
set_option maxRecDepth 100000

def ra : Ro := ⟨1, 0, 0, 0⟩
def rb : Ro := ⟨2, 0, 0, 0⟩
def la1 : List KR := [([97], ra)]
def wa1 : List WR := [([98], some rb)]
def wa2 : List WR := [([97], none), ([98], some rb)]
def la2 : List KR := [([98], rb)]
theorem la1_eq : kputN 9 [] [97] ⟨1, 0, 0, 0⟩ = la1 := by kernel_rfl
theorem wa1_eq : insW [] [98] (some rb) = wa1 := by kernel_rfl
theorem wa2_eq : insW wa1 [97] none = wa2 := by kernel_rfl
theorem la2_eq : showW la1 wa2 = la2 := by kernel_rfl
theorem put_b : kputE 9 (showW la1 []) [98] = 0 := by decide +kernel
theorem del_a : kgetE (showW la1 wa1) [97] = 0 := by decide +kernel
theorem get_a1 : kgetE la1 [97] = 0 := by decide +kernel
theorem get_a1r : kgetR la1 [97] = ra := by kernel_rfl
theorem get_b2 : kgetE la2 [98] = 0 := by decide +kernel
theorem get_b2r : kgetR la2 [98] = rb := by kernel_rfl
theorem get_a2 : kgetE la2 [97] = 14 := by decide +kernel
theorem get_a2r : kgetR la2 [97] = zero4 := by kernel_rfl
/-- A buffer's map is none of its table's blocks. -/
structure Over (w : World) (T : Nat) (p : Nat → Nat) (Q : Bl) (most o : Nat) (l : List KR) (B m : Nat) (ws : List WR) : Prop where
  t : Tab w T p Q most o l
  b : Buf w B T m ws
  q : ¬ Q m
section
variable {w w' : World} {T : Nat} {p : Nat → Nat} {Q : Bl} {most o : Nat} {l : List KR} {B m : Nat} {ws us : List WR}
theorem Over.below (h : Over w T p Q most o l B m ws) (hb : Below w.heap.size w w') : Over w' T p Q most o l B m ws := ⟨h.t.below hb, h.b.below hb, h.q⟩
theorem Over.wrote (h : Over w T p Q most o l B m ws) (hb : Buf w' B T m us) (hc : Chg [m] w w' [m]) : Over w' T p Q most o l B m us :=
  ⟨h.t.chg hc (by have := h.t.ne_map h.b.d; simpa using this) (fun i hi hm => h.t.not_map h.b.d (by simp at hm; exact mem_five.2 ⟨i, hi, hm.symm⟩)) (fun b hb => by simp at hb; subst hb; exact h.q), hb, h.q⟩
theorem Over.put (h : Over w T p Q most o l B m ws) (hlen : ws.length ≤ 1000000) (k : List Nat) (hb : Byt k) (hl : k.length ≤ maxLen) (r : Ro) (hr : r.ok) :
    Calls Tryz.prog 22 #[.pointer (some ⟨B, 0, none⟩), .string (str k), .agg #[.int .i64 r.a, .int .i64 r.b, .int .i64 r.c, .int .i64 r.d]] w fun e w' => e = .returned (.int .i64 (kputE most (showW l ws) k)) ∧ Over w' T p Q most o l B m (if kputE most (showW l ws) k = 0 then insW ws k (some r) else ws) ∧ Chg [m] w w' [m] :=
  (bput h.b h.t hlen k hb hl r hr).mono fun _ _ ⟨he, hb, hc⟩ => ⟨he, h.wrote hb hc, hc⟩
theorem Over.del (h : Over w T p Q most o l B m ws) (hlen : ws.length ≤ 1000000) (k : List Nat) (hb : Byt k) (hl : k.length ≤ maxLen) :
    Calls Tryz.prog 24 #[.pointer (some ⟨B, 0, none⟩), .string (str k)] w fun e w' => e = .returned (.int .i64 (kgetE (showW l ws) k)) ∧ Over w' T p Q most o l B m (if kgetE (showW l ws) k = 0 then insW ws k none else ws) ∧ Chg [m] w w' [m] :=
  (bdel h.b h.t hlen k hb hl).mono fun _ _ ⟨he, hb, hc⟩ => ⟨he, h.wrote hb hc, hc⟩
theorem Over.new (h : Tab w T p Q most o l) : Calls Tryz.prog 13 #[.pointer (some ⟨T, 0, none⟩)] w fun e w' => e = .returned (.tuple #[.pointer (some ⟨w.heap.size + 1, 0, none⟩), .int .i64 0]) ∧ Below w.heap.size w w' ∧ Over w' T p Q most o l (w.heap.size + 1) w.heap.size [] ∧ w'.heap.size = w.heap.size + 2 :=
  (bnew w T).mono fun _ _ ⟨he, hb, hB, hs⟩ => ⟨he, hb, ⟨h.below hb, hB, fun hq => by have := h.under _ hq; omega⟩, hs⟩
end
set_option maxHeartbeats 4000000 in
theorem awake8_any (w : World) : Calls Tryz.prog 11 #[] w fun e w' => e = .returned (.bool true) ∧ Below w.heap.size w w' := by
  have HN : Hid (Calls Tryz.prog 41 #[.int .i64 9, .int .i64 2] w (NewEnd w 9 2)) := tnew2 w 9 (by omega) (by omega)
  have HS97 : Hid ((⟨#[97]⟩ : ByteArray) = str [97]) := by show _ = _; kernel_rfl
  have HS98 : Hid ((⟨#[98]⟩ : ByteArray) = str [98]) := by show _ = _; kernel_rfl
  have hB : ∀ x : Nat, x ≤ 99 → Byt [x] := fun x hx y hy => by simp at hy; omega
  have HRB : Hid rb.ok := by intro y hy; simp [rb, Ro.l] at hy; rcases hy with rfl | rfl <;> (unfold I64; omega)
  go_enter Tryz.func11, Tryz.ntmps11
  go_wp2_with fail
  refine HN.out.mono ?_
  rintro e w1 ⟨rfl, hb1, p, Q, ht, hp, hQ⟩
  have HB1 := hid hb1
  have HP := hid hp
  have HT := hid ht
  clear hb1 hp ht hQ
  go_wp2_with fail
  refine (tput_lit HT.out ⟨#[97]⟩ [97] HS97.out (hB 97 (by omega)) 1 (by unfold I64; omega)).mono ?_
  rintro e w2 ⟨⟨u2, rfl⟩, ht, hc2⟩
  rw [la1_eq] at ht
  obtain ⟨Q2, HQ2⟩ : ∃ q, Hid (q = New Q w1 w2) := ⟨_, rfl⟩
  rw [← HQ2.out] at ht
  have HT2 := hid ht
  have HBW2 : Hid (Below w.heap.size w w2) := HB1.out.trans (hc2.below (fun b hb => by
    obtain ⟨i, hi, rfl⟩ := mem_five.1 hb
    exact Nat.le_of_lt (HP.out i hi)) HB1.out.size)
  clear ht hc2
  go_wp2_with fail
  refine (Over.new HT2.out).mono ?_
  rintro e w3 ⟨rfl, hb3, ho3, _⟩
  obtain ⟨m, HM⟩ : ∃ m, Hid (m = w2.heap.size) := ⟨_, rfl⟩
  rw [← HM.out] at ho3 ⊢
  have HO3 := hid ho3
  have HBW3 : Hid (Below w.heap.size w w3 ∧ w.heap.size ≤ m) := ⟨below_step HBW2.out hb3, by have := HBW2.out.size; have := HM.out; omega⟩
  clear hb3 ho3
  go_wp2_with fail
  rw [HS98.out]
  refine (HO3.out.put (by simp) [98] (hB 98 (by omega)) (by simp [maxLen]) rb HRB.out).mono ?_
  rw [put_b, if_pos rfl, wa1_eq]
  rintro e w4 ⟨rfl, ho4, hc4⟩
  have HO4 := hid ho4
  have HC4 := hid hc4
  clear ho4 hc4
  go_wp2_with fail
  rw [HS97.out]
  refine (HO4.out.del (by simp [wa1]) [97] (hB 97 (by omega)) (by simp [maxLen])).mono ?_
  rw [del_a, if_pos rfl, wa2_eq]
  rintro e w5 ⟨rfl, ho5, hc5⟩
  have HO5 := hid ho5
  have HC5 := hid hc5
  clear ho5 hc5
  go_wp2_with fail
  refine (blen HO5.out.b HO5.out.t (by simp [wa2])).mono ?_
  rw [la2_eq, show ((la2.length : Nat) : Int) = 1 from rfl]
  rintro e w6 ⟨rfl, hb6⟩
  have HO6 := hid (HO5.out.below hb6)
  have HBW6 : Hid (Below w.heap.size w w6) := (HBW3.out.1.trans ((HC4.out.trans HC5.out).below (fun b hb => by simp at hb; subst hb; exact HBW3.out.2) HBW3.out.1.size)).trans (hb6.mono (Nat.le_trans HBW3.out.1.size (Nat.le_trans HC4.out.size HC5.out.size)))
  clear hb6
  go_wp2_with fail
  rw [HS97.out]
  refine (tget HO6.out.t [97] (hB 97 (by omega))).mono ?_
  rw [get_a1, get_a1r]
  rintro e w7 ⟨rfl, hb7⟩
  dsimp only [rowv, rowc, ra]
  have hba7 : Below w7.heap.size w7 (w7.alloc (.cells #[.int .i64 1, .int .i64 0, .int .i64 0, .int .i64 0] 41)) := (Below.refl _ _).alloc (Nat.le_refl _) _
  have HO7 := hid (HO6.out.below (below_step hb7 hba7))
  have HBW7 := hid (below_step HBW6.out (below_step hb7 hba7))
  clear hb7 hba7
  go_wp2_with fail
  refine (bapply_ok HO7.out.b HO7.out.t (by simp [wa2]) (by rw [la2_eq]; simp [la2]) HO7.out.q).mono ?_
  rw [la2_eq]
  rintro e w8 ⟨rfl, Q8, ht8, hb8, hc8, _⟩
  have HT8 := hid ht8
  have HBW8 : Hid (Below w.heap.size w w8) := HBW7.out.trans (hc8.below (fun b hb => by
    rcases List.mem_cons.1 hb with rfl | hb
    · exact HBW3.out.2
    · obtain ⟨i, hi, rfl⟩ := mem_five.1 hb
      exact Nat.le_of_lt (HP.out i hi)) HBW7.out.size)
  clear ht8 hb8 hc8
  go_wp2_with fail
  rw [HS98.out]
  refine (tget HT8.out [98] (hB 98 (by omega))).mono ?_
  rw [get_b2, get_b2r]
  rintro e w9 ⟨rfl, hb9⟩
  dsimp only [rowv, rowc, rb]
  have hba9 : Below w9.heap.size w9 (w9.alloc (.cells #[.int .i64 2, .int .i64 0, .int .i64 0, .int .i64 0] 41)) := (Below.refl _ _).alloc (Nat.le_refl _) _
  have HT9 := hid (HT8.out.below (below_step hb9 hba9))
  have HBW9 := hid (below_step HBW8.out (below_step hb9 hba9))
  have HL9 : Hid (Lies (w9.alloc (.cells #[.int .i64 2, .int .i64 0, .int .i64 0, .int .i64 0] 41)) w9.heap.size rb) := Lies.new w9 rb
  clear hb9 hba9
  go_wp2_with fail
  rw [HS97.out]
  refine (tget HT9.out [97] (hB 97 (by omega))).mono ?_
  rw [get_a2, get_a2r]
  rintro e w10 ⟨rfl, hb10⟩
  dsimp only [rowv, rowc, zero4]
  have hba10 : Below w10.heap.size w10 (w10.alloc (.cells #[.int .i64 0, .int .i64 0, .int .i64 0, .int .i64 0] 41)) := (Below.refl _ _).alloc (Nat.le_refl _) _
  have HBW10 := hid (below_step HBW9.out (below_step hb10 hba10))
  obtain ⟨y0, y1, y2, y3⟩ := (HL9.out.below (below_step hb10 hba10)).four
  dsimp only [rb] at y0 y1 y2 y3
  clear hb10 hba10
  have heq := eq_rows rb rb
  rw [decide_eq_true rfl] at heq
  dsimp only [rowv, rowc, rb] at heq
  go_wp2
  go_ret
  exact ⟨rfl, HBW10.out⟩
end Go.Proofs.YtlnagdodnkhbmaaGreat
