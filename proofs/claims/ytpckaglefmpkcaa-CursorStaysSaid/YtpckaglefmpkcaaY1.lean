/- law05's awake, short and made; CursorNil. -/
import Derived.Test.YtpckaglefmpkcaaY8
import Derived.Test.YtpckaglefmpkcaaW8
import Derived.Laws.StructEq
import Derived.Laws.Cover2
namespace Go.Proofs.Ytpckaglefmpkcaa
open Go.RowKit
set_option maxRecDepth 100000

theorem eq_two (a b c d : ByteArray) (w : World) : (Op.equalIn 10000 48 (.agg #[.string a, .string b]) (.agg #[.string c, .string d])).run Try.prog w = .ok (a.toList == c.toList && b.toList == d.toList) w := by
  have u3 := Try.underlying9
  have a3 := Try.isAgg9
  have z3 := Try.sizeOf9
  rw [show (10000 : Nat) = 9999 + 1 from rfl, Op.equalIn]
  simp only [Sem.run_bind, run_underlying Try.underlying48, Result.andThen_ok]
  simp only [Std.Legacy.Range.forIn_eq_forIn_range', Std.Legacy.Range.size, Nat.sub_zero, Nat.add_sub_cancel, Nat.div_one, List.range'_succ, List.range'_zero, List.forIn_cons, List.forIn_nil]
  go_simp
  by_cases h1 : a.toList = c.toList <;> by_cases h2 : b.toList = d.toList <;> simp [h1, h2]
theorem made_no (w : World) (n : Int) (hn : n < 2 ∨ 16 < n) (v : Value) : Calls Try.prog 34 #[.int .i64 n, v] w fun e w' => e = .returned (.tuple #[.pointer none, .pointer none]) ∧ Below w.heap.size w w' := by
  go_enter Try.func34, Try.ntmps34
  go_wp2_with fail
  refine (tree_new_no w n hn).mono ?_
  rintro e w1 ⟨rfl, hb1⟩
  go_wp2
  go_ret2
  exact ⟨rfl, hb1⟩
set_option maxHeartbeats 4000000 in
theorem made_ok (w : World) (o : Nat) (h2 : 2 ≤ o) (h16 : o ≤ 16) (v : Value) (os : List Cl) (hv : Elems 3 cO w v os) (hos : ClsOk os) (hf : fewB os = true) :
    Calls Try.prog 34 #[.int .i64 (o : Int), v] w fun e w' => ∃ a p P G, e = .returned (.tuple #[.pointer (some ⟨a, 0, none⟩), .pointer (some ⟨p, 0, none⟩)]) ∧ St w w' P G a p (runL [] os) o := by
  obtain ⟨A, cap, rfl⟩ := hv.slice
  obtain ⟨hfew, hlen⟩ := fewB_yes hf
  obtain ⟨len, HLEN⟩ : ∃ len, Hid (len = os.length) := ⟨_, rfl⟩
  have hl200 : len ≤ 200 := by rw [HLEN.out]; exact hlen
  have HV := hid hv
  have HOS := hid hos
  have HFEW := hid hfew
  rw [← HLEN.out] at HV ⊢
  clear hv hos hfew hf hlen
  go_enter Try.func34, Try.ntmps34
  go_wp2_with fail
  refine (tree_new_at w o h2 h16).mono ?_
  rintro e w1 ⟨a, P, rfl, hb1, ha, ht⟩
  have HT := hid ht
  have HA := hid ha
  have HB1 := hid hb1
  clear ht hb1 ha
  have HST := hid (st_new HT.out HB1.out HA.out)
  go_wp2
  go_loopw [9] (fun i wr => ∃ k : Nat, k ≤ len ∧ i = .int .i64 k ∧ ∃ P G, St w wr P G a w1.heap.size (runL [] (os.take k)) o) (fun i _ => len - (intOf i).toNat)
  case atStart => exact ⟨0, by omega, rfl, P, _, HST.out⟩
  case round =>
    obtain ⟨k, hk, rfl, P', G', hst⟩ := hrel
    have HS := hid hst
    by_cases hlt : k < len
    · have hlti : (k : Int) < len := by omega
      obtain ⟨op, hop⟩ : ∃ op, os[k]? = some op := ⟨os[k]'(by have := HLEN.out; omega), List.getElem?_eq_getElem _⟩
      obtain ⟨ad, rfl, hat⟩ := (HV.out.below hst.since).opAt hop
      obtain ⟨hc0, hc1, hc2⟩ := hat
      have HN := hid (runL_take [] hop)
      have hmem := List.mem_of_getElem? hop
      have HOK := hid (HOS.out.ok op hmem)
      have hk1 := (HFEW.out op hmem).1
      have hk2 := (HFEW.out op hmem).2
      have HRL : Hid ((runL [] (os.take k)).length ≤ 900) := by
        have := runL_len (os.take k) []
        rw [List.length_take] at this
        show _ ≤ _
        (try simp at this); omega
      clear hst hop hmem
      go_wp2_with fail
      refine (does_any HS.out op HOK.out hk1 hk2 HRL.out).mono ?_
      rw [← HN.out]
      rintro e w2 ⟨rfl, P2, G2, hst2⟩
      have HST2 := hid hst2
      clear hst2 hc0 hc1 hc2
      go_wp2
      go_roundw
      case rel => exact ⟨k + 1, by omega, by go_num, P2, G2, HST2.out⟩
      case measure => simp [intOf]; omega
    · obtain rfl : k = len := by omega
      have hall : os.take k = os := List.take_of_length_le (by have := HLEN.out; omega)
      rw [hall] at HS
      clear hst hall
      go_wp2
      go_ret2
      exact ⟨_, _, _, _, rfl, HS.out⟩
theorem run_keyed (os : List Cl) : Keyed (runL [] os) := Keyed.run os (fun _ h => by cases h)
theorem run_few {os : List Cl} (hf : fewB os = true) : (runL [] os).length ≤ 200 := by
  have h1 := runL_len os []
  have h2 := (fewB_yes hf).2
  simp at h1
  omega
def shortB (K V : List Nat) : Bool := decide (K.length ≤ 300 ∧ V.length ≤ 300)
theorem short_any (w : World) (K V : List Nat) : Calls Try.prog 32 #[two2 K V] w fun e w' => e = .returned (.bool (shortB K V)) ∧ Below w.heap.size w w' := by
  obtain ⟨x0, x1, b0⟩ := boxed w K V 48
  have HB0 := hid b0
  have hsK := str_size K
  have hsV := str_size V
  unfold two2 shortB
  by_cases hK : 300 < K.length
  · have hi : (300 : Int) < K.length := by omega
    rw [decide_eq_false (by omega)]
    clear b0
    go_enter Try.func32, Try.ntmps32
    go_wp2
    go_ret
    first | exact ⟨rfl, HB0.out⟩ | exact ⟨ret_bool (decide_eq_false (by omega)), HB0.out⟩ | exact ⟨ret_bool (decide_eq_true (by omega)), HB0.out⟩
  · have hi : (K.length : Int) ≤ 300 := by omega
    by_cases hV : 300 < V.length
    · have hi2 : (300 : Int) < V.length := by omega
      rw [decide_eq_false (by omega)]
      clear b0
      go_enter Try.func32, Try.ntmps32
      go_wp2
      go_ret
      first | exact ⟨rfl, HB0.out⟩ | exact ⟨ret_bool (decide_eq_false (by omega)), HB0.out⟩ | exact ⟨ret_bool (decide_eq_true (by omega)), HB0.out⟩
    · have hi2 : (V.length : Int) ≤ 300 := by omega
      rw [decide_eq_true (by omega)]
      clear b0
      go_enter Try.func32, Try.ntmps32
      go_wp2
      go_ret
      first | exact ⟨rfl, HB0.out⟩ | exact ⟨ret_bool (decide_eq_false (by omega)), HB0.out⟩ | exact ⟨ret_bool (decide_eq_true (by omega)), HB0.out⟩
set_option maxHeartbeats 4000000 in
theorem awake5_yes (w : World) : Calls Try.prog 33 #[] w (Yes w) := by
  have HA := hid (lit_str 97 97 rfl)
  have HB := hid (lit_str 98 98 rfl)
  have HC := hid (lit_str 99 99 rfl)
  have HE := hid str_nil
  go_enter Try.func33, Try.ntmps33
  go_wp2_with fail
  refine (tree_new_at w 2 (by omega) (by omega)).mono ?_
  rintro e w1 ⟨a, P, rfl, hb1, ha, ht⟩
  have HB1 := hid hb1
  have HT1 := hid ht
  have HA1 := hid ha
  clear hb1 ht ha
  go_wp2_with fail
  rw [HA.out, HE.out]
  refine (HT1.out.put (by decide) [97] [] (byt1 (by decide)) (fun b hb => by cases hb) (by decide)).mono ?_
  rw [show putN [] [97] [] = [([97], [])] from rfl]
  rintro e w2 ⟨rfl, hd⟩
  have HT2 := hid hd.tree
  have HC2 := hid hd.2
  clear hd
  go_wp2_with fail
  rw [HB.out, HE.out]
  refine (HT2.out.put (by decide) [98] [] (byt1 (by decide)) (fun b hb => by cases hb) (by decide)).mono ?_
  rw [show putN [([97], [])] [98] [] = [([97], []), ([98], [])] from rfl]
  rintro e w3 ⟨rfl, hd⟩
  have HT3 := hid hd.tree
  have HC3 := hid hd.2
  clear hd
  go_wp2_with fail
  rw [HC.out, HE.out]
  refine (HT3.out.put (by decide) [99] [] (byt1 (by decide)) (fun b hb => by cases hb) (by decide)).mono ?_
  rw [show putN [([97], []), ([98], [])] [99] [] = [([97], []), ([98], []), ([99], [])] from rfl]
  rintro e w4 ⟨rfl, hd⟩
  have HT4 := hid hd.tree
  have HC4 := hid hd.2
  clear hd
  have HKY : Hid (Keyed [([97], []), ([98], []), ([99], [])]) := fun q hq => by simp at hq; rcases hq with rfl | rfl | rfl <;> rfl
  have ha4 := HT4.out.lt
  have HP4 := hid HT4.out.under
  go_wp2_with fail
  rw [HA.out, HC.out]
  refine (new_ok w4 a [97] [99] (byt1 (by decide)) (byt1 (by decide)) (by decide) (by decide) (.inr (by decide))).mono ?_
  rintro e w5 ⟨c, rfl, hb5, hcl, hcur⟩
  have HB5 := hid hb5
  have HCU5 := hid hcur
  have HT5 := hid (HT4.out.below hb5)
  have hca : c ≠ a := by omega
  have HCP : Hid (∀ b ∈ [c], ¬ (New (New (New P w1 w2) w2 w3) w3 w4) b) := fun b hb h => by simp at hb; subst hb; have := HP4.out b h; omega
  clear hb5 hcur
  go_wp2_with fail
  refine (next_some (q := ([97], [])) HCU5.out HT5.out (by decide) HKY.out (byt1 (by decide)) (byt1 (by decide)) (by decide)).mono ?_
  rintro e w6 ⟨rfl, hcur, hch⟩
  have HCU6 := hid hcur
  have HCH6 := hid hch
  have HT6 := hid (HT5.out.chg hch (by simpa using hca.symm) HCP.out)
  clear hcur hch
  go_wp2_with fail
  refine (next_some (q := ([98], [])) HCU6.out HT6.out (by decide) HKY.out (byt1 (by decide)) (fun b hb => by simp at hb; omega) (by decide)).mono ?_
  rintro e w7 ⟨rfl, hcur, hch⟩
  have HCU7 := hid hcur
  have HCH7 := hid hch
  have HT7 := hid (HT6.out.chg hch (by simpa using hca.symm) HCP.out)
  clear hcur hch
  go_wp2_with fail
  refine (next_none HCU7.out HT7.out (by decide) (byt1 (by decide)) (fun b hb => by simp at hb; omega) (by decide)).mono ?_
  rintro e w8 ⟨rfl, hb8⟩
  have HB8 := hid hb8
  have HT8 := hid (HT7.out.below hb8)
  clear hb8
  go_wp2_with fail
  rw [HE.out]
  refine (scan_ok w8 a 2 2 [] [] _ _ HT8.out (by decide) HKY.out (fun b hb => by cases hb) (fun b hb => by cases hb) (by decide) (by decide) (.inl rfl) (by decide)).mono ?_
  rw [show seg [([97], []), ([98], []), ([99], [])] [] (atN [([97], []), ([98], []), ([99], [])] []) 2 = [([97], []), ([98], [])] from rfl]
  rintro e w9 ⟨v, rfl, hown, hb9⟩
  have HB9 := hid hb9
  have hel := hown.rows
  obtain ⟨Av, cv, rfl⟩ := hel.slice
  obtain ⟨ad, rfl, q0⟩ := hel.cell cP_len (i := 1) (j := 0) rfl (u := .string (str [98])) rfl
  obtain ⟨ad', hA, q1⟩ := hel.cell cP_len (i := 1) (j := 1) rfl (u := .string (str [])) rfl
  injection hA with hA
  subst hA
  have HW : Hid (Below w.heap.size w w9) := by
    have c0 : Chg [] w w1 [a] := (Chg.of_below (F := []) HB1.out).less fun k hk => .inr (by simp at hk; rw [hk]; exact HA1.out)
    have c1 : Chg [] w w4 [a] := ((c0.trans HC2.out).trans HC3.out).trans HC4.out
    have c2 : Chg [] w w5 [c] := ((c1.step_below HB5.out).less (K := [c]) fun k hk => .inr (by simp at hk; have := c1.size; omega))
    have c3 : Chg [] w w7 [c] := (c2.trans HCH6.out).trans HCH7.out
    exact below_step (below_step (c3.below (fun _ h => by cases h) (Nat.le_refl _)) HB8.out) HB9.out
  rw [show 1 * 2 + 0 = 1 + 1 from rfl, Addr.add_succ'] at q0
  rw [show 1 * 2 + 1 = 2 + 1 from rfl, Addr.add_succ'] at q1
  clear hown hb9 hel
  rw [← HA.out, ← HB.out, ← HE.out]
  rw [← HB.out] at q0
  rw [← HE.out] at q1
  have heq := eq_two
  go_wp2
  go_ret
  exact ⟨rfl, HW.out⟩
theorem cnil_any (w : World) (xs : List Nat) (n : Int) (_hx : Byt xs) : Calls Try.prog 15 #[.string (str xs), .int .i64 n] w (Yes w) := by
  have hs := str_size xs
  by_cases h : 300 < xs.length
  · have hi : (300 : Int) < xs.length := by omega
    go_enter Try.func15, Try.ntmps15
    go_wp2_with fail
    refine (awake5_yes _).mono ?_
    rintro e w1 ⟨rfl, hb1⟩
    go_wp2
    go_ret
    exact ⟨rfl, hb1⟩
  · have hi : ¬ (300 : Int) < xs.length := by omega
    have HE := hid str_nil
    go_enter Try.func15, Try.ntmps15
    go_wp2_with fail
    refine (next_nil w).mono ?_
    rintro e w1 ⟨rfl, rfl⟩
    go_wp2_with fail
    refine (new_nil w1 _ _).mono ?_
    rintro e w2 ⟨rfl, rfl⟩
    go_wp2_with fail
    refine (scan_nil w2 _ _ _).mono ?_
    rintro e w3 ⟨rfl, hb3⟩
    have HB3 := hid hb3
    rw [← HE.out]
    clear hb3
    have hcat : ({ data := #[] } ++ { data := #[] } : ByteArray).toList = [] := by
      rw [HE.out, str_app, str_toList]; rfl
    go_wp2_with fail
    refine (seek_nil _ _).mono ?_
    rintro e w4 ⟨rfl, rfl⟩
    go_wp2_with fail
    refine (awake5_yes _).mono ?_
    rintro e w5 ⟨rfl, hb5⟩
    go_wp2
    go_ret
    exact ⟨rfl, below_step HB3.out hb5⟩
end Go.Proofs.Ytpckaglefmpkcaa
