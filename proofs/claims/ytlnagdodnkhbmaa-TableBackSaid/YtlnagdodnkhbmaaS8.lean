/- Changes, where both rows are there. -/
import Derived.Test.YtlnagdodnkhbmaaS7
namespace Go.Proofs.Ytlnagdodnkhbmaa
open Go.RowKit

theorem eq_four (a b c d a' b' c' d' : Int) (w : World) : (Op.equalIn 10000 33 (.agg #[.int .i64 a, .int .i64 b, .int .i64 c, .int .i64 d]) (.agg #[.int .i64 a', .int .i64 b', .int .i64 c', .int .i64 d'])).run Try.prog w = .ok (decide (a = a' ∧ b = b' ∧ c = c' ∧ d = d')) w := by
  have u3 := Try.underlying3
  have a3 := Try.isAgg3
  have z3 := Try.sizeOf3
  rw [show (10000 : Nat) = 9999 + 1 from rfl, Op.equalIn]
  simp only [Sem.run_bind, run_underlying Try.underlying33, Result.andThen_ok]
  simp only [Std.Legacy.Range.forIn_eq_forIn_range', Std.Legacy.Range.size, Nat.sub_zero, Nat.add_sub_cancel, Nat.div_one, List.range'_succ, List.range'_zero, List.forIn_cons, List.forIn_nil]
  go_simp
  by_cases h1 : a = a' <;> by_cases h2 : b = b' <;> by_cases h3 : c = c' <;> by_cases h4 : d = d' <;> simp [h1, h2, h3, h4]
theorem eq_rows (r s : Ro) (w : World) : (Op.equalIn 10000 33 (.agg #[.int .i64 r.a, .int .i64 r.b, .int .i64 r.c, .int .i64 r.d]) (.agg #[.int .i64 s.a, .int .i64 s.b, .int .i64 s.c, .int .i64 s.d])).run Try.prog w = .ok (decide (r.l = s.l)) w := by
  rw [eq_four]
  congr 1
  simp [Ro.l]

theorem chg1_same {r s : Ro} {k : Nat} (h : r.l[k]? = s.l[k]?) : chg1 (some r) (some s) k = [] := by
  unfold chg1; rw [if_pos (by unfold alikeB; simp [h])]
theorem chg1_other {r s : Ro} {k : Nat} (h : r.l[k]? ≠ s.l[k]?) : chg1 (some r) (some s) k = one (some r) k false ++ one (some s) k true := by
  unfold chg1; rw [if_neg (by unfold alikeB; simp [h])]

set_option maxHeartbeats 1000000 in
set_option maxRecDepth 100000 in
theorem changes_both (w : World) (ks : List Nat) (p q : Value) (r s : Ro) (hk : keyB ks = true) (hp : PRow w p (some r)) (hq : PRow w q (some s)) :
    Calls Try.prog 52 #[.string (str ks), p, q] w (Chgd (str ks) w 0 (upto (some r) (some s) 4)) := by
  have hz := (keyB_yes hk).2
  have hz0 : (str ks).size ≠ 0 := by rw [str_size]; omega
  have hz1 : (str ks).size ≤ 1000000 := by rw [str_size]; omega
  have HZ0 := hid hz0
  have HZ1 := hid hz1
  have hce : checkE ks = 0 := by unfold checkE; rw [hk]; rfl
  have HP := hid hp
  have HQ := hid hq
  have heq := eq_rows r s
  obtain ⟨g, o, rfl, hc⟩ := hp
  obtain ⟨g', o', rfl, hc'⟩ := hq
  have c0 := hc 0 _ rfl
  have c1 := hc 1 _ rfl
  have c2 := hc 2 _ rfl
  have c3 := hc 3 _ rfl
  have d0 := hc' 0 _ rfl
  have d1 := hc' 1 _ rfl
  have d2 := hc' 2 _ rfl
  have d3 := hc' 3 _ rfl
  rw [Nat.add_zero] at c0 d0
  clear hz hz0 hz1 hc hc'
  by_cases hrs : r.l = s.l
  · obtain rfl := Ro.ext_ hrs
    have heq' : ∀ w, _ := fun w => (heq w).trans (by rw [decide_eq_true rfl])
    clear heq
    go_enter Try.func52, Try.ntmps52
    go_wp2_with fail
    refine (kcheck_any w ks).mono ?_
    rw [hce]
    rintro e w' ⟨rfl, rfl⟩
    go_wp2
    go_quiet (fail)
    go_wp2
    go_ret2
    exact ⟨_, rfl, by rw [upto_same]; exact Elems.nil _ _ _, below_drewN' (Below.refl _ _) _, fun b hb => absurd hb (by simp [ownFoot, Value.ownBlock])⟩
  · have heq' : ∀ w, _ := fun w => (heq w).trans (by rw [decide_eq_false hrs])
    clear heq
    go_enter Try.func52, Try.ntmps52
    go_wp2_with fail
    refine (kcheck_any w ks).mono ?_
    rw [hce]
    rintro e w' ⟨rfl, rfl⟩
    go_wp2
    go_quiet (fail)
    go_wp2_with fail
    refine (kclone_any _ _ HZ0.out HZ1.out).mono ?_
    rintro e w1 ⟨rfl, hb1⟩
    have HB1 : Hid (Below w'.heap.size w' w1) := ⟨hb1.os, hb1.tape, hb1.output, hb1.size, hb1.block⟩
    clear hb1 c0 c1 c2 c3 d0 d1 d2 d3 heq'
    go_wp2
    go_loopw [10, 35] (fun v i wr => ∃ k : Nat, k ≤ 4 ∧ i = .int .i64 k ∧ J2 (str ks) w' (upto (some r) (some s) k) v wr) (fun _ i _ => 4 - (intOf i).toNat)
    case atStart => exact ⟨0, by omega, rfl, OwnElems.nil _ _ _ _ _, HB1.out⟩
    case round =>
      obtain ⟨k, hk4, rfl, hJ⟩ := hrel
      have HJ := hid hJ
      clear hJ
      by_cases hlt : k < 4
      · have h4 : (k : Int) < 4 := by omega
        have HPk := hid (HP.out.below HJ.out.2)
        have HQk := hid (HQ.out.below HJ.out.2)
        obtain ⟨x, hx⟩ := r.at_ hlt
        obtain ⟨y, hy⟩ := s.at_ hlt
        obtain ⟨g1, o1, h1, hc1⟩ := HPk.out
        obtain ⟨rfl, rfl⟩ : g1 = g ∧ o1 = o := by injection h1 with h1; injection h1 with h1; injection h1 with h2 h3; exact ⟨h2.symm, h3.symm⟩
        obtain ⟨g2, o2, h2, hc2⟩ := HQk.out
        obtain ⟨rfl, rfl⟩ : g2 = g' ∧ o2 = o' := by injection h2 with h2; injection h2 with h2; injection h2 with h2 h3; exact ⟨h2.symm, h3.symm⟩
        have hcx := hc1 k x hx
        have hcy := hc2 k y hy
        have HXY := hid (And.intro hx hy)
        clear h1 h2 hc1 hc2 hx hy
        by_cases hxy : x = y
        · subst hxy
          have HCK : Hid (chg1 (some r) (some s) k = []) := by
            exact chg1_same (by rw [HXY.out.1, HXY.out.2])
          go_wp2
          go_quiet (fail)
          go_wp2
          go_roundw
          case rel => exact ⟨k + 1, by omega, by go_num, by rw [upto_succ, HCK.out, List.append_nil]; exact HJ.out.drewN _⟩
          case measure => simp [intOf]; omega
        · have HCK : Hid (chg1 (some r) (some s) k = one (some r) k false ++ one (some s) k true) := by
            exact chg1_other (by rw [HXY.out.1, HXY.out.2]; intro e; injection e with e; exact hxy e)
          go_wp2
          go_quiet (fail)
          go_wp2_with fail
          refine (change_any _ (str ks) _ (some r) k false (HPk.out.drewN _) hlt).mono ?_
          rintro e w3 ⟨u1, rfl, e1, b1, f1⟩
          obtain ⟨A1, n1, c1, rfl⟩ := e1.form
          have HE1 := hid e1
          have HBB1 := hid b1
          have HQ3 := hid ((HQk.out.drewN _).below b1)
          clear e1 b1 f1
          go_wp2_with fail
          refine (change_any _ (str ks) _ (some s) k true HQ3.out hlt).mono ?_
          rintro e w4 ⟨u2, rfl, e2, b2, f2⟩
          obtain ⟨A2, n2, c2, rfl⟩ := e2.form
          have HM := hid (c_mid (HJ.out.drewN _) HE1.out HBB1.out e2 b2 f2)
          clear e2 b2 f2
          have hlen : (upto (some r) (some s) k).length + (one (some r) k false).length + (one (some s) k true).length ≤ 100 := by
            have := upto_len (some r) (some s) k
            have := one_len (some r) k false
            have := one_len (some s) k true
            omega
          have HLEN := hid hlen
          clear hlen
          go_wp2_with fail
          refine (join_two (str ks) w' _ _ _ _ _ _ _ _ HM.out.1 HM.out.2.1 HM.out.2.2.1 HM.out.2.2.2.1 HM.out.2.2.2.2.1 HM.out.2.2.2.2.2 HLEN.out).mono ?_
          rintro e w5 ⟨u, rfl, hJ5⟩
          have HJ5 := hid hJ5
          clear hJ5
          go_wp2
          go_roundw
          case rel => exact ⟨k + 1, by omega, by go_num, by rw [upto_succ, HCK.out, ← List.append_assoc]; exact HJ5.out⟩
          case measure => simp [intOf]; omega
      · obtain rfl : k = 4 := by omega
        go_wp2
        go_ret2
        exact ⟨_, rfl, HJ.out.1.rows, HJ.out.2, fun b hb => (HJ.out.1.lt b hb).1⟩
theorem changes_any (w : World) (ks : List Nat) (p q : Value) (o n : Option Ro) (hp : PRow w p o) (hq : PRow w q n) :
    Calls Try.prog 52 #[.string (str ks), p, q] w (Chgd (str ks) w (checkE ks) (if keyB ks then upto o n 4 else [])) := by
  cases hk : keyB ks with
  | false =>
    rw [show checkE ks = 13 by unfold checkE; rw [hk]; rfl]
    exact changes_no w ks p q hk
  | true =>
    rw [show checkE ks = 0 by unfold checkE; rw [hk]; rfl]
    cases o with
    | none => exact changes_one w ks p q none n hk hp hq (.inl rfl)
    | some r =>
      cases n with
      | none => exact changes_one w ks p q (some r) none hk hp hq (.inr rfl)
      | some s => exact changes_both w ks p q r s hk hp hq
end Go.Proofs.Ytlnagdodnkhbmaa

