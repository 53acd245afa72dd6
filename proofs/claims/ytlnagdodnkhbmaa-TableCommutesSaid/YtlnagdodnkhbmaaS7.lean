/- Changes. -/
import Derived.Test.YtlnagdodnkhbmaaS6
namespace Go.Proofs.Ytlnagdodnkhbmaa
open Go.RowKit

/-- Have both rows one value in a column? -/
def alikeB (o n : Option Ro) (k : Nat) : Bool :=
  match o, n with
  | some r, some s => decide (r.l[k]? = s.l[k]?)
  | _, _ => false
def chg1 (o n : Option Ro) (k : Nat) : List Cg := if alikeB o n k then [] else one o k false ++ one n k true
/-- What turns, up to a column. -/
def upto (o n : Option Ro) (k : Nat) : List Cg := (List.range k).flatMap (chg1 o n)
theorem upto_succ (o n : Option Ro) (k : Nat) : upto o n (k + 1) = upto o n k ++ chg1 o n k := by
  unfold upto
  rw [List.range_succ, List.flatMap_append]
  simp
theorem one_len (o : Option Ro) (k : Nat) (a : Bool) : (one o k a).length ≤ 1 := by
  unfold one
  cases o with
  | none => simp
  | some r => dsimp only; split <;> simp
theorem chg1_len (o n : Option Ro) (k : Nat) : (chg1 o n k).length ≤ 2 := by
  unfold chg1
  have h1 := one_len o k false
  have h2 := one_len n k true
  split
  · simp
  · rw [List.length_append]; omega
theorem upto_len (o n : Option Ro) : ∀ k, (upto o n k).length ≤ 2 * k
  | 0 => by simp [upto]
  | k + 1 => by
    rw [upto_succ, List.length_append]
    have := upto_len o n k
    have := chg1_len o n k
    omega
theorem upto_same (r : Ro) (k : Nat) : upto (some r) (some r) k = [] := by
  unfold upto
  rw [List.flatMap_eq_nil_iff]
  intro x _
  unfold chg1 alikeB
  simp

/-- What Changes leaves. -/
def Chgd (key : ByteArray) (w : World) (c : Int) (l : List Cg) (e : Ending) (w' : World) : Prop :=
  ∃ u, e = .returned (.tuple #[u, .int .i64 c]) ∧ Elems 4 (cC key) w' u l ∧ Below w.heap.size w w' ∧ ∀ b ∈ ownFoot u, w.heap.size ≤ b

theorem changes_no (w : World) (ks : List Nat) (p q : Value) (hk : keyB ks = false) : Calls Try.prog 52 #[.string (str ks), p, q] w (Chgd (str ks) w 13 []) := by
  go_enter Try.func52, Try.ntmps52
  go_wp2_with fail
  refine (kcheck_any w ks).mono ?_
  rw [show checkE ks = 13 by unfold checkE; rw [hk]; rfl]
  rintro e w' ⟨rfl, rfl⟩
  go_wp2
  go_ret2
  exact ⟨_, rfl, Elems.nil _ _ _, Below.refl _ _, by simp [ownFoot, Value.ownBlock]⟩

theorem c_mid {key : ByteArray} {W w0 w1 w2 : World} {l l1 l2 : List Cg} {v u1 u2 : Value} (hJ : J2 key W l v w0) (h1 : Elems 4 (cC key) w1 u1 l1) (b1 : Below w0.heap.size w0 w1) (h2 : Elems 4 (cC key) w2 u2 l2) (b2 : Below w1.heap.size w1 w2)
    (f2 : ∀ b ∈ ownFoot u2, w1.heap.size ≤ b ∧ b < w2.heap.size) :
    OwnElems 4 (cC key) 113 (w2.alloc (.cells #[u1, u2] 107)) W.heap.size v l ∧ Below W.heap.size W (w2.alloc (.cells #[u1, u2] 107)) ∧
    (w2.alloc (.cells #[u1, u2] 107)).heap[w2.heap.size]? = some (.cells #[u1, u2] 107 (0, 0)) ∧ Elems 4 (cC key) (w2.alloc (.cells #[u1, u2] 107)) u1 l1 ∧ Elems 4 (cC key) (w2.alloc (.cells #[u1, u2] 107)) u2 l2 ∧
    (∀ b ∈ ownFoot u2, b ∉ ownFoot v ∧ b < (w2.alloc (.cells #[u1, u2] 107)).heap.size) := by
  have b3 : Below w2.heap.size w2 (w2.alloc (.cells #[u1, u2] 107)) := (Below.refl _ _).alloc (Nat.le_refl _) _
  have hW := hJ.2
  have b12 := b1.trans (b2.mono b1.size)
  have b123 := b12.trans (b3.mono b12.size)
  refine ⟨hJ.1.keep fun b hb => b123.block b (hJ.1.lt b hb).2, hW.trans (b123.mono hW.size), heap_alloc_new _ _, (h1.below b2).below b3, h2.below b3, fun b hb => ⟨fun hm => ?_, ?_⟩⟩
  · have h3 := (hJ.1.lt b hm).2
    have h4 := (f2 b hb).1
    have h5 := b1.size
    omega
  · have h4 := (f2 b hb).2
    have h5 := b3.size
    omega
theorem Ones.drew {key : ByteArray} {w : World} {l : List Cg} {e : Ending} {w' : World} {n : Nat} (h : Ones key (w.drewN n) l e w') : Ones key w l e w' := by
  obtain ⟨u, h1, h2, h3, h4⟩ := h
  exact ⟨u, h1, h2, ⟨h3.os, h3.tape, h3.output, h3.size, h3.block⟩, h4⟩
theorem PRow.drewN {w : World} {p : Value} {o : Option Ro} (h : PRow w p o) (n : Nat) : PRow (w.drewN n) p o := h.below ⟨rfl, rfl, rfl, Nat.le_refl _, fun _ _ => rfl⟩
theorem J2.drewN {key : ByteArray} {W w : World} {l : List Cg} {v : Value} (h : J2 key W l v w) (n : Nat) : J2 key W l v (w.drewN n) := ⟨h.1.keep fun _ _ => rfl, below_drewN' h.2 n⟩

set_option maxHeartbeats 1000000 in
set_option maxRecDepth 100000 in
theorem changes_one (w : World) (ks : List Nat) (p q : Value) (o n : Option Ro) (hk : keyB ks = true) (hp : PRow w p o) (hq : PRow w q n) (hon : o = none ∨ n = none) :
    Calls Try.prog 52 #[.string (str ks), p, q] w (Chgd (str ks) w 0 (upto o n 4)) := by
  have hz := (keyB_yes hk).2
  have hz0 : (str ks).size ≠ 0 := by rw [str_size]; omega
  have hz1 : (str ks).size ≤ 1000000 := by rw [str_size]; omega
  have HZ0 := hid hz0
  have HZ1 := hid hz1
  have hce : checkE ks = 0 := by unfold checkE; rw [hk]; rfl
  have HP := hid hp
  have HQ := hid hq
  have hal : Hid (∀ k, chg1 o n k = one o k false ++ one n k true) := by
    intro k
    unfold chg1 alikeB
    rcases hon with rfl | rfl
    · simp
    · cases o <;> simp
  clear hz hz0 hz1
  cases o with
  | none =>
    obtain rfl : p = .pointer none := hp
    clear hq hon
    go_enter Try.func52, Try.ntmps52
    go_wp2_with fail
    refine (kcheck_any w ks).mono ?_
    rw [hce]
    rintro e w' ⟨rfl, rfl⟩
    go_wp2
    go_quiet (fail)
    go_wp2_with fail
    refine (kclone_any _ _ HZ0.out HZ1.out).mono ?_
    rintro e w1 ⟨rfl, hb1⟩
    have HB1 : Hid (Below w'.heap.size w' w1) := ⟨hb1.os, hb1.tape, hb1.output, hb1.size, hb1.block⟩
    clear hb1
    go_wp2
    go_loopw [10, 35] (fun v i wr => ∃ k : Nat, k ≤ 4 ∧ i = .int .i64 k ∧ J2 (str ks) w' (upto none n k) v wr) (fun _ i _ => 4 - (intOf i).toNat)
    case atStart => exact ⟨0, by omega, rfl, OwnElems.nil _ _ _ _ _, HB1.out⟩
    case round =>
      obtain ⟨k, hk4, rfl, hJ⟩ := hrel
      have HJ := hid hJ
      clear hJ
      by_cases hlt : k < 4
      · have h4 : (k : Int) < 4 := by omega
        have HPk := hid (HP.out.below HJ.out.2)
        have HQk := hid (HQ.out.below HJ.out.2)
        go_wp2
        go_quiet (fail)
        go_wp2_with fail
        refine (change_any _ (str ks) _ none k false (HPk.out.drewN _) hlt).mono ?_
        rintro e w3 ⟨u1, rfl, e1, b1, f1⟩
        obtain ⟨A1, n1, c1, rfl⟩ := e1.form
        have HE1 := hid e1
        have HBB1 := hid b1
        have HQ3 := hid ((HQk.out.drewN _).below b1)
        clear e1 b1 f1
        go_wp2_with fail
        refine (change_any _ (str ks) _ n k true HQ3.out hlt).mono ?_
        rintro e w4 ⟨u2, rfl, e2, b2, f2⟩
        obtain ⟨A2, n2, c2, rfl⟩ := e2.form
        have HM := hid (c_mid (HJ.out.drewN _) HE1.out HBB1.out e2 b2 f2)
        clear e2 b2 f2
        have hlen : (upto none n k).length + (one none k false).length + (one n k true).length ≤ 100 := by
          have := upto_len none n k
          have := one_len none k false
          have := one_len n k true
          omega
        have HLEN := hid hlen
        clear hlen
        go_wp2_with fail
        refine (join_two (str ks) w' _ _ _ _ _ _ _ _ HM.out.1 HM.out.2.1 HM.out.2.2.1 HM.out.2.2.2.1 HM.out.2.2.2.2.1 HM.out.2.2.2.2.2 HLEN.out).mono ?_
        rintro e w5 ⟨u, rfl, hJ5⟩
        have HJ5 := hid hJ5
        clear hJ5
        go_wp2
        go_roundw
        case rel => exact ⟨k + 1, by omega, by go_num, by rw [upto_succ, hal.out, ← List.append_assoc]; exact HJ5.out⟩
        case measure => simp [intOf]; omega
      · obtain rfl : k = 4 := by omega
        go_wp2
        go_ret2
        exact ⟨_, rfl, HJ.out.1.rows, HJ.out.2, fun b hb => (HJ.out.1.lt b hb).1⟩
  | some r =>
    have hn : n = none := by rcases hon with h | h; cases h; exact h
    subst hn
    obtain rfl : q = .pointer none := hq
    obtain ⟨g, o', rfl, hc⟩ := hp
    clear hc hon
    go_enter Try.func52, Try.ntmps52
    go_wp2_with fail
    refine (kcheck_any w ks).mono ?_
    rw [hce]
    rintro e w' ⟨rfl, rfl⟩
    go_wp2
    go_quiet (fail)
    go_wp2_with fail
    refine (kclone_any _ _ HZ0.out HZ1.out).mono ?_
    rintro e w1 ⟨rfl, hb1⟩
    have HB1 : Hid (Below w'.heap.size w' w1) := ⟨hb1.os, hb1.tape, hb1.output, hb1.size, hb1.block⟩
    clear hb1
    go_wp2
    go_loopw [10, 35] (fun v i wr => ∃ k : Nat, k ≤ 4 ∧ i = .int .i64 k ∧ J2 (str ks) w' (upto (some r) none k) v wr) (fun _ i _ => 4 - (intOf i).toNat)
    case atStart => exact ⟨0, by omega, rfl, OwnElems.nil _ _ _ _ _, HB1.out⟩
    case round =>
      obtain ⟨k, hk4, rfl, hJ⟩ := hrel
      have HJ := hid hJ
      clear hJ
      by_cases hlt : k < 4
      · have h4 : (k : Int) < 4 := by omega
        have HPk := hid (HP.out.below HJ.out.2)
        have HQk := hid (HQ.out.below HJ.out.2)
        go_wp2
        go_quiet (fail)
        go_wp2_with fail
        refine (change_any _ (str ks) _ (some r) k false (HPk.out.drewN _) hlt).mono ?_
        rintro e w3 ⟨u1, rfl, e1, b1, f1⟩
        obtain ⟨A1, n1, c1, rfl⟩ := e1.form
        have HE1 := hid e1
        have HBB1 := hid b1
        have HQ3 := hid ((HQk.out.drewN _).below b1)
        clear e1 b1 f1
        go_wp2_with fail
        refine (change_any _ (str ks) _ none k true HQ3.out hlt).mono ?_
        rintro e w4 ⟨u2, rfl, e2, b2, f2⟩
        obtain ⟨A2, n2, c2, rfl⟩ := e2.form
        have HM := hid (c_mid (HJ.out.drewN _) HE1.out HBB1.out e2 b2 f2)
        clear e2 b2 f2
        have hlen : (upto (some r) none k).length + (one (some r) k false).length + (one none k true).length ≤ 100 := by
          have := upto_len (some r) none k
          have := one_len (some r) k false
          have := one_len none k true
          omega
        have HLEN := hid hlen
        clear hlen
        go_wp2_with fail
        refine (join_two (str ks) w' _ _ _ _ _ _ _ _ HM.out.1 HM.out.2.1 HM.out.2.2.1 HM.out.2.2.2.1 HM.out.2.2.2.2.1 HM.out.2.2.2.2.2 HLEN.out).mono ?_
        rintro e w5 ⟨u, rfl, hJ5⟩
        have HJ5 := hid hJ5
        clear hJ5
        go_wp2
        go_roundw
        case rel => exact ⟨k + 1, by omega, by go_num, by rw [upto_succ, hal.out, ← List.append_assoc]; exact HJ5.out⟩
        case measure => simp [intOf]; omega
      · obtain rfl : k = 4 := by omega
        go_wp2
        go_ret2
        exact ⟨_, rfl, HJ.out.1.rows, HJ.out.2, fun b hb => (HJ.out.1.lt b hb).1⟩
end Go.Proofs.Ytlnagdodnkhbmaa

