/- Right, Few, Made. -/
import Derived.Test.YtlnagdodnkhbmaaT13
namespace Go.Proofs.Ytlnagdodnkhbmaa
open Go.RowKit
set_option maxRecDepth 100000

def few7 (l : List Op7) : Bool := decide ((∀ o ∈ l, o.key.length ≤ 100) ∧ l.length ≤ 100)
theorem few7_no {l : List Op7} {k : Nat} {o : Op7} (ho : l[k]? = some o) (h : 100 < o.key.length) : few7 l = false := by
  unfold few7
  rw [decide_eq_false_iff_not]
  intro hh
  have := hh.1 o (List.mem_of_getElem? ho)
  omega
theorem few7_end {l : List Op7} {len : Nat} (hl : len = l.length) (h : ∀ j o, j < len → l[j]? = some o → o.key.length ≤ 100) : few7 l = decide ((len : Int) ≤ 100) := by
  unfold few7
  rw [decide_eq_decide]
  constructor
  · intro hh; have := hh.2; omega
  · intro hh
    refine ⟨fun o ho => ?_, by omega⟩
    obtain ⟨i, hi⟩ := List.getElem?_of_mem ho
    exact h i o (by have := (List.getElem?_eq_some_iff.1 hi).1; omega) hi
theorem few7_any (w : World) (v : Value) (l : List Op7) (hr : Elems 6 cOp w v l) : Calls Try.prog 9 #[v] w fun e w' => e = .returned (.bool (few7 l)) ∧ w = w' := by
  obtain ⟨A, cap, rfl⟩ := hr.slice
  obtain ⟨len, HL⟩ : ∃ len, Hid (len = l.length) := ⟨_, rfl⟩
  have hcap := hr.cap
  have HR := hid hr
  have hm' : l.length ≤ 9223372036854775807 := by unfold maxLen at hcap; omega
  rw [← HL.out] at hm' HR ⊢
  clear hr hcap
  go_enter Try.func9, Try.ntmps9
  go_wp2
  go_loop [3] (fun i => ∃ k : Nat, k ≤ len ∧ i = .int .i64 k ∧ Hid (∀ j o, j < k → l[j]? = some o → o.key.length ≤ 100)) (fun i => len - (intOf i).toNat)
  case atStart => exact ⟨0, by omega, rfl, fun j o h => by omega⟩
  case round =>
    obtain ⟨k, hk, rfl, HO⟩ := hrel
    by_cases hlt : k < len
    · have hlti : (k : Int) < len := by omega
      obtain ⟨o, ho⟩ : ∃ b, l[k]? = some b := ⟨l[k]'(by have := HL.out; omega), List.getElem?_eq_getElem _⟩
      obtain ⟨ad, rfl, hc0, hc1, _⟩ := HR.out.opAt ho
      have HO' := hid ho
      have hs1 := str_size o.key
      clear ho
      by_cases h1 : 100 < o.key.length
      · have h1i : (100 : Int) < o.key.length := by omega
        go_wp2
        go_ret
        exact ⟨ret_bool (few7_no HO'.out h1).symm, rfl⟩
      · have h1i : (o.key.length : Int) ≤ 100 := by omega
        have HN : Hid (∀ j o, j < k + 1 → l[j]? = some o → o.key.length ≤ 100) := fun j o' hj ho' => by
          rcases Nat.lt_or_ge j k with h | h
          · exact HO.out j o' h ho'
          · obtain rfl : j = k := by omega
            have := HO'.out
            rw [ho'] at this
            injection this with this
            subst this
            omega
        go_wp2
        go_round
        case rel => exact ⟨k + 1, by omega, by go_num, HN⟩
        case measure => simp [intOf]; omega
    · obtain rfl : k = len := by omega
      go_wp2
      go_ret
      exact ⟨ret_bool (few7_end HL.out HO.out).symm, rfl⟩
theorem few7_yes {os : List Op7} (h : few7 os = true) : (∀ o ∈ os, o.key.length ≤ 100) ∧ os.length ≤ 100 := by
  unfold few7 at h; exact of_decide_eq_true h
def rightB (n : Int) : Bool := decide (1 ≤ n ∧ n ≤ 1024)
theorem right_any (w : World) (n : Int) : Calls Try.prog 8 #[.int .i64 n] w fun e w' => e = .returned (.bool (rightB n)) ∧ w' = w := by
  unfold rightB
  by_cases h1 : 1 ≤ n
  · by_cases h2 : n ≤ 1024
    · rw [decide_eq_true ⟨h1, h2⟩]
      go_enter Try.func8, Try.ntmps8
      go_wp2
      go_ret
      exact ⟨rfl, rfl⟩
    · rw [decide_eq_false (fun h => h2 h.2)]
      go_enter Try.func8, Try.ntmps8
      go_wp2
      go_ret
      exact ⟨rfl, rfl⟩
  · rw [decide_eq_false (fun h => h1 h.1)]
    go_enter Try.func8, Try.ntmps8
    go_wp2
    go_ret
    exact ⟨rfl, rfl⟩
structure OpsOk (os : List Op7) : Prop where
  ok : ∀ o ∈ os, o.Ok
/-- A new reference's table beside a new table. -/
theorem st_new {w w1 : World} {p : Nat → Nat} {Q : Bl} {most o : Nat} (ht : Tab w1 w.heap.size p Q most o []) (hb : Below w.heap.size w w1) (hp : ∀ i, i < 5 → w.heap.size < p i) :
    St w (w1.alloc (.cells #[.slice none 0 0, .int .i64 (most : Int)] 68)) w.heap.size p Q most o [w1.heap.size] w1.heap.size [] := by
  have hbn : Below w1.heap.size w1 (w1.alloc (.cells #[.slice none 0 0, .int .i64 (most : Int)] 68)) := (Below.refl _ _).alloc (Nat.le_refl _) _
  have hs := hb.size
  have hT := ht.lt
  refine ⟨ht.below hbn, ⟨.slice none 0 0, heap_alloc_new w1 _, Elems.nil 5 cQ _, by simp [ownFoot, Value.ownBlock], by simp [ownFoot, Value.ownBlock], by simp [ownFoot, Value.ownBlock]⟩, fun i hi hm => ?_, fun hQ => ?_, by omega, ?_⟩
  · simp at hm
    have := ht.plt hi; omega
  · have := ht.under _ hQ; omega
  · exact ((Chg.of_below (F := []) hb).step_below hbn).less fun k hk => by
      rcases List.mem_cons.1 hk with rfl | hk
      · exact .inr hs
      · obtain ⟨i, hi, rfl⟩ := mem_five.1 hk
        exact .inr (Nat.le_of_lt (hp i hi))
def MadeEnd (w : World) (most : Nat) (os : List Op7) (e : Ending) (w' : World) : Prop :=
  ∃ p Q G rp, e = .returned (.tuple #[.pointer (some ⟨w.heap.size, 0, none⟩), .pointer (some ⟨rp, 0, none⟩)]) ∧ St w w' w.heap.size p Q most 2 G rp (runK most [] os)
/-- The same, and its nodes are new. -/
def MadeEndQ (w : World) (most : Nat) (os : List Op7) (e : Ending) (w' : World) : Prop :=
  ∃ p Q G rp, e = .returned (.tuple #[.pointer (some ⟨w.heap.size, 0, none⟩), .pointer (some ⟨rp, 0, none⟩)]) ∧ St w w' w.heap.size p Q most 2 G rp (runK most [] os) ∧ ∀ b, Q b → w.heap.size ≤ b
theorem tnew2 (w : World) (most : Nat) (h1 : 1 ≤ most) (h2 : most ≤ 1024) : Calls Try.prog 28 #[.int .i64 (most : Int), .int .i64 2] w (NewEnd w most 2) := tnew w most 2 h1 h2 (by omega) (by omega)
set_option maxHeartbeats 1000000 in
theorem madeQ_any (w : World) (most : Nat) (h1 : 1 ≤ most) (h2 : most ≤ 1024) (v : Value) (os : List Op7) (hv : Elems 6 cOp w v os) (hos : OpsOk os) : Calls Try.prog 11 #[.int .i64 (most : Int), v] w (MadeEndQ w most os) := by
  obtain ⟨A, cap, rfl⟩ := hv.slice
  obtain ⟨len, HLEN⟩ : ∃ len, Hid (len = os.length) := ⟨_, rfl⟩
  have hcap := hv.cap
  have hm' : os.length ≤ 9223372036854775807 := by unfold maxLen at hcap; omega
  have HV := hid hv
  have HOS := hid hos
  rw [← HLEN.out] at HV hm' ⊢
  clear hv hos hcap
  go_enter Try.func11, Try.ntmps11
  go_wp2_with fail
  refine (tnew2 w most h1 h2).mono ?_
  rintro e w1 ⟨rfl, hb1, p, Q, ht, hp, hQ⟩
  have HST := hid (st_new ht hb1 hp)
  obtain ⟨wa, HWA⟩ : ∃ wa, Hid (wa = w1.alloc (.cells #[.slice none 0 0, .int .i64 (most : Int)] 68)) := ⟨_, rfl⟩
  rw [← HWA.out] at HST
  have HQN : Hid (∀ b, Q b → w.heap.size ≤ b) := fun b hb => Nat.le_of_lt (hQ b hb)
  clear hb1 ht hp hQ
  go_wp2
  rw [← HWA.out]
  go_loopw [9] (fun i wr => ∃ k : Nat, k ≤ len ∧ i = .int .i64 k ∧ ∃ Q G, St w wr w.heap.size p Q most 2 G w1.heap.size (runK most [] (os.take k)) ∧ ∀ b, Q b → w.heap.size ≤ b) (fun i _ => len - (intOf i).toNat)
  case atStart => exact ⟨0, by omega, rfl, Q, _, HST.out, HQN.out⟩
  case round =>
    obtain ⟨k, hk, rfl, Q', G', hst, hqn⟩ := hrel
    have HS := hid hst
    have HQ' := hid hqn
    clear hqn
    by_cases hlt : k < len
    · have hlti : (k : Int) < len := by omega
      obtain ⟨op, hop⟩ : ∃ op, os[k]? = some op := ⟨os[k]'(by have := HLEN.out; omega), List.getElem?_eq_getElem _⟩
      obtain ⟨ad, rfl, hat⟩ := (HV.out.below hst.since).opAt hop
      obtain ⟨hc0, hc1, hc2, hc3, hc4, hc5⟩ := hat
      have HN := hid (runK_take most [] hop)
      have HOK := hid (HOS.out.ok op (List.mem_of_getElem? hop))
      clear hst hop
      go_wp2_with fail
      refine (doesQ_any HS.out op HOK.out).mono ?_
      rw [← HN.out]
      rintro e w2 ⟨rfl, Q2, G2, hst2, hq2⟩
      have HST2 := hid hst2
      have HQ2 : Hid (∀ b, Q2 b → w.heap.size ≤ b) := fun b hb => by
        rcases hq2 b hb with h | h
        · exact HQ'.out b h
        · exact Nat.le_trans HS.out.since.size h
      clear hst2 hq2 hc0 hc1 hc2 hc3 hc4 hc5
      go_wp2
      go_roundw
      case rel => exact ⟨k + 1, by omega, by go_num, Q2, G2, HST2.out, HQ2.out⟩
      case measure => simp [intOf]; omega
    · obtain rfl : k = len := by omega
      have hall : os.take k = os := List.take_of_length_le (by have := HLEN.out; omega)
      rw [hall] at HS
      clear hst hall
      go_wp2
      go_ret2
      exact ⟨p, Q', G', _, rfl, HS.out, HQ'.out⟩
theorem made_any (w : World) (most : Nat) (h1 : 1 ≤ most) (h2 : most ≤ 1024) (v : Value) (os : List Op7) (hv : Elems 6 cOp w v os) (hos : OpsOk os) : Calls Try.prog 11 #[.int .i64 (most : Int), v] w (MadeEnd w most os) :=
  (madeQ_any w most h1 h2 v os hv hos).mono fun _ _ h => let ⟨p, Q, G, rp, he, hs, _⟩ := h; ⟨p, Q, G, rp, he, hs⟩
end Go.Proofs.Ytlnagdodnkhbmaa
