import Derived.Test.YtpckaglefmpkcaaRows
import Derived.Test.YtpckaglefmpkcaaMA
import Derived.Laws.Cover1
import Derived.Deep.QuietTactic
import Derived.BigQuiet
import Derived.Deep.RegionHeld
import Derived.OwnWalk

namespace Go.Proofs.Ytpckaglefmpkcaa
open Go.RowKit

/-- A key and its value. -/
abbrev Pr := List Nat × List Nat
def cP (p : Pr) : List Value := [.string (str p.1), .string (str p.2)]
theorem cP_len (p : Pr) : (cP p).length = 2 := rfl
theorem cP_one (p : Pr) : ∀ y ∈ cP p, y.oneCell' = true := by
  intro y hy
  simp [cP] at hy
  rcases hy with rfl | rfl <;> rfl
/-- Bytes alone. -/
def PByt (l : List Pr) : Prop := ∀ p ∈ l, Byt p.1 ∧ Byt p.2

/-- The reference's list: where it lies, what it has. -/
def RList (w : World) (F : List Nat) (p : Nat) (l : List Pr) : Prop :=
  ∃ v, One w p 32 v ∧ Elems 2 cP w v l ∧ F = p :: ownFoot v ∧ (∀ b ∈ ownFoot v, b < w.heap.size) ∧ p ∉ ownFoot v
theorem RList.keep {w w' : World} {F : List Nat} {p : Nat} {l : List Pr} (h : RList w F p l) (hs : w.heap.size ≤ w'.heap.size) (hk : ∀ b ∈ F, w'.heap[b]? = w.heap[b]?) : RList w' F p l := by
  obtain ⟨v, h1, h2, rfl, h4, h5⟩ := h
  exact ⟨v, h1.keep (hk p List.mem_cons_self), h2.keep fun b hb => hk b (List.mem_cons_of_mem _ hb), rfl, fun b hb => Nat.lt_of_lt_of_le (h4 b hb) hs, h5⟩
theorem RList.lt {w : World} {F : List Nat} {p : Nat} {l : List Pr} (h : RList w F p l) : ∀ b ∈ F, b < w.heap.size := by
  obtain ⟨v, h1, h2, rfl, h4, h5⟩ := h
  intro b hb
  rcases List.mem_cons.1 hb with rfl | hb
  · exact h1.lt
  · exact h4 b hb
theorem RList.below {w w' : World} {F : List Nat} {p : Nat} {l : List Pr} (h : RList w F p l) (hb : Below w.heap.size w w') : RList w' F p l :=
  h.keep hb.size fun b hF => hb.block b (h.lt b hF)

/-- The place of the first key that is a key, or behind it. -/
def atN : List Pr → List Nat → Nat
  | [], _ => 0
  | p :: l, k => if p.1 < k then atN l k + 1 else 0
theorem atN_le : ∀ (l : List Pr) (k : List Nat), atN l k ≤ l.length
  | [], _ => Nat.le_refl _
  | p :: l, k => by
    unfold atN
    split
    · have := atN_le l k; simp; omega
    · exact Nat.zero_le _
/-- All ahead of it are ahead, and it is not. -/
theorem atN_of : ∀ (l : List Pr) (k : List Nat) (n : Nat), n ≤ l.length → (∀ (j : Nat) (p : Pr), j < n → l[j]? = some p → p.1 < k) → (∀ p : Pr, l[n]? = some p → ¬ p.1 < k) → atN l k = n
  | [], k, n, hn, _, _ => by simp at hn; simp [atN, hn]
  | p :: l, k, 0, _, _, h2 => by
    unfold atN
    rw [if_neg (h2 p rfl)]
  | p :: l, k, n + 1, hn, h1, h2 => by
    unfold atN
    rw [if_pos (h1 0 p (by omega) rfl), atN_of l k n (by simpa using hn) (fun j q hj hq => h1 (j + 1) q (by omega) hq) (fun q hq => h2 q hq)]

set_option maxHeartbeats 400000 in
theorem refat (w : World) (F : List Nat) (p : Nat) (l : List Pr) (k : List Nat) (hR : RList w F p l) (hl : PByt l) (hk : Byt k) :
    Calls Try.prog 47 #[.pointer (some ⟨p, 0, none⟩), .string (str k)] w fun e w' => e = .returned (.int .i64 (atN l k : Nat)) ∧ w = w' := by
  obtain ⟨v, h1, h2, _, _, _⟩ := hR
  obtain ⟨A, cap, rfl⟩ := h2.slice
  have H2 := hid h2
  have hp := h1.cell
  have hcap := h2.cap
  have hm : l.length ≤ 9223372036854775807 := by have := hcap.2.2; unfold maxLen at this; omega
  have HL := hid hl
  obtain ⟨len, HLEN⟩ : ∃ len, Hid (len = l.length) := ⟨_, rfl⟩
  rw [← HLEN.out] at hp hm
  clear h1 h2 hcap hl
  go_enter Try.func47, Try.ntmps47
  go_wp2
  go_loop [5] (fun i => ∃ n : Nat, n ≤ len ∧ i = .int .i64 n ∧ Hid (∀ (j : Nat) (q : Pr), j < n → l[j]? = some q → q.1 < k)) (fun i => len - (intOf i).toNat)
  case atStart => exact ⟨0, by omega, rfl, fun j q hj => by omega⟩
  case round =>
    obtain ⟨n, hn, rfl, HJ⟩ := hrel
    by_cases hlt : n < len
    · have hlti : (n : Int) < len := by omega
      obtain ⟨q, hq⟩ : ∃ q, l[n]? = some q := ⟨l[n]'(by have := HLEN.out; omega), List.getElem?_eq_getElem _⟩
      obtain ⟨ad, rfl, hc⟩ := H2.out.cell cP_len (j := 0) hq (u := .string (str q.1)) rfl
      rw [Nat.add_zero] at hc
      have hless := less_str (HL.out q (List.mem_of_getElem? hq)).1 hk
      have HQ := hid hq
      clear hq
      by_cases hqk : q.1 < k
      · simp only [hqk, decide_true] at hless
        have HJ' : Hid (∀ (j : Nat) (x : Pr), j < n + 1 → l[j]? = some x → x.1 < k) := fun j x hj hx => by
          rcases Nat.lt_or_ge j n with h | h
          · exact HJ.out j x h hx
          · obtain rfl : j = n := by omega
            have := HQ.out
            rw [hx] at this
            injection this with this
            subst this
            exact hqk
        clear hqk
        go_wp2
        go_round
        case rel => exact ⟨n + 1, by omega, by go_num, HJ'⟩
        case measure => simp [intOf]; omega
      · simp only [hqk, decide_false] at hless
        have HA : Hid (atN l k = n) := atN_of l k n (by have := HLEN.out; omega) HJ.out (fun x hx => by
          have := HQ.out
          rw [hx] at this
          injection this with this
          subst this
          exact hqk)
        clear hqk
        go_wp2
        go_ret
        exact ⟨by rw [HA.out]; rfl, rfl⟩
    · obtain rfl : n = len := by omega
      have HA : Hid (atN l k = n) := atN_of l k n (by have := HLEN.out; omega) HJ.out (fun x hx => by
        have := (List.getElem?_eq_some_iff.1 hx).1
        have := HLEN.out
        omega)
      go_wp2
      go_ret
      exact ⟨by rw [HA.out]; rfl, rfl⟩

/-- The value that a key has. -/
def getL (l : List Pr) (k : List Nat) : Option (List Nat) := (l[atN l k]?).bind fun q => if q.1 = k then some q.2 else none
theorem getL_some {l : List Pr} {k v : List Nat} (h : getL l k = some v) : l[atN l k]? = some (k, v) := by
  unfold getL at h
  cases hq : l[atN l k]? with
  | none => rw [hq] at h; cases h
  | some q =>
    rw [hq] at h
    simp only [Option.bind_some] at h
    split at h
    · rename_i he
      injection h with h
      rw [← he, ← h]
    · cases h
theorem getL_none {l : List Pr} {k : List Nat} (h : getL l k = none) : ∀ q : Pr, l[atN l k]? = some q → q.1 ≠ k := by
  intro q hq he
  unfold getL at h
  rw [hq] at h
  simp [he] at h
theorem refhas (w : World) (F : List Nat) (p : Nat) (l : List Pr) (k : List Nat) (hR : RList w F p l) (hl : PByt l) (hk : Byt k) :
    Calls Try.prog 56 #[.pointer (some ⟨p, 0, none⟩), .string (str k)] w fun e w' => e = .returned (.bool (getL l k).isSome) ∧ w = w' := by
  have HR := hid hR
  obtain ⟨v, h1, h2, _, _, _⟩ := hR
  obtain ⟨A, cap, rfl⟩ := h2.slice
  have hp := h1.cell
  have hcap := h2.cap
  have hm : l.length ≤ 9223372036854775807 := by have := hcap.2.2; unfold maxLen at this; omega
  have HN := hid (atN_le l k)
  obtain ⟨len, HLEN⟩ : ∃ len, Hid (len = l.length) := ⟨_, rfl⟩
  obtain ⟨n, HNE⟩ : ∃ n, Hid (n = atN l k) := ⟨_, rfl⟩
  rw [← HLEN.out] at hp hm
  by_cases hlt : n < len
  · have hlti : (n : Int) < len := by omega
    obtain ⟨q, hq⟩ : ∃ q, l[n]? = some q := ⟨l[n]'(by have := HLEN.out; omega), List.getElem?_eq_getElem _⟩
    obtain ⟨ad, rfl, hc⟩ := h2.cell cP_len (j := 0) hq (u := .string (str q.1)) rfl
    rw [Nat.add_zero] at hc
    have heq := beq_str (hl q (List.mem_of_getElem? hq)).1 hk
    by_cases he : q.1 = k
    · have HG : Hid ((getL l k).isSome = true) := by
        show _ = _
        unfold getL; rw [← HNE.out, hq]; simp [he]
      simp only [he, decide_true] at heq
      have he' : str q.1 = str k := by rw [he]
      clear h1 h2 hcap hq he
      go_enter Try.func56, Try.ntmps56
      go_wp2_with fail
      refine (refat w F p l k HR.out hl hk).mono ?_
      rw [← HNE.out]
      rintro e w' ⟨rfl, rfl⟩
      go_wp2
      go_ret
      exact ⟨by rw [HG.out]; rfl, rfl⟩
    · have HG : Hid ((getL l k).isSome = false) := by
        show _ = _
        unfold getL; rw [← HNE.out, hq]; simp [he]
      simp only [he, decide_false] at heq
      clear h1 h2 hcap hq he
      go_enter Try.func56, Try.ntmps56
      go_wp2_with fail
      refine (refat w F p l k HR.out hl hk).mono ?_
      rw [← HNE.out]
      rintro e w' ⟨rfl, rfl⟩
      go_wp2
      go_ret
      exact ⟨by rw [HG.out]; rfl, rfl⟩
  · have hlti : ¬ (n : Int) < len := by omega
    have HG : Hid ((getL l k).isSome = false) := by
      show _ = _
      unfold getL; rw [← HNE.out, List.getElem?_eq_none (by have := HLEN.out; omega)]; rfl
    clear h1 h2 hcap
    go_enter Try.func56, Try.ntmps56
    go_wp2_with fail
    refine (refat w F p l k HR.out hl hk).mono ?_
    rw [← HNE.out]
    rintro e w' ⟨rfl, rfl⟩
    go_wp2
    go_ret
    exact ⟨by rw [HG.out]; rfl, rfl⟩
def key64 (k : List Nat) : Bool := decide (1 ≤ k.length ∧ k.length ≤ 64)
def checkR (k : List Nat) : Int := if key64 k = true then 0 else 13
theorem refcheck (w : World) (k : List Nat) : Calls Try.prog 55 #[.string (str k)] w fun e w' => e = .returned (.int .i64 (checkR k)) ∧ w = w' := by
  have hs := str_size k
  unfold checkR key64
  by_cases h1 : (k.length : Int) < 1
  · rw [if_neg (by simp; omega)]
    go_enter Try.func55, Try.ntmps55
    go_wp2
    go_ret
    exact ⟨rfl, rfl⟩
  · by_cases h2 : (64 : Int) < k.length
    · rw [if_neg (by simp; omega)]
      go_enter Try.func55, Try.ntmps55
      go_wp2
      go_ret
      exact ⟨rfl, rfl⟩
    · rw [if_pos (by simp; omega)]
      go_enter Try.func55, Try.ntmps55
      go_wp2
      go_ret
      exact ⟨rfl, rfl⟩
end Go.Proofs.Ytpckaglefmpkcaa

namespace Go.Proofs.Ytpckaglefmpkcaa
open Go.RowKit

/-- How Get answers. -/
def getV (l : List Pr) (k : List Nat) : List Nat := if key64 k = true then (getL l k).getD [] else []
def getE (l : List Pr) (k : List Nat) : Int := if key64 k = true then (if (getL l k).isSome = true then 0 else 14) else 13
theorem refget (w : World) (F : List Nat) (p : Nat) (l : List Pr) (k : List Nat) (hR : RList w F p l) (hl : PByt l) (hk : Byt k) :
    Calls Try.prog 44 #[.pointer (some ⟨p, 0, none⟩), .string (str k)] w fun e w' => e = .returned (.tuple #[.string (str (getV l k)), .int .i64 (getE l k)]) ∧ Below w.heap.size w w' := by
  unfold getV getE
  cases h64 : key64 k with
  | false =>
    simp only [Bool.false_eq_true, if_false]
    rw [← str_nil]
    go_enter Try.func44, Try.ntmps44
    go_wp2_with fail
    refine (refcheck w k).mono ?_
    rw [show checkR k = 13 by unfold checkR; rw [h64]; rfl]
    rintro e w' ⟨rfl, rfl⟩
    go_wp2
    go_ret2
    exact ⟨rfl, Below.refl _ _⟩
  | true =>
    simp only [if_true]
    cases hg : getL l k with
    | none =>
      simp only [Option.isSome_none, Bool.false_eq_true, if_false, Option.getD_none]
      rw [← str_nil]
      go_enter Try.func44, Try.ntmps44
      go_wp2_with fail
      refine (refcheck w k).mono ?_
      rw [show checkR k = 0 by unfold checkR; rw [h64]; rfl]
      rintro e w' ⟨rfl, rfl⟩
      go_wp2_with fail
      refine (refhas _ F p l k hR hl hk).mono ?_
      rw [hg]
      rintro e w' ⟨rfl, rfl⟩
      go_wp2
      go_ret2
      exact ⟨rfl, Below.refl _ _⟩
    | some v =>
      simp only [Option.isSome_some, if_true, Option.getD_some]
      have hat := getL_some hg
      have HR := hid hR
      obtain ⟨u, h1, h2, _, _, _⟩ := hR
      obtain ⟨A, cap, rfl⟩ := h2.slice
      have hp := h1.cell
      have hlt : atN l k < l.length := (List.getElem?_eq_some_iff.1 hat).1
      obtain ⟨n, HNE⟩ : ∃ n, Hid (n = atN l k) := ⟨_, rfl⟩
      obtain ⟨len, HLEN⟩ : ∃ len, Hid (len = l.length) := ⟨_, rfl⟩
      have hm : l.length ≤ 9223372036854775807 := by have := h2.cap; unfold maxLen at this; omega
      rw [← HNE.out] at hat hlt
      rw [← HLEN.out] at hp hlt hm
      have hlti : (n : Int) < len := by omega
      obtain ⟨ad, rfl, hc⟩ := h2.cell cP_len (j := 1) hat (u := .string (str v)) rfl
      rw [← add_add', Addr.add_succ' _ 0] at hc
      clear h1 h2 hat
      go_enter Try.func44, Try.ntmps44
      go_wp2_with fail
      refine (refcheck w k).mono ?_
      rw [show checkR k = 0 by unfold checkR; rw [h64]; rfl]
      rintro e w' ⟨rfl, rfl⟩
      go_wp2_with fail
      refine (refhas _ F p l k HR.out hl hk).mono ?_
      rw [hg]
      rintro e w' ⟨rfl, rfl⟩
      go_wp2
      go_region_held (fun W => W.cell? ⟨p, 0, none⟩ = some (.slice (some ad) len cap) ∧ W.cell? { block := (ad.add (n * 2)).block, off := (ad.add (n * 2)).off + 1, spot := none } = some (.string (str v))) (first | exact ⟨hp, hc⟩)
        (first
          | (go_at_call 47; ((with_reducible refine (refat _ F p l k (HR.out.below (Below.refl _ _).drew) hl hk).mono ?_); rw [← HNE.out]; rintro e w2 ⟨rfl, rfl⟩)))
      go_wp2
      go_ret2
      exact ⟨rfl, (Below.refl _ _).drew⟩
/-- How Ceil answers. -/
theorem refceil (w : World) (F : List Nat) (p : Nat) (l : List Pr) (k : List Nat) (hR : RList w F p l) (hl : PByt l) (hk : Byt k) :
    Calls Try.prog 23 #[.pointer (some ⟨p, 0, none⟩), .string (str k)] w fun e w' =>
      e = .returned (match l[atN l k]? with | some q => .tuple #[.string (str q.1), .string (str q.2), .int .i64 0] | none => .tuple #[.string (str []), .string (str []), .int .i64 14]) ∧ Below w.heap.size w w' := by
  have HR := hid hR
  obtain ⟨u, h1, h2, _, _, _⟩ := hR
  obtain ⟨A, cap, rfl⟩ := h2.slice
  have hp := h1.cell
  obtain ⟨n, HNE⟩ : ∃ n, Hid (n = atN l k) := ⟨_, rfl⟩
  obtain ⟨len, HLEN⟩ : ∃ len, Hid (len = l.length) := ⟨_, rfl⟩
  have hm : l.length ≤ 9223372036854775807 := by have := h2.cap; unfold maxLen at this; omega
  have hle := atN_le l k
  rw [← HNE.out] at hle ⊢
  rw [← HLEN.out] at hp hm hle
  cases hq : l[n]? with
  | none =>
    have hn : n = len := by
      rcases Nat.lt_or_ge n len with h | h
      · rw [List.getElem?_eq_getElem (by have := HLEN.out; omega)] at hq; cases hq
      · omega
    have hni : (n : Int) = len := by omega
    rw [← str_nil]
    clear h1 h2 hq hn
    go_enter Try.func23, Try.ntmps23
    go_wp2_with fail
    refine (refat _ F p l k HR.out hl hk).mono ?_
    rw [← HNE.out]
    rintro e w' ⟨rfl, rfl⟩
    go_wp2
    go_ret3
    exact ⟨rfl, Below.refl _ _⟩
  | some q =>
    have hlt : n < len := by have := (List.getElem?_eq_some_iff.1 hq).1; have := HLEN.out; omega
    have hlti : (n : Int) < len := by omega
    obtain ⟨ad, rfl, hc0⟩ := h2.cell cP_len (j := 0) hq (u := .string (str q.1)) rfl
    obtain ⟨ad', hA, hc⟩ := h2.cell cP_len (j := 1) hq (u := .string (str q.2)) rfl
    injection hA with hA
    subst hA
    rw [Nat.add_zero] at hc0
    rw [← add_add', Addr.add_succ' _ 0] at hc
    clear h1 h2 hq
    go_enter Try.func23, Try.ntmps23
    go_wp2_with fail
    refine (refat _ F p l k HR.out hl hk).mono ?_
    rw [← HNE.out]
    rintro e w' ⟨rfl, rfl⟩
    go_wp2
    go_quiet (fail)
    go_wp2
    go_ret3
    exact ⟨rfl, below_drewN' (Below.refl _ _) _⟩
end Go.Proofs.Ytpckaglefmpkcaa

namespace Go.Proofs.Ytpckaglefmpkcaa
open Go.RowKit
set_option maxRecDepth 100000

theorem Try.info59 : (Try.prog.info? 59).map (fun i => (i.zero, i.size, i.bytes)) = some (some (.agg #[.string ⟨#[]⟩, .string ⟨#[]⟩]), 2, 32) := by kernel_rfl
theorem elem30 : Try.prog.elem 30 = 59 := by kernel_rfl
theorem run_size59 (W : World) : (sizeOf 59).run Try.prog W = .ok 2 W := by kernel_rfl
theorem cutP_to (W : World) (A : Option Addr) (len cap h : Nat) (hh : h ≤ cap) : (Instr.slice 30 (.slice A len cap) none (some (.int .i64 (h : Int))) none).run Try.prog W = .ok (sliced A 0 h cap 2) W := by
  have e := run_slice_h (P := Try.prog) (w := W) 30 A len cap (by rw [elem30]; exact Try.underlying30) .i64 (h : Int) (by omega) (by omega)
  rw [elem30, run_size59] at e
  simpa [Result.andThen] using e
theorem cutP_from (W : World) (A : Option Addr) (len cap a : Nat) (ha : a ≤ len) : (Instr.slice 30 (.slice A len cap) (some (.int .i64 (a : Int))) none none).run Try.prog W = .ok (sliced A a len cap 2) W := by
  have e := run_slice_l (P := Try.prog) (w := W) 30 A len cap (by rw [elem30]; exact Try.underlying30) .i64 (a : Int) (by omega) (by omega)
  rw [elem30, run_size59] at e
  simpa [Result.andThen] using e

/-- Behind a call that turned the list at p alone. -/
def Turned (w : World) (p : Nat) (l : List Pr) (u : Value) (e : Ending) (w' : World) : Prop :=
  e = .returned u ∧ ∃ F', RList w' F' p l ∧ Chg [p] w w' [p] ∧ ∀ b ∈ F', b = p ∨ w.heap.size ≤ b
/-- The list, once p's cell names a row that the call made. -/
theorem turned_of {w w3 : World} {p : Nat} {l : List Pr} {u0 v3 : Value} (h1 : One w p 32 u0) (hb : Below w.heap.size w w3) (ho : OwnElems 2 cP 59 w3 w.heap.size v3 l) :
    ∃ F', RList (w3.setCell ⟨p, 0, none⟩ v3) F' p l ∧ Chg [p] w (w3.setCell ⟨p, 0, none⟩ v3) [p] ∧ ∀ b ∈ F', b = p ∨ w.heap.size ≤ b := by
  have h3 : One w3 p 32 u0 := h1.keep (hb.block _ h1.lt)
  have hne : p ∉ ownFoot v3 := fun hm => by have := (ho.lt p hm).1; have := h1.lt; omega
  have hkeep : ∀ b ∈ ownFoot v3, (w3.setCell ⟨p, 0, none⟩ v3).heap[b]? = w3.heap[b]? := fun b hbb => Below.heap_setCell _ _ _ _ (fun e => hne (by rw [e] at hbb; exact hbb))
  refine ⟨p :: ownFoot v3, ⟨v3, h3.set v3, ho.rows.keep hkeep, rfl, fun b hbb => ?_, hne⟩, ((Chg.of_below (F := [p]) hb).setCell (by simp) _), fun b hbb => ?_⟩
  · have := (ho.lt b hbb).2
    simpa [World.setCell] using this
  · rcases List.mem_cons.1 hbb with rfl | hbb
    · exact .inl rfl
    · exact .inr (ho.lt b hbb).1

/-- What Put leaves. -/
def putL (l : List Pr) (k v : List Nat) : List Pr := l.take (atN l k) ++ [(k, v)] ++ l.drop (if (getL l k).isSome = true then atN l k + 1 else atN l k)
def delL (l : List Pr) (k : List Nat) : List Pr := l.take (atN l k) ++ l.drop (atN l k + 1)
theorem refput_was (w : World) (F : List Nat) (p : Nat) (l : List Pr) (k v : List Nat) (hR : RList w F p l) (hl : PByt l) (hk : Byt k) (hsz : l.length ≤ 1000) (h64 : key64 k = true) (hv : v.length ≤ 256) (old : List Nat) (hg : getL l k = some old) :
    Calls Try.prog 42 #[.pointer (some ⟨p, 0, none⟩), .string (str k), .string (str v)] w (Turned w p (putL l k v) (.tuple #[.string (str old), .bool true, .int .i64 0])) := by
  obtain ⟨i59, hi59, hz59, hs59, hy59⟩ := info_parts Try.info59
  have HR := hid hR
  obtain ⟨u, h1, h2, hF, _, _⟩ := hR
  obtain ⟨A, cap, rfl⟩ := h2.slice
  have H1 := hid h1
  have hp := h1.cell
  have hcap := h2.cap
  obtain ⟨n, HNE⟩ : ∃ n, Hid (n = atN l k) := ⟨_, rfl⟩
  obtain ⟨len, HLEN⟩ : ∃ len, Hid (len = l.length) := ⟨_, rfl⟩
  have hle := atN_le l k
  have HSZ : Hid (l.length ≤ 1000) := hsz
  rw [← HNE.out] at hle
  rw [← HLEN.out] at hp hle hcap
  have hm : len ≤ 1000 := by rw [HLEN.out]; exact hsz
  have hat := getL_some hg
  rw [← HNE.out] at hat
  have hlt : n < len := by rw [HLEN.out]; exact (List.getElem?_eq_some_iff.1 hat).1
  have hlti : (n : Int) < len := by omega
  obtain ⟨VA, HVA⟩ : ∃ V, Hid (V = sliced A 0 n cap 2) := ⟨_, rfl⟩
  obtain ⟨VC, HVC⟩ : ∃ V, Hid (V = sliced A (n + 1) len cap 2) := ⟨_, rfl⟩
  have hcA : ∀ W, (Instr.slice 30 (.slice A len cap) none (some (.int .i64 (n : Int))) none).run Try.prog W = .ok VA W := fun W => by rw [HVA.out]; exact cutP_to W A len cap n (by omega)
  have hcC : ∀ W, (Instr.slice 30 (.slice A len cap) (some (.int .i64 ((n : Int) + 1))) none none).run Try.prog W = .ok VC W := fun W => by rw [HVC.out]; have := cutP_from W A len cap (n + 1) (by omega); rwa [show ((n + 1 : Nat) : Int) = (n : Int) + 1 by omega] at this
  have HRA : Hid (Elems 2 cP w VA (l.take n)) := by rw [HVA.out]; exact h2.to_ cP_len (by have := HLEN.out; omega)
  have HRC : Hid (Elems 2 cP w VC (l.drop (n + 1))) := by rw [HVC.out, HLEN.out]; exact h2.from_ cP_len (by have := HLEN.out; omega)
  obtain ⟨ad, hA, hc⟩ := h2.cell cP_len (j := 1) hat (u := .string (str old)) rfl
  subst hA
  rw [← add_add', Addr.add_succ' _ 0] at hc
  have HC := hid hc
  clear hc hat
  have HPUT : Hid (putL l k v = l.take n ++ [(k, v)] ++ l.drop (n + 1)) := by
    show _ = _
    unfold putL; rw [hg, ← HNE.out]; rfl
  have hsv := str_size v
  have hvi : (v.length : Int) ≤ 256 := by omega
  have HG := hid hg
  have HCK : Hid (checkR k = 0) := by show _ = _; unfold checkR; rw [h64]; rfl
  have HB0 := hid (Below.refl w.heap.size w)
  rw [HPUT.out]
  clear h1 h2 hg h64 hsz hF
  have HP := hid hp
  go_enter Try.func42, Try.ntmps42
  go_wp2_with fail
  refine (refcheck w k).mono ?_
  rw [HCK.out]
  rintro e w' ⟨rfl, rfl⟩
  go_wp2_with fail
  refine (refat _ F p l k HR.out hl hk).mono ?_
  rw [← HNE.out]
  rintro e w' ⟨rfl, rfl⟩
  go_wp2_with fail
  refine (refhas _ F p l k HR.out hl hk).mono ?_
  rw [HG.out]
  rintro e w' ⟨rfl, rfl⟩
  go_wp2_with (first
    | (at_builtin; refine wpList_append_rows _ rfl (.tmp 25) (.tmp 31) 30 rfl w.heap.size 59 i59 _ 2 32 Try.underlying30 hi59 hz59 hs59 hy59 rfl (by omega) cP_one (.slice none 0 0) _ rfl (OwnElems.nil _ _ _ _ _) _ _ rfl HRA.out (by have := HSZ.out; simp [maxLen]; omega) (by have := HSZ.out; simp; omega) (Nat.le_refl _) ?_; intro v1 w1 ho1 hg1 hf1; rw [List.nil_append] at ho1; have HO1 := hid ho1; have HB1 := hid (HB0.out.grown hg1 (Nat.le_refl _) (fun g hg => by simp [Value.ownBlock] at hg)); clear ho1 hg1 hf1)
    | (at_builtin; refine wpList_append_rows _ rfl (.tmp 33) (.tmp 37) 30 rfl w.heap.size 59 i59 _ 2 32 Try.underlying30 hi59 hz59 hs59 hy59 rfl (by omega) cP_one v1 _ rfl (HO1.out.alloc _) _ _ rfl (rows_new w1 2 cP cP_len (k, v) 59) (by have := HSZ.out; simp [maxLen]; omega) (by have := HSZ.out; simp; omega) (HB1.out.alloc HB1.out.size _).size ?_; intro v2 w2 ho2 hg2 hf2; have HO2 := hid ho2; have HB2 := hid ((HB1.out.alloc HB1.out.size _).grown hg2 (HB1.out.alloc HB1.out.size _).size (fun g hg => (HO1.out.lt g (mem_ownFoot.2 hg)).1)); have hp2 := below_keep HB2.out _ _ HP.out; have hc2 := below_keep HB2.out _ _ HC.out; clear ho2 hg2 hf2)
    | (at_builtin; refine wpList_append_rows _ rfl (.tmp 51) (.tmp 57) 30 rfl w.heap.size 59 i59 _ 2 32 Try.underlying30 hi59 hz59 hs59 hy59 rfl (by omega) cP_one v2 _ rfl HO2.out _ _ rfl (HRC.out.below HB2.out) (by have := HSZ.out; simp [maxLen]; omega) (by have := HSZ.out; simp; omega) HB2.out.size ?_; intro v3 w3 ho3 hg3 hf3; obtain ⟨A3, N3, c3, rfl⟩ := (OwnElems.rows ho3).form; have HO3 := hid ho3; have HB3 := hid (HB2.out.grown hg3 HB2.out.size (fun g hg => (HO2.out.lt g (mem_ownFoot.2 hg)).1)); have hp3 := below_keep HB3.out _ _ HP.out; have hz3 : w3.frozen? ⟨p, 0, none⟩ = false := (One.keep H1.out (HB3.out.block _ H1.out.lt)).frozen; clear ho3 hg3 hf3))
  go_ret3
  exact ⟨rfl, turned_of H1.out HB3.out HO3.out⟩
theorem refput_new (w : World) (F : List Nat) (p : Nat) (l : List Pr) (k v : List Nat) (hR : RList w F p l) (hl : PByt l) (hk : Byt k) (hsz : l.length ≤ 1000) (h64 : key64 k = true) (hv : v.length ≤ 256) (hg : getL l k = none) :
    Calls Try.prog 42 #[.pointer (some ⟨p, 0, none⟩), .string (str k), .string (str v)] w (Turned w p (putL l k v) (.tuple #[.string (str []), .bool false, .int .i64 0])) := by
  obtain ⟨i59, hi59, hz59, hs59, hy59⟩ := info_parts Try.info59
  have HR := hid hR
  obtain ⟨u, h1, h2, hF, _, _⟩ := hR
  obtain ⟨A, cap, rfl⟩ := h2.slice
  have H1 := hid h1
  have hp := h1.cell
  have hcap := h2.cap
  obtain ⟨n, HNE⟩ : ∃ n, Hid (n = atN l k) := ⟨_, rfl⟩
  obtain ⟨len, HLEN⟩ : ∃ len, Hid (len = l.length) := ⟨_, rfl⟩
  have hle := atN_le l k
  have HSZ : Hid (l.length ≤ 1000) := hsz
  rw [← HNE.out] at hle
  rw [← HLEN.out] at hp hle hcap
  have hm : len ≤ 1000 := by rw [HLEN.out]; exact hsz
  obtain ⟨VA, HVA⟩ : ∃ V, Hid (V = sliced A 0 n cap 2) := ⟨_, rfl⟩
  obtain ⟨VC, HVC⟩ : ∃ V, Hid (V = sliced A n len cap 2) := ⟨_, rfl⟩
  have hcA : ∀ W, (Instr.slice 30 (.slice A len cap) none (some (.int .i64 (n : Int))) none).run Try.prog W = .ok VA W := fun W => by rw [HVA.out]; exact cutP_to W A len cap n (by omega)
  have hcC : ∀ W, (Instr.slice 30 (.slice A len cap) (some (.int .i64 (n : Int))) none none).run Try.prog W = .ok VC W := fun W => by rw [HVC.out]; exact cutP_from W A len cap (n) (by omega)
  have HRA : Hid (Elems 2 cP w VA (l.take n)) := by rw [HVA.out]; exact h2.to_ cP_len (by have := HLEN.out; omega)
  have HRC : Hid (Elems 2 cP w VC (l.drop (n))) := by rw [HVC.out, HLEN.out]; exact h2.from_ cP_len (by have := HLEN.out; omega)
  have HPUT : Hid (putL l k v = l.take n ++ [(k, v)] ++ l.drop (n)) := by
    show _ = _
    unfold putL; rw [hg, ← HNE.out]; rfl
  have hsv := str_size v
  have hvi : (v.length : Int) ≤ 256 := by omega
  have HG := hid hg
  have HCK : Hid (checkR k = 0) := by show _ = _; unfold checkR; rw [h64]; rfl
  have HB0 := hid (Below.refl w.heap.size w)
  have HSN := hid str_nil
  rw [← HSN.out]
  rw [HPUT.out]
  clear h1 h2 hg h64 hsz hF
  have HP := hid hp
  go_enter Try.func42, Try.ntmps42
  go_wp2_with fail
  refine (refcheck w k).mono ?_
  rw [HCK.out]
  rintro e w' ⟨rfl, rfl⟩
  go_wp2_with fail
  refine (refat _ F p l k HR.out hl hk).mono ?_
  rw [← HNE.out]
  rintro e w' ⟨rfl, rfl⟩
  go_wp2_with fail
  refine (refhas _ F p l k HR.out hl hk).mono ?_
  rw [HG.out]
  rintro e w' ⟨rfl, rfl⟩
  go_wp2_with (first
    | (at_builtin; refine wpList_append_rows _ rfl (.tmp 25) (.tmp 31) 30 rfl w.heap.size 59 i59 _ 2 32 Try.underlying30 hi59 hz59 hs59 hy59 rfl (by omega) cP_one (.slice none 0 0) _ rfl (OwnElems.nil _ _ _ _ _) _ _ rfl HRA.out (by have := HSZ.out; simp [maxLen]; omega) (by have := HSZ.out; simp; omega) (Nat.le_refl _) ?_; intro v1 w1 ho1 hg1 hf1; rw [List.nil_append] at ho1; have HO1 := hid ho1; have HB1 := hid (HB0.out.grown hg1 (Nat.le_refl _) (fun g hg => by simp [Value.ownBlock] at hg)); clear ho1 hg1 hf1)
    | (at_builtin; refine wpList_append_rows _ rfl (.tmp 33) (.tmp 37) 30 rfl w.heap.size 59 i59 _ 2 32 Try.underlying30 hi59 hz59 hs59 hy59 rfl (by omega) cP_one v1 _ rfl (HO1.out.alloc _) _ _ rfl (rows_new w1 2 cP cP_len (k, v) 59) (by have := HSZ.out; simp [maxLen]; omega) (by have := HSZ.out; simp; omega) (HB1.out.alloc HB1.out.size _).size ?_; intro v2 w2 ho2 hg2 hf2; have HO2 := hid ho2; have HB2 := hid ((HB1.out.alloc HB1.out.size _).grown hg2 (HB1.out.alloc HB1.out.size _).size (fun g hg => (HO1.out.lt g (mem_ownFoot.2 hg)).1)); have hp2 := below_keep HB2.out _ _ HP.out; clear ho2 hg2 hf2)
    | (at_builtin; refine wpList_append_rows _ rfl (.tmp 51) (.tmp 57) 30 rfl w.heap.size 59 i59 _ 2 32 Try.underlying30 hi59 hz59 hs59 hy59 rfl (by omega) cP_one v2 _ rfl HO2.out _ _ rfl (HRC.out.below HB2.out) (by have := HSZ.out; simp [maxLen]; omega) (by have := HSZ.out; simp; omega) HB2.out.size ?_; intro v3 w3 ho3 hg3 hf3; obtain ⟨A3, N3, c3, rfl⟩ := (OwnElems.rows ho3).form; have HO3 := hid ho3; have HB3 := hid (HB2.out.grown hg3 HB2.out.size (fun g hg => (HO2.out.lt g (mem_ownFoot.2 hg)).1)); have hp3 := below_keep HB3.out _ _ HP.out; have hz3 : w3.frozen? ⟨p, 0, none⟩ = false := (One.keep H1.out (HB3.out.block _ H1.out.lt)).frozen; clear ho3 hg3 hf3))
  go_ret3
  exact ⟨rfl, turned_of H1.out HB3.out HO3.out⟩
def oldL (l : List Pr) (k : List Nat) : List Nat := (getL l k).getD []
theorem refput_ok (w : World) (F : List Nat) (p : Nat) (l : List Pr) (k v : List Nat) (hR : RList w F p l) (hl : PByt l) (hk : Byt k) (hsz : l.length ≤ 1000) (h64 : key64 k = true) (hv : v.length ≤ 256) :
    Calls Try.prog 42 #[.pointer (some ⟨p, 0, none⟩), .string (str k), .string (str v)] w (Turned w p (putL l k v) (.tuple #[.string (str (oldL l k)), .bool (getL l k).isSome, .int .i64 0])) := by
  unfold oldL
  cases hg : getL l k with
  | some old => exact refput_was w F p l k v hR hl hk hsz h64 hv old hg
  | none => exact refput_new w F p l k v hR hl hk hsz h64 hv hg
theorem refput_bad (w : World) (p : Nat) (k v : List Nat) (h : key64 k = false) : Calls Try.prog 42 #[.pointer (some ⟨p, 0, none⟩), .string (str k), .string (str v)] w fun e w' => e = .returned (.tuple #[.string (str []), .bool false, .int .i64 13]) ∧ w = w' := by
  rw [← str_nil]
  go_enter Try.func42, Try.ntmps42
  go_wp2_with fail
  refine (refcheck w k).mono ?_
  rw [show checkR k = 13 by unfold checkR; rw [h]; rfl]
  rintro e w' ⟨rfl, rfl⟩
  go_wp2
  go_ret3
  exact ⟨rfl, rfl⟩
theorem refput_size (w : World) (p : Nat) (k v : List Nat) (h : key64 k = true) (hv : 256 < v.length) : Calls Try.prog 42 #[.pointer (some ⟨p, 0, none⟩), .string (str k), .string (str v)] w fun e w' => e = .returned (.tuple #[.string (str []), .bool false, .int .i64 23]) ∧ w = w' := by
  have hs := str_size v
  have hvi : (256 : Int) < v.length := by omega
  rw [← str_nil]
  go_enter Try.func42, Try.ntmps42
  go_wp2_with fail
  refine (refcheck w k).mono ?_
  rw [show checkR k = 0 by unfold checkR; rw [h]; rfl]
  rintro e w' ⟨rfl, rfl⟩
  go_wp2
  go_ret3
  exact ⟨rfl, rfl⟩
end Go.Proofs.Ytpckaglefmpkcaa

namespace Go.Proofs.Ytpckaglefmpkcaa
open Go.RowKit
set_option maxRecDepth 100000

theorem Turned.from_ {w w1 : World} {p : Nat} {l : List Pr} {u : Value} {e : Ending} {w' : World} (hb : Below w.heap.size w w1) (h : Turned w1 p l u e w') : Turned w p l u e w' := by
  obtain ⟨he, F', hR, hc, hf⟩ := h
  exact ⟨he, F', hR, (Chg.of_below (F := [p]) hb).trans hc, fun b hbb => (hf b hbb).imp id fun h => Nat.le_trans hb.size h⟩
theorem refdel_no (w : World) (F : List Nat) (p : Nat) (l : List Pr) (k : List Nat) (hR : RList w F p l) (hl : PByt l) (hk : Byt k) (he : getE l k ≠ 0) :
    Calls Try.prog 43 #[.pointer (some ⟨p, 0, none⟩), .string (str k)] w fun e w' => e = .returned (.tuple #[.string (str []), .int .i64 (getE l k)]) ∧ Below w.heap.size w w' := by
  obtain ⟨c, HC⟩ : ∃ c, Hid (c = getE l k) := ⟨_, rfl⟩
  obtain ⟨x, HX⟩ : ∃ x, Hid (x = str (getV l k)) := ⟨_, rfl⟩
  rw [← HC.out] at he ⊢
  rw [← str_nil]
  go_enter Try.func43, Try.ntmps43
  go_wp2_with fail
  refine (refget w F p l k hR hl hk).mono ?_
  rw [← HC.out, ← HX.out]
  rintro e w' ⟨rfl, hb⟩
  go_wp2
  go_ret2
  exact ⟨rfl, hb⟩
theorem refdel_ok (w : World) (F : List Nat) (p : Nat) (l : List Pr) (k v : List Nat) (hR : RList w F p l) (hl : PByt l) (hk : Byt k) (hsz : l.length ≤ 1000) (h64 : key64 k = true) (hg : getL l k = some v) :
    Calls Try.prog 43 #[.pointer (some ⟨p, 0, none⟩), .string (str k)] w (Turned w p (delL l k) (.tuple #[.string (str v), .int .i64 0])) := by
  obtain ⟨i59, hi59, hz59, hs59, hy59⟩ := info_parts Try.info59
  have HR := hid hR
  obtain ⟨u, h1, h2, hF, _, _⟩ := hR
  obtain ⟨A, cap, rfl⟩ := h2.slice
  have H1 := hid h1
  have hcap := h2.cap
  obtain ⟨n, HNE⟩ : ∃ n, Hid (n = atN l k) := ⟨_, rfl⟩
  obtain ⟨len, HLEN⟩ : ∃ len, Hid (len = l.length) := ⟨_, rfl⟩
  have hle := atN_le l k
  have HSZ : Hid (l.length ≤ 1000) := hsz
  have HP := hid h1.cell
  rw [← HNE.out] at hle
  rw [← HLEN.out] at HP hle hcap
  have hm : len ≤ 1000 := by rw [HLEN.out]; exact hsz
  have hat := getL_some hg
  rw [← HNE.out] at hat
  have hlt : n < len := by rw [HLEN.out]; exact (List.getElem?_eq_some_iff.1 hat).1
  have hlti : (n : Int) < len := by omega
  obtain ⟨VA, HVA⟩ : ∃ V, Hid (V = sliced A 0 n cap 2) := ⟨_, rfl⟩
  obtain ⟨VC, HVC⟩ : ∃ V, Hid (V = sliced A (n + 1) len cap 2) := ⟨_, rfl⟩
  have hcA : ∀ W, (Instr.slice 30 (.slice A len cap) none (some (.int .i64 (n : Int))) none).run Try.prog W = .ok VA W := fun W => by rw [HVA.out]; exact cutP_to W A len cap n (by omega)
  have hcC : ∀ W, (Instr.slice 30 (.slice A len cap) (some (.int .i64 ((n : Int) + 1))) none none).run Try.prog W = .ok VC W := fun W => by rw [HVC.out]; have := cutP_from W A len cap (n + 1) (by omega); rwa [show ((n + 1 : Nat) : Int) = (n : Int) + 1 by omega] at this
  have HRA : Hid (Elems 2 cP w VA (l.take n)) := by rw [HVA.out]; exact h2.to_ cP_len (by have := HLEN.out; omega)
  have HRC : Hid (Elems 2 cP w VC (l.drop (n + 1))) := by rw [HVC.out, HLEN.out]; exact h2.from_ cP_len (by have := HLEN.out; omega)
  have HDEL : Hid (delL l k = l.take n ++ l.drop (n + 1)) := by
    show _ = _
    unfold delL; rw [← HNE.out]
  have HGE : Hid (getE l k = 0) := by show _ = _; unfold getE; rw [h64, hg]; rfl
  have HGV : Hid (getV l k = v) := by show _ = _; unfold getV; rw [h64, hg]; rfl
  rw [HDEL.out]
  clear h1 h2 hg h64 hsz hF hat
  go_enter Try.func43, Try.ntmps43
  go_wp2_with fail
  refine (refget w F p l k HR.out hl hk).mono ?_
  rw [HGE.out, HGV.out]
  rintro e w0 ⟨rfl, hb⟩
  have HB := hid hb
  have HBR := hid (Below.refl w0.heap.size w0)
  have hp := below_keep hb _ _ HP.out
  clear hb
  go_wp2_with fail
  refine (refat _ F p l k (HR.out.below HB.out) hl hk).mono ?_
  rw [← HNE.out]
  rintro e w' ⟨rfl, rfl⟩
  go_wp2_with (first
    | (at_builtin; refine wpList_append_rows _ rfl (.tmp 22) (.tmp 28) 30 rfl w0.heap.size 59 i59 _ 2 32 Try.underlying30 hi59 hz59 hs59 hy59 rfl (by omega) cP_one (.slice none 0 0) _ rfl (OwnElems.nil _ _ _ _ _) _ _ rfl (HRA.out.below HB.out) (by have := HSZ.out; simp [maxLen]; omega) (by have := HSZ.out; simp; omega) (Nat.le_refl _) ?_; intro v1 w1 ho1 hg1 hf1; rw [List.nil_append] at ho1; have HO1 := hid ho1; have HB1 := hid (HBR.out.grown hg1 (Nat.le_refl _) (fun g hg => by simp [Value.ownBlock] at hg)); have hp1 := below_keep (below_step HB.out HB1.out) _ _ HP.out; clear ho1 hg1 hf1)
    | (at_builtin; refine wpList_append_rows _ rfl (.tmp 31) (.tmp 38) 30 rfl w0.heap.size 59 i59 _ 2 32 Try.underlying30 hi59 hz59 hs59 hy59 rfl (by omega) cP_one v1 _ rfl HO1.out _ _ rfl (HRC.out.below (below_step HB.out HB1.out)) (by have := HSZ.out; simp [maxLen]; omega) (by have := HSZ.out; simp; omega) HB1.out.size ?_; intro v3 w3 ho3 hg3 hf3; obtain ⟨A3, N3, c3, rfl⟩ := (OwnElems.rows ho3).form; have HO3 := hid ho3; have HB3 := hid (HB1.out.grown hg3 HB1.out.size (fun g hg => (HO1.out.lt g (mem_ownFoot.2 hg)).1)); have hp3 := below_keep (below_step HB.out HB3.out) _ _ HP.out; have hz3 : w3.frozen? ⟨p, 0, none⟩ = false := (One.keep H1.out ((below_step HB.out HB3.out).block _ H1.out.lt)).frozen; clear ho3 hg3 hf3))
  go_ret2
  exact Turned.from_ HB.out ⟨rfl, turned_of (One.keep H1.out (HB.out.block _ H1.out.lt)) HB3.out HO3.out⟩
end Go.Proofs.Ytpckaglefmpkcaa

namespace Go.Proofs.Ytpckaglefmpkcaa
open Go.RowKit

/-- A slice of slices of numbers. -/
def Shp (w : World) (v : Value) (s : List (List Nat)) : Prop :=
  ∃ vs : List Value, vs.length = s.length ∧ Row 1 w v s.length vs ∧ ∀ (i : Nat) (x : Value) (xs : List Nat), vs[i]? = some x → s[i]? = some xs → Sl .i64 w x xs
theorem Shp.at_ {w : World} {A : Option Addr} {n cap i : Nat} {s : List (List Nat)} {xs : List Nat} (h : Shp w (.slice A n cap) s) (hi : s[i]? = some xs) :
    ∃ ad B c, A = some ad ∧ w.cell? (ad.add i) = some (.slice B xs.length c) ∧ Sl .i64 w (.slice B xs.length c) xs := by
  obtain ⟨vs, hl, hr, hx⟩ := h
  have hlt := (List.getElem?_eq_some_iff.1 hi).1
  have hv : vs[i]? = some (vs[i]'(by omega)) := List.getElem?_eq_getElem _
  have hsl := hx i _ xs hv hi
  obtain ⟨B, c, he, _⟩ := hsl
  have hsl := hx i _ xs hv hi
  rw [he] at hsl
  rw [he] at hv
  obtain ⟨ad, hA, hc⟩ := hr.cell hv
  exact ⟨ad, B, c, hA, hc, hsl⟩
theorem Shp.below {w w' : World} {v : Value} {s : List (List Nat)} (h : Shp w v s) (hb : Below w.heap.size w w') : Shp w' v s := by
  obtain ⟨vs, h1, h2, h3⟩ := h
  exact ⟨vs, h1, h2.below hb, fun i x xs hx hs => (h3 i x xs hx hs).below hb⟩
/-- The levels of a tree of an order that has so many keys. -/
structure ShapeOk (s : List (List Nat)) (order keys : Nat) : Prop where
  one : ∃ n, s[0]? = some [n]
  root : ∀ xs, s[0]? = some xs → ∀ n ∈ xs, min 1 keys ≤ n ∧ n ≤ 2 * order - 1
  node : ∀ i xs, 0 < i → s[i]? = some xs → ∀ n ∈ xs, order - 1 ≤ n ∧ n ≤ 2 * order - 1
  next : ∀ i xs ys, s[i]? = some xs → s[i + 1]? = some ys → ys.length = xs.sum + xs.length
  all : (s.map List.sum).sum = keys
  none : keys = 0 → s.length = 1
theorem sum_take {xs : List Nat} {k x : Nat} (h : xs[k]? = some x) : (xs.take (k + 1)).sum = (xs.take k).sum + x := by
  rw [List.take_add_one, h]; simp
theorem sum_take_le (xs : List Nat) (k : Nat) : (xs.take k).sum ≤ xs.sum := by
  conv => rhs; rw [← List.take_append_drop k xs, List.sum_append]
  omega

set_option maxHeartbeats 800000 in
set_option maxRecDepth 100000 in
theorem shaped_ok (w : World) (v : Value) (s : List (List Nat)) (order keys : Nat) (hv : Shp w v s) (h : ShapeOk s order keys) (ho : 2 ≤ order) (ho' : order ≤ 16) (hk : keys ≤ 100000) :
    Calls Try.prog 25 #[v, .int .i64 order, .int .i64 keys] w fun e w' => e = .returned (.bool true) ∧ Below w.heap.size w w' := by
  obtain ⟨A, cap, rfl⟩ := (let ⟨_, _, hr, _⟩ := hv; hr.slice : ∃ A c, v = .slice A s.length c)
  have HV := hid hv
  have H := hid h
  have hm : s.length ≤ 9223372036854775807 := by
    obtain ⟨_, _, hr, _⟩ := hv
    have := hr.cap
    unfold maxLen at this
    omega
  obtain ⟨n0, h0⟩ := h.one
  have h0l : 0 < s.length := (List.getElem?_eq_some_iff.1 h0).1
  obtain ⟨len, HLEN⟩ : ∃ len, Hid (len = s.length) := ⟨_, rfl⟩
  have HS : Hid (∀ i, ((s.take i).map List.sum).sum ≤ keys) := fun i => by
    rw [← h.all, List.map_take]; exact sum_take_le _ _
  rw [← HLEN.out] at hm h0l HV ⊢
  have hli : ¬ (len : Int) = 0 := by omega
  have hli' : (0 : Int) < len := by omega
  obtain ⟨ad, B, c, rfl, hc0, _⟩ := HV.out.at_ h0
  rw [add_zero'] at hc0
  have HLE : Hid (∀ (i : Nat) (xs : List Nat), s[i]? = some xs → xs.length ≤ keys + 1) := fun i xs hi => by
    rcases Nat.eq_zero_or_pos i with rfl | hpos
    · rw [h0] at hi
      injection hi with hi
      rw [← hi]; simp
    · have hx := h.node i xs hpos hi
      have h1 : xs.length ≤ xs.sum := by
        have : ∀ l : List Nat, (∀ n ∈ l, 1 ≤ n) → l.length ≤ l.sum := fun l hl => by
          induction l with
          | nil => simp
          | cons x l ih =>
            have := ih fun n hn => hl n (List.mem_cons_of_mem _ hn)
            have := hl x List.mem_cons_self
            simp; omega
        exact this xs fun n hn => by have := (hx n hn).1; omega
      have h2 := HS.out (i + 1)
      rw [List.take_add_one, hi] at h2
      simp at h2
      omega
  have hok : (order : Int) ≤ 16 := by omega
  have hok2 : (2 : Int) ≤ order := by omega
  have hkk : (keys : Int) ≤ 100000 := by omega
  clear hv h
  go_enter Try.func25, Try.ntmps25
  go_wp2
  go_loopw [7, 8] (fun sm i wr => ∃ a : Nat, a ≤ len ∧ i = .int .i64 a ∧ ∃ S : Nat, S ≤ keys ∧ sm = .int .i64 S ∧ Hid (S = ((s.take a).map List.sum).sum) ∧ w = wr) (fun _ i _ => len - (intOf i).toNat)
  case atStart => exact ⟨0, by omega, rfl, 0, by omega, rfl, rfl, rfl⟩
  case round =>
    obtain ⟨a, ha, rfl, S, hSk, rfl, HSum, rfl⟩ := hrel
    by_cases hal : a < len
    · have hali : (a : Int) < len := by omega
      obtain ⟨xs, hxs⟩ : ∃ xs, s[a]? = some xs := ⟨s[a]'(by have := HLEN.out; omega), List.getElem?_eq_getElem _⟩
      obtain ⟨ad', B', c', hA, hca, hsl⟩ := HV.out.at_ hxs
      injection hA with hA
      subst hA
      have hxl := HLE.out a xs hxs
      have hsum : S + xs.sum ≤ keys := by
        have := HS.out (a + 1)
        rw [List.take_add_one, hxs] at this
        simp at this
        have := HSum.out
        simp at this
        omega
      have HXS := hid hxs
      have HSL := hid hsl
      have HSM := hid hsum
      clear hxs hsl hsum
      obtain ⟨xl, HXL⟩ : ∃ xl, Hid (xl = xs.length) := ⟨_, rfl⟩
      rw [← HXL.out] at hca hxl
      rw [← HXL.out] at HSL
      go_wp2
      go_loop [7, 9, 10] (fun sm ch k => ∃ b : Nat, b ≤ xl ∧ k = .int .i64 b ∧ ∃ T : Nat, Hid (T = (xs.take b).sum) ∧ S + T ≤ keys ∧ sm = .int .i64 ((S + T : Nat) : Int) ∧ ch = .int .i64 ((T + b : Nat) : Int)) (fun _ _ k => xl - (intOf k).toNat)
      case atStart => exact ⟨0, by omega, rfl, 0, rfl, by omega, rfl, rfl⟩
      case round =>
        obtain ⟨b, hb, rfl, T, HT, hTk, rfl, rfl⟩ := hrel
        by_cases hbl : b < xl
        · have hbli : (b : Int) < xl := by omega
          obtain ⟨x, hx⟩ : ∃ x, xs[b]? = some x := ⟨xs[b]'(by have := HXL.out; omega), List.getElem?_eq_getElem _⟩
          obtain ⟨adB, rfl, hcb⟩ := HSL.out.cell hx
          have hT' : Hid (T + x = (xs.take (b + 1)).sum) := by show _ = _; rw [sum_take hx, HT.out]
          have hTk' : S + (T + x) ≤ keys := by
            have h1 := hT'.out
            have h2 := sum_take_le xs (b + 1)
            have h3 := HSM.out
            omega
          have hmem := List.mem_of_getElem? hx
          have hxk : x ≤ keys := by omega
          clear hx
          rcases Nat.eq_zero_or_pos a with rfl | hpos
          · obtain ⟨hlo, hhi⟩ := H.out.root xs HXS.out x hmem
            have hlo' : (x : Int) ≤ 2 * order - 1 := by omega
            rw [add_zero'] at hca
            have hsame := hc0.symm.trans hca
            injection hsame with hsame
            injection hsame with e1 e2 e3
            subst e1
            by_cases hk0 : keys = 0
            · have hk0i : (keys : Int) < 1 := by omega
              have hk0j : ¬ (1 : Int) ≤ keys := by omega
              have hmin : (keys : Int) ≤ x := by omega
              clear hmem hlo hhi hk0
              go_wp2
              go_round
              case rel => exact ⟨_, _, _, _, ⟨b + 1, by omega, by go_num, T + x, hT', by omega, by go_num, by go_num⟩, rfl, rfl, rfl, rfl⟩
              case measure => simp [intOf]; omega
            · have hk1i : (1 : Int) ≤ keys := by omega
              have hmin : (1 : Int) ≤ x := by omega
              clear hmem hlo hhi
              go_wp2
              go_round
              case rel => exact ⟨_, _, _, _, ⟨b + 1, by omega, by go_num, T + x, hT', by omega, by go_num, by go_num⟩, rfl, rfl, rfl, rfl⟩
              case measure => simp [intOf]; omega
          · obtain ⟨hlo, hhi⟩ := H.out.node a xs hpos HXS.out x hmem
            have hp0 : ¬ (a : Int) = 0 := by omega
            have hlo' : (order : Int) - 1 ≤ x := by omega
            have hhi' : (x : Int) ≤ 2 * order - 1 := by omega
            clear hmem hlo hhi
            go_wp2
            go_round
            case rel => exact ⟨_, _, _, _, ⟨b + 1, by omega, by go_num, T + x, hT', by omega, by go_num, by go_num⟩, rfl, rfl, rfl, rfl⟩
            case measure => simp [intOf]; omega
        · obtain rfl : b = xl := by omega
          have hTx : Hid (T = xs.sum) := by show _ = _; rw [HT.out, HXL.out, List.take_length]
          have HS' : Hid (S + T = ((s.take (a + 1)).map List.sum).sum) := by
            show _ = _
            rw [List.take_add_one, HXS.out, hTx.out, HSum.out]; simp
          by_cases hnext : a + 1 < len
          · have hni : (a : Int) + 1 < len := by omega
            obtain ⟨ys, hys⟩ : ∃ ys, s[a + 1]? = some ys := ⟨s[a + 1]'(by have := HLEN.out; omega), List.getElem?_eq_getElem _⟩
            obtain ⟨ad', B2, c2, hA, hcn, _⟩ := HV.out.at_ hys
            injection hA with hA
            subst hA
            have hyl : (ys.length : Int) = ((T + b : Nat) : Int) := by
              have := H.out.next a xs ys HXS.out hys
              rw [← hTx.out, ← HXL.out] at this
              omega
            rw [show (ys.length : Nat) = T + b by omega] at hcn
            rw [Addr.add_succ'] at hcn
            clear hys hyl
            go_wp2
            go_roundw
            case rel => exact ⟨a + 1, by omega, by go_num, S + T, by omega, by go_num, HS', by simp⟩
            case measure => simp [intOf]; omega
          · have hni : ¬ (a : Int) + 1 < len := by omega
            go_wp2
            go_roundw
            case rel => exact ⟨a + 1, by omega, by go_num, S + T, by omega, by go_num, HS', by simp⟩
            case measure => simp [intOf]; omega
    · obtain rfl : a = len := by omega
      have hSa : S = keys := by rw [HSum.out, HLEN.out, List.take_length]; exact H.out.all
      subst hSa
      by_cases hk0 : S = 0
      · have hl1 : a = 1 := by rw [HLEN.out]; exact H.out.none hk0
        have hl1i : (a : Int) = 1 := by omega
        have hk0i : (S : Int) = 0 := by omega
        clear hl1 hk0
        go_wp2
        go_ret
        exact ⟨rfl, Below.refl _ _⟩
      · have hk0i : (0 : Int) < S := by omega
        go_wp2
        go_ret
        exact ⟨rfl, Below.refl _ _⟩
end Go.Proofs.Ytpckaglefmpkcaa

namespace Go.Proofs.Ytpckaglefmpkcaa
open Go.RowKit

/-- A call of the law's. -/
structure Cl where
  k : Int
  key : List Nat
  val : List Nat
def cO (o : Cl) : List Value := [.int .i64 o.k, .string (str o.key), .string (str o.val)]
theorem cO_len (o : Cl) : (cO o).length = 3 := rfl
structure ClOk (o : Cl) : Prop where
  i1 : -9223372036854775808 ≤ o.k
  i2 : o.k ≤ 9223372036854775807
  key : Byt o.key
  val : Byt o.val
def fewB (l : List Cl) : Bool := decide ((∀ o ∈ l, o.key.length ≤ 300 ∧ o.val.length ≤ 300) ∧ l.length ≤ 200)
theorem fewB_no {l : List Cl} {k : Nat} {o : Cl} (ho : l[k]? = some o) (h : 300 < o.key.length ∨ 300 < o.val.length) : fewB l = false := by
  unfold fewB
  rw [decide_eq_false_iff_not]
  rintro ⟨h1, _⟩
  have := h1 o (List.mem_of_getElem? ho)
  omega
theorem fewB_end {l : List Cl} {len : Nat} (hl : len = l.length) (h : ∀ j o, j < len → l[j]? = some o → o.key.length ≤ 300 ∧ o.val.length ≤ 300) : fewB l = decide ((len : Int) ≤ 200) := by
  unfold fewB
  rw [decide_eq_decide]
  constructor
  · rintro ⟨_, h2⟩; omega
  · intro h2
    refine ⟨fun o ho => ?_, by omega⟩
    obtain ⟨j, hj⟩ := List.getElem?_of_mem ho
    exact h j o (by have := (List.getElem?_eq_some_iff.1 hj).1; omega) hj
theorem Elems.op {w : World} {A : Option Addr} {n cap i : Nat} {l : List Cl} {o : Cl} (h : Elems 3 cO w (.slice A n cap) l) (hi : l[i]? = some o) :
    ∃ ad, A = some ad ∧ w.cell? (ad.add (i * 3)) = some (.int .i64 o.k) ∧ w.cell? { block := (ad.add (i * 3)).block, off := (ad.add (i * 3)).off + 1, spot := none } = some (.string (str o.key)) ∧ w.cell? { block := (ad.add (i * 3)).block, off := (ad.add (i * 3)).off + 2, spot := none } = some (.string (str o.val)) := by
  obtain ⟨ad, rfl, h0⟩ := h.cell cO_len (j := 0) hi (u := .int .i64 o.k) rfl
  obtain ⟨ad1, e1, h1⟩ := h.cell cO_len (j := 1) hi (u := .string (str o.key)) rfl
  obtain ⟨ad2, e2, h2⟩ := h.cell cO_len (j := 2) hi (u := .string (str o.val)) rfl
  injection e1 with e1
  injection e2 with e2
  subst e1; subst e2
  rw [Nat.add_zero] at h0
  rw [← add_add', Addr.add_succ' _ 0] at h1
  rw [← add_add', Addr.add_succ' _ 1] at h2
  exact ⟨ad, rfl, h0, h1, h2⟩

theorem few_any (w : World) (v : Value) (l : List Cl) (hr : Elems 3 cO w v l) : Calls Try.prog 19 #[v] w fun e w' => e = .returned (.bool (fewB l)) ∧ w = w' := by
  obtain ⟨A, cap, rfl⟩ := hr.slice
  obtain ⟨len, HL⟩ : ∃ len, Hid (len = l.length) := ⟨_, rfl⟩
  have hcap := hr.cap
  have HR := hid hr
  have hm' : l.length ≤ 9223372036854775807 := by unfold maxLen at hcap; omega
  rw [← HL.out] at hm' HR ⊢
  clear hr hcap
  go_enter Try.func19, Try.ntmps19
  go_wp2
  go_loop [3] (fun i => ∃ k : Nat, k ≤ len ∧ i = .int .i64 k ∧ Hid (∀ j o, j < k → l[j]? = some o → o.key.length ≤ 300 ∧ o.val.length ≤ 300)) (fun i => len - (intOf i).toNat)
  case atStart => exact ⟨0, by omega, rfl, fun j o h => by omega⟩
  case round =>
    obtain ⟨k, hk, rfl, HO⟩ := hrel
    by_cases hlt : k < len
    · have hlti : (k : Int) < len := by omega
      obtain ⟨o, ho⟩ : ∃ b, l[k]? = some b := ⟨l[k]'(by have := HL.out; omega), List.getElem?_eq_getElem _⟩
      obtain ⟨ad, rfl, hc0, hc1, hc2⟩ := HR.out.op ho
      have HO' := hid ho
      have hs1 := str_size o.key
      have hs2 := str_size o.val
      clear ho
      by_cases h1 : 300 < o.key.length
      · have h1i : (300 : Int) < o.key.length := by omega
        go_wp2
        go_ret
        exact ⟨ret_bool (fewB_no HO'.out (.inl h1)).symm, rfl⟩
      · have h1i : (o.key.length : Int) ≤ 300 := by omega
        by_cases h2 : 300 < o.val.length
        · have h2i : (300 : Int) < o.val.length := by omega
          go_wp2
          go_ret
          exact ⟨ret_bool (fewB_no HO'.out (.inr h2)).symm, rfl⟩
        · have h2i : (o.val.length : Int) ≤ 300 := by omega
          have HN : Hid (∀ j o, j < k + 1 → l[j]? = some o → o.key.length ≤ 300 ∧ o.val.length ≤ 300) := fun j o' hj ho' => by
            rcases Nat.lt_or_ge j k with h | h
            · exact HO.out j o' h ho'
            · obtain rfl : j = k := by omega
              have := HO'.out
              rw [ho'] at this
              injection this with this
              subst this
              omega
          go_wp2
          go_round
          case rel => exact ⟨k + 1, by omega, by go_num, HN⟩
          case measure => simp [intOf]; omega
    · obtain rfl : k = len := by omega
      go_wp2
      go_ret
      exact ⟨ret_bool (fewB_end HL.out HO.out).symm, rfl⟩
end Go.Proofs.Ytpckaglefmpkcaa
