import Derived.Test.YtjhgebfabjbbjaaT16
namespace Go.Proofs.Ytjhgebfabjbbjaa
open Go.RowKit

/-- Something that is written. -/
structure O where
  k : Int
  n : Int
  t : ByteArray
/-- Where the things of a slice lie. -/
def OpAt (w : World) (b : Addr) (o : O) : Prop :=
  w.cell? b = some (.int .i64 o.k) ∧ w.cell? { block := b.block, off := b.off + 1, spot := none } = some (.int .i64 o.n) ∧ w.cell? { block := b.block, off := b.off + 2, spot := none } = some (.string o.t)
/-- The slice value reads as a list of things that are written. -/
def Ops (w : World) (v : Value) (l : List O) : Prop :=
  ∃ A c, v = .slice A l.length c ∧ l.length ≤ c ∧ c ≤ maxLen ∧ ∀ (i : Nat) (o : O), l[i]? = some o → ∃ ad, A = some ad ∧ OpAt w (ad.add (i * 3)) o
theorem OpAt.below {w w' : World} {b : Addr} {o : O} (h : OpAt w b o) (hb : Below w.heap.size w w') : OpAt w' b o :=
  ⟨below_keep hb _ _ h.1, below_keep hb _ _ h.2.1, below_keep hb _ _ h.2.2⟩
theorem Ops.below {w w' : World} {v : Value} {l : List O} (h : Ops w v l) (hb : Below w.heap.size w w') : Ops w' v l := by
  obtain ⟨A, c, hv, h1, h2, h3⟩ := h
  exact ⟨A, c, hv, h1, h2, fun i o hi => by
    obtain ⟨ad, ha, ho⟩ := h3 i o hi
    exact ⟨ad, ha, ho.below hb⟩⟩
/-- Few, and none too long. -/
def fewB (l : List O) : Bool := decide ((∀ o ∈ l, o.t.size ≤ 100) ∧ l.length ≤ 40)
theorem fewB_no {l : List O} {k : Nat} {o : O} (ho : l[k]? = some o) (h : 100 < o.t.size) : fewB l = false := by
  unfold fewB
  rw [decide_eq_false_iff_not]
  rintro ⟨h1, _⟩
  have := h1 o (List.mem_of_getElem? ho)
  omega
theorem fewB_end {l : List O} {len : Nat} (hl : len = l.length) (h : ∀ j o, j < len → l[j]? = some o → o.t.size ≤ 100) : fewB l = decide ((len : Int) ≤ 40) := by
  unfold fewB
  rw [decide_eq_decide]
  constructor
  · rintro ⟨_, h2⟩; omega
  · intro h2
    refine ⟨fun o ho => ?_, by omega⟩
    obtain ⟨j, hj⟩ := List.getElem?_of_mem ho
    exact h j o (by have := (List.getElem?_eq_some_iff.1 hj).1; omega) hj

theorem few_any (w : World) (v : Value) (l : List O) (hs : Ops w v l) :
    Calls Try.prog 9 #[v] w fun e w' => e = .returned (.bool (fewB l)) ∧ w = w' := by
  obtain ⟨A, cap, rfl, hlc, hm, hc⟩ := hs
  obtain ⟨len, HL⟩ : ∃ len, Hid (len = l.length) := ⟨_, rfl⟩
  rw [← HL.out] at hlc ⊢
  have HC := hid hc
  clear hc
  unfold maxLen at hm
  have hm' : len ≤ 9223372036854775807 := by omega
  go_enter Try.func9, Try.ntmps9
  go_wp2
  go_loop [3] (fun i => ∃ k : Nat, k ≤ len ∧ i = .int .i64 k ∧ Hid (∀ j o, j < k → l[j]? = some o → o.t.size ≤ 100)) (fun i => len - (intOf i).toNat)
  case atStart => exact ⟨0, by omega, rfl, fun j o h => by omega⟩
  case round =>
    obtain ⟨k, hk, rfl, HO⟩ := hrel
    by_cases hlt : k < len
    · obtain ⟨o, ho⟩ : ∃ b, l[k]? = some b := ⟨l[k]'(by have := HL.out; omega), List.getElem?_eq_getElem _⟩
      obtain ⟨ad, rfl, hc0, hc1, hc2⟩ := HC.out k o ho
      have HO' := hid ho
      clear ho
      by_cases hsz : 100 < o.t.size
      · go_wp2
        go_ret
        exact ⟨ret_bool (fewB_no HO'.out hsz).symm, rfl⟩
      · have HN : Hid (∀ j o, j < k + 1 → l[j]? = some o → o.t.size ≤ 100) := fun j o' hj ho' => by
          rcases Nat.lt_or_ge j k with h | h
          · exact HO.out j o' h ho'
          · obtain rfl : j = k := by omega
            have := HO'.out
            rw [ho'] at this
            injection this with this
            subst this
            omega
        go_wp2
        go_round
        case rel => exact ⟨k + 1, by omega, by go_num, HN⟩
        case measure => simp [intOf]; omega
    · obtain rfl : k = len := by omega
      go_wp2
      go_ret
      exact ⟨ret_bool (fewB_end HL.out HO.out).symm, rfl⟩
end Go.Proofs.Ytjhgebfabjbbjaa
