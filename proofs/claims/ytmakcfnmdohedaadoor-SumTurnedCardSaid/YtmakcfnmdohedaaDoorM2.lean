/- Plain mathematics: four bytes, one behind the other, that are turned. -/
import Derived.Test.YtmakcfnmdohedaaDoorT11
namespace Go.Proofs.YtmakcfnmdohedaaDoor
namespace Crc

/-- The bytes of which k, from a place on, are turned by those of a list. -/
def turnedAt (xs : List Nat) (at' : Nat) (ts : List Nat) (k : Nat) : List Nat := xs.take at' ++ (xors ((xs.drop at').take k) (ts.take k) ++ xs.drop (at' + k))
theorem turnedAt_zero (xs : List Nat) (a : Nat) (ts : List Nat) : turnedAt xs a ts 0 = xs := by simp [turnedAt, xors]
theorem turnedAt_len {xs : List Nat} {a : Nat} {ts : List Nat} {k : Nat} (h : a + k ≤ xs.length) (hk : k ≤ ts.length) : (turnedAt xs a ts k).length = xs.length := by
  unfold turnedAt xors; simp; omega
theorem xors_zeros : ∀ (xs : List Nat), xors xs (List.replicate xs.length 0) = xs
  | [] => rfl
  | x :: xs => by
    show (x ^^^ 0) :: xors xs (List.replicate xs.length 0) = _
    rw [xors_zeros xs, Nat.xor_zero]
theorem xors_append {a b c d : List Nat} (h : a.length = c.length) : xors (a ++ b) (c ++ d) = xors a c ++ xors b d := List.zipWith_append h
theorem turnedAt_mask {xs : List Nat} {a : Nat} {ts : List Nat} {k : Nat} (h : a + k ≤ xs.length) (hk : k ≤ ts.length) :
    turnedAt xs a ts k = xors xs (List.replicate a 0 ++ (ts.take k ++ List.replicate (xs.length - (a + k)) 0)) := by
  have e1 : xs = xs.take a ++ ((xs.drop a).take k ++ xs.drop (a + k)) := by
    rw [← List.drop_drop, List.take_append_drop, List.take_append_drop]
  conv => rhs; rw [e1]
  rw [xors_append (by simp; omega), xors_append (by simp; omega)]
  unfold turnedAt
  have e2 := xors_zeros (xs.take a)
  rw [List.length_take, Nat.min_eq_left (by omega)] at e2
  have e3 := xors_zeros (xs.drop (a + k))
  rw [List.length_drop] at e3
  have e4 : xs.length - (a + k) = (List.take a xs ++ (List.take k (List.drop a xs) ++ List.drop (a + k) xs)).length - (a + k) := by rw [← e1]
  rw [e2, ← e4, e3]

theorem run0_pad {l : List Nat} (n : Nat) (h : run 0 l = 0) : run 0 (l ++ List.replicate n 0) = 0 := by rw [run_append, h, run_zeros0]
theorem short_ne : ∀ {l : List Nat}, l.length ≤ 4 → Byt l → run 0 l = 0 → ∀ x ∈ l, x = 0 := by
  intro l hl hb h
  have hp := run0_pad (4 - l.length) h
  match l, hl, hb, hp with
  | [], _, _, _ => simp
  | [a], _, hb, hp =>
    have := four_ne (a := a) (b := 0) (c := 0) (d := 0) (hb a (by simp)) (by omega) (by omega) (by omega) hp
    simp; omega
  | [a, b], _, hb, hp =>
    have := four_ne (a := a) (b := b) (c := 0) (d := 0) (hb a (by simp)) (hb b (by simp)) (by omega) (by omega) hp
    simp; omega
  | [a, b, c], _, hb, hp =>
    have := four_ne (a := a) (b := b) (c := c) (d := 0) (hb a (by simp)) (hb b (by simp)) (hb c (by simp)) (by omega) hp
    simp; omega
  | [a, b, c, d], _, hb, hp =>
    have := four_ne (a := a) (b := b) (c := c) (d := d) (hb a (by simp)) (hb b (by simp)) (hb c (by simp)) (hb d (by simp)) hp
    simp; omega
  | _ :: _ :: _ :: _ :: _ :: _, hl, _, _ => simp at hl
theorem fin_inj {a b : Nat} (h : fin a = fin b) : a = b := by
  have := congrArg fin h
  rwa [fin_fin, fin_fin] at this
/-- P1.3: what is turned has another sum. -/
theorem turned_ne {xs : List Nat} {a : Nat} {ts : List Nat} {k : Nat} (h : a + k ≤ xs.length) (hk : k ≤ ts.length) (hk4 : k ≤ 4) (ht : Byt ts) (hx : ∃ x ∈ ts.take k, x ≠ 0) :
    sum 0 (turnedAt xs a ts k) ≠ sum 0 xs := by
  intro e
  unfold sum at e
  have e := fin_inj e
  rw [turnedAt_mask h hk] at e
  have r := run_xor xs (List.replicate a 0 ++ (ts.take k ++ List.replicate (xs.length - (a + k)) 0)) (fin 0) 0 (by simp; omega)
  rw [Nat.xor_zero, e] at r
  have z : run 0 (List.replicate a 0 ++ (ts.take k ++ List.replicate (xs.length - (a + k)) 0)) = 0 := by
    have := congrArg (run (fin 0) xs ^^^ ·) r
    simp only [← Nat.xor_assoc, Nat.xor_self, Nat.zero_xor] at this
    exact this.symm
  rw [run_append, run_zeros0, run_append] at z
  have hb : Byt (ts.take k) := fun x hx => ht x (List.mem_of_mem_take hx)
  have z0 := run_zeros_ne _ _ (run_lt (by omega) hb) z
  obtain ⟨x, hx1, hx2⟩ := hx
  exact hx2 (short_ne (by simp; omega) hb z0 x hx1)
theorem turnedAt_byt {xs : List Nat} {a : Nat} {ts : List Nat} {k : Nat} (hx : Byt xs) (ht : Byt ts) : Byt (turnedAt xs a ts k) := by
  intro b hb
  unfold turnedAt at hb
  rcases List.mem_append.1 hb with hb | hb
  · exact hx b (List.mem_of_mem_take hb)
  rcases List.mem_append.1 hb with hb | hb
  · unfold xors at hb
    obtain ⟨i, hi⟩ := List.getElem?_of_mem hb
    rw [List.getElem?_zipWith] at hi
    cases h1 : (List.take k (List.drop a xs))[i]? with
    | none => rw [h1] at hi; cases hi
    | some p =>
      cases h2 : (List.take k ts)[i]? with
      | none => rw [h1, h2] at hi; cases hi
      | some q =>
        rw [h1, h2] at hi
        simp at hi
        rw [← hi]
        exact xor_byte (hx p (List.mem_of_mem_drop (List.mem_of_mem_take (List.mem_of_getElem? h1)))) (ht q (List.mem_of_mem_take (List.mem_of_getElem? h2)))
  · exact hx b (List.mem_of_mem_drop hb)
/-- One more is turned. -/
theorem turnedAt_step {xs : List Nat} {a : Nat} {ts : List Nat} {k x t : Nat} (hx : xs[a + k]? = some x) (ht : ts[k]? = some t) :
    turnedAt xs a ts (k + 1) = (turnedAt xs a ts k).set (a + k) (x ^^^ t) := by
  have h1 := (List.getElem?_eq_some_iff.1 hx).1
  have h2 := (List.getElem?_eq_some_iff.1 ht).1
  apply List.ext_getElem?
  intro i
  rw [List.getElem?_set]
  have hl : (turnedAt xs a ts k).length = xs.length := turnedAt_len (by omega) (by omega)
  have hl1 : (xors ((xs.drop a).take k) (ts.take k)).length = k := by unfold xors; simp; omega
  have hl2 : (xors ((xs.drop a).take (k + 1)) (ts.take (k + 1))).length = k + 1 := by unfold xors; simp; omega
  have hl0 : (xs.take a).length = a := by simp; omega
  have hs : xors ((xs.drop a).take (k + 1)) (ts.take (k + 1)) = xors ((xs.drop a).take k) (ts.take k) ++ [x ^^^ t] :=
    xors_snoc (by rw [List.getElem?_drop]; exact hx) ht
  unfold turnedAt
  rw [hs]
  by_cases hi : a + k = i
  · subst hi
    have hl : (turnedAt xs a ts k).length = xs.length := hl
    unfold turnedAt at hl
    rw [if_pos rfl, if_pos (by omega), List.getElem?_append_right (by omega), List.append_assoc, List.getElem?_append_right (by omega)]
    rw [show a + k - (List.take a xs).length - (xors (List.take k (List.drop a xs)) (List.take k ts)).length = 0 by omega]
    rfl
  · rw [if_neg hi]
    simp only [List.getElem?_append, List.length_append, hl0, hl1, List.length_cons, List.length_nil]
    by_cases hia : i < a
    · rw [if_pos hia, if_pos hia]
    · rw [if_neg hia, if_neg hia]
      by_cases hik : i < a + k
      · rw [if_pos (by omega), if_pos (by omega), if_pos (by omega)]
      · rw [if_neg (by omega), if_neg (by omega)]
        simp only [List.getElem?_drop]
        congr 1; omega
end Crc
end Go.Proofs.YtmakcfnmdohedaaDoor
