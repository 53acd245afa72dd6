import Derived.Test.YtlnagdodnkhbmaaGreatRows
import Derived.Test.YtlnagdodnkhbmaaGreatMA
import Derived.Laws.Cover1
import Derived.Deep.QuietTactic
import Derived.BigQuiet
import Derived.Deep.RegionHeld
import Derived.OwnWalk

namespace Go.Proofs.YtlnagdodnkhbmaaGreat
open Go.RowKit

/-- A key and its value. -/
abbrev Pr := List Nat × List Nat
def cP (p : Pr) : List Value := [.string (str p.1), .string (str p.2)]
theorem cP_len (p : Pr) : (cP p).length = 2 := rfl
theorem cP_one (p : Pr) : ∀ y ∈ cP p, y.oneCell' = true := by
  intro y hy
  simp [cP] at hy
  rcases hy with rfl | rfl <;> rfl
/-- Bytes alone. -/
def PByt (l : List Pr) : Prop := ∀ p ∈ l, Byt p.1 ∧ Byt p.2

/-- The place of the first key that is a key, or behind it. -/
def atN : List Pr → List Nat → Nat
  | [], _ => 0
  | p :: l, k => if p.1 < k then atN l k + 1 else 0
theorem atN_le : ∀ (l : List Pr) (k : List Nat), atN l k ≤ l.length
  | [], _ => Nat.le_refl _
  | p :: l, k => by
    unfold atN
    split
    · have := atN_le l k; simp; omega
    · exact Nat.zero_le _
/-- All ahead of it are ahead, and it is not. -/
theorem atN_of : ∀ (l : List Pr) (k : List Nat) (n : Nat), n ≤ l.length → (∀ (j : Nat) (p : Pr), j < n → l[j]? = some p → p.1 < k) → (∀ p : Pr, l[n]? = some p → ¬ p.1 < k) → atN l k = n
  | [], k, n, hn, _, _ => by simp at hn; simp [atN, hn]
  | p :: l, k, 0, _, _, h2 => by
    unfold atN
    rw [if_neg (h2 p rfl)]
  | p :: l, k, n + 1, hn, h1, h2 => by
    unfold atN
    rw [if_pos (h1 0 p (by omega) rfl), atN_of l k n (by simpa using hn) (fun j q hj hq => h1 (j + 1) q (by omega) hq) (fun q hq => h2 q hq)]

/-- The value that a key has. -/
def getL (l : List Pr) (k : List Nat) : Option (List Nat) := (l[atN l k]?).bind fun q => if q.1 = k then some q.2 else none
theorem getL_some {l : List Pr} {k v : List Nat} (h : getL l k = some v) : l[atN l k]? = some (k, v) := by
  unfold getL at h
  cases hq : l[atN l k]? with
  | none => rw [hq] at h; cases h
  | some q =>
    rw [hq] at h
    simp only [Option.bind_some] at h
    split at h
    · rename_i he
      injection h with h
      rw [← he, ← h]
    · cases h
theorem getL_none {l : List Pr} {k : List Nat} (h : getL l k = none) : ∀ q : Pr, l[atN l k]? = some q → q.1 ≠ k := by
  intro q hq he
  unfold getL at h
  rw [hq] at h
  simp [he] at h
def key64 (k : List Nat) : Bool := decide (1 ≤ k.length ∧ k.length ≤ 64)
def checkR (k : List Nat) : Int := if key64 k = true then 0 else 13
end Go.Proofs.YtlnagdodnkhbmaaGreat

namespace Go.Proofs.YtlnagdodnkhbmaaGreat
open Go.RowKit

/-- How Get answers. -/
def getV (l : List Pr) (k : List Nat) : List Nat := if key64 k = true then (getL l k).getD [] else []
def getE (l : List Pr) (k : List Nat) : Int := if key64 k = true then (if (getL l k).isSome = true then 0 else 14) else 13
end Go.Proofs.YtlnagdodnkhbmaaGreat

namespace Go.Proofs.YtlnagdodnkhbmaaGreat
open Go.RowKit
set_option maxRecDepth 100000

/-- What Put leaves. -/
def putL (l : List Pr) (k v : List Nat) : List Pr := l.take (atN l k) ++ [(k, v)] ++ l.drop (if (getL l k).isSome = true then atN l k + 1 else atN l k)
def delL (l : List Pr) (k : List Nat) : List Pr := l.take (atN l k) ++ l.drop (atN l k + 1)
def oldL (l : List Pr) (k : List Nat) : List Nat := (getL l k).getD []
end Go.Proofs.YtlnagdodnkhbmaaGreat

namespace Go.Proofs.YtlnagdodnkhbmaaGreat
open Go.RowKit
set_option maxRecDepth 100000

end Go.Proofs.YtlnagdodnkhbmaaGreat

namespace Go.Proofs.YtlnagdodnkhbmaaGreat
open Go.RowKit

/-- A slice of slices of numbers. -/
def Shp (w : World) (v : Value) (s : List (List Nat)) : Prop :=
  ∃ vs : List Value, vs.length = s.length ∧ Row 1 w v s.length vs ∧ ∀ (i : Nat) (x : Value) (xs : List Nat), vs[i]? = some x → s[i]? = some xs → Sl .i64 w x xs
theorem Shp.at_ {w : World} {A : Option Addr} {n cap i : Nat} {s : List (List Nat)} {xs : List Nat} (h : Shp w (.slice A n cap) s) (hi : s[i]? = some xs) :
    ∃ ad B c, A = some ad ∧ w.cell? (ad.add i) = some (.slice B xs.length c) ∧ Sl .i64 w (.slice B xs.length c) xs := by
  obtain ⟨vs, hl, hr, hx⟩ := h
  have hlt := (List.getElem?_eq_some_iff.1 hi).1
  have hv : vs[i]? = some (vs[i]'(by omega)) := List.getElem?_eq_getElem _
  have hsl := hx i _ xs hv hi
  obtain ⟨B, c, he, _⟩ := hsl
  have hsl := hx i _ xs hv hi
  rw [he] at hsl
  rw [he] at hv
  obtain ⟨ad, hA, hc⟩ := hr.cell hv
  exact ⟨ad, B, c, hA, hc, hsl⟩
theorem Shp.below {w w' : World} {v : Value} {s : List (List Nat)} (h : Shp w v s) (hb : Below w.heap.size w w') : Shp w' v s := by
  obtain ⟨vs, h1, h2, h3⟩ := h
  exact ⟨vs, h1, h2.below hb, fun i x xs hx hs => (h3 i x xs hx hs).below hb⟩
/-- The levels of a tree of an order that has so many keys. -/
structure ShapeOk (s : List (List Nat)) (order keys : Nat) : Prop where
  one : ∃ n, s[0]? = some [n]
  root : ∀ xs, s[0]? = some xs → ∀ n ∈ xs, min 1 keys ≤ n ∧ n ≤ 2 * order - 1
  node : ∀ i xs, 0 < i → s[i]? = some xs → ∀ n ∈ xs, order - 1 ≤ n ∧ n ≤ 2 * order - 1
  next : ∀ i xs ys, s[i]? = some xs → s[i + 1]? = some ys → ys.length = xs.sum + xs.length
  all : (s.map List.sum).sum = keys
  none : keys = 0 → s.length = 1
theorem sum_take {xs : List Nat} {k x : Nat} (h : xs[k]? = some x) : (xs.take (k + 1)).sum = (xs.take k).sum + x := by
  rw [List.take_add_one, h]; simp
theorem sum_take_le (xs : List Nat) (k : Nat) : (xs.take k).sum ≤ xs.sum := by
  conv => rhs; rw [← List.take_append_drop k xs, List.sum_append]
  omega

end Go.Proofs.YtlnagdodnkhbmaaGreat

namespace Go.Proofs.YtlnagdodnkhbmaaGreat
open Go.RowKit

/-- A call of the law's. -/
structure Cl where
  k : Int
  key : List Nat
  val : List Nat
def cO (o : Cl) : List Value := [.int .i64 o.k, .string (str o.key), .string (str o.val)]
theorem cO_len (o : Cl) : (cO o).length = 3 := rfl
structure ClOk (o : Cl) : Prop where
  i1 : -9223372036854775808 ≤ o.k
  i2 : o.k ≤ 9223372036854775807
  key : Byt o.key
  val : Byt o.val
def fewB (l : List Cl) : Bool := decide ((∀ o ∈ l, o.key.length ≤ 300 ∧ o.val.length ≤ 300) ∧ l.length ≤ 200)
theorem fewB_no {l : List Cl} {k : Nat} {o : Cl} (ho : l[k]? = some o) (h : 300 < o.key.length ∨ 300 < o.val.length) : fewB l = false := by
  unfold fewB
  rw [decide_eq_false_iff_not]
  rintro ⟨h1, _⟩
  have := h1 o (List.mem_of_getElem? ho)
  omega
theorem fewB_end {l : List Cl} {len : Nat} (hl : len = l.length) (h : ∀ j o, j < len → l[j]? = some o → o.key.length ≤ 300 ∧ o.val.length ≤ 300) : fewB l = decide ((len : Int) ≤ 200) := by
  unfold fewB
  rw [decide_eq_decide]
  constructor
  · rintro ⟨_, h2⟩; omega
  · intro h2
    refine ⟨fun o ho => ?_, by omega⟩
    obtain ⟨j, hj⟩ := List.getElem?_of_mem ho
    exact h j o (by have := (List.getElem?_eq_some_iff.1 hj).1; omega) hj
theorem Elems.op {w : World} {A : Option Addr} {n cap i : Nat} {l : List Cl} {o : Cl} (h : Elems 3 cO w (.slice A n cap) l) (hi : l[i]? = some o) :
    ∃ ad, A = some ad ∧ w.cell? (ad.add (i * 3)) = some (.int .i64 o.k) ∧ w.cell? { block := (ad.add (i * 3)).block, off := (ad.add (i * 3)).off + 1, spot := none } = some (.string (str o.key)) ∧ w.cell? { block := (ad.add (i * 3)).block, off := (ad.add (i * 3)).off + 2, spot := none } = some (.string (str o.val)) := by
  obtain ⟨ad, rfl, h0⟩ := h.cell cO_len (j := 0) hi (u := .int .i64 o.k) rfl
  obtain ⟨ad1, e1, h1⟩ := h.cell cO_len (j := 1) hi (u := .string (str o.key)) rfl
  obtain ⟨ad2, e2, h2⟩ := h.cell cO_len (j := 2) hi (u := .string (str o.val)) rfl
  injection e1 with e1
  injection e2 with e2
  subst e1; subst e2
  rw [Nat.add_zero] at h0
  rw [← add_add', Addr.add_succ' _ 0] at h1
  rw [← add_add', Addr.add_succ' _ 1] at h2
  exact ⟨ad, rfl, h0, h1, h2⟩

end Go.Proofs.YtlnagdodnkhbmaaGreat

