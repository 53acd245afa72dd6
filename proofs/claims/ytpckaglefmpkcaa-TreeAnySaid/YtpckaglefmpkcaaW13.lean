/- TreeAny: keys in any order; what is there behind puts; the ways that end early. -/
import Derived.Test.YtpckaglefmpkcaaW10
import Derived.Test.YtpckaglefmpkcaaW8
import Derived.Test.YtpckaglefmpkcaaF1
namespace Go.Proofs.Ytpckaglefmpkcaa
open Go.RowKit Go.Shelf
set_option maxRecDepth 100000

theorem rising_ext : ∀ {A B : List Pr}, Rising A → Rising B → (∀ q, q ∈ A ↔ q ∈ B) → A = B
  | [], [], _, _, _ => rfl
  | [], b :: B, _, _, h => by have := (h b).2 List.mem_cons_self; cases this
  | a :: A, [], _, _, h => by have := (h a).1 List.mem_cons_self; cases this
  | a :: A, b :: B, hA, hB, h => by
    unfold Rising at hA hB
    rw [List.pairwise_cons] at hA hB
    have e : a = b := by
      rcases List.mem_cons.1 ((h a).1 List.mem_cons_self) with e | h1
      · exact e
      rcases List.mem_cons.1 ((h b).2 List.mem_cons_self) with e | h2
      · exact e.symm
      exact absurd (List.lt_trans (hB.1 a h1) (hA.1 b h2)) (List.lt_irrefl _)
    subst e
    congr 1
    refine rising_ext hA.2 hB.2 fun q => ⟨fun hq => ?_, fun hq => ?_⟩
    · rcases List.mem_cons.1 ((h q).1 (List.mem_cons_of_mem _ hq)) with e | h1
      · subst e; exact absurd (hA.1 _ hq) (List.lt_irrefl _)
      · exact h1
    · rcases List.mem_cons.1 ((h q).2 (List.mem_cons_of_mem _ hq)) with e | h1
      · subst e; exact absurd (hB.1 _ hq) (List.lt_irrefl _)
      · exact h1
theorem getL_free {l : List Pr} {k : List Nat} (h : ∀ q ∈ l, q.1 ≠ k) : getL l k = none := by
  cases hg : getL l k with
  | none => rfl
  | some v => exact absurd rfl (h _ (List.mem_of_getElem? (getL_some hg)))
/-- The value that is put. -/
def vV : List Nat := [118]
theorem vV_str : (⟨#[118]⟩ : ByteArray) = str vV := by apply ba_ext; rw [str_list]; rfl
theorem vV_byt : Byt vV := by intro b hb; simp [vV] at hb; omega
def keyOk (x : List Nat) : Prop := 1 ≤ x.length ∧ x.length ≤ 64
theorem putE_ok {x : List Nat} (h : keyOk x) : putE x vV = 0 := by
  unfold putE
  rw [if_pos (by unfold key64; exact decide_eq_true h), if_pos (by decide)]
/-- These keys are there, each with that value, and no others. -/
def Have (l : List Pr) (ks : List (List Nat)) : Prop := l.length = ks.length ∧ ∀ q : Pr, q ∈ l ↔ q.1 ∈ ks ∧ q.2 = vV
theorem Have.nil : Have [] [] := ⟨rfl, by simp⟩
theorem Have.put {l : List Pr} {ks : List (List Nat)} {k : List Nat} (h : Have l ks) (hr : Rising l) (hk : keyOk k) (hn : k ∉ ks) : Have (putN l k vV) (ks ++ [k]) ∧ putW l k vV = false := by
  have hg : getL l k = none := getL_free fun q hq e => hn (by rw [← e]; exact ((h.2 q).1 hq).1)
  have he := putE_ok hk
  obtain ⟨X, Z, _, _, hp, _, hnone⟩ := putL_parts hr k vV
  have hl := hnone hg
  refine ⟨?_, by unfold putW; rw [if_pos he, hg]; rfl⟩
  unfold putN
  rw [if_pos he, hp]
  have hlen := h.1
  refine ⟨by rw [hl] at hlen; simp at hlen ⊢; omega, fun q => ?_⟩
  have hq := h.2 q
  rw [hl, List.mem_append] at hq
  rw [List.mem_append, List.mem_cons, List.mem_append, List.mem_singleton]
  constructor
  · rintro (h1 | rfl | h1)
    · exact ⟨.inl (hq.1 (.inl h1)).1, (hq.1 (.inl h1)).2⟩
    · exact ⟨.inr rfl, rfl⟩
    · exact ⟨.inl (hq.1 (.inr h1)).1, (hq.1 (.inr h1)).2⟩
  · rintro ⟨h1 | h1, h2⟩
    · rcases hq.2 ⟨h1, h2⟩ with h | h
      · exact .inl h
      · exact .inr (.inr h)
    · exact .inr (.inl (by cases q; simp at h1 h2; rw [h1, h2]))
theorem Have.same {A B : List Pr} {ks js : List (List Nat)} (hA : Have A ks) (hB : Have B js) (rA : Rising A) (rB : Rising B) (h : ∀ x, x ∈ ks ↔ x ∈ js) : A = B :=
  rising_ext rA rB fun q => by rw [hA.2, hB.2, h]
/-- The keys, going round. -/
def rot (l : List (List Nat)) (r : Nat) : List (List Nat) := l.drop r ++ l.take r
theorem rot_mem (l : List (List Nat)) (r : Nat) (x : List Nat) : x ∈ rot l r ↔ x ∈ l := by
  unfold rot
  rw [List.mem_append, or_comm, ← List.mem_append, List.take_append_drop]
theorem rot_nodup {l : List (List Nat)} (h : l.Nodup) (r : Nat) : (rot l r).Nodup := by
  unfold rot
  have : (l.take r ++ l.drop r).Nodup := by rw [List.take_append_drop]; exact h
  exact (List.perm_append_comm.nodup_iff).1 this
theorem rot_len {l : List (List Nat)} {r : Nat} (h : r ≤ l.length) : (rot l r).length = l.length := by
  unfold rot; rw [List.length_append, List.length_drop, List.length_take]; omega
theorem rot_at {l : List (List Nat)} {r i : Nat} (hr : r < l.length) (hi : i < l.length) : (rot l r)[i]? = l[(r + i) % l.length]? := by
  unfold rot
  by_cases h : i < l.length - r
  · rw [List.getElem?_append_left (by rw [List.length_drop]; exact h), List.getElem?_drop, Nat.mod_eq_of_lt (by omega)]
  · rw [List.getElem?_append_right (by rw [List.length_drop]; omega), List.length_drop, List.getElem?_take, if_pos (by omega)]
    congr 1
    rw [Nat.mod_eq_sub_mod (by omega), Nat.mod_eq_of_lt (by omega)]
    omega
theorem nodup_take {ks : List (List Nat)} (h : ks.Nodup) {i : Nat} {x : List Nat} (hx : ks[i]? = some x) : x ∉ ks.take i ∧ ks.take i ++ [x] = ks.take (i + 1) := by
  have hi := (List.getElem?_eq_some_iff.1 hx).1
  have e : ks.take i ++ [x] = ks.take (i + 1) := by rw [List.take_add_one, hx]; rfl
  refine ⟨fun hm => ?_, e⟩
  have h1 : (ks.take (i + 1)).Nodup := h.sublist (List.take_sublist _ _)
  rw [← e, List.nodup_append] at h1
  exact h1.2.2 x hm x (by simp) rfl
def Good (l : List (List Nat)) : Prop := (∀ x ∈ l, keyOk x) ∧ l.Nodup
theorem good_step {l : List (List Nat)} {k : Nat} {x : List Nat} (h : Good (l.take k)) (hx : l[k]? = some x) (h1 : keyOk x) (h2 : x ∉ l.take k) : Good (l.take (k + 1)) := by
  rw [List.take_add_one, hx]
  refine ⟨fun y hy => ?_, ?_⟩
  · rcases List.mem_append.1 hy with hy | hy
    · exact h.1 y hy
    · simp at hy; subst hy; exact h1
  · rw [List.nodup_append]
    refine ⟨h.2, by simp, fun a ha b hb => ?_⟩
    simp at hb
    subst hb
    exact fun e => h2 (e ▸ ha)
theorem first_bad (l : List (List Nat)) : ∀ k, k ≤ l.length → Good (l.take k) ∨ ∃ i x, i < k ∧ l[i]? = some x ∧ Good (l.take i) ∧ (¬ keyOk x ∨ keyOk x ∧ x ∈ l.take i)
  | 0, _ => .inl ⟨by simp, by simp⟩
  | k + 1, h => by
    rcases first_bad l k (by omega) with hg | ⟨i, x, h1, h2⟩
    · have hx : l[k]? = some l[k] := List.getElem?_eq_getElem (by omega)
      by_cases hk : keyOk l[k]
      · by_cases hm : l[k] ∈ l.take k
        · exact .inr ⟨k, _, by omega, hx, hg, .inr ⟨hk, hm⟩⟩
        · exact .inl (good_step hg hx hk hm)
      · exact .inr ⟨k, _, by omega, hx, hg, .inl hk⟩
    · exact .inr ⟨i, x, by omega, h2⟩
theorem good_at {l : List (List Nat)} {k : Nat} (h : Good (l.take k)) {i j : Nat} {x y : List Nat} (hi : i < k) (hx : l[i]? = some x) (hj : j < i) (hy : l[j]? = some y) : keyOk x ∧ y ≠ x := by
  have hx' : (l.take k)[i]? = some x := by rw [List.getElem?_take, if_pos hi]; exact hx
  have hy' : (l.take k)[j]? = some y := by rw [List.getElem?_take, if_pos (by omega)]; exact hy
  refine ⟨h.1 x (List.mem_of_getElem? hx'), fun e => ?_⟩
  subst e
  have hjl := (List.getElem?_eq_some_iff.1 hy').1
  exact (nodup_take h.2 hx').1 (List.mem_of_getElem? (i := j) (by rw [List.getElem?_take, if_pos hj]; exact hy'))
theorem good_key {l : List (List Nat)} {k : Nat} (h : Good (l.take k)) {i : Nat} {x : List Nat} (hi : i < k) (hx : l[i]? = some x) : keyOk x :=
  h.1 x (List.mem_of_getElem? (i := i) (by rw [List.getElem?_take, if_pos hi]; exact hx))
end Go.Proofs.Ytpckaglefmpkcaa
