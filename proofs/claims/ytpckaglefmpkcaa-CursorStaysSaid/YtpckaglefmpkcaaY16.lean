/- CursorStays: what is told, by the calls that are done meanwhile. Plain mathematics. -/
import Derived.Test.YtpckaglefmpkcaaY13
namespace Go.Proofs.Ytpckaglefmpkcaa
open Go.RowKit Go.Shelf
set_option maxRecDepth 100000

theorem le_next {p q : List Nat} (h : p < q ++ [0]) (h2 : p ≠ q) : p < q := by
  rcases Classical.em (p < q) with h1 | h1
  · exact h1
  · exact (next_lt q p (lt_of_not h1 h2) h).elim
/-- Was a key deleted by one of these calls? -/
def touchB (x : List Nat) (l : List Cl) : Bool := l.any fun o => decide (o.key = x) && decide (o.k = 1)
theorem touch_snoc (x : List Nat) (l : List Cl) (o : Cl) : touchB x (l ++ [o]) = (touchB x l || (decide (o.key = x) && decide (o.k = 1))) := by
  unfold touchB; rw [List.any_append]; simp
theorem touch_take_succ {x : List Nat} {l : List Cl} {k : Nat} {o : Cl} (h : l[k]? = some o) : touchB x (l.take (k + 1)) = (touchB x (l.take k) || (decide (o.key = x) && decide (o.k = 1))) := by
  rw [List.take_add_one, h]; exact touch_snoc _ _ _
/-- Is a key there? -/
def inL (L : List Pr) (x : List Nat) : Prop := ∃ v, (x, v) ∈ L
theorem inL_put {L : List Pr} (hr : Rising L) {x : List Nat} (h : inL L x) (k v : List Nat) : inL (putN L k v) x := by
  unfold putN
  split
  · obtain ⟨u, hu⟩ := h
    obtain ⟨X, Z, _, _, hp, hsome, hnone⟩ := putL_parts hr k v
    rw [hp]
    cases hg : getL L k with
    | some old =>
      rw [hsome old hg] at hu
      rcases List.mem_append.1 hu with hu | hu
      · exact ⟨u, List.mem_append_left _ hu⟩
      · rcases List.mem_cons.1 hu with e | hu
        · injection e with e1 e2; subst e1; exact ⟨v, List.mem_append_right _ List.mem_cons_self⟩
        · exact ⟨u, List.mem_append_right _ (List.mem_cons_of_mem _ hu)⟩
    | none =>
      rw [hnone hg] at hu
      rcases List.mem_append.1 hu with hu | hu
      · exact ⟨u, List.mem_append_left _ hu⟩
      · exact ⟨u, List.mem_append_right _ (List.mem_cons_of_mem _ hu)⟩
  · exact h
theorem inL_del {L : List Pr} (hr : Rising L) {x : List Nat} (h : inL L x) {k : List Nat} (hk : k ≠ x) : inL (delN L k) x := by
  unfold delN
  split
  · obtain ⟨u, hu⟩ := h
    obtain ⟨i, hi⟩ := List.mem_iff_getElem?.1 hu
    unfold delL
    by_cases h1 : i < atN L k
    · exact ⟨u, List.mem_append_left _ (List.mem_of_getElem? (i := i) (by rw [List.getElem?_take, if_pos h1]; exact hi))⟩
    · by_cases h2 : i = atN L k
      · rename_i hg
        exfalso
        subst h2
        unfold getE at hg
        have hnl := (atN_iff (k := k) hr hi)
        have : getL L k = none := by
          unfold getL
          rw [hi]
          simp only [Option.bind_some]
          rw [if_neg (fun e => hk e.symm)]
        rw [this] at hg
        simp at hg
        split at hg <;> simp at hg
      · exact ⟨u, List.mem_append_right _ (List.mem_of_getElem? (i := i - (atN L k + 1)) (by rw [List.getElem?_drop, show atN L k + 1 + (i - (atN L k + 1)) = i by omega]; exact hi))⟩
  · exact h
theorem inL_step {L : List Pr} (hr : Rising L) {x : List Nat} (h : inL L x) {o : Cl} (ho : ¬ (o.key = x ∧ o.k = 1)) : inL (stepL L o) x := by
  unfold stepL
  split
  · exact inL_put hr h _ _
  · split
    · rename_i h1
      exact inL_del hr h fun e => ho ⟨e, h1⟩
    · exact h
/-- The next pair: it is there, it is not ahead of the cursor's place, and what is ahead of it is ahead of that. -/
theorem nxt_some {L : List Pr} (hr : Rising L) {hi at_ : List Nat} {q : Pr} (h : nxt L hi at_ = some q) :
    q ∈ L ∧ ¬ q.1 < at_ ∧ (hi = [] ∨ q.1 < hi) ∧ ∀ p ∈ L, p.1 < q.1 → p.1 < at_ := by
  unfold nxt at h
  cases hx : L[atN L at_]? with
  | none => rw [hx] at h; cases h
  | some y =>
    rw [hx] at h
    simp only [Option.bind_some] at h
    split at h
    · rename_i hh
      injection h with h
      subst h
      refine ⟨List.mem_of_getElem? hx, fun hlt => by have := (atN_iff hr hx).1 hlt; omega, hh, fun p hp hlt => ?_⟩
      obtain ⟨i, hi⟩ := List.mem_iff_getElem?.1 hp
      refine (atN_iff hr hi).2 ?_
      rcases Nat.lt_or_ge i (atN L at_) with h1 | h1
      · exact h1
      · exfalso
        rcases Nat.lt_or_ge (atN L at_) i with h2 | h2
        · unfold Rising at hr
          rw [List.pairwise_iff_getElem] at hr
          obtain ⟨hl1, e1⟩ := List.getElem?_eq_some_iff.1 hx
          obtain ⟨hl2, e2⟩ := List.getElem?_eq_some_iff.1 hi
          have := hr _ _ hl1 hl2 h2
          rw [e1, e2] at this
          exact List.lt_irrefl _ (List.lt_trans this hlt)
        · have e : i = atN L at_ := by omega
          subst e
          rw [hx] at hi
          injection hi with hi
          subst hi
          exact List.lt_irrefl _ hlt
    · cases h
theorem nxt_none {L : List Pr} (hr : Rising L) {hi at_ : List Nat} (h : nxt L hi at_ = none) : ∀ p ∈ L, (hi = [] ∨ p.1 < hi) → p.1 < at_ := by
  intro p hp hh
  obtain ⟨i, hi_⟩ := List.mem_iff_getElem?.1 hp
  refine (atN_iff hr hi_).2 ?_
  unfold nxt at h
  cases hx : L[atN L at_]? with
  | none =>
    have h1 := List.getElem?_eq_none_iff.1 hx
    have h2 := (List.getElem?_eq_some_iff.1 hi_).1
    omega
  | some y =>
    rw [hx] at h
    simp only [Option.bind_some] at h
    split at h
    · cases h
    · rename_i hn
      rcases Nat.lt_or_ge i (atN L at_) with h1 | h1
      · exact h1
      · exfalso
        apply hn
        rcases hh with hh | hh
        · exact .inl hh
        · right
          rcases Nat.lt_or_ge (atN L at_) i with h2 | h2
          · unfold Rising at hr
            rw [List.pairwise_iff_getElem] at hr
            obtain ⟨hl1, e1⟩ := List.getElem?_eq_some_iff.1 hx
            obtain ⟨hl2, e2⟩ := List.getElem?_eq_some_iff.1 hi_
            have := hr _ _ hl1 hl2 h2
            rw [e1, e2] at this
            exact List.lt_trans this hh
          · have e : i = atN L at_ := by omega
            subst e
            rw [hx] at hi_
            injection hi_ with hi_
            subst hi_
            exact hh
/-- What holds of what is told, behind some calls. -/
structure Tells (was : List Pr) (V : List Nat) (L : List Pr) (at_ : List Nat) (T : List (List Nat)) (ds : List Cl) : Prop where
  there : ∀ q ∈ was, touchB q.1 ds = false → inL L q.1
  told : ∀ q ∈ was, touchB q.1 ds = false → q.1 < at_ → q.1 ∈ T
  ahead : ∀ x ∈ T, x < at_
  range : ∀ q ∈ was, V = [] ∨ q.1 < V
section
variable {was L : List Pr} {V at_ : List Nat} {T : List (List Nat)} {ds : List Cl}
theorem Tells.does (h : Tells was V L at_ T ds) (hr : Rising L) (o : Cl) : Tells was V (stepL L o) at_ T (ds ++ [o]) := by
  have hsplit : ∀ x, touchB x (ds ++ [o]) = false → touchB x ds = false ∧ ¬ (o.key = x ∧ o.k = 1) := fun x hx => by
    rw [touch_snoc, Bool.or_eq_false_iff] at hx
    refine ⟨hx.1, fun he => ?_⟩
    have h2 := hx.2
    rw [decide_eq_true he.1, decide_eq_true he.2] at h2
    cases h2
  exact ⟨fun q hq hx => inL_step hr (h.there q hq (hsplit _ hx).1) (hsplit _ hx).2, fun q hq hx => h.told q hq (hsplit _ hx).1, h.ahead, h.range⟩
theorem Tells.next {q : Pr} (h : Tells was V L at_ T ds) (hr : Rising L) (hn : nxt L V at_ = some q) : Tells was V L (q.1 ++ [0]) (T ++ [q.1]) ds ∧ ∀ x ∈ T, x < q.1 := by
  obtain ⟨h1, h2, h3, h4⟩ := nxt_some hr hn
  have hTq : ∀ x ∈ T, x < q.1 := fun x hx => by
    by_cases e : q.1 = at_
    · rw [e]; exact h.ahead x hx
    · exact List.lt_trans (h.ahead x hx) (lt_of_not h2 e)
  refine ⟨⟨h.there, fun p hp hx hlt => ?_, fun x hx => ?_, h.range⟩, hTq⟩
  · by_cases e : p.1 = q.1
    · rw [e]; exact List.mem_append_right _ (by simp)
    · have hpq : p.1 < q.1 := le_next hlt e
      obtain ⟨u, hu⟩ := h.there p hp hx
      exact List.mem_append_left _ (h.told p hp hx (h4 (p.1, u) hu hpq))
  · rcases List.mem_append.1 hx with hx | hx
    · exact List.lt_trans (hTq x hx) (lt_next q.1)
    · simp at hx; subst hx; exact lt_next _
/-- At the end: what was there and is not deleted is told. -/
theorem Tells.end_ (h : Tells was V L at_ T ds) (hr : Rising L) (hn : nxt L V at_ = none) : ∀ q ∈ was, touchB q.1 ds = true ∨ q.1 ∈ T := fun q hq => by
  cases hx : touchB q.1 ds with
  | true => exact .inl rfl
  | false =>
    obtain ⟨u, hu⟩ := h.there q hq hx
    exact .inr (h.told q hq hx (nxt_none hr hn (q.1, u) hu (h.range q hq)))
theorem Tells.start {K : List Nat} (hr : Rising L) : Tells (L.filter (inQ K V)) V L K [] [] := by
  refine ⟨fun q hq _ => ⟨q.2, (List.mem_filter.1 hq).1⟩, fun q hq _ hlt => ?_, by simp, fun q hq => ?_⟩
  · have := (List.mem_filter.1 hq).2
    unfold inQ inB at this
    rw [decide_eq_true_iff] at this
    exact absurd hlt this.1
  · have := (List.mem_filter.1 hq).2
    unfold inQ inB at this
    rw [decide_eq_true_iff] at this
    exact this.2
end
end Go.Proofs.Ytpckaglefmpkcaa
