/- Writes over rows, as lists: what is written, and what is shown. No program. -/
import Derived.Test.YtlnagdodnkhbmaaGreatTD
namespace Go.Proofs.YtlnagdodnkhbmaaGreat
open Go.RowKit
set_option maxRecDepth 100000

theorem lex3 (a b : List Nat) : a < b ∨ a = b ∨ b < a := by
  by_cases h1 : a < b
  · exact .inl h1
  · by_cases h2 : b < a
    · exact .inr (.inr h2)
    · exact .inr (.inl (List.le_antisymm (List.not_lt.1 h2) (List.not_lt.1 h1)))
/-- A key, and the row that it was given, or none. -/
abbrev WR := List Nat × Option Ro
structure WsOk (ws : List WR) : Prop where
  rise : ws.Pairwise fun a b => a.1 < b.1
  byt : ∀ q ∈ ws, Byt q.1
  key : ∀ q ∈ ws, keyB q.1 = true
  ok : ∀ q ∈ ws, ∀ r, q.2 = some r → r.ok
theorem WsOk.nil : WsOk [] := ⟨List.Pairwise.nil, by simp, by simp, by simp⟩
theorem WsOk.diff {ws : List WR} (h : WsOk ws) : ws.Pairwise fun a b => a.1 ≠ b.1 := h.rise.imp fun {a b} hab e => by rw [e] at hab; exact List.lt_irrefl _ hab
theorem diff_one {α : Type} {ws : List (List Nat × α)} (h : ws.Pairwise fun a b => a.1 ≠ b.1) {k : List Nat} {u v : α} (hu : (k, u) ∈ ws) (hv : (k, v) ∈ ws) : u = v := by
  induction ws with
  | nil => cases hu
  | cons x ws ih =>
    obtain ⟨h1, h2⟩ := List.pairwise_cons.1 h
    rcases List.mem_cons.1 hu with hu | hu
    · rcases List.mem_cons.1 hv with hv | hv
      · rw [← hu] at hv; exact (congrArg Prod.snd hv).symm
      · exact absurd (by rw [← hu]) (h1 _ hv)
    · rcases List.mem_cons.1 hv with hv | hv
      · exact absurd (by rw [← hv]) (h1 _ hu)
      · exact ih h2 hu hv
theorem WsOk.one {ws : List WR} (h : WsOk ws) {k : List Nat} {u v : Option Ro} (hu : (k, u) ∈ ws) (hv : (k, v) ∈ ws) : u = v := diff_one h.diff hu hv
/-- What was written at a key. -/
def getW (ws : List WR) (k : List Nat) : Option (Option Ro) := (ws.find? fun q => decide (q.1 = k)).map Prod.snd
theorem getW_iff {ws : List WR} (h : WsOk ws) {k : List Nat} {v : Option Ro} : getW ws k = some v ↔ (k, v) ∈ ws := by
  unfold getW
  constructor
  · intro hg
    cases hf : ws.find? (fun q => decide (q.1 = k)) with
    | none => rw [hf] at hg; cases hg
    | some q =>
      rw [hf] at hg
      have h1 := List.mem_of_find?_eq_some hf
      have h2 := List.find?_some hf
      rw [decide_eq_true_iff] at h2
      injection hg with hg
      rw [← h2, ← hg]; exact h1
  · intro hm
    cases hf : ws.find? (fun q => decide (q.1 = k)) with
    | none => rw [List.find?_eq_none] at hf; have := hf _ hm; simp at this
    | some q =>
      have h1 := List.mem_of_find?_eq_some hf
      have h2 := List.find?_some hf
      rw [decide_eq_true_iff] at h2
      obtain ⟨a, b⟩ := q
      dsimp only at h2
      subst h2
      show some b = some v
      rw [h.one h1 hm]
theorem getW_none {ws : List WR} {k : List Nat} : getW ws k = none ↔ ∀ v, (k, v) ∉ ws := by
  unfold getW
  rw [Option.map_eq_none_iff, List.find?_eq_none]
  constructor
  · intro h v hv; have := h _ hv; simp at this
  · intro h q hq
    obtain ⟨a, b⟩ := q
    rw [decide_eq_true_iff]
    rintro rfl
    exact h b hq
/-- A write. -/
def insW {α : Type} (ws : List (List Nat × α)) (k : List Nat) (v : α) : List (List Nat × α) := ws.filter (fun q => decide (q.1 < k)) ++ [(k, v)] ++ ws.filter (fun q => decide (k < q.1))
theorem mem_insW {α : Type} {ws : List (List Nat × α)} {k : List Nat} {v : α} {q : List Nat × α} : q ∈ insW ws k v ↔ q = (k, v) ∨ (q ∈ ws ∧ q.1 ≠ k) := by
  unfold insW
  rw [List.mem_append, List.mem_append, List.mem_singleton, List.mem_filter, List.mem_filter, decide_eq_true_iff, decide_eq_true_iff]
  constructor
  · rintro ((⟨h1, h2⟩ | h) | ⟨h1, h2⟩)
    · exact .inr ⟨h1, fun e => by rw [e] at h2; exact List.lt_irrefl _ h2⟩
    · exact .inl h
    · exact .inr ⟨h1, fun e => by rw [e] at h2; exact List.lt_irrefl _ h2⟩
  · rintro (h | ⟨h1, h2⟩)
    · exact .inl (.inr h)
    · rcases lex3 q.1 k with h | h | h
      · exact .inl (.inl ⟨h1, h⟩)
      · exact absurd h h2
      · exact .inr ⟨h1, h⟩
theorem WsOk.put {ws : List WR} (h : WsOk ws) {k : List Nat} {v : Option Ro} (hb : Byt k) (hk : keyB k = true) (hv : ∀ r, v = some r → r.ok) : WsOk (insW ws k v) := by
  refine ⟨?_, fun q hq => ?_, fun q hq => ?_, fun q hq => ?_⟩
  · unfold insW
    rw [List.pairwise_append, List.pairwise_append]
    refine ⟨⟨h.rise.sublist List.filter_sublist, List.pairwise_singleton _ _, fun a ha b hb => ?_⟩, h.rise.sublist List.filter_sublist, fun a ha b hb => ?_⟩
    · rw [List.mem_filter, decide_eq_true_iff] at ha
      rw [List.mem_singleton.1 hb]; exact ha.2
    · rw [List.mem_filter, decide_eq_true_iff] at hb
      rcases List.mem_append.1 ha with ha | ha
      · rw [List.mem_filter, decide_eq_true_iff] at ha
        exact List.lt_trans ha.2 hb.2
      · rw [List.mem_singleton.1 ha]; exact hb.2
  · rcases mem_insW.1 hq with rfl | hq
    · exact hb
    · exact h.byt q hq.1
  · rcases mem_insW.1 hq with rfl | hq
    · exact hk
    · exact h.key q hq.1
  · rcases mem_insW.1 hq with rfl | hq
    · exact hv
    · exact h.ok q hq.1
theorem getW_ins {ws : List WR} (h : WsOk ws) {k : List Nat} {v : Option Ro} (hb : Byt k) (hk : keyB k = true) (hv : ∀ r, v = some r → r.ok) (m : List Nat) : getW (insW ws k v) m = if m = k then some v else getW ws m := by
  have h' := h.put hb hk hv
  by_cases e : m = k
  · rw [if_pos e, e]; exact (getW_iff h').2 (mem_insW.2 (.inl rfl))
  · rw [if_neg e]
    cases hg : getW ws m with
    | some u => exact (getW_iff h').2 (mem_insW.2 (.inr ⟨(getW_iff h).1 hg, e⟩))
    | none =>
      refine getW_none.2 fun u hu => ?_
      rcases mem_insW.1 hu with hu | hu
      · exact e (congrArg Prod.fst hu)
      · exact getW_none.1 hg u hu.1
theorem filter_three {α : Type} (k : List Nat) : ∀ ws : List (List Nat × α), (ws.filter fun q => decide (q.1 < k)).length + (ws.filter fun q => decide (k < q.1)).length + (ws.filter fun q => decide (q.1 = k)).length = ws.length
  | [] => rfl
  | q :: ws => by
    have ih := filter_three k ws
    rw [List.filter_cons, List.filter_cons, List.filter_cons]
    rcases lex3 q.1 k with h | h | h
    · rw [if_pos (decide_eq_true h), if_neg (by rw [decide_eq_true_iff]; exact fun h2 => List.lt_irrefl _ (List.lt_trans h h2)), if_neg (by rw [decide_eq_true_iff]; exact fun h2 => by rw [h2] at h; exact List.lt_irrefl _ h)]
      simp only [List.length_cons]; omega
    · rw [if_neg (by rw [decide_eq_true_iff, h]; exact List.lt_irrefl _), if_neg (by rw [decide_eq_true_iff, h]; exact List.lt_irrefl _), if_pos (decide_eq_true h)]
      simp only [List.length_cons]; omega
    · rw [if_neg (by rw [decide_eq_true_iff]; exact fun h2 => List.lt_irrefl _ (List.lt_trans h h2)), if_pos (decide_eq_true h), if_neg (by rw [decide_eq_true_iff]; exact fun h2 => by rw [h2] at h; exact List.lt_irrefl _ h)]
      simp only [List.length_cons]; omega
theorem filter_no {α : Type} {k : List Nat} {ws : List (List Nat × α)} (h : ∀ v, (k, v) ∉ ws) : (ws.filter fun q => decide (q.1 = k)).length = 0 := by
  rw [List.length_eq_zero_iff, List.filter_eq_nil_iff]
  intro q hq e
  rw [decide_eq_true_iff] at e
  exact h q.2 (by rw [← e]; exact hq)
theorem filter_yes {α : Type} {k : List Nat} {v : α} : ∀ {ws : List (List Nat × α)}, ws.Pairwise (fun a b => a.1 ≠ b.1) → (k, v) ∈ ws → (ws.filter fun q => decide (q.1 = k)).length = 1
  | [], _, h => by cases h
  | q :: ws, h, hm => by
    obtain ⟨h1, h2⟩ := List.pairwise_cons.1 h
    rw [List.filter_cons]
    by_cases e : q.1 = k
    · rw [if_pos (decide_eq_true e), List.length_cons, filter_no fun v hv => h1 _ hv e]
    · rw [if_neg (by rw [decide_eq_true_iff]; exact e)]
      rcases List.mem_cons.1 hm with hm | hm
      · exact absurd (by rw [← hm]) e
      · exact filter_yes h2 hm
theorem insW_len_new {α : Type} {ws : List (List Nat × α)} {k : List Nat} (h : ∀ v, (k, v) ∉ ws) (v : α) : (insW ws k v).length = ws.length + 1 := by
  have h1 := filter_three k ws
  have h2 := filter_no h
  unfold insW
  simp only [List.length_append, List.length_singleton]; omega
theorem insW_len_was {α : Type} {ws : List (List Nat × α)} (hd : ws.Pairwise fun a b => a.1 ≠ b.1) {k : List Nat} {u : α} (h : (k, u) ∈ ws) (v : α) : (insW ws k v).length = ws.length := by
  have h1 := filter_three k ws
  have h2 := filter_yes hd h
  unfold insW
  simp only [List.length_append, List.length_singleton]; omega
theorem insW_len {α : Type} (ws : List (List Nat × α)) (k : List Nat) (v : α) : (insW ws k v).length ≤ ws.length + 1 := by
  have h1 := filter_three k ws
  unfold insW
  simp only [List.length_append, List.length_singleton]; omega
theorem insW_keys {α β : Type} {ws : List (List Nat × α)} {us : List (List Nat × β)} (h : ws.map Prod.fst = us.map Prod.fst) (k : List Nat) (u : α) (v : β) : (insW ws k u).map Prod.fst = (insW us k v).map Prod.fst := by
  have key : ∀ (p : List Nat → Bool), (ws.filter fun q => p q.1).map Prod.fst = (us.filter fun q => p q.1).map Prod.fst := fun p => by
    have e1 : ∀ {γ : Type} (l : List (List Nat × γ)), (l.filter fun q => p q.1).map Prod.fst = (l.map Prod.fst).filter p := fun l => by rw [List.filter_map]; rfl
    rw [e1, e1, h]
  unfold insW
  rw [List.map_append, List.map_append, List.map_append, List.map_append, key fun x => decide (x < k), key fun x => decide (k < x)]
  rfl
/-- Lists of writes with the same ones are the same. -/
theorem ws_ext : ∀ {A B : List WR}, A.Pairwise (fun a b => a.1 < b.1) → B.Pairwise (fun a b => a.1 < b.1) → (∀ q, q ∈ A ↔ q ∈ B) → A = B
  | [], [], _, _, _ => rfl
  | [], b :: B, _, _, h => by have := (h b).2 List.mem_cons_self; cases this
  | a :: A, [], _, _, h => by have := (h a).1 List.mem_cons_self; cases this
  | a :: A, b :: B, hA, hB, h => by
    rw [List.pairwise_cons] at hA hB
    have e : a = b := by
      rcases List.mem_cons.1 ((h a).1 List.mem_cons_self) with e | h1
      · exact e
      rcases List.mem_cons.1 ((h b).2 List.mem_cons_self) with e | h2
      · exact e.symm
      exact absurd (List.lt_trans (hB.1 a h1) (hA.1 b h2)) (List.lt_irrefl _)
    subst e
    congr 1
    refine ws_ext hA.2 hB.2 fun q => ⟨fun hq => ?_, fun hq => ?_⟩
    · rcases List.mem_cons.1 ((h q).1 (List.mem_cons_of_mem _ hq)) with e | h1
      · subst e; exact absurd (hA.1 _ hq) (List.lt_irrefl _)
      · exact h1
    · rcases List.mem_cons.1 ((h q).2 (List.mem_cons_of_mem _ hq)) with e | h1
      · subst e; exact absurd (hB.1 _ hq) (List.lt_irrefl _)
      · exact h1

/-- One write over rows; what is shown. -/
def showStep (l : List KR) (q : WR) : List KR := match q.2 with
  | none => kdelN l q.1
  | some r => putK l q.1 r
def showW (l : List KR) (ws : List WR) : List KR := ws.foldl showStep l
theorem showStep_ok {l : List KR} (h : RowsOk l) {q : WR} (hb : Byt q.1) (hk : keyB q.1 = true) (hr : ∀ r, q.2 = some r → r.ok) : RowsOk (showStep l q) := by
  unfold showStep
  cases hq : q.2 with
  | none => exact h.kdel _
  | some r => exact h.put hb hk (hr r hq)
theorem mem_showStep {l : List KR} (h : RowsOk l) (q : WR) {x : KR} : x ∈ showStep l q ↔ (x.1 = q.1 ∧ q.2 = some x.2) ∨ (x.1 ≠ q.1 ∧ x ∈ l) := by
  obtain ⟨k, v⟩ := q
  unfold showStep
  cases v with
  | none =>
    dsimp only
    rw [mem_kdelN h]
    constructor
    · exact fun h => .inr ⟨h.2, h.1⟩
    · rintro (⟨_, e⟩ | h)
      · cases e
      · exact ⟨h.2, h.1⟩
  | some r =>
    dsimp only
    rw [mem_putK h]
    constructor
    · rintro (rfl | h)
      · exact .inl ⟨rfl, rfl⟩
      · exact .inr ⟨h.2, h.1⟩
    · rintro (⟨e1, e2⟩ | h)
      · injection e2 with e2
        exact .inl (Prod.ext e1 e2.symm)
      · exact .inr ⟨h.2, h.1⟩
theorem show_fold : ∀ (ws : List WR) {l : List KR}, RowsOk l → WsOk ws → RowsOk (showW l ws) ∧ ∀ x : KR, x ∈ showW l ws ↔ ((x.1, some x.2) ∈ ws ∨ ((∀ v, (x.1, v) ∉ ws) ∧ x ∈ l))
  | [], l, h, _ => ⟨h, fun x => by simp [showW]⟩
  | q :: ws, l, h, hw => by
    have hw' := hw
    obtain ⟨hr, hb, hk, ho⟩ := hw
    obtain ⟨r1, r2⟩ := List.pairwise_cons.1 hr
    have hw2 : WsOk ws := ⟨r2, fun x hx => hb x (List.mem_cons_of_mem _ hx), fun x hx => hk x (List.mem_cons_of_mem _ hx), fun x hx => ho x (List.mem_cons_of_mem _ hx)⟩
    obtain ⟨i1, i2⟩ := show_fold ws (showStep_ok h (hb q List.mem_cons_self) (hk q List.mem_cons_self) (ho q List.mem_cons_self)) hw2
    refine ⟨i1, fun x => ?_⟩
    show x ∈ showW (showStep l q) ws ↔ _
    rw [i2 x, mem_showStep h q]
    constructor
    · rintro (h1 | ⟨h1, ⟨h2, h3⟩ | ⟨h2, h3⟩⟩)
      · exact .inl (List.mem_cons_of_mem _ h1)
      · left
        rw [show (x.1, some x.2) = q from Prod.ext h2 h3.symm]
        exact List.mem_cons_self
      · refine .inr ⟨fun v hv => ?_, h3⟩
        rcases List.mem_cons.1 hv with hv | hv
        · exact h2 (by rw [← hv])
        · exact h1 v hv
    · rintro (h1 | ⟨h1, h2⟩)
      · rcases List.mem_cons.1 h1 with h1 | h1
        · refine .inr ⟨fun v hv => ?_, .inl ⟨by rw [← h1], by rw [← h1]⟩⟩
          have := r1 _ hv
          rw [← h1] at this
          exact List.lt_irrefl _ this
        · exact .inl h1
      · refine .inr ⟨fun v hv => h1 v (List.mem_cons_of_mem _ hv), .inr ⟨fun e => ?_, h2⟩⟩
        exact h1 q.2 (by rw [show (x.1, q.2) = q from Prod.ext e rfl]; exact List.mem_cons_self)
theorem showW_ok {l : List KR} {ws : List WR} (h : RowsOk l) (hw : WsOk ws) : RowsOk (showW l ws) := (show_fold ws h hw).1
theorem mem_showW {l : List KR} {ws : List WR} (h : RowsOk l) (hw : WsOk ws) {x : KR} : x ∈ showW l ws ↔ ((x.1, some x.2) ∈ ws ∨ ((∀ v, (x.1, v) ∉ ws) ∧ x ∈ l)) := (show_fold ws h hw).2 x
/-- What a buffer shows of a key. -/
theorem getK_show {l : List KR} {ws : List WR} (h : RowsOk l) (hw : WsOk ws) (k : List Nat) : getK (showW l ws) k = match getW ws k with
    | none => getK l k
    | some v => v := by
  have h' := showW_ok h hw
  cases hg : getW ws k with
  | none =>
    have hn := getW_none.1 hg
    dsimp only
    cases hl : getK l k with
    | some r => exact (getK_iff h').2 ((mem_showW h hw).2 (.inr ⟨hn, getK_mem hl⟩))
    | none =>
      refine (getK_none h').2 fun q hq e => ?_
      rcases (mem_showW h hw).1 hq with h1 | h1
      · rw [e] at h1; exact hn _ h1
      · exact (getK_none h).1 hl q h1.2 e
  | some v =>
    have hm := (getW_iff hw).1 hg
    dsimp only
    cases v with
    | some r => exact (getK_iff h').2 ((mem_showW h hw).2 (.inl hm))
    | none =>
      refine (getK_none h').2 fun q hq e => ?_
      rcases (mem_showW h hw).1 hq with h1 | h1
      · rw [e] at h1; cases hw.one h1 hm
      · rw [e] at h1; exact h1.1 _ hm
/-- A write, and what is shown then. -/
theorem show_put {l : List KR} {ws : List WR} (h : RowsOk l) (hw : WsOk ws) {k : List Nat} {v : Option Ro} (hb : Byt k) (hk : keyB k = true) (hv : ∀ r, v = some r → r.ok) : showW l (insW ws k v) = showStep (showW l ws) (k, v) := by
  have hw' := hw.put hb hk hv
  have hs := showW_ok h hw
  refine rows_ext (showW_ok h hw') (showStep_ok hs hb hk hv) fun x => ?_
  rw [mem_showW h hw', mem_showStep hs, mem_showW h hw]
  constructor
  · rintro (h1 | ⟨h1, h2⟩)
    · rcases mem_insW.1 h1 with h1 | h1
      · exact .inl ⟨congrArg Prod.fst h1, (congrArg Prod.snd h1).symm⟩
      · exact .inr ⟨h1.2, .inl h1.1⟩
    · have hne : x.1 ≠ k := fun e => h1 v (mem_insW.2 (.inl (by rw [e])))
      exact .inr ⟨hne, .inr ⟨fun u hu => h1 u (mem_insW.2 (.inr ⟨hu, hne⟩)), h2⟩⟩
  · rintro (⟨h1, h2⟩ | ⟨h1, h2 | ⟨h2, h3⟩⟩)
    · exact .inl (mem_insW.2 (.inl (Prod.ext h1 h2.symm)))
    · exact .inl (mem_insW.2 (.inr ⟨h2, h1⟩))
    · refine .inr ⟨fun u hu => ?_, h3⟩
      rcases mem_insW.1 hu with hu | hu
      · exact h1 (congrArg Prod.fst hu)
      · exact h2 u hu.1
/-- How many more rows there are by a write. -/
def delta (l : List KR) (q : WR) : Int := match q.2 with
  | none => if (getK l q.1).isSome = true then -1 else 0
  | some _ => if (getK l q.1).isSome = true then 0 else 1
theorem putK_len {l : List KR} (k : List Nat) (r : Ro) : ((putK l k r).length : Int) = l.length + if (getK l k).isSome = true then 0 else 1 := by
  cases hg : getK l k with
  | none =>
    have := (putK_new hg r).length_eq
    rw [List.length_cons] at this
    simp; omega
  | some s =>
    have h1 := (putK_was hg r).length_eq
    have h2 := delK_len hg
    rw [List.length_cons] at h1
    simp; omega
theorem kdelN_len_eq {l : List KR} {k : List Nat} (hk : keyB k = true) : ((kdelN l k).length : Int) = l.length + if (getK l k).isSome = true then -1 else 0 := by
  cases hg : getK l k with
  | none =>
    unfold kdelN kgetE
    rw [hk, hg]
    simp
  | some s =>
    have h2 := kdelN_lt hk hg
    simp; omega
theorem showStep_len {l : List KR} {q : WR} (hk : keyB q.1 = true) : ((showStep l q).length : Int) = l.length + delta l q := by
  obtain ⟨k, v⟩ := q
  unfold showStep delta
  cases v with
  | none => exact kdelN_len_eq hk
  | some r => exact putK_len k r
def deltas (l : List KR) (ws : List WR) : Int := (ws.map (delta l)).foldl (· + ·) 0
theorem foldl_add (xs : List Int) (a : Int) : xs.foldl (· + ·) a = a + xs.foldl (· + ·) 0 := by
  induction xs generalizing a with
  | nil => simp
  | cons x xs ih => rw [List.foldl_cons, List.foldl_cons, ih, ih (0 + x)]; omega
theorem deltas_cons (l : List KR) (q : WR) (ws : List WR) : deltas l (q :: ws) = delta l q + deltas l ws := by
  unfold deltas
  rw [List.map_cons, List.foldl_cons, foldl_add]; omega
theorem deltas_nil (l : List KR) : deltas l [] = 0 := rfl
theorem deltas_perm {l : List KR} {A B : List WR} (h : A.Perm B) : deltas l A = deltas l B := by
  induction h with
  | nil => rfl
  | cons x _ ih => rw [deltas_cons, deltas_cons, ih]
  | swap x y _ => rw [deltas_cons, deltas_cons, deltas_cons, deltas_cons]; omega
  | trans _ _ ih1 ih2 => rw [ih1, ih2]
theorem delta_le (l : List KR) (q : WR) : -1 ≤ delta l q ∧ delta l q ≤ 1 := by
  unfold delta
  split
  · split <;> omega
  · split <;> omega
theorem deltas_le (l : List KR) : ∀ ws : List WR, -(ws.length : Int) ≤ deltas l ws ∧ deltas l ws ≤ ws.length
  | [] => by simp [deltas_nil]
  | q :: ws => by
    have h1 := deltas_le l ws
    have h2 := delta_le l q
    rw [deltas_cons, List.length_cons]; omega
theorem show_len : ∀ (ws : List WR) {l : List KR}, RowsOk l → WsOk ws → ((showW l ws).length : Int) = l.length + deltas l ws
  | [], l, _, _ => by show ((l.length : Nat) : Int) = _; rw [deltas_nil]; omega
  | q :: ws, l, h, hw => by
    obtain ⟨hr, hb, hk, ho⟩ := hw
    obtain ⟨r1, r2⟩ := List.pairwise_cons.1 hr
    have hw2 : WsOk ws := ⟨r2, fun x hx => hb x (List.mem_cons_of_mem _ hx), fun x hx => hk x (List.mem_cons_of_mem _ hx), fun x hx => ho x (List.mem_cons_of_mem _ hx)⟩
    have hs := showStep_ok h (hb q List.mem_cons_self) (hk q List.mem_cons_self) (ho q List.mem_cons_self)
    have ih := show_len ws hs hw2
    have e : deltas (showStep l q) ws = deltas l ws := by
      unfold deltas
      congr 1
      refine List.map_congr_left fun x hx => ?_
      have hne : x.1 ≠ q.1 := fun e => by have := r1 x hx; rw [e] at this; exact List.lt_irrefl _ this
      have hg : getK (showStep l q) x.1 = getK l x.1 := by
        cases hl : getK l x.1 with
        | some r => exact (getK_iff hs).2 ((mem_showStep h q).2 (.inr ⟨hne, getK_mem hl⟩))
        | none =>
          refine (getK_none hs).2 fun y hy e => ?_
          rcases (mem_showStep h q).1 hy with h1 | h1
          · exact hne (e.symm.trans h1.1)
          · exact (getK_none h).1 hl y h1.2 e
      unfold delta
      rw [hg]
    show ((showW (showStep l q) ws).length : Int) = _
    rw [ih, e, deltas_cons, showStep_len (hk q List.mem_cons_self)]; omega
end Go.Proofs.YtlnagdodnkhbmaaGreat
