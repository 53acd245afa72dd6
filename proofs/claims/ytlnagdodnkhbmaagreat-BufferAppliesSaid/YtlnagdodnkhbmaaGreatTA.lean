import Derived.Test.YtlnagdodnkhbmaaGreatCA
import Derived.Test.YtlnagdodnkhbmaaGreatSA
import Derived.Deep.RegionHeld

/- A table's rows as lists, without a program: rows by their keys, their lines, and the entries of each column, in order. -/
namespace Go.Proofs.YtlnagdodnkhbmaaGreat
open Go.RowKit
set_option maxRecDepth 100000

/-- A key and its row. -/
abbrev KR := List Nat × Ro
def Ro.at (r : Ro) (c : Nat) : Int := r.l.getD c 0
theorem Ro.at_eq {r : Ro} {c : Nat} {x : Int} (h : r.l[c]? = some x) : r.at c = x := by unfold Ro.at; rw [List.getD_eq_getElem?_getD, h]; rfl
theorem Ro.get_at (r : Ro) {c : Nat} (h : c < 4) : r.l[c]? = some (r.at c) := by
  obtain ⟨x, hx⟩ := r.at_ h
  rw [hx, Ro.at_eq hx]
theorem Ro.ok.at {r : Ro} (h : r.ok) {c : Nat} (hc : c < 4) : I64 (r.at c) := h _ (List.mem_of_getElem? (r.get_at hc))

/-- A row's line; an entry's bytes; a column's entry. -/
def line (q : KR) : Pr := (q.1, enc q.2.l)
def lines (l : List KR) : List Pr := l.map line
def entB (x : Int) (k : List Nat) : List Nat := wv x ++ k
def entC (c : Nat) (q : KR) : Pr := (entB (q.2.at c) q.1, [])
theorem entB_len (x : Int) (k : List Nat) : (entB x k).length = 8 + k.length := by unfold entB; rw [List.length_append, wv_len]
theorem entB_byt (x : Int) {k : List Nat} (h : Byt k) : Byt (entB x k) := (wv_byt x).app h
theorem entB_key {x y : Int} {k m : List Nat} (h : entB x k = entB y m) : k = m := by
  unfold entB at h
  exact List.append_inj_right h (by rw [wv_len, wv_len])
theorem entB_drop (x : Int) (k : List Nat) : (entB x k).drop 8 = k := drop_wv x k
theorem entB_64 (x : Int) {k : List Nat} (h : keyB k = true) : key64 (entB x k) = true := by
  have := keyB_yes h
  unfold key64
  rw [decide_eq_true_iff, entB_len]; omega
theorem keyB_64 {k : List Nat} (h : keyB k = true) : key64 k = true := by
  have := keyB_yes h
  unfold key64
  rw [decide_eq_true_iff]; omega

/-- Rows that a table may have. -/
structure RowsOk (l : List KR) : Prop where
  rise : l.Pairwise fun a b => a.1 < b.1
  byt : ∀ q ∈ l, Byt q.1
  key : ∀ q ∈ l, keyB q.1 = true
  ok : ∀ q ∈ l, q.2.ok
theorem RowsOk.nil : RowsOk [] := ⟨List.Pairwise.nil, by simp, by simp, by simp⟩
theorem lines_len (l : List KR) : (lines l).length = l.length := List.length_map _
theorem lines_at (l : List KR) (i : Nat) : (lines l)[i]? = (l[i]?).map line := List.getElem?_map
theorem RowsOk.lines {l : List KR} (h : RowsOk l) : Rising (lines l) := by
  unfold Rising Go.Proofs.YtlnagdodnkhbmaaGreat.lines
  rw [List.pairwise_map]
  exact h.rise
/-- The row that a key has. -/
def getK (l : List KR) (k : List Nat) : Option Ro := (l[atN (lines l) k]?).bind fun q => if q.1 = k then some q.2 else none
def putK (l : List KR) (k : List Nat) (r : Ro) : List KR := l.take (atN (lines l) k) ++ [(k, r)] ++ l.drop (if (getK l k).isSome = true then atN (lines l) k + 1 else atN (lines l) k)
def delK (l : List KR) (k : List Nat) : List KR := l.take (atN (lines l) k) ++ l.drop (atN (lines l) k + 1)
theorem getL_lines (l : List KR) (k : List Nat) : getL (lines l) k = (getK l k).map fun r => enc r.l := by
  unfold getL getK
  rw [lines_at]
  cases l[atN (lines l) k]? with
  | none => rfl
  | some q =>
    simp only [Option.map_some, Option.bind_some]
    unfold line
    by_cases h : q.1 = k
    · rw [if_pos h, if_pos h]; rfl
    · rw [if_neg h, if_neg h]; rfl
theorem isSome_lines (l : List KR) (k : List Nat) : (getL (lines l) k).isSome = (getK l k).isSome := by rw [getL_lines]; cases getK l k <;> rfl
theorem putL_lines (l : List KR) (k : List Nat) (r : Ro) : lines (putK l k r) = putL (lines l) k (enc r.l) := by
  unfold putK putL
  rw [isSome_lines]
  unfold lines
  rw [List.map_append, List.map_append, List.map_take, List.map_drop]
  rfl
theorem delL_lines (l : List KR) (k : List Nat) : lines (delK l k) = delL (lines l) k := by
  unfold delK delL lines
  rw [List.map_append, List.map_take, List.map_drop]
theorem getK_some {l : List KR} {k : List Nat} {r : Ro} (h : getK l k = some r) : l[atN (lines l) k]? = some (k, r) := by
  unfold getK at h
  cases hq : l[atN (lines l) k]? with
  | none => rw [hq] at h; cases h
  | some q =>
    rw [hq] at h
    simp only [Option.bind_some] at h
    split at h
    · rename_i he
      injection h with h
      rw [← he, ← h]
    · cases h
theorem getK_mem {l : List KR} {k : List Nat} {r : Ro} (h : getK l k = some r) : (k, r) ∈ l := List.mem_of_getElem? (getK_some h)
theorem RowsOk.get {l : List KR} (h : RowsOk l) {k : List Nat} {r : Ro} (hm : (k, r) ∈ l) : getK l k = some r := by
  obtain ⟨i, hi⟩ := List.getElem?_of_mem hm
  have h1 : (Go.Proofs.YtlnagdodnkhbmaaGreat.lines l)[i]? = some (line (k, r)) := by rw [lines_at, hi]; rfl
  have h2 : atN (Go.Proofs.YtlnagdodnkhbmaaGreat.lines l) k = i := atN_key (x := line (k, r)) h.lines h1
  unfold getK
  rw [h2, hi]
  simp
theorem RowsOk.none_ {l : List KR} (h : RowsOk l) {k : List Nat} (hn : getK l k = none) : ∀ q ∈ l, q.1 ≠ k := by
  rintro ⟨m, r⟩ hq rfl
  rw [h.get hq] at hn
  cases hn
theorem mid_perm {α : Type} (A B : List α) (x : α) : (A ++ [x] ++ B).Perm (x :: (A ++ B)) := by
  rw [List.append_assoc]
  exact List.perm_middle
theorem putK_new {l : List KR} {k : List Nat} (hn : getK l k = none) (r : Ro) : (putK l k r).Perm ((k, r) :: l) := by
  unfold putK
  rw [hn, if_neg (by simp)]
  refine (mid_perm _ _ _).trans ?_
  rw [List.take_append_drop]
theorem delK_perm {l : List KR} {k : List Nat} {r : Ro} (h : getK l k = some r) : l.Perm ((k, r) :: delK l k) := by
  have h1 := getK_some h
  have hlt := (List.getElem?_eq_some_iff.1 h1).1
  have e : l = l.take (atN (lines l) k) ++ [(k, r)] ++ l.drop (atN (lines l) k + 1) := by
    conv => lhs; rw [← List.take_append_drop (atN (lines l) k) l, List.drop_eq_getElem_cons hlt, (List.getElem?_eq_some_iff.1 h1).2]
    simp
  unfold delK
  conv => lhs; rw [e]
  exact mid_perm _ _ _
theorem putK_was {l : List KR} {k : List Nat} {r : Ro} (h : getK l k = some r) (s : Ro) : (putK l k s).Perm ((k, s) :: delK l k) := by
  unfold putK delK
  rw [h]
  simp only [Option.isSome_some, if_true]
  exact mid_perm _ _ _
theorem RowsOk.put {l : List KR} (h : RowsOk l) {k : List Nat} {r : Ro} (hb : Byt k) (hk : keyB k = true) (hr : r.ok) : RowsOk (putK l k r) := by
  have hm : ∀ q ∈ putK l k r, q = (k, r) ∨ q ∈ l := by
    intro q hq
    unfold putK at hq
    simp only [List.mem_append, List.mem_singleton] at hq
    rcases hq with (hq | hq) | hq
    · exact .inr (List.mem_of_mem_take hq)
    · exact .inl hq
    · exact .inr (List.mem_of_mem_drop hq)
  refine ⟨?_, fun q hq => ?_, fun q hq => ?_, fun q hq => ?_⟩
  · have := putL_rising h.lines k (enc r.l)
    rw [← putL_lines] at this
    unfold Rising Go.Proofs.YtlnagdodnkhbmaaGreat.lines at this
    rw [List.pairwise_map] at this
    exact this
  · rcases hm q hq with rfl | hq
    · exact hb
    · exact h.byt q hq
  · rcases hm q hq with rfl | hq
    · exact hk
    · exact h.key q hq
  · rcases hm q hq with rfl | hq
    · exact hr
    · exact h.ok q hq
theorem delK_mem {l : List KR} {k : List Nat} {q : KR} (hq : q ∈ delK l k) : q ∈ l := by
  unfold delK at hq
  rcases List.mem_append.1 hq with hq | hq
  · exact List.mem_of_mem_take hq
  · exact List.mem_of_mem_drop hq
theorem RowsOk.del {l : List KR} (h : RowsOk l) (k : List Nat) : RowsOk (delK l k) := by
  refine ⟨?_, fun q hq => h.byt q (delK_mem hq), fun q hq => h.key q (delK_mem hq), fun q hq => h.ok q (delK_mem hq)⟩
  have := delL_rising h.lines k
  rw [← delL_lines] at this
  unfold Rising Go.Proofs.YtlnagdodnkhbmaaGreat.lines at this
  rw [List.pairwise_map] at this
  exact this
theorem RowsOk.gone {l : List KR} (h : RowsOk l) {k : List Nat} {r : Ro} (hg : getK l k = some r) : ∀ q ∈ delK l k, q.1 ≠ k := by
  intro q hq e
  have hp := delK_perm hg
  have h2 : ((k, r) :: delK l k).Pairwise (fun a b => a.1 ≠ b.1) := by
    refine (List.Perm.pairwise_iff (fun {a b} hab => Ne.symm hab) hp).1 ?_
    exact h.rise.imp fun {a b} hab => fun e => by rw [e] at hab; exact List.lt_irrefl _ hab
  exact (List.pairwise_cons.1 h2).1 q hq e.symm

/-- Pairs into which one is put that was not there; from which one is taken out. -/
theorem putL_new_perm {I : List Pr} {s : List Nat} (hn : getL I s = none) (v : List Nat) : (putL I s v).Perm ((s, v) :: I) := by
  unfold putL
  rw [hn, if_neg (by simp)]
  refine (mid_perm _ _ _).trans ?_
  rw [List.take_append_drop]
theorem delL_perm {I : List Pr} {s v : List Nat} (h : getL I s = some v) : I.Perm ((s, v) :: delL I s) := by
  have h1 := getL_some h
  have hlt := (List.getElem?_eq_some_iff.1 h1).1
  have e : I = I.take (atN I s) ++ [(s, v)] ++ I.drop (atN I s + 1) := by
    conv => lhs; rw [← List.take_append_drop (atN I s) I, List.drop_eq_getElem_cons hlt, (List.getElem?_eq_some_iff.1 h1).2]
    simp
  unfold delL
  conv => lhs; rw [e]
  exact mid_perm _ _ _
theorem getL_mem_ {I : List Pr} {s v : List Nat} (h : getL I s = some v) : (s, v) ∈ I := List.mem_of_getElem? (getL_some h)
theorem getL_of_mem {I : List Pr} (hr : Rising I) {s v : List Nat} (h : (s, v) ∈ I) : getL I s = some v := by
  obtain ⟨i, hi⟩ := List.getElem?_of_mem h
  exact getL_key (x := (s, v)) hr hi

/-- A column's index: the entries of all rows, in order. -/
structure Idx (c : Nat) (l : List KR) (I : List Pr) : Prop where
  rise : Rising I
  perm : I.Perm (l.map (entC c))
theorem Idx.len {c : Nat} {l : List KR} {I : List Pr} (h : Idx c l I) : I.length = l.length := by rw [h.perm.length_eq, List.length_map]
theorem Idx.mem {c : Nat} {l : List KR} {I : List Pr} (h : Idx c l I) {q : Pr} : q ∈ I ↔ ∃ x ∈ l, entC c x = q := by rw [h.perm.mem_iff, List.mem_map]
theorem Idx.free {c : Nat} {l : List KR} {I : List Pr} (h : Idx c l I) {k : List Nat} (hk : ∀ q ∈ l, q.1 ≠ k) (x : Int) : getL I (entB x k) = none := by
  cases hg : getL I (entB x k) with
  | none => rfl
  | some v =>
    obtain ⟨q, hq, he⟩ := h.mem.1 (getL_mem_ hg)
    exact absurd (entB_key (congrArg Prod.fst he)) (hk q hq)
theorem Idx.has {c : Nat} {l : List KR} {I : List Pr} (h : Idx c l I) {k : List Nat} {r : Ro} (hm : (k, r) ∈ l) : getL I (entB (r.at c) k) = some [] :=
  getL_of_mem h.rise (h.mem.2 ⟨_, hm, rfl⟩)
theorem Idx.put {c : Nat} {l : List KR} {I : List Pr} (h : Idx c l I) {k : List Nat} (hk : ∀ q ∈ l, q.1 ≠ k) (r : Ro) {l' : List KR} (hp : l'.Perm ((k, r) :: l)) : Idx c l' (putL I (entB (r.at c) k) []) :=
  ⟨putL_rising h.rise _ _, (putL_new_perm (h.free hk _) _).trans ((h.perm.cons _).trans (hp.map (entC c)).symm)⟩
theorem Idx.del {c : Nat} {l : List KR} {I : List Pr} (h : Idx c l I) {k : List Nat} {r : Ro} {l' : List KR} (hp : l.Perm ((k, r) :: l')) : Idx c l' (delL I (entB (r.at c) k)) := by
  refine ⟨delL_rising h.rise _, ?_⟩
  have h1 := delL_perm (h.has (hp.mem_iff.2 List.mem_cons_self))
  have h2 : ((entB (r.at c) k, []) :: delL I (entB (r.at c) k)).Perm ((entB (r.at c) k, []) :: l'.map (entC c)) := h1.symm.trans (h.perm.trans (hp.map (entC c)))
  exact List.Perm.cons_inv h2
theorem Idx.same {c : Nat} {l : List KR} {I : List Pr} (h : Idx c l I) {k : List Nat} {r s : Ro} {l' m : List KR} (hp : l.Perm ((k, r) :: m)) (hp' : l'.Perm ((k, s) :: m)) (he : r.at c = s.at c) : Idx c l' I := by
  refine ⟨h.rise, h.perm.trans ((hp.map (entC c)).trans ?_)⟩
  refine List.Perm.trans ?_ (hp'.map (entC c)).symm
  rw [List.map_cons, List.map_cons]
  unfold entC
  rw [he]
theorem Idx.keyed {c : Nat} {l : List KR} {I : List Pr} (h : Idx c l I) (hl : RowsOk l) : Keyed I := fun q hq => by
  obtain ⟨x, hx, rfl⟩ := h.mem.1 hq
  exact entB_64 _ (hl.key x hx)

/-- What a change does with a column's index; what all of some rows' changes do. -/
def step1 (k : List Nat) (I : List Pr) (g : Cg) : List Pr := if g.2.2 then putN I (entB g.2.1 k) [] else delN I (entB g.2.1 k)
def stepI (k : List Nat) (J : Nat → List Pr) (g : Cg) : Nat → List Pr := fun c => if c = g.1 then step1 k (J c) g else J c
def lineI (k : List Nat) (J : Nat → List Pr) (n : Option Ro) : Nat → List Pr := fun c => if c = 4 then (match n with | none => delN (J 4) k | some r => putN (J 4) k (enc r.l)) else J c
def turnI (k : List Nat) (J : Nat → List Pr) (o n : Option Ro) : Nat → List Pr := (upto o n 4).foldl (stepI k) (lineI k J n)
theorem fold_at (k : List Nat) (c : Nat) : ∀ (L : List Cg) (J : Nat → List Pr), (L.foldl (stepI k) J) c = (L.filter fun g => decide (c = g.1)).foldl (step1 k) (J c)
  | [], _ => rfl
  | g :: L, J => by
    rw [List.foldl_cons, fold_at k c L, List.filter_cons]
    by_cases h : c = g.1
    · rw [if_pos (by simpa using h), List.foldl_cons]
      congr 1
      unfold stepI; rw [if_pos h]
    · rw [if_neg (by simpa using h)]
      congr 1
      unfold stepI; rw [if_neg h]
theorem one_col {o : Option Ro} {k : Nat} {a : Bool} : ∀ g ∈ one o k a, g.1 = k := by
  intro g hg
  unfold one at hg
  cases o with
  | none => simp at hg
  | some r =>
    dsimp only at hg
    cases hx : r.l[k]? with
    | none => rw [hx] at hg; simp at hg
    | some x => rw [hx] at hg; simp at hg; rw [hg]
theorem chg1_col {o n : Option Ro} {k : Nat} : ∀ g ∈ chg1 o n k, g.1 = k := by
  intro g hg
  unfold chg1 at hg
  split at hg
  · cases hg
  · rcases List.mem_append.1 hg with hg | hg
    · exact one_col g hg
    · exact one_col g hg
theorem upto_col {o n : Option Ro} : ∀ (m : Nat), ∀ g ∈ upto o n m, g.1 < m
  | 0, g, hg => by simp [upto] at hg
  | m + 1, g, hg => by
    rw [upto_succ] at hg
    rcases List.mem_append.1 hg with hg | hg
    · have := upto_col m g hg; omega
    · have := chg1_col g hg; omega
theorem filter_upto (o n : Option Ro) (c : Nat) : ∀ m, (upto o n m).filter (fun g => decide (c = g.1)) = if c < m then chg1 o n c else []
  | 0 => by simp [upto]
  | m + 1 => by
    rw [upto_succ, List.filter_append, filter_upto o n c m]
    by_cases h : c = m
    · subst h
      rw [if_neg (Nat.lt_irrefl _), if_pos (Nat.lt_succ_self _), List.nil_append, List.filter_eq_self]
      intro g hg
      simp [chg1_col g hg]
    · have h2 : (chg1 o n m).filter (fun g => decide (c = g.1)) = [] := by
        rw [List.filter_eq_nil_iff]
        intro g hg
        rw [chg1_col g hg]
        simpa using h
      rw [h2, List.append_nil]
      by_cases h3 : c < m
      · rw [if_pos h3, if_pos (by omega)]
      · rw [if_neg h3, if_neg (by omega)]
theorem turnI_at (k : List Nat) (J : Nat → List Pr) (o n : Option Ro) {c : Nat} (h : c < 4) : turnI k J o n c = (chg1 o n c).foldl (step1 k) (J c) := by
  unfold turnI
  rw [fold_at, filter_upto, if_pos h]
  unfold lineI
  rw [if_neg (by omega)]
theorem turnI_4 (k : List Nat) (J : Nat → List Pr) (o n : Option Ro) : turnI k J o n 4 = match n with | none => delN (J 4) k | some r => putN (J 4) k (enc r.l) := by
  unfold turnI
  rw [fold_at, filter_upto, if_neg (by omega)]
  rfl
theorem putN_yes {I : List Pr} {s v : List Nat} (h : key64 s = true) (hv : v.length ≤ 256) : putN I s v = putL I s v := by
  unfold putN putE
  rw [if_pos h, if_pos hv, if_pos rfl]
theorem delN_yes {I : List Pr} {s v : List Nat} (h : key64 s = true) (hg : getL I s = some v) : delN I s = delL I s := by
  unfold delN getE
  rw [if_pos h, hg]
  simp
theorem enc_256 {r : Ro} (h : r.ok) : (enc r.l).length ≤ 256 := by
  have := enc_len r.l h
  rw [Ro.len] at this; omega

/-- The lists that a table's five trees have. -/
structure TOk (l : List KR) (J : Nat → List Pr) : Prop where
  rows : RowsOk l
  lin : J 4 = lines l
  idx : ∀ c, c < 4 → Idx c l (J c)
theorem TOk.nil : TOk [] (fun _ => []) := ⟨RowsOk.nil, rfl, fun _ _ => ⟨List.Pairwise.nil, List.Perm.refl _⟩⟩
theorem one_at (r : Ro) {c : Nat} (h : c < 4) (a : Bool) : one (some r) c a = [(c, r.at c, a)] := by
  unfold one; dsimp only; rw [r.get_at h]
theorem one_not (k : Nat) (a : Bool) : one none k a = [] := rfl
theorem chg1_new (r : Ro) {c : Nat} (h : c < 4) : chg1 none (some r) c = [(c, r.at c, true)] := by
  unfold chg1 alikeB
  rw [one_at r h]; rfl
theorem chg1_old (r : Ro) {c : Nat} (h : c < 4) : chg1 (some r) none c = [(c, r.at c, false)] := by
  unfold chg1 alikeB
  rw [one_at r h]; rfl
theorem chg1_two (r s : Ro) {c : Nat} (h : c < 4) : chg1 (some r) (some s) c = if r.at c = s.at c then [] else [(c, r.at c, false), (c, s.at c, true)] := by
  have hal : alikeB (some r) (some s) c = decide (r.at c = s.at c) := by
    unfold alikeB
    simp only [r.get_at h, s.get_at h, Option.some.injEq]
  unfold chg1
  rw [hal, one_at r h, one_at s h]
  by_cases e : r.at c = s.at c
  · simp [e]
  · simp [e]
theorem TOk.new {l : List KR} {J : Nat → List Pr} (h : TOk l J) {k : List Nat} {r : Ro} (hn : getK l k = none) (hb : Byt k) (hk : keyB k = true) (hr : r.ok) : TOk (putK l k r) (turnI k J none (some r)) := by
  refine ⟨h.rows.put hb hk hr, ?_, fun c hc => ?_⟩
  · rw [turnI_4, h.lin, putL_lines]
    exact putN_yes (keyB_64 hk) (enc_256 hr)
  · rw [turnI_at _ _ _ _ hc, chg1_new r hc]
    show Idx c _ (putN _ _ _)
    rw [putN_yes (entB_64 _ hk) (by simp)]
    exact (h.idx c hc).put (h.rows.none_ hn) r (putK_new hn r)
theorem TOk.was {l : List KR} {J : Nat → List Pr} (h : TOk l J) {k : List Nat} {r s : Ro} (hg : getK l k = some s) (hb : Byt k) (hk : keyB k = true) (hr : r.ok) : TOk (putK l k r) (turnI k J (some s) (some r)) := by
  refine ⟨h.rows.put hb hk hr, ?_, fun c hc => ?_⟩
  · rw [turnI_4, h.lin, putL_lines]
    exact putN_yes (keyB_64 hk) (enc_256 hr)
  · have h1 := delK_perm hg
    have h2 := putK_was hg r
    rw [turnI_at _ _ _ _ hc, chg1_two s r hc]
    by_cases e : s.at c = r.at c
    · rw [if_pos e]
      exact (h.idx c hc).same h1 h2 e
    · rw [if_neg e]
      show Idx c _ (putN (delN _ _) _ _)
      rw [delN_yes (entB_64 _ hk) ((h.idx c hc).has (getK_mem hg)), putN_yes (entB_64 _ hk) (by simp)]
      exact ((h.idx c hc).del h1).put (h.rows.gone hg) r h2
theorem TOk.del {l : List KR} {J : Nat → List Pr} (h : TOk l J) {k : List Nat} {s : Ro} (hg : getK l k = some s) (hk : keyB k = true) : TOk (delK l k) (turnI k J (some s) none) := by
  refine ⟨h.rows.del k, ?_, fun c hc => ?_⟩
  · rw [turnI_4, h.lin, delL_lines]
    exact delN_yes (keyB_64 hk) (by rw [getL_lines, hg]; rfl)
  · rw [turnI_at _ _ _ _ hc, chg1_old s hc]
    show Idx c _ (delN _ _)
    rw [delN_yes (entB_64 _ hk) ((h.idx c hc).has (getK_mem hg))]
    exact (h.idx c hc).del (delK_perm hg)
theorem TOk.len {l : List KR} {J : Nat → List Pr} (h : TOk l J) {c : Nat} (hc : c < 5) : (J c).length = l.length := by
  by_cases h4 : c = 4
  · rw [h4, h.lin, lines_len]
  · exact (h.idx c (by omega)).len

/-! What a table's calls answer. -/
def kgetR (l : List KR) (k : List Nat) : Ro := if keyB k = true then (getK l k).getD zero4 else zero4
def kgetE (l : List KR) (k : List Nat) : Int := if keyB k = true then (if (getK l k).isSome = true then 0 else 14) else 13
def kputE (most : Nat) (l : List KR) (k : List Nat) : Int := if keyB k = true then (if (getK l k).isSome = true then 0 else if most ≤ l.length then 16 else 0) else 13
def kputW (l : List KR) (k : List Nat) : Bool := keyB k && (getK l k).isSome
def kputN (most : Nat) (l : List KR) (k : List Nat) (r : Ro) : List KR := if kputE most l k = 0 then putK l k r else l
def kdelN (l : List KR) (k : List Nat) : List KR := if kgetE l k = 0 then delK l k else l
theorem delK_len {l : List KR} {k : List Nat} {r : Ro} (h : getK l k = some r) : (delK l k).length + 1 = l.length := by
  have := (delK_perm h).length_eq
  simp at this; omega
theorem kputN_len (most : Nat) (l : List KR) (k : List Nat) (r : Ro) : (kputN most l k r).length ≤ l.length + 1 := by
  unfold kputN
  split
  · cases hg : getK l k with
    | none => have := (putK_new hg r).length_eq; simp at this; omega
    | some s =>
      have h1 := (putK_was hg r).length_eq
      have h2 := delK_len hg
      simp at h1; omega
  · omega
theorem kputN_most {most : Nat} {l : List KR} (h : l.length ≤ most) (k : List Nat) (r : Ro) : (kputN most l k r).length ≤ most := by
  unfold kputN kputE
  cases hk : keyB k with
  | false => simp; exact h
  | true =>
    cases hg : getK l k with
    | none =>
      simp only [if_true, Option.isSome_none, Bool.false_eq_true, if_false]
      by_cases hm : most ≤ l.length
      · rw [if_pos hm, if_neg (by decide)]; exact h
      · rw [if_neg hm, if_pos rfl]
        have := (putK_new hg r).length_eq
        simp at this; omega
    | some s =>
      simp only [if_true, Option.isSome_some]
      have h1 := (putK_was hg r).length_eq
      have h2 := delK_len hg
      simp at h1; omega
theorem kdelN_len (l : List KR) (k : List Nat) : (kdelN l k).length ≤ l.length := by
  unfold kdelN
  split
  · unfold delK
    simp; omega
  · exact Nat.le_refl _
theorem RowsOk.kput {l : List KR} (h : RowsOk l) (most : Nat) {k : List Nat} {r : Ro} (hb : Byt k) (hr : r.ok) : RowsOk (kputN most l k r) := by
  unfold kputN
  by_cases he : kputE most l k = 0
  · rw [if_pos he]
    cases hk : keyB k with
    | false => unfold kputE at he; rw [hk] at he; simp at he
    | true => exact h.put hb hk hr
  · rw [if_neg he]; exact h
theorem RowsOk.kdel {l : List KR} (h : RowsOk l) (k : List Nat) : RowsOk (kdelN l k) := by
  unfold kdelN
  split
  · exact h.del k
  · exact h
end Go.Proofs.YtlnagdodnkhbmaaGreat

/- A table in memory: its block, its five trees; what turns when one tree turns. -/
namespace Go.Proofs.YtlnagdodnkhbmaaGreat
open Go.RowKit
set_option maxRecDepth 100000

theorem TreeAt.mono {w : World} {p o : Nat} {l : List Pr} {P P' : Bl} (h : TreeAt w p o l P) (hP : ∀ b, P b → P' b) (hu : Under P' w) (ho : ¬ P' p) : TreeAt w p o l P' :=
  let ⟨H, g, t, h⟩ := h
  ⟨H, g, t, h.c, NodeAt.mono hP h.node, hu, ho, h.ok, h.fl, h.rise, h.byt, h.o2, h.o16⟩

def five (p : Nat → Nat) : List Nat := [p 0, p 1, p 2, p 3, p 4]
theorem mem_five {p : Nat → Nat} {k : Nat} : k ∈ five p ↔ ∃ i, i < 5 ∧ k = p i := by
  unfold five
  constructor
  · intro h
    simp at h
    rcases h with h | h | h | h | h
    · exact ⟨0, by omega, h⟩
    · exact ⟨1, by omega, h⟩
    · exact ⟨2, by omega, h⟩
    · exact ⟨3, by omega, h⟩
    · exact ⟨4, by omega, h⟩
  · rintro ⟨i, hi, rfl⟩
    match i with
    | 0 => simp
    | 1 => simp
    | 2 => simp
    | 3 => simp
    | 4 => simp
    | i + 5 => omega
def ptr (b : Nat) : Value := .pointer (some ⟨b, 0, none⟩)
def tcells (most : Nat) (p : Nat → Nat) : Array Value := #[.int .i64 (most : Int), ptr (p 0), ptr (p 1), ptr (p 2), ptr (p 3), ptr (p 4)]
/-- Block T is a table: so many rows at most; tree i lies at block p i and has the pairs J i, on blocks of Q. -/
structure TabI (w : World) (T : Nat) (p : Nat → Nat) (Q : Bl) (most o : Nat) (J : Nat → List Pr) : Prop where
  c : w.heap[T]? = some (.cells (tcells most p) 107 (0, 0))
  t : ∀ i, i < 5 → TreeAt w (p i) o (J i) Q
  ne : ∀ i j, i < 5 → j < 5 → p i = p j → i = j
  nT : ∀ i, i < 5 → p i ≠ T
section
variable {w w' : World} {T : Nat} {p : Nat → Nat} {Q : Bl} {most o : Nat} {J : Nat → List Pr}
theorem TabI.lt (h : TabI w T p Q most o J) : T < w.heap.size := (Array.getElem?_eq_some_iff.1 h.c).1
theorem TabI.plt (h : TabI w T p Q most o J) {i : Nat} (hi : i < 5) : p i < w.heap.size := (h.t i hi).lt
theorem TabI.under (h : TabI w T p Q most o J) : Under Q w := (h.t 0 (by omega)).under
theorem TabI.out (h : TabI w T p Q most o J) {i : Nat} (hi : i < 5) : ¬ Q (p i) := (h.t i hi).out
theorem TabI.c0 (h : TabI w T p Q most o J) : w.cell? ⟨T, 0, none⟩ = some (.int .i64 (most : Int)) := cell_of_row w T 0 _ _ _ h.c
theorem TabI.cp (h : TabI w T p Q most o J) {i : Nat} (hi : i < 5) : w.cell? ⟨T, 1 + i, none⟩ = some (.pointer (some ⟨p i, 0, none⟩)) := by
  rw [cell_of_row w T (1 + i) _ _ _ h.c]
  match i with
  | 0 => rfl
  | 1 => rfl
  | 2 => rfl
  | 3 => rfl
  | 4 => rfl
  | i + 5 => omega
theorem TabI.c5 (h : TabI w T p Q most o J) : w.cell? ⟨T, 5, none⟩ = some (.pointer (some ⟨p 4, 0, none⟩)) := h.cp (i := 4) (by omega)
theorem TabI.f (h : TabI w T p Q most o J) (i : Nat) : w.frozen? ⟨T, i, none⟩ = false := by have h := h.c; simp [World.frozen?, h]
theorem TabI.keep (h : TabI w T p Q most o J) (hT : w'.heap[T]? = w.heap[T]?) (hp : ∀ i, i < 5 → w'.heap[p i]? = w.heap[p i]?) (hQ : ∀ b, Q b → w'.heap[b]? = w.heap[b]?) (hs : w.heap.size ≤ w'.heap.size) : TabI w' T p Q most o J :=
  ⟨hT.trans h.c, fun i hi => (h.t i hi).keep (hp i hi) hQ hs, h.ne, h.nT⟩
theorem TabI.below (h : TabI w T p Q most o J) (hb : Below w.heap.size w w') : TabI w' T p Q most o J :=
  h.keep (hb.block T h.lt) (fun _i hi => hb.block _ (h.plt hi)) (fun b hQ => hb.block b (h.under b hQ)) hb.size
theorem TabI.drewN (h : TabI w T p Q most o J) (n : Nat) : TabI (w.drewN n) T p Q most o J := h.below (below_drewN' (Below.refl _ _) n)
/-- What turns other blocks leaves a table as it was. -/
theorem TabI.chg {F F' : List Nat} (h : TabI w T p Q most o J) (hc : Chg F w w' F') (hT : T ∉ F) (hp : ∀ i, i < 5 → p i ∉ F) (hQ : ∀ b ∈ F, ¬ Q b) : TabI w' T p Q most o J :=
  h.keep (hc.block T h.lt hT) (fun i hi => hc.block _ (h.plt hi) (hp i hi)) (fun b hb => hc.block b (h.under b hb) fun hF => hQ b hF hb) hc.size
theorem TabI.news (h : TabI w T p Q most o J) (_hs : w.heap.size ≤ w'.heap.size) {i : Nat} (hi : i < 5) : ¬ New Q w w' (p i) := by
  rintro (hh | hh)
  · exact h.out hi hh
  · have := h.plt hi; omega
/-- One tree turned. -/
theorem TabI.turn (h : TabI w T p Q most o J) {i : Nat} (hi : i < 5) {l' : List Pr} (hd : Done Q w w' (p i) o l') : TabI w' T p (New Q w w') most o (fun c => if c = i then l' else J c) ∧ Chg (five p) w w' (five p) := by
  have hc := hd.2
  refine ⟨⟨(hc.block T h.lt (by have := h.nT i hi; simp; exact fun e => this e.symm)).trans h.c, fun j hj => ?_, h.ne, h.nT⟩, hc.wide2 fun k hk => by simp at hk; rw [hk]; exact mem_five.2 ⟨i, hi, rfl⟩⟩
  by_cases e : j = i
  · subst e
    rw [if_pos rfl]
    exact hd.tree
  · rw [if_neg e]
    have h1 := (h.t j hj).chg hc (by simp; exact fun e' => e (h.ne j i hj hi e')) (fun b hb => by simp at hb; rw [hb]; exact h.out hi)
    exact h1.mono (fun b hb => .inl hb) (h.under.new hc.size) (h.news hc.size hj)
theorem TabI.more (h : TabI w T p Q most o J) {Q' : Bl} (hP : ∀ b, Q b → Q' b) (hu : Under Q' w) (ho : ∀ i, i < 5 → ¬ Q' (p i)) : TabI w T p Q' most o J :=
  ⟨h.c, fun i hi => (h.t i hi).mono hP hu (ho i hi), h.ne, h.nT⟩
end
/-- Two steps: the nodes that were new at each are new. -/
theorem TabI.join {w a b : World} {T : Nat} {p : Nat → Nat} {Q : Bl} {most o : Nat} {J : Nat → List Pr} (h0 : ∀ i, i < 5 → p i < w.heap.size ∧ ¬ Q (p i)) (h1 : w.heap.size ≤ a.heap.size) (h2 : a.heap.size ≤ b.heap.size) (hu : Under Q w)
    (h : TabI b T p (New (New Q w a) a b) most o J) : TabI b T p (New Q w b) most o J := by
  refine h.more (fun k hk => New.trans h1 h2 hk) (hu.new (Nat.le_trans h1 h2)) fun i hi => ?_
  rintro (hh | hh)
  · exact (h0 i hi).2 hh
  · have := (h0 i hi).1; omega

/-- A row that a pointer tells, in a block of its own; or none. -/
def LRow (w : World) (v : Value) : Option Ro → Prop
  | none => v = .pointer none
  | some r => ∃ g, v = .pointer (some ⟨g, 0, none⟩) ∧ Lies w g r
theorem LRow.prow {w : World} {v : Value} {o : Option Ro} (h : LRow w v o) : PRow w v o := by
  cases o with
  | none => exact h
  | some r =>
    obtain ⟨g, hp, hl⟩ := h
    exact ⟨g, 0, hp, fun k x hx => by rw [Nat.zero_add]; exact hl.cell hx⟩
theorem LRow.below {w w' : World} {v : Value} {o : Option Ro} (h : LRow w v o) (hb : Below w.heap.size w w') : LRow w' v o := by
  cases o with
  | none => exact h
  | some r =>
    obtain ⟨g, hp, hl⟩ := h
    exact ⟨g, hp, hl.below hb⟩
theorem LRow.chg {w w' : World} {v : Value} {o : Option Ro} {F F' : List Nat} (h : LRow w v o) (hc : Chg F w w' F') (hF : ∀ g r, w.heap[g]? = some (.cells (rowc r) 41 (0, 0)) → g ∉ F) : LRow w' v o := by
  cases o with
  | none => exact h
  | some r =>
    obtain ⟨g, hp, hl⟩ := h
    exact ⟨g, hp, hl.keep (hc.block g hl.lt (hF g r hl))⟩
/-- A tree's block is no row's. -/
theorem TreeAt.not_row {w : World} {a o g : Nat} {l : List Pr} {P : Bl} {r : Ro} (h : TreeAt w a o l P) (hl : Lies w g r) : g ≠ a := by
  obtain ⟨H, n, t, h⟩ := h
  rintro rfl
  have h1 := h.c
  unfold TreeC at h1
  unfold Lies at hl
  rw [h1] at hl
  injection hl with hl
  injection hl with _ ht
  exact absurd ht (by decide)
theorem TabI.rows {w : World} {T : Nat} {p : Nat → Nat} {Q : Bl} {most o : Nat} {J : Nat → List Pr} (h : TabI w T p Q most o J) {g : Nat} {r : Ro} (hl : Lies w g r) : g ∉ five p := fun hm => by
  obtain ⟨i, hi, e⟩ := mem_five.1 hm
  exact (h.t i hi).not_row hl e
end Go.Proofs.YtlnagdodnkhbmaaGreat

/- turn: a key's row turns from one to another one, and all indexes with it. -/
namespace Go.Proofs.YtlnagdodnkhbmaaGreat
open Go.RowKit
set_option maxRecDepth 100000

/-- A change in a slice, cell by cell. -/
def CAt (key : ByteArray) (w : World) (a : Addr) (c : Cg) : Prop :=
  w.cell? a = some (.int .i64 (c.1 : Int)) ∧ w.cell? { block := a.block, off := a.off + 1, spot := none } = some (.int .i64 c.2.1) ∧ w.cell? { block := a.block, off := a.off + 2, spot := none } = some (.string key) ∧ w.cell? { block := a.block, off := a.off + 3, spot := none } = some (.bool c.2.2)
theorem add_off (a : Addr) (i j : Nat) : a.add (i + (j + 1)) = { block := (a.add i).block, off := (a.add i).off + (j + 1), spot := none } := by
  rw [← add_add', Addr.add_succ']
theorem Elems.cat {key : ByteArray} {w : World} {A : Option Addr} {n cap i : Nat} {l : List Cg} {c : Cg} (h : Elems 4 (cC key) w (.slice A n cap) l) (hi : l[i]? = some c) : ∃ ad, A = some ad ∧ CAt key w (ad.add (i * 4)) c := by
  obtain ⟨ad, hA, h0⟩ := h.cell (cC_len key) hi (j := 0) rfl
  obtain ⟨ad1, hA1, h1⟩ := h.cell (cC_len key) hi (j := 1) rfl
  obtain ⟨ad2, hA2, h2⟩ := h.cell (cC_len key) hi (j := 2) rfl
  obtain ⟨ad3, hA3, h3⟩ := h.cell (cC_len key) hi (j := 3) rfl
  subst hA
  injection hA1 with hA1; injection hA2 with hA2; injection hA3 with hA3
  subst hA1; subst hA2; subst hA3
  rw [add_off ad _ 0] at h1
  rw [add_off ad _ 1] at h2
  rw [add_off ad _ 2] at h3
  exact ⟨ad, rfl, h0, h1, h2, h3⟩
theorem CAt.below {key : ByteArray} {w w' : World} {a : Addr} {c : Cg} (h : CAt key w a c) (hb : Below w.heap.size w w') : CAt key w' a c :=
  ⟨below_keep hb _ _ h.1, below_keep hb _ _ h.2.1, below_keep hb _ _ h.2.2.1, below_keep hb _ _ h.2.2.2⟩


theorem CAt.new (key : ByteArray) (w : World) (c : Nat) (x : Int) (a : Bool) : CAt key (w.alloc (.cells #[.int .i64 (c : Int), .int .i64 x, .string key, .bool a] 153)) ⟨w.heap.size, 0, none⟩ (c, x, a) :=
  ⟨cell_of_row _ _ 0 _ _ _ (heap_alloc_new w _), cell_of_row _ _ 1 _ _ _ (heap_alloc_new w _), cell_of_row _ _ 2 _ _ _ (heap_alloc_new w _), cell_of_row _ _ 3 _ _ _ (heap_alloc_new w _)⟩
theorem put_raw (w : World) (x : Int) (k : List Nat) (hx : I64 x) (hk : keyB k = true) : Calls Tryz.prog 84 #[.agg #[.int .i64 x, .string (str k)]] w fun e w' => e = .returned (.tuple #[.string (str (entB x k)), .int .i64 0]) ∧ Below w.heap.size w w' := put_ok w x k hx hk
theorem TreeAt.put0 {w : World} {p o : Nat} {l : List Pr} {P : Bl} (h : TreeAt w p o l P) (hl : l.length ≤ 5000) (k : List Nat) (hkb : Byt k) (hk : k.length ≤ 5000) :
    Calls Tryz.prog 81 #[.pointer (some ⟨p, 0, none⟩), .string (str k), .string ⟨#[]⟩] w fun e w' => (∃ v, e = .returned v) ∧ Done P w w' p o (putN l k []) := by
  rw [str_nil]
  refine (h.put hl k [] hkb Byt.nil hk).mono ?_
  rintro e w' ⟨rfl, hd⟩
  exact ⟨⟨_, rfl⟩, hd⟩
theorem TreeAt.del0 {w : World} {p o : Nat} {l : List Pr} {P : Bl} (h : TreeAt w p o l P) (hl : l.length ≤ 5000) (k : List Nat) (hkb : Byt k) (hk : k.length ≤ 5000) :
    Calls Tryz.prog 80 #[.pointer (some ⟨p, 0, none⟩), .string (str k)] w fun e w' => (∃ v, e = .returned v) ∧ Done P w w' p o (delN l k) := by
  refine (h.del hl k hkb hk).mono ?_
  rintro e w' ⟨rfl, hd⟩
  exact ⟨⟨_, rfl⟩, hd⟩
theorem TreeAt.put1 {w : World} {p o : Nat} {l : List Pr} {P : Bl} (h : TreeAt w p o l P) (hl : l.length ≤ 5000) (k v : List Nat) (hkb : Byt k) (hvb : Byt v) (hk : k.length ≤ 5000) :
    Calls Tryz.prog 81 #[.pointer (some ⟨p, 0, none⟩), .string (str k), .string (str v)] w fun e w' => (∃ v, e = .returned v) ∧ Done P w w' p o (putN l k v) := by
  refine (h.put hl k v hkb hvb hk).mono ?_
  rintro e w' ⟨rfl, hd⟩
  exact ⟨⟨_, rfl⟩, hd⟩
theorem rencode_raw (w : World) (r : Ro) (hr : r.ok) : Calls Tryz.prog 82 #[.agg #[.int .i64 r.a, .int .i64 r.b, .int .i64 r.c, .int .i64 r.d]] w (Fresh w (enc r.l)) := rencode w r hr
theorem Lies.four {w : World} {g : Nat} {r : Ro} (h : Lies w g r) : w.cell? ⟨g, 0, none⟩ = some (.int .i64 r.a) ∧ w.cell? ⟨g, 1, none⟩ = some (.int .i64 r.b) ∧ w.cell? ⟨g, 2, none⟩ = some (.int .i64 r.c) ∧ w.cell? ⟨g, 3, none⟩ = some (.int .i64 r.d) := h.cells.1
theorem stepI_len (k : List Nat) (J : Nat → List Pr) (g : Cg) (c : Nat) : (stepI k J g c).length ≤ (J c).length + 1 := by
  unfold stepI
  split
  · unfold step1
    split
    · exact putN_len _ _ _
    · have := delN_len (J c) (entB g.2.1 k); omega
  · omega
theorem lineI_len (k : List Nat) (J : Nat → List Pr) (n : Option Ro) (c : Nat) : (lineI k J n c).length ≤ (J c).length + 1 := by
  unfold lineI
  split
  · rename_i h; subst h
    cases n with
    | none => have := delN_len (J 4) k; dsimp only; omega
    | some r => exact putN_len _ _ _
  · omega
theorem foldI_len (k : List Nat) (c : Nat) : ∀ (L : List Cg) (J : Nat → List Pr), (L.foldl (stepI k) J c).length ≤ (J c).length + L.length
  | [], J => by simp
  | g :: L, J => by
    have h1 := foldI_len k c L (stepI k J g)
    have h2 := stepI_len k J g c
    rw [List.foldl_cons, List.length_cons]; omega
theorem one_val {o : Option Ro} {k : Nat} {a : Bool} (ho : ∀ r, o = some r → r.ok) : ∀ g ∈ one o k a, I64 g.2.1 := by
  intro g hg
  unfold one at hg
  cases o with
  | none => simp at hg
  | some r =>
    dsimp only at hg
    cases hx : r.l[k]? with
    | none => rw [hx] at hg; simp at hg
    | some x => rw [hx] at hg; simp at hg; rw [hg]; exact ho r rfl x (List.mem_of_getElem? hx)
theorem upto_val {o n : Option Ro} (ho : ∀ r, o = some r → r.ok) (hn : ∀ r, n = some r → r.ok) : ∀ (m : Nat), ∀ g ∈ upto o n m, I64 g.2.1
  | 0, g, hg => by simp [upto] at hg
  | m + 1, g, hg => by
    rw [upto_succ] at hg
    rcases List.mem_append.1 hg with hg | hg
    · exact upto_val ho hn m g hg
    · unfold chg1 at hg
      split at hg
      · cases hg
      · rcases List.mem_append.1 hg with hg | hg
        · exact one_val ho g hg
        · exact one_val hn g hg
/-- What has turned in the trees, since W, before which no node of Q was new. -/
structure TurnRel (W wr : World) (T : Nat) (p : Nat → Nat) (Q : Bl) (most o : Nat) (J : Nat → List Pr) : Prop where
  t : TabI wr T p (New Q W wr) most o J
  c : Chg (five p) W wr (five p)
section
variable {W wr w' : World} {T : Nat} {p : Nat → Nat} {Q : Bl} {most o : Nat} {J : Nat → List Pr}
theorem TurnRel.below (h : TurnRel W wr T p Q most o J) (hb : Below wr.heap.size wr w') : TurnRel W w' T p Q most o J := by
  have h1 := h.t.below hb
  have hs := h.c.size
  have hs2 := hb.size
  refine ⟨h1.more (fun b hn => New.later hs2 hn) (fun b hn => ?_) (fun i hi => ?_), h.c.step_below hb⟩
  · rcases hn with hn | hn
    · exact h1.under b (.inl hn)
    · exact hn.2
  · rintro (hn | hn)
    · exact h.t.out hi (.inl hn)
    · have h3 := h.t.plt hi
      rcases Nat.lt_or_ge (p i) wr.heap.size with h4 | h4
      · exact h.t.out hi (.inr ⟨hn.1, h4⟩)
      · omega
theorem TurnRel.start (h : TabI w' T p Q most o J) : TurnRel w' w' T p Q most o J :=
  ⟨h.more (fun _ hb => .inl hb) (h.under.new (Nat.le_refl _)) (fun _ hi => h.news (Nat.le_refl _) hi), Chg.refl _ _⟩
theorem TurnRel.step (h : TurnRel W wr T p Q most o J) (hW : ∀ i, i < 5 → p i < W.heap.size ∧ ¬ Q (p i)) (hu : Under Q W) {i : Nat} (hi : i < 5) {l' : List Pr} (hd : Done (New Q W wr) wr w' (p i) o l') :
    TurnRel W w' T p Q most o (fun c => if c = i then l' else J c) := by
  obtain ⟨h1, h2⟩ := h.t.turn hi hd
  exact ⟨TabI.join hW h.c.size h2.size hu h1, h.c.trans h2⟩
end
set_option maxHeartbeats 2000000 in
theorem turn_none (w : World) (T : Nat) (p : Nat → Nat) (Q : Bl) (most o : Nat) (J : Nat → List Pr) (k : List Nat) (vo : Value) (ro : Option Ro) (hT : TabI w T p Q most o J) (hb : Byt k) (hk : keyB k = true) (hl : ∀ i, i < 5 → (J i).length ≤ 2000)
    (ho : LRow w vo ro) (hro : ∀ r, ro = some r → r.ok) :
    Calls Tryz.prog 52 #[.pointer (some ⟨T, 0, none⟩), .string (str k), vo, .pointer none] w fun e w' => (∃ v, e = .returned v) ∧ TurnRel w w' T p Q most o (turnI k J ro (none)) := by
  have HT := hid hT
  have HB := hid hb
  have HO := hid ho
  have HRO := hid hro
  have HL := hid hl
  have hkl := keyB_yes hk
  have hce := checkE_yes hk
  have HPW : Hid (∀ i, i < 5 → p i < w.heap.size ∧ ¬ Q (p i)) := fun i hi => ⟨hT.plt hi, hT.out hi⟩
  have HU : Hid (Under Q w) := hT.under
  have HSE := hid str_nil
  have c5 := hT.c5
  have HK := hid hk
  clear hT hb hk hl ho hro
  go_enter Tryz.func52, Tryz.ntmps52
  refine wp_scope_straight ?_
  go_wp2_with fail
  refine ((HT.out.t 4 (by omega)).del (by have := HL.out 4 (by omega); omega) k HB.out (by omega)).mono ?_
  rintro e w1 ⟨rfl, hd⟩
  have HR1 : Hid (TurnRel w w1 T p Q most o (lineI k J none)) := by
    obtain ⟨h1, h2⟩ := HT.out.turn (by omega : 4 < 5) hd
    exact ⟨h1, h2⟩
  have HO1 : Hid (LRow w1 vo ro) := HO.out.chg HR1.out.c fun g r h => HT.out.rows h
  have HN1 : Hid (LRow w1 (.pointer none) none) := rfl
  clear hd c5
  have HLI : Hid (∀ c, c < 5 → (lineI k J (none) c).length ≤ 2001) := fun c hc => by have := lineI_len k J (none) c; have := HL.out c hc; omega
  go_wp2_with fail
  refine (changes_any w1 k vo (.pointer none) ro (none) HO1.out.prow HN1.out.prow).mono ?_
  rw [hce, if_pos HK.out]
  rintro e w2 ⟨u, rfl, hu, hb2, hf2⟩
  obtain ⟨A, n, cp, rfl⟩ := hu.form
  have hn := hu.cap.1
  obtain ⟨L, HLL⟩ : ∃ L, Hid (L = upto ro (none) 4) := ⟨_, rfl⟩
  have HCO : Hid (∀ g ∈ L, g.1 < 4 ∧ I64 g.2.1) := fun g hg => by rw [HLL.out] at hg; exact ⟨upto_col 4 g hg, upto_val HRO.out (fun r e => by cases e) 4 g hg⟩
  have hL8 : L.length ≤ 8 := by rw [HLL.out]; exact upto_len _ _ 4
  rw [← HLL.out] at hu hn
  have HR2 := hid (HR1.out.below hb2)
  have HE := hid hu
  have HF : Hid (∀ b ∈ ownFoot (Value.slice A n cp), b ∉ five p) := fun b hbm hm => by
    obtain ⟨i, hi, e⟩ := mem_five.1 hm
    have h1 := (HPW.out i hi).1
    have h2 := hf2 b hbm
    have h3 := HR1.out.c.size
    omega
  have HN := hid hn
  have hn8 : n ≤ 8 := by omega
  clear hu hb2 hf2 hn hL8
  go_wp2
  refine wp_label ?_
  dsimp only [Exit.then]
  go_wp2
  go_loopw [44] (fun i wr => ∃ j : Nat, j ≤ n ∧ i = .int .i64 j ∧ TurnRel w wr T p Q most o ((L.take j).foldl (stepI k) (lineI k J (none))) ∧ Elems 4 (cC (str k)) wr (.slice A n cp) L) (fun i _ => n - (intOf i).toNat)
  case atStart => exact ⟨0, by omega, rfl, HR2.out, HE.out⟩
  case round =>
    obtain ⟨j, hj, rfl, hrl, hel⟩ := hrel
    have HR := hid hrl
    have HEL := hid hel
    by_cases hlt : j < n
    · have hlti : (j : Int) < n := by omega
      obtain ⟨g, hg⟩ : ∃ g, L[j]? = some g := ⟨L[j]'(by have := HN.out; omega), List.getElem?_eq_getElem _⟩
      obtain ⟨col, x, a⟩ := g
      obtain ⟨ad, rfl, hat⟩ := hel.cat hg
      obtain ⟨q0, q1, q2, q3⟩ := hat
      have HBL : Hid (ad.block < wr.heap.size) := by have := blk_lt q0; rwa [add_blk] at this
      dsimp only at q0 q1 q2 q3
      obtain ⟨hc4, hx⟩ := HCO.out _ (List.mem_of_getElem? hg)
      dsimp only at hc4 hx
      have hc0 : (0 : Int) ≤ (col : Int) := by omega
      have hc5 : (col : Int) < 5 := by omega
      have HX := hid hx
      have HSTEP : Hid ((L.take (j + 1)).foldl (stepI k) (lineI k J (none)) = stepI k ((L.take j).foldl (stepI k) (lineI k J (none))) (col, x, a)) := by
        show _ = _
        rw [List.take_add_one, hg, List.foldl_append]
        rfl
      obtain ⟨JJ, HJJ⟩ : ∃ JJ, Hid (JJ = (L.take j).foldl (stepI k) (lineI k J (none))) := ⟨_, rfl⟩
      rw [← HJJ.out] at HR HSTEP
      have HLJ : Hid ((JJ col).length ≤ 5000) := by
        show _ ≤ _
        rw [HJJ.out]
        have h1 := foldI_len k col (L.take j) (lineI k J (none))
        have h2 := HLI.out col (by omega)
        rw [List.length_take] at h1
        omega
      have HNA := hid (CAt.new (str k) wr col x a)
      obtain ⟨n0, n1, n2, n3⟩ := HNA.out
      dsimp only at n0 n1 n2 n3
      clear hg hx hrl hel
      go_wp2_with fail
      refine (put_raw _ x k HX.out HK.out).mono ?_
      rintro e w3 ⟨rfl, hb3⟩
      have HB3 := hid hb3
      have HBA : Hid (Below wr.heap.size wr (wr.alloc (.cells #[.int .i64 (col : Int), .int .i64 x, .string (str k), .bool a] 153))) := (Below.refl _ _).alloc (Nat.le_refl _) _
      have HR3 := hid ((HR.out.below HBA.out).below hb3)
      have HE3 := hid ((HEL.out.below HBA.out).below hb3)
      have HN3 := hid (HNA.out.below hb3)
      have HEF : Hid (∀ w4 : World, Chg (five p) w3.drew w4 (five p) → Elems 4 (cC (str k)) w4 (.slice (some ad) n cp) L) := fun w4 hc4 =>
        HE3.out.keep fun b hbm => by
          have hlt3 : b < w3.heap.size := by
            have h1 : b = ad.block := by simpa [ownFoot, Value.ownBlock] using hbm
            have h2 := HBL.out
            have h3 := HBA.out.size
            have h4 := HB3.out.size
            omega
          exact hc4.block b hlt3 (HF.out b hbm)
      clear hb3 n0 n1 n2 n3 q0 q1 q2 q3
      obtain ⟨n0, n1, n2, n3⟩ := HN3.out
      dsimp only at n0 n1 n2 n3
      have cc := HR3.out.t.cp (i := col) (by omega)
      have HR3D : Hid (TurnRel w w3.drew T p Q most o JJ) := HR3.out.below (below_drew' _)
      have HNE : Hid (∀ w4 : World, Chg [p col] w3.drew w4 [p col] → w4.cell? ⟨wr.heap.size, 0, none⟩ = some (.int .i64 (col : Int)) ∧ w4.cell? ⟨T, 1 + col, none⟩ = some (.pointer (some ⟨p col, 0, none⟩))) := fun w4 hc4 => by
        have h1 := (HPW.out col (by omega)).1
        have h2 := HR.out.c.size
        have h3 := HT.out.nT col (by omega)
        exact ⟨chg_cell (w := w3.drew) hc4 n0 (by simp; omega), chg_cell (w := w3.drew) hc4 cc (by simp; omega)⟩
      cases a with
      | true =>
        go_wp2_with fail
        go_region_held3 (fun W => W.cell? ⟨wr.heap.size, 0, none⟩ = some (.int .i64 (col : Int)) ∧ W.cell? ⟨T, 1 + col, none⟩ = some (.pointer (some ⟨p col, 0, none⟩))) (first | exact ⟨n0, cc⟩ | exact HS4.out)
          (first | (go_at_call 81; ((with_reducible refine ((HR3D.out.t.t col (by omega)).put0 HLJ.out (entB x k) (entB_byt x HB.out) (by rw [entB_len]; omega)).mono ?_); rintro e w4 ⟨⟨v4, rfl⟩, hd4⟩; have HD4 := hid hd4; have HS4 : Hid (w4.cell? ⟨wr.heap.size, 0, none⟩ = some (.int .i64 (col : Int)) ∧ w4.cell? ⟨T, 1 + col, none⟩ = some (.pointer (some ⟨p col, 0, none⟩))) := HNE.out w4 hd4.2; clear hd4)))
        have HR4 := hid (HR3D.out.step HPW.out HU.out (by omega) HD4.out)
        go_wp2
        go_roundw
        case rel =>
          refine ⟨j + 1, by omega, by go_num, ?_, HEF.out w4 (HD4.out.2.wide2 fun b hb => by simp at hb; rw [hb]; exact mem_five.2 ⟨col, by omega, rfl⟩)⟩
          rw [HSTEP.out]
          have e : stepI k JJ (col, x, true) = fun c => if c = col then putN (JJ col) (entB x k) [] else JJ c := by
            funext c
            unfold stepI step1
            by_cases hc : c = col
            · subst hc; rfl
            · dsimp only; rw [if_neg hc, if_neg hc]
          rw [e]; exact HR4.out
        case measure => simp [intOf]; omega
      | false =>
        go_wp2_with fail
        go_region_held3 (fun W => W.cell? ⟨wr.heap.size, 0, none⟩ = some (.int .i64 (col : Int)) ∧ W.cell? ⟨T, 1 + col, none⟩ = some (.pointer (some ⟨p col, 0, none⟩))) (first | exact ⟨n0, cc⟩ | exact HS4.out)
          (first | (go_at_call 80; ((with_reducible refine ((HR3D.out.t.t col (by omega)).del0 HLJ.out (entB x k) (entB_byt x HB.out) (by rw [entB_len]; omega)).mono ?_); rintro e w4 ⟨⟨v4, rfl⟩, hd4⟩; have HD4 := hid hd4; have HS4 : Hid (w4.cell? ⟨wr.heap.size, 0, none⟩ = some (.int .i64 (col : Int)) ∧ w4.cell? ⟨T, 1 + col, none⟩ = some (.pointer (some ⟨p col, 0, none⟩))) := HNE.out w4 hd4.2; clear hd4)))
        have HR4 := hid (HR3D.out.step HPW.out HU.out (by omega) HD4.out)
        go_wp2
        go_roundw
        case rel =>
          refine ⟨j + 1, by omega, by go_num, ?_, HEF.out w4 (HD4.out.2.wide2 fun b hb => by simp at hb; rw [hb]; exact mem_five.2 ⟨col, by omega, rfl⟩)⟩
          rw [HSTEP.out]
          have e : stepI k JJ (col, x, false) = fun c => if c = col then delN (JJ col) (entB x k) else JJ c := by
            funext c
            unfold stepI step1
            by_cases hc : c = col
            · subst hc; rfl
            · dsimp only; rw [if_neg hc, if_neg hc]
          rw [e]; exact HR4.out
        case measure => simp [intOf]; omega
    · obtain rfl : j = n := by omega
      have hall : L.take j = L := List.take_of_length_le (by have := HN.out; omega)
      rw [hall, HLL.out] at HR
      go_wp2
      dsimp only [Exit.noGoto]
      refine bodyPost_end (results_none rfl _ _ _) rfl ?_
      exact ⟨⟨_, rfl⟩, HR.out⟩
set_option maxHeartbeats 2000000 in
theorem turn_some (w : World) (T : Nat) (p : Nat → Nat) (Q : Bl) (most o : Nat) (J : Nat → List Pr) (k : List Nat) (vo : Value) (ro : Option Ro) (vn : Value) (r : Ro) (hT : TabI w T p Q most o J) (hb : Byt k) (hk : keyB k = true) (hl : ∀ i, i < 5 → (J i).length ≤ 2000)
    (ho : LRow w vo ro) (hro : ∀ r, ro = some r → r.ok) (hn : LRow w vn (some r)) (hr : r.ok) :
    Calls Tryz.prog 52 #[.pointer (some ⟨T, 0, none⟩), .string (str k), vo, vn] w fun e w' => (∃ v, e = .returned v) ∧ TurnRel w w' T p Q most o (turnI k J ro (some r)) := by
  have HT := hid hT
  have HB := hid hb
  have HO := hid ho
  have HRO := hid hro
  have HL := hid hl
  have hkl := keyB_yes hk
  have hce := checkE_yes hk
  have HPW : Hid (∀ i, i < 5 → p i < w.heap.size ∧ ¬ Q (p i)) := fun i hi => ⟨hT.plt hi, hT.out hi⟩
  have HU : Hid (Under Q w) := hT.under
  have HSE := hid str_nil
  have c5 := hT.c5
  have HK := hid hk
  have HRR := hid hr
  obtain ⟨g, rfl, hlies⟩ := hn
  have HG := hid hlies
  obtain ⟨r0, r1, r2, r3⟩ := HG.out.four
  have HRD : Hid (TurnRel w w.drew T p Q most o J) := (TurnRel.start hT).below (below_drew' w)
  have HGD : Hid (Lies w.drew g r) := hlies
  clear hT hb hk hl ho hro hr hlies
  go_enter Tryz.func52, Tryz.ntmps52
  refine wp_scope_straight ?_
  go_wp2_with fail
  go_region_held (fun W => W.cell? ⟨T, 5, none⟩ = some (.pointer (some ⟨p 4, 0, none⟩)) ∧ W.cell? ⟨g, 0, none⟩ = some (.int .i64 r.a) ∧ W.cell? ⟨g, 1, none⟩ = some (.int .i64 r.b) ∧ W.cell? ⟨g, 2, none⟩ = some (.int .i64 r.c) ∧ W.cell? ⟨g, 3, none⟩ = some (.int .i64 r.d))
    (first | exact ⟨c5, r0, r1, r2, r3⟩ | exact HS1.out | exact HS2.out)
    (first
      | (go_at_call 82; ((with_reducible refine (rencode_raw _ r HRR.out).mono ?_); rintro e w0 ⟨u, rfl, hu, hb⟩; have HRA := hid (HRD.out.below hb.nil_below); have HGA := hid (HGD.out.below hb.nil_below); have hcv := hu.sl.str (P := Tryz.prog) 113 5 9 Tryz.underlying113 Tryz.underlying5 Tryz.underlying9; have HS1 := hid (And.intro HRA.out.t.c5 HGA.out.four); clear hu hb))
      | (go_at_call 81; ((with_reducible refine ((HRA.out.t.t 4 (by omega)).put1 (by have := HL.out 4 (by omega); omega) k (enc r.l) HB.out (enc_byt _) (by omega)).mono ?_); rintro e w1 ⟨⟨v1, rfl⟩, hd⟩; have HR1 : Hid (TurnRel w w1 T p Q most o (lineI k J (some r))) := (HRA.out.step HPW.out HU.out (by omega : 4 < 5) hd); have HN1 : Hid (LRow w1 (.pointer (some ⟨g, 0, none⟩)) (some r)) := ⟨g, rfl, HGA.out.keep (hd.2.block g HGA.out.lt (by simp; exact (HRA.out.t.t 4 (by omega)).not_row HGA.out))⟩; have HS2 := hid (And.intro HR1.out.t.c5 (Lies.four (let ⟨_, e, h⟩ := HN1.out; by cases e; exact h))); clear hd)))
  have HO1 : Hid (LRow w1 vo ro) := HO.out.chg HR1.out.c fun g r h => HT.out.rows h
  clear c5 r0 r1 r2 r3
  have HLI : Hid (∀ c, c < 5 → (lineI k J (some r) c).length ≤ 2001) := fun c hc => by have := lineI_len k J (some r) c; have := HL.out c hc; omega
  go_wp2_with fail
  refine (changes_any w1 k vo (.pointer (some ⟨g, 0, none⟩)) ro (some r) HO1.out.prow HN1.out.prow).mono ?_
  rw [hce, if_pos HK.out]
  rintro e w2 ⟨u, rfl, hu, hb2, hf2⟩
  obtain ⟨A, n, cp, rfl⟩ := hu.form
  have hn := hu.cap.1
  obtain ⟨L, HLL⟩ : ∃ L, Hid (L = upto ro (some r) 4) := ⟨_, rfl⟩
  have HCO : Hid (∀ g ∈ L, g.1 < 4 ∧ I64 g.2.1) := fun g hg => by rw [HLL.out] at hg; exact ⟨upto_col 4 g hg, upto_val HRO.out (fun s e => by cases e; exact HRR.out) 4 g hg⟩
  have hL8 : L.length ≤ 8 := by rw [HLL.out]; exact upto_len _ _ 4
  rw [← HLL.out] at hu hn
  have HR2 := hid (HR1.out.below hb2)
  have HE := hid hu
  have HF : Hid (∀ b ∈ ownFoot (Value.slice A n cp), b ∉ five p) := fun b hbm hm => by
    obtain ⟨i, hi, e⟩ := mem_five.1 hm
    have h1 := (HPW.out i hi).1
    have h2 := hf2 b hbm
    have h3 := HR1.out.c.size
    omega
  have HN := hid hn
  have hn8 : n ≤ 8 := by omega
  clear hu hb2 hf2 hn hL8
  go_wp2
  refine wp_label ?_
  dsimp only [Exit.then]
  go_wp2
  go_loopw [44] (fun i wr => ∃ j : Nat, j ≤ n ∧ i = .int .i64 j ∧ TurnRel w wr T p Q most o ((L.take j).foldl (stepI k) (lineI k J (some r))) ∧ Elems 4 (cC (str k)) wr (.slice A n cp) L) (fun i _ => n - (intOf i).toNat)
  case atStart => exact ⟨0, by omega, rfl, HR2.out, HE.out⟩
  case round =>
    obtain ⟨j, hj, rfl, hrl, hel⟩ := hrel
    have HR := hid hrl
    have HEL := hid hel
    by_cases hlt : j < n
    · have hlti : (j : Int) < n := by omega
      obtain ⟨g', hg⟩ : ∃ g, L[j]? = some g := ⟨L[j]'(by have := HN.out; omega), List.getElem?_eq_getElem _⟩
      obtain ⟨col, x, a⟩ := g'
      obtain ⟨ad, rfl, hat⟩ := hel.cat hg
      obtain ⟨q0, q1, q2, q3⟩ := hat
      have HBL : Hid (ad.block < wr.heap.size) := by have := blk_lt q0; rwa [add_blk] at this
      dsimp only at q0 q1 q2 q3
      obtain ⟨hc4, hx⟩ := HCO.out _ (List.mem_of_getElem? hg)
      dsimp only at hc4 hx
      have hc0 : (0 : Int) ≤ (col : Int) := by omega
      have hc5 : (col : Int) < 5 := by omega
      have HX := hid hx
      have HSTEP : Hid ((L.take (j + 1)).foldl (stepI k) (lineI k J (some r)) = stepI k ((L.take j).foldl (stepI k) (lineI k J (some r))) (col, x, a)) := by
        show _ = _
        rw [List.take_add_one, hg, List.foldl_append]
        rfl
      obtain ⟨JJ, HJJ⟩ : ∃ JJ, Hid (JJ = (L.take j).foldl (stepI k) (lineI k J (some r))) := ⟨_, rfl⟩
      rw [← HJJ.out] at HR HSTEP
      have HLJ : Hid ((JJ col).length ≤ 5000) := by
        show _ ≤ _
        rw [HJJ.out]
        have h1 := foldI_len k col (L.take j) (lineI k J (some r))
        have h2 := HLI.out col (by omega)
        rw [List.length_take] at h1
        omega
      have HNA := hid (CAt.new (str k) wr col x a)
      obtain ⟨n0, n1, n2, n3⟩ := HNA.out
      dsimp only at n0 n1 n2 n3
      clear hg hx hrl hel
      go_wp2_with fail
      refine (put_raw _ x k HX.out HK.out).mono ?_
      rintro e w3 ⟨rfl, hb3⟩
      have HB3 := hid hb3
      have HBA : Hid (Below wr.heap.size wr (wr.alloc (.cells #[.int .i64 (col : Int), .int .i64 x, .string (str k), .bool a] 153))) := (Below.refl _ _).alloc (Nat.le_refl _) _
      have HR3 := hid ((HR.out.below HBA.out).below hb3)
      have HE3 := hid ((HEL.out.below HBA.out).below hb3)
      have HN3 := hid (HNA.out.below hb3)
      have HEF : Hid (∀ w4 : World, Chg (five p) w3.drew w4 (five p) → Elems 4 (cC (str k)) w4 (.slice (some ad) n cp) L) := fun w4 hc4 =>
        HE3.out.keep fun b hbm => by
          have hlt3 : b < w3.heap.size := by
            have h1 : b = ad.block := by simpa [ownFoot, Value.ownBlock] using hbm
            have h2 := HBL.out
            have h3 := HBA.out.size
            have h4 := HB3.out.size
            omega
          exact hc4.block b hlt3 (HF.out b hbm)
      clear hb3 n0 n1 n2 n3 q0 q1 q2 q3
      obtain ⟨n0, n1, n2, n3⟩ := HN3.out
      dsimp only at n0 n1 n2 n3
      have cc := HR3.out.t.cp (i := col) (by omega)
      have HR3D : Hid (TurnRel w w3.drew T p Q most o JJ) := HR3.out.below (below_drew' _)
      have HNE : Hid (∀ w4 : World, Chg [p col] w3.drew w4 [p col] → w4.cell? ⟨wr.heap.size, 0, none⟩ = some (.int .i64 (col : Int)) ∧ w4.cell? ⟨T, 1 + col, none⟩ = some (.pointer (some ⟨p col, 0, none⟩))) := fun w4 hc4 => by
        have h1 := (HPW.out col (by omega)).1
        have h2 := HR.out.c.size
        have h3 := HT.out.nT col (by omega)
        exact ⟨chg_cell (w := w3.drew) hc4 n0 (by simp; omega), chg_cell (w := w3.drew) hc4 cc (by simp; omega)⟩
      cases a with
      | true =>
        go_wp2_with fail
        go_region_held3 (fun W => W.cell? ⟨wr.heap.size, 0, none⟩ = some (.int .i64 (col : Int)) ∧ W.cell? ⟨T, 1 + col, none⟩ = some (.pointer (some ⟨p col, 0, none⟩))) (first | exact ⟨n0, cc⟩ | exact HS4.out)
          (first | (go_at_call 81; ((with_reducible refine ((HR3D.out.t.t col (by omega)).put0 HLJ.out (entB x k) (entB_byt x HB.out) (by rw [entB_len]; omega)).mono ?_); rintro e w4 ⟨⟨v4, rfl⟩, hd4⟩; have HD4 := hid hd4; have HS4 : Hid (w4.cell? ⟨wr.heap.size, 0, none⟩ = some (.int .i64 (col : Int)) ∧ w4.cell? ⟨T, 1 + col, none⟩ = some (.pointer (some ⟨p col, 0, none⟩))) := HNE.out w4 hd4.2; clear hd4)))
        have HR4 := hid (HR3D.out.step HPW.out HU.out (by omega) HD4.out)
        go_wp2
        go_roundw
        case rel =>
          refine ⟨j + 1, by omega, by go_num, ?_, HEF.out w4 (HD4.out.2.wide2 fun b hb => by simp at hb; rw [hb]; exact mem_five.2 ⟨col, by omega, rfl⟩)⟩
          rw [HSTEP.out]
          have e : stepI k JJ (col, x, true) = fun c => if c = col then putN (JJ col) (entB x k) [] else JJ c := by
            funext c
            unfold stepI step1
            by_cases hc : c = col
            · subst hc; rfl
            · dsimp only; rw [if_neg hc, if_neg hc]
          rw [e]; exact HR4.out
        case measure => simp [intOf]; omega
      | false =>
        go_wp2_with fail
        go_region_held3 (fun W => W.cell? ⟨wr.heap.size, 0, none⟩ = some (.int .i64 (col : Int)) ∧ W.cell? ⟨T, 1 + col, none⟩ = some (.pointer (some ⟨p col, 0, none⟩))) (first | exact ⟨n0, cc⟩ | exact HS4.out)
          (first | (go_at_call 80; ((with_reducible refine ((HR3D.out.t.t col (by omega)).del0 HLJ.out (entB x k) (entB_byt x HB.out) (by rw [entB_len]; omega)).mono ?_); rintro e w4 ⟨⟨v4, rfl⟩, hd4⟩; have HD4 := hid hd4; have HS4 : Hid (w4.cell? ⟨wr.heap.size, 0, none⟩ = some (.int .i64 (col : Int)) ∧ w4.cell? ⟨T, 1 + col, none⟩ = some (.pointer (some ⟨p col, 0, none⟩))) := HNE.out w4 hd4.2; clear hd4)))
        have HR4 := hid (HR3D.out.step HPW.out HU.out (by omega) HD4.out)
        go_wp2
        go_roundw
        case rel =>
          refine ⟨j + 1, by omega, by go_num, ?_, HEF.out w4 (HD4.out.2.wide2 fun b hb => by simp at hb; rw [hb]; exact mem_five.2 ⟨col, by omega, rfl⟩)⟩
          rw [HSTEP.out]
          have e : stepI k JJ (col, x, false) = fun c => if c = col then delN (JJ col) (entB x k) else JJ c := by
            funext c
            unfold stepI step1
            by_cases hc : c = col
            · subst hc; rfl
            · dsimp only; rw [if_neg hc, if_neg hc]
          rw [e]; exact HR4.out
        case measure => simp [intOf]; omega
    · obtain rfl : j = n := by omega
      have hall : L.take j = L := List.take_of_length_le (by have := HN.out; omega)
      rw [hall, HLL.out] at HR
      go_wp2
      dsimp only [Exit.noGoto]
      refine bodyPost_end (results_none rfl _ _ _) rfl ?_
      exact ⟨⟨_, rfl⟩, HR.out⟩
end Go.Proofs.YtlnagdodnkhbmaaGreat

/- A table: Get. -/
namespace Go.Proofs.YtlnagdodnkhbmaaGreat
open Go.RowKit
set_option maxRecDepth 100000

/-- Block T is a table of the rows l, of so many at most. -/
def Tab (w : World) (T : Nat) (p : Nat → Nat) (Q : Bl) (most o : Nat) (l : List KR) : Prop := ∃ J, TabI w T p Q most o J ∧ TOk l J ∧ l.length ≤ most ∧ most ≤ 1024
section
variable {w w' : World} {T : Nat} {p : Nat → Nat} {Q : Bl} {most o : Nat} {l : List KR}
theorem Tab.lt (h : Tab w T p Q most o l) : T < w.heap.size := let ⟨_, h, _⟩ := h; h.lt
theorem Tab.plt (h : Tab w T p Q most o l) {i : Nat} (hi : i < 5) : p i < w.heap.size := let ⟨_, h, _⟩ := h; h.plt hi
theorem Tab.flt (h : Tab w T p Q most o l) : ∀ b ∈ five p, b < w.heap.size := fun b hb => by
  obtain ⟨i, hi, rfl⟩ := mem_five.1 hb
  exact h.plt hi
theorem Tab.under (h : Tab w T p Q most o l) : Under Q w := let ⟨_, h, _⟩ := h; h.under
theorem Tab.out (h : Tab w T p Q most o l) {i : Nat} (hi : i < 5) : ¬ Q (p i) := let ⟨_, h, _⟩ := h; h.out hi
theorem Tab.nT (h : Tab w T p Q most o l) : T ∉ five p := fun hm => by
  obtain ⟨_, h, _⟩ := h
  obtain ⟨i, hi, e⟩ := mem_five.1 hm
  exact h.nT i hi e.symm
theorem Tab.rows (h : Tab w T p Q most o l) : RowsOk l := let ⟨_, _, h, _⟩ := h; h.rows
theorem Tab.le (h : Tab w T p Q most o l) : l.length ≤ 1024 := let ⟨_, _, _, h1, h2⟩ := h; Nat.le_trans h1 h2
theorem Tab.full (h : Tab w T p Q most o l) : l.length ≤ most := let ⟨_, _, _, h1, _⟩ := h; h1
theorem Tab.most_le (h : Tab w T p Q most o l) : most ≤ 1024 := let ⟨_, _, _, _, h1⟩ := h; h1
theorem Tab.below (h : Tab w T p Q most o l) (hb : Below w.heap.size w w') : Tab w' T p Q most o l := let ⟨J, h1, h2⟩ := h; ⟨J, h1.below hb, h2⟩
theorem Tab.chg {F F' : List Nat} (h : Tab w T p Q most o l) (hc : Chg F w w' F') (hT : T ∉ F) (hp : ∀ i, i < 5 → p i ∉ F) (hQ : ∀ b ∈ F, ¬ Q b) : Tab w' T p Q most o l := let ⟨J, h1, h2⟩ := h; ⟨J, h1.chg hc hT hp hQ, h2⟩
theorem Tab.not_row (h : Tab w T p Q most o l) {g : Nat} {r : Ro} (hl : Lies w g r) : g ∉ five p := let ⟨_, h, _⟩ := h; h.rows hl
end

theorem zero_cells (w : World) : (w.alloc (.cells #[.int .i64 0, .int .i64 0, .int .i64 0, .int .i64 0] 41)).heap[w.heap.size]? = some (.cells #[.int .i64 0, .int .i64 0, .int .i64 0, .int .i64 0] 41 (0, 0)) := heap_alloc_new w _
/-- A row that a call stores where its result lies. -/
theorem stored {w a : World} {g : Nat} {r0 : Ro} (hl : Lies a g r0) (hb : Below w.heap.size w a) (hg : w.heap.size ≤ g) (r : Ro) :
    ((a.cell? ⟨g, 0, none⟩ = some (.int .i64 r0.a) ∧ a.cell? ⟨g, 1, none⟩ = some (.int .i64 r0.b) ∧ a.cell? ⟨g, 2, none⟩ = some (.int .i64 r0.c) ∧ a.cell? ⟨g, 3, none⟩ = some (.int .i64 r0.d)) ∧
      a.frozen? ⟨g, 0, none⟩ = false ∧ a.frozen? ⟨g, 1, none⟩ = false ∧ a.frozen? ⟨g, 2, none⟩ = false ∧ a.frozen? ⟨g, 3, none⟩ = false) ∧
    ((put4 a g r).cell? ⟨g, 0, none⟩ = some (.int .i64 r.a) ∧ (put4 a g r).cell? ⟨g, 1, none⟩ = some (.int .i64 r.b) ∧ (put4 a g r).cell? ⟨g, 2, none⟩ = some (.int .i64 r.c) ∧ (put4 a g r).cell? ⟨g, 3, none⟩ = some (.int .i64 r.d)) ∧
    Below w.heap.size w (put4 a g r) :=
  ⟨hl.cells, (hl.put r).cells.1, below_put4 hb hg r⟩

/-- A row stored where it lies. -/
theorem put4_same {w : World} {g : Nat} {r : Ro} (h : Lies w g r) : put4 w g r = w := by
  have h2 := h.put r
  have hne := fun k (hk : k ≠ g) => put4_far (w := w) (r := r) hk
  have hs : (put4 w g r).heap = w.heap := by
    apply Array.ext_getElem?
    intro i
    by_cases e : i = g
    · subst e
      unfold Lies at h h2
      rw [h, h2]
    · exact hne i e
  have h3 : put4 w g r = { w with heap := (put4 w g r).heap } := by simp [put4, World.setCell]
  rw [h3, hs]
/-- A row and a number: what Get and Delete answer. -/
def RowEnd (w : World) (r : Ro) (c : Int) (e : Ending) (w' : World) : Prop := e = .returned (.tuple #[rowv r, .int .i64 c]) ∧ Below w.heap.size w w'
theorem lies_zero (w : World) : Lies (w.alloc (.cells #[.int .i64 0, .int .i64 0, .int .i64 0, .int .i64 0] 41)) w.heap.size zero4 := Lies.new w zero4
theorem below_zero (w : World) : Below w.heap.size w (w.alloc (.cells #[.int .i64 0, .int .i64 0, .int .i64 0, .int .i64 0] 41)) := (Below.refl _ _).alloc (Nat.le_refl _) _
theorem tget_nil (w : World) (s : ByteArray) : Calls Tryz.prog 32 #[.pointer none, .string s] w (RowEnd w zero4 2) := by
  go_enter Tryz.func32, Tryz.ntmps32
  obtain ⟨⟨⟨z0, z1, z2, z3⟩, f0, f1, f2, f3⟩, HPP, HBB⟩ := stored (lies_zero w) (below_zero w) (Nat.le_refl _) zero4
  have HPP := hid HPP
  have HBB := hid HBB
  dsimp only [zero4] at z0 z1 z2 z3
  go_wp2
  obtain ⟨p0, p1, p2, p3⟩ := HPP.out
  try dsimp only [zero4] at p0 p1 p2 p3
  exact bodyPost_ret (v := .tuple #[rowv zero4, .int .i64 2]) (by simp [results, Tryz.results32, go_sem, rowv, rowc, zero4]) rfl (by first | exact ⟨rfl, HBB.out⟩ | exact ⟨rfl, (below_zero w)⟩)
section
variable {w : World} {T : Nat} {p : Nat → Nat} {Q : Bl} {most o : Nat} {l : List KR}
theorem tget_bad (T : Nat) (k : List Nat) (hk : keyB k = false) : Calls Tryz.prog 32 #[.pointer (some ⟨T, 0, none⟩), .string (str k)] w (RowEnd w zero4 13) := by
  go_enter Tryz.func32, Tryz.ntmps32
  go_wp2_with fail
  refine (kcheck_any _ k).mono ?_
  rw [checkE_no hk]
  rintro e w' ⟨rfl, rfl⟩
  obtain ⟨⟨⟨z0, z1, z2, z3⟩, f0, f1, f2, f3⟩, HPP, HBB⟩ := stored (lies_zero w) (below_zero w) (Nat.le_refl _) zero4
  have HPP := hid HPP
  have HBB := hid HBB
  dsimp only [zero4] at z0 z1 z2 z3
  go_wp2
  obtain ⟨p0, p1, p2, p3⟩ := HPP.out
  try dsimp only [zero4] at p0 p1 p2 p3
  exact bodyPost_ret (v := .tuple #[rowv zero4, .int .i64 13]) (by simp [results, Tryz.results32, go_sem, rowv, rowc, zero4]) rfl (by first | exact ⟨rfl, HBB.out⟩ | exact ⟨rfl, (below_zero w)⟩)
theorem tget_none (h : Tab w T p Q most o l) (k : List Nat) (hb : Byt k) (hk : keyB k = true) (hg : getK l k = none) : Calls Tryz.prog 32 #[.pointer (some ⟨T, 0, none⟩), .string (str k)] w (RowEnd w zero4 14) := by
  have hle := h.le
  obtain ⟨J, hT, hok, _, _⟩ := h
  have h4 : (J 4).length ≤ 5000 := by rw [hok.lin, lines_len]; omega
  have hgv : getV (J 4) k = [] := by unfold getV; rw [hok.lin, getL_lines, hg]; simp
  have hge : getE (J 4) k = 14 := by unfold getE; rw [hok.lin, isSome_lines, hg, keyB_64 hk]; rfl
  have HT := hid (hT.below (below_zero w))
  have c5 := HT.out.c5
  have hkl := keyB_yes hk
  have hce := checkE_yes hk
  have HGV := hid hgv
  have HGE := hid hge
  clear hgv hge hT hok hle
  go_enter Tryz.func32, Tryz.ntmps32
  go_wp2_with fail
  refine (kcheck_any _ k).mono ?_
  rw [hce]
  rintro e w' ⟨rfl, rfl⟩
  go_wp2_with fail
  refine ((HT.out.t 4 (by omega)).get h4 k hb (by omega)).mono ?_
  rw [HGV.out, HGE.out]
  rintro e w2 ⟨rfl, hb2⟩
  have HLZ := hid ((lies_zero w).below hb2)
  have HLB := hid (below_step (below_zero w) hb2)
  clear hb2 c5
  obtain ⟨⟨⟨z0, z1, z2, z3⟩, f0, f1, f2, f3⟩, HPP, HBB⟩ := stored HLZ.out HLB.out (Nat.le_refl _) zero4
  have HPP := hid HPP
  have HBB := hid HBB
  dsimp only [zero4] at z0 z1 z2 z3
  go_wp2
  obtain ⟨p0, p1, p2, p3⟩ := HPP.out
  try dsimp only [zero4] at p0 p1 p2 p3
  exact bodyPost_ret (v := .tuple #[rowv zero4, .int .i64 14]) (by simp [results, Tryz.results32, go_sem, p0, p1, p2, p3, rowv, rowc, zero4]) rfl (by first | exact ⟨rfl, HBB.out⟩ | exact ⟨rfl, HLB.out⟩)
theorem tget_some (h : Tab w T p Q most o l) (k : List Nat) (hb : Byt k) (hk : keyB k = true) {r : Ro} (hg : getK l k = some r) : Calls Tryz.prog 32 #[.pointer (some ⟨T, 0, none⟩), .string (str k)] w (RowEnd w r 0) := by
  have hle := h.le
  obtain ⟨J, hT, hok, _, _⟩ := h
  have h4 : (J 4).length ≤ 5000 := by rw [hok.lin, lines_len]; omega
  have hgv : getV (J 4) k = enc r.l := by unfold getV; rw [hok.lin, getL_lines, hg, keyB_64 hk]; rfl
  have hge : getE (J 4) k = 0 := by unfold getE; rw [hok.lin, isSome_lines, hg, keyB_64 hk]; rfl
  have hro : r.ok := hok.rows.ok _ (getK_mem hg)
  have HRO : Hid (r.ok) := hro
  have hel := enc_256 hro
  have HT := hid (hT.below (below_zero w))
  have c5 := HT.out.c5
  have hkl := keyB_yes hk
  have hce := checkE_yes hk
  have HGV := hid hgv
  have HGE := hid hge
  have hcv := fun (W : World) => Lib.run_convert_string_bytes (P := Tryz.prog) W 9 113 5 (str (enc r.l)) (u := .string) Tryz.underlying9 Tryz.underlying113 Tryz.underlying5
  have HSL := hid (fun (W : World) => bytesWorld_sl W 5 (enc r.l) (enc_byt _) (by unfold maxLen; omega))
  obtain ⟨s, HS⟩ : ∃ s, Hid (s = str (enc r.l)) := ⟨_, rfl⟩
  have hsz : Hid (s.size = (enc r.l).length) := by show _ = _; rw [HS.out, str_size]
  rw [← HS.out] at hcv
  rw [← HS.out, ← hsz.out] at HSL
  clear hgv hge hT hok hle hro
  go_enter Tryz.func32, Tryz.ntmps32
  go_wp2_with fail
  refine (kcheck_any _ k).mono ?_
  rw [hce]
  rintro e w' ⟨rfl, rfl⟩
  go_wp2_with fail
  refine ((HT.out.t 4 (by omega)).get h4 k hb (by omega)).mono ?_
  rw [HGV.out, HGE.out, ← HS.out]
  rintro e w2 ⟨rfl, hb2⟩
  have HLZ := hid (((lies_zero w).below hb2).below (bytesWorld_below w2 5 s))
  have HLB := hid (below_step (below_step (below_zero w) hb2) (bytesWorld_below w2 5 s))
  clear hb2 c5
  go_wp2_with fail
  refine (rdecode _ _ r.l [] r 0 (by rw [List.append_nil]; exact HSL.out _) Byt.nil HRO.out (.inl ⟨rfl, rfl, rfl, rfl⟩) (by simp)).mono ?_
  rintro e w3 ⟨rfl, hb3⟩
  unfold rowv rowc
  have HLZ3 := hid (HLZ.out.below hb3)
  have HLB3 := hid (below_step HLB.out hb3)
  clear hb3
  obtain ⟨⟨⟨z0, z1, z2, z3⟩, f0, f1, f2, f3⟩, HPP, HBB⟩ := stored HLZ3.out HLB3.out (Nat.le_refl _) r
  have HPP := hid HPP
  have HBB := hid HBB
  dsimp only [zero4] at z0 z1 z2 z3
  go_wp2
  obtain ⟨p0, p1, p2, p3⟩ := HPP.out
  try dsimp only [zero4] at p0 p1 p2 p3
  exact bodyPost_ret (v := .tuple #[rowv r, .int .i64 0]) (by simp [results, Tryz.results32, go_sem, p0, p1, p2, p3, rowv, rowc]) rfl (by first | exact ⟨rfl, HBB.out⟩ | exact ⟨rfl, HLB3.out⟩)
theorem tget (h : Tab w T p Q most o l) (k : List Nat) (hb : Byt k) : Calls Tryz.prog 32 #[.pointer (some ⟨T, 0, none⟩), .string (str k)] w (RowEnd w (kgetR l k) (kgetE l k)) := by
  unfold kgetR kgetE
  cases hk : keyB k with
  | false => exact tget_bad T k hk
  | true =>
    cases hg : getK l k with
    | none => exact tget_none h k hb hk hg
    | some r => exact tget_some h k hb hk hg
end
end Go.Proofs.YtlnagdodnkhbmaaGreat

/- A table: Len, Most, Put, Delete. -/
namespace Go.Proofs.YtlnagdodnkhbmaaGreat
open Go.RowKit
set_option maxRecDepth 100000

section
variable {w : World} {T : Nat} {p : Nat → Nat} {Q : Bl} {most o : Nat} {l : List KR}
theorem tlines (h : Tab w T p Q most o l) : Calls Tryz.prog 55 #[.pointer (some ⟨T, 0, none⟩)] w fun e w' => e = .returned (.pointer (some ⟨p 4, 0, none⟩)) ∧ w' = w := by
  obtain ⟨J, hT, _⟩ := h
  have c5 := hT.c5
  clear hT
  go_enter Tryz.func55, Tryz.ntmps55
  go_wp2
  go_ret
  exact ⟨rfl, rfl⟩
theorem tlen (h : Tab w T p Q most o l) : Calls Tryz.prog 29 #[.pointer (some ⟨T, 0, none⟩)] w fun e w' => e = .returned (.int .i64 (l.length : Int)) ∧ w' = w := by
  have H := hid h
  obtain ⟨J, hT, hok, _⟩ := h
  obtain ⟨H4, g, t, h4⟩ := hT.t 4 (by omega)
  have HT4 := hid h4
  have HLL : Hid ((J 4).length = l.length) := by show _ = _; rw [hok.lin, lines_len]
  clear hT hok h4
  go_enter Tryz.func29, Tryz.ntmps29
  go_wp2_with fail
  refine (tlines H.out).mono ?_
  rintro e w1 ⟨rfl, rfl⟩
  go_wp2_with fail
  refine (tree_len _ _ _ _ _ _ _ _ HT4.out).mono ?_
  rw [HLL.out]
  rintro e w2 ⟨rfl, rfl⟩
  go_wp2
  go_ret
  exact ⟨rfl, rfl⟩
theorem tmost (h : Tab w T p Q most o l) : Calls Tryz.prog 50 #[.pointer (some ⟨T, 0, none⟩)] w fun e w' => e = .returned (.int .i64 (most : Int)) ∧ w' = w := by
  obtain ⟨J, hT, hok, _⟩ := h
  have c0 := hT.c0
  clear hT hok
  go_enter Tryz.func50, Tryz.ntmps50
  go_wp2
  go_ret
  exact ⟨rfl, rfl⟩
end
theorem tlines_nil (w : World) : Calls Tryz.prog 55 #[.pointer none] w fun e w' => e = .returned (.pointer none) ∧ w' = w := by
  go_enter Tryz.func55, Tryz.ntmps55
  go_wp2
  go_ret
  exact ⟨rfl, rfl⟩
theorem tlen_nil (w : World) : Calls Tryz.prog 29 #[.pointer none] w fun e w' => e = .returned (.int .i64 0) ∧ w' = w := by
  go_enter Tryz.func29, Tryz.ntmps29
  go_wp2_with fail
  refine (tlines_nil _).mono ?_
  rintro e w1 ⟨rfl, rfl⟩
  go_wp2_with fail
  refine (nil_len _).mono ?_
  rintro e w2 ⟨rfl, rfl⟩
  go_wp2
  go_ret
  exact ⟨rfl, rfl⟩
theorem tmost_nil (w : World) : Calls Tryz.prog 50 #[.pointer none] w fun e w' => e = .returned (.int .i64 0) ∧ w' = w := by
  go_enter Tryz.func50, Tryz.ntmps50
  go_wp2
  go_ret
  exact ⟨rfl, rfl⟩

theorem TurnRel.tab {W w : World} {T : Nat} {p : Nat → Nat} {Q : Bl} {most o : Nat} {J : Nat → List Pr} {l : List KR} (h : TurnRel W w T p Q most o J) (hok : TOk l J) (hl : l.length ≤ most) (hm : most ≤ 1024) : Tab w T p (New Q W w) most o l := ⟨J, h.t, hok, hl, hm⟩
/-- Between a call's start and a turn within it nothing of the table turned. -/
theorem TurnRel.from_ {W a b : World} {T : Nat} {p : Nat → Nat} {Q : Bl} {most o : Nat} {J : Nat → List Pr} (h : TurnRel a b T p Q most o J) (hb : Below W.heap.size W a) (hW : ∀ i, i < 5 → p i < W.heap.size ∧ ¬ Q (p i)) (hu : Under Q W) : TurnRel W b T p Q most o J := by
  have h1 := hb.size
  have h2 := h.c.size
  refine ⟨h.t.more (fun k hk => ?_) (hu.new (Nat.le_trans h1 h2)) fun i hi => ?_, (Chg.of_below hb).trans h.c⟩
  · rcases hk with hk | hk
    · exact .inl hk
    · exact .inr ⟨by omega, hk.2⟩
  · rintro (hh | hh)
    · exact (hW i hi).2 hh
    · have := (hW i hi).1; omega

/-- The same, and the row that the call answers is stored last. -/
theorem TurnRel.close {W a b : World} {T : Nat} {p : Nat → Nat} {Q : Bl} {most o : Nat} {J J0 : Nat → List Pr} (h : TurnRel a b T p Q most o J) (hb : Below W.heap.size W a) (h0 : TabI W T p Q most o J0) {g : Nat} (hg : W.heap.size ≤ g) (hga : g < a.heap.size) (r : Ro) : TurnRel W (put4 b g r) T p Q most o J := by
  have h1 := hb.size
  have h2 := h.c.size
  have hT := h0.lt
  have hu := h0.under
  have hc : Chg [g] b (put4 b g r) [g] := (Chg.refl [g] b).put4 (by simp) r
  have hs := hc.size
  have ht := h.t.chg hc (by simp; omega) (fun i hi => by have := h0.plt hi; simp; omega) (fun k hk => by
    simp at hk; subst hk
    rintro (hh | hh)
    · have := hu _ hh; omega
    · omega)
  refine ⟨ht.more (fun k hk => ?_) (hu.new (by omega)) fun i hi => ?_, ?_⟩
  · rcases hk with hk | hk
    · exact .inl hk
    · exact .inr ⟨by omega, by omega⟩
  · rintro (hh | hh)
    · exact h0.out hi hh
    · have := h0.plt hi; omega
  · have h3 : Chg (five p) W b (five p) := (Chg.of_below hb).trans h.c
    exact ((h3.less (K := g :: five p) fun k hk => (List.mem_cons.1 hk).elim (fun e => .inr (by omega)) .inl).put4 List.mem_cons_self r).less fun k hk => .inl (List.mem_cons_of_mem _ hk)
/-- What Put leaves. -/
def PutEnd (w : World) (T : Nat) (p : Nat → Nat) (Q : Bl) (most o : Nat) (l : List KR) (r : Ro) (was : Bool) (c : Int) (e : Ending) (w' : World) : Prop :=
  e = .returned (.tuple #[rowv r, .bool was, .int .i64 c]) ∧ Tab w' T p (New Q w w') most o l ∧ Chg (five p) w w' (five p)
theorem Tab.still {w w' : World} {T : Nat} {p : Nat → Nat} {Q : Bl} {most o : Nat} {l : List KR} (h : Tab w T p Q most o l) (hb : Below w.heap.size w w') : Tab w' T p (New Q w w') most o l ∧ Chg (five p) w w' (five p) := by
  obtain ⟨J, h1, h2, h3, h4⟩ := h
  have h5 := (TurnRel.start h1).below hb
  exact ⟨⟨J, h5.t, h2, h3, h4⟩, h5.c⟩
/-- The two blocks that Put makes: the row, and what it answers. -/
theorem put_start (w : World) (r : Ro) : Lies ((w.alloc (.cells #[.int .i64 r.a, .int .i64 r.b, .int .i64 r.c, .int .i64 r.d] 41)).alloc (.cells #[.int .i64 0, .int .i64 0, .int .i64 0, .int .i64 0] 41)) w.heap.size r ∧
    Lies ((w.alloc (.cells #[.int .i64 r.a, .int .i64 r.b, .int .i64 r.c, .int .i64 r.d] 41)).alloc (.cells #[.int .i64 0, .int .i64 0, .int .i64 0, .int .i64 0] 41)) (w.heap.size + 1) zero4 ∧
    Below w.heap.size w ((w.alloc (.cells #[.int .i64 r.a, .int .i64 r.b, .int .i64 r.c, .int .i64 r.d] 41)).alloc (.cells #[.int .i64 0, .int .i64 0, .int .i64 0, .int .i64 0] 41)) := by
  refine ⟨(Lies.new w r).below ((Below.refl _ _).alloc (Nat.le_refl _) _), ?_, ((Below.refl _ _).alloc (Nat.le_refl _) _).alloc (by simp) _⟩
  have := Lies.new (w.alloc (.cells (rowc r) 41)) zero4
  rwa [show (w.alloc (.cells (rowc r) 41)).heap.size = w.heap.size + 1 by simp] at this
theorem put4_far_lies {w : World} {g h : Nat} {r s : Ro} (hl : Lies w h s) (hne : h ≠ g) : Lies (put4 w g r) h s := hl.keep (put4_far hne)
theorem put4_chg {F : List Nat} (w : World) (g : Nat) (r : Ro) (hg : g ∈ F) : Chg F w (put4 w g r) F := (Chg.refl F w).put4 hg r
theorem tget_raw_nil (w : World) (s : ByteArray) : Calls Tryz.prog 32 #[.pointer none, .string s] w fun e w' => e = .returned (.tuple #[rowv zero4, .int .i64 2]) ∧ Below w.heap.size w w' := tget_nil w s
set_option maxHeartbeats 1000000 in
theorem tput_nil (w : World) (s : ByteArray) (r : Ro) : Calls Tryz.prog 23 #[.pointer none, .string s, rowv r] w fun e w' => e = .returned (.tuple #[rowv zero4, .bool false, .int .i64 2]) ∧ Below w.heap.size w w' := by
  have HS0 := hid (put_start w r)
  unfold rowv rowc
  go_enter Tryz.func23, Tryz.ntmps23
  go_wp2_with fail
  refine (tget_raw_nil _ s).mono ?_
  rintro e w1 ⟨rfl, hb1⟩
  have HA1 := hid (HS0.out.1.below hb1)
  have HZ1 := hid (HS0.out.2.1.below hb1)
  have HB1 := hid (below_step HS0.out.2.2 hb1)
  obtain ⟨⟨⟨z0, z1, z2, z3⟩, f0, f1, f2, f3⟩, HPP, HBB⟩ := stored HZ1.out HB1.out (Nat.le_succ _) zero4
  have HLP := hid (HZ1.out.put zero4)
  have HAP := hid (put4_far_lies (r := zero4) HA1.out (by omega : w.heap.size ≠ w.heap.size + 1))
  have HPP := hid HPP
  have HBB := hid HBB
  dsimp only [zero4] at z0 z1 z2 z3
  clear hb1
  dsimp only [rowv, rowc, zero4]
  obtain ⟨⟨⟨z0, z1, z2, z3⟩, f0, f1, f2, f3⟩, HPQ, HBC⟩ := stored HLP.out HBB.out (Nat.le_succ _) zero4
  have HPQ := hid HPQ
  have HBC := hid HBC
  try dsimp only [zero4] at z0 z1 z2 z3
  go_wp2
  obtain ⟨p0, p1, p2, p3⟩ := HPQ.out
  try dsimp only [zero4] at p0 p1 p2 p3
  exact bodyPost_ret (v := .tuple #[rowv zero4, .bool false, .int .i64 2]) (by simp [results, Tryz.results23, go_sem, p0, p1, p2, p3, rowv, rowc, zero4]) rfl (by first | exact ⟨rfl, HBC.out⟩ | exact ⟨rfl, HBB.out⟩ | exact ⟨rfl, HB1.out⟩)
theorem tget_raw_bad (w : World) (T : Nat) (k : List Nat) (hk : keyB k = false) : Calls Tryz.prog 32 #[.pointer (some ⟨T, 0, none⟩), .string (str k)] w fun e w' => e = .returned (.tuple #[rowv zero4, .int .i64 13]) ∧ Below w.heap.size w w' := tget_bad T k hk
set_option maxHeartbeats 1000000 in
theorem tput_bad (w : World) (T : Nat) (k : List Nat) (hk : keyB k = false) (r : Ro) : Calls Tryz.prog 23 #[.pointer (some ⟨T, 0, none⟩), .string (str k), rowv r] w fun e w' => e = .returned (.tuple #[rowv zero4, .bool false, .int .i64 13]) ∧ Below w.heap.size w w' := by
  have HS0 := hid (put_start w r)
  unfold rowv rowc
  go_enter Tryz.func23, Tryz.ntmps23
  go_wp2_with fail
  refine (tget_raw_bad _ T k hk).mono ?_
  rintro e w1 ⟨rfl, hb1⟩
  have HA1 := hid (HS0.out.1.below hb1)
  have HZ1 := hid (HS0.out.2.1.below hb1)
  have HB1 := hid (below_step HS0.out.2.2 hb1)
  obtain ⟨⟨⟨z0, z1, z2, z3⟩, f0, f1, f2, f3⟩, HPP, HBB⟩ := stored HZ1.out HB1.out (Nat.le_succ _) zero4
  have HLP := hid (HZ1.out.put zero4)
  have HAP := hid (put4_far_lies (r := zero4) HA1.out (by omega : w.heap.size ≠ w.heap.size + 1))
  have HPP := hid HPP
  have HBB := hid HBB
  dsimp only [zero4] at z0 z1 z2 z3
  clear hb1
  dsimp only [rowv, rowc, zero4]
  obtain ⟨⟨⟨z0, z1, z2, z3⟩, f0, f1, f2, f3⟩, HPQ, HBC⟩ := stored HLP.out HBB.out (Nat.le_succ _) zero4
  have HPQ := hid HPQ
  have HBC := hid HBC
  try dsimp only [zero4] at z0 z1 z2 z3
  go_wp2
  obtain ⟨p0, p1, p2, p3⟩ := HPQ.out
  try dsimp only [zero4] at p0 p1 p2 p3
  exact bodyPost_ret (v := .tuple #[rowv zero4, .bool false, .int .i64 13]) (by simp [results, Tryz.results23, go_sem, p0, p1, p2, p3, rowv, rowc, zero4]) rfl (by first | exact ⟨rfl, HBC.out⟩ | exact ⟨rfl, HBB.out⟩ | exact ⟨rfl, HB1.out⟩)
section
variable {w : World} {T : Nat} {p : Nat → Nat} {Q : Bl} {most o : Nat} {l : List KR}
set_option maxHeartbeats 1000000 in
theorem tput_was (h : Tab w T p Q most o l) (k : List Nat) (hb : Byt k) (hk : keyB k = true) {s : Ro} (hg : getK l k = some s) (r : Ro) (hr : r.ok) :
    Calls Tryz.prog 23 #[.pointer (some ⟨T, 0, none⟩), .string (str k), rowv r] w (PutEnd w T p Q most o (putK l k r) s true 0) := by
  have hle := h.le
  have hmo := h.most_le
  have hfu := h.full
  have HT := hid h
  have HSP := hid str_nil
  have HS0 := hid (put_start w r)
  obtain ⟨J, hT, hok, _⟩ := h
  have hlp : (putK l k r).length = l.length := by
    have h1 := (putK_was hg r).length_eq
    have h2 := delK_len hg
    simp at h1; omega
  have hso : s.ok := hok.rows.ok _ (getK_mem hg)
  have HTI := hid hT
  have HOK := hid (hok.was hg hb hk hr)
  have HJL : Hid (∀ i, i < 5 → (J i).length ≤ 2000) := fun i hi => by rw [hok.len hi]; omega
  clear hok hT
  unfold rowv rowc
  go_enter Tryz.func23, Tryz.ntmps23
  go_wp2_with fail
  refine (tget_some (HT.out.below HS0.out.2.2) k hb hk hg).mono ?_
  rintro e w1 ⟨rfl, hb1⟩
  have HA1 := hid (HS0.out.1.below hb1)
  have HZ1 := hid (HS0.out.2.1.below hb1)
  have HB1 := hid (below_step HS0.out.2.2 hb1)
  obtain ⟨⟨⟨z0, z1, z2, z3⟩, f0, f1, f2, f3⟩, HPP, HBB⟩ := stored HZ1.out HB1.out (Nat.le_succ _) s
  have HLP := hid (HZ1.out.put s)
  have HAP := hid (put4_far_lies (r := s) HA1.out (by omega : w.heap.size ≠ w.heap.size + 1))
  have HPP := hid HPP
  have HBB := hid HBB
  dsimp only [zero4] at z0 z1 z2 z3
  clear hb1
  dsimp only [rowv, rowc, zero4]
  go_wp2_with fail
  refine (turn_some _ T p Q most o J k (.pointer (some ⟨w.heap.size + 1, 0, none⟩)) (some s) (.pointer (some ⟨w.heap.size, 0, none⟩)) r (HTI.out.below HBB.out) hb hk HJL.out ⟨_, rfl, HLP.out⟩ (fun x e => by cases e; exact hso) ⟨_, rfl, HAP.out⟩ hr).mono ?_
  rintro e w2 ⟨⟨v, rfl⟩, hr2⟩
  have HR2 := hid (hr2.close HBB.out HTI.out (Nat.le_succ _) HLP.out.lt s)
  have HL2 := hid (HLP.out.keep (hr2.c.block _ HLP.out.lt ((HTI.out.below HBB.out).rows HLP.out)))
  clear hr2 z0 z1 z2 z3 f0 f1 f2 f3
  obtain ⟨⟨z0, z1, z2, z3⟩, f0, f1, f2, f3⟩ := HL2.out.cells
  go_wp2
  obtain ⟨p0, p1, p2, p3⟩ := (HL2.out.put s).four
  exact bodyPost_ret (v := .tuple #[rowv s, .bool true, .int .i64 0]) (by simp [results, Tryz.results23, go_sem, p0, p1, p2, p3, rowv, rowc]) rfl ⟨rfl, HR2.out.tab HOK.out (by omega) hmo, HR2.out.c⟩
set_option maxHeartbeats 1000000 in
theorem tput_full (h : Tab w T p Q most o l) (k : List Nat) (hb : Byt k) (hk : keyB k = true) (hg : getK l k = none) (hf : most ≤ l.length) (r : Ro) :
    Calls Tryz.prog 23 #[.pointer (some ⟨T, 0, none⟩), .string (str k), rowv r] w fun e w' => e = .returned (.tuple #[rowv zero4, .bool false, .int .i64 16]) ∧ Below w.heap.size w w' := by
  have hle := h.le
  have hmo := h.most_le
  have hfu := h.full
  have HT := hid h
  have HSP := hid str_nil
  have HS0 := hid (put_start w r)
  have hfi : (most : Int) ≤ (l.length : Int) := by omega
  unfold rowv rowc
  go_enter Tryz.func23, Tryz.ntmps23
  go_wp2_with fail
  refine (tget_none (HT.out.below HS0.out.2.2) k hb hk hg).mono ?_
  rintro e w1 ⟨rfl, hb1⟩
  have HA1 := hid (HS0.out.1.below hb1)
  have HZ1 := hid (HS0.out.2.1.below hb1)
  have HB1 := hid (below_step HS0.out.2.2 hb1)
  obtain ⟨⟨⟨z0, z1, z2, z3⟩, f0, f1, f2, f3⟩, HPP, HBB⟩ := stored HZ1.out HB1.out (Nat.le_succ _) zero4
  have HLP := hid (HZ1.out.put zero4)
  have HAP := hid (put4_far_lies (r := zero4) HA1.out (by omega : w.heap.size ≠ w.heap.size + 1))
  have HPP := hid HPP
  have HBB := hid HBB
  dsimp only [zero4] at z0 z1 z2 z3
  clear hb1
  dsimp only [rowv, rowc, zero4]
  have HTP := hid (HT.out.below HB1.out)
  have c0 := (let ⟨_, h, _⟩ := HTP.out; h.c0)
  have HTD := hid (HTP.out.below (below_drew' _))
  have hsame := put4_same HZ1.out
  have HSA := hid hsame
  dsimp only [put4, zero4] at hsame
  go_wp2_with fail
  go_region_held3 (fun W => W.cell? ⟨T, 0, none⟩ = some (.int .i64 (most : Int))) (first | exact c0)
    (first | (go_at_call 29; ((with_reducible refine (tlen HTD.out).mono ?_); rintro e w5 ⟨rfl, rfl⟩)))
  have HB5 : Hid (Below w.heap.size w w1.drew) := HB1.out.drew
  obtain ⟨-, HPQ, HBC⟩ := stored (a := w1.drew) HZ1.out HB5.out (Nat.le_succ _) zero4
  have HPQ := hid HPQ
  have HBC := hid HBC
  go_wp2
  obtain ⟨p0, p1, p2, p3⟩ := HPQ.out
  try dsimp only [zero4] at p0 p1 p2 p3
  exact bodyPost_ret (v := .tuple #[rowv zero4, .bool false, .int .i64 16]) (by simp [results, Tryz.results23, go_sem, z0, z1, z2, z3, rowv, rowc, zero4]) rfl (by first | exact ⟨rfl, HBC.out⟩ | exact ⟨rfl, HB5.out⟩)
set_option maxHeartbeats 1000000 in
theorem tput_new (h : Tab w T p Q most o l) (k : List Nat) (hb : Byt k) (hk : keyB k = true) (hg : getK l k = none) (hf : l.length < most) (r : Ro) (hr : r.ok) :
    Calls Tryz.prog 23 #[.pointer (some ⟨T, 0, none⟩), .string (str k), rowv r] w (PutEnd w T p Q most o (putK l k r) zero4 false 0) := by
  have hle := h.le
  have hmo := h.most_le
  have hfu := h.full
  have HT := hid h
  have HSP := hid str_nil
  have HS0 := hid (put_start w r)
  have hfi : ¬ (most : Int) ≤ (l.length : Int) := by omega
  obtain ⟨J, hT, hok, _⟩ := h
  have hlp : (putK l k r).length = l.length + 1 := by
    have h1 := (putK_new hg r).length_eq
    simpa using h1
  have HTI := hid hT
  have HOK := hid (hok.new hg hb hk hr)
  have HJL : Hid (∀ i, i < 5 → (J i).length ≤ 2000) := fun i hi => by rw [hok.len hi]; omega
  clear hok hT
  unfold rowv rowc
  go_enter Tryz.func23, Tryz.ntmps23
  go_wp2_with fail
  refine (tget_none (HT.out.below HS0.out.2.2) k hb hk hg).mono ?_
  rintro e w1 ⟨rfl, hb1⟩
  have HA1 := hid (HS0.out.1.below hb1)
  have HZ1 := hid (HS0.out.2.1.below hb1)
  have HB1 := hid (below_step HS0.out.2.2 hb1)
  obtain ⟨⟨⟨z0, z1, z2, z3⟩, f0, f1, f2, f3⟩, HPP, HBB⟩ := stored HZ1.out HB1.out (Nat.le_succ _) zero4
  have HLP := hid (HZ1.out.put zero4)
  have HAP := hid (put4_far_lies (r := zero4) HA1.out (by omega : w.heap.size ≠ w.heap.size + 1))
  have HPP := hid HPP
  have HBB := hid HBB
  dsimp only [zero4] at z0 z1 z2 z3
  clear hb1
  dsimp only [rowv, rowc, zero4]
  have HTP := hid (HT.out.below HB1.out)
  have c0 := (let ⟨_, h, _⟩ := HTP.out; h.c0)
  have HTD := hid (HTP.out.below (below_drew' _))
  have hsame := put4_same HZ1.out
  have HSA := hid hsame
  dsimp only [put4, zero4] at hsame
  go_wp2_with fail
  go_region_held3 (fun W => W.cell? ⟨T, 0, none⟩ = some (.int .i64 (most : Int))) (first | exact c0)
    (first | (go_at_call 29; ((with_reducible refine (tlen HTD.out).mono ?_); rintro e w5 ⟨rfl, rfl⟩)))
  have HB5 : Hid (Below w.heap.size w w1.drew) := HB1.out.drew
  have HA5 : Hid (Lies w1.drew w.heap.size r) := HA1.out
  have HL5 : Hid (Lies w1.drew (w.heap.size + 1) zero4) := HZ1.out
  go_wp2_with fail
  refine (turn_some _ T p Q most o J k (.pointer none) none (.pointer (some ⟨w.heap.size, 0, none⟩)) r (HTI.out.below HB5.out) hb hk HJL.out rfl (fun x e => by cases e) ⟨_, rfl, HA5.out⟩ hr).mono ?_
  rintro e w2 ⟨⟨v, rfl⟩, hr2⟩
  have HR2 := hid (hr2.close HB5.out HTI.out (Nat.le_succ _) HL5.out.lt zero4)
  have HR3 := hid (hr2.from_ HB5.out (fun i hi => ⟨HTI.out.plt hi, HTI.out.out hi⟩) HTI.out.under)
  have HL2 := hid (HL5.out.keep (hr2.c.block _ HL5.out.lt ((HTI.out.below HB5.out).rows HL5.out)))
  clear hr2 z0 z1 z2 z3 f0 f1 f2 f3 c0
  obtain ⟨⟨z0, z1, z2, z3⟩, f0, f1, f2, f3⟩ := HL2.out.cells
  dsimp only [zero4] at z0 z1 z2 z3
  go_wp2
  obtain ⟨p0, p1, p2, p3⟩ := (HL2.out.put zero4).four
  dsimp only [zero4] at p0 p1 p2 p3
  exact bodyPost_ret (v := .tuple #[rowv zero4, .bool false, .int .i64 0]) (by simp [results, Tryz.results23, go_sem, p0, p1, p2, p3, rowv, rowc, zero4]) rfl (by first | exact ⟨rfl, HR2.out.tab HOK.out (by omega) hmo, HR2.out.c⟩ | exact ⟨rfl, HR3.out.tab HOK.out (by omega) hmo, HR3.out.c⟩)
theorem tput (h : Tab w T p Q most o l) (k : List Nat) (hb : Byt k) (r : Ro) (hr : r.ok) :
    Calls Tryz.prog 23 #[.pointer (some ⟨T, 0, none⟩), .string (str k), rowv r] w (PutEnd w T p Q most o (kputN most l k r) (kgetR l k) (kputW l k) (kputE most l k)) := by
  unfold kputN kgetR kputW kputE
  cases hk : keyB k with
  | false =>
    refine (tput_bad w T k hk r).mono ?_
    rintro e w' ⟨rfl, hb'⟩
    exact ⟨rfl, h.still hb'⟩
  | true =>
    cases hg : getK l k with
    | some s => exact tput_was h k hb hk hg r hr
    | none =>
      by_cases hf : most ≤ l.length
      · refine (tput_full h k hb hk hg hf r).mono ?_
        rintro e w' ⟨rfl, hb'⟩
        simp only [if_true, Option.isSome_none, Bool.false_eq_true, if_false, if_pos hf]
        exact ⟨rfl, h.still hb'⟩
      · simp only [if_true, Option.isSome_none, Bool.false_eq_true, if_false, if_neg hf]
        exact tput_new h k hb hk hg (by omega) r hr
end
end Go.Proofs.YtlnagdodnkhbmaaGreat

/- A table: Delete. -/
namespace Go.Proofs.YtlnagdodnkhbmaaGreat
open Go.RowKit
set_option maxRecDepth 100000

set_option maxHeartbeats 1000000 in
theorem tdel_nil (w : World) (s : ByteArray) : Calls Tryz.prog 25 #[.pointer none, .string s] w (RowEnd w zero4 2) := by
  go_enter Tryz.func25, Tryz.ntmps25
  go_wp2_with fail
  refine (tget_nil _ s).mono ?_
  rintro e w1 ⟨rfl, hb1⟩
  have HB1 := hid (below_step (below_zero w) hb1)
  have HBA : Hid (Below w1.heap.size w1 (w1.alloc (.cells (rowc zero4) 41))) := (Below.refl _ _).alloc (Nat.le_refl _) _
  have HZ1 := hid (((lies_zero w).below hb1).below HBA.out)
  have HB2 := hid (below_step HB1.out HBA.out)
  have HL1 := hid (Lies.new w1 zero4)
  clear hb1
  dsimp only [rowv, rowc, zero4] at HZ1 HBA HB2 HL1 ⊢
  have hsame := put4_same HZ1.out
  dsimp only [put4, zero4] at hsame
  obtain ⟨⟨z0, z1, z2, z3⟩, f0, f1, f2, f3⟩ := HZ1.out.cells
  dsimp only [zero4] at z0 z1 z2 z3
  go_wp2
  exact bodyPost_ret (v := .tuple #[rowv zero4, .int .i64 2]) (by simp [results, Tryz.results25, go_sem, z0, z1, z2, z3, rowv, rowc, zero4]) rfl ⟨rfl, HB2.out⟩
set_option maxHeartbeats 1000000 in
theorem tdel_bad {w : World} (T : Nat) (k : List Nat) (hk : keyB k = false) : Calls Tryz.prog 25 #[.pointer (some ⟨T, 0, none⟩), .string (str k)] w (RowEnd w zero4 13) := by
  go_enter Tryz.func25, Tryz.ntmps25
  go_wp2_with fail
  refine (tget_bad T k hk).mono ?_
  rintro e w1 ⟨rfl, hb1⟩
  have HB1 := hid (below_step (below_zero w) hb1)
  have HBA : Hid (Below w1.heap.size w1 (w1.alloc (.cells (rowc zero4) 41))) := (Below.refl _ _).alloc (Nat.le_refl _) _
  have HZ1 := hid (((lies_zero w).below hb1).below HBA.out)
  have HB2 := hid (below_step HB1.out HBA.out)
  have HL1 := hid (Lies.new w1 zero4)
  clear hb1
  dsimp only [rowv, rowc, zero4] at HZ1 HBA HB2 HL1 ⊢
  have hsame := put4_same HZ1.out
  dsimp only [put4, zero4] at hsame
  obtain ⟨⟨z0, z1, z2, z3⟩, f0, f1, f2, f3⟩ := HZ1.out.cells
  dsimp only [zero4] at z0 z1 z2 z3
  go_wp2
  exact bodyPost_ret (v := .tuple #[rowv zero4, .int .i64 13]) (by simp [results, Tryz.results25, go_sem, z0, z1, z2, z3, rowv, rowc, zero4]) rfl ⟨rfl, HB2.out⟩
section
variable {w : World} {T : Nat} {p : Nat → Nat} {Q : Bl} {most o : Nat} {l : List KR}
set_option maxHeartbeats 1000000 in
theorem tdel_none (h : Tab w T p Q most o l) (k : List Nat) (hb : Byt k) (hk : keyB k = true) (hg : getK l k = none) : Calls Tryz.prog 25 #[.pointer (some ⟨T, 0, none⟩), .string (str k)] w (RowEnd w zero4 14) := by
  go_enter Tryz.func25, Tryz.ntmps25
  go_wp2_with fail
  refine (tget_none (h.below (below_zero w)) k hb hk hg).mono ?_
  rintro e w1 ⟨rfl, hb1⟩
  have HB1 := hid (below_step (below_zero w) hb1)
  have HBA : Hid (Below w1.heap.size w1 (w1.alloc (.cells (rowc zero4) 41))) := (Below.refl _ _).alloc (Nat.le_refl _) _
  have HZ1 := hid (((lies_zero w).below hb1).below HBA.out)
  have HB2 := hid (below_step HB1.out HBA.out)
  have HL1 := hid (Lies.new w1 zero4)
  clear hb1
  dsimp only [rowv, rowc, zero4] at HZ1 HBA HB2 HL1 ⊢
  have hsame := put4_same HZ1.out
  dsimp only [put4, zero4] at hsame
  obtain ⟨⟨z0, z1, z2, z3⟩, f0, f1, f2, f3⟩ := HZ1.out.cells
  dsimp only [zero4] at z0 z1 z2 z3
  go_wp2
  exact bodyPost_ret (v := .tuple #[rowv zero4, .int .i64 14]) (by simp [results, Tryz.results25, go_sem, z0, z1, z2, z3, rowv, rowc, zero4]) rfl ⟨rfl, HB2.out⟩
def DelEnd (w : World) (T : Nat) (p : Nat → Nat) (Q : Bl) (most o : Nat) (l : List KR) (r : Ro) (c : Int) (e : Ending) (w' : World) : Prop :=
  e = .returned (.tuple #[rowv r, .int .i64 c]) ∧ Tab w' T p (New Q w w') most o l ∧ Chg (five p) w w' (five p)
set_option maxHeartbeats 1000000 in
theorem tdel_some (h : Tab w T p Q most o l) (k : List Nat) (hb : Byt k) (hk : keyB k = true) {s : Ro} (hg : getK l k = some s) :
    Calls Tryz.prog 25 #[.pointer (some ⟨T, 0, none⟩), .string (str k)] w (DelEnd w T p Q most o (delK l k) s 0) := by
  have hle := h.le
  have hmo := h.most_le
  have hfu := h.full
  have HT := hid h
  obtain ⟨J, hT, hok, _⟩ := h
  have hlp := delK_len hg
  have hso : s.ok := hok.rows.ok _ (getK_mem hg)
  have HTI := hid hT
  have HOK := hid (hok.del hg hk)
  have HJL : Hid (∀ i, i < 5 → (J i).length ≤ 2000) := fun i hi => by rw [hok.len hi]; omega
  clear hok hT
  go_enter Tryz.func25, Tryz.ntmps25
  go_wp2_with fail
  refine (tget_some (HT.out.below (below_zero w)) k hb hk hg).mono ?_
  rintro e w1 ⟨rfl, hb1⟩
  have HB1 := hid (below_step (below_zero w) hb1)
  have HBA : Hid (Below w1.heap.size w1 (w1.alloc (.cells (rowc s) 41))) := (Below.refl _ _).alloc (Nat.le_refl _) _
  have HZ1 := hid (((lies_zero w).below hb1).below HBA.out)
  have HB2 := hid (below_step HB1.out HBA.out)
  have HL1 := hid (Lies.new w1 s)
  clear hb1
  dsimp only [rowv, rowc, zero4] at HZ1 HBA HB2 HL1 ⊢
  go_wp2_with fail
  refine (turn_none _ T p Q most o J k (.pointer (some ⟨w1.heap.size, 0, none⟩)) (some s) (HTI.out.below HB2.out) hb hk HJL.out ⟨_, rfl, HL1.out⟩ (fun x e => by cases e; exact hso)).mono ?_
  rintro e w3 ⟨⟨v, rfl⟩, hr3⟩
  have HR3 := hid (hr3.close HB2.out HTI.out (Nat.le_refl _) HZ1.out.lt s)
  have HZ3 := hid (HZ1.out.keep (hr3.c.block _ HZ1.out.lt ((HTI.out.below HB2.out).rows HZ1.out)))
  have HL3 := hid (HL1.out.keep (hr3.c.block _ HL1.out.lt ((HTI.out.below HB2.out).rows HL1.out)))
  clear hr3
  obtain ⟨⟨z0, z1, z2, z3⟩, f0, f1, f2, f3⟩ := HZ3.out.cells
  obtain ⟨y0, y1, y2, y3⟩ := HL3.out.four
  dsimp only [zero4] at z0 z1 z2 z3
  go_wp2
  obtain ⟨p0, p1, p2, p3⟩ := (HZ3.out.put s).four
  exact bodyPost_ret (v := .tuple #[rowv s, .int .i64 0]) (by simp [results, Tryz.results25, go_sem, p0, p1, p2, p3, rowv, rowc]) rfl ⟨rfl, HR3.out.tab HOK.out (by omega) hmo, HR3.out.c⟩
theorem tdel (h : Tab w T p Q most o l) (k : List Nat) (hb : Byt k) :
    Calls Tryz.prog 25 #[.pointer (some ⟨T, 0, none⟩), .string (str k)] w (DelEnd w T p Q most o (kdelN l k) (kgetR l k) (kgetE l k)) := by
  unfold kdelN kgetR kgetE
  cases hk : keyB k with
  | false =>
    refine (tdel_bad T k hk).mono ?_
    rintro e w' ⟨rfl, hb'⟩
    exact ⟨rfl, h.still hb'⟩
  | true =>
    cases hg : getK l k with
    | some s => exact tdel_some h k hb hk hg
    | none =>
      refine (tdel_none h k hb hk hg).mono ?_
      rintro e w' ⟨rfl, hb'⟩
      exact ⟨rfl, h.still hb'⟩
end
end Go.Proofs.YtlnagdodnkhbmaaGreat

/- The reference's table: rows in a list: At, Has, Get. -/
namespace Go.Proofs.YtlnagdodnkhbmaaGreat
open Go.RowKit
set_option maxRecDepth 100000

def cQ (q : KR) : List Value := [.string (str q.1), .int .i64 q.2.a, .int .i64 q.2.b, .int .i64 q.2.c, .int .i64 q.2.d]
theorem cQ_len (q : KR) : (cQ q).length = 5 := rfl
theorem cQ_one (q : KR) : ∀ y ∈ cQ q, y.oneCell' = true := by
  intro y hy
  simp [cQ] at hy
  rcases hy with rfl | rfl | rfl | rfl | rfl <;> rfl
/-- The reference's table: where it lies, what it has. -/
def RTab (w : World) (F : List Nat) (p most : Nat) (l : List KR) : Prop :=
  ∃ v, w.heap[p]? = some (.cells #[v, .int .i64 (most : Int)] 47 (0, 0)) ∧ Elems 5 cQ w v l ∧ F = p :: ownFoot v ∧ (∀ b ∈ ownFoot v, b < w.heap.size) ∧ p ∉ ownFoot v
section
variable {w w' : World} {F : List Nat} {p most : Nat} {l : List KR}
theorem RTab.keep (h : RTab w F p most l) (hs : w.heap.size ≤ w'.heap.size) (hk : ∀ b ∈ F, w'.heap[b]? = w.heap[b]?) : RTab w' F p most l := by
  obtain ⟨v, h1, h2, rfl, h4, h5⟩ := h
  exact ⟨v, (hk p List.mem_cons_self).trans h1, h2.keep fun b hb => hk b (List.mem_cons_of_mem _ hb), rfl, fun b hb => Nat.lt_of_lt_of_le (h4 b hb) hs, h5⟩
theorem RTab.mem (h : RTab w F p most l) : p ∈ F := by obtain ⟨_, _, _, rfl, _⟩ := h; exact List.mem_cons_self
theorem RTab.plt (h : RTab w F p most l) : p < w.heap.size := by obtain ⟨_, h, _⟩ := h; exact (Array.getElem?_eq_some_iff.1 h).1
theorem RTab.lt (h : RTab w F p most l) : ∀ b ∈ F, b < w.heap.size := by
  obtain ⟨v, h1, _, rfl, h4, _⟩ := h
  intro b hb
  rcases List.mem_cons.1 hb with rfl | hb
  · exact (Array.getElem?_eq_some_iff.1 h1).1
  · exact h4 b hb
theorem RTab.below (h : RTab w F p most l) (hb : Below w.heap.size w w') : RTab w' F p most l := h.keep hb.size fun b hB => hb.block b (h.lt b hB)
theorem RTab.chg {G G' : List Nat} (h : RTab w F p most l) (hc : Chg G w w' G') (hG : ∀ b ∈ G, b ∉ F) : RTab w' F p most l := h.keep hc.size (hc.out h.lt hG)
end
/-- Where a row of the list lies. -/
def QAt (w : World) (a : Addr) (q : KR) : Prop :=
  w.cell? a = some (.string (str q.1)) ∧ w.cell? { block := a.block, off := a.off + 1, spot := none } = some (.int .i64 q.2.a) ∧ w.cell? { block := a.block, off := a.off + 2, spot := none } = some (.int .i64 q.2.b) ∧
    w.cell? { block := a.block, off := a.off + 3, spot := none } = some (.int .i64 q.2.c) ∧ w.cell? { block := a.block, off := a.off + 4, spot := none } = some (.int .i64 q.2.d)
theorem Elems.qat {w : World} {A : Option Addr} {n cap i : Nat} {l : List KR} {q : KR} (h : Elems 5 cQ w (.slice A n cap) l) (hi : l[i]? = some q) : ∃ ad, A = some ad ∧ QAt w (ad.add (i * 5)) q := by
  obtain ⟨ad, hA, h0⟩ := h.cell cQ_len hi (j := 0) rfl
  obtain ⟨ad1, hA1, h1⟩ := h.cell cQ_len hi (j := 1) rfl
  obtain ⟨ad2, hA2, h2⟩ := h.cell cQ_len hi (j := 2) rfl
  obtain ⟨ad3, hA3, h3⟩ := h.cell cQ_len hi (j := 3) rfl
  obtain ⟨ad4, hA4, h4⟩ := h.cell cQ_len hi (j := 4) rfl
  subst hA
  injection hA1 with hA1; injection hA2 with hA2; injection hA3 with hA3; injection hA4 with hA4
  subst hA1; subst hA2; subst hA3; subst hA4
  rw [add_off ad _ 0] at h1
  rw [add_off ad _ 1] at h2
  rw [add_off ad _ 2] at h3
  rw [add_off ad _ 3] at h4
  exact ⟨ad, rfl, h0, h1, h2, h3, h4⟩
theorem QAt.below {w w' : World} {a : Addr} {q : KR} (h : QAt w a q) (hb : Below w.heap.size w w') : QAt w' a q :=
  ⟨below_keep hb _ _ h.1, below_keep hb _ _ h.2.1, below_keep hb _ _ h.2.2.1, below_keep hb _ _ h.2.2.2.1, below_keep hb _ _ h.2.2.2.2⟩
theorem QAt.keep {w w' : World} {a : Addr} {q : KR} (h : QAt w a q) (hk : w'.heap[a.block]? = w.heap[a.block]?) : QAt w' a q := by
  obtain ⟨h0, h1, h2, h3, h4⟩ := h
  refine ⟨?_, ?_, ?_, ?_, ?_⟩
  · exact (World.cell?_of_block hk).trans h0
  · exact (World.cell?_of_block (by exact hk)).trans h1
  · exact (World.cell?_of_block (by exact hk)).trans h2
  · exact (World.cell?_of_block (by exact hk)).trans h3
  · exact (World.cell?_of_block (by exact hk)).trans h4
def KByt (l : List KR) : Prop := ∀ q ∈ l, Byt q.1
theorem RowsOk.kbyt {l : List KR} (h : RowsOk l) : KByt l := h.byt

theorem keyB_len (xs : List Nat) : keyB xs = decide (1 ≤ (xs.length : Int) ∧ (xs.length : Int) ≤ 16) := by
  unfold keyB; rw [decide_eq_decide]; omega
theorem rright (w : World) (k : List Nat) : Calls Tryz.prog 59 #[.string (str k)] w fun e w' => e = .returned (.bool (keyB k)) ∧ w = w' := by
  have hs := str_size k
  have hkl := keyB_len k
  by_cases h1 : (1 : Int) ≤ k.length
  · by_cases h2 : (k.length : Int) ≤ 16
    · rw [hkl, decide_eq_true ⟨h1, h2⟩]
      clear hkl
      go_enter Tryz.func59, Tryz.ntmps59
      go_wp2
      go_ret
      exact ⟨rfl, rfl⟩
    · rw [hkl, decide_eq_false (fun h => h2 h.2)]
      clear hkl
      go_enter Tryz.func59, Tryz.ntmps59
      go_wp2
      go_ret
      exact ⟨rfl, rfl⟩
  · rw [hkl, decide_eq_false (fun h => h1 h.1)]
    clear hkl
    go_enter Tryz.func59, Tryz.ntmps59
    go_wp2
    go_ret
    exact ⟨rfl, rfl⟩
theorem at_of (l : List KR) (k : List Nat) (n : Nat) (hn : n ≤ l.length) (h1 : ∀ (j : Nat) (q : KR), j < n → l[j]? = some q → q.1 < k) (h2 : ∀ q : KR, l[n]? = some q → ¬ q.1 < k) : atN (lines l) k = n := by
  refine atN_of (lines l) k n (by rw [lines_len]; exact hn) (fun j x hj hx => ?_) (fun x hx => ?_)
  · rw [lines_at] at hx
    cases hq : l[j]? with
    | none => rw [hq] at hx; cases hx
    | some q => rw [hq] at hx; cases hx; exact h1 j q hj hq
  · rw [lines_at] at hx
    cases hq : l[n]? with
    | none => rw [hq] at hx; cases hx
    | some q => rw [hq] at hx; cases hx; exact h2 q hq
section
variable {w : World} {F : List Nat} {p most : Nat} {l : List KR}
theorem rat (hR : RTab w F p most l) (hl : KByt l) (k : List Nat) (hk : Byt k) :
    Calls Tryz.prog 61 #[.pointer (some ⟨p, 0, none⟩), .string (str k)] w fun e w' => e = .returned (.int .i64 (atN (lines l) k : Nat)) ∧ w = w' := by
  obtain ⟨v, h1, h2, _, _, _⟩ := hR
  obtain ⟨A, cap, rfl⟩ := h2.slice
  have H2 := hid h2
  have hp := cell_of_row w p 0 _ _ _ h1
  have hcap := h2.cap
  have hm : l.length ≤ 9223372036854775807 := by have := hcap.2.2; unfold maxLen at this; omega
  have HL := hid hl
  obtain ⟨len, HLEN⟩ : ∃ len, Hid (len = l.length) := ⟨_, rfl⟩
  rw [← HLEN.out] at hp hm
  simp at hp
  clear h1 h2 hcap hl
  go_enter Tryz.func61, Tryz.ntmps61
  go_wp2
  go_loop [5] (fun i => ∃ n : Nat, n ≤ len ∧ i = .int .i64 n ∧ Hid (∀ (j : Nat) (q : KR), j < n → l[j]? = some q → q.1 < k)) (fun i => len - (intOf i).toNat)
  case atStart => exact ⟨0, by omega, rfl, fun j q hj => by omega⟩
  case round =>
    obtain ⟨n, hn, rfl, HJ⟩ := hrel
    by_cases hlt : n < len
    · have hlti : (n : Int) < len := by omega
      obtain ⟨q, hq⟩ : ∃ q, l[n]? = some q := ⟨l[n]'(by have := HLEN.out; omega), List.getElem?_eq_getElem _⟩
      obtain ⟨ad, rfl, hc, _⟩ := H2.out.qat hq
      have hless := less_str (HL.out q (List.mem_of_getElem? hq)) hk
      have HQ := hid hq
      clear hq
      by_cases hqk : q.1 < k
      · simp only [hqk, decide_true] at hless
        have HJ' : Hid (∀ (j : Nat) (x : KR), j < n + 1 → l[j]? = some x → x.1 < k) := fun j x hj hx => by
          rcases Nat.lt_or_ge j n with h | h
          · exact HJ.out j x h hx
          · obtain rfl : j = n := by omega
            have := HQ.out
            rw [hx] at this
            injection this with this
            subst this
            exact hqk
        clear hqk
        go_wp2
        go_round
        case rel => exact ⟨n + 1, by omega, by go_num, HJ'⟩
        case measure => simp [intOf]; omega
      · simp only [hqk, decide_false] at hless
        have HA : Hid (atN (lines l) k = n) := at_of l k n (by have := HLEN.out; omega) HJ.out (fun x hx => by
          have := HQ.out
          rw [hx] at this
          injection this with this
          subst this
          exact hqk)
        clear hqk
        go_wp2
        go_ret
        exact ⟨by rw [HA.out]; rfl, rfl⟩
    · obtain rfl : n = len := by omega
      have HA : Hid (atN (lines l) k = n) := at_of l k n (by have := HLEN.out; omega) HJ.out (fun x hx => by
        have := (List.getElem?_eq_some_iff.1 hx).1
        have := HLEN.out
        omega)
      go_wp2
      go_ret
      exact ⟨by rw [HA.out]; rfl, rfl⟩
theorem rhas (hR : RTab w F p most l) (hl : KByt l) (k : List Nat) (hk : Byt k) :
    Calls Tryz.prog 60 #[.pointer (some ⟨p, 0, none⟩), .string (str k)] w fun e w' => e = .returned (.bool (getK l k).isSome) ∧ w = w' := by
  have HR := hid hR
  obtain ⟨v, h1, h2, _, _, _⟩ := hR
  obtain ⟨A, cap, rfl⟩ := h2.slice
  have hp := cell_of_row w p 0 _ _ _ h1
  have hcap := h2.cap
  have hm : l.length ≤ 9223372036854775807 := by have := hcap.2.2; unfold maxLen at this; omega
  have hle := atN_le (lines l) k
  rw [lines_len] at hle
  obtain ⟨len, HLEN⟩ : ∃ len, Hid (len = l.length) := ⟨_, rfl⟩
  obtain ⟨n, HNE⟩ : ∃ n, Hid (n = atN (lines l) k) := ⟨_, rfl⟩
  have HL := hid hl
  rw [← HLEN.out] at hp hm hle
  rw [← HNE.out] at hle
  simp at hp
  by_cases hlt : n < len
  · have hlti : (n : Int) < len := by omega
    obtain ⟨q, hq⟩ : ∃ q, l[n]? = some q := ⟨l[n]'(by have := HLEN.out; omega), List.getElem?_eq_getElem _⟩
    obtain ⟨ad, rfl, hc, _⟩ := h2.qat hq
    have heq := beq_str (HL.out q (List.mem_of_getElem? hq)) hk
    have HG : Hid ((getK l k).isSome = decide (q.1 = k)) := by
      show _ = _
      unfold getK
      rw [← HNE.out, hq]
      by_cases e : q.1 = k <;> simp [e]
    clear h1 h2 hcap hl hq
    by_cases hqk : q.1 = k
    · rw [decide_eq_true hqk] at heq HG
      rw [HG.out]
      clear hqk
      go_enter Tryz.func60, Tryz.ntmps60
      go_wp2_with fail
      refine (rat HR.out HL.out k hk).mono ?_
      rw [← HNE.out]
      rintro e w' ⟨rfl, rfl⟩
      go_wp2
      go_ret
      exact ⟨rfl, rfl⟩
    · rw [decide_eq_false hqk] at heq HG
      rw [HG.out]
      clear hqk
      go_enter Tryz.func60, Tryz.ntmps60
      go_wp2_with fail
      refine (rat HR.out HL.out k hk).mono ?_
      rw [← HNE.out]
      rintro e w' ⟨rfl, rfl⟩
      go_wp2
      go_ret
      exact ⟨rfl, rfl⟩
  · have hlti : ¬ (n : Int) < len := by omega
    have HG : Hid ((getK l k).isSome = false) := by
      show _ = _
      unfold getK
      rw [← HNE.out, List.getElem?_eq_none (by have := HLEN.out; omega)]
      rfl
    rw [HG.out]
    clear h1 h2 hcap hl
    go_enter Tryz.func60, Tryz.ntmps60
    go_wp2_with fail
    refine (rat HR.out HL.out k hk).mono ?_
    rw [← HNE.out]
    rintro e w' ⟨rfl, rfl⟩
    go_wp2
    go_ret
    exact ⟨rfl, rfl⟩
theorem rget_bad (w : World) (p : Nat) (k : List Nat) (hk : keyB k = false) : Calls Tryz.prog 38 #[.pointer (some ⟨p, 0, none⟩), .string (str k)] w (RowEnd w zero4 13) := by
  have hsame := put4_same (lies_zero w)
  dsimp only [put4, zero4] at hsame
  obtain ⟨⟨z0, z1, z2, z3⟩, f0, f1, f2, f3⟩ := (lies_zero w).cells
  dsimp only [zero4] at z0 z1 z2 z3
  go_enter Tryz.func38, Tryz.ntmps38
  go_wp2_with fail
  refine (rright _ k).mono ?_
  rw [hk]
  rintro e w' ⟨rfl, rfl⟩
  go_wp2
  exact bodyPost_ret (v := .tuple #[rowv zero4, .int .i64 13]) (by simp [results, Tryz.results38, go_sem, z0, z1, z2, z3, rowv, rowc, zero4]) rfl ⟨rfl, below_zero w⟩
theorem rget_none (hR : RTab w F p most l) (hl : KByt l) (k : List Nat) (hb : Byt k) (hk : keyB k = true) (hg : getK l k = none) : Calls Tryz.prog 38 #[.pointer (some ⟨p, 0, none⟩), .string (str k)] w (RowEnd w zero4 14) := by
  have hsame := put4_same (lies_zero w)
  dsimp only [put4, zero4] at hsame
  obtain ⟨⟨z0, z1, z2, z3⟩, f0, f1, f2, f3⟩ := (lies_zero w).cells
  dsimp only [zero4] at z0 z1 z2 z3
  go_enter Tryz.func38, Tryz.ntmps38
  go_wp2_with fail
  refine (rright _ k).mono ?_
  rw [hk]
  rintro e w' ⟨rfl, rfl⟩
  go_wp2_with fail
  refine (rhas (hR.below (below_zero w)) hl k hb).mono ?_
  rw [hg]
  rintro e w' ⟨rfl, rfl⟩
  go_wp2
  exact bodyPost_ret (v := .tuple #[rowv zero4, .int .i64 14]) (by simp [results, Tryz.results38, go_sem, z0, z1, z2, z3, rowv, rowc, zero4]) rfl ⟨rfl, below_zero w⟩
set_option maxHeartbeats 1000000 in
theorem rget_some (hR : RTab w F p most l) (hl : KByt l) (k : List Nat) (hb : Byt k) (hk : keyB k = true) {r : Ro} (hg : getK l k = some r) : Calls Tryz.prog 38 #[.pointer (some ⟨p, 0, none⟩), .string (str k)] w (RowEnd w r 0) := by
  have hat := getK_some hg
  have HR := hid (hR.below (below_zero w))
  have HG := hid hg
  obtain ⟨v, h1, h2, _, _, _⟩ := hR
  obtain ⟨A, cap, rfl⟩ := h2.slice
  have hpw := cell_of_row _ p 0 _ _ _ h1
  simp at hpw
  have hlt : atN (lines l) k < l.length := (List.getElem?_eq_some_iff.1 hat).1
  obtain ⟨n, HNE⟩ : ∃ n, Hid (n = atN (lines l) k) := ⟨_, rfl⟩
  obtain ⟨len, HLEN⟩ : ∃ len, Hid (len = l.length) := ⟨_, rfl⟩
  have hm : l.length ≤ 9223372036854775807 := by have := h2.cap; unfold maxLen at this; omega
  rw [← HNE.out] at hat hlt
  rw [← HLEN.out] at hpw hlt hm
  have hlti : (n : Int) < len := by omega
  obtain ⟨ad, rfl, hcw⟩ := h2.qat hat
  have hbr : Below w.heap.size w (w.alloc (.cells (rowc r) 41)) := (Below.refl _ _).alloc (Nat.le_refl _) _
  have hp := below_keep (below_zero w) _ _ hpw
  obtain ⟨_, c0, c1, c2, c3⟩ := hcw.below (below_zero w)
  have HS2 := hid (And.intro (below_keep hbr _ _ hpw) (hcw.below hbr).2)
  dsimp only [rowc] at c0 c1 c2 c3 HS2
  obtain ⟨⟨z0, z1, z2, z3⟩, f0, f1, f2, f3⟩ := (lies_zero w).cells
  dsimp only [zero4] at z0 z1 z2 z3
  have HPF := hid (Lies.new w r).four
  clear h1 h2 hat hpw hcw hbr
  go_enter Tryz.func38, Tryz.ntmps38
  go_wp2_with fail
  refine (rright _ k).mono ?_
  rw [hk]
  rintro e w' ⟨rfl, rfl⟩
  go_wp2_with fail
  refine (rhas HR.out hl k hb).mono ?_
  rw [HG.out]
  rintro e w' ⟨rfl, rfl⟩
  have HRD := hid (HR.out.below (below_drew' _))
  go_wp2
  go_region_held3 (fun W => W.cell? ⟨p, 0, none⟩ = some (.slice (some ad) len cap) ∧ W.cell? { block := (ad.add (n * 5)).block, off := (ad.add (n * 5)).off + 1, spot := none } = some (.int .i64 r.a) ∧ W.cell? { block := (ad.add (n * 5)).block, off := (ad.add (n * 5)).off + 2, spot := none } = some (.int .i64 r.b) ∧ W.cell? { block := (ad.add (n * 5)).block, off := (ad.add (n * 5)).off + 3, spot := none } = some (.int .i64 r.c) ∧ W.cell? { block := (ad.add (n * 5)).block, off := (ad.add (n * 5)).off + 4, spot := none } = some (.int .i64 r.d))
    (first | exact ⟨hp, c0, c1, c2, c3⟩ | exact HS2.out)
    (first | (go_at_call 61; ((with_reducible refine (rat HRD.out hl k hb).mono ?_); rw [← HNE.out]; rintro e w2 ⟨rfl, rfl⟩)))
  go_wp2
  obtain ⟨p0, p1, p2, p3⟩ := HPF.out
  dsimp only [rowc] at p0 p1 p2 p3
  exact bodyPost_ret (v := .tuple #[rowv r, .int .i64 0]) (by simp [results, Tryz.results38, go_sem, p0, p1, p2, p3, rowv, rowc]) rfl ⟨rfl, ((Below.refl _ _).alloc (Nat.le_refl _) _).drew⟩
end
end Go.Proofs.YtlnagdodnkhbmaaGreat

/- The reference's table: Put, Delete. -/
namespace Go.Proofs.YtlnagdodnkhbmaaGreat
open Go.RowKit
set_option maxRecDepth 100000

theorem qinfo : (Tryz.prog.info? 97).map (fun i => (i.zero, i.size, i.bytes)) = some (some (.agg #[.string ⟨#[]⟩, .int .i64 0, .int .i64 0, .int .i64 0, .int .i64 0]), 5, 48) := by kernel_rfl
theorem qelem : Tryz.prog.elem 45 = 97 := by kernel_rfl
theorem qsize (W : World) : (sizeOf 97).run Tryz.prog W = .ok 5 W := by kernel_rfl
theorem qcut_to (W : World) (A : Option Addr) (len cap h : Nat) (hh : h ≤ cap) : (Instr.slice 45 (.slice A len cap) none (some (.int .i64 (h : Int))) none).run Tryz.prog W = .ok (sliced A 0 h cap 5) W := by
  have e := run_slice_h (P := Tryz.prog) (w := W) 45 A len cap (by rw [qelem]; exact Tryz.underlying45) .i64 (h : Int) (by omega) (by omega)
  rw [qelem, qsize] at e
  simpa [Result.andThen] using e
theorem qcut_from (W : World) (A : Option Addr) (len cap a : Nat) (ha : a ≤ len) : (Instr.slice 45 (.slice A len cap) (some (.int .i64 (a : Int))) none none).run Tryz.prog W = .ok (sliced A a len cap 5) W := by
  have e := run_slice_l (P := Tryz.prog) (w := W) 45 A len cap (by rw [qelem]; exact Tryz.underlying45) .i64 (a : Int) (by omega) (by omega)
  rw [qelem, qsize] at e
  simpa [Result.andThen] using e

/-- Behind a call that turned the table at p alone. -/
def RTurn (w : World) (p most : Nat) (l : List KR) (u : Value) (e : Ending) (w' : World) : Prop :=
  e = .returned u ∧ ∃ F', RTab w' F' p most l ∧ Chg [p] w w' [p] ∧ ∀ b ∈ F', b = p ∨ w.heap.size ≤ b
/-- The table, once p's cell names a row that the call made; then a row is stored where the call's result lies. -/
theorem rturn_of {w w3 : World} {p most g : Nat} {l : List KR} {u0 v3 : Value} (h1 : w.heap[p]? = some (.cells #[u0, .int .i64 (most : Int)] 47 (0, 0))) (hb : Below w.heap.size w w3) (ho : OwnElems 5 cQ 97 w3 w.heap.size v3 l)
    (hg : w.heap.size ≤ g) {r0 : Ro} (hl : Lies w3 g r0) (r : Ro) :
    ∃ F', RTab (put4 (w3.setCell ⟨p, 0, none⟩ v3) g r) F' p most l ∧ Chg [p] w (put4 (w3.setCell ⟨p, 0, none⟩ v3) g r) [p] ∧ ∀ b ∈ F', b = p ∨ w.heap.size ≤ b := by
  have hpl : p < w.heap.size := (Array.getElem?_eq_some_iff.1 h1).1
  have h3 : w3.heap[p]? = _ := (hb.block _ hpl).trans h1
  have hne : p ∉ ownFoot v3 := fun hm => by have := (ho.lt p hm).1; omega
  have hgf : g ∉ ownFoot v3 := ho.ne_ hl (by decide)
  have hk1 : ∀ b ∈ ownFoot v3, (w3.setCell ⟨p, 0, none⟩ v3).heap[b]? = w3.heap[b]? := fun b hbb => Below.heap_setCell _ _ _ _ (fun e => hne (by rw [e] at hbb; exact hbb))
  have hk2 : ∀ b ∈ ownFoot v3, (put4 (w3.setCell ⟨p, 0, none⟩ v3) g r).heap[b]? = w3.heap[b]? := fun b hbb => (put4_far (fun e => hgf (by rw [e] at hbb; exact hbb))).trans (hk1 b hbb)
  have hc : Chg [p] w (w3.setCell ⟨p, 0, none⟩ v3) [p] := (Chg.of_below (F := [p]) hb).setCell (by simp) _
  have hc2 : Chg [p] w (put4 (w3.setCell ⟨p, 0, none⟩ v3) g r) [p] := ((hc.less (K := [g, p]) fun k hk => by simp at hk; rcases hk with rfl | rfl; exact .inr hg; exact .inl (by simp)).put4 (by simp) r).less fun k hk => .inl (by simp at hk; simp [hk])
  refine ⟨p :: ownFoot v3, ⟨v3, ?_, ho.rows.keep hk2, rfl, fun b hbb => ?_, hne⟩, hc2, fun b hbb => ?_⟩
  · rw [put4_far (by omega)]
    simp [World.setCell, Array.getElem?_modify, h3]
  · have := (ho.lt b hbb).2
    simpa [put4, World.setCell] using this
  · rcases List.mem_cons.1 hbb with rfl | hbb
    · exact .inl rfl
    · exact .inr (ho.lt b hbb).1
theorem OwnElems.put4_ {w : World} {base g : Nat} {v : Value} {l : List KR} {r0 : Ro} (ho : OwnElems 5 cQ 97 w base v l) (hl : Lies w g r0) (r : Ro) : OwnElems 5 cQ 97 (put4 w g r) base v l :=
  ho.keep fun b hb => put4_far fun e => ho.ne_ hl (by decide) (by rw [e] at hb; exact hb)
theorem Lies.grown {w w' : World} {g : Nat} {r : Ro} {v : Value} (hl : Lies w g r) (hg : w.grownBy w' v.ownBlock) (hne : g ∉ ownFoot v) : Lies w' g r :=
  hl.keep (hg.block g hl.lt fun e => hne (mem_ownFoot.2 e.symm))
theorem Lies.ne_blk {w : World} {p g : Nat} {r : Ro} {u0 : Value} {most : Nat} (hl : Lies w g r) (h1 : w.heap[p]? = some (.cells #[u0, .int .i64 (most : Int)] 47 (0, 0))) : p ≠ g := by
  rintro rfl
  unfold Lies at hl
  rw [h1] at hl
  injection hl with hl
  injection hl with _ ht
  exact absurd ht (by decide)
section
variable {w : World} {F : List Nat} {p most : Nat} {l : List KR}
set_option maxHeartbeats 2000000 in
theorem rput_was (hR : RTab w F p most l) (hl : KByt l) (k : List Nat) (hb : Byt k) (hsz : l.length ≤ 1024) (hk : keyB k = true) {s : Ro} (hg : getK l k = some s) (r : Ro) :
    Calls Tryz.prog 36 #[.pointer (some ⟨p, 0, none⟩), .string (str k), rowv r] w (RTurn w p most (putK l k r) (.tuple #[rowv s, .bool true, .int .i64 0])) := by
  obtain ⟨i0, hi0, hz0, hs0, hy0⟩ := info_parts qinfo
  have HR := hid hR
  obtain ⟨u, h1, h2, hF, hlt2, hpn⟩ := hR
  obtain ⟨A, cap, rfl⟩ := h2.slice
  have H1 := hid h1
  have hcap := h2.cap
  obtain ⟨n, HNE⟩ : ∃ n, Hid (n = atN (lines l) k) := ⟨_, rfl⟩
  obtain ⟨len, HLEN⟩ : ∃ len, Hid (len = l.length) := ⟨_, rfl⟩
  have hle := atN_le (lines l) k
  rw [lines_len] at hle
  have HSZ : Hid (l.length ≤ 1024) := hsz
  have hpw := cell_of_row _ p 0 _ _ _ h1
  have hmw := cell_of_row _ p 1 _ _ _ h1
  simp at hpw hmw
  rw [← HNE.out] at hle
  rw [← HLEN.out] at hle hcap hpw
  have hm : len ≤ 1024 := by rw [HLEN.out]; exact hsz
  have HP := hid hpw
  have HM := hid hmw
  have hat := getK_some hg
  rw [← HNE.out] at hat
  have hlt : n < len := by rw [HLEN.out]; exact (List.getElem?_eq_some_iff.1 hat).1
  have hlti : (n : Int) < len := by omega
  obtain ⟨VA, HVA⟩ : ∃ V, Hid (V = sliced A 0 n cap 5) := ⟨_, rfl⟩
  obtain ⟨VC, HVC⟩ : ∃ V, Hid (V = sliced A (n + 1) len cap 5) := ⟨_, rfl⟩
  have hcA : ∀ W, (Instr.slice 45 (.slice A len cap) none (some (.int .i64 (n : Int))) none).run Tryz.prog W = .ok VA W := fun W => by rw [HVA.out]; exact qcut_to W A len cap n (by omega)
  have hcC : ∀ W, (Instr.slice 45 (.slice A len cap) (some (.int .i64 ((n : Int) + 1))) none none).run Tryz.prog W = .ok VC W := fun W => by rw [HVC.out]; have := qcut_from W A len cap (n + 1) (by omega); rwa [show ((n + 1 : Nat) : Int) = (n : Int) + 1 by omega] at this
  have HRA : Hid (Elems 5 cQ w VA (l.take n)) := by rw [HVA.out]; exact h2.to_ cQ_len (by have := HLEN.out; omega)
  have HRC : Hid (Elems 5 cQ w VC (l.drop (n + 1))) := by rw [HVC.out, HLEN.out]; exact h2.from_ cQ_len (by have := HLEN.out; omega)
  obtain ⟨ad, rfl, hcw⟩ := h2.qat hat
  have HC := hid hcw
  clear hcw hat
  have HPUT : Hid (putK l k r = l.take n ++ [(k, r)] ++ l.drop (n + 1)) := by
    show _ = _
    unfold putK; rw [hg, ← HNE.out]; rfl
  have HG := hid hg
  have HS0 := hid (put_start w r)
  have hp0 := below_keep HS0.out.2.2 _ _ hpw
  have hm0 := below_keep HS0.out.2.2 _ _ hmw
  obtain ⟨LP, HLP⟩ : ∃ LP, Hid (LP = l.take n ++ [(k, r)] ++ l.drop (n + 1)) := ⟨_, rfl⟩
  rw [HPUT.out, ← HLP.out]
  clear h1 h2 hg hsz hF hlt2 hpn hpw hmw
  unfold rowv rowc
  go_enter Tryz.func36, Tryz.ntmps36
  go_wp2_with fail
  refine (rright _ k).mono ?_
  rw [hk]
  rintro e w' ⟨rfl, rfl⟩
  go_wp2_with fail
  refine (rhas (HR.out.below HS0.out.2.2) hl k hb).mono ?_
  rw [HG.out]
  rintro e w' ⟨rfl, rfl⟩
  go_wp2
  go_quiet (fail)
  rename_i nq
  obtain ⟨wd, HWD⟩ : ∃ wd, Hid (wd = World.drewN ((w.alloc (.cells #[.int .i64 r.a, .int .i64 r.b, .int .i64 r.c, .int .i64 r.d] 41)).alloc (.cells #[.int .i64 0, .int .i64 0, .int .i64 0, .int .i64 0] 41)) nq) := ⟨_, rfl⟩
  have HBD : Hid (Below w.heap.size w wd) := by rw [HWD.out]; exact below_drewN' HS0.out.2.2 nq
  have HLR : Hid (Lies wd w.heap.size r) := by rw [HWD.out]; exact HS0.out.1
  have HLZ : Hid (Lies wd (w.heap.size + 1) zero4) := by rw [HWD.out]; exact HS0.out.2.1
  have HSD : Hid (wd.heap.size = w.heap.size + 2) := by show _ = _; rw [HWD.out]; simp
  rw [← HWD.out]
  clear hp0 hm0
  go_wp2_with fail
  refine (rat (HR.out.below HBD.out) hl k hb).mono ?_
  rw [← HNE.out]
  rintro e w' ⟨rfl, rfl⟩
  have HBA : Hid (Below w.heap.size w (wd.alloc (.cells #[.int .i64 0, .int .i64 0, .int .i64 0, .int .i64 0] 41))) := HBD.out.alloc HBD.out.size _
  have HAA : Hid (Below wd.heap.size wd (wd.alloc (.cells #[.int .i64 0, .int .i64 0, .int .i64 0, .int .i64 0] 41))) := (Below.refl _ _).alloc (Nat.le_refl _) _
  have HLO := hid (lies_zero wd)
  have hpa := below_keep HBA.out _ _ HP.out
  go_wp2_with (first
    | (at_builtin; refine wpList_append_rows _ rfl (.tmp 64) (.tmp 70) 45 rfl w.heap.size 97 i0 _ 5 48 Tryz.underlying45 hi0 hz0 hs0 hy0 rfl (by omega) cQ_one v2 _ rfl HOP.out _ _ rfl (HRC.out.below HBP.out) (by have := HSZ.out; simp [maxLen]; omega) (by have := HSZ.out; simp; omega) HBP.out.size ?_; intro v3 w3 ho3 hg3 hf3; clear z0 z1 z2 z3 f0 f1 f2 f3 hp2 hpp c0 c1 c2 c3; obtain ⟨A3, N3, c3, rfl⟩ := (OwnElems.rows ho3).form; have HO3 := hid ho3; have HB3 := hid (HBP.out.grown hg3 HBP.out.size (fun g hg => (HOP.out.lt g (mem_ownFoot.2 hg)).1)); have HZ3 := hid (HZP.out.grown hg3 (HOP.out.ne_ HZP.out (by decide))); have HT3 := hid (HTP.out.grown hg3 (HOP.out.ne_ HTP.out (by decide))); have H13 : Hid (w3.heap[p]? = some (.cells #[.slice (some ad) l.length cap, .int .i64 (most : Int)] 47 (0, 0))) := (HB3.out.block _ (Array.getElem?_eq_some_iff.1 H1.out).1).trans H1.out; have hp3 := below_keep HB3.out _ _ HP.out; have hz3 : w3.frozen? ⟨p, 0, none⟩ = false := (by have h := H13.out; simp [World.frozen?, h]); have hn1 : p ≠ wd.heap.size := HT3.out.ne_blk H13.out; have hn2 : p ≠ w.heap.size + 1 := HZ3.out.ne_blk H13.out; have HF := hid (rturn_of H1.out HB3.out HO3.out (Nat.le_succ _) HZ3.out s); have HPP : Hid (Lies (put4 (w3.setCell ⟨p, 0, none⟩ (.slice A3 N3 c3)) (w.heap.size + 1) s) (w.heap.size + 1) s) := Lies.put (HZ3.out.keep (Below.heap_setCell _ _ _ _ (Ne.symm hn2))) s; have HTS := hid (HT3.out.keep (w' := w3.setCell ⟨p, 0, none⟩ (.slice A3 N3 c3)) (Below.heap_setCell _ _ _ _ (Ne.symm hn1))); have HZS := hid (HZ3.out.keep (w' := w3.setCell ⟨p, 0, none⟩ (.slice A3 N3 c3)) (Below.heap_setCell _ _ _ _ (Ne.symm hn2))); obtain ⟨y0, y1, y2, y3⟩ := HTS.out.four; obtain ⟨⟨z0, z1, z2, z3⟩, f0, f1, f2, f3⟩ := HZS.out.cells; (try dsimp only [zero4] at z0 z1 z2 z3 y0 y1 y2 y3); clear ho3 hg3 hf3)
    | (at_builtin; refine wpList_append_rows _ rfl (.tmp 46) (.tmp 50) 45 rfl w.heap.size 97 i0 _ 5 48 Tryz.underlying45 hi0 hz0 hs0 hy0 rfl (by omega) cQ_one v1 _ rfl (HO1.out.alloc _) _ _ rfl (rows_new w1 5 cQ cQ_len (k, r) 97) (by have := HSZ.out; simp [maxLen]; omega) (by have := HSZ.out; simp; omega) (HB1.out.alloc HB1.out.size _).size ?_; intro v2 w2 ho2 hg2 hf2; have HO2 := hid ho2; have HB2 := hid ((HB1.out.alloc HB1.out.size _).grown hg2 (HB1.out.alloc HB1.out.size _).size (fun g hg => (HO1.out.lt g (mem_ownFoot.2 hg)).1)); have hnl : ∀ {g : Nat} {r0 : Ro}, Lies w1 g r0 → g ∉ ownFoot v1 := fun h => HO1.out.ne_ h (by decide); have HZ2 := hid ((HZ1.out.below HB1A.out).grown hg2 (hnl HZ1.out)); have HT2 := hid ((HO1'.out.below HB1A.out).grown hg2 (hnl HO1'.out)); have hp2 := below_keep HB2.out _ _ HP.out; clear ho2 hg2 hf2 y0 y1 y2 y3 hnl; obtain ⟨⟨z0, z1, z2, z3⟩, f0, f1, f2, f3⟩ := HT2.out.cells; dsimp only [zero4] at z0 z1 z2 z3; obtain ⟨_, c0, c1, c2, c3⟩ := HC.out.below HB2.out; dsimp only at c0 c1 c2 c3; have hpne : p ≠ wd.heap.size := HT2.out.ne_blk ((HB2.out.block _ (Array.getElem?_eq_some_iff.1 H1.out).1).trans H1.out); have HOP := hid (HO2.out.put4_ HT2.out s); have HBP : Hid (Below w.heap.size w (put4 w2 wd.heap.size s)) := below_put4 HB2.out HBD.out.size s; have HZP := hid (put4_far_lies (r := s) HZ2.out (by have := HSD.out; omega : w.heap.size + 1 ≠ wd.heap.size)); have HTP := hid (HT2.out.put s); have hpp := below_keep HBP.out _ _ HP.out; dsimp only [put4] at hpp HOP HBP HZP HTP)
    | (at_builtin; refine wpList_append_rows _ rfl (.tmp 38) (.tmp 44) 45 rfl w.heap.size 97 i0 _ 5 48 Tryz.underlying45 hi0 hz0 hs0 hy0 rfl (by omega) cQ_one (.slice none 0 0) _ rfl (OwnElems.nil _ _ _ _ _) _ _ rfl (HRA.out.below HBA.out) (by have := HSZ.out; simp [maxLen]; omega) (by have := HSZ.out; simp; omega) HBA.out.size ?_; intro v1 w1 ho1 hg1 hf1; rw [List.nil_append] at ho1; have HO1 := hid ho1; have HB1 := hid (HBA.out.grown hg1 HBA.out.size (fun g hg => by simp [Value.ownBlock] at hg)); have HL1 := hid ((HLR.out.below HAA.out).grown hg1 (by simp [ownFoot, Value.ownBlock])); have HZ1 := hid ((HLZ.out.below HAA.out).grown hg1 (by simp [ownFoot, Value.ownBlock])); have HO1' := hid (HLO.out.grown hg1 (by simp [ownFoot, Value.ownBlock])); obtain ⟨y0, y1, y2, y3⟩ := HL1.out.four; have HB1A : Hid (Below w1.heap.size w1 (w1.alloc (.cells (cQ (k, r)).toArray 97))) := (Below.refl _ _).alloc (Nat.le_refl _) _; clear ho1 hg1 hf1 hpa))
  obtain ⟨p0, p1, p2, p3⟩ := HPP.out.four
  dsimp only [put4, id] at p0 p1 p2 p3
  exact bodyPost_ret (v := .tuple #[rowv s, .bool true, .int .i64 0]) (by simp [results, Tryz.results36, go_sem, p0, p1, p2, p3, rowv, rowc]) rfl (by rw [HLP.out]; exact ⟨rfl, HF.out⟩)
set_option maxHeartbeats 2000000 in
theorem rput_new (hR : RTab w F p most l) (hl : KByt l) (k : List Nat) (hb : Byt k) (hsz : l.length ≤ 1024) (hk : keyB k = true) (hg : getK l k = none) (hf : l.length < most) (r : Ro) :
    Calls Tryz.prog 36 #[.pointer (some ⟨p, 0, none⟩), .string (str k), rowv r] w (RTurn w p most (putK l k r) (.tuple #[rowv zero4, .bool false, .int .i64 0])) := by
  obtain ⟨i0, hi0, hz0, hs0, hy0⟩ := info_parts qinfo
  have HR := hid hR
  obtain ⟨u, h1, h2, hF, hlt2, hpn⟩ := hR
  obtain ⟨A, cap, rfl⟩ := h2.slice
  have H1 := hid h1
  have hcap := h2.cap
  obtain ⟨n, HNE⟩ : ∃ n, Hid (n = atN (lines l) k) := ⟨_, rfl⟩
  obtain ⟨len, HLEN⟩ : ∃ len, Hid (len = l.length) := ⟨_, rfl⟩
  have hle := atN_le (lines l) k
  rw [lines_len] at hle
  have HSZ : Hid (l.length ≤ 1024) := hsz
  have hpw := cell_of_row _ p 0 _ _ _ h1
  have hmw := cell_of_row _ p 1 _ _ _ h1
  simp at hpw hmw
  rw [← HNE.out] at hle
  rw [← HLEN.out] at hle hcap hpw
  have hm : len ≤ 1024 := by rw [HLEN.out]; exact hsz
  have HP := hid hpw
  have HM := hid hmw
  have hfi : ¬ (most : Int) ≤ (len : Int) := by have := HLEN.out; omega
  have hfd : decide ((most : Int) ≤ (len : Int)) = false := decide_eq_false hfi
  have hfn : decide (most ≤ len) = false := by rw [decide_eq_false_iff_not]; have := HLEN.out; omega
  have hfg : ¬ most ≤ len := by have := HLEN.out; omega
  obtain ⟨VA, HVA⟩ : ∃ V, Hid (V = sliced A 0 n cap 5) := ⟨_, rfl⟩
  obtain ⟨VC, HVC⟩ : ∃ V, Hid (V = sliced A (n) len cap 5) := ⟨_, rfl⟩
  have hcA : ∀ W, (Instr.slice 45 (.slice A len cap) none (some (.int .i64 (n : Int))) none).run Tryz.prog W = .ok VA W := fun W => by rw [HVA.out]; exact qcut_to W A len cap n (by omega)
  have hcC : ∀ W, (Instr.slice 45 (.slice A len cap) (some (.int .i64 ((n : Int)))) none none).run Tryz.prog W = .ok VC W := fun W => by rw [HVC.out]; have := qcut_from W A len cap (n) (by omega); rwa [show ((n : Nat) : Int) = (n : Int) by omega] at this
  have HRA : Hid (Elems 5 cQ w VA (l.take n)) := by rw [HVA.out]; exact h2.to_ cQ_len (by have := HLEN.out; omega)
  have HRC : Hid (Elems 5 cQ w VC (l.drop (n))) := by rw [HVC.out, HLEN.out]; exact h2.from_ cQ_len (by have := HLEN.out; omega)
  have HPUT : Hid (putK l k r = l.take n ++ [(k, r)] ++ l.drop (n)) := by
    show _ = _
    unfold putK; rw [hg, ← HNE.out]; rfl
  have HG := hid hg
  have HS0 := hid (put_start w r)
  have hp0 := below_keep HS0.out.2.2 _ _ hpw
  have hm0 := below_keep HS0.out.2.2 _ _ hmw
  obtain ⟨LP, HLP⟩ : ∃ LP, Hid (LP = l.take n ++ [(k, r)] ++ l.drop (n)) := ⟨_, rfl⟩
  rw [HPUT.out, ← HLP.out]
  clear h1 h2 hg hsz hF hlt2 hpn hpw hmw
  unfold rowv rowc
  go_enter Tryz.func36, Tryz.ntmps36
  go_wp2_with fail
  refine (rright _ k).mono ?_
  rw [hk]
  rintro e w' ⟨rfl, rfl⟩
  go_wp2_with fail
  refine (rhas (HR.out.below HS0.out.2.2) hl k hb).mono ?_
  rw [HG.out]
  rintro e w' ⟨rfl, rfl⟩
  go_wp2
  go_quiet (fail)
  rename_i nq
  obtain ⟨wd, HWD⟩ : ∃ wd, Hid (wd = World.drewN ((w.alloc (.cells #[.int .i64 r.a, .int .i64 r.b, .int .i64 r.c, .int .i64 r.d] 41)).alloc (.cells #[.int .i64 0, .int .i64 0, .int .i64 0, .int .i64 0] 41)) nq) := ⟨_, rfl⟩
  have HBD : Hid (Below w.heap.size w wd) := by rw [HWD.out]; exact below_drewN' HS0.out.2.2 nq
  have HLR : Hid (Lies wd w.heap.size r) := by rw [HWD.out]; exact HS0.out.1
  have HLZ : Hid (Lies wd (w.heap.size + 1) zero4) := by rw [HWD.out]; exact HS0.out.2.1
  have HSD : Hid (wd.heap.size = w.heap.size + 2) := by show _ = _; rw [HWD.out]; simp
  rw [← HWD.out]
  clear hp0 hm0
  go_wp2_with fail
  refine (rat (HR.out.below HBD.out) hl k hb).mono ?_
  rw [← HNE.out]
  rintro e w' ⟨rfl, rfl⟩
  have HBA : Hid (Below w.heap.size w (wd.alloc (.cells #[.int .i64 0, .int .i64 0, .int .i64 0, .int .i64 0] 41))) := HBD.out.alloc HBD.out.size _
  have HAA : Hid (Below wd.heap.size wd (wd.alloc (.cells #[.int .i64 0, .int .i64 0, .int .i64 0, .int .i64 0] 41))) := (Below.refl _ _).alloc (Nat.le_refl _) _
  have HLO := hid (lies_zero wd)
  have hpa := below_keep HBA.out _ _ HP.out
  go_wp2_with (first
    | (at_builtin; refine wpList_append_rows _ rfl (.tmp 64) (.tmp 70) 45 rfl w.heap.size 97 i0 _ 5 48 Tryz.underlying45 hi0 hz0 hs0 hy0 rfl (by omega) cQ_one v2 _ rfl HOP.out _ _ rfl (HRC.out.below HBP.out) (by have := HSZ.out; simp [maxLen]; omega) (by have := HSZ.out; simp; omega) HBP.out.size ?_; intro v3 w3 ho3 hg3 hf3; clear hp2; obtain ⟨A3, N3, c3, rfl⟩ := (OwnElems.rows ho3).form; have HO3 := hid ho3; have HB3 := hid (HBP.out.grown hg3 HBP.out.size (fun g hg => (HOP.out.lt g (mem_ownFoot.2 hg)).1)); have HZ3 := hid (HZP.out.grown hg3 (HOP.out.ne_ HZP.out (by decide))); have HT3 := hid (HTP.out.grown hg3 (HOP.out.ne_ HTP.out (by decide))); have H13 : Hid (w3.heap[p]? = some (.cells #[.slice A l.length cap, .int .i64 (most : Int)] 47 (0, 0))) := (HB3.out.block _ (Array.getElem?_eq_some_iff.1 H1.out).1).trans H1.out; have hp3 := below_keep HB3.out _ _ HP.out; have hz3 : w3.frozen? ⟨p, 0, none⟩ = false := (by have h := H13.out; simp [World.frozen?, h]); have hn1 : p ≠ wd.heap.size := HT3.out.ne_blk H13.out; have hn2 : p ≠ w.heap.size + 1 := HZ3.out.ne_blk H13.out; have HF := hid (rturn_of H1.out HB3.out HO3.out (Nat.le_succ _) HZ3.out zero4); have HPP : Hid (Lies (put4 (w3.setCell ⟨p, 0, none⟩ (.slice A3 N3 c3)) (w.heap.size + 1) zero4) (w.heap.size + 1) zero4) := Lies.put (HZ3.out.keep (Below.heap_setCell _ _ _ _ (Ne.symm hn2))) zero4; have HTS := hid (HT3.out.keep (w' := w3.setCell ⟨p, 0, none⟩ (.slice A3 N3 c3)) (Below.heap_setCell _ _ _ _ (Ne.symm hn1))); have HZS := hid (HZ3.out.keep (w' := w3.setCell ⟨p, 0, none⟩ (.slice A3 N3 c3)) (Below.heap_setCell _ _ _ _ (Ne.symm hn2))); obtain ⟨y0, y1, y2, y3⟩ := HTS.out.four; obtain ⟨⟨z0, z1, z2, z3⟩, f0, f1, f2, f3⟩ := HZS.out.cells; (try dsimp only [zero4] at z0 z1 z2 z3 y0 y1 y2 y3); clear ho3 hg3 hf3)
    | (at_builtin; refine wpList_append_rows _ rfl (.tmp 46) (.tmp 50) 45 rfl w.heap.size 97 i0 _ 5 48 Tryz.underlying45 hi0 hz0 hs0 hy0 rfl (by omega) cQ_one v1 _ rfl (HO1.out.alloc _) _ _ rfl (rows_new w1 5 cQ cQ_len (k, r) 97) (by have := HSZ.out; simp [maxLen]; omega) (by have := HSZ.out; simp; omega) (HB1.out.alloc HB1.out.size _).size ?_; intro v2 w2 ho2 hg2 hf2; have HO2 := hid ho2; have HB2 := hid ((HB1.out.alloc HB1.out.size _).grown hg2 (HB1.out.alloc HB1.out.size _).size (fun g hg => (HO1.out.lt g (mem_ownFoot.2 hg)).1)); have hnl : ∀ {g : Nat} {r0 : Ro}, Lies w1 g r0 → g ∉ ownFoot v1 := fun h => HO1.out.ne_ h (by decide); have HZ2 := hid ((HZ1.out.below HB1A.out).grown hg2 (hnl HZ1.out)); have HT2 := hid ((HO1'.out.below HB1A.out).grown hg2 (hnl HO1'.out)); have hp2 := below_keep HB2.out _ _ HP.out; clear ho2 hg2 hf2 y0 y1 y2 y3 hnl; have HOP := HO2; have HBP := HB2; have HZP := HZ2; have HTP := HT2)
    | (at_builtin; refine wpList_append_rows _ rfl (.tmp 38) (.tmp 44) 45 rfl w.heap.size 97 i0 _ 5 48 Tryz.underlying45 hi0 hz0 hs0 hy0 rfl (by omega) cQ_one (.slice none 0 0) _ rfl (OwnElems.nil _ _ _ _ _) _ _ rfl (HRA.out.below HBA.out) (by have := HSZ.out; simp [maxLen]; omega) (by have := HSZ.out; simp; omega) HBA.out.size ?_; intro v1 w1 ho1 hg1 hf1; rw [List.nil_append] at ho1; have HO1 := hid ho1; have HB1 := hid (HBA.out.grown hg1 HBA.out.size (fun g hg => by simp [Value.ownBlock] at hg)); have HL1 := hid ((HLR.out.below HAA.out).grown hg1 (by simp [ownFoot, Value.ownBlock])); have HZ1 := hid ((HLZ.out.below HAA.out).grown hg1 (by simp [ownFoot, Value.ownBlock])); have HO1' := hid (HLO.out.grown hg1 (by simp [ownFoot, Value.ownBlock])); obtain ⟨y0, y1, y2, y3⟩ := HL1.out.four; have HB1A : Hid (Below w1.heap.size w1 (w1.alloc (.cells (cQ (k, r)).toArray 97))) := (Below.refl _ _).alloc (Nat.le_refl _) _; clear ho1 hg1 hf1 hpa))
  obtain ⟨p0, p1, p2, p3⟩ := HPP.out.four
  dsimp only [put4, zero4] at p0 p1 p2 p3
  exact bodyPost_ret (v := .tuple #[rowv zero4, .bool false, .int .i64 0]) (by simp [results, Tryz.results36, go_sem, p0, p1, p2, p3, rowv, rowc, zero4]) rfl (by rw [HLP.out]; exact ⟨rfl, HF.out⟩)
end
end Go.Proofs.YtlnagdodnkhbmaaGreat

/- The reference's table: what Put refuses; Delete. -/
namespace Go.Proofs.YtlnagdodnkhbmaaGreat
open Go.RowKit
set_option maxRecDepth 100000

section
variable {w : World} {F : List Nat} {p most : Nat} {l : List KR}
theorem rput_bad (w : World) (p : Nat) (k : List Nat) (hk : keyB k = false) (r : Ro) : Calls Tryz.prog 36 #[.pointer (some ⟨p, 0, none⟩), .string (str k), rowv r] w fun e w' => e = .returned (.tuple #[rowv zero4, .bool false, .int .i64 13]) ∧ Below w.heap.size w w' := by
  have HS0 := hid (put_start w r)
  have hsame := put4_same HS0.out.2.1
  dsimp only [put4, zero4] at hsame
  obtain ⟨⟨z0, z1, z2, z3⟩, f0, f1, f2, f3⟩ := HS0.out.2.1.cells
  dsimp only [zero4] at z0 z1 z2 z3
  unfold rowv rowc
  go_enter Tryz.func36, Tryz.ntmps36
  go_wp2_with fail
  refine (rright _ k).mono ?_
  rw [hk]
  rintro e w' ⟨rfl, rfl⟩
  go_wp2
  exact bodyPost_ret (v := .tuple #[rowv zero4, .bool false, .int .i64 13]) (by simp [results, Tryz.results36, go_sem, z0, z1, z2, z3, rowv, rowc, zero4]) rfl ⟨rfl, HS0.out.2.2⟩
set_option maxHeartbeats 1000000 in
theorem rput_full (hR : RTab w F p most l) (hl : KByt l) (k : List Nat) (hb : Byt k) (hsz : l.length ≤ 1024) (hk : keyB k = true) (hg : getK l k = none) (hf : most ≤ l.length) (r : Ro) :
    Calls Tryz.prog 36 #[.pointer (some ⟨p, 0, none⟩), .string (str k), rowv r] w fun e w' => e = .returned (.tuple #[rowv zero4, .bool false, .int .i64 16]) ∧ Below w.heap.size w w' := by
  have HR := hid hR
  obtain ⟨u, h1, h2, hF, hlt2, hpn⟩ := hR
  obtain ⟨A, cap, rfl⟩ := h2.slice
  obtain ⟨len, HLEN⟩ : ∃ len, Hid (len = l.length) := ⟨_, rfl⟩
  have hpw := cell_of_row _ p 0 _ _ _ h1
  have hmw := cell_of_row _ p 1 _ _ _ h1
  simp at hpw hmw
  rw [← HLEN.out] at hpw
  have hm : len ≤ 1024 := by rw [HLEN.out]; exact hsz
  have hfi : (most : Int) ≤ (len : Int) := by have := HLEN.out; omega
  have hfd : decide ((most : Int) ≤ (len : Int)) = true := decide_eq_true hfi
  have hfn : decide (most ≤ len) = true := by rw [decide_eq_true_iff]; have := HLEN.out; omega
  have hfg : most ≤ len := by have := HLEN.out; omega
  have HG := hid hg
  have HS0 := hid (put_start w r)
  have hp0 := below_keep HS0.out.2.2 _ _ hpw
  have hm0 := below_keep HS0.out.2.2 _ _ hmw
  clear h1 h2 hg hsz hF hlt2 hpn hpw hmw hf
  unfold rowv rowc
  go_enter Tryz.func36, Tryz.ntmps36
  go_wp2_with fail
  refine (rright _ k).mono ?_
  rw [hk]
  rintro e w' ⟨rfl, rfl⟩
  go_wp2_with fail
  refine (rhas (HR.out.below HS0.out.2.2) hl k hb).mono ?_
  rw [HG.out]
  rintro e w' ⟨rfl, rfl⟩
  go_wp2
  go_quiet (fail)
  rename_i nq
  obtain ⟨wd, HWD⟩ : ∃ wd, Hid (wd = World.drewN ((w.alloc (.cells #[.int .i64 r.a, .int .i64 r.b, .int .i64 r.c, .int .i64 r.d] 41)).alloc (.cells #[.int .i64 0, .int .i64 0, .int .i64 0, .int .i64 0] 41)) nq) := ⟨_, rfl⟩
  have HBD : Hid (Below w.heap.size w wd) := by rw [HWD.out]; exact below_drewN' HS0.out.2.2 nq
  have HLZ : Hid (Lies wd (w.heap.size + 1) zero4) := by rw [HWD.out]; exact HS0.out.2.1
  rw [← HWD.out]
  have hsame := put4_same HLZ.out
  dsimp only [put4, zero4] at hsame
  obtain ⟨⟨z0, z1, z2, z3⟩, f0, f1, f2, f3⟩ := HLZ.out.cells
  dsimp only [zero4] at z0 z1 z2 z3
  clear hp0 hm0
  go_wp2
  exact bodyPost_ret (v := .tuple #[rowv zero4, .bool false, .int .i64 16]) (by simp [results, Tryz.results36, go_sem, z0, z1, z2, z3, rowv, rowc, zero4]) rfl ⟨rfl, HBD.out⟩
/-- What a call of the reference's table leaves. -/
def REnd (w : World) (F : List Nat) (p most : Nat) (l : List KR) (u : Value) (e : Ending) (w' : World) : Prop :=
  e = .returned u ∧ ∃ F', RTab w' F' p most l ∧ Chg [p] w w' [p] ∧ ∀ b ∈ F', b ∈ F ∨ w.heap.size ≤ b
theorem RTab.still (h : RTab w F p most l) {u : Value} {e : Ending} {w' : World} (he : e = .returned u) (hb : Below w.heap.size w w') : REnd w F p most l u e w' :=
  ⟨he, F, h.below hb, Chg.of_below hb, fun _ h => .inl h⟩
theorem RTurn.end_ {l' : List KR} (h : RTab w F p most l) {u : Value} {e : Ending} {w' : World} (hr : RTurn w p most l' u e w') : REnd w F p most l' u e w' := by
  obtain ⟨he, F', h1, h2, h3⟩ := hr
  refine ⟨he, F', h1, h2, fun b hb => ?_⟩
  rcases h3 b hb with rfl | hh
  · exact .inl h.mem
  · exact .inr hh
theorem rput (hR : RTab w F p most l) (hl : KByt l) (k : List Nat) (hb : Byt k) (hsz : l.length ≤ 1024) (r : Ro) :
    Calls Tryz.prog 36 #[.pointer (some ⟨p, 0, none⟩), .string (str k), rowv r] w (REnd w F p most (kputN most l k r) (.tuple #[rowv (kgetR l k), .bool (kputW l k), .int .i64 (kputE most l k)])) := by
  unfold kputN kgetR kputW kputE
  cases hk : keyB k with
  | false =>
    refine (rput_bad w p k hk r).mono ?_
    rintro e w' ⟨rfl, hb'⟩
    exact hR.still rfl hb'
  | true =>
    cases hg : getK l k with
    | some s =>
      refine (rput_was hR hl k hb hsz hk hg r).mono ?_
      intro e w' h
      exact h.end_ hR
    | none =>
      by_cases hf : most ≤ l.length
      · refine (rput_full hR hl k hb hsz hk hg hf r).mono ?_
        rintro e w' ⟨rfl, hb'⟩
        simp only [if_true, Option.isSome_none, Bool.false_eq_true, if_false, if_pos hf]
        exact hR.still rfl hb'
      · simp only [if_true, Option.isSome_none, Bool.false_eq_true, if_false, if_neg hf]
        refine (rput_new hR hl k hb hsz hk hg (by omega) r).mono ?_
        intro e w' h
        exact h.end_ hR
theorem rget (hR : RTab w F p most l) (hl : KByt l) (k : List Nat) (hb : Byt k) : Calls Tryz.prog 38 #[.pointer (some ⟨p, 0, none⟩), .string (str k)] w (RowEnd w (kgetR l k) (kgetE l k)) := by
  unfold kgetR kgetE
  cases hk : keyB k with
  | false => exact rget_bad w p k hk
  | true =>
    cases hg : getK l k with
    | none => exact rget_none hR hl k hb hk hg
    | some r => exact rget_some hR hl k hb hk hg
set_option maxHeartbeats 1000000 in
theorem rdel_bad (w : World) (p : Nat) (k : List Nat) (hk : keyB k = false) : Calls Tryz.prog 37 #[.pointer (some ⟨p, 0, none⟩), .string (str k)] w (RowEnd w zero4 13) := by
  go_enter Tryz.func37, Tryz.ntmps37
  go_wp2_with fail
  refine (rget_bad _ p k hk).mono ?_
  rintro e w1 ⟨rfl, hb1⟩
  have HB1 := hid (below_step (below_zero w) hb1)
  have HBA : Hid (Below w1.heap.size w1 (w1.alloc (.cells (rowc zero4) 41))) := (Below.refl _ _).alloc (Nat.le_refl _) _
  have HZ1 := hid (((lies_zero w).below hb1).below HBA.out)
  have HB2 := hid (below_step HB1.out HBA.out)
  have HL1 := hid (Lies.new w1 zero4)
  clear hb1
  dsimp only [rowv, rowc, zero4] at HZ1 HBA HB2 HL1 ⊢
  have hsame := put4_same HZ1.out
  dsimp only [put4, zero4] at hsame
  obtain ⟨⟨z0, z1, z2, z3⟩, f0, f1, f2, f3⟩ := HZ1.out.cells
  dsimp only [zero4] at z0 z1 z2 z3
  go_wp2
  exact bodyPost_ret (v := .tuple #[rowv zero4, .int .i64 13]) (by simp [results, Tryz.results37, go_sem, z0, z1, z2, z3, rowv, rowc, zero4]) rfl ⟨rfl, HB2.out⟩
set_option maxHeartbeats 1000000 in
theorem rdel_none (hR : RTab w F p most l) (hl : KByt l) (k : List Nat) (hb : Byt k) (hk : keyB k = true) (hg : getK l k = none) : Calls Tryz.prog 37 #[.pointer (some ⟨p, 0, none⟩), .string (str k)] w (RowEnd w zero4 14) := by
  go_enter Tryz.func37, Tryz.ntmps37
  go_wp2_with fail
  refine (rget_none (hR.below (below_zero w)) hl k hb hk hg).mono ?_
  rintro e w1 ⟨rfl, hb1⟩
  have HB1 := hid (below_step (below_zero w) hb1)
  have HBA : Hid (Below w1.heap.size w1 (w1.alloc (.cells (rowc zero4) 41))) := (Below.refl _ _).alloc (Nat.le_refl _) _
  have HZ1 := hid (((lies_zero w).below hb1).below HBA.out)
  have HB2 := hid (below_step HB1.out HBA.out)
  have HL1 := hid (Lies.new w1 zero4)
  clear hb1
  dsimp only [rowv, rowc, zero4] at HZ1 HBA HB2 HL1 ⊢
  have hsame := put4_same HZ1.out
  dsimp only [put4, zero4] at hsame
  obtain ⟨⟨z0, z1, z2, z3⟩, f0, f1, f2, f3⟩ := HZ1.out.cells
  dsimp only [zero4] at z0 z1 z2 z3
  go_wp2
  exact bodyPost_ret (v := .tuple #[rowv zero4, .int .i64 14]) (by simp [results, Tryz.results37, go_sem, z0, z1, z2, z3, rowv, rowc, zero4]) rfl ⟨rfl, HB2.out⟩
set_option maxHeartbeats 2000000 in
theorem rdel_some (hR : RTab w F p most l) (hl : KByt l) (k : List Nat) (hb : Byt k) (hsz : l.length ≤ 1024) (hk : keyB k = true) {s : Ro} (hg : getK l k = some s) :
    Calls Tryz.prog 37 #[.pointer (some ⟨p, 0, none⟩), .string (str k)] w (RTurn w p most (delK l k) (.tuple #[rowv s, .int .i64 0])) := by
  obtain ⟨i0, hi0, hz0, hs0, hy0⟩ := info_parts qinfo
  have HR := hid hR
  obtain ⟨u, h1, h2, hF, hlt2, hpn⟩ := hR
  obtain ⟨A, cap, rfl⟩ := h2.slice
  have H1 := hid h1
  have hcap := h2.cap
  obtain ⟨n, HNE⟩ : ∃ n, Hid (n = atN (lines l) k) := ⟨_, rfl⟩
  obtain ⟨len, HLEN⟩ : ∃ len, Hid (len = l.length) := ⟨_, rfl⟩
  have hle := atN_le (lines l) k
  rw [lines_len] at hle
  have HSZ : Hid (l.length ≤ 1024) := hsz
  have hpw := cell_of_row _ p 0 _ _ _ h1
  have hmw := cell_of_row _ p 1 _ _ _ h1
  simp at hpw hmw
  rw [← HNE.out] at hle
  rw [← HLEN.out] at hle hcap hpw
  have hm : len ≤ 1024 := by rw [HLEN.out]; exact hsz
  have HP := hid hpw
  have HM := hid hmw
  have hat := getK_some hg
  rw [← HNE.out] at hat
  have hlt : n < len := by rw [HLEN.out]; exact (List.getElem?_eq_some_iff.1 hat).1
  have hlti : (n : Int) < len := by omega
  obtain ⟨VA, HVA⟩ : ∃ V, Hid (V = sliced A 0 n cap 5) := ⟨_, rfl⟩
  obtain ⟨VC, HVC⟩ : ∃ V, Hid (V = sliced A (n + 1) len cap 5) := ⟨_, rfl⟩
  have hcA : ∀ W, (Instr.slice 45 (.slice A len cap) none (some (.int .i64 (n : Int))) none).run Tryz.prog W = .ok VA W := fun W => by rw [HVA.out]; exact qcut_to W A len cap n (by omega)
  have hcC : ∀ W, (Instr.slice 45 (.slice A len cap) (some (.int .i64 ((n : Int) + 1))) none none).run Tryz.prog W = .ok VC W := fun W => by rw [HVC.out]; have := qcut_from W A len cap (n + 1) (by omega); rwa [show ((n + 1 : Nat) : Int) = (n : Int) + 1 by omega] at this
  have HRA : Hid (Elems 5 cQ w VA (l.take n)) := by rw [HVA.out]; exact h2.to_ cQ_len (by have := HLEN.out; omega)
  have HRC : Hid (Elems 5 cQ w VC (l.drop (n + 1))) := by rw [HVC.out, HLEN.out]; exact h2.from_ cQ_len (by have := HLEN.out; omega)
  obtain ⟨LP, HLP⟩ : ∃ LP, Hid (LP = l.take n ++ l.drop (n + 1)) := ⟨_, rfl⟩
  have HDEL : Hid (delK l k = LP) := by
    show _ = _
    unfold delK; rw [HLP.out, ← HNE.out]
  rw [HDEL.out]
  clear h1 h2 hsz hF hlt2 hpn hpw hmw hat
  go_enter Tryz.func37, Tryz.ntmps37
  go_wp2_with fail
  refine (rget_some (HR.out.below (below_zero w)) hl k hb hk hg).mono ?_
  rintro e w1 ⟨rfl, hb1⟩
  have HB1 := hid (below_step (below_zero w) hb1)
  have HBA : Hid (Below w1.heap.size w1 (w1.alloc (.cells (rowc s) 41))) := (Below.refl _ _).alloc (Nat.le_refl _) _
  have HZ1 := hid (((lies_zero w).below hb1).below HBA.out)
  have HB2 := hid (below_step HB1.out HBA.out)
  have HL1 := hid (Lies.new w1 s)
  clear hb1
  dsimp only [rowv, rowc, zero4] at HZ1 HBA HB2 HL1 ⊢
  obtain ⟨wd, HWD⟩ : ∃ wd, Hid (wd = w1.alloc (.cells #[.int .i64 s.a, .int .i64 s.b, .int .i64 s.c, .int .i64 s.d] 41)) := ⟨_, rfl⟩
  rw [← HWD.out] at HZ1 HB2 HL1
  go_wp2_with fail
  rw [← HWD.out]
  refine (rat (HR.out.below HB2.out) hl k hb).mono ?_
  rw [← HNE.out]
  rintro e w' ⟨rfl, rfl⟩
  have hpa := below_keep HB2.out _ _ HP.out
  clear hg
  go_wp2_with (first
    | (at_builtin; refine wpList_append_rows _ rfl (.tmp 32) (.tmp 39) 45 rfl w.heap.size 97 i0 _ 5 48 Tryz.underlying45 hi0 hz0 hs0 hy0 rfl (by omega) cQ_one v2 _ rfl HO2.out _ _ rfl (HRC.out.below HB3.out) (by have := HSZ.out; simp [maxLen]; omega) (by have := HSZ.out; simp; omega) HB3.out.size ?_; intro v3 w3 ho3 hg3 hf3; obtain ⟨A3, N3, c3, rfl⟩ := (OwnElems.rows ho3).form; have HO3 := hid ho3; have HB4 := hid (HB3.out.grown hg3 HB3.out.size (fun g hg => (HO2.out.lt g (mem_ownFoot.2 hg)).1)); have HZ3 := hid (HZ2.out.grown hg3 (HO2.out.ne_ HZ2.out (by decide))); have HT3 := hid (HL2.out.grown hg3 (HO2.out.ne_ HL2.out (by decide))); have H13 : Hid (w3.heap[p]? = some (.cells #[.slice A l.length cap, .int .i64 (most : Int)] 47 (0, 0))) := (HB4.out.block _ (Array.getElem?_eq_some_iff.1 H1.out).1).trans H1.out; have hp3 := below_keep HB4.out _ _ HP.out; have hz3 : w3.frozen? ⟨p, 0, none⟩ = false := (by have h := H13.out; simp [World.frozen?, h]); have hn1 : p ≠ w1.heap.size := HT3.out.ne_blk H13.out; have hn2 : p ≠ w.heap.size := HZ3.out.ne_blk H13.out; have HF := hid (rturn_of H1.out HB4.out HO3.out (Nat.le_refl _) HZ3.out s); have HPP : Hid (Lies (put4 (w3.setCell ⟨p, 0, none⟩ (.slice A3 N3 c3)) w.heap.size s) w.heap.size s) := Lies.put (HZ3.out.keep (Below.heap_setCell _ _ _ _ (Ne.symm hn2))) s; have HTS := hid (HT3.out.keep (w' := w3.setCell ⟨p, 0, none⟩ (.slice A3 N3 c3)) (Below.heap_setCell _ _ _ _ (Ne.symm hn1))); have HZS := hid (HZ3.out.keep (w' := w3.setCell ⟨p, 0, none⟩ (.slice A3 N3 c3)) (Below.heap_setCell _ _ _ _ (Ne.symm hn2))); obtain ⟨y0, y1, y2, y3⟩ := HTS.out.four; obtain ⟨⟨z0, z1, z2, z3⟩, f0, f1, f2, f3⟩ := HZS.out.cells; (try dsimp only [zero4] at z0 z1 z2 z3 y0 y1 y2 y3); clear ho3 hg3 hf3)
    | (at_builtin; refine wpList_append_rows _ rfl (.tmp 23) (.tmp 29) 45 rfl w.heap.size 97 i0 _ 5 48 Tryz.underlying45 hi0 hz0 hs0 hy0 rfl (by omega) cQ_one (.slice none 0 0) _ rfl (OwnElems.nil _ _ _ _ _) _ _ rfl (HRA.out.below HB2.out) (by have := HSZ.out; simp [maxLen]; omega) (by have := HSZ.out; simp; omega) HB2.out.size ?_; intro v2 w2 ho2 hg2 hf2; rw [List.nil_append] at ho2; have HO2 := hid ho2; have HB3 := hid (HB2.out.grown hg2 HB2.out.size (fun g hg => by simp [Value.ownBlock] at hg)); have HZ2 := hid (HZ1.out.grown hg2 (by simp [ownFoot, Value.ownBlock])); have HL2 := hid (HL1.out.grown hg2 (by simp [ownFoot, Value.ownBlock])); have hp2 := below_keep HB3.out _ _ HP.out; clear ho2 hg2 hf2 hpa))
  obtain ⟨p0, p1, p2, p3⟩ := HPP.out.four
  dsimp only [put4] at p0 p1 p2 p3
  exact bodyPost_ret (v := .tuple #[rowv s, .int .i64 0]) (by simp [results, Tryz.results37, go_sem, p0, p1, p2, p3, rowv, rowc]) rfl (by rw [HLP.out]; exact ⟨rfl, HF.out⟩)
theorem rdel (hR : RTab w F p most l) (hl : KByt l) (k : List Nat) (hb : Byt k) (hsz : l.length ≤ 1024) :
    Calls Tryz.prog 37 #[.pointer (some ⟨p, 0, none⟩), .string (str k)] w (REnd w F p most (kdelN l k) (.tuple #[rowv (kgetR l k), .int .i64 (kgetE l k)])) := by
  unfold kdelN kgetR kgetE
  cases hk : keyB k with
  | false =>
    refine (rdel_bad w p k hk).mono ?_
    rintro e w' ⟨rfl, hb'⟩
    exact hR.still rfl hb'
  | true =>
    cases hg : getK l k with
    | some s =>
      refine (rdel_some hR hl k hb hsz hk hg).mono ?_
      intro e w' h
      exact h.end_ hR
    | none =>
      refine (rdel_none hR hl k hb hk hg).mono ?_
      rintro e w' ⟨rfl, hb'⟩
      exact hR.still rfl hb'
end
end Go.Proofs.YtlnagdodnkhbmaaGreat
