/- A table's rows as lists, without a program: rows by their keys, their lines, and the entries of each column, in order. -/
import Derived.Test.YtlnagdodnkhbmaaCA
import Derived.Test.YtlnagdodnkhbmaaS8
namespace Go.Proofs.Ytlnagdodnkhbmaa
open Go.RowKit
set_option maxRecDepth 100000

/-- A key and its row. -/
abbrev KR := List Nat × Ro
def Ro.at (r : Ro) (c : Nat) : Int := r.l.getD c 0
theorem Ro.at_eq {r : Ro} {c : Nat} {x : Int} (h : r.l[c]? = some x) : r.at c = x := by unfold Ro.at; rw [List.getD_eq_getElem?_getD, h]; rfl
theorem Ro.get_at (r : Ro) {c : Nat} (h : c < 4) : r.l[c]? = some (r.at c) := by
  obtain ⟨x, hx⟩ := r.at_ h
  rw [hx, Ro.at_eq hx]
theorem Ro.ok.at {r : Ro} (h : r.ok) {c : Nat} (hc : c < 4) : I64 (r.at c) := h _ (List.mem_of_getElem? (r.get_at hc))

/-- A row's line; an entry's bytes; a column's entry. -/
def line (q : KR) : Pr := (q.1, enc q.2.l)
def lines (l : List KR) : List Pr := l.map line
def entB (x : Int) (k : List Nat) : List Nat := wv x ++ k
def entC (c : Nat) (q : KR) : Pr := (entB (q.2.at c) q.1, [])
theorem entB_len (x : Int) (k : List Nat) : (entB x k).length = 8 + k.length := by unfold entB; rw [List.length_append, wv_len]
theorem entB_byt (x : Int) {k : List Nat} (h : Byt k) : Byt (entB x k) := (wv_byt x).app h
theorem entB_key {x y : Int} {k m : List Nat} (h : entB x k = entB y m) : k = m := by
  unfold entB at h
  exact List.append_inj_right h (by rw [wv_len, wv_len])
theorem entB_drop (x : Int) (k : List Nat) : (entB x k).drop 8 = k := drop_wv x k
theorem entB_64 (x : Int) {k : List Nat} (h : keyB k = true) : key64 (entB x k) = true := by
  have := keyB_yes h
  unfold key64
  rw [decide_eq_true_iff, entB_len]; omega
theorem keyB_64 {k : List Nat} (h : keyB k = true) : key64 k = true := by
  have := keyB_yes h
  unfold key64
  rw [decide_eq_true_iff]; omega

/-- Rows that a table may have. -/
structure RowsOk (l : List KR) : Prop where
  rise : l.Pairwise fun a b => a.1 < b.1
  byt : ∀ q ∈ l, Byt q.1
  key : ∀ q ∈ l, keyB q.1 = true
  ok : ∀ q ∈ l, q.2.ok
theorem RowsOk.nil : RowsOk [] := ⟨List.Pairwise.nil, by simp, by simp, by simp⟩
theorem lines_len (l : List KR) : (lines l).length = l.length := List.length_map _
theorem lines_at (l : List KR) (i : Nat) : (lines l)[i]? = (l[i]?).map line := List.getElem?_map
theorem RowsOk.lines {l : List KR} (h : RowsOk l) : Rising (lines l) := by
  unfold Rising Go.Proofs.Ytlnagdodnkhbmaa.lines
  rw [List.pairwise_map]
  exact h.rise
/-- The row that a key has. -/
def getK (l : List KR) (k : List Nat) : Option Ro := (l[atN (lines l) k]?).bind fun q => if q.1 = k then some q.2 else none
def putK (l : List KR) (k : List Nat) (r : Ro) : List KR := l.take (atN (lines l) k) ++ [(k, r)] ++ l.drop (if (getK l k).isSome = true then atN (lines l) k + 1 else atN (lines l) k)
def delK (l : List KR) (k : List Nat) : List KR := l.take (atN (lines l) k) ++ l.drop (atN (lines l) k + 1)
theorem getL_lines (l : List KR) (k : List Nat) : getL (lines l) k = (getK l k).map fun r => enc r.l := by
  unfold getL getK
  rw [lines_at]
  cases l[atN (lines l) k]? with
  | none => rfl
  | some q =>
    simp only [Option.map_some, Option.bind_some]
    unfold line
    by_cases h : q.1 = k
    · rw [if_pos h, if_pos h]; rfl
    · rw [if_neg h, if_neg h]; rfl
theorem isSome_lines (l : List KR) (k : List Nat) : (getL (lines l) k).isSome = (getK l k).isSome := by rw [getL_lines]; cases getK l k <;> rfl
theorem putL_lines (l : List KR) (k : List Nat) (r : Ro) : lines (putK l k r) = putL (lines l) k (enc r.l) := by
  unfold putK putL
  rw [isSome_lines]
  unfold lines
  rw [List.map_append, List.map_append, List.map_take, List.map_drop]
  rfl
theorem delL_lines (l : List KR) (k : List Nat) : lines (delK l k) = delL (lines l) k := by
  unfold delK delL lines
  rw [List.map_append, List.map_take, List.map_drop]
theorem getK_some {l : List KR} {k : List Nat} {r : Ro} (h : getK l k = some r) : l[atN (lines l) k]? = some (k, r) := by
  unfold getK at h
  cases hq : l[atN (lines l) k]? with
  | none => rw [hq] at h; cases h
  | some q =>
    rw [hq] at h
    simp only [Option.bind_some] at h
    split at h
    · rename_i he
      injection h with h
      rw [← he, ← h]
    · cases h
theorem getK_mem {l : List KR} {k : List Nat} {r : Ro} (h : getK l k = some r) : (k, r) ∈ l := List.mem_of_getElem? (getK_some h)
theorem RowsOk.get {l : List KR} (h : RowsOk l) {k : List Nat} {r : Ro} (hm : (k, r) ∈ l) : getK l k = some r := by
  obtain ⟨i, hi⟩ := List.getElem?_of_mem hm
  have h1 : (Go.Proofs.Ytlnagdodnkhbmaa.lines l)[i]? = some (line (k, r)) := by rw [lines_at, hi]; rfl
  have h2 : atN (Go.Proofs.Ytlnagdodnkhbmaa.lines l) k = i := atN_key (x := line (k, r)) h.lines h1
  unfold getK
  rw [h2, hi]
  simp
theorem RowsOk.none_ {l : List KR} (h : RowsOk l) {k : List Nat} (hn : getK l k = none) : ∀ q ∈ l, q.1 ≠ k := by
  rintro ⟨m, r⟩ hq rfl
  rw [h.get hq] at hn
  cases hn
theorem mid_perm {α : Type} (A B : List α) (x : α) : (A ++ [x] ++ B).Perm (x :: (A ++ B)) := by
  rw [List.append_assoc]
  exact List.perm_middle
theorem putK_new {l : List KR} {k : List Nat} (hn : getK l k = none) (r : Ro) : (putK l k r).Perm ((k, r) :: l) := by
  unfold putK
  rw [hn, if_neg (by simp)]
  refine (mid_perm _ _ _).trans ?_
  rw [List.take_append_drop]
theorem delK_perm {l : List KR} {k : List Nat} {r : Ro} (h : getK l k = some r) : l.Perm ((k, r) :: delK l k) := by
  have h1 := getK_some h
  have hlt := (List.getElem?_eq_some_iff.1 h1).1
  have e : l = l.take (atN (lines l) k) ++ [(k, r)] ++ l.drop (atN (lines l) k + 1) := by
    conv => lhs; rw [← List.take_append_drop (atN (lines l) k) l, List.drop_eq_getElem_cons hlt, (List.getElem?_eq_some_iff.1 h1).2]
    simp
  unfold delK
  conv => lhs; rw [e]
  exact mid_perm _ _ _
theorem putK_was {l : List KR} {k : List Nat} {r : Ro} (h : getK l k = some r) (s : Ro) : (putK l k s).Perm ((k, s) :: delK l k) := by
  unfold putK delK
  rw [h]
  simp only [Option.isSome_some, if_true]
  exact mid_perm _ _ _
theorem RowsOk.put {l : List KR} (h : RowsOk l) {k : List Nat} {r : Ro} (hb : Byt k) (hk : keyB k = true) (hr : r.ok) : RowsOk (putK l k r) := by
  have hm : ∀ q ∈ putK l k r, q = (k, r) ∨ q ∈ l := by
    intro q hq
    unfold putK at hq
    simp only [List.mem_append, List.mem_singleton] at hq
    rcases hq with (hq | hq) | hq
    · exact .inr (List.mem_of_mem_take hq)
    · exact .inl hq
    · exact .inr (List.mem_of_mem_drop hq)
  refine ⟨?_, fun q hq => ?_, fun q hq => ?_, fun q hq => ?_⟩
  · have := putL_rising h.lines k (enc r.l)
    rw [← putL_lines] at this
    unfold Rising Go.Proofs.Ytlnagdodnkhbmaa.lines at this
    rw [List.pairwise_map] at this
    exact this
  · rcases hm q hq with rfl | hq
    · exact hb
    · exact h.byt q hq
  · rcases hm q hq with rfl | hq
    · exact hk
    · exact h.key q hq
  · rcases hm q hq with rfl | hq
    · exact hr
    · exact h.ok q hq
theorem delK_mem {l : List KR} {k : List Nat} {q : KR} (hq : q ∈ delK l k) : q ∈ l := by
  unfold delK at hq
  rcases List.mem_append.1 hq with hq | hq
  · exact List.mem_of_mem_take hq
  · exact List.mem_of_mem_drop hq
theorem RowsOk.del {l : List KR} (h : RowsOk l) (k : List Nat) : RowsOk (delK l k) := by
  refine ⟨?_, fun q hq => h.byt q (delK_mem hq), fun q hq => h.key q (delK_mem hq), fun q hq => h.ok q (delK_mem hq)⟩
  have := delL_rising h.lines k
  rw [← delL_lines] at this
  unfold Rising Go.Proofs.Ytlnagdodnkhbmaa.lines at this
  rw [List.pairwise_map] at this
  exact this
theorem RowsOk.gone {l : List KR} (h : RowsOk l) {k : List Nat} {r : Ro} (hg : getK l k = some r) : ∀ q ∈ delK l k, q.1 ≠ k := by
  intro q hq e
  have hp := delK_perm hg
  have h2 : ((k, r) :: delK l k).Pairwise (fun a b => a.1 ≠ b.1) := by
    refine (List.Perm.pairwise_iff (fun {a b} hab => Ne.symm hab) hp).1 ?_
    exact h.rise.imp fun {a b} hab => fun e => by rw [e] at hab; exact List.lt_irrefl _ hab
  exact (List.pairwise_cons.1 h2).1 q hq e.symm

/-- Pairs into which one is put that was not there; from which one is taken out. -/
theorem putL_new_perm {I : List Pr} {s : List Nat} (hn : getL I s = none) (v : List Nat) : (putL I s v).Perm ((s, v) :: I) := by
  unfold putL
  rw [hn, if_neg (by simp)]
  refine (mid_perm _ _ _).trans ?_
  rw [List.take_append_drop]
theorem delL_perm {I : List Pr} {s v : List Nat} (h : getL I s = some v) : I.Perm ((s, v) :: delL I s) := by
  have h1 := getL_some h
  have hlt := (List.getElem?_eq_some_iff.1 h1).1
  have e : I = I.take (atN I s) ++ [(s, v)] ++ I.drop (atN I s + 1) := by
    conv => lhs; rw [← List.take_append_drop (atN I s) I, List.drop_eq_getElem_cons hlt, (List.getElem?_eq_some_iff.1 h1).2]
    simp
  unfold delL
  conv => lhs; rw [e]
  exact mid_perm _ _ _
theorem getL_mem_ {I : List Pr} {s v : List Nat} (h : getL I s = some v) : (s, v) ∈ I := List.mem_of_getElem? (getL_some h)
theorem getL_of_mem {I : List Pr} (hr : Rising I) {s v : List Nat} (h : (s, v) ∈ I) : getL I s = some v := by
  obtain ⟨i, hi⟩ := List.getElem?_of_mem h
  exact getL_key (x := (s, v)) hr hi

/-- A column's index: the entries of all rows, in order. -/
structure Idx (c : Nat) (l : List KR) (I : List Pr) : Prop where
  rise : Rising I
  perm : I.Perm (l.map (entC c))
theorem Idx.len {c : Nat} {l : List KR} {I : List Pr} (h : Idx c l I) : I.length = l.length := by rw [h.perm.length_eq, List.length_map]
theorem Idx.mem {c : Nat} {l : List KR} {I : List Pr} (h : Idx c l I) {q : Pr} : q ∈ I ↔ ∃ x ∈ l, entC c x = q := by rw [h.perm.mem_iff, List.mem_map]
theorem Idx.free {c : Nat} {l : List KR} {I : List Pr} (h : Idx c l I) {k : List Nat} (hk : ∀ q ∈ l, q.1 ≠ k) (x : Int) : getL I (entB x k) = none := by
  cases hg : getL I (entB x k) with
  | none => rfl
  | some v =>
    obtain ⟨q, hq, he⟩ := h.mem.1 (getL_mem_ hg)
    exact absurd (entB_key (congrArg Prod.fst he)) (hk q hq)
theorem Idx.has {c : Nat} {l : List KR} {I : List Pr} (h : Idx c l I) {k : List Nat} {r : Ro} (hm : (k, r) ∈ l) : getL I (entB (r.at c) k) = some [] :=
  getL_of_mem h.rise (h.mem.2 ⟨_, hm, rfl⟩)
theorem Idx.put {c : Nat} {l : List KR} {I : List Pr} (h : Idx c l I) {k : List Nat} (hk : ∀ q ∈ l, q.1 ≠ k) (r : Ro) {l' : List KR} (hp : l'.Perm ((k, r) :: l)) : Idx c l' (putL I (entB (r.at c) k) []) :=
  ⟨putL_rising h.rise _ _, (putL_new_perm (h.free hk _) _).trans ((h.perm.cons _).trans (hp.map (entC c)).symm)⟩
theorem Idx.del {c : Nat} {l : List KR} {I : List Pr} (h : Idx c l I) {k : List Nat} {r : Ro} {l' : List KR} (hp : l.Perm ((k, r) :: l')) : Idx c l' (delL I (entB (r.at c) k)) := by
  refine ⟨delL_rising h.rise _, ?_⟩
  have h1 := delL_perm (h.has (hp.mem_iff.2 List.mem_cons_self))
  have h2 : ((entB (r.at c) k, []) :: delL I (entB (r.at c) k)).Perm ((entB (r.at c) k, []) :: l'.map (entC c)) := h1.symm.trans (h.perm.trans (hp.map (entC c)))
  exact List.Perm.cons_inv h2
theorem Idx.same {c : Nat} {l : List KR} {I : List Pr} (h : Idx c l I) {k : List Nat} {r s : Ro} {l' m : List KR} (hp : l.Perm ((k, r) :: m)) (hp' : l'.Perm ((k, s) :: m)) (he : r.at c = s.at c) : Idx c l' I := by
  refine ⟨h.rise, h.perm.trans ((hp.map (entC c)).trans ?_)⟩
  refine List.Perm.trans ?_ (hp'.map (entC c)).symm
  rw [List.map_cons, List.map_cons]
  unfold entC
  rw [he]
theorem Idx.keyed {c : Nat} {l : List KR} {I : List Pr} (h : Idx c l I) (hl : RowsOk l) : Keyed I := fun q hq => by
  obtain ⟨x, hx, rfl⟩ := h.mem.1 hq
  exact entB_64 _ (hl.key x hx)

/-- What a change does with a column's index; what all of some rows' changes do. -/
def step1 (k : List Nat) (I : List Pr) (g : Cg) : List Pr := if g.2.2 then putN I (entB g.2.1 k) [] else delN I (entB g.2.1 k)
def stepI (k : List Nat) (J : Nat → List Pr) (g : Cg) : Nat → List Pr := fun c => if c = g.1 then step1 k (J c) g else J c
def lineI (k : List Nat) (J : Nat → List Pr) (n : Option Ro) : Nat → List Pr := fun c => if c = 4 then (match n with | none => delN (J 4) k | some r => putN (J 4) k (enc r.l)) else J c
def turnI (k : List Nat) (J : Nat → List Pr) (o n : Option Ro) : Nat → List Pr := (upto o n 4).foldl (stepI k) (lineI k J n)
theorem fold_at (k : List Nat) (c : Nat) : ∀ (L : List Cg) (J : Nat → List Pr), (L.foldl (stepI k) J) c = (L.filter fun g => decide (c = g.1)).foldl (step1 k) (J c)
  | [], _ => rfl
  | g :: L, J => by
    rw [List.foldl_cons, fold_at k c L, List.filter_cons]
    by_cases h : c = g.1
    · rw [if_pos (by simpa using h), List.foldl_cons]
      congr 1
      unfold stepI; rw [if_pos h]
    · rw [if_neg (by simpa using h)]
      congr 1
      unfold stepI; rw [if_neg h]
theorem one_col {o : Option Ro} {k : Nat} {a : Bool} : ∀ g ∈ one o k a, g.1 = k := by
  intro g hg
  unfold one at hg
  cases o with
  | none => simp at hg
  | some r =>
    dsimp only at hg
    cases hx : r.l[k]? with
    | none => rw [hx] at hg; simp at hg
    | some x => rw [hx] at hg; simp at hg; rw [hg]
theorem chg1_col {o n : Option Ro} {k : Nat} : ∀ g ∈ chg1 o n k, g.1 = k := by
  intro g hg
  unfold chg1 at hg
  split at hg
  · cases hg
  · rcases List.mem_append.1 hg with hg | hg
    · exact one_col g hg
    · exact one_col g hg
theorem upto_col {o n : Option Ro} : ∀ (m : Nat), ∀ g ∈ upto o n m, g.1 < m
  | 0, g, hg => by simp [upto] at hg
  | m + 1, g, hg => by
    rw [upto_succ] at hg
    rcases List.mem_append.1 hg with hg | hg
    · have := upto_col m g hg; omega
    · have := chg1_col g hg; omega
theorem filter_upto (o n : Option Ro) (c : Nat) : ∀ m, (upto o n m).filter (fun g => decide (c = g.1)) = if c < m then chg1 o n c else []
  | 0 => by simp [upto]
  | m + 1 => by
    rw [upto_succ, List.filter_append, filter_upto o n c m]
    by_cases h : c = m
    · subst h
      rw [if_neg (Nat.lt_irrefl _), if_pos (Nat.lt_succ_self _), List.nil_append, List.filter_eq_self]
      intro g hg
      simp [chg1_col g hg]
    · have h2 : (chg1 o n m).filter (fun g => decide (c = g.1)) = [] := by
        rw [List.filter_eq_nil_iff]
        intro g hg
        rw [chg1_col g hg]
        simpa using h
      rw [h2, List.append_nil]
      by_cases h3 : c < m
      · rw [if_pos h3, if_pos (by omega)]
      · rw [if_neg h3, if_neg (by omega)]
theorem turnI_at (k : List Nat) (J : Nat → List Pr) (o n : Option Ro) {c : Nat} (h : c < 4) : turnI k J o n c = (chg1 o n c).foldl (step1 k) (J c) := by
  unfold turnI
  rw [fold_at, filter_upto, if_pos h]
  unfold lineI
  rw [if_neg (by omega)]
theorem turnI_4 (k : List Nat) (J : Nat → List Pr) (o n : Option Ro) : turnI k J o n 4 = match n with | none => delN (J 4) k | some r => putN (J 4) k (enc r.l) := by
  unfold turnI
  rw [fold_at, filter_upto, if_neg (by omega)]
  rfl
theorem putN_yes {I : List Pr} {s v : List Nat} (h : key64 s = true) (hv : v.length ≤ 256) : putN I s v = putL I s v := by
  unfold putN putE
  rw [if_pos h, if_pos hv, if_pos rfl]
theorem delN_yes {I : List Pr} {s v : List Nat} (h : key64 s = true) (hg : getL I s = some v) : delN I s = delL I s := by
  unfold delN getE
  rw [if_pos h, hg]
  simp
theorem enc_256 {r : Ro} (h : r.ok) : (enc r.l).length ≤ 256 := by
  have := enc_len r.l h
  rw [Ro.len] at this; omega

/-- The lists that a table's five trees have. -/
structure TOk (l : List KR) (J : Nat → List Pr) : Prop where
  rows : RowsOk l
  lin : J 4 = lines l
  idx : ∀ c, c < 4 → Idx c l (J c)
theorem TOk.nil : TOk [] (fun _ => []) := ⟨RowsOk.nil, rfl, fun _ _ => ⟨List.Pairwise.nil, List.Perm.refl _⟩⟩
theorem one_at (r : Ro) {c : Nat} (h : c < 4) (a : Bool) : one (some r) c a = [(c, r.at c, a)] := by
  unfold one; dsimp only; rw [r.get_at h]
theorem one_not (k : Nat) (a : Bool) : one none k a = [] := rfl
theorem chg1_new (r : Ro) {c : Nat} (h : c < 4) : chg1 none (some r) c = [(c, r.at c, true)] := by
  unfold chg1 alikeB
  rw [one_at r h]; rfl
theorem chg1_old (r : Ro) {c : Nat} (h : c < 4) : chg1 (some r) none c = [(c, r.at c, false)] := by
  unfold chg1 alikeB
  rw [one_at r h]; rfl
theorem chg1_two (r s : Ro) {c : Nat} (h : c < 4) : chg1 (some r) (some s) c = if r.at c = s.at c then [] else [(c, r.at c, false), (c, s.at c, true)] := by
  have hal : alikeB (some r) (some s) c = decide (r.at c = s.at c) := by
    unfold alikeB
    simp only [r.get_at h, s.get_at h, Option.some.injEq]
  unfold chg1
  rw [hal, one_at r h, one_at s h]
  by_cases e : r.at c = s.at c
  · simp [e]
  · simp [e]
theorem TOk.new {l : List KR} {J : Nat → List Pr} (h : TOk l J) {k : List Nat} {r : Ro} (hn : getK l k = none) (hb : Byt k) (hk : keyB k = true) (hr : r.ok) : TOk (putK l k r) (turnI k J none (some r)) := by
  refine ⟨h.rows.put hb hk hr, ?_, fun c hc => ?_⟩
  · rw [turnI_4, h.lin, putL_lines]
    exact putN_yes (keyB_64 hk) (enc_256 hr)
  · rw [turnI_at _ _ _ _ hc, chg1_new r hc]
    show Idx c _ (putN _ _ _)
    rw [putN_yes (entB_64 _ hk) (by simp)]
    exact (h.idx c hc).put (h.rows.none_ hn) r (putK_new hn r)
theorem TOk.was {l : List KR} {J : Nat → List Pr} (h : TOk l J) {k : List Nat} {r s : Ro} (hg : getK l k = some s) (hb : Byt k) (hk : keyB k = true) (hr : r.ok) : TOk (putK l k r) (turnI k J (some s) (some r)) := by
  refine ⟨h.rows.put hb hk hr, ?_, fun c hc => ?_⟩
  · rw [turnI_4, h.lin, putL_lines]
    exact putN_yes (keyB_64 hk) (enc_256 hr)
  · have h1 := delK_perm hg
    have h2 := putK_was hg r
    rw [turnI_at _ _ _ _ hc, chg1_two s r hc]
    by_cases e : s.at c = r.at c
    · rw [if_pos e]
      exact (h.idx c hc).same h1 h2 e
    · rw [if_neg e]
      show Idx c _ (putN (delN _ _) _ _)
      rw [delN_yes (entB_64 _ hk) ((h.idx c hc).has (getK_mem hg)), putN_yes (entB_64 _ hk) (by simp)]
      exact ((h.idx c hc).del h1).put (h.rows.gone hg) r h2
theorem TOk.del {l : List KR} {J : Nat → List Pr} (h : TOk l J) {k : List Nat} {s : Ro} (hg : getK l k = some s) (hk : keyB k = true) : TOk (delK l k) (turnI k J (some s) none) := by
  refine ⟨h.rows.del k, ?_, fun c hc => ?_⟩
  · rw [turnI_4, h.lin, delL_lines]
    exact delN_yes (keyB_64 hk) (by rw [getL_lines, hg]; rfl)
  · rw [turnI_at _ _ _ _ hc, chg1_old s hc]
    show Idx c _ (delN _ _)
    rw [delN_yes (entB_64 _ hk) ((h.idx c hc).has (getK_mem hg))]
    exact (h.idx c hc).del (delK_perm hg)
theorem TOk.len {l : List KR} {J : Nat → List Pr} (h : TOk l J) {c : Nat} (hc : c < 5) : (J c).length = l.length := by
  by_cases h4 : c = 4
  · rw [h4, h.lin, lines_len]
  · exact (h.idx c (by omega)).len

/-! What a table's calls answer. -/
def kgetR (l : List KR) (k : List Nat) : Ro := if keyB k = true then (getK l k).getD zero4 else zero4
def kgetE (l : List KR) (k : List Nat) : Int := if keyB k = true then (if (getK l k).isSome = true then 0 else 14) else 13
def kputE (most : Nat) (l : List KR) (k : List Nat) : Int := if keyB k = true then (if (getK l k).isSome = true then 0 else if most ≤ l.length then 16 else 0) else 13
def kputW (l : List KR) (k : List Nat) : Bool := keyB k && (getK l k).isSome
def kputN (most : Nat) (l : List KR) (k : List Nat) (r : Ro) : List KR := if kputE most l k = 0 then putK l k r else l
def kdelN (l : List KR) (k : List Nat) : List KR := if kgetE l k = 0 then delK l k else l
theorem delK_len {l : List KR} {k : List Nat} {r : Ro} (h : getK l k = some r) : (delK l k).length + 1 = l.length := by
  have := (delK_perm h).length_eq
  simp at this; omega
theorem kputN_len (most : Nat) (l : List KR) (k : List Nat) (r : Ro) : (kputN most l k r).length ≤ l.length + 1 := by
  unfold kputN
  split
  · cases hg : getK l k with
    | none => have := (putK_new hg r).length_eq; simp at this; omega
    | some s =>
      have h1 := (putK_was hg r).length_eq
      have h2 := delK_len hg
      simp at h1; omega
  · omega
theorem kputN_most {most : Nat} {l : List KR} (h : l.length ≤ most) (k : List Nat) (r : Ro) : (kputN most l k r).length ≤ most := by
  unfold kputN kputE
  cases hk : keyB k with
  | false => simp; exact h
  | true =>
    cases hg : getK l k with
    | none =>
      simp only [if_true, Option.isSome_none, Bool.false_eq_true, if_false]
      by_cases hm : most ≤ l.length
      · rw [if_pos hm, if_neg (by decide)]; exact h
      · rw [if_neg hm, if_pos rfl]
        have := (putK_new hg r).length_eq
        simp at this; omega
    | some s =>
      simp only [if_true, Option.isSome_some]
      have h1 := (putK_was hg r).length_eq
      have h2 := delK_len hg
      simp at h1; omega
theorem kdelN_len (l : List KR) (k : List Nat) : (kdelN l k).length ≤ l.length := by
  unfold kdelN
  split
  · unfold delK
    simp; omega
  · exact Nat.le_refl _
theorem RowsOk.kput {l : List KR} (h : RowsOk l) (most : Nat) {k : List Nat} {r : Ro} (hb : Byt k) (hr : r.ok) : RowsOk (kputN most l k r) := by
  unfold kputN
  by_cases he : kputE most l k = 0
  · rw [if_pos he]
    cases hk : keyB k with
    | false => unfold kputE at he; rw [hk] at he; simp at he
    | true => exact h.put hb hk hr
  · rw [if_neg he]; exact h
theorem RowsOk.kdel {l : List KR} (h : RowsOk l) (k : List Nat) : RowsOk (kdelN l k) := by
  unfold kdelN
  split
  · exact h.del k
  · exact h
end Go.Proofs.Ytlnagdodnkhbmaa
