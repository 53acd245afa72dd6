/- Slices that read as rows of cells, whatever an element's size; append onto a row of the call's own; two such rows side by side. No program is named here. -/
import Derived.Test.YtomkfggilehhgaaB3
import Derived.Test.YtomkfggilehhgaaM1
namespace Go.Proofs.Ytomkfggilehhgaa
open Go.RowKit

/-- The slice value's elements, of sz cells each, hold these cells. -/
def Row (sz : Nat) (w : World) (v : Value) (len : Nat) (cs : List Value) : Prop :=
  cs.length = len * sz ∧ ∃ A c, v = .slice A len c ∧ len ≤ c ∧ c ≤ maxLen ∧ (A = none → c = 0) ∧ ∀ (j : Nat) (u : Value), cs[j]? = some u → ∃ ad, A = some ad ∧ w.cell? (ad.add j) = some u

section
variable {sz len : Nat} {w w' : World} {v : Value} {cs : List Value}
theorem Row.below (h : Row sz w v len cs) (hb : Below w.heap.size w w') : Row sz w' v len cs := by
  obtain ⟨hl, A, c, hv, h1, h2, h3, hx⟩ := h
  exact ⟨hl, A, c, hv, h1, h2, h3, fun j u hj => by
    obtain ⟨ad, ha, hc⟩ := hx j u hj
    exact ⟨ad, ha, below_keep hb _ _ hc⟩⟩
theorem Row.slice (h : Row sz w v len cs) : ∃ A c, v = .slice A len c := by
  obtain ⟨_, A, c, hv, _⟩ := h
  exact ⟨A, c, hv⟩
theorem Row.nil (sz : Nat) (w : World) : Row sz w (.slice none 0 0) 0 [] := ⟨by simp, none, 0, rfl, by simp, by simp, fun _ => rfl, by simp⟩
theorem Row.cell {A : Option Addr} {n c j : Nat} {u : Value} (h : Row sz w (.slice A n c) len cs) (hj : cs[j]? = some u) : ∃ ad, A = some ad ∧ w.cell? (ad.add j) = some u := by
  obtain ⟨_, A', c', hv, _, _, _, hx⟩ := h
  injection hv with h1 _ _
  subst h1
  exact hx j u hj
theorem Row.cap {A : Option Addr} {n c : Nat} (h : Row sz w (.slice A n c) len cs) : n = len ∧ len ≤ c ∧ c ≤ maxLen := by
  obtain ⟨_, A', c', hv, h1, h2, _⟩ := h
  injection hv with _ e1 e2
  subst e1; subst e2
  exact ⟨rfl, h1, h2⟩
/-- What is cut off, from a to b. -/
theorem Row.cut {A : Option Addr} {n c : Nat} (h : Row sz w (.slice A n c) len cs) {a b : Nat} (ha : a ≤ b) (hb : b ≤ len) : Row sz w (sliced A a b c sz) (b - a) ((cs.drop (a * sz)).take ((b - a) * sz)) := by
  obtain ⟨hl, A', c', hv, h1, h2, h3, hx⟩ := h
  injection hv with e1 e2 e3
  subst e1; subst e2; subst e3
  have hab : (b - a) * sz ≤ cs.length - a * sz := by
    rw [hl, ← Nat.sub_mul]
    exact Nat.mul_le_mul_right _ (by omega)
  have hlen : ((cs.drop (a * sz)).take ((b - a) * sz)).length = (b - a) * sz := by rw [List.length_take, List.length_drop]; omega
  unfold sliced
  refine ⟨hlen, _, c - a, rfl, by omega, by omega, fun hA => ?_, fun j u hj => ?_⟩
  · split at hA
    · omega
    · cases A with
      | none => have := h3 rfl; omega
      | some ad => cases hA
  · rw [List.getElem?_take] at hj
    split at hj
    · rename_i hjl
      rw [List.getElem?_drop] at hj
      obtain ⟨ad, hA, hcell⟩ := hx _ _ hj
      by_cases hca : c = a
      · exfalso
        have : b - a = 0 := by omega
        rw [this] at hjl
        omega
      · rw [if_neg hca, hA]
        exact ⟨_, rfl, by rw [add_add']; exact hcell⟩
    · cases hj
theorem own_row {base : Nat} {e : TypeId} (h : w.ownsRow base e sz v len cs) : Row sz w v len cs := by
  refine ⟨h.1, ?_⟩
  rcases h.2 with ⟨rfl, rfl⟩ | ⟨g, cap, cur, rfl, hb, hh, hnc, hcm, hcs, htake⟩
  · have : cs = [] := List.eq_nil_of_length_eq_zero (by have := h.1; simpa using this)
    subst this
    exact ⟨none, 0, rfl, by simp, by simp, fun _ => rfl, by simp⟩
  · exact ⟨_, cap, rfl, hnc, hcm, (fun h => by cases h), fun j u hj => ⟨_, rfl, h.cells (g := g) rfl j u hj⟩⟩
/-- A new block whose cells are these. -/
theorem row_new (w : World) (sz n : Nat) (cs : List Value) (e : TypeId) (hn : n ≤ maxLen) (hl : cs.length = n * sz) : Row sz (w.alloc (.cells cs.toArray e)) (.slice (some ⟨w.heap.size, 0, none⟩) n n) n cs :=
  ⟨hl, _, n, rfl, Nat.le_refl _, hn, (fun h => by cases h), fun j u hj => ⟨_, rfl, by rw [add_at, cell_of_row _ _ _ _ _ _ (heap_alloc_new w _), List.getElem?_toArray]; exact hj⟩⟩
end

section
variable {P : Program}
theorem run_append_row_ (w : World) (base : Nat) (t ty e : TypeId) (i : TypeInfo) (z : Value) (size bytes : Nat) (ht : P.underlying t = some (.slice e)) (hi : P.info? e = some i) (hz : i.zero = some z)
    (hsize : i.size = size) (hby : i.bytes = bytes) (hzs : z.cells.size = size) (hsz : 0 < size)
    (v : Value) (n : Nat) (xs : List Value) (hown : w.ownsRow base e size v n xs)
    (u : Value) (m : Nat) (ys : List Value) (hu : Row size w u m ys) (h1 : ∀ y ∈ ys, y.oneCell' = true)
    (h63 : n + m ≤ maxLen) (hbytes : (n + m) * bytes ≤ 140737488355328) (hbase : base ≤ w.heap.size) :
    ∃ v' w', (Builtin.append_ #[t, t] ty #[v, u]).run P w = .ok v' w' ∧ w'.ownsRow base e size v' (n + m) (xs ++ ys) ∧ w.grownBy w' v.ownBlock := by
  obtain ⟨hl, A, c, rfl, hc, hm, hn, hcell⟩ := hu
  cases A with
  | none =>
    have hc0 := hn rfl
    subst hc0
    have hm0 : m = 0 := by omega
    subst hm0
    have hy : ys = [] := List.eq_nil_of_length_eq_zero (by simpa using hl)
    subst hy
    have hrun := run_append_owned_none (P := P) (w := w) base t ty e i size ht hi v n xs hown
    exact ⟨v, w, hrun, by simpa using hown, World.grownBy.refl w _⟩
  | some ad =>
    obtain ⟨v', w', hr, h2, h3, _⟩ := run_append_own (P := P) w base t ty e i z size bytes ht hi hz hsize hby hzs hsz v n xs hown ad m c ys hl
      (fun j u hj => by
        obtain ⟨ad', ha, hc⟩ := hcell j u hj
        injection ha with ha
        subst ha
        exact hc) h1 h63 hbytes hbase
    exact ⟨v', w', hr, h2, h3⟩
theorem wpList_append_row_ (w : World) {ops : Array Oper} {rest : List Oper} {o : Oper} {a : Act} {Q : Exit → Act → World → Prop} (hgd : o.guard = none) (s x : Operand) (t : TypeId)
    (ho : o.op = .call { callee := .builtin .append, args := #[s, x], argTypes := #[t, t] })
    (base : Nat) (e : TypeId) (i : TypeInfo) (z : Value) (size bytes : Nat) (ht : P.underlying t = some (.slice e)) (hi : P.info? e = some i) (hz : i.zero = some z)
    (hsize : i.size = size) (hby : i.bytes = bytes) (hzs : z.cells.size = size) (hsz : 0 < size)
    (v : Value) (n : Nat) (xs : List Value) (hs : a.eval s = v) (hown : w.ownsRow base e size v n xs)
    (u : Value) (m : Nat) (ys : List Value) (hx : a.eval x = u) (hu : Row size w u m ys) (h1 : ∀ y ∈ ys, y.oneCell' = true)
    (h63 : n + m ≤ maxLen) (hbytes : (n + m) * bytes ≤ 140737488355328) (hbase : base ≤ w.heap.size)
    (h : ∀ v' w', w'.ownsRow base e size v' (n + m) (xs ++ ys) → w.grownBy w' v.ownBlock → wpList P ops Q rest (a.put o.dst v') w') : wpList P ops Q (o :: rest) a w := by
  refine wpList_plain hgd fun K hK => ?_
  obtain ⟨v', w', hrun, h2, h3⟩ := run_append_row_ (P := P) w base t o.type e i z size bytes ht hi hz hsize hby hzs hsz v n xs hown u m ys hu h1 h63 hbytes hbase
  unfold Oper.wp execOp
  simp only [ho, resolve, invoke, builtin, Sem.run_bind, Sem.run_pure, Result.andThen_ok, List.map_toArray, List.map_cons, List.map_nil, hs, hx, hrun]
  exact hK _ _ (h v' w' h2 h3)
end

/-- Two rows of unlike types share no block. -/
theorem rows_apart {w : World} {b1 b2 s1 s2 n1 n2 : Nat} {e1 e2 : TypeId} {v1 v2 : Value} {c1 c2 : List Value} (h1 : w.ownsRow b1 e1 s1 v1 n1 c1) (h2 : w.ownsRow b2 e2 s2 v2 n2 c2) (hne : e1 ≠ e2) :
    v1.ownBlock = none ∨ v1.ownBlock ≠ v2.ownBlock := by
  rcases h1.2 with ⟨rfl, _⟩ | ⟨g, cap, cur, rfl, _, hh, _⟩
  · exact .inl rfl
  · right
    rcases h2.2 with ⟨rfl, _⟩ | ⟨g', cap', cur', rfl, _, hh', _⟩
    · simp [Value.ownBlock]
    · simp only [Value.ownBlock, ne_eq, Option.some.injEq]
      rintro rfl
      rw [hh] at hh'
      injection hh' with hh'
      injection hh' with _ ht
      exact hne ht

/-- An entry; its cells; texts' cells. -/
abbrev En := Int × List Nat
def key (e : En) : List Nat := wv e.1 ++ e.2
def cellsE (l : List En) : List Value := l.flatMap fun e => [.int .i64 e.1, .string (str e.2)]
def cellsS (l : List (List Nat)) : List Value := l.map fun x => .string (str x)
theorem cellsE_cons (e : En) (l : List En) : cellsE (e :: l) = .int .i64 e.1 :: .string (str e.2) :: cellsE l := rfl
theorem cellsE_len : ∀ l : List En, (cellsE l).length = l.length * 2
  | [] => rfl
  | e :: l => by rw [cellsE_cons, List.length_cons, List.length_cons, cellsE_len l, List.length_cons]; omega
theorem cellsE_app (l m : List En) : cellsE (l ++ m) = cellsE l ++ cellsE m := List.flatMap_append
theorem cellsE_drop : ∀ (n : Nat) (l : List En), (cellsE l).drop (n * 2) = cellsE (l.drop n)
  | 0, _ => by simp
  | n + 1, [] => by simp [cellsE]
  | n + 1, e :: l => by rw [cellsE_cons, show (n + 1) * 2 = n * 2 + 1 + 1 by omega, List.drop_succ_cons, List.drop_succ_cons, cellsE_drop n l, List.drop_succ_cons]
theorem cellsE_take : ∀ (n : Nat) (l : List En), (cellsE l).take (n * 2) = cellsE (l.take n)
  | 0, _ => by simp [cellsE]
  | n + 1, [] => by simp [cellsE]
  | n + 1, e :: l => by rw [cellsE_cons, show (n + 1) * 2 = n * 2 + 1 + 1 by omega, List.take_succ_cons, List.take_succ_cons, cellsE_take n l, List.take_succ_cons, cellsE_cons]
theorem cellsE_one (l : List En) : ∀ y ∈ cellsE l, y.oneCell' = true := by
  intro y hy
  unfold cellsE at hy
  rw [List.mem_flatMap] at hy
  obtain ⟨e, _, hy⟩ := hy
  simp at hy
  rcases hy with rfl | rfl <;> rfl
theorem cellsE_at {l : List En} {i : Nat} {e : En} (h : l[i]? = some e) : (cellsE l)[i * 2]? = some (.int .i64 e.1) ∧ (cellsE l)[i * 2 + 1]? = some (.string (str e.2)) := by
  have h1 : ((cellsE l).drop (i * 2))[0]? = some (.int .i64 e.1) ∧ ((cellsE l).drop (i * 2))[1]? = some (.string (str e.2)) := by
    rw [cellsE_drop]
    obtain ⟨hi, rfl⟩ := List.getElem?_eq_some_iff.1 h
    rw [List.drop_eq_getElem_cons hi, cellsE_cons]
    exact ⟨rfl, rfl⟩
  rw [List.getElem?_drop, List.getElem?_drop] at h1
  exact h1
theorem cellsS_len (l : List (List Nat)) : (cellsS l).length = l.length * 1 := by unfold cellsS; rw [List.length_map]; omega
theorem cellsS_one (l : List (List Nat)) : ∀ y ∈ cellsS l, y.oneCell' = true := by
  intro y hy
  unfold cellsS at hy
  rw [List.mem_map] at hy
  obtain ⟨e, _, rfl⟩ := hy
  rfl
theorem cellsS_at {l : List (List Nat)} {i : Nat} {x : List Nat} (h : l[i]? = some x) : (cellsS l)[i]? = some (.string (str x)) := by
  unfold cellsS; rw [List.getElem?_map, h]; rfl

/-- Two rows that the call made since W: entries, and texts. -/
structure Two (ee es : TypeId) (W w : World) (a b : Value) (S : List En) (B : List (List Nat)) : Prop where
  a : w.ownsRow W.heap.size ee 2 a S.length (cellsE S)
  b : w.ownsRow W.heap.size es 1 b B.length (cellsS B)
  c : Below W.heap.size W w
section
variable {ee es : TypeId} {W w w' : World} {a b a' b' : Value} {S S' : List En} {B B' : List (List Nat)}
theorem Two.start (ee es : TypeId) (W : World) : Two ee es W W (.slice none 0 0) (.slice none 0 0) [] [] :=
  ⟨World.ownsRow_nil _ _ _ _, World.ownsRow_nil _ _ _ _, Below.refl _ _⟩
theorem Two.alloc (h : Two ee es W w a b S B) (o : Obj) : Two ee es W (w.alloc o) a b S B := ⟨h.a.alloc o, h.b.alloc o, h.c.alloc h.c.size o⟩
theorem Two.stepA (h : Two ee es W w a b S B) (hne : ee ≠ es) (ho : w'.ownsRow W.heap.size ee 2 a' (S.length + S'.length) (cellsE S ++ cellsE S')) (hg : w.grownBy w' a.ownBlock) : Two ee es W w' a' b (S ++ S') B :=
  ⟨by rw [List.length_append, cellsE_app]; exact ho, h.b.kept hg (rows_apart h.b h.a (fun e => hne e.symm)), h.c.grown hg h.c.size fun g hg' => (h.a.lt g hg').1⟩
theorem Two.stepB (h : Two ee es W w a b S B) (hne : ee ≠ es) (ho : w'.ownsRow W.heap.size es 1 b' (B.length + B'.length) (cellsS B ++ cellsS B')) (hg : w.grownBy w' b.ownBlock) : Two ee es W w' a b' S (B ++ B') :=
  ⟨h.a.kept hg (rows_apart h.a h.b hne), by rw [List.length_append, show cellsS (B ++ B') = cellsS B ++ cellsS B' by unfold cellsS; rw [List.map_append]]; exact ho, h.c.grown hg h.c.size fun g hg' => (h.b.lt g hg').1⟩
end
end Go.Proofs.Ytomkfggilehhgaa
