/- Words for memory: a slice of numbers that reads as a list, nil let in; a row of the call's own. No program is named here. -/
import Derived.WalkKit
import Derived.WalkSpells
import Derived.WalkLawsBesides
import Derived.Deep.Draws
import Derived.Laws.AppendOwnNone
import Derived.Laws.BytesArg
namespace Go.Proofs.Ytomkfggilehhgaa
open Go.RowKit

theorem hid {p : Prop} (h : p) : Hid p := h
theorem add_blk (a : Addr) (n : Nat) : (a.add n).block = a.block := by unfold Addr.add; split <;> rfl
theorem add_add' (a : Addr) (i j : Nat) : (a.add i).add j = a.add (i + j) := by
  unfold Addr.add
  by_cases hi : i = 0 <;> by_cases hj : j = 0 <;> simp [hi, hj, Nat.add_assoc]
theorem add_zero' (a : Addr) : a.add 0 = a := by simp [Addr.add]
theorem add_at (g n : Nat) : (⟨g, 0, none⟩ : Addr).add n = ⟨g, n, none⟩ := by unfold Addr.add; split <;> simp_all
theorem ret_nat {k : IntKind} {a b : Nat} (h : a = b) : Ending.returned (.int k (a : Int)) = .returned (.int k (b : Int)) := by rw [h]
theorem ret_bool {a b : Bool} (h : a = b) : Ending.returned (.bool a) = .returned (.bool b) := by rw [h]

/-- The slice value's length is the list's, and its cells hold the list's numbers, of kind k. -/
def Sl (k : IntKind) (w : World) (v : Value) (xs : List Nat) : Prop :=
  ∃ A c, v = .slice A xs.length c ∧ xs.length ≤ c ∧ c ≤ maxLen ∧ (A = none → c = 0) ∧ ∀ (i b : Nat), xs[i]? = some b → ∃ ad, A = some ad ∧ w.cell? (ad.add i) = some (.int k (b : Int))

theorem blk_lt {w : World} {a : Addr} {v : Value} (h : w.cell? a = some v) : a.block < w.heap.size := by
  rcases Nat.lt_or_ge a.block w.heap.size with hl | hl
  · exact hl
  · simp [World.cell?, Array.getElem?_eq_none hl] at h

section
variable {k : IntKind} {w w' : World} {v : Value} {xs : List Nat}
theorem Sl.keep (h : Sl k w v xs) (hk : ∀ a u, w.cell? a = some u → w'.cell? a = some u) : Sl k w' v xs := by
  obtain ⟨A, c, hv, hc, hm, hn, hx⟩ := h
  exact ⟨A, c, hv, hc, hm, hn, fun i b hi => by
    obtain ⟨ad, ha, hcell⟩ := hx i b hi
    exact ⟨ad, ha, hk _ _ hcell⟩⟩
theorem below_keep (h : Below w.heap.size w w') : ∀ a u, w.cell? a = some u → w'.cell? a = some u :=
  fun _ _ hc => (h.cell (blk_lt hc)).trans hc
theorem Sl.below (h : Sl k w v xs) (hb : Below w.heap.size w w') : Sl k w' v xs := h.keep (below_keep hb)
theorem Sl.alloc (h : Sl k w v xs) (o : Obj) : Sl k (w.alloc o) v xs := h.below ((Below.refl _ _).alloc (Nat.le_refl _) o)
theorem Sl.drew (h : Sl k w v xs) : Sl k w.drew v xs := h
theorem Sl.drewN (h : Sl k w v xs) (n : Nat) : Sl k (w.drewN n) v xs := h
theorem Sl.nil (k : IntKind) (w : World) : Sl k w (.slice none 0 0) [] := ⟨none, 0, rfl, by simp, by simp [maxLen], fun _ => rfl, by simp⟩
theorem Sl.len {A : Option Addr} {n c : Nat} (h : Sl k w (.slice A n c) xs) : n = xs.length := by
  obtain ⟨A, c, hv, _⟩ := h
  injection hv
/-- A block that is known whole reads as a slice. -/
theorem Sl.row {g : Nat} {cs : Array Value} {e : TypeId} {fz : Nat × Nat} {c : Nat} (h : w.heap[g]? = some (.cells cs e fz)) (hc : xs.length ≤ c) (hm : c ≤ maxLen)
    (hx : ∀ (i b : Nat), xs[i]? = some b → cs[i]? = some (Value.int k (b : Int))) : Sl k w (.slice (some ⟨g, 0, none⟩) xs.length c) xs :=
  ⟨_, c, rfl, hc, hm, (fun h => by cases h), fun i b hi => ⟨_, rfl, by rw [add_at, cell_of_row w g i cs e fz h]; exact hx i b hi⟩⟩
/-- What was cut off: the first n. -/
theorem Sl.take (h : Sl k w v xs) {n : Nat} (hn : n ≤ xs.length) : ∃ A c, v = .slice A xs.length c ∧ xs.length ≤ c ∧ c ≤ maxLen ∧ Sl k w (.slice A n c) (xs.take n) := by
  obtain ⟨A, c, hv, hc, hm, hz, hx⟩ := h
  refine ⟨A, c, hv, hc, hm, A, c, by rw [List.length_take, Nat.min_eq_left hn], by rw [List.length_take]; omega, hm, hz, fun i b hi => ?_⟩
  rw [List.getElem?_take] at hi
  split at hi
  · exact hx i b hi
  · cases hi
theorem Sl.cell {A : Option Addr} {len c i b : Nat} (h : Sl k w (.slice A len c) xs) (hi : xs[i]? = some b) : ∃ ad, A = some ad ∧ w.cell? (ad.add i) = some (.int k (b : Int)) := by
  obtain ⟨A', c', hv, _, _, _, hx⟩ := h
  injection hv with hA _ _
  subst hA
  exact hx i b hi
theorem Sl.take_ {A : Option Addr} {len c n : Nat} (h : Sl k w (.slice A len c) xs) (hn : n ≤ xs.length) : Sl k w (.slice A n c) (xs.take n) := by
  obtain ⟨A', c', hv, _, _, h⟩ := h.take hn
  injection hv with h1 _ h2
  subst h1; subst h2; exact h
/-- What was cut off: all from n on, where the capacity is not used up. -/
theorem Sl.drop_ {ad : Addr} {m c n : Nat} (h : Sl k w (.slice (some ad) (n + m) c) xs) (hc : n + m ≤ c) : Sl k w (.slice (some (ad.add n)) m (c - n)) (xs.drop n) := by
  have hl := h.len
  obtain ⟨A, c', hv, hc', hm, hz, hx⟩ := h
  injection hv with hA _ hcc
  subst hcc
  refine ⟨some (ad.add n), c - n, by rw [List.length_drop]; congr 1; omega, by rw [List.length_drop]; omega, by omega, (fun h => by cases h), fun i b hi => ⟨_, rfl, ?_⟩⟩
  rw [List.getElem?_drop] at hi
  obtain ⟨ad', ha, hcell⟩ := hx _ _ hi
  rw [← hA] at ha
  injection ha with ha
  subst ha
  rw [add_add']; exact hcell
/-- A row of the call's own. -/
def Own (k : IntKind) (w : World) (base : Nat) (e : TypeId) (v : Value) (xs : List Nat) : Prop := w.ownsRow base e 1 v xs.length (xs.map fun (b : Nat) => Value.int k b)
theorem Own.sl {base : Nat} {e : TypeId} (h : Own k w base e v xs) : Sl k w v xs := by
  unfold Own at h
  rcases h.2 with ⟨rfl, hn⟩ | ⟨g, cap, cur, rfl, hb, hh, hnc, hcm, hcs, htake⟩
  · have : xs = [] := List.eq_nil_of_length_eq_zero hn
    subst this
    exact Sl.nil k w
  · refine ⟨_, cap, rfl, hnc, hcm, (fun h => by cases h), fun i b hi => ⟨_, rfl, ?_⟩⟩
    exact h.cells (g := g) rfl i _ (by rw [List.getElem?_map, hi]; rfl)
theorem Own.nil (k : IntKind) (w : World) (base : Nat) (e : TypeId) : Own k w base e (.slice none 0 0) [] := World.ownsRow_nil w base e 1
theorem Own.blk {base : Nat} {e : TypeId} (h : Own k w base e v xs) : ∀ g, v.ownBlock = some g → base ≤ g ∧ g < w.heap.size := World.ownsRow.lt h
theorem Own.below {base : Nat} {e : TypeId} (h : Own k w base e v xs) (hb : Below w.heap.size w w') : Own k w' base e v xs :=
  World.ownsRow.kept (row := none) h ⟨hb.os, hb.tape, hb.output, hb.size, fun i hi _ => hb.block i hi⟩ (by cases v.ownBlock <;> simp)
theorem Own.alloc {base : Nat} {e : TypeId} (h : Own k w base e v xs) (o : Obj) : Own k (w.alloc o) base e v xs := h.below ((Below.refl _ _).alloc (Nat.le_refl _) o)
theorem Own.drew {base : Nat} {e : TypeId} (h : Own k w base e v xs) : Own k w.drew base e v xs := h.below ⟨rfl, rfl, rfl, Nat.le_refl _, fun _ _ => rfl⟩
theorem Own.drewN {base : Nat} {e : TypeId} (h : Own k w base e v xs) (n : Nat) : Own k (w.drewN n) base e v xs := h.below ⟨rfl, rfl, rfl, Nat.le_refl _, fun _ _ => rfl⟩
end

theorem below_grown {w w' : World} {row : Option Nat} {B : Nat} (hg : w.grownBy w' row) (hB : B ≤ w.heap.size) (hr : ∀ k, row = some k → B ≤ k) : Below B w w' := (Below.refl B w).grown hg hB hr
theorem below_drewN' {B : Nat} {a w : World} (h : Below B a w) (n : Nat) : Below B a (w.drewN n) := ⟨h.os, h.tape, h.output, h.size, h.block⟩
theorem below_step {a b c : World} (h : Below a.heap.size a b) (k : Below b.heap.size b c) : Below a.heap.size a c := h.trans (k.mono h.size)

/-- The string of bytes. -/
def str (xs : List Nat) : ByteArray := strOfNums (xs.map fun (b : Nat) => (b : Int))
theorem str_list (xs : List Nat) : (str xs).data.toList = xs.map UInt8.ofNat := by
  unfold str; rw [strOfNums_data, List.map_map]; apply List.map_congr_left; intro a _; simp
theorem str_size (xs : List Nat) : (str xs).size = xs.length := by unfold str; rw [strOfNums_size, List.length_map]
theorem Sl.loads {P : Program} {k : IntKind} {w : World} {ad : Addr} {n c : Nat} {xs : List Nat} (h : Sl k w (.slice (some ad) n c) xs) : (loadCells ad n).run P w = .ok (xs.map fun (b : Nat) => Value.int k b).toArray w := by
  obtain ⟨A, c', hv, _, _, _, hx⟩ := h
  injection hv with hA hn _
  have := run_loadCells_list (P := P) w ad (xs.map fun (b : Nat) => Value.int k b) (fun j v hj => by
    rw [List.getElem?_map] at hj
    cases hb : xs[j]? with
    | none => rw [hb] at hj; cases hj
    | some b =>
      rw [hb] at hj
      obtain ⟨ad', ha, hc⟩ := hx j b hb
      rw [← hA] at ha
      injection ha with ha
      subst ha
      rw [hc, ← hj]; rfl)
  rw [List.length_map] at this
  rw [hn]; exact this
theorem Sl.str {P : Program} {w : World} {v : Value} {xs : List Nat} (h : Sl .u8 w v xs) (src e dst : TypeId) (hs : P.underlying src = some (.slice e)) (he : P.underlying e = some (.int .u8)) (hd : P.underlying dst = some .string) :
    (convert src dst v).run P w = .ok (.string (str xs)) w := by
  have h0 := h
  obtain ⟨A, c, rfl, hc, hm, hn, hx⟩ := h
  cases A with
  | none =>
    have : xs = [] := by
      cases xs with
      | nil => rfl
      | cons y ys => obtain ⟨ad, hA, _⟩ := hx 0 y rfl; cases hA
    subst this
    rw [run_convert_bytes_nil w src e hs he _ _ dst hd]; rfl
  | some ad =>
    have hl := h0.loads (P := P)
    rw [run_convert_bytes_string w src dst e _ _ c hs he hd]
    have := run_bytesToString (P := P) w ad xs.length c (xs.map fun (b : Nat) => (b : Int)) (by rw [hl, List.map_map]; rfl)
    rw [this, foldl_push_bytes]
    unfold Proofs.Ytomkfggilehhgaa.str strOfNums
    simp [ByteArray.empty, ByteArray.emptyWithCapacity]
    rfl

/-- append of a slice onto a row of the call's own: one operation. -/
theorem op_append_sl {P : Program} (w : World) {o : Oper} {a : Act} {K : Act → World → Prop} {Q : Exit → Act → World → Prop} (s x : Operand) (t : TypeId)
    (ho : o.op = .call { callee := .builtin .append, args := #[s, x], argTypes := #[t, t] })
    (base : Nat) (e : TypeId) (i : TypeInfo) (z : Value) (bytes : Nat) (ht : P.underlying t = some (.slice e)) (hi : P.info? e = some i) (hz : i.zero = some z)
    (hsize : i.size = 1) (hby : i.bytes = bytes) (hzs : z.cells.size = 1)
    (k : IntKind) (v : Value) (xs : List Nat) (hs : a.eval s = v) (hown : Own k w base e v xs)
    (u : Value) (ys : List Nat) (hx : a.eval x = u) (hu : Sl k w u ys)
    (h63 : xs.length + ys.length ≤ maxLen) (hbytes : (xs.length + ys.length) * bytes ≤ 140737488355328) (hbase : base ≤ w.heap.size)
    (h : ∀ v' w', Own k w' base e v' (xs ++ ys) → w.grownBy w' v.ownBlock → Below base w w' → K (a.put o.dst v') w') : o.wp P a w K Q := by
  obtain ⟨A, c, rfl, hc, hm, hn, hcell⟩ := hu
  cases A with
  | none =>
    have hy : ys = [] := by
      cases ys with
      | nil => rfl
      | cons y ys =>
        obtain ⟨ad, hA, _⟩ := hcell 0 y rfl
        cases hA
    subst hy
    have hc0 := hn rfl
    subst hc0
    have hrun := run_append_owned_none (P := P) (w := w) base t o.type e i 1 ht hi v xs.length _ hown
    unfold Oper.wp
    have hx' : a.eval x = .slice none 0 0 := hx
    simp [execOp, ho, resolve, invoke, builtin, hs, hx', hrun, Result.andThen]
    exact h v w (by simpa using hown) (World.grownBy.refl w _) (Below.refl _ _)
  | some ad =>
    refine wp_append_own w s x t ho base e i z 1 bytes ht hi hz hsize hby hzs (by omega) v xs.length _ hs hown ad ys.length c (ys.map fun (b : Nat) => Value.int k b) hx (by simp) ?_ ?_ h63 hbytes hbase ?_
    · intro j u hu
      rw [List.getElem?_map] at hu
      cases hj : ys[j]? with
      | none => rw [hj] at hu; cases hu
      | some b =>
        rw [hj] at hu
        obtain ⟨ad', hA, hcc⟩ := hcell j b hj
        injection hA with hA
        subst hA
        rw [hcc, ← hu]; rfl
    · intro u hu
      simp only [List.mem_map] at hu
      obtain ⟨b, _, rfl⟩ := hu
      rfl
    · intro v' w' h1 h2 _
      refine h v' w' ?_ h2 (below_grown h2 hbase fun g hg => (Own.blk hown g hg).1)
      unfold Own
      rw [List.length_append, List.map_append]
      exact h1

/-- .. in a list of operations. -/
theorem wpList_append_sl {P : Program} (w : World) {ops : Array Oper} {rest : List Oper} {o : Oper} {a : Act} {Q : Exit → Act → World → Prop} (hgd : o.guard = none) (s x : Operand) (t : TypeId)
    (ho : o.op = .call { callee := .builtin .append, args := #[s, x], argTypes := #[t, t] })
    (base : Nat) (e : TypeId) (i : TypeInfo) (z : Value) (bytes : Nat) (ht : P.underlying t = some (.slice e)) (hi : P.info? e = some i) (hz : i.zero = some z)
    (hsize : i.size = 1) (hby : i.bytes = bytes) (hzs : z.cells.size = 1)
    (k : IntKind) (v : Value) (xs : List Nat) (hs : a.eval s = v) (hown : Own k w base e v xs)
    (u : Value) (ys : List Nat) (hx : a.eval x = u) (hu : Sl k w u ys)
    (h63 : xs.length + ys.length ≤ maxLen) (hbytes : (xs.length + ys.length) * bytes ≤ 140737488355328) (hbase : base ≤ w.heap.size)
    (h : ∀ v' w', Own k w' base e v' (xs ++ ys) → w.grownBy w' v.ownBlock → Below base w w' → wpList P ops Q rest (a.put o.dst v') w') : wpList P ops Q (o :: rest) a w :=
  wpList_plain hgd fun _ hK => op_append_sl w s x t ho base e i z bytes ht hi hz hsize hby hzs k v xs hs hown u ys hx hu h63 hbytes hbase fun v' w' h1 h2 h3 => hK _ _ (h v' w' h1 h2 h3)

theorem step_append_sl {P : Program} (w : World) {ops : Array Oper} {o : Oper} {a : Act} {K : Act → World → Prop} {Q : Exit → Act → World → Prop} {E : Prop} (hgd : o.guard = none) (s x : Operand) (t : TypeId)
    (ho : o.op = .call { callee := .builtin .append, args := #[s, x], argTypes := #[t, t] })
    (base : Nat) (e : TypeId) (i : TypeInfo) (z : Value) (bytes : Nat) (ht : P.underlying t = some (.slice e)) (hi : P.info? e = some i) (hz : i.zero = some z)
    (hsize : i.size = 1) (hby : i.bytes = bytes) (hzs : z.cells.size = 1)
    (k : IntKind) (v : Value) (xs : List Nat) (hs : a.eval s = v) (hown : Own k w base e v xs)
    (u : Value) (ys : List Nat) (hx : a.eval x = u) (hu : Sl k w u ys)
    (h63 : xs.length + ys.length ≤ maxLen) (hbytes : (xs.length + ys.length) * bytes ≤ 140737488355328) (hbase : base ≤ w.heap.size)
    (h : ∀ v' w', Own k w' base e v' (xs ++ ys) → w.grownBy w' v.ownBlock → Below base w w' → K (a.put o.dst v') w') :
    if Region.wanted o (yielded ops a.tmps) = true then Oper.wp P o a w K Q else E := by
  rw [if_pos (by unfold Region.wanted; rw [hgd])]
  exact op_append_sl w s x t ho base e i z bytes ht hi hz hsize hby hzs k v xs hs hown u ys hx hu h63 hbytes hbase h
end Go.Proofs.Ytomkfggilehhgaa
