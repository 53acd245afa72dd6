import Derived.WalkKit
import Derived.WalkSpells
import Derived.WalkLawsBesides
import Derived.Deep.Draws
import Derived.Laws.AppendOwnNone
import Derived.Laws.BytesArg
import Derived.Lib.Strings
import Derived.ProofKit
import Derived.OpenShut
import Derived.Carry
import Derived.Deep.DeepHandedRow
import Derived.Lib.LaidTab
import Derived.Maps.AppendAt
import Derived.Lib.AppendStr
import Derived.Deep.Slices
import Derived.Deep.Fields
import Derived.Lib.SmallJoins
import Derived.Sort.QuietThIn
import Derived.Sort.QuietIn
import Derived.RangeFuncIn
import Derived.RangeFuncLeaves
import Derived.RangeFuncCalls
import Derived.RangeFuncBound
import Derived.RangeFuncFrom
import Derived.StillTail
import Derived.OrdersHeld

/- Words for memory: a slice of numbers that reads as a list, nil let in; a row of the call's own. No program is named here. -/
namespace Go.Proofs.YtlnagdodnkhbmaaGreat
open Go.RowKit

theorem hid {p : Prop} (h : p) : Hid p := h
theorem add_blk (a : Addr) (n : Nat) : (a.add n).block = a.block := by unfold Addr.add; split <;> rfl
theorem add_add' (a : Addr) (i j : Nat) : (a.add i).add j = a.add (i + j) := by
  unfold Addr.add
  by_cases hi : i = 0 <;> by_cases hj : j = 0 <;> simp [hi, hj, Nat.add_assoc]
theorem add_zero' (a : Addr) : a.add 0 = a := by simp [Addr.add]
theorem add_at (g n : Nat) : (⟨g, 0, none⟩ : Addr).add n = ⟨g, n, none⟩ := by unfold Addr.add; split <;> simp_all
theorem ret_nat {k : IntKind} {a b : Nat} (h : a = b) : Ending.returned (.int k (a : Int)) = .returned (.int k (b : Int)) := by rw [h]
theorem ret_bool {a b : Bool} (h : a = b) : Ending.returned (.bool a) = .returned (.bool b) := by rw [h]

/-- The slice value's length is the list's, and its cells hold the list's numbers, of kind k. -/
def Sl (k : IntKind) (w : World) (v : Value) (xs : List Nat) : Prop :=
  ∃ A c, v = .slice A xs.length c ∧ xs.length ≤ c ∧ c ≤ maxLen ∧ (A = none → c = 0) ∧ ∀ (i b : Nat), xs[i]? = some b → ∃ ad, A = some ad ∧ w.cell? (ad.add i) = some (.int k (b : Int))

theorem blk_lt {w : World} {a : Addr} {v : Value} (h : w.cell? a = some v) : a.block < w.heap.size := by
  rcases Nat.lt_or_ge a.block w.heap.size with hl | hl
  · exact hl
  · simp [World.cell?, Array.getElem?_eq_none hl] at h

section
variable {k : IntKind} {w w' : World} {v : Value} {xs : List Nat}
theorem Sl.keep (h : Sl k w v xs) (hk : ∀ a u, w.cell? a = some u → w'.cell? a = some u) : Sl k w' v xs := by
  obtain ⟨A, c, hv, hc, hm, hn, hx⟩ := h
  exact ⟨A, c, hv, hc, hm, hn, fun i b hi => by
    obtain ⟨ad, ha, hcell⟩ := hx i b hi
    exact ⟨ad, ha, hk _ _ hcell⟩⟩
theorem below_keep (h : Below w.heap.size w w') : ∀ a u, w.cell? a = some u → w'.cell? a = some u :=
  fun _ _ hc => (h.cell (blk_lt hc)).trans hc
theorem Sl.below (h : Sl k w v xs) (hb : Below w.heap.size w w') : Sl k w' v xs := h.keep (below_keep hb)
theorem Sl.alloc (h : Sl k w v xs) (o : Obj) : Sl k (w.alloc o) v xs := h.below ((Below.refl _ _).alloc (Nat.le_refl _) o)
theorem Sl.drew (h : Sl k w v xs) : Sl k w.drew v xs := h
theorem Sl.drewN (h : Sl k w v xs) (n : Nat) : Sl k (w.drewN n) v xs := h
theorem Sl.nil (k : IntKind) (w : World) : Sl k w (.slice none 0 0) [] := ⟨none, 0, rfl, by simp, by simp [maxLen], fun _ => rfl, by simp⟩
theorem Sl.len {A : Option Addr} {n c : Nat} (h : Sl k w (.slice A n c) xs) : n = xs.length := by
  obtain ⟨A, c, hv, _⟩ := h
  injection hv
/-- A block that is known whole reads as a slice. -/
theorem Sl.row {g : Nat} {cs : Array Value} {e : TypeId} {fz : Nat × Nat} {c : Nat} (h : w.heap[g]? = some (.cells cs e fz)) (hc : xs.length ≤ c) (hm : c ≤ maxLen)
    (hx : ∀ (i b : Nat), xs[i]? = some b → cs[i]? = some (Value.int k (b : Int))) : Sl k w (.slice (some ⟨g, 0, none⟩) xs.length c) xs :=
  ⟨_, c, rfl, hc, hm, (fun h => by cases h), fun i b hi => ⟨_, rfl, by rw [add_at, cell_of_row w g i cs e fz h]; exact hx i b hi⟩⟩
/-- What was cut off: the first n. -/
theorem Sl.take (h : Sl k w v xs) {n : Nat} (hn : n ≤ xs.length) : ∃ A c, v = .slice A xs.length c ∧ xs.length ≤ c ∧ c ≤ maxLen ∧ Sl k w (.slice A n c) (xs.take n) := by
  obtain ⟨A, c, hv, hc, hm, hz, hx⟩ := h
  refine ⟨A, c, hv, hc, hm, A, c, by rw [List.length_take, Nat.min_eq_left hn], by rw [List.length_take]; omega, hm, hz, fun i b hi => ?_⟩
  rw [List.getElem?_take] at hi
  split at hi
  · exact hx i b hi
  · cases hi
theorem Sl.cell {A : Option Addr} {len c i b : Nat} (h : Sl k w (.slice A len c) xs) (hi : xs[i]? = some b) : ∃ ad, A = some ad ∧ w.cell? (ad.add i) = some (.int k (b : Int)) := by
  obtain ⟨A', c', hv, _, _, _, hx⟩ := h
  injection hv with hA _ _
  subst hA
  exact hx i b hi
theorem Sl.take_ {A : Option Addr} {len c n : Nat} (h : Sl k w (.slice A len c) xs) (hn : n ≤ xs.length) : Sl k w (.slice A n c) (xs.take n) := by
  obtain ⟨A', c', hv, _, _, h⟩ := h.take hn
  injection hv with h1 _ h2
  subst h1; subst h2; exact h
/-- What was cut off: all from n on, where the capacity is not used up. -/
theorem Sl.drop_ {ad : Addr} {m c n : Nat} (h : Sl k w (.slice (some ad) (n + m) c) xs) (hc : n + m ≤ c) : Sl k w (.slice (some (ad.add n)) m (c - n)) (xs.drop n) := by
  have hl := h.len
  obtain ⟨A, c', hv, hc', hm, hz, hx⟩ := h
  injection hv with hA _ hcc
  subst hcc
  refine ⟨some (ad.add n), c - n, by rw [List.length_drop]; congr 1; omega, by rw [List.length_drop]; omega, by omega, (fun h => by cases h), fun i b hi => ⟨_, rfl, ?_⟩⟩
  rw [List.getElem?_drop] at hi
  obtain ⟨ad', ha, hcell⟩ := hx _ _ hi
  rw [← hA] at ha
  injection ha with ha
  subst ha
  rw [add_add']; exact hcell
/-- A row of the call's own. -/
def Own (k : IntKind) (w : World) (base : Nat) (e : TypeId) (v : Value) (xs : List Nat) : Prop := w.ownsRow base e 1 v xs.length (xs.map fun (b : Nat) => Value.int k b)
theorem Own.sl {base : Nat} {e : TypeId} (h : Own k w base e v xs) : Sl k w v xs := by
  unfold Own at h
  rcases h.2 with ⟨rfl, hn⟩ | ⟨g, cap, cur, rfl, hb, hh, hnc, hcm, hcs, htake⟩
  · have : xs = [] := List.eq_nil_of_length_eq_zero hn
    subst this
    exact Sl.nil k w
  · refine ⟨_, cap, rfl, hnc, hcm, (fun h => by cases h), fun i b hi => ⟨_, rfl, ?_⟩⟩
    exact h.cells (g := g) rfl i _ (by rw [List.getElem?_map, hi]; rfl)
theorem Own.nil (k : IntKind) (w : World) (base : Nat) (e : TypeId) : Own k w base e (.slice none 0 0) [] := World.ownsRow_nil w base e 1
theorem Own.blk {base : Nat} {e : TypeId} (h : Own k w base e v xs) : ∀ g, v.ownBlock = some g → base ≤ g ∧ g < w.heap.size := World.ownsRow.lt h
theorem Own.below {base : Nat} {e : TypeId} (h : Own k w base e v xs) (hb : Below w.heap.size w w') : Own k w' base e v xs :=
  World.ownsRow.kept (row := none) h ⟨hb.os, hb.tape, hb.output, hb.size, fun i hi _ => hb.block i hi⟩ (by cases v.ownBlock <;> simp)
theorem Own.alloc {base : Nat} {e : TypeId} (h : Own k w base e v xs) (o : Obj) : Own k (w.alloc o) base e v xs := h.below ((Below.refl _ _).alloc (Nat.le_refl _) o)
theorem Own.drew {base : Nat} {e : TypeId} (h : Own k w base e v xs) : Own k w.drew base e v xs := h.below ⟨rfl, rfl, rfl, Nat.le_refl _, fun _ _ => rfl⟩
theorem Own.drewN {base : Nat} {e : TypeId} (h : Own k w base e v xs) (n : Nat) : Own k (w.drewN n) base e v xs := h.below ⟨rfl, rfl, rfl, Nat.le_refl _, fun _ _ => rfl⟩
end

theorem below_grown {w w' : World} {row : Option Nat} {B : Nat} (hg : w.grownBy w' row) (hB : B ≤ w.heap.size) (hr : ∀ k, row = some k → B ≤ k) : Below B w w' := (Below.refl B w).grown hg hB hr
theorem below_drewN' {B : Nat} {a w : World} (h : Below B a w) (n : Nat) : Below B a (w.drewN n) := ⟨h.os, h.tape, h.output, h.size, h.block⟩
theorem below_step {a b c : World} (h : Below a.heap.size a b) (k : Below b.heap.size b c) : Below a.heap.size a c := h.trans (k.mono h.size)

/-- The string of bytes. -/
def str (xs : List Nat) : ByteArray := strOfNums (xs.map fun (b : Nat) => (b : Int))
theorem str_list (xs : List Nat) : (str xs).data.toList = xs.map UInt8.ofNat := by
  unfold str; rw [strOfNums_data, List.map_map]; apply List.map_congr_left; intro a _; simp
theorem str_size (xs : List Nat) : (str xs).size = xs.length := by unfold str; rw [strOfNums_size, List.length_map]
theorem Sl.loads {P : Program} {k : IntKind} {w : World} {ad : Addr} {n c : Nat} {xs : List Nat} (h : Sl k w (.slice (some ad) n c) xs) : (loadCells ad n).run P w = .ok (xs.map fun (b : Nat) => Value.int k b).toArray w := by
  obtain ⟨A, c', hv, _, _, _, hx⟩ := h
  injection hv with hA hn _
  have := run_loadCells_list (P := P) w ad (xs.map fun (b : Nat) => Value.int k b) (fun j v hj => by
    rw [List.getElem?_map] at hj
    cases hb : xs[j]? with
    | none => rw [hb] at hj; cases hj
    | some b =>
      rw [hb] at hj
      obtain ⟨ad', ha, hc⟩ := hx j b hb
      rw [← hA] at ha
      injection ha with ha
      subst ha
      rw [hc, ← hj]; rfl)
  rw [List.length_map] at this
  rw [hn]; exact this
theorem Sl.str {P : Program} {w : World} {v : Value} {xs : List Nat} (h : Sl .u8 w v xs) (src e dst : TypeId) (hs : P.underlying src = some (.slice e)) (he : P.underlying e = some (.int .u8)) (hd : P.underlying dst = some .string) :
    (convert src dst v).run P w = .ok (.string (str xs)) w := by
  have h0 := h
  obtain ⟨A, c, rfl, hc, hm, hn, hx⟩ := h
  cases A with
  | none =>
    have : xs = [] := by
      cases xs with
      | nil => rfl
      | cons y ys => obtain ⟨ad, hA, _⟩ := hx 0 y rfl; cases hA
    subst this
    rw [run_convert_bytes_nil w src e hs he _ _ dst hd]; rfl
  | some ad =>
    have hl := h0.loads (P := P)
    rw [run_convert_bytes_string w src dst e _ _ c hs he hd]
    have := run_bytesToString (P := P) w ad xs.length c (xs.map fun (b : Nat) => (b : Int)) (by rw [hl, List.map_map]; rfl)
    rw [this, foldl_push_bytes]
    unfold Proofs.YtlnagdodnkhbmaaGreat.str strOfNums
    simp [ByteArray.empty, ByteArray.emptyWithCapacity]
    rfl

/-- append of a slice onto a row of the call's own: one operation. -/
theorem op_append_sl {P : Program} (w : World) {o : Oper} {a : Act} {K : Act → World → Prop} {Q : Exit → Act → World → Prop} (s x : Operand) (t : TypeId)
    (ho : o.op = .call { callee := .builtin .append, args := #[s, x], argTypes := #[t, t] })
    (base : Nat) (e : TypeId) (i : TypeInfo) (z : Value) (bytes : Nat) (ht : P.underlying t = some (.slice e)) (hi : P.info? e = some i) (hz : i.zero = some z)
    (hsize : i.size = 1) (hby : i.bytes = bytes) (hzs : z.cells.size = 1)
    (k : IntKind) (v : Value) (xs : List Nat) (hs : a.eval s = v) (hown : Own k w base e v xs)
    (u : Value) (ys : List Nat) (hx : a.eval x = u) (hu : Sl k w u ys)
    (h63 : xs.length + ys.length ≤ maxLen) (hbytes : (xs.length + ys.length) * bytes ≤ 140737488355328) (hbase : base ≤ w.heap.size)
    (h : ∀ v' w', Own k w' base e v' (xs ++ ys) → w.grownBy w' v.ownBlock → Below base w w' → K (a.put o.dst v') w') : o.wp P a w K Q := by
  obtain ⟨A, c, rfl, hc, hm, hn, hcell⟩ := hu
  cases A with
  | none =>
    have hy : ys = [] := by
      cases ys with
      | nil => rfl
      | cons y ys =>
        obtain ⟨ad, hA, _⟩ := hcell 0 y rfl
        cases hA
    subst hy
    have hc0 := hn rfl
    subst hc0
    have hrun := run_append_owned_none (P := P) (w := w) base t o.type e i 1 ht hi v xs.length _ hown
    unfold Oper.wp
    have hx' : a.eval x = .slice none 0 0 := hx
    simp [execOp, ho, resolve, invoke, builtin, hs, hx', hrun, Result.andThen]
    exact h v w (by simpa using hown) (World.grownBy.refl w _) (Below.refl _ _)
  | some ad =>
    refine wp_append_own w s x t ho base e i z 1 bytes ht hi hz hsize hby hzs (by omega) v xs.length _ hs hown ad ys.length c (ys.map fun (b : Nat) => Value.int k b) hx (by simp) ?_ ?_ h63 hbytes hbase ?_
    · intro j u hu
      rw [List.getElem?_map] at hu
      cases hj : ys[j]? with
      | none => rw [hj] at hu; cases hu
      | some b =>
        rw [hj] at hu
        obtain ⟨ad', hA, hcc⟩ := hcell j b hj
        injection hA with hA
        subst hA
        rw [hcc, ← hu]; rfl
    · intro u hu
      simp only [List.mem_map] at hu
      obtain ⟨b, _, rfl⟩ := hu
      rfl
    · intro v' w' h1 h2 _
      refine h v' w' ?_ h2 (below_grown h2 hbase fun g hg => (Own.blk hown g hg).1)
      unfold Own
      rw [List.length_append, List.map_append]
      exact h1

/-- .. in a list of operations. -/
theorem wpList_append_sl {P : Program} (w : World) {ops : Array Oper} {rest : List Oper} {o : Oper} {a : Act} {Q : Exit → Act → World → Prop} (hgd : o.guard = none) (s x : Operand) (t : TypeId)
    (ho : o.op = .call { callee := .builtin .append, args := #[s, x], argTypes := #[t, t] })
    (base : Nat) (e : TypeId) (i : TypeInfo) (z : Value) (bytes : Nat) (ht : P.underlying t = some (.slice e)) (hi : P.info? e = some i) (hz : i.zero = some z)
    (hsize : i.size = 1) (hby : i.bytes = bytes) (hzs : z.cells.size = 1)
    (k : IntKind) (v : Value) (xs : List Nat) (hs : a.eval s = v) (hown : Own k w base e v xs)
    (u : Value) (ys : List Nat) (hx : a.eval x = u) (hu : Sl k w u ys)
    (h63 : xs.length + ys.length ≤ maxLen) (hbytes : (xs.length + ys.length) * bytes ≤ 140737488355328) (hbase : base ≤ w.heap.size)
    (h : ∀ v' w', Own k w' base e v' (xs ++ ys) → w.grownBy w' v.ownBlock → Below base w w' → wpList P ops Q rest (a.put o.dst v') w') : wpList P ops Q (o :: rest) a w :=
  wpList_plain hgd fun _ hK => op_append_sl w s x t ho base e i z bytes ht hi hz hsize hby hzs k v xs hs hown u ys hx hu h63 hbytes hbase fun v' w' h1 h2 h3 => hK _ _ (h v' w' h1 h2 h3)

theorem step_append_sl {P : Program} (w : World) {ops : Array Oper} {o : Oper} {a : Act} {K : Act → World → Prop} {Q : Exit → Act → World → Prop} {E : Prop} (hgd : o.guard = none) (s x : Operand) (t : TypeId)
    (ho : o.op = .call { callee := .builtin .append, args := #[s, x], argTypes := #[t, t] })
    (base : Nat) (e : TypeId) (i : TypeInfo) (z : Value) (bytes : Nat) (ht : P.underlying t = some (.slice e)) (hi : P.info? e = some i) (hz : i.zero = some z)
    (hsize : i.size = 1) (hby : i.bytes = bytes) (hzs : z.cells.size = 1)
    (k : IntKind) (v : Value) (xs : List Nat) (hs : a.eval s = v) (hown : Own k w base e v xs)
    (u : Value) (ys : List Nat) (hx : a.eval x = u) (hu : Sl k w u ys)
    (h63 : xs.length + ys.length ≤ maxLen) (hbytes : (xs.length + ys.length) * bytes ≤ 140737488355328) (hbase : base ≤ w.heap.size)
    (h : ∀ v' w', Own k w' base e v' (xs ++ ys) → w.grownBy w' v.ownBlock → Below base w w' → K (a.put o.dst v') w') :
    if Region.wanted o (yielded ops a.tmps) = true then Oper.wp P o a w K Q else E := by
  rw [if_pos (by unfold Region.wanted; rw [hgd])]
  exact op_append_sl w s x t ho base e i z bytes ht hi hz hsize hby hzs k v xs hs hown u ys hx hu h63 hbytes hbase h
end Go.Proofs.YtlnagdodnkhbmaaGreat

/- Eight bytes of a number, the highest one first, and their order; strings as lists of bytes. No program is named here. -/
namespace Go.Proofs.YtlnagdodnkhbmaaGreat
open Go.RowKit

def Byt (xs : List Nat) : Prop := ∀ b ∈ xs, b < 256
theorem Byt.app {xs ys : List Nat} (h : Byt xs) (k : Byt ys) : Byt (xs ++ ys) := fun b hb => by
  rcases List.mem_append.1 hb with hb | hb
  · exact h b hb
  · exact k b hb
theorem Byt.drop {xs : List Nat} (h : Byt xs) (n : Nat) : Byt (xs.drop n) := fun b hb => h b (List.mem_of_mem_drop hb)
theorem Byt.take {xs : List Nat} (h : Byt xs) (n : Nat) : Byt (xs.take n) := fun b hb => h b (List.mem_of_mem_take hb)

/-- The k lowest bytes of a number, the highest one first. -/
def be : Nat → Nat → List Nat
  | 0, _ => []
  | k + 1, N => (N / 256 ^ k % 256) :: be k N
theorem be_len : ∀ (k N : Nat), (be k N).length = k
  | 0, _ => rfl
  | k + 1, N => by simp [be, be_len k N]
theorem be_byt : ∀ (k N : Nat), Byt (be k N)
  | 0, _ => fun _ h => by cases h
  | k + 1, N => fun b hb => by
    rcases List.mem_cons.1 hb with rfl | hb
    · exact Nat.mod_lt _ (by omega)
    · exact be_byt k N b hb
theorem be_mod : ∀ (k N M : Nat), N % 256 ^ k = M % 256 ^ k → be k N = be k M
  | 0, _, _, _ => rfl
  | k + 1, N, M, h => by
    rw [Nat.mod_pow_succ, Nat.mod_pow_succ] at h
    have hN : N % 256 ^ k < 256 ^ k := Nat.mod_lt _ (Nat.pow_pos (by omega))
    have hM : M % 256 ^ k < 256 ^ k := Nat.mod_lt _ (Nat.pow_pos (by omega))
    have hp : 0 < 256 ^ k := Nat.pow_pos (by omega)
    have h1 : N / 256 ^ k % 256 = M / 256 ^ k % 256 := by
      have e := congrArg (· / 256 ^ k) h
      simp only [Nat.add_mul_div_left _ _ hp, Nat.div_eq_of_lt hN, Nat.div_eq_of_lt hM, Nat.zero_add] at e
      exact e
    have h2 : N % 256 ^ k = M % 256 ^ k := by rw [h1] at h; omega
    simp only [be]
    rw [h1, be_mod k N M h2]
/-- Eight bytes, and others behind: their order. -/
theorem be_lt : ∀ (k N M : Nat) (a b : List Nat), (be k N ++ a < be k M ++ b) ↔ N % 256 ^ k < M % 256 ^ k ∨ (N % 256 ^ k = M % 256 ^ k ∧ a < b)
  | 0, N, M, a, b => by simp [be, Nat.mod_one]
  | k + 1, N, M, a, b => by
    have hp : 0 < 256 ^ k := Nat.pow_pos (by omega)
    have hN : N % 256 ^ k < 256 ^ k := Nat.mod_lt _ hp
    have hM : M % 256 ^ k < 256 ^ k := Nat.mod_lt _ hp
    simp only [be, List.cons_append, List.cons_lt_cons_iff]
    rw [be_lt k N M a b, Nat.mod_pow_succ, Nat.mod_pow_succ]
    generalize N / 256 ^ k % 256 = x
    generalize M / 256 ^ k % 256 = y
    generalize N % 256 ^ k = u at *
    generalize M % 256 ^ k = v at *
    generalize 256 ^ k = p at *
    rcases Nat.lt_trichotomy x y with h | h | h
    · have : p * (x + 1) ≤ p * y := Nat.mul_le_mul_left p h
      rw [Nat.mul_add, Nat.mul_one] at this
      constructor
      · intro _; left; omega
      · intro _; left; exact h
    · subst h
      constructor
      · rintro (h | ⟨_, h | ⟨h, h'⟩⟩)
        · omega
        · left; omega
        · right; exact ⟨by omega, h'⟩
      · rintro (h | ⟨h, h'⟩)
        · exact .inr ⟨rfl, .inl (by omega)⟩
        · exact .inr ⟨rfl, .inr ⟨by omega, h'⟩⟩
    · have : p * (y + 1) ≤ p * x := Nat.mul_le_mul_left p h
      rw [Nat.mul_add, Nat.mul_one] at this
      constructor
      · rintro (h' | ⟨h', _⟩) <;> omega
      · rintro (h' | ⟨h', _⟩) <;> omega
theorem be_inj {k N M : Nat} {a b : List Nat} (hN : N < 256 ^ k) (hM : M < 256 ^ k) (h : be k N ++ a = be k M ++ b) : N = M ∧ a = b := by
  obtain ⟨h1, h2⟩ := List.append_inj h (by rw [be_len, be_len])
  refine ⟨?_, h2⟩
  have l1 : ¬ (be k N ++ [] < be k M ++ []) := by rw [h1]; exact List.lt_irrefl _
  have l2 : ¬ (be k M ++ [] < be k N ++ []) := by rw [h1]; exact List.lt_irrefl _
  rw [be_lt, Nat.mod_eq_of_lt hN, Nat.mod_eq_of_lt hM] at l1 l2
  omega

/-- The number of bytes. -/
def num (xs : List Nat) : Nat := xs.foldl (fun a b => 256 * a + b) 0
theorem num_snoc (xs : List Nat) (b : Nat) : num (xs ++ [b]) = 256 * num xs + b := by unfold num; rw [List.foldl_append]; rfl
theorem num_take {xs : List Nat} {i b : Nat} (h : xs[i]? = some b) : num (xs.take (i + 1)) = 256 * num (xs.take i) + b := by
  rw [List.take_add_one, h]; exact num_snoc _ _
theorem be_snoc : ∀ (k N b : Nat), b < 256 → be (k + 1) (256 * N + b) = be k N ++ [b]
  | 0, N, b, hb => by simp [be]; omega
  | k + 1, N, b, hb => by
    rw [be, be_snoc k N b hb, be]
    rw [show (256 * N + b) / 256 ^ (k + 1) = N / 256 ^ k by rw [Nat.pow_succ', ← Nat.div_div_eq_div_mul]; congr 1; omega]
    rfl
theorem snoc_ind {P : List Nat → Prop} (h0 : P []) (h1 : ∀ xs b, P xs → P (xs ++ [b])) (xs : List Nat) : P xs := by
  have h : ∀ ys : List Nat, P ys.reverse := fun ys => by
    induction ys with
    | nil => exact h0
    | cons y ys ih => rw [List.reverse_cons]; exact h1 _ _ ih
  have := h xs.reverse
  rwa [List.reverse_reverse] at this
theorem num_lt (xs : List Nat) : Byt xs → num xs < 256 ^ xs.length := by
  refine snoc_ind (P := fun xs => Byt xs → num xs < 256 ^ xs.length) ?_ (fun xs b ih => ?_) xs
  · intro _; simp [num]
  · intro h
    rw [num_snoc, List.length_append, List.length_singleton, Nat.pow_succ]
    have h1 := ih fun x hx => h x (List.mem_append_left _ hx)
    have h2 := h b (List.mem_append_right _ (List.mem_singleton.2 rfl))
    omega
theorem be_num (xs : List Nat) : Byt xs → be xs.length (num xs) = xs := by
  refine snoc_ind (P := fun xs => Byt xs → be xs.length (num xs) = xs) ?_ (fun xs b ih => ?_) xs
  · intro _; rfl
  · intro h
    have h1 := ih fun x hx => h x (List.mem_append_left _ hx)
    have h2 := h b (List.mem_append_right _ (List.mem_singleton.2 rfl))
    rw [num_snoc, List.length_append, List.length_singleton, be_snoc _ _ _ h2, h1]
theorem num_be {k N : Nat} (h : N < 256 ^ k) : num (be k N) = N := by
  have h1 := be_num (be k N) (be_byt k N)
  rw [be_len] at h1
  have h2 := num_lt (be k N) (be_byt k N)
  rw [be_len] at h2
  exact (be_inj (a := []) (b := []) h2 h (by rw [h1])).1

/-- A value's eight bytes: 2^63 more. -/
def lift (n : Int) : Nat := (n + 9223372036854775808).toNat
def wv (n : Int) : List Nat := be 8 (lift n)
theorem wv_len (n : Int) : (wv n).length = 8 := be_len _ _
theorem wv_byt (n : Int) : Byt (wv n) := be_byt _ _
def I64 (n : Int) : Prop := -9223372036854775808 ≤ n ∧ n ≤ 9223372036854775807
set_option maxRecDepth 100000 in
theorem lift_lt {n : Int} (h : I64 n) : lift n < 256 ^ 8 := by
  unfold lift; rw [show (256 : Nat) ^ 8 = 18446744073709551616 by rfl]; have := h.1; have := h.2; omega
theorem lift_cast {n : Int} (h : I64 n) : (lift n : Int) = n + 9223372036854775808 := by
  unfold lift; have := h.1; omega
theorem wv_lt {n m : Int} (hn : I64 n) (hm : I64 m) (a b : List Nat) : (wv n ++ a < wv m ++ b) ↔ n < m ∨ (n = m ∧ a < b) := by
  unfold wv
  rw [be_lt, Nat.mod_eq_of_lt (lift_lt hn), Nat.mod_eq_of_lt (lift_lt hm)]
  have h1 := lift_cast hn
  have h2 := lift_cast hm
  constructor
  · rintro (h | ⟨h, h'⟩)
    · left; omega
    · right; exact ⟨by omega, h'⟩
  · rintro (h | ⟨h, h'⟩)
    · left; omega
    · right; exact ⟨by omega, h'⟩
theorem wv_inj {n m : Int} (hn : I64 n) (hm : I64 m) {a b : List Nat} : (wv n ++ a = wv m ++ b) ↔ n = m ∧ a = b := by
  constructor
  · intro h
    obtain ⟨h1, h2⟩ := be_inj (lift_lt hn) (lift_lt hm) h
    have := lift_cast hn
    have := lift_cast hm
    exact ⟨by omega, h2⟩
  · rintro ⟨rfl, rfl⟩; rfl
/-- The value of bytes. -/
def val (xs : List Nat) : Int := (num (xs.take 8) : Int) - 9223372036854775808
set_option maxRecDepth 100000 in
theorem val_i64 {xs : List Nat} (hb : Byt xs) : I64 (val xs) := by
  have h := num_lt (xs.take 8) (hb.take 8)
  have h2 : 256 ^ (xs.take 8).length ≤ 256 ^ 8 := Nat.pow_le_pow_right (by omega) (by rw [List.length_take]; omega)
  rw [show (256 : Nat) ^ 8 = 18446744073709551616 by rfl] at h2
  unfold val I64; omega
theorem wv_val {xs : List Nat} (hb : Byt xs) (hl : 8 ≤ xs.length) : wv (val xs) ++ xs.drop 8 = xs := by
  have h : wv (val xs) = xs.take 8 := by
    have h1 := be_num (xs.take 8) (hb.take 8)
    rw [List.length_take, Nat.min_eq_left hl] at h1
    have h2 : lift (val xs) = num (xs.take 8) := by have := lift_cast (val_i64 hb); unfold val at this ⊢; omega
    unfold wv; rw [h2]; exact h1
  rw [h, List.take_append_drop]
theorem val_wv {n : Int} (h : I64 n) (a : List Nat) : val (wv n ++ a) = n := by
  unfold val
  rw [List.take_append_of_le_length (Nat.le_of_eq (wv_len _).symm), List.take_of_length_le (Nat.le_of_eq (wv_len _))]
  unfold wv
  rw [num_be (lift_lt h), lift_cast h]
  omega
theorem drop_wv (n : Int) (a : List Nat) : (wv n ++ a).drop 8 = a := by
  rw [List.drop_append_of_le_length (Nat.le_of_eq (wv_len _).symm), List.drop_of_length_le (Nat.le_of_eq (wv_len _)), List.nil_append]

theorem ba_ext {a b : ByteArray} (h : a.data.toList = b.data.toList) : a = b := by
  apply ByteArray.ext; exact Array.toList_inj.1 h
/-- The numbers of a string's bytes. -/
def nums (s : ByteArray) : List Nat := s.data.toList.map UInt8.toNat
theorem nums_byt (s : ByteArray) : Byt (nums s) := by
  intro b hb
  unfold nums at hb
  rw [List.mem_map] at hb
  obtain ⟨x, _, rfl⟩ := hb
  exact x.toNat_lt
theorem str_nums (s : ByteArray) : str (nums s) = s := by
  apply ba_ext
  rw [str_list]
  unfold nums
  rw [List.map_map]
  have : (UInt8.ofNat ∘ UInt8.toNat) = id := by funext x; simp
  rw [this, List.map_id]
theorem nums_len (s : ByteArray) : (nums s).length = s.size := by unfold nums; rw [List.length_map]; simp
theorem ofNat_inj {xs ys : List Nat} (hx : Byt xs) (hy : Byt ys) (h : xs.map UInt8.ofNat = ys.map UInt8.ofNat) : xs = ys := by
  have h' := congrArg (List.map UInt8.toNat) h
  rw [List.map_map, List.map_map] at h'
  have e : ∀ zs : List Nat, Byt zs → zs.map (UInt8.toNat ∘ UInt8.ofNat) = zs := fun zs hz => by
    conv => rhs; rw [← List.map_id zs]
    apply List.map_congr_left
    intro b hb
    simp [Nat.mod_eq_of_lt (hz b hb)]
  rwa [e xs hx, e ys hy] at h'
theorem str_inj {xs ys : List Nat} (hx : Byt xs) (hy : Byt ys) : str xs = str ys ↔ xs = ys := by
  constructor
  · intro h
    have := congrArg (fun b : ByteArray => b.data.toList) h
    simp only [str_list] at this
    exact ofNat_inj hx hy this
  · rintro rfl; rfl
theorem str_app (xs ys : List Nat) : str xs ++ str ys = str (xs ++ ys) := by
  apply ba_ext
  rw [str_list, List.map_append, ← str_list, ← str_list]
  simp
theorem str_drop (xs : List Nat) (n : Nat) : (str xs).extract n (str xs).size = str (xs.drop n) := by
  apply ba_ext
  rw [str_list, ByteArray.data_extract, str_size]
  have : (str xs).data.size = xs.length := str_size xs
  simp [str_list, List.map_drop, List.take_of_length_le]
theorem str_get {xs : List Nat} {i b : Nat} (hx : xs[i]? = some b) (hb : Byt xs) : ∃ h : i < (str xs).size, ((str xs)[i]'h).toNat = b := by
  have hi : i < xs.length := (List.getElem?_eq_some_iff.1 hx).1
  refine ⟨by rw [str_size]; exact hi, ?_⟩
  have h1 : (str xs).data.toList[i]? = some (UInt8.ofNat b) := by rw [str_list, List.getElem?_map, hx]; rfl
  have h2 : (str xs)[i]'(by rw [str_size]; exact hi) = UInt8.ofNat b := by
    rw [List.getElem?_eq_some_iff] at h1
    obtain ⟨_, h1⟩ := h1
    rw [Array.getElem_toList] at h1
    exact h1
  rw [h2]
  have := hb b (List.mem_of_getElem? hx)
  simp [Nat.mod_eq_of_lt this]
theorem str_toList (xs : List Nat) : (str xs).toList = xs.map UInt8.ofNat := by rw [Lib.toList_data, str_list]
theorem less_str : ∀ {xs ys : List Nat}, Byt xs → Byt ys → (Op.bytesLess (str xs).toList (str ys).toList = decide (xs < ys)) := by
  intro xs ys
  rw [str_toList, str_toList]
  induction xs generalizing ys with
  | nil => intro _ _; cases ys <;> simp [Op.bytesLess]
  | cons x xs ih =>
    intro hx hy
    cases ys with
    | nil => simp [Op.bytesLess]
    | cons y ys =>
      simp only [List.map_cons, Op.bytesLess]
      rw [ih (fun b hb => hx b (List.mem_cons_of_mem _ hb)) (fun b hb => hy b (List.mem_cons_of_mem _ hb))]
      have h1 := hx x List.mem_cons_self
      have h2 := hy y List.mem_cons_self
      have e1 : (UInt8.ofNat x < UInt8.ofNat y) ↔ x < y := by
        rw [UInt8.lt_iff_toNat_lt]; simp [Nat.mod_eq_of_lt h1, Nat.mod_eq_of_lt h2]
      have e2 : (UInt8.ofNat x == UInt8.ofNat y) = decide (x = y) := by
        rw [Bool.eq_iff_iff, beq_iff_eq, decide_eq_true_iff, ← UInt8.toNat_inj]; simp [Nat.mod_eq_of_lt h1, Nat.mod_eq_of_lt h2]
      rw [e2, Bool.eq_iff_iff]
      simp [e1, List.cons_lt_cons_iff]
theorem beq_str {xs ys : List Nat} (hx : Byt xs) (hy : Byt ys) : ((str xs).toList == (str ys).toList) = decide (xs = ys) := by
  rw [str_toList, str_toList, Bool.eq_iff_iff, beq_iff_eq, decide_eq_true_iff]
  exact ⟨ofNat_inj hx hy, fun h => by rw [h]⟩
theorem str_nil : (⟨#[]⟩ : ByteArray) = str [] := by apply ba_ext; rw [str_list]; rfl

/-- The order of texts, and of entries. -/
def cmpL (a b : List Nat) : Int := if a < b then -1 else if a = b then 0 else 1
def cmpE (n : Int) (a : List Nat) (m : Int) (b : List Nat) : Int := if n < m then -1 else if m < n then 1 else cmpL a b
end Go.Proofs.YtlnagdodnkhbmaaGreat

/- The frame of a law's proof: arguments opened, and read again behind a call that turns nothing of what was there. No program is named here. -/
namespace Go.Proofs.YtlnagdodnkhbmaaGreat
open Go.RowKit Go.ChangeShapes Go.WideShapes Go.ChangeAt

/-- What each law says: true, and nothing that was there has turned. -/
def Yes (w : World) (e : Ending) (w' : World) : Prop := e = .returned (.bool true) ∧ Below w.heap.size w w'

section
variable {H : Type} {enc : TypeId × Value → H} {P : Program}
theorem all_again (hl : laidOutB P = true) {W W' : World} (hb : Below W.heap.size W W') : ∀ {ts : List TypeId} {vs : List Value} {ds : List (DataW H)} {ps : List MemPlace},
    (∀ t ∈ ts, P.readableRec t = true ∧ t < P.types.size) → (∀ x ∈ ps, x.block < W.heap.size) → DataW.TrodAll enc P W 0 (fun _ => true) true ts vs ds ps →
    DataW.TrodAll enc P W' 0 (fun b => decide (b < W.heap.size)) true ts vs ds ps
  | [], vs, ds, ps, _, _, h => by
    obtain ⟨rfl, rfl, rfl⟩ := trodAll_nil h
    exact trodAll_mk0
  | t :: ts, vs, ds, ps, ht, hlt, h => by
    obtain ⟨v, vs', d, ds', p, q, rfl, rfl, rfl, h1, h2⟩ := trodAll_cons h
    have h0 := ht t List.mem_cons_self
    exact trodAll_cons_mk (Below.trod hl h0.1 h0.2 h1 hb (fun x hx => hlt x (List.mem_append_left _ hx)))
      (all_again hl hb (fun u hu => ht u (List.mem_cons_of_mem _ hu)) (fun x hx => hlt x (List.mem_append_right _ hx)) h2)

/-- The last step of each law. -/
theorem law_post (hl : laidOutB P = true) {f : Func} {s : ChangeSpec} {apart fresh handsOn : Bool} {W W' : World} {args : Array Value} {ds gs : List (DataW H)} {before : List MemPlace} {tb : TypeId}
    (hv : s.vars = []) (hts : ∀ t ∈ f.params.toList, P.readableRec t = true ∧ t < P.types.size) (hres : f.resultTypes = #[tb]) (htb : P.underlying tb = some .bool)
    (hW : DataW.Whole enc P f.params.toList s.vars apart W args.toList ds gs before) (hfn : gs = [] → s.fn H (ds ++ gs) = { results := [.lit (.bool true)], args := ds }) (hb : Below W.heap.size W W') :
    s.post enc P f apart fresh handsOn false W args (.bool true) W' := by
  have hW' := hW
  obtain ⟨p, q, hA, hV, rfl, hfz, hnd⟩ := hW
  have hV0 : DataW.TrodVars enc P W (fun _ => true) [] gs q := by rw [hv] at hV; exact hV
  obtain ⟨rfl, rfl⟩ := trodVars_none hV0
  have e := hfn rfl
  refine ⟨ds, [], _, [], p, [], hW', ?_, ?_, ?_, hb.frame _, fun h => by cases h⟩
  · rw [e, hres]; exact trodAll_mk1 (shut_bool htb _)
  · rw [e]; exact all_again hl hb hts (fun x hx => hW'.lt x (List.mem_append_left _ hx)) hA
  · rw [e, hv]; exact rfl

theorem open_sl {W : World} {t e : TypeId} {v : Value} {d : DataW H} {p : List MemPlace} {r : Reach} {b0 : Nat} (ht : P.underlying t = some (.slice e)) (he : P.underlying e = some (.int .u8)) (hc : P.cellsOf e = 1)
    (hval : Value.okWide P W r b0 t v) (h : DataW.Trod enc P W 0 (fun _ => true) true t v d p) : ∃ xs, Sl .u8 W v xs ∧ ∀ b ∈ xs, b < 256 := by
  obtain ⟨A, n, c, rfl⟩ := okWide_slice ht hval
  obtain ⟨fuel, hf⟩ := h
  rcases open_ints ht he hc hf with ⟨hcs, hx⟩ | ⟨a, len, cap, zs, hcs, _, hl, hm, hz, hx, hcell, hwz⟩
  · simp [Value.cells] at hcs
    obtain ⟨rfl, rfl, rfl⟩ := hcs
    exact ⟨[], Sl.nil _ _, by simp⟩
  · simp [Value.cells] at hcs
    obtain ⟨rfl, rfl, rfl⟩ := hcs
    have hz' : zs.length = c := by simpa using hz
    have bd : ∀ z ∈ zs, 0 ≤ z ∧ z ≤ 255 := fun z hz => bounds_u8 (hwz z hz)
    have hlen : ((zs.take n).map Int.toNat).length = n := by simp; omega
    refine ⟨(zs.take n).map Int.toNat, ⟨some a, c, by rw [hlen], by rw [hlen]; exact hl, hm, (fun h => by cases h), fun i b hi => ⟨a, rfl, ?_⟩⟩, ?_⟩
    · rw [List.getElem?_map, List.getElem?_take] at hi
      split at hi
      · have hlt : i < zs.length := by omega
        rw [List.getElem?_eq_getElem hlt] at hi
        simp only [Option.map_some, Option.some.injEq] at hi
        rw [hcell i hlt, List.getD_eq_getElem?_getD, List.getElem?_eq_getElem hlt, ← hi]
        have := (bd _ (List.getElem_mem hlt)).1
        simp only [Option.getD_some]
        rw [Int.toNat_of_nonneg this]
      · cases hi
    · intro b hb
      simp only [List.mem_map] at hb
      obtain ⟨z, hz, rfl⟩ := hb
      have := bd z (List.mem_of_mem_take hz)
      omega
end
end Go.Proofs.YtlnagdodnkhbmaaGreat

/- Footprints: which blocks a call may have turned, and which ones a thing lies in. append with the place of what comes. No program is named here. -/
namespace Go.Proofs.YtlnagdodnkhbmaaGreat
open Go.RowKit

/-- Of the blocks that were there only those of F may have turned; what lies in F' lay in F, or is new. -/
structure Chg (F : List Nat) (w w' : World) (F' : List Nat) : Prop where
  os : w'.os = w.os
  tape : w'.tape = w.tape
  output : w'.output = w.output
  size : w.heap.size ≤ w'.heap.size
  block : ∀ k, k < w.heap.size → k ∉ F → w'.heap[k]? = w.heap[k]?
  foot : ∀ k ∈ F', k ∈ F ∨ w.heap.size ≤ k

def Apart (F G : List Nat) : Prop := ∀ k ∈ F, k ∉ G

section
variable {F G F' G' K : List Nat} {a b c w w' : World}
theorem Chg.refl (F : List Nat) (w : World) : Chg F w w F := ⟨rfl, rfl, rfl, Nat.le_refl _, fun _ _ _ => rfl, fun _ h => .inl h⟩
theorem Chg.trans (h : Chg F a b G) (k : Chg G b c K) : Chg F a c K :=
  ⟨k.os.trans h.os, k.tape.trans h.tape, k.output.trans h.output, Nat.le_trans h.size k.size,
    fun i hi hF => (k.block i (Nat.lt_of_lt_of_le hi h.size) fun hG => by rcases h.foot i hG with hh | hh; exact hF hh; omega).trans (h.block i hi hF),
    fun i hi => by
      rcases k.foot i hi with hG | hG
      · exact h.foot i hG
      · exact .inr (Nat.le_trans h.size hG)⟩
/-- What lies in less, or in new blocks besides. -/
theorem Chg.less (h : Chg F a b G) (hk : ∀ k ∈ K, k ∈ G ∨ a.heap.size ≤ k) : Chg F a b K :=
  ⟨h.os, h.tape, h.output, h.size, h.block, fun k hK => by
    rcases hk k hK with hG | hG
    · exact h.foot k hG
    · exact .inr hG⟩
/-- What may turn may be more. -/
theorem Chg.more (h : Chg F a b G) (hk : ∀ k ∈ F, k ∈ K) : Chg K a b G :=
  ⟨h.os, h.tape, h.output, h.size, fun k hl hK => h.block k hl fun hF => hK (hk k hF), fun k hG => by
    rcases h.foot k hG with hh | hh
    · exact .inl (hk k hh)
    · exact .inr hh⟩
theorem Chg.step_below (h : Chg F a b G) (hb : Below b.heap.size b c) : Chg F a c G :=
  h.trans ⟨hb.os, hb.tape, hb.output, hb.size, fun k hk _ => hb.block k hk, fun _ h => .inl h⟩
theorem Chg.of_below (hb : Below w.heap.size w w') : Chg F w w' F := (Chg.refl F w).step_below hb
theorem Chg.alloc (h : Chg F a b G) (o : Obj) : Chg F a (b.alloc o) G := h.step_below ((Below.refl _ _).alloc (Nat.le_refl _) o)
theorem Chg.drew (h : Chg F a b G) : Chg F a b.drew G := h.step_below ⟨rfl, rfl, rfl, Nat.le_refl _, fun _ _ => rfl⟩
theorem Chg.drewN (h : Chg F a b G) (n : Nat) : Chg F a (b.drewN n) G := h.step_below ⟨rfl, rfl, rfl, Nat.le_refl _, fun _ _ => rfl⟩
theorem Chg.setCell (h : Chg F a b G) {p : Addr} (hp : p.block ∈ G) (u : Value) : Chg F a (b.setCell p u) G :=
  h.trans ⟨rfl, rfl, rfl, by simp [World.setCell], fun k _ hG => Below.heap_setCell _ _ _ _ (fun e => hG (e ▸ hp)), fun _ h => .inl h⟩
theorem Chg.grown {row : Option Nat} (h : Chg F a b G) (hg : b.grownBy c row) (hr : ∀ k, row = some k → k ∈ G) : Chg F a c G :=
  h.trans ⟨hg.os, hg.tape, hg.output, hg.size, fun k hk hG => hg.block k hk fun e => hG (hr k e.symm), fun _ h => .inl h⟩
theorem Chg.below {B : Nat} (h : Chg F a b G) (hF : ∀ k ∈ F, B ≤ k) (hB : B ≤ a.heap.size) : Below B a b :=
  ⟨h.os, h.tape, h.output, h.size, fun k hk => h.block k (by omega) fun hh => by have := hF k hh; omega⟩
theorem Chg.from_ {B : Nat} (h : Chg F a b G) (hF : ∀ k ∈ F, B ≤ k) (hB : B ≤ a.heap.size) : ∀ k ∈ G, B ≤ k := fun k hk => by
  rcases h.foot k hk with hh | hh
  · exact hF k hh
  · omega
/-- What lies apart is as it was. -/
theorem Chg.out (h : Chg F a b G) (hl : ∀ k ∈ K, k < a.heap.size) (hap : Apart F K) : ∀ k ∈ K, b.heap[k]? = a.heap[k]? :=
  fun k hk => h.block k (hl k hk) fun hF => hap k hF hk
/-- .. and stays apart. -/
theorem Apart.chg (hap : Apart F K) (h : Chg F a b G) (hl : ∀ k ∈ K, k < a.heap.size) : Apart G K := fun k hG hK => by
  rcases h.foot k hG with hh | hh
  · exact hap k hh hK
  · have := hl k hK; omega
theorem Apart.symm (h : Apart F G) : Apart G F := fun k hG hF => h k hF hG
theorem Apart.nil (F : List Nat) : Apart F [] := fun _ _ h => by cases h
/-- What is new is apart from what was there. -/
theorem Apart.fresh (hF : ∀ k ∈ F, a.heap.size ≤ k) (hG : ∀ k ∈ G, k < a.heap.size) : Apart F G := fun k h1 h2 => by
  have := hF k h1; have := hG k h2; omega
end

/-- Where a slice value's row lies. -/
def ownFoot (v : Value) : List Nat := v.ownBlock.toList
theorem mem_ownFoot {v : Value} {k : Nat} : k ∈ ownFoot v ↔ v.ownBlock = some k := by
  unfold ownFoot; simp
theorem keepBlocks {F : List Nat} {w w' : World} {row : Option Nat} (hg : w.grownBy w' row) (hl : ∀ k ∈ F, k < w.heap.size) (hr : ∀ k ∈ F, row ≠ some k) : ∀ k ∈ F, w'.heap[k]? = w.heap[k]? :=
  fun k hk => hg.block k (hl k hk) fun e => hr k hk e.symm

section
variable {k : IntKind} {w w' : World} {v : Value} {xs : List Nat} {base : Nat} {e : TypeId}
theorem Own.keep (h : Own k w base e v xs) (hk : ∀ b ∈ ownFoot v, w'.heap[b]? = w.heap[b]?) : Own k w' base e v xs := by
  unfold Own World.ownsRow at h ⊢
  refine ⟨h.1, ?_⟩
  rcases h.2 with hn | ⟨g, cap, cur, rfl, hb, hh, r⟩
  · exact .inl hn
  · exact .inr ⟨g, cap, cur, rfl, hb, (hk g (by simp [mem_ownFoot, Value.ownBlock])).trans hh, r⟩
theorem Own.lt (h : Own k w base e v xs) : ∀ b ∈ ownFoot v, b < w.heap.size := fun b hb => (h.blk b (mem_ownFoot.1 hb)).2
theorem Own.zero (h : Own k w base e v xs) : Own k w 0 e v xs := by
  unfold Own World.ownsRow at h ⊢
  refine ⟨h.1, ?_⟩
  rcases h.2 with hn | ⟨g, cap, cur, rfl, hb, r⟩
  · exact .inl hn
  · exact .inr ⟨g, cap, cur, rfl, Nat.zero_le _, r⟩
theorem Own.at_ {B : Nat} (h : Own k w base e v xs) (hB : ∀ b ∈ ownFoot v, B ≤ b) : Own k w B e v xs := by
  unfold Own World.ownsRow at h ⊢
  refine ⟨h.1, ?_⟩
  rcases h.2 with hn | ⟨g, cap, cur, rfl, hb, r⟩
  · exact .inl hn
  · exact .inr ⟨g, cap, cur, rfl, hB g (by simp [mem_ownFoot, Value.ownBlock]), r⟩
/-- A row's block holds cells of its type alone. -/
theorem Own.ne_ (h : Own k w base e v xs) {g : Nat} {cs : Array Value} {t : TypeId} {fz : Nat × Nat} (hg : w.heap[g]? = some (.cells cs t fz)) (hne : e ≠ t) : g ∉ ownFoot v := by
  intro hm
  rcases h.2 with ⟨rfl, _⟩ | ⟨g', cap, cur, rfl, hb, hh, r⟩
  · simp [ownFoot, Value.ownBlock] at hm
  · simp [ownFoot, Value.ownBlock] at hm
    subst hm
    rw [hg] at hh
    injection hh with hh
    injection hh with _ ht
    exact hne ht.symm
end

/-- A block that is one cell, nowhere frozen. -/
def One (w : World) (g : Nat) (t : TypeId) (v : Value) : Prop := w.heap[g]? = some (.cells #[v] t (0, 0))
section
variable {w w' : World} {g : Nat} {t : TypeId} {v : Value}
theorem One.lt (h : One w g t v) : g < w.heap.size := by
  unfold One at h
  rcases Nat.lt_or_ge g w.heap.size with hl | hl
  · exact hl
  · rw [Array.getElem?_eq_none hl] at h; cases h
theorem One.cell (h : One w g t v) : w.cell? ⟨g, 0, none⟩ = some v := cell_of_row w g 0 #[v] t (0, 0) h
theorem One.frozen (h : One w g t v) : w.frozen? ⟨g, 0, none⟩ = false := by unfold One at h; simp [World.frozen?, h]
theorem One.keep (h : One w g t v) (hk : w'.heap[g]? = w.heap[g]?) : One w' g t v := by unfold One at h ⊢; rw [hk]; exact h
theorem One.alloc (h : One w g t v) (o : Obj) : One (w.alloc o) g t v := h.keep (Below.heap_alloc _ _ _ h.lt)
theorem One.drew (h : One w g t v) : One w.drew g t v := h
theorem One.drewN (h : One w g t v) (n : Nat) : One (w.drewN n) g t v := h
theorem One.set (h : One w g t v) (u : Value) : One (w.setCell ⟨g, 0, none⟩ u) g t u := by
  unfold One at h ⊢
  simp [World.setCell, Array.getElem?_modify, h]
theorem One.far (h : One w g t v) {p : Addr} (hp : g ≠ p.block) (u : Value) : One (w.setCell p u) g t v := h.keep (Below.heap_setCell _ _ _ _ hp)
theorem One.new (w : World) (t : TypeId) (v : Value) : One (w.alloc (.cells #[v] t)) w.heap.size t v := heap_alloc_new w _
end
theorem Own.set_far {k : IntKind} {w : World} {v : Value} {xs : List Nat} {base : Nat} {e : TypeId} (h : Own k w base e v xs) {p : Addr} (hp : p.block ∉ ownFoot v) (u : Value) : Own k (w.setCell p u) base e v xs :=
  h.keep fun _b hb => Below.heap_setCell _ _ _ _ (fun e => hp (e ▸ hb))
theorem Sl.set_far {k : IntKind} {w : World} {v : Value} {xs : List Nat} (h : Sl k w v xs) {w' : World} (hk : ∀ a u, w.cell? a = some u → w'.cell? a = some u) : Sl k w' v xs := h.keep hk

/-- append of a slice onto a row of the call's own: the run. -/
theorem run_append_sl {P : Program} (w : World) (t ty e : TypeId) (i : TypeInfo) (z : Value) (bytes : Nat) (ht : P.underlying t = some (.slice e)) (hi : P.info? e = some i) (hz : i.zero = some z)
    (hsize : i.size = 1) (hby : i.bytes = bytes) (hzs : z.cells.size = 1)
    (k : IntKind) (v : Value) (xs : List Nat) (hown : Own k w 0 e v xs) (u : Value) (ys : List Nat) (hu : Sl k w u ys)
    (h63 : xs.length + ys.length ≤ maxLen) (hbytes : (xs.length + ys.length) * bytes ≤ 140737488355328) :
    ∃ v' w', (Builtin.append_ #[t, t] ty #[v, u]).run P w = .ok v' w' ∧ Own k w' 0 e v' (xs ++ ys) ∧ w.grownBy w' v.ownBlock ∧ (∀ b ∈ ownFoot v', b ∈ ownFoot v ∨ w.heap.size ≤ b) := by
  obtain ⟨A, c, rfl, hc, hm, hn, hcell⟩ := hu
  cases A with
  | none =>
    have hy : ys = [] := by
      cases ys with
      | nil => rfl
      | cons y ys =>
        obtain ⟨ad, hA, _⟩ := hcell 0 y rfl
        cases hA
    subst hy
    have hc0 := hn rfl
    subst hc0
    have hrun := run_append_owned_none (P := P) (w := w) 0 t ty e i 1 ht hi v xs.length _ hown
    exact ⟨v, w, hrun, by simpa using hown, World.grownBy.refl w _, fun b hb => .inl hb⟩
  | some ad =>
    obtain ⟨v', w', hr, h2, h3, _, h5⟩ := run_append_own_at (P := P) w 0 t ty e i z 1 bytes ht hi hz hsize hby hzs (by omega) v xs.length _ hown ad ys.length c (ys.map fun (b : Nat) => Value.int k b) (by simp)
      (by
        intro j u hu
        rw [List.getElem?_map] at hu
        cases hj : ys[j]? with
        | none => rw [hj] at hu; cases hu
        | some b =>
          rw [hj] at hu
          obtain ⟨ad', hA, hcc⟩ := hcell j b hj
          injection hA with hA
          subst hA
          rw [hcc, ← hu]; rfl)
      (by
        intro u hu
        simp only [List.mem_map] at hu
        obtain ⟨b, _, rfl⟩ := hu
        rfl) h63 hbytes (Nat.zero_le _)
    refine ⟨v', w', hr, ?_, h3, fun b hb => ?_⟩
    · unfold Own
      rw [List.length_append, List.map_append]
      exact h2
    · rw [mem_ownFoot] at hb
      rw [mem_ownFoot]
      rcases h5 with h5 | h5
      · exact .inl (h5.symm.trans hb)
      · rw [h5] at hb; injection hb with hb; exact .inr (by omega)

theorem wp_append_at {P : Program} (w : World) {o : Oper} {a : Act} {K : Act → World → Prop} {Q : Exit → Act → World → Prop} (s x : Operand) (t : TypeId)
    (ho : o.op = .call { callee := .builtin .append, args := #[s, x], argTypes := #[t, t] })
    (e : TypeId) (i : TypeInfo) (z : Value) (bytes : Nat) (ht : P.underlying t = some (.slice e)) (hi : P.info? e = some i) (hz : i.zero = some z)
    (hsize : i.size = 1) (hby : i.bytes = bytes) (hzs : z.cells.size = 1)
    (k : IntKind) (v : Value) (xs : List Nat) (hs : a.eval s = v) (hown : Own k w 0 e v xs)
    (u : Value) (ys : List Nat) (hx : a.eval x = u) (hu : Sl k w u ys)
    (h63 : xs.length + ys.length ≤ maxLen) (hbytes : (xs.length + ys.length) * bytes ≤ 140737488355328)
    (h : ∀ v' w', Own k w' 0 e v' (xs ++ ys) → w.grownBy w' v.ownBlock → (∀ b ∈ ownFoot v', b ∈ ownFoot v ∨ w.heap.size ≤ b) → K (a.put o.dst v') w') : o.wp P a w K Q := by
  obtain ⟨v', w', hrun, h2, h3, h4⟩ := run_append_sl (P := P) w t o.type e i z bytes ht hi hz hsize hby hzs k v xs hown u ys hu h63 hbytes
  unfold Oper.wp execOp
  simp only [ho, resolve, invoke, builtin, Sem.run_bind, Sem.run_pure, Result.andThen_ok, List.map_toArray, List.map_cons, List.map_nil, hs, hx, hrun]
  exact h v' w' h2 h3 h4

theorem wpList_append_at {P : Program} (w : World) {ops : Array Oper} {rest : List Oper} {o : Oper} {a : Act} {Q : Exit → Act → World → Prop} (hgd : o.guard = none) (s x : Operand) (t : TypeId)
    (ho : o.op = .call { callee := .builtin .append, args := #[s, x], argTypes := #[t, t] })
    (e : TypeId) (i : TypeInfo) (z : Value) (bytes : Nat) (ht : P.underlying t = some (.slice e)) (hi : P.info? e = some i) (hz : i.zero = some z)
    (hsize : i.size = 1) (hby : i.bytes = bytes) (hzs : z.cells.size = 1)
    (k : IntKind) (v : Value) (xs : List Nat) (hs : a.eval s = v) (hown : Own k w 0 e v xs)
    (u : Value) (ys : List Nat) (hx : a.eval x = u) (hu : Sl k w u ys)
    (h63 : xs.length + ys.length ≤ maxLen) (hbytes : (xs.length + ys.length) * bytes ≤ 140737488355328)
    (h : ∀ v' w', Own k w' 0 e v' (xs ++ ys) → w.grownBy w' v.ownBlock → (∀ b ∈ ownFoot v', b ∈ ownFoot v ∨ w.heap.size ≤ b) → wpList P ops Q rest (a.put o.dst v') w') : wpList P ops Q (o :: rest) a w :=
  wpList_plain hgd fun _ hK => wp_append_at w s x t ho e i z bytes ht hi hz hsize hby hzs k v xs hs hown u ys hx hu h63 hbytes fun v' w' h1 h2 h3 => hK _ _ (h v' w' h1 h2 h3)

theorem strCells_str (xs : List Nat) (hb : ∀ b ∈ xs, b < 256) : Lib.strCells (str xs) = xs.map fun (b : Nat) => Value.int .u8 b := by
  unfold Lib.strCells
  rw [str_list, List.map_map]
  apply List.map_congr_left
  intro b h
  have := hb b h
  simp [Nat.mod_eq_of_lt this]

/-- append of a string onto a row of the call's own. -/
theorem run_append_st {P : Program} (w : World) (t u ty e : TypeId) (i : TypeInfo) (ht : P.underlying t = some (.slice e)) (hu : P.underlying u = some .string) (hi : P.info? e = some i) (hz : i.zero = some (.int .u8 0))
    (hsize : i.size = 1) (hby : i.bytes = 1) (v : Value) (xs : List Nat) (hown : Own .u8 w 0 e v xs) (ys : List Nat) (hys : ∀ b ∈ ys, b < 256)
    (h63 : xs.length + ys.length ≤ maxLen) (hbytes : xs.length + ys.length ≤ 140737488355328) :
    ∃ v' w', (Builtin.append_ #[t, u] ty #[v, .string (str ys)]).run P w = .ok v' w' ∧ Own .u8 w' 0 e v' (xs ++ ys) ∧ w.grownBy w' v.ownBlock ∧ (∀ b ∈ ownFoot v', b ∈ ownFoot v ∨ w.heap.size ≤ b) := by
  obtain ⟨v', w', hr, h2, h3, h4⟩ := Lib.run_append_own_string (P := P) w 0 t u ty e i ht hu hi hz hsize hby v xs.length _ hown (str ys) (by rw [str_size]; exact h63) (by rw [str_size]; exact hbytes) (Nat.zero_le _)
  refine ⟨v', w', hr, ?_, h3, ?_⟩
  · unfold Own
    rw [List.length_append, List.map_append]
    rw [str_size, strCells_str ys hys] at h2
    exact h2
  · intro b hb
    rw [mem_ownFoot] at hb
    rcases hown.2 with ⟨rfl, hn⟩ | ⟨g, cap, cur, rfl, hbg, hg, hnc, hcm, hcs, htake⟩
    · by_cases hm : (str ys).size = 0
      · rw [h4.2 ⟨rfl, hm⟩] at hb
        simp [Value.ownBlock] at hb
      · have hr' := run_append_nil_string (P := P) w t u ty e i (.int .u8 0) ht hu hi hz (str ys) (by omega) (by rw [str_size]; unfold maxLen at h63; omega) (by rw [hby, str_size]; omega)
        rw [hr] at hr'
        injection hr' with e1 _
        subst e1
        simp [Value.ownBlock] at hb
        exact .inr (by omega)
    · by_cases hroom : xs.length + (str ys).size ≤ cap
      · have hr' := Lib.run_append_room_string (P := P) w t u ty e i ht hu hi hsize g xs.length cap cur hg (str ys) hroom (by omega)
        rw [hr] at hr'
        injection hr' with e1 _
        subst e1
        exact .inl (mem_ownFoot.2 hb)
      · have hr' := Lib.run_append_grow_string (P := P) w t u ty e i (.int .u8 0) ht hu hi hz ⟨g, 0, none⟩ xs.length cap _ (by rw [hsize]; exact hown.1) (World.ownsRow.cells hown (g := g) rfl) (str ys) (by omega) (by rw [str_size]; unfold maxLen at h63; omega) (by rw [hby]; exact growslice_fits (by omega) (by rw [str_size]; omega))
        rw [hr] at hr'
        injection hr' with e1 _
        subst e1
        simp [Value.ownBlock] at hb
        exact .inr (by omega)

theorem wpList_append_st {P : Program} (w : World) {ops : Array Oper} {rest : List Oper} {o : Oper} {a : Act} {Q : Exit → Act → World → Prop} (hgd : o.guard = none) (s x : Operand) (t u : TypeId)
    (ho : o.op = .call { callee := .builtin .append, args := #[s, x], argTypes := #[t, u] })
    (e : TypeId) (i : TypeInfo) (ht : P.underlying t = some (.slice e)) (hu : P.underlying u = some .string) (hi : P.info? e = some i) (hz : i.zero = some (.int .u8 0))
    (hsize : i.size = 1) (hby : i.bytes = 1)
    (v : Value) (xs : List Nat) (hs : a.eval s = v) (hown : Own .u8 w 0 e v xs) (ys : List Nat) (hx : a.eval x = .string (str ys)) (hys : ∀ b ∈ ys, b < 256)
    (h63 : xs.length + ys.length ≤ maxLen) (hbytes : xs.length + ys.length ≤ 140737488355328)
    (h : ∀ v' w', Own .u8 w' 0 e v' (xs ++ ys) → w.grownBy w' v.ownBlock → (∀ b ∈ ownFoot v', b ∈ ownFoot v ∨ w.heap.size ≤ b) → wpList P ops Q rest (a.put o.dst v') w') : wpList P ops Q (o :: rest) a w := by
  refine wpList_plain hgd fun K hK => ?_
  obtain ⟨v', w', hrun, h2, h3, h4⟩ := run_append_st (P := P) w t u o.type e i ht hu hi hz hsize hby v xs hown ys hys h63 hbytes
  unfold Oper.wp execOp
  simp only [ho, resolve, invoke, builtin, Sem.run_bind, Sem.run_pure, Result.andThen_ok, List.map_toArray, List.map_cons, List.map_nil, hs, hx, hrun]
  exact hK _ _ (h v' w' h2 h3 h4)
end Go.Proofs.YtlnagdodnkhbmaaGreat

/- Slices that read as rows of cells, whatever an element's size; append onto a row of the call's own; two such rows side by side. No program is named here. -/
namespace Go.Proofs.YtlnagdodnkhbmaaGreat
open Go.RowKit

/-- The slice value's elements, of sz cells each, hold these cells. -/
def Row (sz : Nat) (w : World) (v : Value) (len : Nat) (cs : List Value) : Prop :=
  cs.length = len * sz ∧ ∃ A c, v = .slice A len c ∧ len ≤ c ∧ c ≤ maxLen ∧ (A = none → c = 0) ∧ ∀ (j : Nat) (u : Value), cs[j]? = some u → ∃ ad, A = some ad ∧ w.cell? (ad.add j) = some u

section
variable {sz len : Nat} {w w' : World} {v : Value} {cs : List Value}
theorem Row.below (h : Row sz w v len cs) (hb : Below w.heap.size w w') : Row sz w' v len cs := by
  obtain ⟨hl, A, c, hv, h1, h2, h3, hx⟩ := h
  exact ⟨hl, A, c, hv, h1, h2, h3, fun j u hj => by
    obtain ⟨ad, ha, hc⟩ := hx j u hj
    exact ⟨ad, ha, below_keep hb _ _ hc⟩⟩
theorem Row.slice (h : Row sz w v len cs) : ∃ A c, v = .slice A len c := by
  obtain ⟨_, A, c, hv, _⟩ := h
  exact ⟨A, c, hv⟩
theorem Row.nil (sz : Nat) (w : World) : Row sz w (.slice none 0 0) 0 [] := ⟨by simp, none, 0, rfl, by simp, by simp, fun _ => rfl, by simp⟩
theorem Row.cell {A : Option Addr} {n c j : Nat} {u : Value} (h : Row sz w (.slice A n c) len cs) (hj : cs[j]? = some u) : ∃ ad, A = some ad ∧ w.cell? (ad.add j) = some u := by
  obtain ⟨_, A', c', hv, _, _, _, hx⟩ := h
  injection hv with h1 _ _
  subst h1
  exact hx j u hj
theorem Row.cap {A : Option Addr} {n c : Nat} (h : Row sz w (.slice A n c) len cs) : n = len ∧ len ≤ c ∧ c ≤ maxLen := by
  obtain ⟨_, A', c', hv, h1, h2, _⟩ := h
  injection hv with _ e1 e2
  subst e1; subst e2
  exact ⟨rfl, h1, h2⟩
/-- What is cut off, from a to b. -/
theorem Row.cut {A : Option Addr} {n c : Nat} (h : Row sz w (.slice A n c) len cs) {a b : Nat} (ha : a ≤ b) (hb : b ≤ len) : Row sz w (sliced A a b c sz) (b - a) ((cs.drop (a * sz)).take ((b - a) * sz)) := by
  obtain ⟨hl, A', c', hv, h1, h2, h3, hx⟩ := h
  injection hv with e1 e2 e3
  subst e1; subst e2; subst e3
  have hab : (b - a) * sz ≤ cs.length - a * sz := by
    rw [hl, ← Nat.sub_mul]
    exact Nat.mul_le_mul_right _ (by omega)
  have hlen : ((cs.drop (a * sz)).take ((b - a) * sz)).length = (b - a) * sz := by rw [List.length_take, List.length_drop]; omega
  unfold sliced
  refine ⟨hlen, _, c - a, rfl, by omega, by omega, fun hA => ?_, fun j u hj => ?_⟩
  · split at hA
    · omega
    · cases A with
      | none => have := h3 rfl; omega
      | some ad => cases hA
  · rw [List.getElem?_take] at hj
    split at hj
    · rename_i hjl
      rw [List.getElem?_drop] at hj
      obtain ⟨ad, hA, hcell⟩ := hx _ _ hj
      by_cases hca : c = a
      · exfalso
        have : b - a = 0 := by omega
        rw [this] at hjl
        omega
      · rw [if_neg hca, hA]
        exact ⟨_, rfl, by rw [add_add']; exact hcell⟩
    · cases hj
theorem own_row {base : Nat} {e : TypeId} (h : w.ownsRow base e sz v len cs) : Row sz w v len cs := by
  refine ⟨h.1, ?_⟩
  rcases h.2 with ⟨rfl, rfl⟩ | ⟨g, cap, cur, rfl, hb, hh, hnc, hcm, hcs, htake⟩
  · have : cs = [] := List.eq_nil_of_length_eq_zero (by have := h.1; simpa using this)
    subst this
    exact ⟨none, 0, rfl, by simp, by simp, fun _ => rfl, by simp⟩
  · exact ⟨_, cap, rfl, hnc, hcm, (fun h => by cases h), fun j u hj => ⟨_, rfl, h.cells (g := g) rfl j u hj⟩⟩
/-- A new block whose cells are these. -/
theorem row_new (w : World) (sz n : Nat) (cs : List Value) (e : TypeId) (hn : n ≤ maxLen) (hl : cs.length = n * sz) : Row sz (w.alloc (.cells cs.toArray e)) (.slice (some ⟨w.heap.size, 0, none⟩) n n) n cs :=
  ⟨hl, _, n, rfl, Nat.le_refl _, hn, (fun h => by cases h), fun j u hj => ⟨_, rfl, by rw [add_at, cell_of_row _ _ _ _ _ _ (heap_alloc_new w _), List.getElem?_toArray]; exact hj⟩⟩
end

section
variable {P : Program}
theorem run_append_row_ (w : World) (base : Nat) (t ty e : TypeId) (i : TypeInfo) (z : Value) (size bytes : Nat) (ht : P.underlying t = some (.slice e)) (hi : P.info? e = some i) (hz : i.zero = some z)
    (hsize : i.size = size) (hby : i.bytes = bytes) (hzs : z.cells.size = size) (hsz : 0 < size)
    (v : Value) (n : Nat) (xs : List Value) (hown : w.ownsRow base e size v n xs)
    (u : Value) (m : Nat) (ys : List Value) (hu : Row size w u m ys) (h1 : ∀ y ∈ ys, y.oneCell' = true)
    (h63 : n + m ≤ maxLen) (hbytes : (n + m) * bytes ≤ 140737488355328) (hbase : base ≤ w.heap.size) :
    ∃ v' w', (Builtin.append_ #[t, t] ty #[v, u]).run P w = .ok v' w' ∧ w'.ownsRow base e size v' (n + m) (xs ++ ys) ∧ w.grownBy w' v.ownBlock := by
  obtain ⟨hl, A, c, rfl, hc, hm, hn, hcell⟩ := hu
  cases A with
  | none =>
    have hc0 := hn rfl
    subst hc0
    have hm0 : m = 0 := by omega
    subst hm0
    have hy : ys = [] := List.eq_nil_of_length_eq_zero (by simpa using hl)
    subst hy
    have hrun := run_append_owned_none (P := P) (w := w) base t ty e i size ht hi v n xs hown
    exact ⟨v, w, hrun, by simpa using hown, World.grownBy.refl w _⟩
  | some ad =>
    obtain ⟨v', w', hr, h2, h3, _⟩ := run_append_own (P := P) w base t ty e i z size bytes ht hi hz hsize hby hzs hsz v n xs hown ad m c ys hl
      (fun j u hj => by
        obtain ⟨ad', ha, hc⟩ := hcell j u hj
        injection ha with ha
        subst ha
        exact hc) h1 h63 hbytes hbase
    exact ⟨v', w', hr, h2, h3⟩
theorem wpList_append_row_ (w : World) {ops : Array Oper} {rest : List Oper} {o : Oper} {a : Act} {Q : Exit → Act → World → Prop} (hgd : o.guard = none) (s x : Operand) (t : TypeId)
    (ho : o.op = .call { callee := .builtin .append, args := #[s, x], argTypes := #[t, t] })
    (base : Nat) (e : TypeId) (i : TypeInfo) (z : Value) (size bytes : Nat) (ht : P.underlying t = some (.slice e)) (hi : P.info? e = some i) (hz : i.zero = some z)
    (hsize : i.size = size) (hby : i.bytes = bytes) (hzs : z.cells.size = size) (hsz : 0 < size)
    (v : Value) (n : Nat) (xs : List Value) (hs : a.eval s = v) (hown : w.ownsRow base e size v n xs)
    (u : Value) (m : Nat) (ys : List Value) (hx : a.eval x = u) (hu : Row size w u m ys) (h1 : ∀ y ∈ ys, y.oneCell' = true)
    (h63 : n + m ≤ maxLen) (hbytes : (n + m) * bytes ≤ 140737488355328) (hbase : base ≤ w.heap.size)
    (h : ∀ v' w', w'.ownsRow base e size v' (n + m) (xs ++ ys) → w.grownBy w' v.ownBlock → wpList P ops Q rest (a.put o.dst v') w') : wpList P ops Q (o :: rest) a w := by
  refine wpList_plain hgd fun K hK => ?_
  obtain ⟨v', w', hrun, h2, h3⟩ := run_append_row_ (P := P) w base t o.type e i z size bytes ht hi hz hsize hby hzs hsz v n xs hown u m ys hu h1 h63 hbytes hbase
  unfold Oper.wp execOp
  simp only [ho, resolve, invoke, builtin, Sem.run_bind, Sem.run_pure, Result.andThen_ok, List.map_toArray, List.map_cons, List.map_nil, hs, hx, hrun]
  exact hK _ _ (h v' w' h2 h3)
end

/-- Two rows of unlike types share no block. -/
theorem rows_apart {w : World} {b1 b2 s1 s2 n1 n2 : Nat} {e1 e2 : TypeId} {v1 v2 : Value} {c1 c2 : List Value} (h1 : w.ownsRow b1 e1 s1 v1 n1 c1) (h2 : w.ownsRow b2 e2 s2 v2 n2 c2) (hne : e1 ≠ e2) :
    v1.ownBlock = none ∨ v1.ownBlock ≠ v2.ownBlock := by
  rcases h1.2 with ⟨rfl, _⟩ | ⟨g, cap, cur, rfl, _, hh, _⟩
  · exact .inl rfl
  · right
    rcases h2.2 with ⟨rfl, _⟩ | ⟨g', cap', cur', rfl, _, hh', _⟩
    · simp [Value.ownBlock]
    · simp only [Value.ownBlock, ne_eq, Option.some.injEq]
      rintro rfl
      rw [hh] at hh'
      injection hh' with hh'
      injection hh' with _ ht
      exact hne ht

/-- An entry; its cells; texts' cells. -/
abbrev En := Int × List Nat
def key (e : En) : List Nat := wv e.1 ++ e.2
def cellsE (l : List En) : List Value := l.flatMap fun e => [.int .i64 e.1, .string (str e.2)]
def cellsS (l : List (List Nat)) : List Value := l.map fun x => .string (str x)
theorem cellsE_cons (e : En) (l : List En) : cellsE (e :: l) = .int .i64 e.1 :: .string (str e.2) :: cellsE l := rfl
theorem cellsE_len : ∀ l : List En, (cellsE l).length = l.length * 2
  | [] => rfl
  | e :: l => by rw [cellsE_cons, List.length_cons, List.length_cons, cellsE_len l, List.length_cons]; omega
theorem cellsE_app (l m : List En) : cellsE (l ++ m) = cellsE l ++ cellsE m := List.flatMap_append
theorem cellsE_drop : ∀ (n : Nat) (l : List En), (cellsE l).drop (n * 2) = cellsE (l.drop n)
  | 0, _ => by simp
  | n + 1, [] => by simp [cellsE]
  | n + 1, e :: l => by rw [cellsE_cons, show (n + 1) * 2 = n * 2 + 1 + 1 by omega, List.drop_succ_cons, List.drop_succ_cons, cellsE_drop n l, List.drop_succ_cons]
theorem cellsE_take : ∀ (n : Nat) (l : List En), (cellsE l).take (n * 2) = cellsE (l.take n)
  | 0, _ => by simp [cellsE]
  | n + 1, [] => by simp [cellsE]
  | n + 1, e :: l => by rw [cellsE_cons, show (n + 1) * 2 = n * 2 + 1 + 1 by omega, List.take_succ_cons, List.take_succ_cons, cellsE_take n l, List.take_succ_cons, cellsE_cons]
theorem cellsE_one (l : List En) : ∀ y ∈ cellsE l, y.oneCell' = true := by
  intro y hy
  unfold cellsE at hy
  rw [List.mem_flatMap] at hy
  obtain ⟨e, _, hy⟩ := hy
  simp at hy
  rcases hy with rfl | rfl <;> rfl
theorem cellsE_at {l : List En} {i : Nat} {e : En} (h : l[i]? = some e) : (cellsE l)[i * 2]? = some (.int .i64 e.1) ∧ (cellsE l)[i * 2 + 1]? = some (.string (str e.2)) := by
  have h1 : ((cellsE l).drop (i * 2))[0]? = some (.int .i64 e.1) ∧ ((cellsE l).drop (i * 2))[1]? = some (.string (str e.2)) := by
    rw [cellsE_drop]
    obtain ⟨hi, rfl⟩ := List.getElem?_eq_some_iff.1 h
    rw [List.drop_eq_getElem_cons hi, cellsE_cons]
    exact ⟨rfl, rfl⟩
  rw [List.getElem?_drop, List.getElem?_drop] at h1
  exact h1
theorem cellsS_len (l : List (List Nat)) : (cellsS l).length = l.length * 1 := by unfold cellsS; rw [List.length_map]; omega
theorem cellsS_one (l : List (List Nat)) : ∀ y ∈ cellsS l, y.oneCell' = true := by
  intro y hy
  unfold cellsS at hy
  rw [List.mem_map] at hy
  obtain ⟨e, _, rfl⟩ := hy
  rfl
theorem cellsS_at {l : List (List Nat)} {i : Nat} {x : List Nat} (h : l[i]? = some x) : (cellsS l)[i]? = some (.string (str x)) := by
  unfold cellsS; rw [List.getElem?_map, h]; rfl

/-- Two rows that the call made since W: entries, and texts. -/
structure Two (ee es : TypeId) (W w : World) (a b : Value) (S : List En) (B : List (List Nat)) : Prop where
  a : w.ownsRow W.heap.size ee 2 a S.length (cellsE S)
  b : w.ownsRow W.heap.size es 1 b B.length (cellsS B)
  c : Below W.heap.size W w
section
variable {ee es : TypeId} {W w w' : World} {a b a' b' : Value} {S S' : List En} {B B' : List (List Nat)}
theorem Two.start (ee es : TypeId) (W : World) : Two ee es W W (.slice none 0 0) (.slice none 0 0) [] [] :=
  ⟨World.ownsRow_nil _ _ _ _, World.ownsRow_nil _ _ _ _, Below.refl _ _⟩
theorem Two.alloc (h : Two ee es W w a b S B) (o : Obj) : Two ee es W (w.alloc o) a b S B := ⟨h.a.alloc o, h.b.alloc o, h.c.alloc h.c.size o⟩
theorem Two.stepA (h : Two ee es W w a b S B) (hne : ee ≠ es) (ho : w'.ownsRow W.heap.size ee 2 a' (S.length + S'.length) (cellsE S ++ cellsE S')) (hg : w.grownBy w' a.ownBlock) : Two ee es W w' a' b (S ++ S') B :=
  ⟨by rw [List.length_append, cellsE_app]; exact ho, h.b.kept hg (rows_apart h.b h.a (fun e => hne e.symm)), h.c.grown hg h.c.size fun g hg' => (h.a.lt g hg').1⟩
theorem Two.stepB (h : Two ee es W w a b S B) (hne : ee ≠ es) (ho : w'.ownsRow W.heap.size es 1 b' (B.length + B'.length) (cellsS B ++ cellsS B')) (hg : w.grownBy w' b.ownBlock) : Two ee es W w' a b' S (B ++ B') :=
  ⟨h.a.kept hg (rows_apart h.a h.b hne), by rw [List.length_append, show cellsS (B ++ B') = cellsS B ++ cellsS B' by unfold cellsS; rw [List.map_append]]; exact ho, h.c.grown hg h.c.size fun g hg' => (h.b.lt g hg').1⟩
end
end Go.Proofs.YtlnagdodnkhbmaaGreat

/- Slices whose elements are things, each of so many cells. No program is named here. -/
namespace Go.Proofs.YtlnagdodnkhbmaaGreat
open Go.RowKit

section
variable {α : Type} {c : α → List Value} {sz : Nat}
def cellsBy (c : α → List Value) (l : List α) : List Value := l.flatMap c
theorem cellsBy_cons (a : α) (l : List α) : cellsBy c (a :: l) = c a ++ cellsBy c l := rfl
theorem cellsBy_app (l m : List α) : cellsBy c (l ++ m) = cellsBy c l ++ cellsBy c m := List.flatMap_append
theorem cellsBy_len (hc : ∀ a, (c a).length = sz) : ∀ l : List α, (cellsBy c l).length = l.length * sz
  | [] => by simp [cellsBy]
  | a :: l => by rw [cellsBy_cons, List.length_append, hc, cellsBy_len hc l, List.length_cons, Nat.add_mul]; omega
theorem cellsBy_drop (hc : ∀ a, (c a).length = sz) : ∀ (n : Nat) (l : List α), (cellsBy c l).drop (n * sz) = cellsBy c (l.drop n)
  | 0, _ => by simp
  | n + 1, [] => by simp [cellsBy]
  | n + 1, a :: l => by
    rw [cellsBy_cons, show (n + 1) * sz = (c a).length + n * sz by rw [hc, Nat.add_mul]; omega, ← List.drop_drop, List.drop_left, cellsBy_drop hc n l, List.drop_succ_cons]
theorem cellsBy_take (hc : ∀ a, (c a).length = sz) : ∀ (n : Nat) (l : List α), (cellsBy c l).take (n * sz) = cellsBy c (l.take n)
  | 0, _ => by simp [cellsBy]
  | n + 1, [] => by simp [cellsBy]
  | n + 1, a :: l => by
    rw [cellsBy_cons, show (n + 1) * sz = (c a).length + n * sz by rw [hc, Nat.add_mul]; omega, List.take_append, List.take_of_length_le (by omega), Nat.add_sub_cancel_left, cellsBy_take hc n l, List.take_succ_cons, cellsBy_cons]
theorem cellsBy_at (hc : ∀ a, (c a).length = sz) {l : List α} {i j : Nat} {a : α} (h : l[i]? = some a) (hj : j < sz) : (cellsBy c l)[i * sz + j]? = (c a)[j]? := by
  obtain ⟨hi, rfl⟩ := List.getElem?_eq_some_iff.1 h
  rw [← List.getElem?_drop, cellsBy_drop hc, List.drop_eq_getElem_cons hi, cellsBy_cons, List.getElem?_append_left (by rw [hc]; exact hj)]
theorem cellsBy_one (h : ∀ a, ∀ y ∈ c a, y.oneCell' = true) (l : List α) : ∀ y ∈ cellsBy c l, y.oneCell' = true := by
  intro y hy
  unfold cellsBy at hy
  rw [List.mem_flatMap] at hy
  obtain ⟨a, _, hy⟩ := hy
  exact h a y hy
end

section
variable {sz len : Nat} {w w' : World} {v : Value} {cs : List Value}
theorem Row.keep (h : Row sz w v len cs) (hk : ∀ b ∈ ownFoot v, w'.heap[b]? = w.heap[b]?) : Row sz w' v len cs := by
  obtain ⟨hl, A, c, rfl, h1, h2, h3, hx⟩ := h
  refine ⟨hl, A, c, rfl, h1, h2, h3, fun j u hj => ?_⟩
  obtain ⟨ad, rfl, hc⟩ := hx j u hj
  refine ⟨ad, rfl, (World.cell?_of_block (hk _ ?_)).trans hc⟩
  rw [mem_ownFoot, add_blk]; rfl
theorem own_row_lt {base n : Nat} {e : TypeId} (h : w.ownsRow base e sz v n cs) : ∀ b ∈ ownFoot v, base ≤ b ∧ b < w.heap.size := fun b hb => h.lt b (mem_ownFoot.1 hb)
theorem own_row_ne {base n g : Nat} {e t : TypeId} {cur : Array Value} {fz : Nat × Nat} (h : w.ownsRow base e sz v n cs) (hg : w.heap[g]? = some (.cells cur t fz)) (hne : e ≠ t) : g ∉ ownFoot v := by
  intro hm
  rcases h.2 with ⟨rfl, _⟩ | ⟨g', cap, cur', rfl, _, hh, _⟩
  · simp [ownFoot, Value.ownBlock] at hm
  · simp [ownFoot, Value.ownBlock] at hm
    subst hm
    rw [hg] at hh
    injection hh with hh
    injection hh with _ ht
    exact hne ht.symm
end

/-- The slice value's elements are these things. -/
def Elems {α : Type} (sz : Nat) (c : α → List Value) (w : World) (v : Value) (l : List α) : Prop := Row sz w v l.length (cellsBy c l)
section
variable {α : Type} {c : α → List Value} {sz : Nat} {w w' : World} {v : Value} {l : List α}
theorem Elems.below (h : Elems sz c w v l) (hb : Below w.heap.size w w') : Elems sz c w' v l := Row.below h hb
theorem Elems.keep (h : Elems sz c w v l) (hk : ∀ b ∈ ownFoot v, w'.heap[b]? = w.heap[b]?) : Elems sz c w' v l := Row.keep h hk
theorem Elems.slice (h : Elems sz c w v l) : ∃ A cap, v = .slice A l.length cap := Row.slice h
theorem Elems.form (h : Elems sz c w v l) : ∃ A n cap, v = .slice A n cap := by obtain ⟨A, cap, h⟩ := h.slice; exact ⟨A, _, cap, h⟩
theorem Elems.cap {A : Option Addr} {n cap : Nat} (h : Elems sz c w (.slice A n cap) l) : n = l.length ∧ l.length ≤ cap ∧ cap ≤ maxLen := Row.cap h
theorem Elems.cell (hc : ∀ a, (c a).length = sz) {A : Option Addr} {n cap i j : Nat} {a : α} {u : Value} (h : Elems sz c w (.slice A n cap) l) (hi : l[i]? = some a) (hj : (c a)[j]? = some u) : ∃ ad, A = some ad ∧ w.cell? (ad.add (i * sz + j)) = some u := by
  have hjl : j < sz := by have := (List.getElem?_eq_some_iff.1 hj).1; rw [hc] at this; exact this
  exact Row.cell h (by rw [cellsBy_at hc hi hjl]; exact hj)
theorem Elems.to_ (hc : ∀ a, (c a).length = sz) {A : Option Addr} {n cap m : Nat} (h : Elems sz c w (.slice A n cap) l) (hm : m ≤ l.length) : Elems sz c w (sliced A 0 m cap sz) (l.take m) := by
  have h1 := Row.cut h (a := 0) (b := m) (Nat.zero_le _) hm
  rw [Nat.zero_mul, List.drop_zero, Nat.sub_zero, cellsBy_take hc] at h1
  unfold Elems
  rw [List.length_take, Nat.min_eq_left hm]
  exact h1
theorem Elems.from_ (hc : ∀ a, (c a).length = sz) {A : Option Addr} {n cap m : Nat} (h : Elems sz c w (.slice A n cap) l) (hm : m ≤ l.length) : Elems sz c w (sliced A m l.length cap sz) (l.drop m) := by
  have h1 := Row.cut h (a := m) (b := l.length) hm (Nat.le_refl _)
  rw [cellsBy_drop hc, List.take_of_length_le (by rw [cellsBy_len hc, List.length_drop]; exact Nat.le_refl _)] at h1
  unfold Elems
  rw [List.length_drop]
  exact h1
theorem Elems.nil (sz : Nat) (c : α → List Value) (w : World) : Elems sz c w (.slice none 0 0) [] := Row.nil sz w
end

/-- A row of the call's own, of things. -/
def OwnElems {α : Type} (sz : Nat) (c : α → List Value) (e : TypeId) (w : World) (base : Nat) (v : Value) (l : List α) : Prop := w.ownsRow base e sz v l.length (cellsBy c l)
section
variable {α : Type} {c : α → List Value} {sz : Nat} {e : TypeId} {w w' : World} {base : Nat} {v : Value} {l : List α}
theorem OwnElems.rows (h : OwnElems sz c e w base v l) : Elems sz c w v l := own_row h
theorem OwnElems.nil (sz : Nat) (c : α → List Value) (e : TypeId) (w : World) (base : Nat) : OwnElems sz c e w base (.slice none 0 0) ([] : List α) := World.ownsRow_nil w base e sz
theorem OwnElems.alloc (h : OwnElems sz c e w base v l) (o : Obj) : OwnElems sz c e (w.alloc o) base v l := World.ownsRow.alloc h o
theorem OwnElems.lt (h : OwnElems sz c e w base v l) : ∀ b ∈ ownFoot v, base ≤ b ∧ b < w.heap.size := own_row_lt h
theorem OwnElems.keep (h : OwnElems sz c e w base v l) (hk : ∀ b ∈ ownFoot v, w'.heap[b]? = w.heap[b]?) : OwnElems sz c e w' base v l := by
  refine ⟨h.1, ?_⟩
  rcases h.2 with hn | ⟨g, cap, cur, rfl, hb, hh, r⟩
  · exact .inl hn
  · exact .inr ⟨g, cap, cur, rfl, hb, (hk g (by simp [mem_ownFoot, Value.ownBlock])).trans hh, r⟩
theorem OwnElems.app {l' : List α} {v' : Value} (h : w'.ownsRow base e sz v' (l.length + l'.length) (cellsBy c l ++ cellsBy c l')) : OwnElems sz c e w' base v' (l ++ l') := by
  unfold OwnElems
  rw [List.length_append, cellsBy_app]
  exact h
end
section
variable {P : Program} {α : Type} {c : α → List Value}
/-- append of a slice onto a row of the call's own: it may be nil; where the new row lies. -/
theorem run_append_rows (w : World) (base : Nat) (t ty e : TypeId) (i : TypeInfo) (z : Value) (size bytes : Nat) (ht : P.underlying t = some (.slice e)) (hi : P.info? e = some i) (hz : i.zero = some z)
    (hsize : i.size = size) (hby : i.bytes = bytes) (hzs : z.cells.size = size) (hsz : 0 < size) (hone : ∀ a, ∀ y ∈ c a, y.oneCell' = true)
    (v : Value) (l : List α) (hown : OwnElems size c e w base v l) (u : Value) (l' : List α) (hu : Elems size c w u l')
    (h63 : l.length + l'.length ≤ maxLen) (hbytes : (l.length + l'.length) * bytes ≤ 140737488355328) (hbase : base ≤ w.heap.size) :
    ∃ v' w', (Builtin.append_ #[t, t] ty #[v, u]).run P w = .ok v' w' ∧ OwnElems size c e w' base v' (l ++ l') ∧ w.grownBy w' v.ownBlock ∧ (∀ b ∈ ownFoot v', b ∈ ownFoot v ∨ w.heap.size ≤ b) := by
  obtain ⟨hl, A, cp, rfl, hc, hm, hn, hcell⟩ := hu
  cases A with
  | none =>
    have hc0 := hn rfl
    subst hc0
    have hy : l' = [] := List.eq_nil_of_length_eq_zero (by omega)
    subst hy
    have hrun := run_append_owned_none (P := P) (w := w) base t ty e i size ht hi v l.length _ hown
    exact ⟨v, w, hrun, by rw [List.append_nil]; exact hown, World.grownBy.refl w _, fun b hb => .inl hb⟩
  | some ad =>
    obtain ⟨v', w', hr, h2, h3, _, h5⟩ := run_append_own_at (P := P) w base t ty e i z size bytes ht hi hz hsize hby hzs hsz v l.length _ hown ad l'.length cp (cellsBy c l') hl
      (fun j u hj => by
        obtain ⟨ad', ha, hc⟩ := hcell j u hj
        injection ha with ha
        subst ha
        exact hc) (cellsBy_one hone l') h63 hbytes hbase
    refine ⟨v', w', hr, OwnElems.app h2, h3, fun b hb => ?_⟩
    rw [mem_ownFoot] at hb
    rw [mem_ownFoot]
    rcases h5 with h5 | h5
    · exact .inl (h5.symm.trans hb)
    · rw [h5] at hb; injection hb with hb; exact .inr (by omega)
theorem wpList_append_rows (w : World) {ops : Array Oper} {rest : List Oper} {o : Oper} {a : Act} {Q : Exit → Act → World → Prop} (hgd : o.guard = none) (s x : Operand) (t : TypeId)
    (ho : o.op = .call { callee := .builtin .append, args := #[s, x], argTypes := #[t, t] })
    (base : Nat) (e : TypeId) (i : TypeInfo) (z : Value) (size bytes : Nat) (ht : P.underlying t = some (.slice e)) (hi : P.info? e = some i) (hz : i.zero = some z)
    (hsize : i.size = size) (hby : i.bytes = bytes) (hzs : z.cells.size = size) (hsz : 0 < size) (hone : ∀ a, ∀ y ∈ c a, y.oneCell' = true)
    (v : Value) (l : List α) (hs : a.eval s = v) (hown : OwnElems size c e w base v l) (u : Value) (l' : List α) (hx : a.eval x = u) (hu : Elems size c w u l')
    (h63 : l.length + l'.length ≤ maxLen) (hbytes : (l.length + l'.length) * bytes ≤ 140737488355328) (hbase : base ≤ w.heap.size)
    (h : ∀ v' w', OwnElems size c e w' base v' (l ++ l') → w.grownBy w' v.ownBlock → (∀ b ∈ ownFoot v', b ∈ ownFoot v ∨ w.heap.size ≤ b) → wpList P ops Q rest (a.put o.dst v') w') : wpList P ops Q (o :: rest) a w := by
  refine wpList_plain hgd fun K hK => ?_
  obtain ⟨v', w', hrun, h2, h3, h4⟩ := run_append_rows (P := P) w base t o.type e i z size bytes ht hi hz hsize hby hzs hsz hone v l hown u l' hu h63 hbytes hbase
  unfold Oper.wp execOp
  simp only [ho, resolve, invoke, builtin, Sem.run_bind, Sem.run_pure, Result.andThen_ok, List.map_toArray, List.map_cons, List.map_nil, hs, hx, hrun]
  exact hK _ _ (h v' w' h2 h3 h4)
/-- A new block that holds one thing. -/
theorem rows_new (w : World) (sz : Nat) (c : α → List Value) (hc : ∀ a, (c a).length = sz) (a : α) (e : TypeId) : Elems sz c (w.alloc (.cells (c a).toArray e)) (.slice (some ⟨w.heap.size, 0, none⟩) 1 1) [a] := by
  have h := row_new w sz 1 (cellsBy c [a]) e (by simp [maxLen]) (cellsBy_len hc [a])
  have e1 : cellsBy c [a] = c a := by simp [cellsBy]
  unfold Elems
  rw [e1] at h ⊢
  exact h
end
end Go.Proofs.YtlnagdodnkhbmaaGreat

/- An argument that is a slice of structs: opened as a list of things. No program is named here. -/
namespace Go.Proofs.YtlnagdodnkhbmaaGreat
open Go.RowKit Go.ChangeShapes Go.WideShapes Go.Deep

section
variable {α : Type} {c : α → List Value} {sz : Nat}
/-- A list out of what each element is. -/
theorem rows_of (hc : ∀ a, (c a).length = sz) (hsz : 0 < sz) {W : World} {a : Addr} {n cp m : Nat} {G : α → Prop} (hnm : n ≤ m) (hl : n ≤ cp) (hm : cp ≤ maxLen)
    (hk : ∀ i, i < m → ∃ x : α, (∀ (j : Nat) (u : Value), (c x)[j]? = some u → W.cell? (a.add (i * sz + j)) = some u) ∧ G x) : ∃ l : List α, Elems sz c W (.slice (some a) n cp) l ∧ ∀ x ∈ l, G x := by
  by_cases h0 : n = 0
  · subst h0
    exact ⟨[], ⟨by simp [cellsBy], some a, cp, rfl, hl, hm, (fun h => by cases h), by simp [cellsBy]⟩, by simp⟩
  obtain ⟨x0, _⟩ := hk 0 (by omega)
  have hch : ∃ f : Nat → α, ∀ i, i < m → (∀ (j : Nat) (u : Value), (c (f i))[j]? = some u → W.cell? (a.add (i * sz + j)) = some u) ∧ G (f i) := by
    refine ⟨fun i => if hi : i < m then (hk i hi).choose else x0, fun i hi => ?_⟩
    simp only [dif_pos hi]
    exact (hk i hi).choose_spec
  obtain ⟨f, hf⟩ := hch
  have hlen : ((List.range n).map f).length = n := by simp
  have hat : ∀ i, i < n → ((List.range n).map f)[i]? = some (f i) := fun i hi => by rw [List.getElem?_map, List.getElem?_range hi]; rfl
  have hrows : Elems sz c W (.slice (some a) ((List.range n).map f).length cp) ((List.range n).map f) := by
    refine ⟨cellsBy_len hc _, some a, cp, rfl, by rw [hlen]; exact hl, hm, (fun h => by cases h), fun j u hj => ⟨a, rfl, ?_⟩⟩
    have hjl := (List.getElem?_eq_some_iff.1 hj).1
    rw [cellsBy_len hc, hlen] at hjl
    have hi : j / sz < n := by rw [Nat.div_lt_iff_lt_mul hsz]; exact hjl
    have hmod : j % sz < sz := Nat.mod_lt _ hsz
    have hd : j / sz * sz + j % sz = j := by rw [Nat.mul_comm]; exact Nat.div_add_mod j sz
    have h1 := cellsBy_at hc (hat _ hi) hmod
    rw [hd, hj] at h1
    have h2 := (hf (j / sz) (by omega)).1 (j % sz) u h1.symm
    rwa [hd] at h2
  rw [hlen] at hrows
  refine ⟨_, hrows, fun x hx => ?_⟩
  rw [List.mem_map] at hx
  obtain ⟨i, hi, rfl⟩ := hx
  rw [List.mem_range] at hi
  exact (hf i (by omega)).2
end

section
variable {H : Type} {enc : TypeId × Value → H} {P : Program} {W : World} {α : Type} {c : α → List Value}
/-- A slice of structs of one-cell fields. -/
theorem open_rows {t e : TypeId} {v : Value} {d : DataW H} {p : List MemPlace} {r : Reach} {b0 : Nat} {fs : Array Field} {G : α → Prop} (hc : ∀ a, (c a).length = fs.size) (hsz : 0 < fs.size)
    (ht : P.underlying t = some (.slice e)) (he : P.underlying e = some (.struct fs)) (hone : oneCellFields P fs = true) (hC : P.cellsOf e = fs.size)
    (hel : ∀ (g : Nat → Value) (n : Nat), (∀ (j : Nat) (f : Field), fs[j]? = some f → ∃ y, DataW.trod enc P W 0 (fun _ => true) true n f.type [g j] = some y) → ∃ x : α, (∀ (j : Nat) (u : Value), (c x)[j]? = some u → u = g j) ∧ G x)
    (hval : Value.okWide P W r b0 t v) (h : DataW.Trod enc P W 0 (fun _ => true) true t v d p) : ∃ l : List α, Elems fs.size c W v l ∧ ∀ x ∈ l, G x := by
  obtain ⟨A, n, cp, rfl⟩ := okWide_slice ht hval
  obtain ⟨fuel, hf⟩ := h
  rcases open_slice ht hf with ⟨hcs, _⟩ | ⟨a, len, cap, m, k, D, Pl, hcs, _, hl, hm, hmm, _, hi⟩
  · simp [Value.cells] at hcs
    obtain ⟨rfl, rfl, rfl⟩ := hcs
    exact ⟨[], Elems.nil _ c W, by simp⟩
  · simp [Value.cells] at hcs
    obtain ⟨rfl, rfl, rfl⟩ := hcs
    simp only [if_pos] at hmm
    refine rows_of hc hsz (m := m) (by rw [hmm]; exact hl) hl hm fun i him => ?_
    obtain ⟨cs', hcell, htr⟩ := hi i him
    rw [hC] at hcell
    obtain ⟨ys, n', _, _, hlen, hyl, hg⟩ := DataW.trod_struct he htr
    rw [hC] at hlen
    obtain ⟨_, _, hat⟩ := World.cells?_some hcell
    obtain ⟨x, hx, hG⟩ := hel (fun j => cs'.getD j undef) n' (fun j f hj => by
      obtain ⟨ho, hk⟩ := hone_of hone j f hj
      have hjl : j < fs.size := (Array.getElem?_eq_some_iff.1 hj).1
      have h1 := hg j f hj
      rw [ho, hk] at h1
      have hone' : (cs'.drop j).take 1 = [cs'.getD j undef] := by
        rw [List.drop_eq_getElem_cons (by omega), List.getD_eq_getElem?_getD, List.getElem?_eq_getElem (by omega)]
        rfl
      rw [hone'] at h1
      exact ⟨_, h1.trans (List.getElem?_eq_getElem (by omega : j < ys.length))⟩)
    refine ⟨x, fun j u hj => ?_, hG⟩
    have hjl : j < fs.size := by have := (List.getElem?_eq_some_iff.1 hj).1; rw [hc] at this; exact this
    have h2 := hat j hjl
    rw [← add_add', h2, hx j u hj, List.getD_eq_getElem?_getD, List.getElem?_eq_getElem (by omega)]
    rfl
end
end Go.Proofs.YtlnagdodnkhbmaaGreat

/- A region that draws its order, reads alone and defers nothing, IN A ROUND of a range over a function: one walk of the text's order serves. No program is named here. -/
namespace Go.Proofs.YtlnagdodnkhbmaaGreat
open Go

section
variable {F : Fence} {n : Nat} {P : Program} {ops : Array Oper} {C : World → Prop}
theorem quiet_op {o : Oper} {a : Act} {K : Act → Prop} {K' : Act → World → Prop} {Q' : Exit → Act → World → Prop} {w : World} (hnd : ∀ c, o.op ≠ .defer c) (hw : C w) (h : ∀ a w', C w' → K a → K' a w')
    (ha : o.askedIn F P a C) (hh : o.quietIn F n P a C K) : o.wpIn F n P a w K' Q' := by
  obtain ⟨v, h1, h2⟩ := hh
  have h3 := h1 w hw
  refine ⟨ha w hw, ?_⟩
  rw [Oper.semAt_eq _ _ _ hnd]
  unfold Oper.quietAtIn at h3
  cases hr : (execOp a.eval o).run P w with
  | halt x w' => rw [hr] at h3; exact h3.elim
  | ok x w' =>
    rw [hr] at h3
    cases x with
    | value u => obtain ⟨rfl, rfl⟩ := h3; exact h _ _ hw h2
    | skip => obtain ⟨rfl, rfl⟩ := h3; exact h _ _ hw h2
    | enter f args =>
      obtain ⟨rfl, hd, hc⟩ := h3
      exact ⟨hd, hc.mono fun e w'' ⟨he, hw''⟩ => by subst he; exact h _ _ hw'' h2⟩
    | _ => exact h3.elim
theorem quiet_any {md : Region.Mode} {Q : Act → Prop} {Q' : Exit → Act → World → Prop} (hnd : ∀ (i : Nat) (o : Oper), ops[i]? = some o → ∀ c, o.op ≠ .defer c) (hQ : ∀ a w, C w → Q a → Q' .normal a w) :
    ∀ (fuel : Nat) (listed : Array Bool) (a : Act) (w : World), C w → wpAnyQIn F n P md ops C Q fuel listed a → wpAnyIn F n P md ops Q' fuel listed a w
  | 0, _, _, _, hw, h => ⟨h.1, hQ _ _ hw h.2⟩
  | fuel + 1, listed, a, w, hw, h => by
    refine ⟨fun h0 => hQ _ _ hw (h.1 h0), fun i hi => ?_⟩
    have hh := h.2 i hi
    unfold qOpIn at hh
    unfold wpOpIn
    cases ho : ops[i]? with
    | none => rw [ho] at hh; exact quiet_any hnd hQ fuel _ _ _ hw hh
    | some o =>
      rw [ho] at hh
      obtain ⟨ha, hh⟩ := hh
      by_cases hwn : Region.wanted o (yielded ops a.tmps) = true
      · simp only [hwn, if_true] at hh ⊢
        exact quiet_op (hnd i o ho) hw (fun a' w' hw' => quiet_any hnd hQ fuel _ a' w' hw') ha hh
      · simp only [hwn] at hh ⊢
        exact ⟨ha w hw, quiet_any hnd hQ fuel _ _ _ hw hh⟩
theorem region_round {id : Nat} {Q : Exit → Act → World → Prop} {a : Act} {w : World} {l : List Oper} (hnd : (l.all fun o => match o.op with | .defer _ => false | _ => true) = true) (hm : P.follows .mixedOrders = true) (hB : Region.lexB .any l.toArray = true)
    (h : wpQuietIn F n P l.toArray (fun w' => ∃ n, w' = w.drewN n) (fun a' => ∀ w', (∃ n, w' = w.drewN n) → Q .normal a' w') l a) : (Code.region id l.toArray true).wpIn F n P Q a w := by
  have hnd' : ∀ (i : Nat) (o : Oper), l.toArray[i]? = some o → ∀ c, o.op ≠ .defer c := fun i o ho c hc => by
    rw [List.getElem?_toArray] at ho
    have := List.all_eq_true.1 hnd o (List.mem_of_getElem? ho)
    rw [hc] at this
    cases this
  simp only [Region.lexB, Bool.and_eq_true] at hB
  refine wpIn_region_any hm (quiet_any (C := fun w' => ∃ n, w' = w.drewN n) (Q := fun a' => ∀ w', (∃ n, w' = w.drewN n) → Q .normal a' w') hnd' (fun _ w' hw' h => h w' hw') _ _ _ _ ⟨1, rfl⟩ ?_)
  have := wpAnyQIn_lex (F := F) (n := n) (C := fun w' => ∃ n, w' = w.drewN n) (md := .any) hB.1 l 0 (Array.replicate l.toArray.size false) a (by simp) (by simpa using hB.2) h
  simpa using this
end
end Go.Proofs.YtlnagdodnkhbmaaGreat

/- A range over a function whose iterator keeps blocks of its own, records of loops among them: what each side promises the other is told by the blocks that stay as they are. No program is named here. -/
namespace Go.Proofs.YtlnagdodnkhbmaaGreat
open Go.RowKit

abbrev Bl := Nat → Prop
/-- Blocks that lie as they lay. -/
def Stay (K : Bl) (W W' : World) : Prop := W.heap.size ≤ W'.heap.size ∧ ∀ b, K b → W'.heap[b]? = W.heap[b]?
section
variable {K K' : Bl} {A B C W W' : World}
theorem Stay.refl (K : Bl) (W : World) : Stay K W W := ⟨Nat.le_refl _, fun _ _ => rfl⟩
theorem Stay.trans (h : Stay K A B) (k : Stay K B C) : Stay K A C := ⟨Nat.le_trans h.1 k.1, fun b hb => (k.2 b hb).trans (h.2 b hb)⟩
theorem Stay.less (h : Stay K A B) (hk : ∀ b, K' b → K b) : Stay K' A B := ⟨h.1, fun b hb => h.2 b (hk b hb)⟩
theorem Stay.of_below {n : Nat} (h : Below n W W') (hK : ∀ b, K b → b < n) : Stay K W W' := ⟨h.size, fun b hb => h.block b (hK b hb)⟩
theorem Stay.grown {row : Option Nat} (h : W.grownBy W' row) (hl : ∀ b, K b → b < W.heap.size) (hr : ∀ r, row = some r → ¬ K r) : Stay K W W' :=
  ⟨h.size, fun b hb => h.block b (hl b hb) fun e => hr b e.symm hb⟩
theorem Stay.cell (h : Stay K A B) {a : Addr} (ha : K a.block) : B.cell? a = A.cell? a := World.cell?_of_block (h.2 _ ha)
end
theorem grown_refl (W : World) : W.grownBy W none := ⟨rfl, rfl, rfl, Nat.le_refl _, fun _ _ _ => rfl⟩

/-- A state abides an iterator's step: new blocks, and one block of K, not below B, that turned; fewer blocks may be asked to stay, and new ones. -/
def Abide {α : Type} (B : Nat) (J : List α → Bl → World → Prop) : Prop :=
  ∀ s K A A' row, J s K A → A.grownBy A' row → (∀ r, row = some r → B ≤ r ∧ K r) → ∀ K' : Bl, (∀ b, K' b → K b ∨ (A.heap.size ≤ b ∧ b < A'.heap.size)) → J s K' A'
theorem Abide.more {α : Type} {B B' : Nat} {J : List α → Bl → World → Prop} (h : Abide B J) (hB : B ≤ B') : Abide B' J :=
  fun s K A A' row hJ hg hr K' hK => h s K A A' row hJ hg (fun r e => ⟨Nat.le_trans hB (hr r e).1, (hr r e).2⟩) K' hK
theorem Abide.less {α : Type} {B : Nat} {J : List α → Bl → World → Prop} (h : Abide B J) {s : List α} {K : Bl} {W : World} (hJ : J s K W) {K' : Bl} (hK : ∀ b, K' b → K b) : J s K' W :=
  h s K W W none hJ (grown_refl W) (fun _ e => by cases e) K' fun b hb => .inl (hK b hb)
theorem Abide.alloc {α : Type} {B : Nat} {J : List α → Bl → World → Prop} (h : Abide B J) {s : List α} {K : Bl} {W : World} (hJ : J s K W) (o : Obj) : J s (fun b => K b ∨ b = W.heap.size) (W.alloc o) :=
  h s K W _ none hJ (World.grownBy_alloc W o none) (fun _ e => by cases e) _ fun b hb => hb.elim .inl fun e => .inr (by subst e; simp)

/-- What is asked of an iterator: the blocks of G are its own. -/
def Gives {α : Type} (P : Program) (g : Nat) (lb : Array Value) (encs : α → Array Value) (L : List α) (G : Bl) (w : World) : Prop :=
  ∀ (n l : Nat) (J Jx : List α → Bl → World → Prop) (K : Bl) (W : World), Stay G w W → (∀ b, G b → K b) → (∀ b, K b → b < W.heap.size) → Abide W.heap.size J → Abide W.heap.size Jx →
    (∀ m pre x K W1, J pre K W1 → (∀ b, K b → b < W1.heap.size) → pre ++ [x] <+: L → YieldAt Fence.wide m P l (encs x) W1 fun e W' =>
      (e = .returned (.bool true) ∧ J (pre ++ [x]) K W' ∧ Stay K W1 W') ∨ (e = .returned (.bool false) ∧ Jx (pre ++ [x]) K W' ∧ Stay K W1 W')) →
    J [] K W →
    CallsIn Fence.wide n P g (#[.func (.yield l) #[] #[]] ++ lb) W fun e W' => (∃ v, e = .returned v) ∧ (J L K W' ∨ (∃ pre, pre <+: L ∧ Jx pre K W'))
theorem Gives.later {α : Type} {P : Program} {g : Nat} {lb : Array Value} {encs : α → Array Value} {L : List α} {G : Bl} {w w' : World} (h : Gives P g lb encs L G w) (hs : Stay G w w') : Gives P g lb encs L G w' :=
  fun n l J Jx K W hW => h n l J Jx K W (hs.trans hW)

/-- How a round's body may be left. -/
def postB {α : Type} (I : List α → Bl → World → Prop) (Ix : Code → List α → Bl → World → Prop) (xs : List α) (K : Bl) (W : World) : Exit → Act → World → Prop
  | .normal, _, W' => Stay K W W' ∧ I xs K W'
  | .ret, _, W' => Stay K W W' ∧ Ix .ret xs K W'
  | .exit id, _, W' => Stay K W W' ∧ Ix (.exit id) xs K W'
  | .goto t, _, W' => Stay K W W' ∧ Ix (.goto t) xs K W'
  | .panic _, _, _ => False
  | .outgrown, _, _ => False

/-- The mark of a loop among an activation's deferred calls. -/
abbrev mark (D : Nat) : Deferred := { target := .collected D, args := #[] }
abbrev Shut (W : World) (D : Nat) : Prop := W.heap[D]? = some (.deferred (some []))

theorem putObj_grown (W : World) (l : Nat) (o : Obj) : W.grownBy (W.putObj l o) (some l) := grownBy_putObj' W l o

theorem range_own {α : Type} {n : Nat} {P : Program} {g : Operand} {ps : Array Tmp} {assign body : Code} {Q : Exit → Act → World → Prop} {a : Act} {w : World} {gf : Nat} {lb : Array Value}
    (hg : a.eval g = .func (.func gf) #[] lb) (eg : ∀ args w, (callFunc gf args).run P w = .ok (.enter gf args) w)
    {encs : α → Array Value} {L : List α} {G : Bl} {w0 : World} (hseq : Gives P gf lb encs L G w0) (hst : Stay G w0 w) (hps : ∀ x, (encs x).size = ps.size)
    (I : List α → Bl → World → Prop) (Ix : Code → List α → Bl → World → Prop) (hI : Abide w.heap.size I) (hIx : ∀ c, Abide w.heap.size (Ix c)) (K0 : Bl) (hGK : ∀ b, G b → K0 b) (hlt : ∀ b, K0 b → b < w.heap.size) (h0 : I [] K0 w)
    (hround : ∀ (l : Nat) (pre : List α) (x : α) (K : Bl) (W : World) (m : Nat), I pre K W → (∀ b, K b → b < W.heap.size) → K l → w.heap.size ≤ l → pre ++ [x] <+: L →
      assign.wpIn (Fence.wide.inRound l) m P (Exit.then (fun a1 W1 => Stay K W W1 ∧ ∀ W2, W1.grownBy W2 (some l) → body.wpIn (Fence.wide.inRound l) m P (postB I Ix (pre ++ [x]) K W2) a1 W2) (fun _ _ _ => False))
        { tmps := (ps.zip (encs x)).foldl (fun t (p, v) => t.setIfInBounds p v) a.tmps, defers := [] } W)
    (hdone : ∀ (D : Nat) (K : Bl) (W : World), I L K W → (∀ b, K0 b → K b) → K D → w.heap.size ≤ D → Shut W D → Q .normal { a with defers := mark D :: a.defers } W)
    (hstop : ∀ (D : Nat) (c : Code) (pre : List α) (K : Bl) (W : World), pre <+: L → Ix c pre K W → (∀ b, K0 b → K b) → K D → w.heap.size ≤ D → Shut W D → c.wpIn Fence.wide n P Q { a with defers := mark D :: a.defers } W) :
    (Code.rangeFunc g ps assign body).wpIn Fence.wide n P Q a w := by
  refine wpIn_rangeFunc fun fn hfn => ?_
  obtain ⟨rec, hrec⟩ : ∃ rec : LoopState → Option Code → Loop, rec = fun st pe => { state := st, pending := pe, fn, tmps := a.tmps, params := ps, assign, body, defers := w.heap.size } := ⟨_, rfl⟩
  obtain ⟨D, hD⟩ : ∃ D, D = w.heap.size := ⟨_, rfl⟩
  obtain ⟨l, hl⟩ : ∃ l, l = w.heap.size + 1 := ⟨_, rfl⟩
  obtain ⟨W1, hW1⟩ : ∃ W1, W1 = (w.alloc (.deferred (some []))).alloc (.loop (rec .ready none)) := ⟨_, rfl⟩
  have hg1 : w.grownBy W1 none := by
    rw [hW1]
    exact (World.grownBy_alloc w _ none).trans (World.grownBy_alloc _ _ none)
  have hsz : W1.heap.size = w.heap.size + 2 := by rw [hW1]; simp
  have hL1 : W1.heap[l]? = some (.loop (rec .ready none)) := by
    rw [hW1, hl]; have := World.alloc_heap_new (w.alloc (.deferred (some []))) (.loop (rec .ready none)); rwa [World.size_alloc] at this
  have hK1 : Shut W1 D := by
    unfold Shut; rw [hW1, hD]; exact (Below.heap_alloc _ _ _ (by simp)).trans (World.alloc_heap_new w _)
  have hnD : ¬ K0 D := fun h => by have := hlt D h; omega
  have hnl : ¬ K0 l := fun h => by have := hlt l h; omega
  have hDl : D ≠ l := by omega
  -- turning the record
  have turn : ∀ {c : List α → Bl → World → Prop}, Abide w.heap.size c → ∀ {s : List α} {K : Bl} {W : World} (o : Obj), c s K W → K l → c s K (W.putObj l o) := fun hc s K W o hs hKl =>
    hc s K W _ (some l) hs (putObj_grown W l o) (fun r e => by injection e with e; subst e; exact ⟨by omega, hKl⟩) K fun b hb => .inl hb
  have far : ∀ {W : World} (o : Obj), (W.putObj l o).heap[D]? = W.heap[D]? := fun o => World.putObj_heap_other hDl
  refine ⟨l, [mark D], W1, { target := .fn (.func gf) lb, args := #[.func (.yield l) #[] #[]] }, W1, gf, #[.func (.yield l) #[] #[]] ++ lb, W1, ?_, ?_, fun _ _ => trivial, ?_, fun h => (by cases h), ?_⟩
  · rw [hW1, hrec, hl, hD]; exact run_enterLoop_outer _ _ _ _ _
  · simp only [resolve, hg]
    simp [go_sem]
  · simp [invoke, go_sem, eg]
  · refine (hseq (n - 1) l
      (fun s K W => I s (fun b => K b ∨ b = D ∨ b = l) W ∧ ¬ K D ∧ ¬ K l ∧ W.heap[l]? = some (.loop (rec .ready none)) ∧ Shut W D)
      (fun s K W => ∃ c, Ix c s (fun b => K b ∨ b = D ∨ b = l) W ∧ ¬ K D ∧ ¬ K l ∧ W.heap[l]? = some (.loop (rec .done (some c))) ∧ Shut W D)
      K0 W1 (hst.trans ⟨hg1.size, fun b hb => hg1.block b (hlt b (hGK b hb)) (by simp)⟩) hGK (fun b hb => by have := hlt b hb; omega) ?_ ?_ ?_ ?_).mono ?_
    · rintro s K A A' row ⟨hi, h1, h2, h3, h4⟩ hgr hr K' hK'
      have hlA := (Array.getElem?_eq_some_iff.1 h3).1
      have hDA := (Array.getElem?_eq_some_iff.1 h4).1
      refine ⟨hI s _ A A' row hi hgr (fun r e => ⟨by have := (hr r e).1; omega, .inl (hr r e).2⟩) _ fun b hb => ?_, fun h => ?_, fun h => ?_, ?_, ?_⟩
      · rcases hb with hb | hb
        · rcases hK' b hb with h | h
          · exact .inl (.inl h)
          · exact .inr h
        · exact .inl (.inr hb)
      · rcases hK' D h with h | h
        · exact h1 h
        · omega
      · rcases hK' l h with h | h
        · exact h2 h
        · omega
      · exact (hgr.block l hlA fun e => by have := (hr l e.symm).1; omega).trans h3
      · exact (hgr.block D hDA fun e => by have := (hr D e.symm).1; omega).trans h4
    · rintro s K A A' row ⟨c, hi, h1, h2, h3, h4⟩ hgr hr K' hK'
      have hlA := (Array.getElem?_eq_some_iff.1 h3).1
      have hDA := (Array.getElem?_eq_some_iff.1 h4).1
      refine ⟨c, hIx c s _ A A' row hi hgr (fun r e => ⟨by have := (hr r e).1; omega, .inl (hr r e).2⟩) _ fun b hb => ?_, fun h => ?_, fun h => ?_, ?_, ?_⟩
      · rcases hb with hb | hb
        · rcases hK' b hb with h | h
          · exact .inl (.inl h)
          · exact .inr h
        · exact .inl (.inr hb)
      · rcases hK' D h with h | h
        · exact h1 h
        · omega
      · rcases hK' l h with h | h
        · exact h2 h
        · omega
      · exact (hgr.block l hlA fun e => by have := (hr l e.symm).1; omega).trans h3
      · exact (hgr.block D hDA fun e => by have := (hr D e.symm).1; omega).trans h4
    · rintro m pre x K W ⟨hi, h1, h2, h3, h4⟩ hKW hlen
      have hlW := (Array.getElem?_eq_some_iff.1 h3).1
      have hDW := (Array.getElem?_eq_some_iff.1 h4).1
      have hy := run_yield (P := P) (args := encs x) h3 (by rw [hrec]; exact hps x)
      rw [hrec] at hy
      refine ⟨fn, _, assign, body, hy, roundIn_of_wpIn hfn (wpIn_mono (hround l pre x _ W m hi (fun b hb => by rcases hb with hb | rfl | rfl <;> first | exact hKW b hb | assumption) (.inr (.inr rfl)) (by omega) hlen) ?_)⟩
      intro e a1 Wa hp
      cases e with
      | normal =>
        obtain ⟨hsa, hp⟩ := hp
        have h3a : Wa.heap[l]? = some (.loop (rec .ready none)) := (hsa.2 l (.inr (.inr rfl))).trans h3
        refine ⟨_, run_beginRound h3a (by rw [hrec]), wpIn_mono (hp _ (putObj_grown _ _ _)) ?_⟩
        have hla := (Array.getElem?_eq_some_iff.1 h3a).1
        have hl2 : (Wa.putObj l (.loop { rec .ready none with state := .busy })).heap[l]? = some (.loop { rec .ready none with state := .busy }) := World.putObj_heap_same hla
        have fin : ∀ (jump : Option Code) (W3 : World), Stay (fun b => K b ∨ b = D ∨ b = l) (Wa.putObj l (.loop { rec .ready none with state := .busy })) W3 →
            (Instr.endRound l jump).run P W3 = .ok (.bool jump.isNone) (W3.putObj l (.loop (rec (if jump.isNone then .ready else .done) jump))) ∧
            (W3.putObj l (.loop (rec (if jump.isNone then .ready else .done) jump))).heap[l]? = some (.loop (rec (if jump.isNone then .ready else .done) jump)) ∧
            Shut (W3.putObj l (.loop (rec (if jump.isNone then .ready else .done) jump))) D ∧ Stay K W (W3.putObj l (.loop (rec (if jump.isNone then .ready else .done) jump))) := fun jump W3 hs3 => by
          have hl3 := (hs3.2 l (.inr (.inr rfl))).trans hl2
          have := run_endRound (P := P) jump hl3
          rw [hrec] at this ⊢
          refine ⟨this, World.putObj_heap_same (Array.getElem?_eq_some_iff.1 hl3).1, ?_, ?_⟩
          · exact (far _).trans ((hs3.2 D (.inr (.inl rfl))).trans ((far _).trans ((hsa.2 D (.inr (.inl rfl))).trans h4)))
          · refine ((hsa.less fun b hb => .inl hb).trans (Stay.grown (putObj_grown _ _ _) (fun b hb => Nat.lt_of_lt_of_le (hKW b hb) hsa.1) (fun r e => by injection e with e; subst e; exact h2))).trans ((hs3.less fun b hb => .inl hb).trans (Stay.grown (putObj_grown _ _ _) (fun b hb => ?_) (fun r e => by injection e with e; subst e; exact h2)))
            have q1 := hKW b hb
            have q2 := hsa.1
            have q3 := hs3.1
            have q4 := (putObj_grown Wa l (.loop { rec .ready none with state := .busy })).size
            omega
        intro e a3 W3 hp
        cases e with
        | normal =>
          obtain ⟨hs3, hi3⟩ := hp
          obtain ⟨r1, r2, r3, r4⟩ := fin none W3 hs3
          exact ⟨_, _, r1, .inl ⟨rfl, ⟨turn hI _ hi3 (.inr (.inr rfl)), h1, h2, r2, r3⟩, r4⟩⟩
        | ret =>
          obtain ⟨hs3, hi3⟩ := hp
          obtain ⟨r1, r2, r3, r4⟩ := fin (some .ret) W3 hs3
          exact ⟨_, _, r1, .inr ⟨rfl, ⟨.ret, turn (hIx _) _ hi3 (.inr (.inr rfl)), h1, h2, r2, r3⟩, r4⟩⟩
        | exit id =>
          obtain ⟨hs3, hi3⟩ := hp
          obtain ⟨r1, r2, r3, r4⟩ := fin (some (.exit id)) W3 hs3
          exact ⟨_, _, r1, .inr ⟨rfl, ⟨.exit id, turn (hIx _) _ hi3 (.inr (.inr rfl)), h1, h2, r2, r3⟩, r4⟩⟩
        | goto t =>
          obtain ⟨hs3, hi3⟩ := hp
          obtain ⟨r1, r2, r3, r4⟩ := fin (some (.goto t)) W3 hs3
          exact ⟨_, _, r1, .inr ⟨rfl, ⟨.goto t, turn (hIx _) _ hi3 (.inr (.inr rfl)), h1, h2, r2, r3⟩, r4⟩⟩
        | panic ch => exact hp.elim
        | outgrown => exact hp.elim
      | ret => exact hp.elim
      | exit id => exact hp.elim
      | goto t => exact hp.elim
      | panic ch => exact hp.elim
      | outgrown => exact hp.elim
    · refine ⟨hI [] K0 w W1 none h0 hg1 (fun _ e => by cases e) _ fun b hb => ?_, hnD, hnl, hL1, hK1⟩
      rcases hb with hb | rfl | rfl
      · exact .inl hb
      · exact .inr (by omega)
      · exact .inr (by omega)
    · rintro e W2 ⟨⟨v, rfl⟩, ⟨hi, _, _, h3, h4⟩ | ⟨pre, hSp, c, hi, _, _, h3, h4⟩⟩
      · exact ⟨none, _, by have := run_endLoop (P := P) h3 (by rw [hrec]; simp); rw [hrec] at this; exact this, hdone D _ _ (turn hI _ hi (.inr (.inr rfl))) (fun b hb => .inl hb) (.inr (.inl rfl)) (by omega) ((far _).trans h4)⟩
      · exact ⟨some c, _, by have := run_endLoop (P := P) h3 (by rw [hrec]; simp); rw [hrec] at this; exact this, hstop D c pre _ _ hSp (turn (hIx c) _ hi (.inr (.inr rfl))) (fun b hb => .inl hb) (.inr (.inl rfl)) (by omega) ((far _).trans h4)⟩

/-- An activation that leaves with marks of loops alone. -/
theorem leaves_marks {n : Nat} {P : Program} {fn : Func} {tmps : Array Value} {R : Ending → World → Prop} : ∀ (Ds : List Nat) (w : World), Ds.Nodup → (∀ D ∈ Ds, Shut w D) →
    (∀ w', (∀ b, b ∉ Ds → w'.heap[b]? = w.heap[b]?) → w'.heap.size = w.heap.size → w'.os = w.os → w'.tape = w.tape → w'.output = w.output → LeavesIn Fence.wide n P fn tmps R [] .returning w') →
    LeavesInM Fence.wide n P fn tmps R (Ds.map mark) .returning w
  | [], w, _, _, h => h w (fun _ _ => rfl) rfl rfl rfl rfl
  | D :: Ds, w, hn, hS, h => by
    have hn' := List.nodup_cons.1 hn
    refine ⟨by simp, .inl ⟨D, _, rfl, run_takeDeferred (hS D List.mem_cons_self), leaves_marks Ds _ hn'.2 (fun E hE => ?_) fun w' h1 h2 h3 h4 h5 => ?_⟩⟩
    · refine (World.putObj_heap_other fun e => hn'.1 ?_).trans (hS E (List.mem_cons_of_mem _ hE))
      rw [← e]; exact hE
    · have hg := putObj_grown w D (.deferred none)
      refine h w' (fun b hb => ?_) (by rw [h2]; simp [World.putObj]) (h3.trans hg.os) (h4.trans hg.tape) (h5.trans hg.output)
      rw [h1 b fun hm => hb (List.mem_cons_of_mem _ hm)]
      refine World.putObj_heap_other fun e => hb ?_
      rw [e]; exact List.mem_cons_self
end Go.Proofs.YtlnagdodnkhbmaaGreat

/- A slice that append builds: either it has no room (and is as it came), or it lies in a row of the call's own. No program is named here. -/
namespace Go.Proofs.YtlnagdodnkhbmaaGreat
open Go.RowKit

/-- Since w0 nothing that was there has turned; the slice has no room and lies in F, or it lies in a row that is new since w0. -/
def Mid {α : Type} (sz : Nat) (c : α → List Value) (e : TypeId) (w0 : World) (F : List Nat) (w : World) (v : Value) (l : List α) : Prop :=
  Below w0.heap.size w0 w ∧ ((∃ A, v = .slice A l.length l.length ∧ Elems sz c w v l ∧ ∀ b ∈ ownFoot v, b ∈ F) ∨ OwnElems sz c e w w0.heap.size v l)

section
variable {α : Type} {sz : Nat} {c : α → List Value} {e : TypeId} {w0 w w' : World} {F : List Nat} {v : Value} {l : List α}
theorem Mid.base (h : Mid sz c e w0 F w v l) : Below w0.heap.size w0 w := h.1
theorem Mid.rows (h : Mid sz c e w0 F w v l) : Elems sz c w v l := by
  rcases h.2 with ⟨_, _, h, _⟩ | h
  · exact h
  · exact h.rows
theorem Mid.foot (h : Mid sz c e w0 F w v l) : ∀ b ∈ ownFoot v, b ∈ F ∨ (w0.heap.size ≤ b ∧ b < w.heap.size) := by
  intro b hb
  rcases h.2 with ⟨_, _, _, h⟩ | h
  · exact .inl (h b hb)
  · exact .inr (h.lt b hb)
theorem Mid.nil (w0 : World) (F : List Nat) (hb : Below w0.heap.size w0 w) : Mid sz c e w0 F w (.slice none 0 0) ([] : List α) :=
  ⟨hb, .inl ⟨none, rfl, Elems.nil _ _ _, by simp [ownFoot, Value.ownBlock]⟩⟩
theorem Mid.full {A : Option Addr} (h : Elems sz c w (.slice A l.length l.length) l) (hF : ∀ b ∈ ownFoot (.slice A l.length l.length), b ∈ F) (hb : Below w0.heap.size w0 w) : Mid sz c e w0 F w (.slice A l.length l.length) l :=
  ⟨hb, .inl ⟨A, rfl, h, hF⟩⟩
/-- What leaves the slice's row as it was. -/
theorem Mid.keep (h : Mid sz c e w0 F w v l) (hb : Below w0.heap.size w0 w') (hk : ∀ b ∈ ownFoot v, w'.heap[b]? = w.heap[b]?) : Mid sz c e w0 F w' v l := by
  refine ⟨hb, ?_⟩
  rcases h.2 with ⟨A, h1, h2, h3⟩ | h
  · exact .inl ⟨A, h1, h2.keep hk, h3⟩
  · exact .inr (h.keep hk)
theorem Mid.below (h : Mid sz c e w0 F w v l) (hF : ∀ b ∈ F, b < w.heap.size) (hb : Below w.heap.size w w') : Mid sz c e w0 F w' v l :=
  h.keep (h.1.trans (hb.mono h.1.size)) fun b hm => hb.block b (by rcases h.foot b hm with hf | hf; exact hF b hf; exact hf.2)
end

section
variable {P : Program} {α : Type} {sz : Nat} {c : α → List Value}
theorem run_append_zero {w : World} (t ty e : TypeId) (i : TypeInfo) (ht : P.underlying t = some (.slice e)) (hi : P.info? e = some i) (A B : Option Addr) (n cap cb : Nat) (hn : n ≤ cap) :
    (Builtin.append_ #[t, t] ty #[.slice A n cap, .slice B 0 cb]).run P w = .ok (.slice A n cap) w := by
  cases A <;> cases B <;> simp [Builtin.append_, run_underlying ht, sizeOf, typeInfo, hi, Builtin.lenOf, Builtin.firstCells, hn, loadCells, loadCellsFrom, storeCells, Sem.run_bind, Sem.run_pure, Result.andThen]

theorem run_append_mid (w0 w : World) (F : List Nat) (t ty e : TypeId) (i : TypeInfo) (z : Value) (size bytes : Nat) (ht : P.underlying t = some (.slice e)) (hi : P.info? e = some i) (hz : i.zero = some z)
    (hsize : i.size = size) (hby : i.bytes = bytes) (hzs : z.cells.size = size) (hsz : 0 < size) (hc : ∀ a, (c a).length = size) (hone : ∀ a, ∀ y ∈ c a, y.oneCell' = true)
    (v : Value) (l : List α) (hm : Mid size c e w0 F w v l) (u : Value) (l' : List α) (hu : Elems size c w u l')
    (h63 : l.length + l'.length ≤ maxLen) (hbytes : (l.length + l'.length) * bytes ≤ 140737488355328) :
    ∃ v' w', (Builtin.append_ #[t, t] ty #[v, u]).run P w = .ok v' w' ∧ Mid size c e w0 F w' v' (l ++ l') ∧ w.grownBy w' v.ownBlock ∧ (∀ b ∈ ownFoot v', b ∈ ownFoot v ∨ w.heap.size ≤ b) := by
  obtain ⟨hb, hcase⟩ := hm
  rcases hcase with ⟨A, rfl, hel, hF⟩ | hown
  · have hu0 := hu
    obtain ⟨hl', B, cb, rfl, hcb, hmb, hnb, hcell⟩ := hu
    by_cases h0 : l'.length = 0
    · have hnil : l' = [] := List.eq_nil_of_length_eq_zero h0
      subst hnil
      refine ⟨_, w, run_append_zero t ty e i ht hi A B l.length l.length cb (Nat.le_refl _), ?_, World.grownBy.refl w _, fun b hb => .inl hb⟩
      rw [List.append_nil]
      exact ⟨hb, .inl ⟨A, rfl, hel, hF⟩⟩
    · cases B with
      | none => exact absurd (hnb rfl) (by omega)
      | some a =>
        cases A with
        | none =>
          have hl0 : l.length = 0 := by
            obtain ⟨_, A', c', hv, _, _, hn', _⟩ := hel
            injection hv with h1 _ h3
            rw [h3]; exact hn' h1.symm
          have hnil : l = [] := List.eq_nil_of_length_eq_zero hl0
          subst hnil
          obtain ⟨v', w', h1, h2, h3, h4⟩ := run_append_rows (P := P) w w0.heap.size t ty e i z size bytes ht hi hz hsize hby hzs hsz hone (.slice none 0 0) ([] : List α) (OwnElems.nil _ _ _ _ _) _ l' hu0 (by simpa using h63) (by simpa using hbytes) hb.size
          exact ⟨v', w', h1, ⟨hb.grown h3 hb.size (fun k e => by simp [Value.ownBlock] at e), .inr h2⟩, h3, h4⟩
        | some b0 =>
          have hlen : (cellsBy c l).length = l.length * i.size := by rw [cellsBy_len hc, hsize]
          have hlen' : (cellsBy c l').length = l'.length * i.size := by rw [cellsBy_len hc, hsize]
          have hrun := run_append_grow (P := P) w t ty e i z ht hi hz b0 l.length l.length (cellsBy c l) hlen (fun j x hj => by
              obtain ⟨ad, ha, hcc⟩ := Row.cell hel hj
              injection ha with ha
              subst ha
              exact hcc) a l'.length cb (cellsBy c l') hlen' (fun j x hj => by
              obtain ⟨ad, ha, hcc⟩ := hcell j x hj
              injection ha with ha
              subst ha
              exact hcc) (by omega) (by unfold maxLen at h63; omega) (growslice_fits (by omega) (by rw [hby]; exact hbytes))
          have hge := grownCap_ge w (l.length + l'.length) l.length e
          have hcm : grownCap w (l.length + l'.length) l.length e ≤ maxLen := grownCap_le_maxLen w (l.length + l'.length) l.length e h63
          refine ⟨_, _, hrun, ⟨?_, .inr ?_⟩, ?_, fun b hb' => ?_⟩
          · exact (show Below w0.heap.size w0 w.drew from ⟨hb.os, hb.tape, hb.output, hb.size, hb.block⟩).alloc hb.size _
          · refine ⟨by rw [cellsBy_len hc], .inr ⟨w.heap.size, _, _, by rw [List.length_append], hb.size, heap_alloc_new w.drew _, by rw [List.length_append]; exact hge, hcm, ?_, ?_⟩⟩
            · have hzc : (Builtin.zeroCells z.cells (grownCap w (l.length + l'.length) l.length e - (l.length + l'.length))).size = (grownCap w (l.length + l'.length) l.length e - (l.length + l'.length)) * size := by
                unfold Builtin.zeroCells; rw [Array.size_map, Array.size_range, hzs]
              simp only [Array.size_append, List.size_toArray, hzc]
              rw [hlen, hlen', hsize, ← Nat.add_mul, ← Nat.add_mul]
              congr 1; omega
            · simp only [Array.toList_append]
              rw [cellsBy_app, List.take_append_of_le_length (by simp [hlen, hlen', hsize, Nat.add_mul]), List.take_of_length_le (by simp [hlen, hlen', hsize, Nat.add_mul])]
          · exact ⟨rfl, rfl, rfl, by simp, fun k hk _ => Below.heap_alloc w.drew _ k hk⟩
          · simp [ownFoot, Value.ownBlock] at hb'
            exact .inr (by omega)
  · obtain ⟨v', w', h1, h2, h3, h4⟩ := run_append_rows (P := P) w w0.heap.size t ty e i z size bytes ht hi hz hsize hby hzs hsz hone v l hown u l' hu h63 hbytes hb.size
    exact ⟨v', w', h1, ⟨hb.grown h3 hb.size (fun k e => (hown.lt k (mem_ownFoot.2 e)).1), .inr h2⟩, h3, h4⟩

theorem op_append_mid {w0 w : World} {F : List Nat} {o : Oper} {a : Act} {K : Act → World → Prop} {Q : Exit → Act → World → Prop} (s x : Operand) (t : TypeId)
    (ho : o.op = .call { callee := .builtin .append, args := #[s, x], argTypes := #[t, t] })
    (e : TypeId) (i : TypeInfo) (z : Value) (size bytes : Nat) (ht : P.underlying t = some (.slice e)) (hi : P.info? e = some i) (hz : i.zero = some z)
    (hsize : i.size = size) (hby : i.bytes = bytes) (hzs : z.cells.size = size) (hsz : 0 < size) (hc : ∀ a, (c a).length = size) (hone : ∀ a, ∀ y ∈ c a, y.oneCell' = true)
    (v : Value) (l : List α) (hs : a.eval s = v) (hm : Mid size c e w0 F w v l) (u : Value) (l' : List α) (hx : a.eval x = u) (hu : Elems size c w u l')
    (h63 : l.length + l'.length ≤ maxLen) (hbytes : (l.length + l'.length) * bytes ≤ 140737488355328)
    (h : ∀ v' w', Mid size c e w0 F w' v' (l ++ l') → w.grownBy w' v.ownBlock → (∀ b ∈ ownFoot v', b ∈ ownFoot v ∨ w.heap.size ≤ b) → K (a.put o.dst v') w') : o.wp P a w K Q := by
  obtain ⟨v', w', hrun, h2, h3, h4⟩ := run_append_mid (P := P) w0 w F t o.type e i z size bytes ht hi hz hsize hby hzs hsz hc hone v l hm u l' hu h63 hbytes
  unfold Oper.wp execOp
  simp only [ho, resolve, invoke, builtin, Sem.run_bind, Sem.run_pure, Result.andThen_ok, List.map_toArray, List.map_cons, List.map_nil, hs, hx, hrun]
  exact h v' w' h2 h3 h4
theorem wpList_append_mid {w0 w : World} {F : List Nat} {ops : Array Oper} {rest : List Oper} {o : Oper} {a : Act} {Q : Exit → Act → World → Prop} (hgd : o.guard = none) (s x : Operand) (t : TypeId)
    (ho : o.op = .call { callee := .builtin .append, args := #[s, x], argTypes := #[t, t] })
    (e : TypeId) (i : TypeInfo) (z : Value) (size bytes : Nat) (ht : P.underlying t = some (.slice e)) (hi : P.info? e = some i) (hz : i.zero = some z)
    (hsize : i.size = size) (hby : i.bytes = bytes) (hzs : z.cells.size = size) (hsz : 0 < size) (hc : ∀ a, (c a).length = size) (hone : ∀ a, ∀ y ∈ c a, y.oneCell' = true)
    (v : Value) (l : List α) (hs : a.eval s = v) (hm : Mid size c e w0 F w v l) (u : Value) (l' : List α) (hx : a.eval x = u) (hu : Elems size c w u l')
    (h63 : l.length + l'.length ≤ maxLen) (hbytes : (l.length + l'.length) * bytes ≤ 140737488355328)
    (h : ∀ v' w', Mid size c e w0 F w' v' (l ++ l') → w.grownBy w' v.ownBlock → (∀ b ∈ ownFoot v', b ∈ ownFoot v ∨ w.heap.size ≤ b) → wpList P ops Q rest (a.put o.dst v') w') : wpList P ops Q (o :: rest) a w :=
  wpList_plain hgd fun _ hK => op_append_mid s x t ho e i z size bytes ht hi hz hsize hby hzs hsz hc hone v l hs hm u l' hx hu h63 hbytes fun v' w' h1 h2 h3 => hK _ _ (h v' w' h1 h2 h3)
theorem step_append_mid {w0 w : World} {F : List Nat} {ops : Array Oper} {o : Oper} {a : Act} {K : Act → World → Prop} {Q : Exit → Act → World → Prop} {E : Prop} (hgd : o.guard = none) (s x : Operand) (t : TypeId)
    (ho : o.op = .call { callee := .builtin .append, args := #[s, x], argTypes := #[t, t] })
    (e : TypeId) (i : TypeInfo) (z : Value) (size bytes : Nat) (ht : P.underlying t = some (.slice e)) (hi : P.info? e = some i) (hz : i.zero = some z)
    (hsize : i.size = size) (hby : i.bytes = bytes) (hzs : z.cells.size = size) (hsz : 0 < size) (hc : ∀ a, (c a).length = size) (hone : ∀ a, ∀ y ∈ c a, y.oneCell' = true)
    (v : Value) (l : List α) (hs : a.eval s = v) (hm : Mid size c e w0 F w v l) (u : Value) (l' : List α) (hx : a.eval x = u) (hu : Elems size c w u l')
    (h63 : l.length + l'.length ≤ maxLen) (hbytes : (l.length + l'.length) * bytes ≤ 140737488355328)
    (h : ∀ v' w', Mid size c e w0 F w' v' (l ++ l') → w.grownBy w' v.ownBlock → (∀ b ∈ ownFoot v', b ∈ ownFoot v ∨ w.heap.size ≤ b) → K (a.put o.dst v') w') :
    if Region.wanted o (yielded ops a.tmps) = true then Oper.wp P o a w K Q else E := by
  rw [if_pos (by unfold Region.wanted; rw [hgd])]
  exact op_append_mid s x t ho e i z size bytes ht hi hz hsize hby hzs hsz hc hone v l hs hm u l' hx hu h63 hbytes h
end
end Go.Proofs.YtlnagdodnkhbmaaGreat

/- A region that draws its order, whose head reads alone and whose tail is a chain that waits for all of the head, inside a fence, in a round or outside: the text's order serves. No program is named here. -/
namespace Go.Proofs.YtlnagdodnkhbmaaGreat
open Go

section
variable {F : Fence} {n : Nat} {P : Program} {ops : Array Oper} {md : Region.Mode} {C : World → Prop}
def wpAnyLIn (F : Fence) (n : Nat) (P : Program) (md : Region.Mode) (ops : Array Oper) (C : World → Prop) (N : Nat) (L : Array Bool → Act → Prop) : Nat → Array Bool → Act → Prop
  | 0, listed, a => L listed a
  | f + 1, listed, a => Region.ready md ops listed ≠ [] ∧ ∀ i ∈ Region.ready md ops listed, i < N ∧ qOpIn F n P ops C i (wpAnyLIn F n P md ops C N L f (listed.setIfInBounds i true)) a
theorem wpAnyIn_of_headIn {N g : Nat} {L : Array Bool → Act → Prop} {Q' : Exit → Act → World → Prop} (hnd : ∀ (i : Nat) (o : Oper), ops[i]? = some o → ∀ c, o.op ≠ .defer c) (hL : ∀ listed a w, C w → L listed a → wpAnyIn F n P md ops Q' g listed a w) :
    ∀ (f : Nat) (listed : Array Bool) (a : Act) (w : World), C w → wpAnyLIn F n P md ops C N L f listed a → wpAnyIn F n P md ops Q' (f + g) listed a w
  | 0, listed, a, w, hw, h => by rw [Nat.zero_add]; exact hL _ _ _ hw h
  | f + 1, listed, a, w, hw, h => by
    rw [show f + 1 + g = (f + g) + 1 by omega]
    refine ⟨fun h0 => absurd h0 h.1, fun i hi => ?_⟩
    have hh := (h.2 i hi).2
    unfold qOpIn at hh
    unfold wpOpIn
    cases ho : ops[i]? with
    | none => rw [ho] at hh; exact wpAnyIn_of_headIn hnd hL f _ _ _ hw hh
    | some o =>
      rw [ho] at hh
      obtain ⟨ha, hh⟩ := hh
      by_cases hwn : Region.wanted o (yielded ops a.tmps) = true
      · simp only [hwn, if_true] at hh ⊢
        exact quiet_op (hnd i o ho) hw (fun a' w' hw' => wpAnyIn_of_headIn hnd hL f _ a' w' hw') ha hh
      · simp only [hwn] at hh ⊢
        exact ⟨ha w hw, wpAnyIn_of_headIn hnd hL f _ _ _ hw hh⟩

theorem wpAnyLIn_first {N i : Nat} {oi : Oper} {v : Value} {L : Array Bool → Act → Prop} (hi : ops[i]? = some oi) (hsel : ∀ (j : Nat) (o : Oper) cs b, ops[j]? = some o → o.op ≠ .select cs b)
    (hs : Region.sinkB md ops N = true) (hc : Region.chainB md ops N = true) (hn : N < ops.size) (hin : i < N)
    (hdone : ∀ listed a, L listed a → ∀ j ∈ Region.ready md ops listed, N ≤ j) :
    ∀ (f : Nat) (listed : Array Bool) (a : Act), HeadInv md ops N listed →
      (∀ j oj, ops[j]? = some oj → j ≠ i → listed.getD j true = false → (∀ e ∈ oj.after, Region.binds md e = true → e.on ≠ i) → oi.apart ops oj = true) →
      i ∈ Region.ready md ops listed → YieldsQuiet F n P ops C oi v a →
      wpAnyLIn F n P md ops C N L f (listed.setIfInBounds i true) (a.put oi.dst v) → wpAnyLIn F n P md ops C N L (f + 1) listed a := by
  intro f
  induction f with
  | zero =>
    intro listed a inv _ hr hy H
    have hun := (mem_ready.1 hr).1
    refine ⟨fun h => (by rw [h] at hr; cases hr), fun j hj => ?_⟩
    have hjn : j < N := by
      rcases Nat.lt_or_ge j N with h | h
      · exact h
      · exact absurd hj (tail_waits hs hc hn inv _ i rfl hin hun j h)
    refine ⟨hjn, ?_⟩
    by_cases hji : j = i
    · subst hji; exact hy.qOpIn hi H
    · have := hdone _ _ H j (ready_mono hj hji)
      omega
  | succ f ih =>
    intro listed a inv hfree hr hy H
    have hun := (mem_ready.1 hr).1
    refine ⟨fun h => (by rw [h] at hr; cases hr), fun j hj => ?_⟩
    have hjn : j < N := by
      rcases Nat.lt_or_ge j N with h | h
      · exact h
      · exact absurd hj (tail_waits hs hc hn inv _ i rfl hin hun j h)
    refine ⟨hjn, ?_⟩
    by_cases hji : j = i
    · subst hji; exact hy.qOpIn hi H
    · have h1 := (H.2 j (ready_mono hj hji)).2
      obtain ⟨hjun, oj, hoj, hall⟩ := mem_ready.1 hj
      have hnot : ∀ e ∈ oj.after, Region.binds md e = true → e.on ≠ i := fun e he hb heq => by
        have h1 := hall e he hb
        rw [heq, getD_both hun] at h1
        cases h1
      have h2 := qOpIn_put hoj (hfree j oj hoj hji hjun hnot) (fun cs b => hsel i oi cs b hi) (fun cs b => hsel j oj cs b hoj) hy h1
      have hfree' : ∀ k ok, ops[k]? = some ok → k ≠ i → (listed.setIfInBounds j true).getD k true = false →
          (∀ e ∈ ok.after, Region.binds md e = true → e.on ≠ i) → oi.apart ops ok = true := fun k ok hk hki hun hno => by
        refine hfree k ok hk hki ?_ hno
        by_cases hjk : j = k
        · subst hjk; exact hjun
        · rw [getD_set_ne true hjk] at hun; exact hun
      refine qOpIn_mono (fun a' h3 => ih (listed.setIfInBounds j true) a' (inv.set hj hjn) hfree' (ready_mono hr (Ne.symm hji)) h3.1 ?_) h2
      rw [Array.setIfInBounds_comm _ _ hji]
      exact h3.2

theorem wpAnyIn_of_seqIn {Q' : Exit → Act → World → Prop} : ∀ (l : List Oper) (k : Nat) (listed : Array Bool) (a : Act) (w : World), (∀ j, l[j]? = ops[k + j]?) →
    Region.seqB md ops l.length k listed = true → wpListIn F n P ops Q' l a w → wpAnyIn F n P md ops Q' l.length listed a w
  | [], _, _, _, _, _, hB, h => ⟨by simpa [Region.seqB] using hB, h⟩
  | o :: l, k, listed, a, w, hl, hB, h => by
    have h0 : ops[k]? = some o := by simpa using (hl 0).symm
    simp only [List.length_cons, Region.seqB, Bool.and_eq_true, decide_eq_true_eq] at hB
    refine ⟨fun h1 => (by rw [hB.1] at h1; cases h1), fun i hi => ?_⟩
    rw [hB.1] at hi
    have hik : i = k := by simpa using hi
    subst hik
    have hw : wpOpIn F n P ops Q' i (wpListIn F n P ops Q' l) a w := by unfold wpOpIn; simp only [h0]; exact h
    exact wpOpIn_mono (fun a' w' h' => wpAnyIn_of_seqIn l (i + 1) _ a' w' (fun j => by have := hl (j + 1); simpa [Nat.add_assoc, Nat.add_comm 1 j] using this) hB.2 h') hw

theorem wpAnyLIn_lex {N g : Nat} {Lq : Act → Prop} (hsel : Region.noSelect ops = true) (hs : Region.sinkB md ops N = true) (hc : Region.chainB md ops N = true) (hn : N < ops.size) :
    ∀ (l : List Oper) (k : Nat) (listed : Array Bool) (a : Act), (∀ j, j < l.length → l[j]? = ops[k + j]?) → k + l.length = N → HeadInv md ops N listed →
    Region.lexHead md ops g l.length k listed = true → wpQuietIn F n P ops C Lq l a →
    wpAnyLIn F n P md ops C N (fun listed' a' => Region.seqB md ops g N listed' = true ∧ Lq a') l.length listed a
  | [], k, listed, a, _, hk, _, hB, h => by
    have : k = N := by simpa using hk
    subst this
    exact ⟨by simpa [Region.lexHead] using hB, h⟩
  | o :: l, k, listed, a, hl, hk, inv, hB, h => by
    have h0 : ops[k]? = some o := by simpa using (hl 0 (by simp)).symm
    simp only [List.length_cons, Region.lexHead, Bool.and_eq_true] at hB
    obtain ⟨⟨hr, hf⟩, hB'⟩ := hB
    have hkn : k < N := by simp only [List.length_cons] at hk; omega
    have hr' : k ∈ Region.ready md ops listed := by simpa using hr
    have hst : qOpIn F n P ops C k (wpQuietIn F n P ops C Lq l) a := by unfold qOpIn; simp only [h0]; exact h
    obtain ⟨v, hy, hK⟩ := yieldsQuiet_of_qOpIn h0 hst
    exact wpAnyLIn_first h0 (Region.noSelect_spec hsel) hs hc hn hkn (fun listed' a' hL => seqB_ready hL.1) l.length listed a inv (Region.free_spec h0 hf) hr' hy
      (wpAnyLIn_lex hsel hs hc hn l (k + 1) _ _ (fun j hj => by have := hl (j + 1) (by simp; omega); simpa [Nat.add_assoc, Nat.add_comm 1 j] using this) (by simp only [List.length_cons] at hk; omega) (inv.set hr' hkn) hB' hK)

theorem region_tail {id : Nat} {Q : Exit → Act → World → Prop} {a : Act} {w : World} {l : List Oper} (N : Nat) (hnd : (l.all fun o => match o.op with | .defer _ => false | _ => true) = true) (hm : P.follows .mixedOrders = true) (hB : Region.lexTailB .any l.toArray N = true)
    (h : wpQuietIn F n P l.toArray (fun w' => ∃ n, w' = w.drewN n) (fun a' => ∀ w', (∃ n, w' = w.drewN n) → wpListIn F n P l.toArray Q (l.drop N) a' w') (l.take N) a) : (Code.region id l.toArray true).wpIn F n P Q a w := by
  have hnd' : ∀ (i : Nat) (o : Oper), l.toArray[i]? = some o → ∀ c, o.op ≠ .defer c := fun i o ho c hc => by
    rw [List.getElem?_toArray] at ho
    have := List.all_eq_true.1 hnd o (List.mem_of_getElem? ho)
    rw [hc] at this
    cases this
  simp only [Region.lexTailB, Bool.and_eq_true, decide_eq_true_eq] at hB
  obtain ⟨⟨⟨⟨hsel, hn⟩, hs⟩, hc⟩, hlex⟩ := hB
  have hn' : N < l.length := by simpa using hn
  have htl : (l.take N).length = N := by simp; omega
  have hdl : (l.drop N).length = l.toArray.size - N := by simp
  have inv0 : HeadInv .any l.toArray N (Array.replicate l.toArray.size false) :=
    ⟨by simp, fun j oj _ hl => (by rw [getD_replicate_false] at hl; cases hl), fun t _ ht => getD_in (by simpa using ht) (getD_replicate_false _ _)⟩
  have H := wpAnyLIn_lex (F := F) (n := n) (P := P) (C := fun w' => ∃ n, w' = w.drewN n) (md := .any) (g := l.toArray.size - N) hsel hs hc hn (l.take N) 0 _ a (fun j hj => by
    have hj' : j < N := by rw [htl] at hj; exact hj
    simp [hj']) (by simpa using htl) inv0 (by rw [htl]; exact hlex) h
  refine wpIn_region_any hm ?_
  have := wpAnyIn_of_headIn (Q' := Q) (g := l.toArray.size - N) hnd' (fun listed a' w' hw' hL => by
    have := wpAnyIn_of_seqIn (md := .any) (Q' := Q) (l.drop N) N listed a' w' (fun j => by simp [List.getElem?_drop]) (by rw [hdl]; exact hL.1) (hL.2 w' hw')
    rwa [hdl] at this) _ _ _ _ ⟨1, rfl⟩ H
  rw [htl, show N + (l.toArray.size - N) = l.toArray.size by omega] at this
  exact this
end
end Go.Proofs.YtlnagdodnkhbmaaGreat

/- A region that draws its order, in a round of a range over a function: what holds outside a round, held by S, holds in it. No program is named here. -/
namespace Go.Proofs.YtlnagdodnkhbmaaGreat
open Go

section
variable {P : Program} {ops : Array Oper} {Q : Exit → Act → World → Prop}
theorem rowsIn_wide_ {n : Nat} {row : String} {args : Array Value} {w : World} {R : Value → World → Prop} (h : Rows P row args w R) : RowsIn Fence.wide n P row args w R :=
  fun c cs _ => by
    obtain ⟨v, w', h1, h2⟩ := h c cs
    exact ⟨v, w', h1, stepsIn_wide.2 h2⟩
theorem op_in_round {n l : Nat} {o : Oper} {a : Act} {w : World} {K K' : Act → World → Prop} (hnd : ∀ c, o.op ≠ .defer c) (hK : ∀ a w, K a w → K' a w) (h : o.wp P a w K Q) : o.wpIn (Fence.wide.inRound l) n P a w K' Q := by
  refine ⟨fun _ _ => trivial, ?_⟩
  rw [Oper.semAt_eq _ _ _ hnd]
  unfold Oper.wp at h
  generalize (execOp a.eval o).run P w = r at *
  cases r with
  | ok x w' =>
    cases x <;> simp only [Oper.upon] at h <;> simp only [Oper.uponIn]
    case value => exact hK _ _ h
    case skip => exact hK _ _ h
    case defer => exact hK _ _ h
    case enter f args =>
      exact ⟨fun h => (by cases h), CallsIn.inRound l (callsIn_wide.2 (Calls.mono h fun e w'' he => by cases e <;> first | exact hK _ _ he | exact he))⟩
    case row row args =>
      exact ⟨fun h => (by cases h), fun c cs _ => by
        obtain ⟨v, w', h1, h2⟩ := h c cs
        exact ⟨v, w', hK _ _ h1, stepsIn_wide.2 h2⟩⟩
  | halt x w' => cases x <;> simp only [Oper.upon] at h <;> simp only [Oper.uponIn] <;> exact h
theorem ops_in_round {n l : Nat} (hnd : ∀ (i : Nat) (o : Oper), ops[i]? = some o → ∀ c, o.op ≠ .defer c) (hL : ∀ a w, ¬ Q .outgrown a w) : ∀ (L : List Nat) (a : Act) (w : World), wpOps P ops Q L a w → wpOpsIn (Fence.wide.inRound l) n P ops Q L a w
  | [], _, _, h => h
  | i :: L, a, w, h => by
    unfold wpOps at h
    unfold wpOpsIn
    cases ho : ops[i]? with
    | none => simp only [ho] at h ⊢; exact ops_in_round hnd hL L a w h
    | some o =>
      simp only [ho] at h ⊢
      by_cases hw : Region.wanted o (yielded ops a.tmps) = true
      · simp only [hw, if_true] at h ⊢
        rcases h with h | ⟨_, a', w', h⟩
        · exact op_in_round (hnd i o ho) (fun a w h => ops_in_round hnd hL L a w h) h
        · exact (hL a' w' h).elim
      · simp only [hw] at h ⊢
        exact ⟨fun _ _ => trivial, ops_in_round hnd hL L _ w h⟩
theorem region_in_round {id n l : Nat} {a : Act} {w : World} {L : List Oper} (N : Nat) (S : World → Prop) (hN : L.length = N) (hnd : (L.all fun o => match o.op with | .defer _ => false | _ => true) = true) (hm : P.follows .mixedOrders = true) (hL : ∀ a w, ¬ Q .outgrown a w) (hS : S w.drew)
    (h : S w.drew → wpAnyH P .any L.toArray Q S N (Array.replicate N false) a w.drew) : (Code.region id L.toArray true).wpIn (Fence.wide.inRound l) n P Q a w := by
  have hnd' : ∀ (i : Nat) (o : Oper), L.toArray[i]? = some o → ∀ c, o.op ≠ .defer c := fun i o ho c hc => by
    rw [List.getElem?_toArray] at ho
    have := List.all_eq_true.1 hnd o (List.mem_of_getElem? ho)
    rw [hc] at this
    cases this
  subst hN
  refine wpIn_region_draw fun t => ?_
  simp only [Region.schedule, hm, Bool.true_or, if_true]
  exact ops_in_round hnd' hL _ _ _ (wpAny_sound L.toArray.size t _ a _ (wpAny_of_held _ _ _ _ (by have := h hS; simpa using this)))
end
end Go.Proofs.YtlnagdodnkhbmaaGreat

/- A range over a function whose iterator turns some blocks of its own that were there ahead of it. No program is named here. -/
namespace Go.Proofs.YtlnagdodnkhbmaaGreat
open Go.RowKit

/-- A state abides an iterator's step that may turn a block of M besides: as Abide. -/
def AbideM {α : Type} (M : Bl) (B : Nat) (J : List α → Bl → World → Prop) : Prop :=
  ∀ s K A A' row, J s K A → A.grownBy A' row → (∀ r, row = some r → (B ≤ r ∨ M r) ∧ K r) → ∀ K' : Bl, (∀ b, K' b → K b ∨ (A.heap.size ≤ b ∧ b < A'.heap.size)) → J s K' A'
theorem AbideM.less {α : Type} {M : Bl} {B : Nat} {J : List α → Bl → World → Prop} (h : AbideM M B J) {s : List α} {K : Bl} {W : World} (hJ : J s K W) {K' : Bl} (hK : ∀ b, K' b → K b) : J s K' W :=
  h s K W W none hJ (grown_refl W) (fun _ e => by cases e) K' fun b hb => .inl (hK b hb)
theorem AbideM.alloc {α : Type} {M : Bl} {B : Nat} {J : List α → Bl → World → Prop} (h : AbideM M B J) {s : List α} {K : Bl} {W : World} (hJ : J s K W) (o : Obj) : J s (fun b => K b ∨ b = W.heap.size) (W.alloc o) :=
  h s K W _ none hJ (World.grownBy_alloc W o none) (fun _ e => by cases e) _ fun b hb => hb.elim .inl fun e => .inr (by subst e; simp)

/-- What is asked of an iterator: the blocks of G are its own; those of M it may turn. -/
def GivesM {α : Type} (M : Bl) (P : Program) (g : Nat) (lb : Array Value) (encs : α → Array Value) (L : List α) (G : Bl) (w : World) : Prop :=
  ∀ (n l : Nat) (J Jx : List α → Bl → World → Prop) (K : Bl) (W : World), Stay G w W → (∀ b, G b → K b) → (∀ b, K b → b < W.heap.size) → AbideM M W.heap.size J → AbideM M W.heap.size Jx →
    (∀ m pre x K W1, J pre K W1 → (∀ b, K b → b < W1.heap.size) → pre ++ [x] <+: L → YieldAt Fence.wide m P l (encs x) W1 fun e W' =>
      (e = .returned (.bool true) ∧ J (pre ++ [x]) K W' ∧ Stay K W1 W') ∨ (e = .returned (.bool false) ∧ Jx (pre ++ [x]) K W' ∧ Stay K W1 W')) →
    J [] K W →
    CallsIn Fence.wide n P g (#[.func (.yield l) #[] #[]] ++ lb) W fun e W' => (∃ v, e = .returned v) ∧ (J L K W' ∨ (∃ pre, pre <+: L ∧ Jx pre K W'))

theorem range_ownM {α : Type} {n : Nat} {P : Program} {g : Operand} {ps : Array Tmp} {assign body : Code} {Q : Exit → Act → World → Prop} {a : Act} {w : World} {gf : Nat} {lb : Array Value}
    (hg : a.eval g = .func (.func gf) #[] lb) (eg : ∀ args w, (callFunc gf args).run P w = .ok (.enter gf args) w)
    {encs : α → Array Value} {L : List α} {G M : Bl} {w0 : World} (hseq : GivesM M P gf lb encs L G w0) (hst : Stay G w0 w) (hps : ∀ x, (encs x).size = ps.size)
    (I : List α → Bl → World → Prop) (Ix : Code → List α → Bl → World → Prop) (hMG : ∀ b, M b → G b) (hI : AbideM M w.heap.size I) (hIx : ∀ c, AbideM M w.heap.size (Ix c)) (K0 : Bl) (hGK : ∀ b, G b → K0 b) (hlt : ∀ b, K0 b → b < w.heap.size) (h0 : I [] K0 w)
    (hround : ∀ (l : Nat) (pre : List α) (x : α) (K : Bl) (W : World) (m : Nat), I pre K W → (∀ b, K b → b < W.heap.size) → K l → w.heap.size ≤ l → pre ++ [x] <+: L →
      assign.wpIn (Fence.wide.inRound l) m P (Exit.then (fun a1 W1 => Stay K W W1 ∧ ∀ W2, W1.grownBy W2 (some l) → body.wpIn (Fence.wide.inRound l) m P (postB I Ix (pre ++ [x]) K W2) a1 W2) (fun _ _ _ => False))
        { tmps := (ps.zip (encs x)).foldl (fun t (p, v) => t.setIfInBounds p v) a.tmps, defers := [] } W)
    (hdone : ∀ (D : Nat) (K : Bl) (W : World), I L K W → (∀ b, K0 b → K b) → K D → w.heap.size ≤ D → Shut W D → Q .normal { a with defers := mark D :: a.defers } W)
    (hstop : ∀ (D : Nat) (c : Code) (pre : List α) (K : Bl) (W : World), pre <+: L → Ix c pre K W → (∀ b, K0 b → K b) → K D → w.heap.size ≤ D → Shut W D → c.wpIn Fence.wide n P Q { a with defers := mark D :: a.defers } W) :
    (Code.rangeFunc g ps assign body).wpIn Fence.wide n P Q a w := by
  refine wpIn_rangeFunc fun fn hfn => ?_
  obtain ⟨rec, hrec⟩ : ∃ rec : LoopState → Option Code → Loop, rec = fun st pe => { state := st, pending := pe, fn, tmps := a.tmps, params := ps, assign, body, defers := w.heap.size } := ⟨_, rfl⟩
  obtain ⟨D, hD⟩ : ∃ D, D = w.heap.size := ⟨_, rfl⟩
  obtain ⟨l, hl⟩ : ∃ l, l = w.heap.size + 1 := ⟨_, rfl⟩
  obtain ⟨W1, hW1⟩ : ∃ W1, W1 = (w.alloc (.deferred (some []))).alloc (.loop (rec .ready none)) := ⟨_, rfl⟩
  have hg1 : w.grownBy W1 none := by
    rw [hW1]
    exact (World.grownBy_alloc w _ none).trans (World.grownBy_alloc _ _ none)
  have hsz : W1.heap.size = w.heap.size + 2 := by rw [hW1]; simp
  have hL1 : W1.heap[l]? = some (.loop (rec .ready none)) := by
    rw [hW1, hl]; have := World.alloc_heap_new (w.alloc (.deferred (some []))) (.loop (rec .ready none)); rwa [World.size_alloc] at this
  have hK1 : Shut W1 D := by
    unfold Shut; rw [hW1, hD]; exact (Below.heap_alloc _ _ _ (by simp)).trans (World.alloc_heap_new w _)
  have hnD : ¬ K0 D := fun h => by have := hlt D h; omega
  have hnl : ¬ K0 l := fun h => by have := hlt l h; omega
  have hDl : D ≠ l := by omega
  -- turning the record
  have turn : ∀ {c : List α → Bl → World → Prop}, AbideM M w.heap.size c → ∀ {s : List α} {K : Bl} {W : World} (o : Obj), c s K W → K l → c s K (W.putObj l o) := fun hc s K W o hs hKl =>
    hc s K W _ (some l) hs (putObj_grown W l o) (fun r e => by injection e with e; subst e; exact ⟨.inl (by omega), hKl⟩) K fun b hb => .inl hb
  have far : ∀ {W : World} (o : Obj), (W.putObj l o).heap[D]? = W.heap[D]? := fun o => World.putObj_heap_other hDl
  refine ⟨l, [mark D], W1, { target := .fn (.func gf) lb, args := #[.func (.yield l) #[] #[]] }, W1, gf, #[.func (.yield l) #[] #[]] ++ lb, W1, ?_, ?_, fun _ _ => trivial, ?_, fun h => (by cases h), ?_⟩
  · rw [hW1, hrec, hl, hD]; exact run_enterLoop_outer _ _ _ _ _
  · simp only [resolve, hg]
    simp [go_sem]
  · simp [invoke, go_sem, eg]
  · refine (hseq (n - 1) l
      (fun s K W => I s (fun b => K b ∨ b = D ∨ b = l) W ∧ ¬ K D ∧ ¬ K l ∧ W.heap[l]? = some (.loop (rec .ready none)) ∧ Shut W D)
      (fun s K W => ∃ c, Ix c s (fun b => K b ∨ b = D ∨ b = l) W ∧ ¬ K D ∧ ¬ K l ∧ W.heap[l]? = some (.loop (rec .done (some c))) ∧ Shut W D)
      K0 W1 (hst.trans ⟨hg1.size, fun b hb => hg1.block b (hlt b (hGK b hb)) (by simp)⟩) hGK (fun b hb => by have := hlt b hb; omega) ?_ ?_ ?_ ?_).mono ?_
    · rintro s K A A' row ⟨hi, h1, h2, h3, h4⟩ hgr hr K' hK'
      have hlA := (Array.getElem?_eq_some_iff.1 h3).1
      have hDA := (Array.getElem?_eq_some_iff.1 h4).1
      refine ⟨hI s _ A A' row hi hgr (fun r e => ⟨(hr r e).1.imp (fun h => by omega) id, .inl (hr r e).2⟩) _ fun b hb => ?_, fun h => ?_, fun h => ?_, ?_, ?_⟩
      · rcases hb with hb | hb
        · rcases hK' b hb with h | h
          · exact .inl (.inl h)
          · exact .inr h
        · exact .inl (.inr hb)
      · rcases hK' D h with h | h
        · exact h1 h
        · omega
      · rcases hK' l h with h | h
        · exact h2 h
        · omega
      · exact (hgr.block l hlA fun e => (hr l e.symm).1.elim (fun h => by omega) fun h => hnl (hGK l (hMG l h))).trans h3
      · exact (hgr.block D hDA fun e => (hr D e.symm).1.elim (fun h => by omega) fun h => hnD (hGK D (hMG D h))).trans h4
    · rintro s K A A' row ⟨c, hi, h1, h2, h3, h4⟩ hgr hr K' hK'
      have hlA := (Array.getElem?_eq_some_iff.1 h3).1
      have hDA := (Array.getElem?_eq_some_iff.1 h4).1
      refine ⟨c, hIx c s _ A A' row hi hgr (fun r e => ⟨(hr r e).1.imp (fun h => by omega) id, .inl (hr r e).2⟩) _ fun b hb => ?_, fun h => ?_, fun h => ?_, ?_, ?_⟩
      · rcases hb with hb | hb
        · rcases hK' b hb with h | h
          · exact .inl (.inl h)
          · exact .inr h
        · exact .inl (.inr hb)
      · rcases hK' D h with h | h
        · exact h1 h
        · omega
      · rcases hK' l h with h | h
        · exact h2 h
        · omega
      · exact (hgr.block l hlA fun e => (hr l e.symm).1.elim (fun h => by omega) fun h => hnl (hGK l (hMG l h))).trans h3
      · exact (hgr.block D hDA fun e => (hr D e.symm).1.elim (fun h => by omega) fun h => hnD (hGK D (hMG D h))).trans h4
    · rintro m pre x K W ⟨hi, h1, h2, h3, h4⟩ hKW hlen
      have hlW := (Array.getElem?_eq_some_iff.1 h3).1
      have hDW := (Array.getElem?_eq_some_iff.1 h4).1
      have hy := run_yield (P := P) (args := encs x) h3 (by rw [hrec]; exact hps x)
      rw [hrec] at hy
      refine ⟨fn, _, assign, body, hy, roundIn_of_wpIn hfn (wpIn_mono (hround l pre x _ W m hi (fun b hb => by rcases hb with hb | rfl | rfl <;> first | exact hKW b hb | assumption) (.inr (.inr rfl)) (by omega) hlen) ?_)⟩
      intro e a1 Wa hp
      cases e with
      | normal =>
        obtain ⟨hsa, hp⟩ := hp
        have h3a : Wa.heap[l]? = some (.loop (rec .ready none)) := (hsa.2 l (.inr (.inr rfl))).trans h3
        refine ⟨_, run_beginRound h3a (by rw [hrec]), wpIn_mono (hp _ (putObj_grown _ _ _)) ?_⟩
        have hla := (Array.getElem?_eq_some_iff.1 h3a).1
        have hl2 : (Wa.putObj l (.loop { rec .ready none with state := .busy })).heap[l]? = some (.loop { rec .ready none with state := .busy }) := World.putObj_heap_same hla
        have fin : ∀ (jump : Option Code) (W3 : World), Stay (fun b => K b ∨ b = D ∨ b = l) (Wa.putObj l (.loop { rec .ready none with state := .busy })) W3 →
            (Instr.endRound l jump).run P W3 = .ok (.bool jump.isNone) (W3.putObj l (.loop (rec (if jump.isNone then .ready else .done) jump))) ∧
            (W3.putObj l (.loop (rec (if jump.isNone then .ready else .done) jump))).heap[l]? = some (.loop (rec (if jump.isNone then .ready else .done) jump)) ∧
            Shut (W3.putObj l (.loop (rec (if jump.isNone then .ready else .done) jump))) D ∧ Stay K W (W3.putObj l (.loop (rec (if jump.isNone then .ready else .done) jump))) := fun jump W3 hs3 => by
          have hl3 := (hs3.2 l (.inr (.inr rfl))).trans hl2
          have := run_endRound (P := P) jump hl3
          rw [hrec] at this ⊢
          refine ⟨this, World.putObj_heap_same (Array.getElem?_eq_some_iff.1 hl3).1, ?_, ?_⟩
          · exact (far _).trans ((hs3.2 D (.inr (.inl rfl))).trans ((far _).trans ((hsa.2 D (.inr (.inl rfl))).trans h4)))
          · refine ((hsa.less fun b hb => .inl hb).trans (Stay.grown (putObj_grown _ _ _) (fun b hb => Nat.lt_of_lt_of_le (hKW b hb) hsa.1) (fun r e => by injection e with e; subst e; exact h2))).trans ((hs3.less fun b hb => .inl hb).trans (Stay.grown (putObj_grown _ _ _) (fun b hb => ?_) (fun r e => by injection e with e; subst e; exact h2)))
            have q1 := hKW b hb
            have q2 := hsa.1
            have q3 := hs3.1
            have q4 := (putObj_grown Wa l (.loop { rec .ready none with state := .busy })).size
            omega
        intro e a3 W3 hp
        cases e with
        | normal =>
          obtain ⟨hs3, hi3⟩ := hp
          obtain ⟨r1, r2, r3, r4⟩ := fin none W3 hs3
          exact ⟨_, _, r1, .inl ⟨rfl, ⟨turn hI _ hi3 (.inr (.inr rfl)), h1, h2, r2, r3⟩, r4⟩⟩
        | ret =>
          obtain ⟨hs3, hi3⟩ := hp
          obtain ⟨r1, r2, r3, r4⟩ := fin (some .ret) W3 hs3
          exact ⟨_, _, r1, .inr ⟨rfl, ⟨.ret, turn (hIx _) _ hi3 (.inr (.inr rfl)), h1, h2, r2, r3⟩, r4⟩⟩
        | exit id =>
          obtain ⟨hs3, hi3⟩ := hp
          obtain ⟨r1, r2, r3, r4⟩ := fin (some (.exit id)) W3 hs3
          exact ⟨_, _, r1, .inr ⟨rfl, ⟨.exit id, turn (hIx _) _ hi3 (.inr (.inr rfl)), h1, h2, r2, r3⟩, r4⟩⟩
        | goto t =>
          obtain ⟨hs3, hi3⟩ := hp
          obtain ⟨r1, r2, r3, r4⟩ := fin (some (.goto t)) W3 hs3
          exact ⟨_, _, r1, .inr ⟨rfl, ⟨.goto t, turn (hIx _) _ hi3 (.inr (.inr rfl)), h1, h2, r2, r3⟩, r4⟩⟩
        | panic ch => exact hp.elim
        | outgrown => exact hp.elim
      | ret => exact hp.elim
      | exit id => exact hp.elim
      | goto t => exact hp.elim
      | panic ch => exact hp.elim
      | outgrown => exact hp.elim
    · refine ⟨hI [] K0 w W1 none h0 hg1 (fun _ e => by cases e) _ fun b hb => ?_, hnD, hnl, hL1, hK1⟩
      rcases hb with hb | rfl | rfl
      · exact .inl hb
      · exact .inr (by omega)
      · exact .inr (by omega)
    · rintro e W2 ⟨⟨v, rfl⟩, ⟨hi, _, _, h3, h4⟩ | ⟨pre, hSp, c, hi, _, _, h3, h4⟩⟩
      · exact ⟨none, _, by have := run_endLoop (P := P) h3 (by rw [hrec]; simp); rw [hrec] at this; exact this, hdone D _ _ (turn hI _ hi (.inr (.inr rfl))) (fun b hb => .inl hb) (.inr (.inl rfl)) (by omega) ((far _).trans h4)⟩
      · exact ⟨some c, _, by have := run_endLoop (P := P) h3 (by rw [hrec]; simp); rw [hrec] at this; exact this, hstop D c pre _ _ hSp (turn (hIx c) _ hi (.inr (.inr rfl))) (fun b hb => .inl hb) (.inr (.inl rfl)) (by omega) ((far _).trans h4)⟩

section
variable {P : Program} {Q : Exit → Act → World → Prop}
/-- A region that keeps the text's order, in a round of a range over a function: what holds outside holds in it. -/
theorem region_in_round_list {id n l : Nat} {a : Act} {w : World} {L : List Oper} (hnd : (L.all fun o => match o.op with | .defer _ => false | _ => true) = true) (hL : ∀ a w, ¬ Q .outgrown a w)
    (h : wpList P L.toArray Q L a w) : (Code.region id L.toArray false).wpIn (Fence.wide.inRound l) n P Q a w := by
  have hnd' : ∀ (i : Nat) (o : Oper), L.toArray[i]? = some o → ∀ c, o.op ≠ .defer c := fun i o ho c hc => by
    rw [List.getElem?_toArray] at ho
    have := List.all_eq_true.1 hnd o (List.mem_of_getElem? ho)
    rw [hc] at this
    cases this
  refine wpIn_region (ops_in_round hnd' hL _ _ _ ?_)
  rw [List.range_eq_range', ← Array.length_toList, wpOps_eq_wpList L.toArray.toList 0 (by simp)]
  exact h
end
end Go.Proofs.YtlnagdodnkhbmaaGreat

