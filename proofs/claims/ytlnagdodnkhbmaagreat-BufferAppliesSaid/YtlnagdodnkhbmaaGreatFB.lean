import Derived.Test.YtlnagdodnkhbmaaGreatFA
import Derived.Lib.ConvBytes
import Derived.Deep.QuietTactic
import Derived.BigQuiet
import Derived.Test.YtlnagdodnkhbmaaGreatMA

namespace Go.Proofs.YtlnagdodnkhbmaaGreat
open Go.RowKit

/-- Bytes in a row that the call made. -/
def Fresh (w : World) (xs : List Nat) (e : Ending) (w' : World) : Prop :=
  ∃ u, e = .returned u ∧ Own .u8 w' 0 5 u xs ∧ Chg [] w w' (ownFoot u)
theorem Chg.nil_below {F : List Nat} {w w' : World} (h : Chg [] w w' F) : Below w.heap.size w w' := h.below (fun _ h => by cases h) (Nat.le_refl _)
theorem Chg.nil_from {F : List Nat} {w w' : World} (h : Chg [] w w' F) : ∀ k ∈ F, w.heap.size ≤ k := h.from_ (fun _ h => by cases h) (Nat.le_refl _)
theorem chg_of_own {w w' : World} {u : Value} {xs : List Nat} (h : Own .u8 w' w.heap.size 5 u xs) (hb : Below w.heap.size w w') : Chg [] w w' (ownFoot u) :=
  ⟨hb.os, hb.tape, hb.output, hb.size, fun k hk _ => hb.block k hk, fun k hk => .inr (h.blk k (mem_ownFoot.1 hk)).1⟩
theorem wbytes_fresh (w : World) (F : List Nat) (p : Value) (xs : List Nat) (hW : Wr w F p xs) (hl : xs.length ≤ 100000000000000) : Calls Tryz.prog 115 #[p] w (Fresh w xs) :=
  (wbytes w F p xs hW hl).mono fun _ _ ⟨u, he, ho, hb⟩ => ⟨u, he, ho.zero, chg_of_own ho hb⟩
/-- Behind an append onto a row of one's own. -/
theorem own_step {F : List Nat} {w w0 w1 : World} {v v' : Value} (hc : Chg F w w0 (ownFoot v)) (hg : w0.grownBy w1 v.ownBlock) (hf : ∀ b ∈ ownFoot v', b ∈ ownFoot v ∨ w0.heap.size ≤ b) : Chg F w w1 (ownFoot v') :=
  (hc.grown hg fun _ hk => mem_ownFoot.2 hk).less fun b hb => by
    rcases hf b hb with h | h
    · exact .inl h
    · exact .inr (Nat.le_trans hc.size h)

def GRel (w : World) (all : List Nat) (v : Value) (t r : Value) (wr : World) : Prop :=
  ∃ (cur : List Nat) (a b : Nat), t = .int .i64 a ∧ r = .int .i64 b ∧ a < 128 ∧ b < 9223372036854775808 ∧ Own .u8 wr 0 5 v cur ∧ cur ++ gr (a + 128 * b) = all ∧ Chg [] w wr (ownFoot v)

theorem bytesWorld_below (w : World) (e : TypeId) (s : ByteArray) : Below w.heap.size w (Lib.bytesWorld w e s) := by
  refine ⟨?_, ?_, ?_, by rw [Lib.bytesWorld_size]; omega, fun k hk => Lib.bytesWorld_at_old w e s k hk⟩ <;> simp [Lib.bytesWorld, World.freeze, World.alloc, World.drew, -World.alloc_eq, -World.drew_eq]
theorem bytesWorld_sl (w : World) (e : TypeId) (xs : List Nat) (hb : Byt xs) (hl : xs.length ≤ maxLen) : Sl .u8 (Lib.bytesWorld w e (str xs)) (.slice (some ⟨w.heap.size, 0, none⟩) xs.length (grownCap w xs.length 0 e)) xs := by
  refine ⟨_, _, rfl, grownCap_ge _ _ _ _, grownCap_le_maxLen _ _ _ _ hl, (fun h => by cases h), fun i b hi => ⟨_, rfl, ?_⟩⟩
  have hil : i < xs.length := (List.getElem?_eq_some_iff.1 hi).1
  rw [add_at, Lib.bytesWorld_cell w e (str xs) i (by rw [str_size]; exact hil), str_list, List.getD_eq_getElem?_getD, List.getElem?_map, hi]
  have := hb b (List.mem_of_getElem? hi)
  simp [Nat.mod_eq_of_lt this]

end Go.Proofs.YtlnagdodnkhbmaaGreat

namespace Go.Proofs.YtlnagdodnkhbmaaGreat
open Go.RowKit

def eqB (a b : List Nat) : Bool := decide (a = b)
theorem take_snoc_eq {xs ys : List Nat} {k x : Nat} (h : xs.take k = ys.take k) (hx : xs[k]? = some x) (hy : ys[k]? = some x) : xs.take (k + 1) = ys.take (k + 1) := by
  rw [List.take_add_one, List.take_add_one, hx, hy, h]
theorem eqB_no {a b : List Nat} (h : a.length ≠ b.length) : eqB a b = false := by
  unfold eqB; simp; intro e; exact h (by rw [e])
theorem eqB_at {a b : List Nat} {k x y : Nat} (hx : a[k]? = some x) (hy : b[k]? = some y) (h : x ≠ y) : eqB a b = false := by
  unfold eqB; simp; intro e; rw [e, hy] at hx; injection hx with hx; exact h hx.symm

/-- Do bytes begin with others? -/
def preB (xs ys : List Nat) : Bool := decide (ys <+: xs)
theorem preB_no {a b : List Nat} (h : a.length < b.length) : preB a b = false := by
  unfold preB; simp; intro e; have := e.length_le; omega
theorem preB_at {a b : List Nat} {k x y : Nat} (hx : a[k]? = some x) (hy : b[k]? = some y) (h : x ≠ y) : preB a b = false := by
  unfold preB; simp
  rintro ⟨c, rfl⟩
  rw [List.getElem?_append_left (List.getElem?_eq_some_iff.1 hy).1, hy] at hx
  injection hx with hx; exact h hx.symm
theorem preB_yes {a b : List Nat} (h : a.take b.length = b) : preB a b = true := by
  unfold preB; simp
  rw [← h]; exact List.take_prefix _ _

end Go.Proofs.YtlnagdodnkhbmaaGreat

namespace Go.Proofs.YtlnagdodnkhbmaaGreat
open Go.RowKit

/-- How many bytes go on. -/
def lead (xs : List Nat) : Nat := (xs.takeWhile (fun b => decide (128 ≤ b))).length
theorem lead_le (xs : List Nat) : lead xs ≤ xs.length := by unfold lead; exact (List.takeWhile_sublist _).length_le
theorem lead_go : ∀ (xs : List Nat) (k x : Nat), k < lead xs → xs[k]? = some x → 128 ≤ x
  | [], k, x, h, _ => by simp [lead] at h
  | y :: ys, k, x, h, hx => by
    unfold lead at h
    by_cases hy : 128 ≤ y
    · rw [List.takeWhile_cons_of_pos (by simpa using hy)] at h
      cases k with
      | zero => simp at hx; omega
      | succ k => exact lead_go ys k x (by unfold lead; simpa using h) (by simpa using hx)
    · rw [List.takeWhile_cons_of_neg (by simpa using hy)] at h
      simp at h
theorem lead_end : ∀ (xs : List Nat) (x : Nat), xs[lead xs]? = some x → x < 128
  | [], x, h => by simp at h
  | y :: ys, x, h => by
    by_cases hy : 128 ≤ y
    · have e : lead (y :: ys) = lead ys + 1 := by unfold lead; rw [List.takeWhile_cons_of_pos (by simpa using hy)]; simp
      rw [e] at h
      exact lead_end ys x (by simpa using h)
    · have e : lead (y :: ys) = 0 := by unfold lead; rw [List.takeWhile_cons_of_neg (by simpa using hy)]; simp
      rw [e] at h
      simp at h; omega

def Nums (w : World) (a b c : Nat) (e : Ending) (w' : World) : Prop :=
  e = .returned (.agg #[.int .i64 a, .int .i64 b, .int .i64 c]) ∧ Below w.heap.size w w'
end Go.Proofs.YtlnagdodnkhbmaaGreat

namespace Go.Proofs.YtlnagdodnkhbmaaGreat
open Go.RowKit

/-- The number's half without its first group, by k groups. -/
def half (t : List Nat) (k : Nat) : Nat := 64 * gval (t.take k)
theorem half_succ {t : List Nat} {k x : Nat} (hx : t[k]? = some x) : half t (k + 1) = half t k + x % 128 * (64 * 128 ^ k) := by
  unfold half
  rw [gval_take_succ hx, Nat.mul_add, Nat.mul_left_comm]
theorem half_mono (t : List Nat) {k l : Nat} (h : k ≤ l) : half t k ≤ half t l := by
  unfold half
  have := gval_take_le (t.take l) k
  rw [List.take_take, Nat.min_eq_left h] at this
  omega
def place (k : Nat) : Nat := 64 * 128 ^ (min k 8)
theorem place_at {k : Nat} (h : k ≤ 8) : place k = 64 * 128 ^ k := by unfold place; rw [Nat.min_eq_left h]
theorem place_succ {k : Nat} (h : k < 8) : place (k + 1) = place k * 128 := by
  rw [place_at (by omega), place_at (by omega), Nat.pow_succ, Nat.mul_assoc]
theorem place_stay {k : Nat} (h : 8 ≤ k) : place (k + 1) = place k := by unfold place; rw [Nat.min_eq_right h, Nat.min_eq_right (by omega)]
theorem place_le (k : Nat) : place k ≤ 64 * 128 ^ 8 := by unfold place; exact Nat.mul_le_mul_left _ (Nat.pow_le_pow_right (by omega) (by omega))

def NumsIf (w : World) (c : Bool) (x y z : Nat) (e : Ending) (w' : World) : Prop := Nums w (if c then x else 0) (if c then y else 0) (if c then z else 0) e w'

theorem nums_no {w w' : World} {x y z : Nat} {e : Ending} (h : Nums w 0 0 0 e w') : NumsIf w false x y z e w' := h
theorem nums_yes {w w' : World} {x y z : Nat} {e : Ending} (h : Nums w x y z e w') : NumsIf w true x y z e w' := h
theorem row_cells {w : World} {g : Nat} {a b c : Value} {t : TypeId} (h : w.heap[g]? = some (.cells #[a, b, c] t (0, 0))) :
    w.cell? ⟨g, 0, none⟩ = some a ∧ w.cell? ⟨g, 1, none⟩ = some b ∧ w.cell? ⟨g, 2, none⟩ = some c ∧ w.frozen? ⟨g, 0, none⟩ = false ∧ w.frozen? ⟨g, 1, none⟩ = false ∧ w.frozen? ⟨g, 2, none⟩ = false :=
  ⟨cell_of_row w g 0 _ t _ h, cell_of_row w g 1 _ t _ h, cell_of_row w g 2 _ t _ h, by simp [World.frozen?, h], by simp [World.frozen?, h], by simp [World.frozen?, h]⟩
theorem two_rows {w w2 : World} {a b c a' b' c' : Value} {t : TypeId} (h : Below ((w.alloc (.cells #[a, b, c] t)).alloc (.cells #[a', b', c'] t)).heap.size ((w.alloc (.cells #[a, b, c] t)).alloc (.cells #[a', b', c'] t)) w2) :
    (w2.cell? ⟨w.heap.size, 0, none⟩ = some a ∧ w2.cell? ⟨w.heap.size, 1, none⟩ = some b ∧ w2.cell? ⟨w.heap.size, 2, none⟩ = some c) ∧ w2.frozen? ⟨w.heap.size, 0, none⟩ = false ∧ w2.frozen? ⟨w.heap.size, 1, none⟩ = false ∧ w2.frozen? ⟨w.heap.size, 2, none⟩ = false ∧
    w2.cell? ⟨w.heap.size + 1, 0, none⟩ = some a' ∧ w2.cell? ⟨w.heap.size + 1, 1, none⟩ = some b' ∧ w2.cell? ⟨w.heap.size + 1, 2, none⟩ = some c' := by
  have h1 : w2.heap[w.heap.size]? = some (.cells #[a, b, c] t (0, 0)) := by
    rw [h.block _ (by simp; omega), Below.heap_alloc _ _ _ (by simp)]; exact heap_alloc_new w _
  have h2 : w2.heap[w.heap.size + 1]? = some (.cells #[a', b', c'] t (0, 0)) := by
    rw [h.block _ (by simp)]
    have := heap_alloc_new (w.alloc (.cells #[a, b, c] t)) (.cells #[a', b', c'] t)
    simpa using this
  obtain ⟨p1, p2, p3, p4, p5, p6⟩ := row_cells h1
  obtain ⟨q1, q2, q3, _⟩ := row_cells h2
  exact ⟨⟨p1, p2, p3⟩, p4, p5, p6, q1, q2, q3⟩

end Go.Proofs.YtlnagdodnkhbmaaGreat

namespace Go.Proofs.YtlnagdodnkhbmaaGreat
open Go.RowKit

theorem lead_at : ∀ (ys zs : List Nat) (b : Nat), (∀ x ∈ ys, 128 ≤ x ∧ x < 256) → b < 128 → lead (ys ++ b :: zs) = ys.length
  | [], zs, b, _, hb => by
    unfold lead; rw [List.nil_append, List.takeWhile_cons_of_neg (by simpa using hb)]
  | y :: ys, zs, b, h, hb => by
    have ih := lead_at ys zs b (fun x hx => h x (List.mem_cons_of_mem _ hx)) hb
    unfold lead at ih ⊢
    have := (h y List.mem_cons_self).1
    rw [List.cons_append, List.takeWhile_cons_of_pos (by simpa using this), List.length_cons, ih, List.length_cons]
theorem half_room {x0 : Nat} {t : List Nat} {l : Nat} (h9 : l ≤ 9) (h19 : l = 9 → ∀ x, (x0 :: t)[9]? = some x → x ≤ 1) : half t l + 63 < 9223372036854775808 := by
  unfold half
  rcases Nat.lt_or_ge l 9 with h | h
  · have h1 := gval_lt (t.take l)
    have h2 : 128 ^ (t.take l).length ≤ 128 ^ 8 := Nat.pow_le_pow_right (by omega) (by rw [List.length_take]; omega)
    have h3 : (128 : Nat) ^ 8 = 72057594037927936 := by decide
    omega
  · obtain rfl : l = 9 := by omega
    have h3 : (128 : Nat) ^ 8 = 72057594037927936 := by decide
    cases hx : t[8]? with
    | some x =>
      have h1 := h19 rfl x hx
      have h2 := gval_lt (t.take 8)
      have h4 : 128 ^ (t.take 8).length ≤ 128 ^ 8 := Nat.pow_le_pow_right (by omega) (by rw [List.length_take]; omega)
      have h5 := gval_take_succ hx
      have h6 : x % 128 * 128 ^ 8 ≤ 1 * 128 ^ 8 := Nat.mul_le_mul_right _ (by omega)
      rw [show (9 : Nat) = 8 + 1 from rfl, h5]
      omega
    | none =>
      have hl : t.length ≤ 8 := by simpa using hx
      have h2 := gval_lt (t.take 9)
      have h4 : 128 ^ (t.take 9).length ≤ 128 ^ 8 := Nat.pow_le_pow_right (by omega) (by rw [List.length_take]; omega)
      omega
theorem whole_val {x0 : Nat} {t : List Nat} {l : Nat} : 2 * (half t l + x0 % 128 / 2) + x0 % 2 = gval ((x0 :: t).take (l + 1)) := by
  unfold half
  simp only [List.take_succ_cons, gval]
  omega

end Go.Proofs.YtlnagdodnkhbmaaGreat

namespace Go.Proofs.YtlnagdodnkhbmaaGreat
open Go.RowKit

section
variable {F G F' G' : List Nat} {a b c w w' : World}
theorem Chg.wide (h : Chg F w w' F') (G : List Nat) : Chg (F ++ G) w w' (F' ++ G) :=
  ⟨h.os, h.tape, h.output, h.size, fun k hl hk => h.block k hl fun hF => hk (List.mem_append_left _ hF), fun k hk => by
    rcases List.mem_append.1 hk with hk | hk
    · rcases h.foot k hk with hh | hh
      · exact .inl (List.mem_append_left _ hh)
      · exact .inr hh
    · exact .inl (List.mem_append_right _ hk)⟩
theorem Chg.wideL (h : Chg F w w' F') (G : List Nat) : Chg (G ++ F) w w' (G ++ F') :=
  ⟨h.os, h.tape, h.output, h.size, fun k hl hk => h.block k hl fun hF => hk (List.mem_append_right _ hF), fun k hk => by
    rcases List.mem_append.1 hk with hk | hk
    · exact .inl (List.mem_append_left _ hk)
    · rcases h.foot k hk with hh | hh
      · exact .inl (List.mem_append_right _ hh)
      · exact .inr hh⟩
/-- A new block beside. -/
theorem Chg.add (h : Chg F a b G) (o : Obj) : Chg F a (b.alloc o) (b.heap.size :: G) :=
  ⟨(h.alloc o).os, (h.alloc o).tape, (h.alloc o).output, (h.alloc o).size, (h.alloc o).block, fun k hk => by
    rcases List.mem_cons.1 hk with rfl | hk
    · exact .inr h.size
    · exact h.foot k hk⟩
theorem Chg.left (h : Chg F a b (G ++ G')) : Chg F a b G := h.less fun _k hk => .inl (List.mem_append_left _ hk)
theorem Chg.right (h : Chg F a b (G ++ G')) : Chg F a b G' := h.less fun _k hk => .inl (List.mem_append_right _ hk)
end

theorem Apart.nilL (F : List Nat) : Apart [] F := fun _ h => by cases h
theorem Apart.new {F G : List Nat} {a b : World} (h : Chg [] a b G) (hl : ∀ k ∈ F, k < a.heap.size) : Apart G F := Apart.fresh h.nil_from hl
theorem Wr.out {G G' : List Nat} {w w' : World} {F : List Nat} {p : Value} {xs : List Nat} (h : Wr w F p xs) (hc : Chg G w w' G') (hap : Apart G F) : Wr w' F p xs := h.keep (hc.out h.lt hap)
theorem Rd.out {G G' : List Nat} {w w' : World} {g : Nat} {xs : List Nat} (h : Rd w g xs) (hc : Chg G w w' G') (hap : Apart G [g]) : Rd w' g xs := One.keep h (hc.out (fun k hk => by obtain rfl := List.mem_singleton.1 hk; exact One.lt h) hap g (List.mem_singleton.2 rfl))
theorem Rd.lt {w : World} {g : Nat} {xs : List Nat} (h : Rd w g xs) : ∀ k ∈ [g], k < w.heap.size := fun k hk => by obtain rfl := List.mem_singleton.1 hk; exact One.lt h

/-- A new reader. -/
theorem read_new (w : World) (v : Value) (xs : List Nat) (hs : Sl .u8 w v xs) :
    Calls Tryz.prog 87 #[v] w fun e w' => ∃ g, e = .returned (.pointer (some ⟨g, 0, none⟩)) ∧ Rd w' g xs ∧ Chg [] w w' [g] :=
  (rdnew_any w v xs hs).mono fun _ _ ⟨he, hw⟩ => ⟨w.heap.size, he, by rw [hw]; exact rd_new w xs, by rw [hw]; exact (Chg.refl [] w).add _⟩

theorem ab_str : (⟨#[97, 98]⟩ : ByteArray) = str [97, 98] := by
  apply ba_ext; rw [str_list]; rfl
theorem no_128_0 : NoGr [128, 0] := by
  intro n ys hn h
  by_cases h1 : n < 128
  · rw [gr_lt h1] at h; simp at h <;> omega
  · rw [gr_ge (by omega)] at h
    by_cases h2 : n / 128 < 128
    · rw [gr_lt h2] at h; simp at h <;> omega
    · rw [gr_ge (by omega)] at h; simp at h <;> omega
def woke : List Nat := [172, 2, 1, 2, 2, 97, 98]
theorem woke_eq : ((([] ++ gr (300 : Nat)) ++ gr (zig (-1))) ++ gr (zig 1)) ++ tx [97, 98] = woke := by
  rw [show zig (-1) = 1 by decide, show zig 1 = 2 by decide, show gr 300 = [172, 2] by (rw [gr_ge (by omega), gr_lt (by omega)]), show gr 1 = [1] from gr_lt (by omega), show gr 2 = [2] from gr_lt (by omega)]
  unfold tx
  rw [show gr [97, 98].length = [2] from gr_lt (by simp)]
  rfl
theorem woke_row {w : World} {e : TypeId} {fz : Nat × Nat} : Sl .u8 (w.alloc (.cells #[.int .u8 172, .int .u8 2, .int .u8 1, .int .u8 2, .int .u8 2, .int .u8 97, .int .u8 98] e fz)) (.slice (some ⟨w.heap.size, 0, none⟩) 7 7) woke := by
  refine Sl.row (xs := woke) (c := 7) (heap_alloc_new w _) (by simp [woke]) (by simp [maxLen]) ?_
  intro i x hi
  match i with
  | 0 | 1 | 2 | 3 | 4 | 5 | 6 => simp [woke] at hi ⊢; omega
  | i + 7 => simp [woke] at hi
theorem two_row {w : World} {e : TypeId} {fz : Nat × Nat} : Sl .u8 (w.alloc (.cells #[.int .u8 128, .int .u8 0] e fz)) (.slice (some ⟨w.heap.size, 0, none⟩) 2 2) [128, 0] := by
  refine Sl.row (xs := [128, 0]) (c := 2) (heap_alloc_new w _) (by simp) (by simp [maxLen]) ?_
  intro i x hi
  match i with
  | 0 | 1 => simp at hi ⊢; omega
  | i + 2 => simp at hi

end Go.Proofs.YtlnagdodnkhbmaaGreat

namespace Go.Proofs.YtlnagdodnkhbmaaGreat
open Go.RowKit

theorem Chg.far {F G G' : List Nat} {a b c : World} (h : Chg [] a b F) (hc : Chg G b c G') (hG : ∀ k ∈ G, a.heap.size ≤ k) : Chg [] a c F :=
  ⟨hc.os.trans h.os, hc.tape.trans h.tape, hc.output.trans h.output, Nat.le_trans h.size hc.size,
    fun k hk hF => (hc.block k (Nat.lt_of_lt_of_le hk h.size) fun hg => by have := hG k hg; omega).trans (h.block k hk hF), h.foot⟩

/-- FThree writers, and nothing else has turned since W. -/
structure FThree (W w : World) (Fx Fy Fz : List Nat) (px py pz : Value) (X Y Z : List Nat) : Prop where
  x : Wr w Fx px X
  y : Wr w Fy py Y
  z : Wr w Fz pz Z
  c : Chg [] W w (Fx ++ (Fy ++ Fz))
  xy : Apart Fx Fy
  xz : Apart Fx Fz
  yz : Apart Fy Fz
section
variable {W w w' : World} {Fx Fy Fz F' G G' : List Nat} {px py pz : Value} {X Y Z X' : List Nat}
theorem FThree.setX (h : FThree W w Fx Fy Fz px py pz X Y Z) (hw : Wr w' F' px X') (hc : Chg Fx w w' F') : FThree W w' F' Fy Fz px py pz X' Y Z :=
  ⟨hw, h.y.out hc h.xy, h.z.out hc h.xz, h.c.trans (hc.wide _), h.xy.chg hc h.y.lt, h.xz.chg hc h.z.lt, h.yz⟩
theorem FThree.setY (h : FThree W w Fx Fy Fz px py pz X Y Z) (hw : Wr w' F' py X') (hc : Chg Fy w w' F') : FThree W w' Fx F' Fz px py pz X X' Z :=
  ⟨h.x.out hc h.xy.symm, hw, h.z.out hc h.yz, h.c.trans ((hc.wide _).wideL _), (h.xy.symm.chg hc h.x.lt).symm, h.xz, h.yz.chg hc h.z.lt⟩
theorem FThree.setZ (h : FThree W w Fx Fy Fz px py pz X Y Z) (hw : Wr w' F' pz X') (hc : Chg Fz w w' F') : FThree W w' Fx Fy F' px py pz X Y X' :=
  ⟨h.x.out hc h.xz.symm, h.y.out hc h.yz.symm, hw, h.c.trans ((hc.wideL _).wideL _), h.xy, (h.xz.symm.chg hc h.x.lt).symm, (h.yz.symm.chg hc h.y.lt).symm⟩
theorem FThree.far (h : FThree W w Fx Fy Fz px py pz X Y Z) (hc : Chg G w w' G') (hG : ∀ k ∈ G, W.heap.size ≤ k) (hx : Apart G Fx) (hy : Apart G Fy) (hz : Apart G Fz) : FThree W w' Fx Fy Fz px py pz X Y Z :=
  ⟨h.x.out hc hx, h.y.out hc hy, h.z.out hc hz, h.c.far hc hG, h.xy, h.xz, h.yz⟩
theorem FThree.new_ (h : FThree W w Fx Fy Fz px py pz X Y Z) (hc : Chg [] w w' G') : FThree W w' Fx Fy Fz px py pz X Y Z :=
  h.far hc (fun _ h => by cases h) (Apart.nilL _) (Apart.nilL _) (Apart.nilL _)
end
theorem fthree_new (W : World) : FThree W (((W.alloc (.cells #[.slice none 0 0] 198)).alloc (.cells #[.slice none 0 0] 198)).alloc (.cells #[.slice none 0 0] 198)) [W.heap.size] [W.heap.size + 1] [W.heap.size + 1 + 1]
    (.pointer (some ⟨W.heap.size, 0, none⟩)) (.pointer (some ⟨W.heap.size + 1, 0, none⟩)) (.pointer (some ⟨W.heap.size + 1 + 1, 0, none⟩)) [] [] [] := by
  have h1 := wr_new W
  have h2 := wr_new (W.alloc (.cells #[.slice none 0 0] 198))
  have h3 := wr_new ((W.alloc (.cells #[.slice none 0 0] 198)).alloc (.cells #[.slice none 0 0] 198))
  have s1 : (W.alloc (.cells #[.slice none 0 0] 198)).heap.size = W.heap.size + 1 := by simp
  have s2 : ((W.alloc (.cells #[.slice none 0 0] 198)).alloc (.cells #[.slice none 0 0] 198)).heap.size = W.heap.size + 1 + 1 := by simp
  rw [s1] at h2
  rw [s2] at h3
  have a1 : ∀ w : World, Chg [] w (w.alloc (.cells #[.slice none 0 0] 198)) [] := fun w => (Chg.refl [] w).alloc _
  refine ⟨(h1.out (a1 _) (Apart.nilL _)).out (a1 _) (Apart.nilL _), h2.out (a1 _) (Apart.nilL _), h3, ?_, ?_, ?_, ?_⟩
  · refine ((((Chg.refl [] W).alloc _).alloc _).alloc _).less fun k hk => .inr ?_
    simp at hk; omega
  all_goals intro k h1 h2; simp at h1 h2; omega

/-- What Uint does, whatever the number. -/
def ucode (n : Int) : Int := if n < 0 then 10 else 0
def uenc (n : Int) : List Nat := if n < 0 then [] else gr n.toNat
theorem uenc_byt (n : Int) : Byt (uenc n) := by
  unfold uenc; split
  · exact Byt.nil
  · exact gr_byt _
theorem uenc_len {n : Int} (h : n ≤ 9223372036854775807) : (uenc n).length ≤ 9 := by
  unfold uenc; split
  · simp
  · exact gr_len9 (by omega)

end Go.Proofs.YtlnagdodnkhbmaaGreat

