import Derived.Test.YtlnagdodnkhbmaaGreatMA
import Derived.Test.YtlnagdodnkhbmaaGreatRows
import Derived.Lib.Strings

namespace Go.Proofs.YtlnagdodnkhbmaaGreat

theorem Byt.nil : Byt [] := fun _ h => by cases h
theorem Byt.head {x : Nat} {xs : List Nat} (h : Byt (x :: xs)) : x < 256 := h x List.mem_cons_self
theorem Byt.tail {x : Nat} {xs : List Nat} (h : Byt (x :: xs)) : Byt xs := fun b hb => h b (List.mem_cons_of_mem _ hb)
theorem Byt.right {xs ys : List Nat} (h : Byt (xs ++ ys)) : Byt ys := fun b hb => h b (List.mem_append_right _ hb)
theorem Byt.left {xs ys : List Nat} (h : Byt (xs ++ ys)) : Byt xs := fun b hb => h b (List.mem_append_left _ hb)

/-- A number's groups. -/
def gr (n : Nat) : List Nat := if n < 128 then [n] else (n % 128 + 128) :: gr (n / 128)
theorem gr_lt {n : Nat} (h : n < 128) : gr n = [n] := by rw [gr, if_pos h]
theorem gr_ge {n : Nat} (h : 128 ≤ n) : gr n = (n % 128 + 128) :: gr (n / 128) := by rw [gr, if_neg (by omega)]
theorem gr_byt (n : Nat) : Byt (gr n) := by
  induction n using Nat.strongRecOn with
  | _ n ih =>
    intro b hb
    by_cases h : n < 128
    · rw [gr_lt h] at hb; simp at hb; omega
    · rw [gr_ge (by omega)] at hb
      rcases List.mem_cons.1 hb with rfl | hb
      · omega
      · exact ih (n / 128) (by omega) b hb
theorem gr_pos (n : Nat) : 1 ≤ (gr n).length := by
  by_cases h : n < 128
  · rw [gr_lt h]; simp
  · rw [gr_ge (by omega)]; simp
theorem gr_ne (n : Nat) : gr n ≠ [] := by have := gr_pos n; intro h; rw [h] at this; simp at this
/-- As many groups as it takes. -/
theorem gr_len_le (k : Nat) : ∀ n, n < 128 ^ (k + 1) → (gr n).length ≤ k + 1 := by
  induction k with
  | zero => intro n h; rw [gr_lt (by simpa using h)]; simp
  | succ k ih =>
    intro n h
    by_cases h1 : n < 128
    · rw [gr_lt h1]; simp
    · rw [gr_ge (by omega)]
      have := ih (n / 128) (by rw [Nat.div_lt_iff_lt_mul (by omega)]; rw [Nat.pow_succ] at h; exact h)
      simp only [List.length_cons]; omega
theorem gr_len9 {n : Nat} (h : n < 9223372036854775808) : (gr n).length ≤ 9 := gr_len_le 8 n (by simpa using h)
theorem gr_len10 {n : Nat} (h : n < 18446744073709551616) : (gr n).length ≤ 10 := gr_len_le 9 n (Nat.lt_of_lt_of_le h (by decide))
theorem gr_mono : ∀ n m, n ≤ m → (gr n).length ≤ (gr m).length := by
  intro n
  induction n using Nat.strongRecOn with
  | _ n ih =>
    intro m h
    by_cases h1 : n < 128
    · rw [gr_lt h1]; exact gr_pos m
    · rw [gr_ge (n := n) (by omega), gr_ge (n := m) (by omega)]
      have := ih (n / 128) (by omega) (m / 128) (by omega)
      simp only [List.length_cons]; omega
/-- No groups begin others. -/
theorem gr_inj : ∀ n m (xs ys : List Nat), gr n ++ xs = gr m ++ ys → n = m ∧ xs = ys := by
  intro n
  induction n using Nat.strongRecOn with
  | _ n ih =>
    intro m xs ys h
    by_cases h1 : n < 128 <;> by_cases h2 : m < 128
    · rw [gr_lt h1, gr_lt h2] at h
      simp only [List.cons_append, List.nil_append, List.cons.injEq] at h
      exact h
    · rw [gr_lt h1, gr_ge (n := m) (by omega)] at h
      simp only [List.cons_append, List.cons.injEq] at h
      omega
    · rw [gr_ge (n := n) (by omega), gr_lt h2] at h
      simp only [List.cons_append, List.cons.injEq] at h
      omega
    · rw [gr_ge (n := n) (by omega), gr_ge (n := m) (by omega)] at h
      simp only [List.cons_append, List.cons.injEq] at h
      obtain ⟨e, h⟩ := h
      obtain ⟨e', hx⟩ := ih (n / 128) (by omega) (m / 128) xs ys h
      exact ⟨by omega, hx⟩

/-- The number of seven bits each, the lowest first. -/
def gval : List Nat → Nat
  | [] => 0
  | b :: bs => b % 128 + 128 * gval bs
theorem gval_lt (xs : List Nat) : gval xs < 128 ^ xs.length := by
  induction xs with
  | nil => simp [gval]
  | cons b bs ih => simp only [gval, List.length_cons, Nat.pow_succ]; omega
theorem gval_snoc (xs : List Nat) (b : Nat) : gval (xs ++ [b]) = gval xs + b % 128 * 128 ^ xs.length := by
  induction xs with
  | nil => simp [gval]
  | cons c cs ih =>
    simp only [List.cons_append, gval, ih, List.length_cons, Nat.pow_succ, Nat.mul_add]
    rw [show 128 * (b % 128 * 128 ^ cs.length) = b % 128 * (128 ^ cs.length * 128) by rw [Nat.mul_left_comm, Nat.mul_comm (128 ^ cs.length)]]
    omega
theorem gval_gr (n : Nat) : gval (gr n) = n := by
  induction n using Nat.strongRecOn with
  | _ n ih =>
    by_cases h : n < 128
    · rw [gr_lt h]; simp [gval]; omega
    · rw [gr_ge (by omega)]
      simp only [gval]
      rw [ih (n / 128) (by omega)]
      omega
/-- Bytes that go on, and one that does not, and is not empty, are a number's groups. -/
theorem gr_of : ∀ (xs : List Nat) (b : Nat), (∀ x ∈ xs, 128 ≤ x ∧ x < 256) → b < 128 → (0 < b ∨ xs = []) → gr (gval (xs ++ [b])) = xs ++ [b]
  | [], b, _, hb, _ => by
    simp only [List.nil_append, gval, Nat.mul_zero, Nat.add_zero]
    rw [Nat.mod_eq_of_lt hb, gr_lt hb]
  | x :: xs, b, hx, hb, h0 => by
    have h1 := hx x List.mem_cons_self
    have hb0 : 0 < b := by rcases h0 with h | h; exact h; cases h
    have ih := gr_of xs b (fun y hy => hx y (List.mem_cons_of_mem _ hy)) hb (.inl hb0)
    have hpos : 1 ≤ gval (xs ++ [b]) := by
      rw [gval_snoc, Nat.mod_eq_of_lt hb]
      have : 1 * 1 ≤ b * 128 ^ xs.length := Nat.mul_le_mul hb0 (Nat.pow_pos (by omega))
      omega
    simp only [List.cons_append, gval]
    rw [gr_ge (by omega)]
    rw [show (x % 128 + 128 * gval (xs ++ [b])) / 128 = gval (xs ++ [b]) by omega, ih]
    congr 1
    omega
/-- All but the last go on. -/
theorem gr_go (n : Nat) : ∃ ys b, gr n = ys ++ [b] ∧ (∀ x ∈ ys, 128 ≤ x ∧ x < 256) ∧ b < 128 ∧ (0 < b ∨ ys = []) := by
  induction n using Nat.strongRecOn with
  | _ n ih =>
    by_cases h : n < 128
    · exact ⟨[], n, by rw [gr_lt h]; rfl, by simp, h, .inr rfl⟩
    · obtain ⟨ys, b, e, hy, hb, h0⟩ := ih (n / 128) (by omega)
      refine ⟨(n % 128 + 128) :: ys, b, by rw [gr_ge (by omega), e]; rfl, ?_, hb, .inl ?_⟩
      · intro x hx
        rcases List.mem_cons.1 hx with rfl | hx
        · omega
        · exact hy x hx
      · rcases h0 with h0 | h0
        · exact h0
        · subst h0
          have hv : gval (gr (n / 128)) = n / 128 := gval_gr _
          rw [e] at hv
          simp [gval] at hv
          omega


theorem gval_append (xs ys : List Nat) : gval (xs ++ ys) = gval xs + 128 ^ xs.length * gval ys := by
  induction xs with
  | nil => simp [gval]
  | cons c cs ih =>
    simp only [List.cons_append, gval, ih, List.length_cons, Nat.pow_succ, Nat.mul_add]
    rw [show 128 * (128 ^ cs.length * gval ys) = 128 ^ cs.length * 128 * gval ys by rw [← Nat.mul_assoc, Nat.mul_comm 128]]
    omega
theorem gval_take_le (xs : List Nat) (k : Nat) : gval (xs.take k) ≤ gval xs := by
  have h := gval_append (xs.take k) (xs.drop k)
  rw [List.take_append_drop] at h
  omega
theorem gval_take_succ {xs : List Nat} {k x : Nat} (hx : xs[k]? = some x) : gval (xs.take (k + 1)) = gval (xs.take k) + x % 128 * 128 ^ k := by
  have hk : k < xs.length := (List.getElem?_eq_some_iff.1 hx).1
  rw [List.take_add_one, hx]
  simp only [Option.toList_some]
  rw [gval_snoc, List.length_take, Nat.min_eq_left (by omega)]
theorem pow_seven (k : Nat) : 2 ^ (k * 7) = 128 ^ k := by rw [Nat.mul_comm, Nat.pow_mul]
/-- Below ten groups no sum is too great. -/
theorem grp_room {V p k : Nat} (hV : V < 128 ^ k) (hp : p < 128) (hk : k ≤ 9) (hP : p * 128 ^ k < 18446744073709551616) : V + p * 128 ^ k < 18446744073709551616 := by
  rcases Nat.lt_or_ge k 9 with h | h
  · have h1 : 128 ^ (k + 1) ≤ 128 ^ 9 := Nat.pow_le_pow_right (by omega) (by omega)
    have h2 : p * 128 ^ k ≤ 127 * 128 ^ k := Nat.mul_le_mul_right _ (by omega)
    rw [Nat.pow_succ] at h1
    have h3 : (128 : Nat) ^ 9 < 18446744073709551616 := by decide
    omega
  · obtain rfl : k = 9 := by omega
    simp only [show (128 : Nat) ^ 9 = 9223372036854775808 by decide] at hV hP ⊢
    omega
theorem grp_fits {p k : Nat} (hp : p < 128) (hk : k ≤ 9) (h : k < 9 ∨ p < 2) : p * 128 ^ k < 18446744073709551616 := by
  rcases Nat.lt_or_ge k 9 with h9 | h9
  · have h1 : 128 ^ (k + 1) ≤ 128 ^ 9 := Nat.pow_le_pow_right (by omega) (by omega)
    have h2 : p * 128 ^ k ≤ 127 * 128 ^ k := Nat.mul_le_mul_right _ (by omega)
    rw [Nat.pow_succ] at h1
    have h3 : (128 : Nat) ^ 9 < 18446744073709551616 := by decide
    omega
  · obtain rfl : k = 9 := by omega
    simp only [show (128 : Nat) ^ 9 = 9223372036854775808 by decide]
    omega
/-- No groups stand there. -/
def NoGr (xs : List Nat) : Prop := ∀ n ys, n < 18446744073709551616 → xs ≠ gr n ++ ys
theorem gr_found {xs : List Nat} {k x : Nat} (h : NoGr xs) (hb : Byt xs) (hx : xs[k]? = some x) (hgo : ∀ y ∈ xs.take k, 128 ≤ y) (hlt : x < 128) (h0 : 0 < x ∨ k = 0) (hk : k ≤ 9) (hP : x % 128 * 128 ^ k < 18446744073709551616) : False := by
  have hkl : k < xs.length := (List.getElem?_eq_some_iff.1 hx).1
  have h1 := gr_of (xs.take k) x (fun y hy => ⟨hgo y hy, hb.take k y hy⟩) hlt (by rcases h0 with h0 | h0; exact .inl h0; subst h0; exact .inr rfl)
  refine h (gval (xs.take k ++ [x])) (xs.drop (k + 1)) ?_ ?_
  · rw [gval_snoc, List.length_take, Nat.min_eq_left (by omega)]
    have hV := gval_lt (xs.take k)
    rw [List.length_take, Nat.min_eq_left (by omega)] at hV
    exact grp_room hV (by omega) hk hP
  · rw [h1, List.append_assoc, List.singleton_append]
    have : xs.drop k = x :: xs.drop (k + 1) := by
      rw [List.drop_eq_getElem_cons hkl]
      congr 1
      rw [List.getElem?_eq_getElem hkl] at hx
      injection hx
    rw [← this, List.take_append_drop]
theorem gr_dec (xs : List Nat) : (∃ n ys, n < 18446744073709551616 ∧ xs = gr n ++ ys) ∨ NoGr xs := by
  by_cases h : ∃ n ys, n < 18446744073709551616 ∧ xs = gr n ++ ys
  · exact .inl h
  · exact .inr fun n ys hn e => h ⟨n, ys, hn, e⟩

/-- A number as groups of it twice, or of -1 less it, twice, and 1. -/
def zig (n : Int) : Nat := if n < 0 then ((-1 - n) * 2 + 1).toNat else (n * 2).toNat
theorem zig_neg {n : Int} (h : n < 0) : zig n = ((-1 - n) * 2 + 1).toNat := by unfold zig; rw [if_pos h]
theorem zig_pos {n : Int} (h : 0 ≤ n) : zig n = (n * 2).toNat := by unfold zig; rw [if_neg (by omega)]
theorem zig_lt {n : Int} (h1 : -9223372036854775808 ≤ n) (h2 : n ≤ 9223372036854775807) : zig n < 18446744073709551616 := by
  unfold zig; split <;> omega
theorem zig_even {n : Int} (h : 0 ≤ n) : zig n % 2 = 0 ∧ ((zig n / 2 : Nat) : Int) = n := by rw [zig_pos h]; omega
theorem zig_odd {n : Int} (h : n < 0) : zig n % 2 = 1 ∧ -1 - ((zig n / 2 : Nat) : Int) = n := by rw [zig_neg h]; omega

/-- What is written of a text. -/
def tx (t : List Nat) : List Nat := gr t.length ++ t
theorem tx_byt {t : List Nat} (h : Byt t) : Byt (tx t) := (gr_byt _).app h
end Go.Proofs.YtlnagdodnkhbmaaGreat

namespace Go.Proofs.YtlnagdodnkhbmaaGreat
open Go.RowKit

theorem finfo8 : (Tryz.prog.info? 5).map (fun i => (i.zero, i.size, i.bytes)) = some (some (.int .u8 0), 1, 1) := by kernel_rfl

/-- A writer: where it lies, what it has written. -/
def Wr (w : World) (F : List Nat) (p : Value) (xs : List Nat) : Prop :=
  ∃ g v, p = .pointer (some ⟨g, 0, none⟩) ∧ One w g 198 v ∧ Own .u8 w 0 5 v xs ∧ F = g :: ownFoot v
theorem Wr.keep {w w' : World} {F : List Nat} {p : Value} {xs : List Nat} (h : Wr w F p xs) (hk : ∀ b ∈ F, w'.heap[b]? = w.heap[b]?) : Wr w' F p xs := by
  obtain ⟨g, v, rfl, h1, h2, rfl⟩ := h
  exact ⟨g, v, rfl, h1.keep (hk g List.mem_cons_self), h2.keep (fun b hb => hk b (List.mem_cons_of_mem _ hb)), rfl⟩
theorem Wr.lt {w : World} {F : List Nat} {p : Value} {xs : List Nat} (h : Wr w F p xs) : ∀ b ∈ F, b < w.heap.size := by
  obtain ⟨g, v, rfl, h1, h2, rfl⟩ := h
  intro b hb
  rcases List.mem_cons.1 hb with rfl | hb
  · exact h1.lt
  · exact h2.lt b hb

theorem one_row {w : World} {b : Nat} {e : TypeId} {fz : Nat × Nat} {z : Int} (hz : z = (b : Int)) : Sl .u8 (w.alloc (.cells #[.int .u8 z] e fz)) (.slice (some ⟨w.heap.size, 0, none⟩) 1 1) [b] := by
  subst hz
  refine Sl.row (xs := [b]) (c := 1) (heap_alloc_new w _) (by simp) (by simp [maxLen]) ?_
  intro i x hi
  match i with
  | 0 => simp at hi ⊢; omega
  | i + 1 => simp at hi

/-- What a store of what append gave leaves of a writer. -/
theorem wr_step {w w0 w1 : World} {F : List Nat} {g : Nat} {v v' : Value} {xs ys : List Nat} (h1 : One w0 g 198 v) (hown : Own .u8 w0 0 5 v xs) (hc : Chg F w w0 (g :: ownFoot v))
    (hown' : Own .u8 w1 0 5 v' ys) (hg : w0.grownBy w1 v.ownBlock) (hf : ∀ b ∈ ownFoot v', b ∈ ownFoot v ∨ w0.heap.size ≤ b) :
    Hid (One (w1.setCell ⟨g, 0, none⟩ v') g 198 v') ∧ Own .u8 (w1.setCell ⟨g, 0, none⟩ v') 0 5 v' ys ∧ Chg F w (w1.setCell ⟨g, 0, none⟩ v') (g :: ownFoot v') := by
  have hgv : g ∉ ownFoot v := hown.ne_ h1 (by decide)
  have h11 : One w1 g 198 v := h1.keep (hg.block g h1.lt fun e => hgv (mem_ownFoot.2 e.symm))
  have hgv' : g ∉ ownFoot v' := hown'.ne_ h11 (by decide)
  refine ⟨h11.set _, hown'.set_far hgv' _, ?_⟩
  have a1 : Chg F w w1 (g :: ownFoot v) := hc.grown hg (fun k hk => List.mem_cons_of_mem _ (mem_ownFoot.2 hk))
  refine (a1.setCell (p := ⟨g, 0, none⟩) List.mem_cons_self v').less fun b hb => ?_
  rcases List.mem_cons.1 hb with rfl | hb
  · exact .inl List.mem_cons_self
  · rcases hf b hb with h | h
    · exact .inl (List.mem_cons_of_mem _ h)
    · exact .inr (Nat.le_trans hc.size h)

theorem wr_mid {w0 w1 : World} {g : Nat} {v : Value} {xs : List Nat} (h1 : One w0 g 198 v) (hown : Own .u8 w0 0 5 v xs) (hg : w0.grownBy w1 v.ownBlock) :
    w1.cell? ⟨g, 0, none⟩ = some v ∧ w1.frozen? ⟨g, 0, none⟩ = false := by
  have h11 : One w1 g 198 v := h1.keep (hg.block g h1.lt fun e => hown.ne_ h1 (by decide) (mem_ownFoot.2 e.symm))
  exact ⟨h11.cell, h11.frozen⟩

theorem Own.slice {k : IntKind} {w : World} {base : Nat} {e : TypeId} {v : Value} {xs : List Nat} (h : Own k w base e v xs) : ∃ A n c, v = .slice A n c := by
  rcases h.2 with ⟨rfl, _⟩ | ⟨g', cap, cur, rfl, _⟩
  · exact ⟨_, _, _, rfl⟩
  · exact ⟨_, _, _, rfl⟩

def GrRel (w : World) (F : List Nat) (g : Nat) (all : List Nat) (u : Value) (wr : World) : Prop :=
  ∃ (m : Nat) (v : Value) (cur : List Nat), u = .int .u64 m ∧ m < 18446744073709551616 ∧ One wr g 198 v ∧ Own .u8 wr 0 5 v cur ∧ cur ++ gr m = all ∧ Chg F w wr (g :: ownFoot v)

set_option maxHeartbeats 400000 in
set_option maxRecDepth 100000 in
theorem wgroups (w : World) (F : List Nat) (p : Value) (xs : List Nat) (n : Nat) (hW : Wr w F p xs) (hn : n < 18446744073709551616) (hl : xs.length ≤ 1000000000000) :
    Calls Tryz.prog 141 #[p, .int .u64 n] w fun e w' => e = .returned (.tuple #[]) ∧ ∃ F', Wr w' F' p (xs ++ gr n) ∧ Chg F w w' F' := by
  obtain ⟨i0, hi, hz0, hz1, hz2⟩ := info_parts finfo8
  obtain ⟨g, v0, rfl, hone, hown, rfl⟩ := hW
  obtain ⟨all, HA⟩ : ∃ all, Hid (all = xs ++ gr n) := ⟨_, rfl⟩
  have hla : all.length ≤ 1000000000010 := by rw [HA.out, List.length_append]; have := gr_len10 hn; omega
  rw [← HA.out]
  obtain ⟨F, HF⟩ : ∃ F, Hid (F = g :: ownFoot v0) := ⟨_, rfl⟩
  rw [← HF.out]
  have hrel0 : GrRel w F g all (.int .u64 n) w := ⟨n, v0, xs, rfl, hn, hone, hown, HA.out.symm, HF.out ▸ Chg.refl _ w⟩
  clear hone hown hl hn
  go_enter Tryz.func141, Tryz.ntmps141
  go_wp2
  go_loopw [1] (fun u wr => GrRel w F g all u wr) (fun u _ => (intOf u).toNat)
  case atStart => exact hrel0
  case round =>
    clear hrel0
    obtain ⟨m, v, cur, rfl, hm, hone, hown, hcur, hchg⟩ := hrel
    have hcell := hone.cell
    have hfr := hone.frozen
    have HC := hid hcur
    have hlc : cur.length < 1000000000011 := by have := congrArg List.length hcur; rw [List.length_append] at this; omega
    have HONE := hid hone
    have HM := hid hm
    clear hcur hone hm
    by_cases h128 : 128 ≤ m
    · go_wp2_with (at_builtin; refine wpList_append_at _ rfl (.tmp 12) (.tmp 17) 113 rfl 5 i0 (.int .u8 0) 1 Tryz.underlying113 hi hz0 hz1 hz2 rfl .u8 v cur rfl (hown.alloc _) _ [m % 128 + 128] rfl (one_row (by omega)) (by unfold maxLen; simp; omega) (by simp; omega) ?_; intro v' w1 hown1 hgrow1 hf1; have HST := wr_step (HONE.out.alloc _) (hown.alloc _) (hchg.alloc _) hown1 hgrow1 hf1; obtain ⟨hcell1, hfr1⟩ := wr_mid (HONE.out.alloc _) (hown.alloc _) hgrow1; obtain ⟨A', n', c', rfl⟩ := hown1.slice; clear hown1 hgrow1 hf1)
      go_roundw
      case rel =>
        obtain ⟨q1, q2, q3⟩ := HST
        refine ⟨m / 128, _, _, ?_, ?_, q1.out, q2, ?_, q3⟩
        · go_num
        · have := HM.out; omega
        · rw [List.append_assoc, List.singleton_append, ← gr_ge (by omega)]; exact HC.out
      case measure => simp [intOf]; omega
    · have hlt : m < 128 := by omega
      have hlt' : (m : Int) < 128 := by omega
      clear h128
      go_wp2_with (at_builtin; refine wpList_append_at _ rfl (.tmp 25) (.tmp 28) 113 rfl 5 i0 (.int .u8 0) 1 Tryz.underlying113 hi hz0 hz1 hz2 rfl .u8 v cur rfl (hown.alloc _) _ [m] rfl (one_row (by omega)) (by unfold maxLen; simp; omega) (by simp; omega) ?_; intro v' w1 hown1 hgrow1 hf1; have HST := wr_step (HONE.out.alloc _) (hown.alloc _) (hchg.alloc _) hown1 hgrow1 hf1; obtain ⟨hcell1, hfr1⟩ := wr_mid (HONE.out.alloc _) (hown.alloc _) hgrow1; obtain ⟨A', n', c', rfl⟩ := hown1.slice; clear hown1 hgrow1 hf1)
      go_end0
      obtain ⟨q1, q2, q3⟩ := HST
      have hc := HC.out
      rw [gr_lt hlt] at hc
      rw [hc] at q2
      exact ⟨rfl, _, ⟨g, _, rfl, q1.out, q2, rfl⟩, q3⟩
end Go.Proofs.YtlnagdodnkhbmaaGreat

namespace Go.Proofs.YtlnagdodnkhbmaaGreat
open Go.RowKit

theorem wr_new (w : World) : Wr (w.alloc (.cells #[.slice none 0 0] 198)) [w.heap.size] (.pointer (some ⟨w.heap.size, 0, none⟩)) [] :=
  ⟨w.heap.size, .slice none 0 0, rfl, One.new _ _ _, Own.nil _ _ _ _, rfl⟩
theorem Wr.ptr {w : World} {F : List Nat} {p : Value} {xs : List Nat} (h : Wr w F p xs) : ∃ g, p = .pointer (some ⟨g, 0, none⟩) := by
  obtain ⟨g, v, rfl, _⟩ := h; exact ⟨g, rfl⟩

/-- What a call that writes leaves. -/
def Wrote (w : World) (F : List Nat) (p : Value) (xs : List Nat) (c : Int) (e : Ending) (w' : World) : Prop :=
  e = .returned (.int .i64 c) ∧ ∃ F', Wr w' F' p xs ∧ Chg F w w' F'

theorem wint_nil (w : World) (n : Int) :
    Calls Tryz.prog 114 #[.pointer none, .int .i64 n] w fun e w' => e = .returned (.int .i64 2) ∧ w = w' := by
  go_enter Tryz.func114, Tryz.ntmps114
  go_wp2
  go_ret
  exact ⟨rfl, rfl⟩
theorem wbytes_nil (w : World) :
    Calls Tryz.prog 115 #[.pointer none] w fun e w' => e = .returned (.slice none 0 0) ∧ w = w' := by
  go_enter Tryz.func115, Tryz.ntmps115
  go_wp2
  go_ret
  exact ⟨rfl, rfl⟩

set_option maxRecDepth 100000 in
theorem wint (w : World) (F : List Nat) (p : Value) (xs : List Nat) (n : Int) (hW : Wr w F p xs) (h1 : -9223372036854775808 ≤ n) (h2 : n ≤ 9223372036854775807) (hl : xs.length ≤ 1000000000000) :
    Calls Tryz.prog 114 #[p, .int .i64 n] w (Wrote w F p (xs ++ gr (zig n)) 0) := by
  obtain ⟨g, rfl⟩ := hW.ptr
  have H64 := hid (zig_lt h1 h2)
  by_cases hn : n < 0
  · obtain ⟨m, rfl⟩ : ∃ m : Nat, n = -1 - (m : Int) := ⟨(-1 - n).toNat, by omega⟩
    have hm : (m : Int) ≤ 9223372036854775807 := by omega
    have hz : zig (-1 - (m : Int)) = m * 2 + 1 := by rw [zig_neg (by omega)]; omega
    rw [hz] at H64 ⊢
    have e1 : -1 - (-1 - (m : Int)) = m := by omega
    have hcv : IntKind.u64.wrap (m : Int) = m := IntWalk.u64_in _ (by omega)
    have hcw : IntKind.u64.wrap ((m : Int) * 2) = (m : Int) * 2 := IntWalk.u64_in _ (by omega)
    clear hz
    go_enter Tryz.func114, Tryz.ntmps114
    go_wp2_with fail
    refine (wgroups w F _ xs (m * 2 + 1) hW H64.out hl).mono ?_
    rintro e w' ⟨rfl, hr⟩
    go_wp2
    go_ret
    exact ⟨rfl, hr⟩
  · obtain ⟨m, rfl⟩ : ∃ m : Nat, n = (m : Int) := ⟨n.toNat, by omega⟩
    have hm : (m : Int) ≤ 9223372036854775807 := by omega
    have hz : zig (m : Int) = m * 2 := by rw [zig_pos (by omega)]; omega
    rw [hz] at H64 ⊢
    have hlo : 0 ≤ (m : Int) := by omega
    clear hz
    go_enter Tryz.func114, Tryz.ntmps114
    go_wp2_with fail
    refine (wgroups w F _ xs (m * 2) hW H64.out hl).mono ?_
    rintro e w' ⟨rfl, hr⟩
    go_wp2
    go_ret
    exact ⟨rfl, hr⟩
end Go.Proofs.YtlnagdodnkhbmaaGreat

namespace Go.Proofs.YtlnagdodnkhbmaaGreat
open Go.RowKit

theorem tx_length (t : List Nat) : (tx t).length = (gr t.length).length + t.length := by unfold tx; rw [List.length_append]

theorem own_empty (w : World) : Own .u8 (w.alloc (.cells #[] 5)) 0 5 (.slice (some ⟨w.heap.size, 0, none⟩) 0 0) [] :=
  ⟨by simp, .inr ⟨w.heap.size, 0, #[], rfl, Nat.zero_le _, heap_alloc_new w _, Nat.le_refl _, Nat.zero_le _, by simp, by simp⟩⟩

theorem bclone_any (w : World) (v : Value) (xs : List Nat) (hs : Sl .u8 w v xs) (hl : xs.length ≤ 100000000000000) :
    Calls Tryz.prog 142 #[v] w fun e w' => ∃ u, e = .returned u ∧ Own .u8 w' w.heap.size 5 u xs ∧ Below w.heap.size w w' := by
  obtain ⟨i0, hi, hz0, hz1, hz2⟩ := info_parts finfo8
  have HS := hid hs
  obtain ⟨A, cap, rfl, hlc, hm, hn, hx⟩ := hs
  cases A with
  | none =>
    have hy : xs = [] := by
      cases xs with
      | nil => rfl
      | cons y ys => obtain ⟨ad, hA, _⟩ := hx 0 y rfl; cases hA
    subst hy
    have hc0 := hn rfl
    subst hc0
    clear hx hn hlc
    have he := fun (W : World) => Lib.run_eql_slice_nil (P := Tryz.prog) (w := W) 113 5 none 0 0 0 0 Tryz.underlying113
    go_enter Tryz.func142, Tryz.ntmps142
    go_wp2
    go_ret
    exact ⟨_, rfl, Own.nil _ _ _ _, Below.refl _ _⟩
  | some ad =>
    obtain ⟨len, HL⟩ : ∃ len, Hid (len = xs.length) := ⟨_, rfl⟩
    rw [← HL.out] at HS hlc hl ⊢
    clear hx hn
    have he := fun (W : World) => Lib.run_eql_slice_nil (P := Tryz.prog) (w := W) 113 5 (some ad) len cap 0 0 Tryz.underlying113
    go_enter Tryz.func142, Tryz.ntmps142
    go_wp2_with (at_builtin; refine wpList_append_at _ rfl (.tmp 5) (.tmp 6) 113 rfl 5 i0 (.int .u8 0) 1 Tryz.underlying113 hi hz0 hz1 hz2 rfl .u8 (.slice (some ⟨w.heap.size, 0, none⟩) 0 0) [] rfl (own_empty w) _ xs rfl (HS.out.alloc _) (by rw [← HL.out]; unfold maxLen; simp; omega) (by rw [← HL.out]; simp; omega) ?_; intro v' w1 hown1 hgrow1 hf1)
    go_ret
    refine ⟨_, rfl, ?_, ?_⟩
    · rw [List.nil_append] at hown1
      refine hown1.at_ fun b hb => ?_
      rcases hf1 b hb with h | h
      · simp [ownFoot, Value.ownBlock] at h; omega
      · simp at h; omega
    · exact ((Below.refl _ _).alloc (Nat.le_refl _) _).grown hgrow1 (by simp) (fun k hk => by simp [Value.ownBlock] at hk; omega)

theorem wbytes (w : World) (F : List Nat) (p : Value) (xs : List Nat) (hW : Wr w F p xs) (hl : xs.length ≤ 100000000000000) :
    Calls Tryz.prog 115 #[p] w fun e w' => ∃ u, e = .returned u ∧ Own .u8 w' w.heap.size 5 u xs ∧ Below w.heap.size w w' := by
  obtain ⟨g, v, rfl, hone, hown, rfl⟩ := hW
  have hcell := hone.cell
  have HS := hid hown.sl
  clear hone hown
  go_enter Tryz.func115, Tryz.ntmps115
  go_wp2_with fail
  refine (bclone_any w v xs HS.out hl).mono ?_
  rintro e w' ⟨u, rfl, hu, hb⟩
  have HU := hid hu
  clear hu
  go_wp2
  go_ret
  exact ⟨u, rfl, HU.out, hb⟩
end Go.Proofs.YtlnagdodnkhbmaaGreat

namespace Go.Proofs.YtlnagdodnkhbmaaGreat
open Go.RowKit

theorem str_take (xs : List Nat) (n : Nat) : (str xs).extract 0 n = str (xs.take n) := by
  apply ba_ext
  rw [str_list, ByteArray.data_extract, Array.toList_extract, str_list]
  simp [List.extract_eq_take_drop]

theorem shl_ok {x k : Nat} (h : x % 128 * 128 ^ k < 18446744073709551616) :
    IntKind.u64.wrap ((x : Int) % 128 * 2 ^ (k * 7)) = ((x % 128 * 128 ^ k : Nat) : Int) ∧ ((x % 128 * 128 ^ k : Nat) : Int) / 2 ^ (k * 7) = (x : Int) % 128 := by
  have e : (x : Int) % 128 * 2 ^ (k * 7) = ((x % 128 * 128 ^ k : Nat) : Int) := by
    rw [← pow_seven]; push_cast; rfl
  have hpos : 0 < 128 ^ k := Nat.pow_pos (by omega)
  refine ⟨by rw [e]; exact IntWalk.u64_in _ (by omega), ?_⟩
  rw [show (2 : Int) ^ (k * 7) = ((128 ^ k : Nat) : Int) by rw [← pow_seven]; push_cast; rfl]
  rw [← Int.natCast_ediv, Nat.mul_div_cancel _ hpos]
  omega
theorem shl_no {x k : Nat} (h : 2 ≤ x % 128) (hk : k = 9) : ∃ P : Int, IntKind.u64.wrap ((x : Int) % 128 * 2 ^ (k * 7)) = P ∧ (P / 2 ^ (k * 7) != (x : Int) % 128) = true := by
  subst hk
  refine ⟨_, rfl, ?_⟩
  simp only [IntKind.wrap, IntKind.bits, IntKind.signed]
  simp
  omega

theorem ret_rd {a : Int} {N : Nat} (h : a = N) : Ending.returned (.tuple #[.int .u64 a, .int .i64 0]) = .returned (.tuple #[.int .u64 (N : Int), .int .i64 0]) := by rw [h]
def RdPost (w : World) (g : Nat) (N : Nat) (rest : List Nat) (e : Ending) (w' : World) : Prop :=
  e = .returned (.tuple #[.int .u64 N, .int .i64 0]) ∧ w' = w.setCell ⟨g, 0, none⟩ (.string (str rest))

/-- A reader: what is left of its bytes. -/
def Rd (w : World) (g : Nat) (xs : List Nat) : Prop := One w g 204 (.string (str xs))

set_option maxRecDepth 100000 in
theorem rgroups_yes (w : World) (g : Nat) (N : Nat) (rest : List Nat) (hR : Rd w g (gr N ++ rest)) (hb : Byt rest) (hN : N < 18446744073709551616) (hl : rest.length ≤ 1000000000000) :
    Calls Tryz.prog 145 #[.pointer (some ⟨g, 0, none⟩)] w (RdPost w g N rest) := by
  have hcell := One.cell hR
  have hfr := One.frozen hR
  obtain ⟨s, HS⟩ : ∃ s, Hid (s = str (gr N ++ rest)) := ⟨_, rfl⟩
  rw [← HS.out] at hcell
  have hsz : Hid (s.size = (gr N).length + rest.length) := by show _ = _; rw [HS.out, str_size, List.length_append]
  have hsm : s.size < 1000000000011 := by rw [hsz.out]; have := gr_len10 hN; omega
  obtain ⟨ys, b, HE, hys, hb7, h0⟩ := gr_go N
  have HE := hid HE
  have hly : ys.length ≤ 9 := by have := gr_len10 hN; have e := HE.out; rw [e] at this; simp at this; omega
  have hls : ys.length < s.size := by rw [hsz.out]; have e := HE.out; rw [e]; simp; omega
  obtain ⟨l, HL⟩ : ∃ l, Hid (l = ys.length) := ⟨_, rfl⟩
  have hby : Byt (gr N ++ rest) := (gr_byt N).app hb
  have hget : ∀ i x, ys[i]? = some x → ∃ h : i < s.size, (s[i]'h).toNat = x := by
    intro i x hx
    rw [HS.out]
    refine str_get ?_ hby
    rw [HE.out, List.append_assoc, List.getElem?_append_left (List.getElem?_eq_some_iff.1 hx).1]
    exact hx
  have hlast : ∃ h : l < s.size, (s[l]'h).toNat = b := by
    rw [HS.out, HL.out]
    refine str_get ?_ hby
    rw [HE.out, List.append_assoc, List.getElem?_append_right (Nat.le_refl _)]
    simp
  have hval : ∀ k, gval (ys.take k) ≤ N := fun k => by
    have h1 := gval_append ys [b]
    have h2 := gval_take_le ys k
    rw [← HE.out, gval_gr] at h1
    omega
  have HV2 : Hid (N = gval ys + b % 128 * 128 ^ l) := by
    have h1 := gval_snoc ys b
    rw [← HE.out, gval_gr, ← HL.out] at h1
    exact h1
  have h0' : 0 < b ∨ l = 0 := by rcases h0 with h | h; exact .inl h; right; rw [HL.out, h]; rfl
  rw [← HL.out] at hly hls
  have hdrop : Hid (s.extract (l + 1) s.size = str rest) := by
    show _ = _
    rw [HS.out, str_drop, HL.out, HE.out, List.drop_append, List.drop_of_length_le (by simp)]
    simp
  have HG := hid hget
  have HLA := hid hlast
  have HY := hid hys
  have HV := hid hval
  have H64 := hid hN
  have H0 := hid h0'
  clear hR hget hlast hys h0 hval hby h0' hb hN
  by_cases h10 : (10 : Int) < s.size
  all_goals
    have h10' : 10 < s.size ∨ s.size ≤ 10 := by omega
    have H10 := hid h10'
    clear h10'
    go_enter Tryz.func145, Tryz.ntmps145
    go_wp2
    go_step3
    go_wp2
    go_step3
    go_wp2
    go_loop [4, 14] (fun n i => ∃ k : Nat, k ≤ l ∧ i = .int .i64 k ∧ n = .int .u64 (gval (ys.take k) : Nat)) (fun _ i => l - (intOf i).toNat)
    case atStart => exact ⟨0, by omega, rfl, rfl⟩
    case round =>
      obtain ⟨k, hk, rfl, rfl⟩ := hrel
      by_cases hlt : k < l
      · obtain ⟨x, hx⟩ : ∃ x, ys[k]? = some x := ⟨ys[k]'(by have := HL.out; omega), List.getElem?_eq_getElem _⟩
        obtain ⟨hks, hxs⟩ := HG.out k x hx
        obtain ⟨hx1, hx2⟩ := HY.out x (List.mem_of_getElem? hx)
        have HX := hid (gval_take_succ hx)
        have hP := HV.out (k + 1)
        rw [HX.out] at hP
        have hP' : x % 128 * 128 ^ k < 18446744073709551616 := by have := H64.out; omega
        obtain ⟨e1, e2⟩ := shl_ok hP'
        have hS : gval (ys.take k) + x % 128 * 128 ^ k ≤ 18446744073709551615 := by have := H64.out; omega
        generalize x % 128 * 128 ^ k = P at *
        generalize gval (ys.take k) = V at *
        clear hx hP hP'
        go_wp2
        go_round
        case rel => exact ⟨k + 1, by omega, by go_num, by rw [HX.out]; go_num⟩
        case measure => simp [intOf]; omega
      · obtain rfl : k = l := by omega
        obtain ⟨hks, hxs⟩ := HLA.out
        have e0 : ys.take k = ys := by rw [HL.out, List.take_length]
        rw [e0]
        have hP' : b % 128 * 128 ^ k < 18446744073709551616 := by have := H64.out; have := HV2.out; omega
        obtain ⟨e1, e2⟩ := shl_ok hP'
        have hS : gval ys + b % 128 * 128 ^ k ≤ 18446744073709551615 := by have := H64.out; have := HV2.out; omega
        have hp0 : b = 0 → b % 128 * 128 ^ k = 0 := by intro h; subst h; simp
        clear e0 hP'
        generalize b % 128 * 128 ^ k = P at *
        generalize gval ys = V at *
        by_cases hb0 : b = 0
        · obtain rfl : k = 0 := by have := H0.out; omega
          have HP0 := hid (hp0 hb0)
          clear hp0
          subst hb0
          go_wp2
          go_ret2
          exact ⟨ret_rd (by have := HV2.out; have := HP0.out; omega), by rw [← hdrop.out]⟩
        · have hb1 : 0 < b := by omega
          clear hp0
          go_wp2
          go_ret2
          exact ⟨ret_rd (by have := HV2.out; omega), by rw [← hdrop.out]⟩
end Go.Proofs.YtlnagdodnkhbmaaGreat

namespace Go.Proofs.YtlnagdodnkhbmaaGreat
open Go.RowKit

def RdNo (w : World) (e : Ending) (w' : World) : Prop := e = .returned (.tuple #[.int .u64 0, .int .i64 11]) ∧ w = w'

set_option maxRecDepth 100000 in
theorem rgroups_no (w : World) (g : Nat) (xs : List Nat) (hR : Rd w g xs) (hb : Byt xs) (hno : NoGr xs) (hl : xs.length ≤ 1000000000000) :
    Calls Tryz.prog 145 #[.pointer (some ⟨g, 0, none⟩)] w (RdNo w) := by
  have hcell := One.cell hR
  obtain ⟨s, HS⟩ : ∃ s, Hid (s = str xs) := ⟨_, rfl⟩
  rw [← HS.out] at hcell
  have hsz : Hid (s.size = xs.length) := by show _ = _; rw [HS.out, str_size]
  have hsm : s.size < 1000000000011 := by rw [hsz.out]; omega
  obtain ⟨l, HL⟩ : ∃ l, Hid (l = min s.size 10) := ⟨_, rfl⟩
  have hl9 : l ≤ 10 := by rw [HL.out]; omega
  have hls : l ≤ s.size := by rw [HL.out]; omega
  have hget : ∀ i x, xs[i]? = some x → ∃ h : i < s.size, (s[i]'h).toNat = x := by
    intro i x hx
    rw [HS.out]
    exact str_get hx hb
  have HG := hid hget
  have HB := hid hb
  have HNO := hid hno
  clear hR hget hb hno
  by_cases h10 : (10 : Int) < s.size
  all_goals
    have h10' : l = 10 ∧ 10 < s.size ∨ l = s.size ∧ s.size ≤ 10 := by have := HL.out; omega
    have H10 := hid h10'
    clear h10'
    go_enter Tryz.func145, Tryz.ntmps145
    go_wp2
    go_step3
    go_wp2
    go_step3
    go_wp2
    go_loop [4, 14] (fun n i => ∃ k : Nat, k ≤ l ∧ i = .int .i64 k ∧ n = .int .u64 (gval (xs.take k) : Nat) ∧ Hid (∀ y ∈ xs.take k, 128 ≤ y)) (fun _ i => l - (intOf i).toNat)
    case atStart => exact ⟨0, by omega, rfl, rfl, fun y hy => by simp at hy⟩
    case round =>
      obtain ⟨k, hk, rfl, rfl, HGO⟩ := hrel
      by_cases hlt : k < l
      · obtain ⟨x, hx⟩ : ∃ x, xs[k]? = some x := ⟨xs[k]'(by have := hsz.out; omega), List.getElem?_eq_getElem _⟩
        obtain ⟨hks, hxs⟩ := HG.out k x hx
        have hx2 : x < 256 := HB.out x (List.mem_of_getElem? hx)
        have hk9 : k ≤ 9 := by omega
        have hlt10 : (k : Int) < 10 := by omega
        have hlts : (k : Int) < s.size := by omega
        have HXX := hid hx
        clear hx
        by_cases hov : k < 9 ∨ x % 128 < 2
        · have hP' := grp_fits (p := x % 128) (by omega) hk9 hov
          obtain ⟨e1, e2⟩ := shl_ok hP'
          by_cases hz : x = 0 ∧ 0 < k
          · obtain ⟨rfl, hk0⟩ := hz
            clear hov hP'
            generalize 0 % 128 * 128 ^ k = P at *
            generalize gval (xs.take k) = V at *
            go_wp2
            go_ret2
            exact ⟨rfl, rfl⟩
          · by_cases h128 : 128 ≤ x
            · have HX := hid (gval_take_succ HXX.out)
              have hV := gval_lt (xs.take k)
              rw [List.length_take, Nat.min_eq_left (by have := hsz.out; omega)] at hV
              have hS := grp_room hV (by omega) hk9 hP'
              have hS : gval (xs.take k) + x % 128 * 128 ^ k ≤ 18446744073709551615 := by omega
              have HN : Hid (∀ y ∈ xs.take (k + 1), 128 ≤ y) := by
                intro y hy
                rw [List.take_add_one, HXX.out] at hy
                rcases List.mem_append.1 hy with hy | hy
                · exact HGO.out y hy
                · simp at hy; omega
              clear hP' hV hov hz
              generalize x % 128 * 128 ^ k = P at *
              generalize gval (xs.take k) = V at *
              go_wp2
              go_round
              case rel => exact ⟨k + 1, by omega, by go_num, by rw [HX.out]; go_num, HN⟩
              case measure => simp [intOf]; omega
            · exact (gr_found HNO.out HB.out HXX.out HGO.out (by omega) (by omega) hk9 hP').elim
        · obtain ⟨P, e1, e2⟩ := shl_no (x := x) (k := k) (by omega) (by omega)
          clear hov
          generalize gval (xs.take k) = V at *
          go_wp2
          go_ret2
          exact ⟨rfl, rfl⟩
      · obtain rfl : k = l := by omega
        generalize gval (xs.take k) = V at *
        have h1 : ¬ (k : Int) < 10 ∨ ¬ (k : Int) < s.size := by have := H10.out; omega
        first
          | (have h2 : ¬ (k : Int) < 10 := by (have := H10.out; omega)
             go_wp2
             go_ret2
             exact ⟨rfl, rfl⟩)
          | (have h2 : ¬ (k : Int) < s.size := by (have := H10.out; omega)
             go_wp2
             go_ret2
             exact ⟨rfl, rfl⟩)
end Go.Proofs.YtlnagdodnkhbmaaGreat

namespace Go.Proofs.YtlnagdodnkhbmaaGreat
open Go.RowKit

/-- What a call that reads leaves: what it answers, and what is left. -/
def Rds (w : World) (g : Nat) (v : Value) (c : Int) (rest : List Nat) (e : Ending) (w' : World) : Prop :=
  e = .returned (.tuple #[v, .int .i64 c]) ∧ Rd w' g rest ∧ Chg [g] w w' [g]
theorem rd_set {w : World} {g : Nat} {xs : List Nat} (h : Rd w g xs) (ys : List Nat) : Rd (w.setCell ⟨g, 0, none⟩ (.string (str ys))) g ys ∧ Chg [g] w (w.setCell ⟨g, 0, none⟩ (.string (str ys))) [g] :=
  ⟨One.set h _, (Chg.refl [g] w).setCell (p := ⟨g, 0, none⟩) List.mem_cons_self _⟩
theorem ret2_int {a b : Int} {c : Value} (h : a = b) : Ending.returned (.tuple #[.int .i64 a, c]) = .returned (.tuple #[.int .i64 b, c]) := by rw [h]

/-- The number that was written by Int. -/
def zag (N : Nat) : Int := if N % 2 = 1 then -1 - ((N / 2 : Nat) : Int) else ((N / 2 : Nat) : Int)
theorem zag_zig (n : Int) : zag (zig n) = n := by
  unfold zag
  by_cases h : n < 0
  · have := zig_odd h; rw [if_pos this.1]; exact this.2
  · have := zig_even (n := n) (by omega); rw [if_neg (by omega)]; exact this.2
set_option maxRecDepth 100000 in
theorem rint0_ok (w : World) (g : Nat) (N : Nat) (rest : List Nat) (hR : Rd w g (gr N ++ rest)) (hb : Byt rest) (hN : N < 18446744073709551616) (hl : rest.length ≤ 1000000000000) :
    Calls Tryz.prog 120 #[.pointer (some ⟨g, 0, none⟩)] w (Rds w g (.int .i64 (zag N)) 0 rest) := by
  have HQ := hid (rd_set hR rest)
  have H64 := hid hN
  have hh : (N : Int) / 2 ≤ 9223372036854775807 := by omega
  have hlo : 0 ≤ (N : Int) / 2 := by omega
  have hlo0 : 0 ≤ (N : Int) := by omega
  have hlo1 : (N : Int) ≤ 18446744073709551615 := by omega
  clear hN
  by_cases hp : N % 2 = 1
  · have HZ : Hid (zag N = -1 - (N : Int) / 2) := by show _ = _; unfold zag; rw [if_pos hp]; omega
    have h2 : (N : Int) % 2 = 1 := by omega
    clear hp
    go_enter Tryz.func120, Tryz.ntmps120
    go_wp2_with fail
    refine (rgroups_yes w g N rest hR hb H64.out hl).mono ?_
    rintro e w' ⟨rfl, rfl⟩
    go_wp2
    go_ret2
    exact ⟨ret2_int HZ.out.symm, HQ.out⟩
  · have HZ : Hid (zag N = (N : Int) / 2) := by show _ = _; unfold zag; rw [if_neg hp]; omega
    have h2 : (N : Int) % 2 = 0 := by omega
    clear hp
    go_enter Tryz.func120, Tryz.ntmps120
    go_wp2_with fail
    refine (rgroups_yes w g N rest hR hb H64.out hl).mono ?_
    rintro e w' ⟨rfl, rfl⟩
    go_wp2
    go_ret2
    exact ⟨ret2_int HZ.out.symm, HQ.out⟩
set_option maxRecDepth 100000 in
theorem rint0_form (w : World) (g : Nat) (xs : List Nat) (hR : Rd w g xs) (hb : Byt xs) (hno : NoGr xs) (hl : xs.length ≤ 1000000000000) :
    Calls Tryz.prog 120 #[.pointer (some ⟨g, 0, none⟩)] w (Rds w g (.int .i64 0) 11 xs) := by
  have HQ := hid hR
  go_enter Tryz.func120, Tryz.ntmps120
  go_wp2_with fail
  refine (rgroups_no w g xs hR hb hno hl).mono ?_
  rintro e w' ⟨rfl, rfl⟩
  go_wp2
  go_ret2
  exact ⟨rfl, HQ.out, Chg.refl _ _⟩

theorem fhmf (fn : Fn) (first cap : Array Value) (w : World) : (Instr.makeFunc fn first cap).run Tryz.prog w = .ok (.func fn first cap) w := rfl

theorem rd_back {w w1 : World} {g : Nat} {xs rest : List Nat} (h : Rd w1 g rest) (hc : Chg [g] w w1 [g]) : Rd (w1.setCell ⟨g, 0, none⟩ (.string (str xs))) g xs ∧ Chg [g] w (w1.setCell ⟨g, 0, none⟩ (.string (str xs))) [g] :=
  ⟨One.set h _, hc.setCell (p := ⟨g, 0, none⟩) List.mem_cons_self _⟩

theorem whole_int_ok (w : World) (g : Nat) (N : Nat) (rest : List Nat) (hR : Rd w g (gr N ++ rest)) (hb : Byt rest) (hN : N < 18446744073709551616) (hl : rest.length ≤ 1000000000000) :
    Calls Tryz.prog 119 #[.pointer (some ⟨g, 0, none⟩), .func (.func 120) #[.pointer (some ⟨g, 0, none⟩)] #[]] w (Rds w g (.int .i64 (zag N)) 0 rest) := by
  have hcell := One.cell hR
  go_enter Tryz.func119, Tryz.ntmps119
  go_wp2_with fail
  refine (rint0_ok w g N rest hR hb hN hl).mono ?_
  rintro e w' ⟨rfl, hq⟩
  have HQ := hid hq
  clear hq
  go_wp2
  go_ret2
  exact ⟨rfl, HQ.out⟩
theorem whole_int_form (w : World) (g : Nat) (xs : List Nat) (hR : Rd w g xs) (hb : Byt xs) (hno : NoGr xs) (hl : xs.length ≤ 1000000000000) :
    Calls Tryz.prog 119 #[.pointer (some ⟨g, 0, none⟩), .func (.func 120) #[.pointer (some ⟨g, 0, none⟩)] #[]] w (Rds w g (.int .i64 0) 11 xs) := by
  have hcell := One.cell hR
  go_enter Tryz.func119, Tryz.ntmps119
  go_wp2_with fail
  refine (rint0_form w g xs hR hb hno hl).mono ?_
  rintro e w' ⟨rfl, hr, hc⟩
  have hcell1 := One.cell hr
  have hfr1 := One.frozen hr
  have HR := hid hr
  have HC := hid hc
  clear hr hc
  go_wp2
  go_ret2
  exact ⟨rfl, rd_back HR.out HC.out⟩
theorem rint_ok (w : World) (g : Nat) (N : Nat) (rest : List Nat) (hR : Rd w g (gr N ++ rest)) (hb : Byt rest) (hN : N < 18446744073709551616) (hl : rest.length ≤ 1000000000000) :
    Calls Tryz.prog 89 #[.pointer (some ⟨g, 0, none⟩)] w (Rds w g (.int .i64 (zag N)) 0 rest) := by
  have fhmf := fhmf
  go_enter Tryz.func89, Tryz.ntmps89
  go_wp2_with fail
  refine (whole_int_ok w g N rest hR hb hN hl).mono ?_
  rintro e w' ⟨rfl, hq⟩
  have HQ := hid hq
  clear hq
  go_wp2
  go_ret2
  exact ⟨rfl, HQ.out⟩
theorem rint_form (w : World) (g : Nat) (xs : List Nat) (hR : Rd w g xs) (hb : Byt xs) (hno : NoGr xs) (hl : xs.length ≤ 1000000000000) :
    Calls Tryz.prog 89 #[.pointer (some ⟨g, 0, none⟩)] w (Rds w g (.int .i64 0) 11 xs) := by
  have fhmf := fhmf
  go_enter Tryz.func89, Tryz.ntmps89
  go_wp2_with fail
  refine (whole_int_form w g xs hR hb hno hl).mono ?_
  rintro e w' ⟨rfl, hq⟩
  have HQ := hid hq
  clear hq
  go_wp2
  go_ret2
  exact ⟨rfl, HQ.out⟩
theorem whole_nil (w : World) (K : Nat) : Calls Tryz.prog 119 #[.pointer none, .func (.func K) #[.pointer none] #[]] w fun e w' => e = .returned (.tuple #[.int .i64 0, .int .i64 2]) ∧ w = w' := by
  go_enter Tryz.func119, Tryz.ntmps119
  go_wp2
  go_ret2
  exact ⟨rfl, rfl⟩
theorem rint_nil (w : World) : Calls Tryz.prog 89 #[.pointer none] w fun e w' => e = .returned (.tuple #[.int .i64 0, .int .i64 2]) ∧ w = w' := by
  have fhmf := fhmf
  go_enter Tryz.func89, Tryz.ntmps89
  go_wp2_with fail
  refine (whole_nil w 120).mono ?_
  rintro e w' ⟨rfl, rfl⟩
  go_wp2
  go_ret2
  exact ⟨rfl, rfl⟩

theorem rleft (w : World) (g : Nat) (xs : List Nat) (hR : Rd w g xs) : Calls Tryz.prog 90 #[.pointer (some ⟨g, 0, none⟩)] w fun e w' => e = .returned (.int .i64 xs.length) ∧ w = w' := by
  have hcell := One.cell hR
  have hsz := str_size xs
  obtain ⟨s, HS⟩ : ∃ s, Hid (s = str xs) := ⟨_, rfl⟩
  rw [← HS.out] at hcell hsz
  have HZ := hid hsz
  clear hsz
  go_enter Tryz.func90, Tryz.ntmps90
  go_wp2
  go_ret
  exact ⟨ret_nat HZ.out, rfl⟩
theorem rleft_nil (w : World) : Calls Tryz.prog 90 #[.pointer none] w fun e w' => e = .returned (.int .i64 0) ∧ w = w' := by
  go_enter Tryz.func90, Tryz.ntmps90
  go_wp2
  go_ret
  exact ⟨rfl, rfl⟩
theorem rdnew_any (w : World) (v : Value) (xs : List Nat) (hs : Sl .u8 w v xs) :
    Calls Tryz.prog 87 #[v] w fun e w' => e = .returned (.pointer (some ⟨w.heap.size, 0, none⟩)) ∧ w' = w.alloc (.cells #[.string (str xs)] 204) := by
  have h1 := hs.str (P := Tryz.prog) 113 5 9 Tryz.underlying113 Tryz.underlying5 Tryz.underlying9
  generalize str xs = S at h1
  go_enter Tryz.func87, Tryz.ntmps87
  go_wp2
  go_ret
  exact ⟨rfl, rfl⟩
theorem rd_new (w : World) (xs : List Nat) : Rd (w.alloc (.cells #[.string (str xs)] 204)) w.heap.size xs := One.new _ _ _
end Go.Proofs.YtlnagdodnkhbmaaGreat

namespace Go.Proofs.YtlnagdodnkhbmaaGreat
open Go.RowKit

/-- The outcomes of a text's reading. -/
theorem le_cast {a b : Nat} (h : a ≤ b) : (a : Int) ≤ b := by omega

end Go.Proofs.YtlnagdodnkhbmaaGreat

namespace Go.Proofs.YtlnagdodnkhbmaaGreat
open Go.RowKit

theorem text_a (w : World) (g : Nat) (m : Int) : ((w.alloc (.cells #[.pointer (some ⟨g, 0, none⟩)] 169)).alloc (.cells #[.int .i64 m] 3)).cell? ⟨w.heap.size, 0, none⟩ = some (.pointer (some ⟨g, 0, none⟩)) :=
  One.cell (One.alloc (One.new w 169 _) _)
theorem text_b (w : World) (g : Nat) (m : Int) : ((w.alloc (.cells #[.pointer (some ⟨g, 0, none⟩)] 169)).alloc (.cells #[.int .i64 m] 3)).cell? ⟨w.heap.size + 1, 0, none⟩ = some (.int .i64 m) := by
  have h := One.cell (One.new (w.alloc (.cells #[.pointer (some ⟨g, 0, none⟩)] 169)) 3 (.int .i64 m))
  rw [show (w.alloc (.cells #[.pointer (some ⟨g, 0, none⟩)] 169)).heap.size = w.heap.size + 1 by simp] at h
  exact h
end Go.Proofs.YtlnagdodnkhbmaaGreat

