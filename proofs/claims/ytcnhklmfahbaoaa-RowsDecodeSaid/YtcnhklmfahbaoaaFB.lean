import Derived.Test.YtcnhklmfahbaoaaFA
import Derived.Lib.ConvBytes
import Derived.Deep.QuietTactic
import Derived.BigQuiet
import Derived.Test.YtcnhklmfahbaoaaMA

namespace Go.Proofs.Ytcnhklmfahbaoaa
open Go.RowKit

/-- Bytes in a row that the call made. -/
def Fresh (w : World) (xs : List Nat) (e : Ending) (w' : World) : Prop :=
  ∃ u, e = .returned u ∧ Own .u8 w' 0 5 u xs ∧ Chg [] w w' (ownFoot u)
theorem Chg.nil_below {F : List Nat} {w w' : World} (h : Chg [] w w' F) : Below w.heap.size w w' := h.below (fun _ h => by cases h) (Nat.le_refl _)
theorem Chg.nil_from {F : List Nat} {w w' : World} (h : Chg [] w w' F) : ∀ k ∈ F, w.heap.size ≤ k := h.from_ (fun _ h => by cases h) (Nat.le_refl _)
theorem chg_of_own {w w' : World} {u : Value} {xs : List Nat} (h : Own .u8 w' w.heap.size 5 u xs) (hb : Below w.heap.size w w') : Chg [] w w' (ownFoot u) :=
  ⟨hb.os, hb.tape, hb.output, hb.size, fun k hk _ => hb.block k hk, fun k hk => .inr (h.blk k (mem_ownFoot.1 hk)).1⟩
theorem wbytes_fresh (w : World) (F : List Nat) (p : Value) (xs : List Nat) (hW : Wr w F p xs) (hl : xs.length ≤ 100000000000000) : Calls Try.prog 19 #[p] w (Fresh w xs) :=
  (wbytes w F p xs hW hl).mono fun _ _ ⟨u, he, ho, hb⟩ => ⟨u, he, ho.zero, chg_of_own ho hb⟩
/-- Behind an append onto a row of one's own. -/
theorem own_step {F : List Nat} {w w0 w1 : World} {v v' : Value} (hc : Chg F w w0 (ownFoot v)) (hg : w0.grownBy w1 v.ownBlock) (hf : ∀ b ∈ ownFoot v', b ∈ ownFoot v ∨ w0.heap.size ≤ b) : Chg F w w1 (ownFoot v') :=
  (hc.grown hg fun _ hk => mem_ownFoot.2 hk).less fun b hb => by
    rcases hf b hb with h | h
    · exact .inl h
    · exact .inr (Nat.le_trans hc.size h)

def GRel (w : World) (all : List Nat) (v : Value) (t r : Value) (wr : World) : Prop :=
  ∃ (cur : List Nat) (a b : Nat), t = .int .i64 a ∧ r = .int .i64 b ∧ a < 128 ∧ b < 9223372036854775808 ∧ Own .u8 wr 0 5 v cur ∧ cur ++ gr (a + 128 * b) = all ∧ Chg [] w wr (ownFoot v)

set_option maxRecDepth 100000 in
theorem refgroups (w : World) (h o : Nat) (hh : h < 9223372036854775808) (ho : o < 2) : Calls Try.prog 32 #[.int .i64 h, .int .i64 o] w (Fresh w (gr (2 * h + o))) := by
  obtain ⟨i0, hi, hz0, hz1, hz2⟩ := info_parts finfo8
  obtain ⟨all, HA⟩ : ∃ all, Hid (all = gr (2 * h + o)) := ⟨_, rfl⟩
  have hla : all.length ≤ 10 := by rw [HA.out]; exact gr_len10 (by omega)
  rw [← HA.out]
  have hrel0 : GRel w all (.slice none 0 0) (.int .i64 ((h % 64 * 2 + o : Nat) : Int)) (.int .i64 ((h / 64 : Nat) : Int)) w :=
    ⟨[], h % 64 * 2 + o, h / 64, rfl, rfl, by omega, by omega, Own.nil _ _ _ _, by rw [HA.out, List.nil_append]; congr 1; omega, Chg.refl _ _⟩
  have HR0 := hid hrel0
  clear hrel0
  go_enter Try.func32, Try.ntmps32
  go_wp2
  go_loopw [5, 6, 7] (fun v t r wr => GRel w all v t r wr) (fun _ _ r _ => (intOf r).toNat)
  case atStart => exact HR0.out
  case round =>
    obtain ⟨cur, a, b, rfl, rfl, ha, hb, hown, hcur, hchg⟩ := hrel
    have hlc : cur.length ≤ 10 := by have := congrArg List.length hcur; rw [List.length_append] at this; omega
    have HC := hid hcur
    have HCH := hid hchg
    have hlo : (a : Int) < 128 := by omega
    clear hcur hchg
    obtain ⟨A, n, c, rfl⟩ := hown.slice
    by_cases h0 : 0 < b
    · go_wp2_with (at_builtin; refine wpList_append_at _ rfl (.tmp 17) (.tmp 21) 25 rfl 5 i0 (.int .u8 0) 1 Try.underlying25 hi hz0 hz1 hz2 rfl .u8 (.slice A n c) cur rfl (hown.alloc _) _ [a + 128] rfl (one_row (by omega)) (by unfold maxLen; simp; omega) (by simp; omega) ?_; intro v' w1 hown1 hgrow1 hf1; have HST := hid (own_step (HCH.out.alloc _) hgrow1 hf1); have HOWN := hid hown1; clear hown1 hgrow1 hf1)
      go_roundw
      case rel =>
        refine ⟨_, b % 128, b / 128, by go_num, by go_num, by omega, by omega, HOWN.out, ?_, HST.out⟩
        rw [List.append_assoc, List.singleton_append, show b % 128 + 128 * (b / 128) = (a + 128 * b) / 128 by omega,
          show a + 128 = (a + 128 * b) % 128 + 128 by omega, ← gr_ge (by omega)]
        exact HC.out
      case measure => simp [intOf]; omega
    · obtain rfl : b = 0 := by omega
      go_wp2_with (at_builtin; refine wpList_append_at _ rfl (.tmp 27) (.tmp 30) 25 rfl 5 i0 (.int .u8 0) 1 Try.underlying25 hi hz0 hz1 hz2 rfl .u8 (.slice A n c) cur rfl (hown.alloc _) _ [a] rfl (one_row (by omega)) (by unfold maxLen; simp; omega) (by simp; omega) ?_; intro v' w1 hown1 hgrow1 hf1; have HST := hid (own_step (HCH.out.alloc _) hgrow1 hf1); have HOWN := hid hown1; clear hown1 hgrow1 hf1)
      go_ret
      refine ⟨_, rfl, ?_, HST.out⟩
      have := HC.out
      rw [Nat.mul_zero, Nat.add_zero, gr_lt ha] at this
      rw [← this]
      exact HOWN.out

theorem refint (w : World) (n : Int) (h1 : -9223372036854775808 ≤ n) (h2 : n ≤ 9223372036854775807) : Calls Try.prog 20 #[.int .i64 n] w (Fresh w (gr (zig n))) := by
  by_cases hn : n < 0
  · obtain ⟨m, rfl⟩ : ∃ m : Nat, n = -1 - (m : Int) := ⟨(-1 - n).toNat, by omega⟩
    have HZ : Hid (2 * m + 1 = zig (-1 - (m : Int))) := by show _ = _; rw [zig_neg (by omega)]; omega
    have hm : (m : Int) ≤ 9223372036854775807 := by omega
    have e1 : -1 - (-1 - (m : Int)) = m := by omega
    go_enter Try.func20, Try.ntmps20
    go_wp2_with fail
    refine (refgroups w m 1 (by omega) (by omega)).mono ?_
    rw [HZ.out]
    rintro e w' ⟨u, rfl, hu⟩
    have HU := hid hu
    clear hu
    go_wp2
    go_ret
    exact ⟨u, rfl, HU.out⟩
  · obtain ⟨m, rfl⟩ : ∃ m : Nat, n = (m : Int) := ⟨n.toNat, by omega⟩
    have HZ : Hid (2 * m + 0 = zig (m : Int)) := by show _ = _; rw [zig_pos (by omega)]; omega
    have hm : (m : Int) ≤ 9223372036854775807 := by omega
    go_enter Try.func20, Try.ntmps20
    go_wp2_with fail
    refine (refgroups w m 0 (by omega) (by omega)).mono ?_
    rw [HZ.out]
    rintro e w' ⟨u, rfl, hu⟩
    have HU := hid hu
    clear hu
    go_wp2
    go_ret
    exact ⟨u, rfl, HU.out⟩

theorem bytesWorld_below (w : World) (e : TypeId) (s : ByteArray) : Below w.heap.size w (Lib.bytesWorld w e s) := by
  refine ⟨?_, ?_, ?_, by rw [Lib.bytesWorld_size]; omega, fun k hk => Lib.bytesWorld_at_old w e s k hk⟩ <;> simp [Lib.bytesWorld, World.freeze, World.alloc, World.drew, -World.alloc_eq, -World.drew_eq]
theorem bytesWorld_sl (w : World) (e : TypeId) (xs : List Nat) (hb : Byt xs) (hl : xs.length ≤ maxLen) : Sl .u8 (Lib.bytesWorld w e (str xs)) (.slice (some ⟨w.heap.size, 0, none⟩) xs.length (grownCap w xs.length 0 e)) xs := by
  refine ⟨_, _, rfl, grownCap_ge _ _ _ _, grownCap_le_maxLen _ _ _ _ hl, (fun h => by cases h), fun i b hi => ⟨_, rfl, ?_⟩⟩
  have hil : i < xs.length := (List.getElem?_eq_some_iff.1 hi).1
  rw [add_at, Lib.bytesWorld_cell w e (str xs) i (by rw [str_size]; exact hil), str_list, List.getD_eq_getElem?_getD, List.getElem?_map, hi]
  have := hb b (List.mem_of_getElem? hi)
  simp [Nat.mod_eq_of_lt this]

end Go.Proofs.Ytcnhklmfahbaoaa

namespace Go.Proofs.Ytcnhklmfahbaoaa
open Go.RowKit

def eqB (a b : List Nat) : Bool := decide (a = b)
theorem take_snoc_eq {xs ys : List Nat} {k x : Nat} (h : xs.take k = ys.take k) (hx : xs[k]? = some x) (hy : ys[k]? = some x) : xs.take (k + 1) = ys.take (k + 1) := by
  rw [List.take_add_one, List.take_add_one, hx, hy, h]
theorem eqB_no {a b : List Nat} (h : a.length ≠ b.length) : eqB a b = false := by
  unfold eqB; simp; intro e; exact h (by rw [e])
theorem eqB_at {a b : List Nat} {k x y : Nat} (hx : a[k]? = some x) (hy : b[k]? = some y) (h : x ≠ y) : eqB a b = false := by
  unfold eqB; simp; intro e; rw [e, hy] at hx; injection hx with hx; exact h hx.symm

set_option maxHeartbeats 400000 in
theorem bytes_any (w : World) (u v : Value) (xs ys : List Nat) (hs : Sl .u8 w u xs) (ht : Sl .u8 w v ys) :
    Calls Try.prog 9 #[u, v] w fun e w' => e = .returned (.bool (eqB xs ys)) ∧ Below w.heap.size w w' := by
  obtain ⟨A, cap, rfl, hlc, hm, _, hc⟩ := hs
  obtain ⟨B, cap', rfl, hlc', hm', _, hc'⟩ := ht
  obtain ⟨len, HL⟩ : ∃ len, Hid (len = xs.length) := ⟨_, rfl⟩
  obtain ⟨len', HL'⟩ : ∃ len, Hid (len = ys.length) := ⟨_, rfl⟩
  rw [← HL.out] at hlc ⊢
  rw [← HL'.out] at hlc' ⊢
  unfold maxLen at hm hm'
  have hn : len ≤ 9223372036854775807 := by omega
  have hn' : len' ≤ 9223372036854775807 := by omega
  by_cases hl : len = len'
  · subst hl
    go_enter Try.func9, Try.ntmps9
    go_wp2
    go_loopw [5] (fun i wr => ∃ k : Nat, k ≤ len ∧ i = .int .i64 k ∧ Hid (xs.take k = ys.take k) ∧ ∃ n, wr = w.drewN n) (fun i _ => len - (intOf i).toNat)
    case atStart => exact ⟨0, by omega, rfl, rfl, 0, rfl⟩
    case round =>
      obtain ⟨k, hk, rfl, HE, n, rfl⟩ := hrel
      by_cases hlt : k < len
      · obtain ⟨x, hx⟩ : ∃ b, xs[k]? = some b := ⟨xs[k]'(by have := HL.out; omega), List.getElem?_eq_getElem _⟩
        obtain ⟨y, hy⟩ : ∃ b, ys[k]? = some b := ⟨ys[k]'(by have := HL'.out; omega), List.getElem?_eq_getElem _⟩
        obtain ⟨ad, rfl, hcell⟩ := hc k x hx
        obtain ⟨ad', rfl, hcell'⟩ := hc' k y hy
        have HX := hid hx
        have HY := hid hy
        clear hc hc' hx hy
        by_cases hxy : x = y
        · go_wp2
          go_quiet (fail)
          go_wp2
          go_roundw
          case rel => exact ⟨k + 1, by omega, by go_num, take_snoc_eq HE.out HX.out (hxy ▸ HY.out), _, rfl⟩
          case measure => simp [intOf]; omega
        · go_wp2
          go_quiet (fail)
          go_wp2
          go_ret
          exact ⟨ret_bool (eqB_at HX.out HY.out hxy).symm, below_drewN' (below_drewN' (Below.refl _ _) _) _⟩
      · go_wp2
        go_ret
        exact ⟨ret_bool (by
          have h1 := HE.out
          rw [List.take_of_length_le (by have := HL.out; omega), List.take_of_length_le (by have := HL'.out; omega)] at h1
          subst h1; simp [eqB]), below_drewN' (Below.refl _ _) _⟩
  · go_enter Try.func9, Try.ntmps9
    go_wp2
    go_ret
    exact ⟨ret_bool (eqB_no (by rw [← HL.out, ← HL'.out]; exact hl)).symm, Below.refl _ _⟩

/-- Do bytes begin with others? -/
def preB (xs ys : List Nat) : Bool := decide (ys <+: xs)
theorem preB_no {a b : List Nat} (h : a.length < b.length) : preB a b = false := by
  unfold preB; simp; intro e; have := e.length_le; omega
theorem preB_at {a b : List Nat} {k x y : Nat} (hx : a[k]? = some x) (hy : b[k]? = some y) (h : x ≠ y) : preB a b = false := by
  unfold preB; simp
  rintro ⟨c, rfl⟩
  rw [List.getElem?_append_left (List.getElem?_eq_some_iff.1 hy).1, hy] at hx
  injection hx with hx; exact h hx.symm
theorem preB_yes {a b : List Nat} (h : a.take b.length = b) : preB a b = true := by
  unfold preB; simp
  rw [← h]; exact List.take_prefix _ _

set_option maxHeartbeats 400000 in
theorem same_any (w : World) (u v : Value) (xs ys : List Nat) (hs : Sl .u8 w u xs) (ht : Sl .u8 w v ys) :
    Calls Try.prog 35 #[u, v] w fun e w' => e = .returned (.bool (preB xs ys)) ∧ Below w.heap.size w w' := by
  obtain ⟨A, cap, rfl, hlc, hm, _, hc⟩ := hs
  obtain ⟨B, cap', rfl, hlc', hm', _, hc'⟩ := ht
  obtain ⟨len, HL⟩ : ∃ len, Hid (len = xs.length) := ⟨_, rfl⟩
  obtain ⟨len', HL'⟩ : ∃ len, Hid (len = ys.length) := ⟨_, rfl⟩
  rw [← HL.out] at hlc ⊢
  rw [← HL'.out] at hlc' ⊢
  unfold maxLen at hm hm'
  have hn : len ≤ 9223372036854775807 := by omega
  have hn' : len' ≤ 9223372036854775807 := by omega
  by_cases hl : len < len'
  · go_enter Try.func35, Try.ntmps35
    go_wp2
    go_ret
    exact ⟨ret_bool (preB_no (by rw [← HL.out, ← HL'.out]; exact hl)).symm, Below.refl _ _⟩
  · have hl' : len' ≤ len := by omega
    go_enter Try.func35, Try.ntmps35
    go_wp2
    go_loopw [5] (fun i wr => ∃ k : Nat, k ≤ len' ∧ i = .int .i64 k ∧ Hid (xs.take k = ys.take k) ∧ ∃ n, wr = w.drewN n) (fun i _ => len' - (intOf i).toNat)
    case atStart => exact ⟨0, by omega, rfl, rfl, 0, rfl⟩
    case round =>
      obtain ⟨k, hk, rfl, HE, n, rfl⟩ := hrel
      by_cases hlt : k < len'
      · obtain ⟨x, hx⟩ : ∃ b, xs[k]? = some b := ⟨xs[k]'(by have := HL.out; omega), List.getElem?_eq_getElem _⟩
        obtain ⟨y, hy⟩ : ∃ b, ys[k]? = some b := ⟨ys[k]'(by have := HL'.out; omega), List.getElem?_eq_getElem _⟩
        obtain ⟨ad, rfl, hcell⟩ := hc k x hx
        obtain ⟨ad', rfl, hcell'⟩ := hc' k y hy
        have HX := hid hx
        have HY := hid hy
        have hkl : k < len := by omega
        have hkl1 : (k : Int) < len := by omega
        clear hc hc' hx hy
        by_cases hxy : x = y
        · go_wp2
          go_quiet (fail)
          go_wp2
          go_roundw
          case rel => exact ⟨k + 1, by omega, by go_num, take_snoc_eq HE.out HX.out (hxy ▸ HY.out), _, rfl⟩
          case measure => simp [intOf]; omega
        · go_wp2
          go_quiet (fail)
          go_wp2
          go_ret
          exact ⟨ret_bool (preB_at HX.out HY.out hxy).symm, below_drewN' (below_drewN' (Below.refl _ _) _) _⟩
      · have hkk : k = len' := by omega
        have HK := hid hkk
        clear hkk
        go_wp2
        go_ret
        refine ⟨ret_bool (preB_yes ?_).symm, below_drewN' (Below.refl _ _) _⟩
        rw [← HL'.out, ← HK.out]
        have := HE.out
        rw [List.take_of_length_le (l := ys) (by have := HL'.out; have := HK.out; omega)] at this
        exact this
end Go.Proofs.Ytcnhklmfahbaoaa

namespace Go.Proofs.Ytcnhklmfahbaoaa
open Go.RowKit

/-- How many bytes go on. -/
def lead (xs : List Nat) : Nat := (xs.takeWhile (fun b => decide (128 ≤ b))).length
theorem lead_le (xs : List Nat) : lead xs ≤ xs.length := by unfold lead; exact (List.takeWhile_sublist _).length_le
theorem lead_go : ∀ (xs : List Nat) (k x : Nat), k < lead xs → xs[k]? = some x → 128 ≤ x
  | [], k, x, h, _ => by simp [lead] at h
  | y :: ys, k, x, h, hx => by
    unfold lead at h
    by_cases hy : 128 ≤ y
    · rw [List.takeWhile_cons_of_pos (by simpa using hy)] at h
      cases k with
      | zero => simp at hx; omega
      | succ k => exact lead_go ys k x (by unfold lead; simpa using h) (by simpa using hx)
    · rw [List.takeWhile_cons_of_neg (by simpa using hy)] at h
      simp at h
theorem lead_end : ∀ (xs : List Nat) (x : Nat), xs[lead xs]? = some x → x < 128
  | [], x, h => by simp at h
  | y :: ys, x, h => by
    by_cases hy : 128 ≤ y
    · have e : lead (y :: ys) = lead ys + 1 := by unfold lead; rw [List.takeWhile_cons_of_pos (by simpa using hy)]; simp
      rw [e] at h
      exact lead_end ys x (by simpa using h)
    · have e : lead (y :: ys) = 0 := by unfold lead; rw [List.takeWhile_cons_of_neg (by simpa using hy)]; simp
      rw [e] at h
      simp at h; omega

def Nums (w : World) (a b c : Nat) (e : Ending) (w' : World) : Prop :=
  e = .returned (.agg #[.int .i64 a, .int .i64 b, .int .i64 c]) ∧ Below w.heap.size w w'
abbrev nought : Obj := .cells #[.int .i64 0, .int .i64 0, .int .i64 0] 64

set_option maxRecDepth 100000 in
theorem refread_short (w : World) (v : Value) (xs : List Nat) (hs : Sl .u8 w v xs) (hl : xs.length ≤ 1000) (hbad : xs.length ≤ lead xs) :
    Calls Try.prog 25 #[v] w (Nums w 0 0 0) := by
  have HS := hid hs
  obtain ⟨A, cap, rfl, hlc, hm, _, hc⟩ := hs
  obtain ⟨len, HL⟩ : ∃ len, Hid (len = xs.length) := ⟨_, rfl⟩
  obtain ⟨l, HD⟩ : ∃ l, Hid (l = lead xs) := ⟨_, rfl⟩
  have hle := lead_le xs
  rw [← HL.out] at hlc hl hle hbad ⊢
  rw [← HD.out] at hle hbad
  have hge : ∀ k x, k < l → xs[k]? = some x → 128 ≤ x := fun k x h => lead_go xs k x (by rw [← HD.out]; exact h)
  have HG := hid hge
  have HC : Hid (∀ (i b : Nat), xs[i]? = some b → ∃ ad, A = some ad ∧ (w.alloc (.cells #[.int .i64 0, .int .i64 0, .int .i64 0] 64)).cell? (ad.add i) = some (.int .u8 (b : Int))) := fun i b hi => by
    obtain ⟨ad, h1, h2⟩ := hc i b hi
    exact ⟨ad, h1, below_keep ((Below.refl _ _).alloc (Nat.le_refl _) _) _ _ h2⟩
  clear hge hc hm
  go_enter Try.func25, Try.ntmps25
  go_wp2
  go_loop [3] (fun i => ∃ k : Nat, k ≤ l ∧ i = .int .i64 k) (fun i => l - (intOf i).toNat)
  case atStart => exact ⟨0, by omega, rfl⟩
  case round =>
    obtain ⟨k, hk, rfl⟩ := hrel
    by_cases hlt : k < l
    · obtain ⟨x, hx⟩ : ∃ b, xs[k]? = some b := ⟨xs[k]'(by have := HL.out; omega), List.getElem?_eq_getElem _⟩
      have hx1 := HG.out k x hlt hx
      obtain ⟨ad, rfl, hcell⟩ := HC.out k x hx
      have hkl : k < len := by omega
      have hkl1 : (k : Int) < len := by omega
      clear hx
      go_wp2
      go_round
      case rel => exact ⟨k + 1, by omega, by go_num⟩
      case measure => simp [intOf]; omega
    · obtain rfl : k = len := by omega
      go_wp2
      exact bodyPost_ret (v := .agg #[.int .i64 0, .int .i64 0, .int .i64 0]) (by simp [results, Try.results25, go_sem]) rfl ⟨rfl, (Below.refl _ _).alloc (Nat.le_refl _) _⟩

set_option maxRecDepth 100000 in
theorem refread_bad (w : World) (v : Value) (xs : List Nat) (hs : Sl .u8 w v xs) (hl : xs.length ≤ 1000) (hll : lead xs < xs.length)
    (hbad : 10 ≤ lead xs ∨ lead xs = 9 ∧ ∃ x, xs[9]? = some x ∧ 1 < x) :
    Calls Try.prog 25 #[v] w (Nums w 0 0 0) := by
  have HS := hid hs
  obtain ⟨A, cap, rfl, hlc, hm, _, hc⟩ := hs
  obtain ⟨len, HL⟩ : ∃ len, Hid (len = xs.length) := ⟨_, rfl⟩
  obtain ⟨l, HD⟩ : ∃ l, Hid (l = lead xs) := ⟨_, rfl⟩
  rw [← HL.out] at hlc hl hll ⊢
  rw [← HD.out] at hll hbad
  have hge : ∀ k x, k < l → xs[k]? = some x → 128 ≤ x := fun k x h => lead_go xs k x (by rw [← HD.out]; exact h)
  have hend : ∀ x, xs[l]? = some x → x < 128 := fun x h => lead_end xs x (by rw [← HD.out]; exact h)
  have HG := hid hge
  have HE := hid hend
  have HC : Hid (∀ (i b : Nat), xs[i]? = some b → ∃ ad, A = some ad ∧ (w.alloc (.cells #[.int .i64 0, .int .i64 0, .int .i64 0] 64)).cell? (ad.add i) = some (.int .u8 (b : Int))) := fun i b hi => by
    obtain ⟨ad, h1, h2⟩ := hc i b hi
    exact ⟨ad, h1, below_keep ((Below.refl _ _).alloc (Nat.le_refl _) _) _ _ h2⟩
  have HBAD := hid hbad
  clear hge hend hc hbad hm
  go_enter Try.func25, Try.ntmps25
  go_wp2
  go_loop [3] (fun i => ∃ k : Nat, k ≤ l ∧ i = .int .i64 k) (fun i => l - (intOf i).toNat)
  case atStart => exact ⟨0, by omega, rfl⟩
  case round =>
    obtain ⟨k, hk, rfl⟩ := hrel
    by_cases hlt : k < l
    · obtain ⟨x, hx⟩ : ∃ b, xs[k]? = some b := ⟨xs[k]'(by have := HL.out; omega), List.getElem?_eq_getElem _⟩
      have hx1 := HG.out k x hlt hx
      obtain ⟨ad, rfl, hcell⟩ := HC.out k x hx
      have hkl : k < len := by omega
      have hkl1 : (k : Int) < len := by omega
      clear hx
      go_wp2
      go_round
      case rel => exact ⟨k + 1, by omega, by go_num⟩
      case measure => simp [intOf]; omega
    · obtain rfl : k = l := by omega
      obtain ⟨x, hx⟩ : ∃ b, xs[k]? = some b := ⟨xs[k]'(by have := HL.out; omega), List.getElem?_eq_getElem _⟩
      have hx1 := HE.out x hx
      have hx1' : ¬ 128 ≤ (x : Int) := by omega
      obtain ⟨ad, rfl, hcell⟩ := HC.out k x hx
      have HX := hid hx
      have hkl1 : (k : Int) < len := by omega
      clear hx
      by_cases h9 : k = 9
      · subst h9
        have h1x : 1 < x := by
          rcases HBAD.out with h | ⟨_, y, hy, h1⟩
          · omega
          · have := HX.out; rw [hy] at this; injection this with this; omega
        have h1x' : 1 < (x : Int) := by omega
        rw [show ad.add 9 = { block := ad.block, off := ad.off + 9, spot := none } from Addr.add_succ' ad 8] at hcell
        go_wp2
        exact bodyPost_ret (v := .agg #[.int .i64 0, .int .i64 0, .int .i64 0]) (by simp [results, Try.results25, go_sem]) rfl ⟨rfl, (Below.refl _ _).alloc (Nat.le_refl _) _⟩
      · have h10 : 10 ≤ k := by
          rcases HBAD.out with h | ⟨h, _⟩
          · exact h
          · omega
        go_wp2
        exact bodyPost_ret (v := .agg #[.int .i64 0, .int .i64 0, .int .i64 0]) (by simp [results, Try.results25, go_sem]) rfl ⟨rfl, (Below.refl _ _).alloc (Nat.le_refl _) _⟩
end Go.Proofs.Ytcnhklmfahbaoaa

namespace Go.Proofs.Ytcnhklmfahbaoaa
open Go.RowKit

/-- The number's half without its first group, by k groups. -/
def half (t : List Nat) (k : Nat) : Nat := 64 * gval (t.take k)
theorem half_succ {t : List Nat} {k x : Nat} (hx : t[k]? = some x) : half t (k + 1) = half t k + x % 128 * (64 * 128 ^ k) := by
  unfold half
  rw [gval_take_succ hx, Nat.mul_add, Nat.mul_left_comm]
theorem half_mono (t : List Nat) {k l : Nat} (h : k ≤ l) : half t k ≤ half t l := by
  unfold half
  have := gval_take_le (t.take l) k
  rw [List.take_take, Nat.min_eq_left h] at this
  omega
def place (k : Nat) : Nat := 64 * 128 ^ (min k 8)
theorem place_at {k : Nat} (h : k ≤ 8) : place k = 64 * 128 ^ k := by unfold place; rw [Nat.min_eq_left h]
theorem place_succ {k : Nat} (h : k < 8) : place (k + 1) = place k * 128 := by
  rw [place_at (by omega), place_at (by omega), Nat.pow_succ, Nat.mul_assoc]
theorem place_stay {k : Nat} (h : 8 ≤ k) : place (k + 1) = place k := by unfold place; rw [Nat.min_eq_right h, Nat.min_eq_right (by omega)]
theorem place_le (k : Nat) : place k ≤ 64 * 128 ^ 8 := by unfold place; exact Nat.mul_le_mul_left _ (Nat.pow_le_pow_right (by omega) (by omega))

def NumsIf (w : World) (c : Bool) (x y z : Nat) (e : Ending) (w' : World) : Prop := Nums w (if c then x else 0) (if c then y else 0) (if c then z else 0) e w'

theorem nums_no {w w' : World} {x y z : Nat} {e : Ending} (h : Nums w 0 0 0 e w') : NumsIf w false x y z e w' := h
theorem nums_yes {w w' : World} {x y z : Nat} {e : Ending} (h : Nums w x y z e w') : NumsIf w true x y z e w' := h
theorem row_cells {w : World} {g : Nat} {a b c : Value} {t : TypeId} (h : w.heap[g]? = some (.cells #[a, b, c] t (0, 0))) :
    w.cell? ⟨g, 0, none⟩ = some a ∧ w.cell? ⟨g, 1, none⟩ = some b ∧ w.cell? ⟨g, 2, none⟩ = some c ∧ w.frozen? ⟨g, 0, none⟩ = false ∧ w.frozen? ⟨g, 1, none⟩ = false ∧ w.frozen? ⟨g, 2, none⟩ = false :=
  ⟨cell_of_row w g 0 _ t _ h, cell_of_row w g 1 _ t _ h, cell_of_row w g 2 _ t _ h, by simp [World.frozen?, h], by simp [World.frozen?, h], by simp [World.frozen?, h]⟩
theorem two_rows {w w2 : World} {a b c a' b' c' : Value} {t : TypeId} (h : Below ((w.alloc (.cells #[a, b, c] t)).alloc (.cells #[a', b', c'] t)).heap.size ((w.alloc (.cells #[a, b, c] t)).alloc (.cells #[a', b', c'] t)) w2) :
    (w2.cell? ⟨w.heap.size, 0, none⟩ = some a ∧ w2.cell? ⟨w.heap.size, 1, none⟩ = some b ∧ w2.cell? ⟨w.heap.size, 2, none⟩ = some c) ∧ w2.frozen? ⟨w.heap.size, 0, none⟩ = false ∧ w2.frozen? ⟨w.heap.size, 1, none⟩ = false ∧ w2.frozen? ⟨w.heap.size, 2, none⟩ = false ∧
    w2.cell? ⟨w.heap.size + 1, 0, none⟩ = some a' ∧ w2.cell? ⟨w.heap.size + 1, 1, none⟩ = some b' ∧ w2.cell? ⟨w.heap.size + 1, 2, none⟩ = some c' := by
  have h1 : w2.heap[w.heap.size]? = some (.cells #[a, b, c] t (0, 0)) := by
    rw [h.block _ (by simp; omega), Below.heap_alloc _ _ _ (by simp)]; exact heap_alloc_new w _
  have h2 : w2.heap[w.heap.size + 1]? = some (.cells #[a', b', c'] t (0, 0)) := by
    rw [h.block _ (by simp)]
    have := heap_alloc_new (w.alloc (.cells #[a, b, c] t)) (.cells #[a', b', c'] t)
    simpa using this
  obtain ⟨p1, p2, p3, p4, p5, p6⟩ := row_cells h1
  obtain ⟨q1, q2, q3, _⟩ := row_cells h2
  exact ⟨⟨p1, p2, p3⟩, p4, p5, p6, q1, q2, q3⟩

set_option maxHeartbeats 1600000 in
set_option maxRecDepth 100000 in
theorem refread_good (w : World) (v : Value) (x0 : Nat) (t : List Nat) (hs : Sl .u8 w v (x0 :: t)) (hb : Byt (x0 :: t)) (hl : (x0 :: t).length ≤ 1000) (l : Nat) (hD : l = lead (x0 :: t)) (hll : l < (x0 :: t).length)
    (h9 : l ≤ 9) (h19 : l = 9 → ∀ x, (x0 :: t)[9]? = some x → x ≤ 1) (hV : half t l + 63 < 9223372036854775808) (c : Bool) (hc : preB (x0 :: t) (gr (2 * (half t l + x0 % 128 / 2) + x0 % 2)) = c) :
    Calls Try.prog 25 #[v] w (NumsIf w c (half t l + x0 % 128 / 2) (x0 % 2) (l + 1)) := by
  obtain ⟨xs, HXS⟩ : ∃ xs, Hid (xs = x0 :: t) := ⟨_, rfl⟩
  have HPRE := hid hc
  rw [← HXS.out] at hs hb hl hD hll h19 HPRE
  have HS := hid hs
  obtain ⟨A, cap, rfl, hlc, hm, _, hc⟩ := hs
  obtain ⟨len, HL⟩ : ∃ len, Hid (len = xs.length) := ⟨_, rfl⟩
  rw [← HL.out] at HS hlc hl hll ⊢
  have hge : ∀ k x, k < l → xs[k]? = some x → 128 ≤ x := fun k x h => lead_go xs k x (by rw [← hD]; exact h)
  have hend : ∀ x, xs[l]? = some x → x < 128 := fun x h => lead_end xs x (by rw [← hD]; exact h)
  have HG := hid hge
  have HE := hid hend
  have HC : Hid (∀ (i b : Nat), xs[i]? = some b → ∃ ad, A = some ad ∧ (w.alloc (.cells #[.int .i64 0, .int .i64 0, .int .i64 0] 64)).cell? (ad.add i) = some (.int .u8 (b : Int))) := fun i b hi => by
    obtain ⟨ad, h1, h2⟩ := hc i b hi
    exact ⟨ad, h1, below_keep ((Below.refl _ _).alloc (Nat.le_refl _) _) _ _ h2⟩
  have H19 := hid h19
  have HB := hid hb
  have HV := hid hV
  have hle := lead_le xs
  clear hge hend hc hm hD h19 hb hV
  go_enter Try.func25, Try.ntmps25
  go_wp2
  go_loop [3] (fun i => ∃ k : Nat, k ≤ l ∧ i = .int .i64 k) (fun i => l - (intOf i).toNat)
  case atStart => exact ⟨0, by omega, rfl⟩
  case round =>
    obtain ⟨k, hk, rfl⟩ := hrel
    by_cases hlt : k < l
    · obtain ⟨x, hx⟩ : ∃ b, xs[k]? = some b := ⟨xs[k]'(by have := HL.out; omega), List.getElem?_eq_getElem _⟩
      have hx1 := HG.out k x hlt hx
      obtain ⟨ad, rfl, hcell⟩ := HC.out k x hx
      have hkl : k < len := by omega
      have hkl1 : (k : Int) < len := by omega
      clear hx
      go_wp2
      go_round
      case rel => exact ⟨k + 1, by omega, by go_num⟩
      case measure => simp [intOf]; omega
    · obtain rfl : k = l := by omega
      obtain ⟨x, hx⟩ : ∃ b, xs[k]? = some b := ⟨xs[k]'(by have := HL.out; omega), List.getElem?_eq_getElem _⟩
      have hx1 := HE.out x hx
      have hx1' : ¬ 128 ≤ (x : Int) := by omega
      obtain ⟨ad, rfl, hcell⟩ := HC.out k x hx
      have HX := hid hx
      have hkl1 : (k : Int) < len := by omega
      have h1x : k = 9 → x ≤ 1 := fun h => H19.out h x (by subst h; exact hx)
      have H1X := hid h1x
      clear hx h1x
      have hk9i : (k : Int) ≤ 9 := by omega
      have hc0 : (w.alloc (.cells #[.int .i64 0, .int .i64 0, .int .i64 0] 64)).cell? ad = some (.int .u8 (x0 : Int)) := by
        obtain ⟨ad', h1, h2⟩ := HC.out 0 x0 (by rw [HXS.out]; rfl)
        injection h1 with h1
        subst h1
        rw [add_zero'] at h2
        exact h2
      have hcs : ∀ (i y : Nat), t[i]? = some y → (w.alloc (.cells #[.int .i64 0, .int .i64 0, .int .i64 0] 64)).cell? { block := ad.block, off := ad.off + (i + 1), spot := none } = some (.int .u8 (y : Int)) := fun i y hy => by
        obtain ⟨ad', h1, h2⟩ := HC.out (i + 1) y (by rw [HXS.out]; exact hy)
        injection h1 with h1
        subst h1
        rw [Addr.add_succ'] at h2
        exact h2
      have HC0 := hid hc0
      have HCS := hid hcs
      have hx0 : x0 < 256 := HB.out x0 (by rw [HXS.out]; exact List.mem_cons_self)
      have htl : Hid (k ≤ t.length) := by show _ ≤ _; have := HL.out; rw [HXS.out] at this; simp at this; omega
      have hcell9 : 9 ≤ k → (w.alloc (.cells #[.int .i64 0, .int .i64 0, .int .i64 0] 64)).cell? { block := ad.block, off := ad.off + 9, spot := none } = some (.int .u8 (x : Int)) := fun h => by
        obtain rfl : k = 9 := by omega
        rw [← show ad.add 9 = { block := ad.block, off := ad.off + 9, spot := none } from Addr.add_succ' ad 8]; exact hcell
      have HC9 := hid hcell9
      clear hc0 hcs hcell9 hle
      by_cases h9' : 9 ≤ (k : Int)
      · have h2 : ¬ 1 < (x : Int) := by have := H1X.out (by omega); omega
        have hcell9 := HC9.out (by omega)
        have HC9 := hid hcell9
        go_wp2
        go_loop [4, 5, 6] (fun a b i => ∃ j : Nat, j ≤ k ∧ a = .int .i64 (half t j : Nat) ∧ b = .int .i64 (place j : Nat) ∧ i = .int .i64 (j + 1 : Nat)) (fun _ _ i => k + 1 - (intOf i).toNat)
        case atStart => exact ⟨0, by omega, by simp [half, gval], by simp [place], rfl⟩
        case round =>
          obtain ⟨j, hj, rfl, rfl, rfl⟩ := hrel
          by_cases hjk : j < k
          · obtain ⟨y, hy⟩ : ∃ b, t[j]? = some b := ⟨t[j]'(by have := htl.out; omega), List.getElem?_eq_getElem _⟩
            have hcy := HCS.out j y hy
            have hy256 : y < 256 := HB.out y (by rw [HXS.out]; exact List.mem_cons_of_mem _ (List.mem_of_getElem? hy))
            have hh1 := half_succ hy
            have hh2 := half_mono t (k := j + 1) (l := k) (by omega)
            have hp1 := place_at (k := j) (by omega)
            rw [← hp1] at hh1
            have hp2 := place_le j
            have hp3 : j < 8 → place j * 128 = place (j + 1) := fun h => (place_succ h).symm
            have hp4 : 8 ≤ j → place j = place (j + 1) := fun h => (place_stay h).symm
            have hp5 := place_le (j + 1)
            have hM : ((y : Int) % 128 * (place j : Int)) = ((y % 128 * place j : Nat) : Int) := by push_cast; rfl
            have hS : half t j + y % 128 * place j ≤ 9223372036854775807 := by have := HV.out; omega
            have HH1 := hid hh1
            have hpl : place j ≤ 4611686018427387904 := hp2
            have hpl' : place (j + 1) ≤ 4611686018427387904 := hp5
            generalize y % 128 * place j = M at *
            generalize half t j = Hj at *
            generalize place j = P0 at *
            clear hh1 hh2 hp1 hp2 hp5 hy
            by_cases hj8 : j < 8
            · have hp := hp3 hj8
              have HP := hid hp
              have hp' : P0 * 128 ≤ 4611686018427387904 := by (rw [hp]; exact hpl')
              clear hp hp3 hp4
              go_wp2
              go_round
              case rel => exact ⟨j + 1, by omega, by rw [HH1.out]; go_num, by rw [← HP.out]; go_num, by go_num⟩
              case measure => simp [intOf]; omega
            · have hp := hp4 (by omega)
              have HP := hid hp
              clear hp hp3 hp4
              go_wp2
              go_round
              case rel => exact ⟨j + 1, by omega, by rw [HH1.out]; go_num, by rw [← HP.out], by go_num⟩
              case measure => simp [intOf]; omega
          · obtain rfl : j = k := by omega
            have hHV : half t j + 63 ≤ 9223372036854775807 := by have := HV.out; omega
            have hcell0 := HC0.out
            have hq : x0 % 128 / 2 ≤ 63 := by omega
            generalize half t j = Hj at *
            generalize place j = P0 at *
            clear hcell HC9
            go_wp2_with fail
            refine (refgroups _ (Hj + x0 % 128 / 2) (x0 % 2) (by omega) (by omega)).mono ?_
            rintro e w1 ⟨u, rfl, hu, hc1⟩
            have HB1 := hid hc1.nil_below
            have HU := hid hu.sl
            clear hu hc1
            go_wp2_with fail
            refine (same_any w1 _ _ xs (gr (2 * (Hj + x0 % 128 / 2) + x0 % 2)) ((HS.out.alloc _).alloc _ |>.below HB1.out) HU.out).mono ?_
            rw [HPRE.out]
            rintro e w2 ⟨rfl, hb2⟩
            obtain ⟨⟨r0, r1, r2⟩, r3, r4, r5, r6, r7, r8⟩ := two_rows (HB1.out.trans (hb2.mono HB1.out.size))
            have HB2 := hid (HB1.out.trans (hb2.mono HB1.out.size))
            clear hb2
            have hb0 := ((Below.refl w.heap.size w).alloc (Nat.le_refl _) (.cells #[.int .i64 0, .int .i64 0, .int .i64 0] 64)).alloc (by simp) (.cells #[.int .i64 (Hj + x0 % 128 / 2 : Nat), .int .i64 (x0 % 2 : Nat), .int .i64 (j + 1 : Nat)] 64)
            have HBW : Hid (Below w.heap.size w w2) := by
              refine Below.trans (((Below.refl w.heap.size w).alloc (Nat.le_refl _) _).alloc (by simp) _) (HB2.out.mono (by simp; omega))
            clear hb0
            cases c
            · go_wp2
              refine bodyPost_ret (v := .agg #[.int .i64 0, .int .i64 0, .int .i64 0]) (by simp [results, Try.results25, go_sem, r0, r1, r2]) rfl (nums_no ⟨rfl, ?_⟩)
              exact ((HBW.out.setCell (Nat.le_refl _) _).setCell (Nat.le_refl _) _).setCell (Nat.le_refl _) _
            · go_wp2
              refine bodyPost_ret (v := .agg #[.int .i64 (Hj + x0 % 128 / 2 : Nat), .int .i64 (x0 % 2 : Nat), .int .i64 (j + 1 : Nat)]) (by simp [results, Try.results25, go_sem, r0, r1, r2] <;> omega) rfl (nums_yes ⟨rfl, ?_⟩)
              exact ((HBW.out.setCell (Nat.le_refl _) _).setCell (Nat.le_refl _) _).setCell (Nat.le_refl _) _
      · go_wp2
        go_loop [4, 5, 6] (fun a b i => ∃ j : Nat, j ≤ k ∧ a = .int .i64 (half t j : Nat) ∧ b = .int .i64 (place j : Nat) ∧ i = .int .i64 (j + 1 : Nat)) (fun _ _ i => k + 1 - (intOf i).toNat)
        case atStart => exact ⟨0, by omega, by simp [half, gval], by simp [place], rfl⟩
        case round =>
          obtain ⟨j, hj, rfl, rfl, rfl⟩ := hrel
          by_cases hjk : j < k
          · obtain ⟨y, hy⟩ : ∃ b, t[j]? = some b := ⟨t[j]'(by have := htl.out; omega), List.getElem?_eq_getElem _⟩
            have hcy := HCS.out j y hy
            have hy256 : y < 256 := HB.out y (by rw [HXS.out]; exact List.mem_cons_of_mem _ (List.mem_of_getElem? hy))
            have hh1 := half_succ hy
            have hh2 := half_mono t (k := j + 1) (l := k) (by omega)
            have hp1 := place_at (k := j) (by omega)
            rw [← hp1] at hh1
            have hp2 := place_le j
            have hp3 : j < 8 → place j * 128 = place (j + 1) := fun h => (place_succ h).symm
            have hp4 : 8 ≤ j → place j = place (j + 1) := fun h => (place_stay h).symm
            have hp5 := place_le (j + 1)
            have hM : ((y : Int) % 128 * (place j : Int)) = ((y % 128 * place j : Nat) : Int) := by push_cast; rfl
            have hS : half t j + y % 128 * place j ≤ 9223372036854775807 := by have := HV.out; omega
            have HH1 := hid hh1
            have hpl : place j ≤ 4611686018427387904 := hp2
            have hpl' : place (j + 1) ≤ 4611686018427387904 := hp5
            generalize y % 128 * place j = M at *
            generalize half t j = Hj at *
            generalize place j = P0 at *
            clear hh1 hh2 hp1 hp2 hp5 hy
            · have hj8 : j < 8 := by omega
              have hp := hp3 hj8
              have HP := hid hp
              have hp' : P0 * 128 ≤ 4611686018427387904 := by (rw [hp]; exact hpl')
              clear hp hp3 hp4
              go_wp2
              go_round
              case rel => exact ⟨j + 1, by omega, by rw [HH1.out]; go_num, by rw [← HP.out]; go_num, by go_num⟩
              case measure => simp [intOf]; omega
          · obtain rfl : j = k := by omega
            have hHV : half t j + 63 ≤ 9223372036854775807 := by have := HV.out; omega
            have hcell0 := HC0.out
            have hq : x0 % 128 / 2 ≤ 63 := by omega
            generalize half t j = Hj at *
            generalize place j = P0 at *
            clear hcell HC9
            go_wp2_with fail
            refine (refgroups _ (Hj + x0 % 128 / 2) (x0 % 2) (by omega) (by omega)).mono ?_
            rintro e w1 ⟨u, rfl, hu, hc1⟩
            have HB1 := hid hc1.nil_below
            have HU := hid hu.sl
            clear hu hc1
            go_wp2_with fail
            refine (same_any w1 _ _ xs (gr (2 * (Hj + x0 % 128 / 2) + x0 % 2)) ((HS.out.alloc _).alloc _ |>.below HB1.out) HU.out).mono ?_
            rw [HPRE.out]
            rintro e w2 ⟨rfl, hb2⟩
            obtain ⟨⟨r0, r1, r2⟩, r3, r4, r5, r6, r7, r8⟩ := two_rows (HB1.out.trans (hb2.mono HB1.out.size))
            have HB2 := hid (HB1.out.trans (hb2.mono HB1.out.size))
            clear hb2
            have hb0 := ((Below.refl w.heap.size w).alloc (Nat.le_refl _) (.cells #[.int .i64 0, .int .i64 0, .int .i64 0] 64)).alloc (by simp) (.cells #[.int .i64 (Hj + x0 % 128 / 2 : Nat), .int .i64 (x0 % 2 : Nat), .int .i64 (j + 1 : Nat)] 64)
            have HBW : Hid (Below w.heap.size w w2) := by
              refine Below.trans (((Below.refl w.heap.size w).alloc (Nat.le_refl _) _).alloc (by simp) _) (HB2.out.mono (by simp; omega))
            clear hb0
            cases c
            · go_wp2
              refine bodyPost_ret (v := .agg #[.int .i64 0, .int .i64 0, .int .i64 0]) (by simp [results, Try.results25, go_sem, r0, r1, r2]) rfl (nums_no ⟨rfl, ?_⟩)
              exact ((HBW.out.setCell (Nat.le_refl _) _).setCell (Nat.le_refl _) _).setCell (Nat.le_refl _) _
            · go_wp2
              refine bodyPost_ret (v := .agg #[.int .i64 (Hj + x0 % 128 / 2 : Nat), .int .i64 (x0 % 2 : Nat), .int .i64 (j + 1 : Nat)]) (by simp [results, Try.results25, go_sem, r0, r1, r2] <;> omega) rfl (nums_yes ⟨rfl, ?_⟩)
              exact ((HBW.out.setCell (Nat.le_refl _) _).setCell (Nat.le_refl _) _).setCell (Nat.le_refl _) _
end Go.Proofs.Ytcnhklmfahbaoaa

namespace Go.Proofs.Ytcnhklmfahbaoaa
open Go.RowKit

theorem lead_at : ∀ (ys zs : List Nat) (b : Nat), (∀ x ∈ ys, 128 ≤ x ∧ x < 256) → b < 128 → lead (ys ++ b :: zs) = ys.length
  | [], zs, b, _, hb => by
    unfold lead; rw [List.nil_append, List.takeWhile_cons_of_neg (by simpa using hb)]
  | y :: ys, zs, b, h, hb => by
    have ih := lead_at ys zs b (fun x hx => h x (List.mem_cons_of_mem _ hx)) hb
    unfold lead at ih ⊢
    have := (h y List.mem_cons_self).1
    rw [List.cons_append, List.takeWhile_cons_of_pos (by simpa using this), List.length_cons, ih, List.length_cons]
theorem half_room {x0 : Nat} {t : List Nat} {l : Nat} (h9 : l ≤ 9) (h19 : l = 9 → ∀ x, (x0 :: t)[9]? = some x → x ≤ 1) : half t l + 63 < 9223372036854775808 := by
  unfold half
  rcases Nat.lt_or_ge l 9 with h | h
  · have h1 := gval_lt (t.take l)
    have h2 : 128 ^ (t.take l).length ≤ 128 ^ 8 := Nat.pow_le_pow_right (by omega) (by rw [List.length_take]; omega)
    have h3 : (128 : Nat) ^ 8 = 72057594037927936 := by decide
    omega
  · obtain rfl : l = 9 := by omega
    have h3 : (128 : Nat) ^ 8 = 72057594037927936 := by decide
    cases hx : t[8]? with
    | some x =>
      have h1 := h19 rfl x hx
      have h2 := gval_lt (t.take 8)
      have h4 : 128 ^ (t.take 8).length ≤ 128 ^ 8 := Nat.pow_le_pow_right (by omega) (by rw [List.length_take]; omega)
      have h5 := gval_take_succ hx
      have h6 : x % 128 * 128 ^ 8 ≤ 1 * 128 ^ 8 := Nat.mul_le_mul_right _ (by omega)
      rw [show (9 : Nat) = 8 + 1 from rfl, h5]
      omega
    | none =>
      have hl : t.length ≤ 8 := by simpa using hx
      have h2 := gval_lt (t.take 9)
      have h4 : 128 ^ (t.take 9).length ≤ 128 ^ 8 := Nat.pow_le_pow_right (by omega) (by rw [List.length_take]; omega)
      omega
theorem whole_val {x0 : Nat} {t : List Nat} {l : Nat} : 2 * (half t l + x0 % 128 / 2) + x0 % 2 = gval ((x0 :: t).take (l + 1)) := by
  unfold half
  simp only [List.take_succ_cons, gval]
  omega

theorem refread_yes (w : World) (v : Value) (N : Nat) (rest : List Nat) (hs : Sl .u8 w v (gr N ++ rest)) (hb : Byt rest) (hN : N < 18446744073709551616) (hl : (gr N ++ rest).length ≤ 1000) :
    Calls Try.prog 25 #[v] w (Nums w (N / 2) (N % 2) (gr N).length) := by
  obtain ⟨ys, b, he, hy, hb7, h0⟩ := gr_go N
  have hbyt : Byt (gr N ++ rest) := (gr_byt N).app hb
  have hld : lead (gr N ++ rest) = ys.length := by rw [he, List.append_assoc, List.singleton_append]; exact lead_at ys rest b hy hb7
  have hlen : (gr N).length = ys.length + 1 := by rw [he]; simp
  have h10 := gr_len10 hN
  have htk : (gr N ++ rest).take (ys.length + 1) = gr N := by rw [← hlen, List.take_left]
  have hlt : ys.length < (gr N ++ rest).length := by rw [List.length_append, hlen]; omega
  have h19 : ys.length = 9 → ∀ x, (gr N ++ rest)[9]? = some x → x ≤ 1 := by
    intro h9 x hx
    rw [he, List.append_assoc, ← h9, List.getElem?_append_right (Nat.le_refl _)] at hx
    simp at hx
    subst hx
    have h1 := gval_snoc ys b
    rw [← he, gval_gr, h9, show (128 : Nat) ^ 9 = 9223372036854775808 by decide] at h1
    omega
  have hpre : preB (gr N ++ rest) (gr N) = true := preB_yes (List.take_left)
  generalize hxs : gr N ++ rest = xs at *
  cases xs with
  | nil => simp at hlt
  | cons x0 t =>
    have hv : 2 * (half t ys.length + x0 % 128 / 2) + x0 % 2 = N := by rw [whole_val, htk, gval_gr]
    have h := refread_good w v x0 t hs hbyt hl ys.length hld.symm hlt (by omega) h19 (half_room (x0 := x0) (by omega) h19) true (by rw [hv]; exact hpre)
    refine h.mono fun e w' hq => ?_
    have e1 : half t ys.length + x0 % 128 / 2 = N / 2 := by omega
    have e2 : x0 % 2 = N % 2 := by omega
    rw [e1, e2] at hq
    rw [hlen]
    exact hq
theorem refread_no (w : World) (v : Value) (xs : List Nat) (hs : Sl .u8 w v xs) (hb : Byt xs) (hno : NoGr xs) (hl : xs.length ≤ 1000) :
    Calls Try.prog 25 #[v] w (Nums w 0 0 0) := by
  by_cases h1 : xs.length ≤ lead xs
  · exact refread_short w v xs hs hl h1
  by_cases h2 : 10 ≤ lead xs ∨ lead xs = 9 ∧ ∃ x, xs[9]? = some x ∧ 1 < x
  · exact refread_bad w v xs hs hl (by omega) h2
  have h9 : lead xs ≤ 9 := by
    rcases Nat.lt_or_ge (lead xs) 10 with h | h
    · omega
    · exact (h2 (.inl h)).elim
  have h19 : lead xs = 9 → ∀ x, xs[9]? = some x → x ≤ 1 := fun h x hx => by
    rcases Nat.lt_or_ge 1 x with h' | h'
    · exact (h2 (.inr ⟨h, x, hx, h'⟩)).elim
    · exact h'
  cases xs with
  | nil => simp at h1
  | cons x0 t =>
    have hr := half_room (x0 := x0) h9 h19
    generalize hl' : lead (x0 :: t) = l at *
    have hpre : preB (x0 :: t) (gr (2 * (half t l + x0 % 128 / 2) + x0 % 2)) = false := by
      unfold preB; simp
      rintro ⟨c, hc⟩
      exact hno _ c (by omega) hc.symm
    exact refread_good w v x0 t hs hb hl l hl'.symm (by omega) h9 h19 hr false hpre
end Go.Proofs.Ytcnhklmfahbaoaa

namespace Go.Proofs.Ytcnhklmfahbaoaa
open Go.RowKit

section
variable {F G F' G' : List Nat} {a b c w w' : World}
theorem Chg.wide (h : Chg F w w' F') (G : List Nat) : Chg (F ++ G) w w' (F' ++ G) :=
  ⟨h.os, h.tape, h.output, h.size, fun k hl hk => h.block k hl fun hF => hk (List.mem_append_left _ hF), fun k hk => by
    rcases List.mem_append.1 hk with hk | hk
    · rcases h.foot k hk with hh | hh
      · exact .inl (List.mem_append_left _ hh)
      · exact .inr hh
    · exact .inl (List.mem_append_right _ hk)⟩
theorem Chg.wideL (h : Chg F w w' F') (G : List Nat) : Chg (G ++ F) w w' (G ++ F') :=
  ⟨h.os, h.tape, h.output, h.size, fun k hl hk => h.block k hl fun hF => hk (List.mem_append_right _ hF), fun k hk => by
    rcases List.mem_append.1 hk with hk | hk
    · exact .inl (List.mem_append_left _ hk)
    · rcases h.foot k hk with hh | hh
      · exact .inl (List.mem_append_right _ hh)
      · exact .inr hh⟩
/-- A new block beside. -/
theorem Chg.add (h : Chg F a b G) (o : Obj) : Chg F a (b.alloc o) (b.heap.size :: G) :=
  ⟨(h.alloc o).os, (h.alloc o).tape, (h.alloc o).output, (h.alloc o).size, (h.alloc o).block, fun k hk => by
    rcases List.mem_cons.1 hk with rfl | hk
    · exact .inr h.size
    · exact h.foot k hk⟩
theorem Chg.left (h : Chg F a b (G ++ G')) : Chg F a b G := h.less fun _k hk => .inl (List.mem_append_left _ hk)
theorem Chg.right (h : Chg F a b (G ++ G')) : Chg F a b G' := h.less fun _k hk => .inl (List.mem_append_right _ hk)
end

theorem Apart.nilL (F : List Nat) : Apart [] F := fun _ h => by cases h
theorem Apart.new {F G : List Nat} {a b : World} (h : Chg [] a b G) (hl : ∀ k ∈ F, k < a.heap.size) : Apart G F := Apart.fresh h.nil_from hl
theorem Wr.out {G G' : List Nat} {w w' : World} {F : List Nat} {p : Value} {xs : List Nat} (h : Wr w F p xs) (hc : Chg G w w' G') (hap : Apart G F) : Wr w' F p xs := h.keep (hc.out h.lt hap)
theorem Rd.out {G G' : List Nat} {w w' : World} {g : Nat} {xs : List Nat} (h : Rd w g xs) (hc : Chg G w w' G') (hap : Apart G [g]) : Rd w' g xs := One.keep h (hc.out (fun k hk => by obtain rfl := List.mem_singleton.1 hk; exact One.lt h) hap g (List.mem_singleton.2 rfl))
theorem Rd.lt {w : World} {g : Nat} {xs : List Nat} (h : Rd w g xs) : ∀ k ∈ [g], k < w.heap.size := fun k hk => by obtain rfl := List.mem_singleton.1 hk; exact One.lt h

/-- A new reader. -/
theorem read_new (w : World) (v : Value) (xs : List Nat) (hs : Sl .u8 w v xs) :
    Calls Try.prog 21 #[v] w fun e w' => ∃ g, e = .returned (.pointer (some ⟨g, 0, none⟩)) ∧ Rd w' g xs ∧ Chg [] w w' [g] :=
  (rdnew_any w v xs hs).mono fun _ _ ⟨he, hw⟩ => ⟨w.heap.size, he, by rw [hw]; exact rd_new w xs, by rw [hw]; exact (Chg.refl [] w).add _⟩

theorem ab_str : (⟨#[97, 98]⟩ : ByteArray) = str [97, 98] := by
  apply ba_ext; rw [str_list]; rfl
theorem no_128_0 : NoGr [128, 0] := by
  intro n ys hn h
  by_cases h1 : n < 128
  · rw [gr_lt h1] at h; simp at h <;> omega
  · rw [gr_ge (by omega)] at h
    by_cases h2 : n / 128 < 128
    · rw [gr_lt h2] at h; simp at h <;> omega
    · rw [gr_ge (by omega)] at h; simp at h <;> omega
def woke : List Nat := [172, 2, 1, 2, 2, 97, 98]
theorem woke_eq : ((([] ++ gr (300 : Nat)) ++ gr (zig (-1))) ++ gr (zig 1)) ++ tx [97, 98] = woke := by
  rw [show zig (-1) = 1 by decide, show zig 1 = 2 by decide, show gr 300 = [172, 2] by (rw [gr_ge (by omega), gr_lt (by omega)]), show gr 1 = [1] from gr_lt (by omega), show gr 2 = [2] from gr_lt (by omega)]
  unfold tx
  rw [show gr [97, 98].length = [2] from gr_lt (by simp)]
  rfl
theorem woke_row {w : World} {e : TypeId} {fz : Nat × Nat} : Sl .u8 (w.alloc (.cells #[.int .u8 172, .int .u8 2, .int .u8 1, .int .u8 2, .int .u8 2, .int .u8 97, .int .u8 98] e fz)) (.slice (some ⟨w.heap.size, 0, none⟩) 7 7) woke := by
  refine Sl.row (xs := woke) (c := 7) (heap_alloc_new w _) (by simp [woke]) (by simp [maxLen]) ?_
  intro i x hi
  match i with
  | 0 | 1 | 2 | 3 | 4 | 5 | 6 => simp [woke] at hi ⊢; omega
  | i + 7 => simp [woke] at hi
theorem two_row {w : World} {e : TypeId} {fz : Nat × Nat} : Sl .u8 (w.alloc (.cells #[.int .u8 128, .int .u8 0] e fz)) (.slice (some ⟨w.heap.size, 0, none⟩) 2 2) [128, 0] := by
  refine Sl.row (xs := [128, 0]) (c := 2) (heap_alloc_new w _) (by simp) (by simp [maxLen]) ?_
  intro i x hi
  match i with
  | 0 | 1 => simp at hi ⊢; omega
  | i + 2 => simp at hi

end Go.Proofs.Ytcnhklmfahbaoaa

namespace Go.Proofs.Ytcnhklmfahbaoaa
open Go.RowKit

theorem Chg.far {F G G' : List Nat} {a b c : World} (h : Chg [] a b F) (hc : Chg G b c G') (hG : ∀ k ∈ G, a.heap.size ≤ k) : Chg [] a c F :=
  ⟨hc.os.trans h.os, hc.tape.trans h.tape, hc.output.trans h.output, Nat.le_trans h.size hc.size,
    fun k hk hF => (hc.block k (Nat.lt_of_lt_of_le hk h.size) fun hg => by have := hG k hg; omega).trans (h.block k hk hF), h.foot⟩

/-- FThree writers, and nothing else has turned since W. -/
structure FThree (W w : World) (Fx Fy Fz : List Nat) (px py pz : Value) (X Y Z : List Nat) : Prop where
  x : Wr w Fx px X
  y : Wr w Fy py Y
  z : Wr w Fz pz Z
  c : Chg [] W w (Fx ++ (Fy ++ Fz))
  xy : Apart Fx Fy
  xz : Apart Fx Fz
  yz : Apart Fy Fz
section
variable {W w w' : World} {Fx Fy Fz F' G G' : List Nat} {px py pz : Value} {X Y Z X' : List Nat}
theorem FThree.setX (h : FThree W w Fx Fy Fz px py pz X Y Z) (hw : Wr w' F' px X') (hc : Chg Fx w w' F') : FThree W w' F' Fy Fz px py pz X' Y Z :=
  ⟨hw, h.y.out hc h.xy, h.z.out hc h.xz, h.c.trans (hc.wide _), h.xy.chg hc h.y.lt, h.xz.chg hc h.z.lt, h.yz⟩
theorem FThree.setY (h : FThree W w Fx Fy Fz px py pz X Y Z) (hw : Wr w' F' py X') (hc : Chg Fy w w' F') : FThree W w' Fx F' Fz px py pz X X' Z :=
  ⟨h.x.out hc h.xy.symm, hw, h.z.out hc h.yz, h.c.trans ((hc.wide _).wideL _), (h.xy.symm.chg hc h.x.lt).symm, h.xz, h.yz.chg hc h.z.lt⟩
theorem FThree.setZ (h : FThree W w Fx Fy Fz px py pz X Y Z) (hw : Wr w' F' pz X') (hc : Chg Fz w w' F') : FThree W w' Fx Fy F' px py pz X Y X' :=
  ⟨h.x.out hc h.xz.symm, h.y.out hc h.yz.symm, hw, h.c.trans ((hc.wideL _).wideL _), h.xy, (h.xz.symm.chg hc h.x.lt).symm, (h.yz.symm.chg hc h.y.lt).symm⟩
theorem FThree.far (h : FThree W w Fx Fy Fz px py pz X Y Z) (hc : Chg G w w' G') (hG : ∀ k ∈ G, W.heap.size ≤ k) (hx : Apart G Fx) (hy : Apart G Fy) (hz : Apart G Fz) : FThree W w' Fx Fy Fz px py pz X Y Z :=
  ⟨h.x.out hc hx, h.y.out hc hy, h.z.out hc hz, h.c.far hc hG, h.xy, h.xz, h.yz⟩
theorem FThree.new_ (h : FThree W w Fx Fy Fz px py pz X Y Z) (hc : Chg [] w w' G') : FThree W w' Fx Fy Fz px py pz X Y Z :=
  h.far hc (fun _ h => by cases h) (Apart.nilL _) (Apart.nilL _) (Apart.nilL _)
end
theorem fthree_new (W : World) : FThree W (((W.alloc (.cells #[.slice none 0 0] 54)).alloc (.cells #[.slice none 0 0] 54)).alloc (.cells #[.slice none 0 0] 54)) [W.heap.size] [W.heap.size + 1] [W.heap.size + 1 + 1]
    (.pointer (some ⟨W.heap.size, 0, none⟩)) (.pointer (some ⟨W.heap.size + 1, 0, none⟩)) (.pointer (some ⟨W.heap.size + 1 + 1, 0, none⟩)) [] [] [] := by
  have h1 := wr_new W
  have h2 := wr_new (W.alloc (.cells #[.slice none 0 0] 54))
  have h3 := wr_new ((W.alloc (.cells #[.slice none 0 0] 54)).alloc (.cells #[.slice none 0 0] 54))
  have s1 : (W.alloc (.cells #[.slice none 0 0] 54)).heap.size = W.heap.size + 1 := by simp
  have s2 : ((W.alloc (.cells #[.slice none 0 0] 54)).alloc (.cells #[.slice none 0 0] 54)).heap.size = W.heap.size + 1 + 1 := by simp
  rw [s1] at h2
  rw [s2] at h3
  have a1 : ∀ w : World, Chg [] w (w.alloc (.cells #[.slice none 0 0] 54)) [] := fun w => (Chg.refl [] w).alloc _
  refine ⟨(h1.out (a1 _) (Apart.nilL _)).out (a1 _) (Apart.nilL _), h2.out (a1 _) (Apart.nilL _), h3, ?_, ?_, ?_, ?_⟩
  · refine ((((Chg.refl [] W).alloc _).alloc _).alloc _).less fun k hk => .inr ?_
    simp at hk; omega
  all_goals intro k h1 h2; simp at h1 h2; omega

/-- What Uint does, whatever the number. -/
def ucode (n : Int) : Int := if n < 0 then 10 else 0
def uenc (n : Int) : List Nat := if n < 0 then [] else gr n.toNat
theorem uenc_byt (n : Int) : Byt (uenc n) := by
  unfold uenc; split
  · exact Byt.nil
  · exact gr_byt _
theorem uenc_len {n : Int} (h : n ≤ 9223372036854775807) : (uenc n).length ≤ 9 := by
  unfold uenc; split
  · simp
  · exact gr_len9 (by omega)

end Go.Proofs.Ytcnhklmfahbaoaa

