import Derived.Test.YtjhgebfabjbbjaaT8
import Derived.Lib.ConvBytes
namespace Go.Proofs.Ytjhgebfabjbbjaa
open Go.RowKit

/-- Bytes in a row that the call made. -/
def Fresh (w : World) (xs : List Nat) (e : Ending) (w' : World) : Prop :=
  ∃ u, e = .returned u ∧ Own .u8 w' 0 5 u xs ∧ Chg [] w w' (ownFoot u)
theorem Chg.nil_below {F : List Nat} {w w' : World} (h : Chg [] w w' F) : Below w.heap.size w w' := h.below (fun _ h => by cases h) (Nat.le_refl _)
theorem Chg.nil_from {F : List Nat} {w w' : World} (h : Chg [] w w' F) : ∀ k ∈ F, w.heap.size ≤ k := h.from_ (fun _ h => by cases h) (Nat.le_refl _)
theorem chg_of_own {w w' : World} {u : Value} {xs : List Nat} (h : Own .u8 w' w.heap.size 5 u xs) (hb : Below w.heap.size w w') : Chg [] w w' (ownFoot u) :=
  ⟨hb.os, hb.tape, hb.output, hb.size, fun k hk _ => hb.block k hk, fun k hk => .inr (h.blk k (mem_ownFoot.1 hk)).1⟩
theorem wbytes_fresh (w : World) (F : List Nat) (p : Value) (xs : List Nat) (hW : Wr w F p xs) (hl : xs.length ≤ 100000000000000) : Calls Try.prog 18 #[p] w (Fresh w xs) :=
  (wbytes w F p xs hW hl).mono fun _ _ ⟨u, he, ho, hb⟩ => ⟨u, he, ho.zero, chg_of_own ho hb⟩
/-- Behind an append onto a row of one's own. -/
theorem own_step {F : List Nat} {w w0 w1 : World} {v v' : Value} (hc : Chg F w w0 (ownFoot v)) (hg : w0.grownBy w1 v.ownBlock) (hf : ∀ b ∈ ownFoot v', b ∈ ownFoot v ∨ w0.heap.size ≤ b) : Chg F w w1 (ownFoot v') :=
  (hc.grown hg fun _ hk => mem_ownFoot.2 hk).less fun b hb => by
    rcases hf b hb with h | h
    · exact .inl h
    · exact .inr (Nat.le_trans hc.size h)

def GRel (w : World) (all : List Nat) (v : Value) (t r : Value) (wr : World) : Prop :=
  ∃ (cur : List Nat) (a b : Nat), t = .int .i64 a ∧ r = .int .i64 b ∧ a < 128 ∧ b < 9223372036854775808 ∧ Own .u8 wr 0 5 v cur ∧ cur ++ gr (a + 128 * b) = all ∧ Chg [] w wr (ownFoot v)

set_option maxRecDepth 100000 in
theorem refgroups (w : World) (h o : Nat) (hh : h < 9223372036854775808) (ho : o < 2) : Calls Try.prog 26 #[.int .i64 h, .int .i64 o] w (Fresh w (gr (2 * h + o))) := by
  obtain ⟨i0, hi, hz0, hz1, hz2⟩ := info_parts Try.info5
  obtain ⟨all, HA⟩ : ∃ all, Hid (all = gr (2 * h + o)) := ⟨_, rfl⟩
  have hla : all.length ≤ 10 := by rw [HA.out]; exact gr_len10 (by omega)
  rw [← HA.out]
  have hrel0 : GRel w all (.slice none 0 0) (.int .i64 ((h % 64 * 2 + o : Nat) : Int)) (.int .i64 ((h / 64 : Nat) : Int)) w :=
    ⟨[], h % 64 * 2 + o, h / 64, rfl, rfl, by omega, by omega, Own.nil _ _ _ _, by rw [HA.out, List.nil_append]; congr 1; omega, Chg.refl _ _⟩
  have HR0 := hid hrel0
  clear hrel0
  go_enter Try.func26, Try.ntmps26
  go_wp2
  go_loopw [5, 6, 7] (fun v t r wr => GRel w all v t r wr) (fun _ _ r _ => (intOf r).toNat)
  case atStart => exact HR0.out
  case round =>
    obtain ⟨cur, a, b, rfl, rfl, ha, hb, hown, hcur, hchg⟩ := hrel
    have hlc : cur.length ≤ 10 := by have := congrArg List.length hcur; rw [List.length_append] at this; omega
    have HC := hid hcur
    have HCH := hid hchg
    have hlo : (a : Int) < 128 := by omega
    clear hcur hchg
    obtain ⟨A, n, c, rfl⟩ := hown.slice
    by_cases h0 : 0 < b
    · go_wp2_with (at_builtin; refine wpList_append_at _ rfl (.tmp 17) (.tmp 21) 26 rfl 5 i0 (.int .u8 0) 1 Try.underlying26 hi hz0 hz1 hz2 rfl .u8 (.slice A n c) cur rfl (hown.alloc _) _ [a + 128] rfl (one_row (by omega)) (by unfold maxLen; simp; omega) (by simp; omega) ?_; intro v' w1 hown1 hgrow1 hf1; have HST := hid (own_step (HCH.out.alloc _) hgrow1 hf1); have HOWN := hid hown1; clear hown1 hgrow1 hf1)
      go_roundw
      case rel =>
        refine ⟨_, b % 128, b / 128, by go_num, by go_num, by omega, by omega, HOWN.out, ?_, HST.out⟩
        rw [List.append_assoc, List.singleton_append, show b % 128 + 128 * (b / 128) = (a + 128 * b) / 128 by omega,
          show a + 128 = (a + 128 * b) % 128 + 128 by omega, ← gr_ge (by omega)]
        exact HC.out
      case measure => simp [intOf]; omega
    · obtain rfl : b = 0 := by omega
      go_wp2_with (at_builtin; refine wpList_append_at _ rfl (.tmp 27) (.tmp 30) 26 rfl 5 i0 (.int .u8 0) 1 Try.underlying26 hi hz0 hz1 hz2 rfl .u8 (.slice A n c) cur rfl (hown.alloc _) _ [a] rfl (one_row (by omega)) (by unfold maxLen; simp; omega) (by simp; omega) ?_; intro v' w1 hown1 hgrow1 hf1; have HST := hid (own_step (HCH.out.alloc _) hgrow1 hf1); have HOWN := hid hown1; clear hown1 hgrow1 hf1)
      go_ret
      refine ⟨_, rfl, ?_, HST.out⟩
      have := HC.out
      rw [Nat.mul_zero, Nat.add_zero, gr_lt ha] at this
      rw [← this]
      exact HOWN.out

theorem refuint (w : World) (n : Nat) (hn : n < 9223372036854775808) : Calls Try.prog 12 #[.int .i64 n] w (Fresh w (gr n)) := by
  have HE : Hid (2 * (n / 2) + n % 2 = n) := by show _ = _; omega
  have hle : (n : Int) ≤ 9223372036854775807 := by omega
  have HN := hid hn
  clear hn
  go_enter Try.func12, Try.ntmps12
  go_wp2_with fail
  refine (refgroups w (n / 2) (n % 2) (by have := HN.out; omega) (by omega)).mono ?_
  rw [HE.out]
  rintro e w' ⟨u, rfl, hu⟩
  have HU := hid hu
  clear hu
  go_wp2
  go_ret
  exact ⟨u, rfl, HU.out⟩
theorem refint (w : World) (n : Int) (h1 : -9223372036854775808 ≤ n) (h2 : n ≤ 9223372036854775807) : Calls Try.prog 13 #[.int .i64 n] w (Fresh w (gr (zig n))) := by
  by_cases hn : n < 0
  · obtain ⟨m, rfl⟩ : ∃ m : Nat, n = -1 - (m : Int) := ⟨(-1 - n).toNat, by omega⟩
    have HZ : Hid (2 * m + 1 = zig (-1 - (m : Int))) := by show _ = _; rw [zig_neg (by omega)]; omega
    have hm : (m : Int) ≤ 9223372036854775807 := by omega
    have e1 : -1 - (-1 - (m : Int)) = m := by omega
    go_enter Try.func13, Try.ntmps13
    go_wp2_with fail
    refine (refgroups w m 1 (by omega) (by omega)).mono ?_
    rw [HZ.out]
    rintro e w' ⟨u, rfl, hu⟩
    have HU := hid hu
    clear hu
    go_wp2
    go_ret
    exact ⟨u, rfl, HU.out⟩
  · obtain ⟨m, rfl⟩ : ∃ m : Nat, n = (m : Int) := ⟨n.toNat, by omega⟩
    have HZ : Hid (2 * m + 0 = zig (m : Int)) := by show _ = _; rw [zig_pos (by omega)]; omega
    have hm : (m : Int) ≤ 9223372036854775807 := by omega
    go_enter Try.func13, Try.ntmps13
    go_wp2_with fail
    refine (refgroups w m 0 (by omega) (by omega)).mono ?_
    rw [HZ.out]
    rintro e w' ⟨u, rfl, hu⟩
    have HU := hid hu
    clear hu
    go_wp2
    go_ret
    exact ⟨u, rfl, HU.out⟩

theorem bytesWorld_below (w : World) (e : TypeId) (s : ByteArray) : Below w.heap.size w (Lib.bytesWorld w e s) := by
  refine ⟨?_, ?_, ?_, by rw [Lib.bytesWorld_size]; omega, fun k hk => Lib.bytesWorld_at_old w e s k hk⟩ <;> simp [Lib.bytesWorld, World.freeze, World.alloc, World.drew, -World.alloc_eq, -World.drew_eq]
theorem bytesWorld_sl (w : World) (e : TypeId) (xs : List Nat) (hb : Byt xs) (hl : xs.length ≤ maxLen) : Sl .u8 (Lib.bytesWorld w e (str xs)) (.slice (some ⟨w.heap.size, 0, none⟩) xs.length (grownCap w xs.length 0 e)) xs := by
  refine ⟨_, _, rfl, grownCap_ge _ _ _ _, grownCap_le_maxLen _ _ _ _ hl, (fun h => by cases h), fun i b hi => ⟨_, rfl, ?_⟩⟩
  have hil : i < xs.length := (List.getElem?_eq_some_iff.1 hi).1
  rw [add_at, Lib.bytesWorld_cell w e (str xs) i (by rw [str_size]; exact hil), str_list, List.getD_eq_getElem?_getD, List.getElem?_map, hi]
  have := hb b (List.mem_of_getElem? hi)
  simp [Nat.mod_eq_of_lt this]

theorem reftext (w : World) (t : List Nat) (ht : Byt t) (hn : t.length ≤ 65536) : Calls Try.prog 15 #[.string (str t)] w (Fresh w (tx t)) := by
  obtain ⟨i0, hi, hz0, hz1, hz2⟩ := info_parts Try.info5
  have hcv := fun (W : World) => Lib.run_convert_string_bytes (P := Try.prog) W 9 26 5 (str t) (u := .string) Try.underlying9 Try.underlying26 Try.underlying5
  have hsl := fun (W : World) => bytesWorld_sl W 5 t ht (by unfold maxLen; omega)
  have HSL := hid hsl
  obtain ⟨s, HS⟩ : ∃ s, Hid (s = str t) := ⟨_, rfl⟩
  have hsz : Hid (s.size = t.length) := by show _ = _; rw [HS.out, str_size]
  rw [← HS.out] at hcv ⊢
  rw [← HS.out, ← hsz.out] at HSL
  have hle : s.size ≤ 65536 := by rw [hsz.out]; exact hn
  have hg := gr_len10 (n := s.size) (by omega)
  clear hsl hn
  go_enter Try.func15, Try.ntmps15
  go_wp2_with fail
  refine (refuint w s.size (by omega)).mono ?_
  rintro e w1 ⟨u1, rfl, hu, hc1⟩
  obtain ⟨A1, n1, c1, rfl⟩ := hu.slice
  have HU := hid hu
  have HC1 := hid hc1
  clear hu hc1
  go_wp2_with (first | (at_builtin; refine wpList_append_at _ rfl (.tmp 4) (.tmp 7) 26 rfl 5 i0 (.int .u8 0) 1 Try.underlying26 hi hz0 hz1 hz2 rfl .u8 (.slice none 0 0) [] rfl (Own.nil _ _ _ _) _ (gr s.size) rfl HU.out.sl (by unfold maxLen; simp; omega) (by simp; omega) ?_; intro v2 w2 hown2 hgrow2 hf2; have HC2 := hid (own_step (v := .slice none 0 0) (HC1.out.less (fun k hk => by cases hk)) hgrow2 hf2); rw [List.nil_append] at hown2; have HO2 := hid hown2; obtain ⟨A2, n2, c2, rfl⟩ := hown2.slice; clear hown2 hgrow2 hf2) | (at_builtin; refine wpList_append_at _ rfl (.tmp 9) (.tmp 11) 26 rfl 5 i0 (.int .u8 0) 1 Try.underlying26 hi hz0 hz1 hz2 rfl .u8 (.slice A2 n2 c2) (gr s.size) rfl (HO2.out.below (bytesWorld_below _ _ _)) _ t rfl (HSL.out _) (by rw [← hsz.out]; unfold maxLen; omega) (by rw [← hsz.out]; omega) ?_; intro v3 w3 hown3 hgrow3 hf3; have HC3 := hid (own_step (HC2.out.step_below (bytesWorld_below _ _ _)) hgrow3 hf3); have HO3 := hid hown3; clear hown3 hgrow3 hf3))
  go_ret
  refine ⟨_, rfl, ?_, HC3.out⟩
  unfold tx
  rw [← hsz.out]
  exact HO3.out
end Go.Proofs.Ytjhgebfabjbbjaa
