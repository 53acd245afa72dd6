import Derived.Test.YtjhgebfabjbbjaaT2
namespace Go.Proofs.Ytjhgebfabjbbjaa
open Go.RowKit

theorem tx_length (t : List Nat) : (tx t).length = (gr t.length).length + t.length := by unfold tx; rw [List.length_append]

set_option maxRecDepth 100000 in
theorem wtext (w : World) (F : List Nat) (p : Value) (xs t : List Nat) (hW : Wr w F p xs) (ht : Byt t) (hn : t.length ≤ 65536) (hl : xs.length ≤ 1000000000000) :
    Calls Try.prog 16 #[p, .string (str t)] w (Wrote w F p (xs ++ tx t) 0) := by
  obtain ⟨i0, hi, hz0, hz1, hz2⟩ := info_parts Try.info5
  obtain ⟨g, rfl⟩ := hW.ptr
  have HW := hid hW
  have HT := hid ht
  obtain ⟨s, HS⟩ : ∃ s, Hid (s = str t) := ⟨_, rfl⟩
  obtain ⟨n, HN⟩ : ∃ n, Hid (n = s.size) := ⟨_, rfl⟩
  have hsz : Hid (n = t.length) := by show _ = _; rw [HN.out, HS.out, str_size]
  rw [← HS.out]
  have hle : s.size ≤ 65536 := by rw [← HN.out, hsz.out]; exact hn
  clear hW ht hn
  go_enter Try.func16, Try.ntmps16
  go_wp2_with fail
  refine (wgroups w F _ xs s.size HW.out (by omega) hl).mono ?_
  rintro e w1 ⟨rfl, F1, hW1, hc1⟩
  obtain ⟨g', v, hp, hone, hown, rfl⟩ := hW1
  obtain rfl : g = g' := by injection hp with hp; injection hp with hp; injection hp
  clear hp
  have HONE := hid hone
  have hcell := hone.cell
  have hfr := hone.frozen
  have hl1 : (xs ++ gr s.size).length ≤ 1000000000010 := by
    rw [List.length_append]; have := gr_len10 (n := s.size) (by omega); omega
  clear hone hl
  go_wp2_with (refine wpList_append_st _ rfl (.tmp 21) (.tmp 22) 26 9 rfl 5 i0 Try.underlying26 Try.underlying9 hi hz0 hz1 hz2 v _ rfl hown t (by rw [← HS.out]; rfl) HT.out (by rw [← hsz.out, HN.out]; unfold maxLen; omega) (by rw [← hsz.out, HN.out]; omega) ?_; intro v' w2 hown1 hgrow1 hf1; have HST := wr_step HONE.out hown hc1 hown1 hgrow1 hf1; obtain ⟨hcell1, hfr1⟩ := wr_mid HONE.out hown hgrow1; obtain ⟨A', n', c', rfl⟩ := hown1.slice; clear hown1 hgrow1 hf1)
  go_ret
  obtain ⟨q1, q2, q3⟩ := HST
  refine ⟨rfl, _, ⟨g, _, rfl, q1.out, ?_, rfl⟩, q3⟩
  unfold tx
  rw [← List.append_assoc, ← hsz.out, HN.out]
  exact q2

theorem own_empty (w : World) : Own .u8 (w.alloc (.cells #[] 5)) 0 5 (.slice (some ⟨w.heap.size, 0, none⟩) 0 0) [] :=
  ⟨by simp, .inr ⟨w.heap.size, 0, #[], rfl, Nat.zero_le _, heap_alloc_new w _, Nat.le_refl _, Nat.zero_le _, by simp, by simp⟩⟩

theorem clone_any (w : World) (v : Value) (xs : List Nat) (hs : Sl .u8 w v xs) (hl : xs.length ≤ 100000000000000) :
    Calls Try.prog 27 #[v] w fun e w' => ∃ u, e = .returned u ∧ Own .u8 w' w.heap.size 5 u xs ∧ Below w.heap.size w w' := by
  obtain ⟨i0, hi, hz0, hz1, hz2⟩ := info_parts Try.info5
  have HS := hid hs
  obtain ⟨A, cap, rfl, hlc, hm, hn, hx⟩ := hs
  cases A with
  | none =>
    have hy : xs = [] := by
      cases xs with
      | nil => rfl
      | cons y ys => obtain ⟨ad, hA, _⟩ := hx 0 y rfl; cases hA
    subst hy
    have hc0 := hn rfl
    subst hc0
    clear hx hn hlc
    have he := fun (W : World) => Lib.run_eql_slice_nil (P := Try.prog) (w := W) 26 5 none 0 0 0 0 Try.underlying26
    go_enter Try.func27, Try.ntmps27
    go_wp2
    go_ret
    exact ⟨_, rfl, Own.nil _ _ _ _, Below.refl _ _⟩
  | some ad =>
    obtain ⟨len, HL⟩ : ∃ len, Hid (len = xs.length) := ⟨_, rfl⟩
    rw [← HL.out] at HS hlc hl ⊢
    clear hx hn
    have he := fun (W : World) => Lib.run_eql_slice_nil (P := Try.prog) (w := W) 26 5 (some ad) len cap 0 0 Try.underlying26
    go_enter Try.func27, Try.ntmps27
    go_wp2_with (at_builtin; refine wpList_append_at _ rfl (.tmp 5) (.tmp 6) 26 rfl 5 i0 (.int .u8 0) 1 Try.underlying26 hi hz0 hz1 hz2 rfl .u8 (.slice (some ⟨w.heap.size, 0, none⟩) 0 0) [] rfl (own_empty w) _ xs rfl (HS.out.alloc _) (by rw [← HL.out]; unfold maxLen; simp; omega) (by rw [← HL.out]; simp; omega) ?_; intro v' w1 hown1 hgrow1 hf1)
    go_ret
    refine ⟨_, rfl, ?_, ?_⟩
    · rw [List.nil_append] at hown1
      refine hown1.at_ fun b hb => ?_
      rcases hf1 b hb with h | h
      · simp [ownFoot, Value.ownBlock] at h; omega
      · simp at h; omega
    · exact ((Below.refl _ _).alloc (Nat.le_refl _) _).grown hgrow1 (by simp) (fun k hk => by simp [Value.ownBlock] at hk; omega)

theorem wbytes (w : World) (F : List Nat) (p : Value) (xs : List Nat) (hW : Wr w F p xs) (hl : xs.length ≤ 100000000000000) :
    Calls Try.prog 18 #[p] w fun e w' => ∃ u, e = .returned u ∧ Own .u8 w' w.heap.size 5 u xs ∧ Below w.heap.size w w' := by
  obtain ⟨g, v, rfl, hone, hown, rfl⟩ := hW
  have hcell := hone.cell
  have HS := hid hown.sl
  clear hone hown
  go_enter Try.func18, Try.ntmps18
  go_wp2_with fail
  refine (clone_any w v xs HS.out hl).mono ?_
  rintro e w' ⟨u, rfl, hu, hb⟩
  have HU := hid hu
  clear hu
  go_wp2
  go_ret
  exact ⟨u, rfl, HU.out, hb⟩
end Go.Proofs.Ytjhgebfabjbbjaa
