import Derived.Test.YtjhgebfabjbbjaaT3
import Derived.Lib.Strings
namespace Go.Proofs.Ytjhgebfabjbbjaa
open Go.RowKit

theorem str_get {xs : List Nat} {i b : Nat} (hx : xs[i]? = some b) (hb : Byt xs) : ∃ h : i < (str xs).size, ((str xs)[i]'h).toNat = b := by
  have hi : i < xs.length := (List.getElem?_eq_some_iff.1 hx).1
  refine ⟨by rw [str_size]; exact hi, ?_⟩
  have h1 : (str xs).data.toList[i]? = some (UInt8.ofNat b) := by rw [str_list, List.getElem?_map, hx]; rfl
  have h2 : (str xs)[i]'(by rw [str_size]; exact hi) = UInt8.ofNat b := by
    have : (str xs).data[i]? = some (UInt8.ofNat b) := by rw [← Array.getElem?_toList]; exact h1
    rw [Array.getElem?_eq_some_iff] at this
    exact this.2
  rw [h2]
  have := hb b (List.mem_of_getElem? hx)
  simp [Nat.mod_eq_of_lt this]
theorem ba_ext {a b : ByteArray} (h : a.data.toList = b.data.toList) : a = b := by
  cases a; cases b; simp only [ByteArray.mk.injEq]; exact Array.ext' h
theorem str_drop (xs : List Nat) (n : Nat) : (str xs).extract n (str xs).size = str (xs.drop n) := by
  apply ba_ext
  rw [str_list, ByteArray.data_extract, Array.toList_extract, str_list, str_size]
  simp [List.extract_eq_take_drop, List.map_drop]
  rw [List.take_of_length_le (by simp)]
theorem str_take (xs : List Nat) (n : Nat) : (str xs).extract 0 n = str (xs.take n) := by
  apply ba_ext
  rw [str_list, ByteArray.data_extract, Array.toList_extract, str_list]
  simp [List.extract_eq_take_drop]

theorem shl_ok {x k : Nat} (h : x % 128 * 128 ^ k < 18446744073709551616) :
    IntKind.u64.wrap ((x : Int) % 128 * 2 ^ (k * 7)) = ((x % 128 * 128 ^ k : Nat) : Int) ∧ ((x % 128 * 128 ^ k : Nat) : Int) / 2 ^ (k * 7) = (x : Int) % 128 := by
  have e : (x : Int) % 128 * 2 ^ (k * 7) = ((x % 128 * 128 ^ k : Nat) : Int) := by
    rw [← pow_seven]; push_cast; rfl
  have hpos : 0 < 128 ^ k := Nat.pow_pos (by omega)
  refine ⟨by rw [e]; exact IntWalk.u64_in _ (by omega), ?_⟩
  rw [show (2 : Int) ^ (k * 7) = ((128 ^ k : Nat) : Int) by rw [← pow_seven]; push_cast; rfl]
  rw [← Int.natCast_ediv, Nat.mul_div_cancel _ hpos]
  omega
theorem shl_no {x k : Nat} (h : 2 ≤ x % 128) (hk : k = 9) : ∃ P : Int, IntKind.u64.wrap ((x : Int) % 128 * 2 ^ (k * 7)) = P ∧ (P / 2 ^ (k * 7) != (x : Int) % 128) = true := by
  subst hk
  refine ⟨_, rfl, ?_⟩
  simp only [IntKind.wrap, IntKind.bits, IntKind.signed]
  simp
  omega

theorem ret_rd {a : Int} {N : Nat} (h : a = N) : Ending.returned (.tuple #[.int .u64 a, .int .i64 0]) = .returned (.tuple #[.int .u64 (N : Int), .int .i64 0]) := by rw [h]
def RdPost (w : World) (g : Nat) (N : Nat) (rest : List Nat) (e : Ending) (w' : World) : Prop :=
  e = .returned (.tuple #[.int .u64 N, .int .i64 0]) ∧ w' = w.setCell ⟨g, 0, none⟩ (.string (str rest))

/-- A reader: what is left of its bytes. -/
def Rd (w : World) (g : Nat) (xs : List Nat) : Prop := One w g 57 (.string (str xs))

set_option maxRecDepth 100000 in
theorem rgroups_yes (w : World) (g : Nat) (N : Nat) (rest : List Nat) (hR : Rd w g (gr N ++ rest)) (hb : Byt rest) (hN : N < 18446744073709551616) (hl : rest.length ≤ 1000000000000) :
    Calls Try.prog 35 #[.pointer (some ⟨g, 0, none⟩)] w (RdPost w g N rest) := by
  have hcell := One.cell hR
  have hfr := One.frozen hR
  obtain ⟨s, HS⟩ : ∃ s, Hid (s = str (gr N ++ rest)) := ⟨_, rfl⟩
  rw [← HS.out] at hcell
  have hsz : Hid (s.size = (gr N).length + rest.length) := by show _ = _; rw [HS.out, str_size, List.length_append]
  have hsm : s.size < 1000000000011 := by rw [hsz.out]; have := gr_len10 hN; omega
  obtain ⟨ys, b, HE, hys, hb7, h0⟩ := gr_go N
  have HE := hid HE
  have hly : ys.length ≤ 9 := by have := gr_len10 hN; have e := HE.out; rw [e] at this; simp at this; omega
  have hls : ys.length < s.size := by rw [hsz.out]; have e := HE.out; rw [e]; simp; omega
  obtain ⟨l, HL⟩ : ∃ l, Hid (l = ys.length) := ⟨_, rfl⟩
  have hby : Byt (gr N ++ rest) := (gr_byt N).app hb
  have hget : ∀ i x, ys[i]? = some x → ∃ h : i < s.size, (s[i]'h).toNat = x := by
    intro i x hx
    rw [HS.out]
    refine str_get ?_ hby
    rw [HE.out, List.append_assoc, List.getElem?_append_left (List.getElem?_eq_some_iff.1 hx).1]
    exact hx
  have hlast : ∃ h : l < s.size, (s[l]'h).toNat = b := by
    rw [HS.out, HL.out]
    refine str_get ?_ hby
    rw [HE.out, List.append_assoc, List.getElem?_append_right (Nat.le_refl _)]
    simp
  have hval : ∀ k, val (ys.take k) ≤ N := fun k => by
    have h1 := val_append ys [b]
    have h2 := val_take_le ys k
    rw [← HE.out, val_gr] at h1
    omega
  have HV2 : Hid (N = val ys + b % 128 * 128 ^ l) := by
    have h1 := val_snoc ys b
    rw [← HE.out, val_gr, ← HL.out] at h1
    exact h1
  have h0' : 0 < b ∨ l = 0 := by rcases h0 with h | h; exact .inl h; right; rw [HL.out, h]; rfl
  rw [← HL.out] at hly hls
  have hdrop : Hid (s.extract (l + 1) s.size = str rest) := by
    show _ = _
    rw [HS.out, str_drop, HL.out, HE.out, List.drop_append, List.drop_of_length_le (by simp)]
    simp
  have HG := hid hget
  have HLA := hid hlast
  have HY := hid hys
  have HV := hid hval
  have H64 := hid hN
  have H0 := hid h0'
  clear hR hget hlast hys h0 hval hby h0' hb hN
  by_cases h10 : (10 : Int) < s.size
  all_goals
    have h10' : 10 < s.size ∨ s.size ≤ 10 := by omega
    have H10 := hid h10'
    clear h10'
    go_enter Try.func35, Try.ntmps35
    go_wp2
    go_step3
    go_wp2
    go_step3
    go_wp2
    go_loop [4, 14] (fun n i => ∃ k : Nat, k ≤ l ∧ i = .int .i64 k ∧ n = .int .u64 (val (ys.take k) : Nat)) (fun _ i => l - (intOf i).toNat)
    case atStart => exact ⟨0, by omega, rfl, rfl⟩
    case round =>
      obtain ⟨k, hk, rfl, rfl⟩ := hrel
      by_cases hlt : k < l
      · obtain ⟨x, hx⟩ : ∃ x, ys[k]? = some x := ⟨ys[k]'(by have := HL.out; omega), List.getElem?_eq_getElem _⟩
        obtain ⟨hks, hxs⟩ := HG.out k x hx
        obtain ⟨hx1, hx2⟩ := HY.out x (List.mem_of_getElem? hx)
        have HX := hid (val_take_succ hx)
        have hP := HV.out (k + 1)
        rw [HX.out] at hP
        have hP' : x % 128 * 128 ^ k < 18446744073709551616 := by have := H64.out; omega
        obtain ⟨e1, e2⟩ := shl_ok hP'
        have hS : val (ys.take k) + x % 128 * 128 ^ k ≤ 18446744073709551615 := by have := H64.out; omega
        generalize x % 128 * 128 ^ k = P at *
        generalize val (ys.take k) = V at *
        clear hx hP hP'
        go_wp2
        go_round
        case rel => exact ⟨k + 1, by omega, by go_num, by rw [HX.out]; go_num⟩
        case measure => simp [intOf]; omega
      · obtain rfl : k = l := by omega
        obtain ⟨hks, hxs⟩ := HLA.out
        have e0 : ys.take k = ys := by rw [HL.out, List.take_length]
        rw [e0]
        have hP' : b % 128 * 128 ^ k < 18446744073709551616 := by have := H64.out; have := HV2.out; omega
        obtain ⟨e1, e2⟩ := shl_ok hP'
        have hS : val ys + b % 128 * 128 ^ k ≤ 18446744073709551615 := by have := H64.out; have := HV2.out; omega
        have hp0 : b = 0 → b % 128 * 128 ^ k = 0 := by intro h; subst h; simp
        clear e0 hP'
        generalize b % 128 * 128 ^ k = P at *
        generalize val ys = V at *
        by_cases hb0 : b = 0
        · obtain rfl : k = 0 := by have := H0.out; omega
          have HP0 := hid (hp0 hb0)
          clear hp0
          subst hb0
          go_wp2
          go_ret2
          exact ⟨ret_rd (by have := HV2.out; have := HP0.out; omega), by rw [← hdrop.out]⟩
        · have hb1 : 0 < b := by omega
          clear hp0
          go_wp2
          go_ret2
          exact ⟨ret_rd (by have := HV2.out; omega), by rw [← hdrop.out]⟩
end Go.Proofs.Ytjhgebfabjbbjaa
