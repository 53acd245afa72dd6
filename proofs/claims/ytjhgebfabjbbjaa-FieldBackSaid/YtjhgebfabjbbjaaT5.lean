import Derived.Test.YtjhgebfabjbbjaaT4
namespace Go.Proofs.Ytjhgebfabjbbjaa
open Go.RowKit

def RdNo (w : World) (e : Ending) (w' : World) : Prop := e = .returned (.tuple #[.int .u64 0, .int .i64 11]) ∧ w = w'

set_option maxRecDepth 100000 in
theorem rgroups_no (w : World) (g : Nat) (xs : List Nat) (hR : Rd w g xs) (hb : Byt xs) (hno : NoGr xs) (hl : xs.length ≤ 1000000000000) :
    Calls Try.prog 35 #[.pointer (some ⟨g, 0, none⟩)] w (RdNo w) := by
  have hcell := One.cell hR
  obtain ⟨s, HS⟩ : ∃ s, Hid (s = str xs) := ⟨_, rfl⟩
  rw [← HS.out] at hcell
  have hsz : Hid (s.size = xs.length) := by show _ = _; rw [HS.out, str_size]
  have hsm : s.size < 1000000000011 := by rw [hsz.out]; omega
  obtain ⟨l, HL⟩ : ∃ l, Hid (l = min s.size 10) := ⟨_, rfl⟩
  have hl9 : l ≤ 10 := by rw [HL.out]; omega
  have hls : l ≤ s.size := by rw [HL.out]; omega
  have hget : ∀ i x, xs[i]? = some x → ∃ h : i < s.size, (s[i]'h).toNat = x := by
    intro i x hx
    rw [HS.out]
    exact str_get hx hb
  have HG := hid hget
  have HB := hid hb
  have HNO := hid hno
  clear hR hget hb hno
  by_cases h10 : (10 : Int) < s.size
  all_goals
    have h10' : l = 10 ∧ 10 < s.size ∨ l = s.size ∧ s.size ≤ 10 := by have := HL.out; omega
    have H10 := hid h10'
    clear h10'
    go_enter Try.func35, Try.ntmps35
    go_wp2
    go_step3
    go_wp2
    go_step3
    go_wp2
    go_loop [4, 14] (fun n i => ∃ k : Nat, k ≤ l ∧ i = .int .i64 k ∧ n = .int .u64 (val (xs.take k) : Nat) ∧ Hid (∀ y ∈ xs.take k, 128 ≤ y)) (fun _ i => l - (intOf i).toNat)
    case atStart => exact ⟨0, by omega, rfl, rfl, fun y hy => by simp at hy⟩
    case round =>
      obtain ⟨k, hk, rfl, rfl, HGO⟩ := hrel
      by_cases hlt : k < l
      · obtain ⟨x, hx⟩ : ∃ x, xs[k]? = some x := ⟨xs[k]'(by have := hsz.out; omega), List.getElem?_eq_getElem _⟩
        obtain ⟨hks, hxs⟩ := HG.out k x hx
        have hx2 : x < 256 := HB.out x (List.mem_of_getElem? hx)
        have hk9 : k ≤ 9 := by omega
        have hlt10 : (k : Int) < 10 := by omega
        have hlts : (k : Int) < s.size := by omega
        have HXX := hid hx
        clear hx
        by_cases hov : k < 9 ∨ x % 128 < 2
        · have hP' := grp_fits (p := x % 128) (by omega) hk9 hov
          obtain ⟨e1, e2⟩ := shl_ok hP'
          by_cases hz : x = 0 ∧ 0 < k
          · obtain ⟨rfl, hk0⟩ := hz
            clear hov hP'
            generalize 0 % 128 * 128 ^ k = P at *
            generalize val (xs.take k) = V at *
            go_wp2
            go_ret2
            exact ⟨rfl, rfl⟩
          · by_cases h128 : 128 ≤ x
            · have HX := hid (val_take_succ HXX.out)
              have hV := val_lt (xs.take k)
              rw [List.length_take, Nat.min_eq_left (by have := hsz.out; omega)] at hV
              have hS := grp_room hV (by omega) hk9 hP'
              have hS : val (xs.take k) + x % 128 * 128 ^ k ≤ 18446744073709551615 := by omega
              have HN : Hid (∀ y ∈ xs.take (k + 1), 128 ≤ y) := by
                intro y hy
                rw [List.take_add_one, HXX.out] at hy
                rcases List.mem_append.1 hy with hy | hy
                · exact HGO.out y hy
                · simp at hy; omega
              clear hP' hV hov hz
              generalize x % 128 * 128 ^ k = P at *
              generalize val (xs.take k) = V at *
              go_wp2
              go_round
              case rel => exact ⟨k + 1, by omega, by go_num, by rw [HX.out]; go_num, HN⟩
              case measure => simp [intOf]; omega
            · exact (gr_found HNO.out HB.out HXX.out HGO.out (by omega) (by omega) hk9 hP').elim
        · obtain ⟨P, e1, e2⟩ := shl_no (x := x) (k := k) (by omega) (by omega)
          clear hov
          generalize val (xs.take k) = V at *
          go_wp2
          go_ret2
          exact ⟨rfl, rfl⟩
      · obtain rfl : k = l := by omega
        generalize val (xs.take k) = V at *
        have h1 : ¬ (k : Int) < 10 ∨ ¬ (k : Int) < s.size := by have := H10.out; omega
        first
          | (have h2 : ¬ (k : Int) < 10 := by (have := H10.out; omega)
             go_wp2
             go_ret2
             exact ⟨rfl, rfl⟩)
          | (have h2 : ¬ (k : Int) < s.size := by (have := H10.out; omega)
             go_wp2
             go_ret2
             exact ⟨rfl, rfl⟩)
end Go.Proofs.Ytjhgebfabjbbjaa
