import Derived.Test.YtjhgebfabjbbjaaT19
namespace Go.Proofs.Ytjhgebfabjbbjaa
open Go.RowKit

theorem one_any (w : World) (v : Value) (xs : List Nat) (n : Int) (hs : Sl .u8 w v xs) (hb : Byt xs) :
    Calls Try.prog 6 #[v, .int .i64 n] w (Yes w) := by
  by_cases hl : 100 < xs.length
  · obtain ⟨A, cap, rfl, hlc, hm, _⟩ := hs
    obtain ⟨len, HL⟩ : ∃ len, Hid (len = xs.length) := ⟨_, rfl⟩
    rw [← HL.out] at hl hlc ⊢
    go_enter Try.func6, Try.ntmps6
    go_wp2_with fail
    refine (awake_any w).mono ?_
    rintro e w' ⟨rfl, hb'⟩
    go_wp2
    go_ret
    exact ⟨rfl, hb'⟩
  have hl : xs.length ≤ 100 := by omega
  rcases gr_dec xs with ⟨N, rest, hN, rfl⟩ | hno
  · have hbr := hb.right
    by_cases h0 : n = 0
    · by_cases h63 : N < 9223372036854775808
      · exact one_u_ok w v n N rest hbr h63 hs hl h0
      · exact one_u_range w v n N rest hbr (by omega) hN hs hl h0
    by_cases h1 : n = 1
    · exact one_i_ok w v n N rest hbr hN hs hl h1
    by_cases h63 : N < 9223372036854775808
    · by_cases hm : (N : Int) ≤ 100
      · by_cases hsh : N ≤ rest.length
        · exact one_t_ok w v n N rest hbr h63 hm hsh hs hl h0 h1
        · exact one_t_short w v n N rest hbr h63 hm (by omega) hs hl h0 h1
      · exact one_t_size w v n N rest hbr h63 (by omega) hs hl h0 h1
    · exact one_t_range w v n N rest hbr (by omega) hN hs hl h0 h1
  · by_cases h0 : n = 0
    · exact one_u_form w v n xs hb hno hs hl h0
    by_cases h1 : n = 1
    · exact one_i_form w v n xs hb hno hs hl h1
    exact one_t_form w v n xs hb hno hs hl h0 h1
end Go.Proofs.Ytjhgebfabjbbjaa
