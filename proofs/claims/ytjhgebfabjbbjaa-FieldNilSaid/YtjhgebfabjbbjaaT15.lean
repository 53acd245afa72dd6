import Derived.Test.YtjhgebfabjbbjaaT14
import Derived.Laws.MakeOwn
namespace Go.Proofs.Ytjhgebfabjbbjaa
open Go.RowKit

/-- Zeros, made in a row, and the string of them. -/
theorem zeros_make (n : Nat) (hn : n ≤ 1000000) : ∃ (Z : Array Value) (S : ByteArray), S.size = n ∧
    (∀ W : World, (Instr.makeSlice 26 (.int .i64 (n : Int)) (.int .i64 (n : Int))).run Try.prog W = .ok (.slice (some ⟨W.heap.size, 0, none⟩) n n) (W.alloc (.cells Z 5))) ∧
    (∀ W : World, (convert 26 9 (.slice (some ⟨W.heap.size, 0, none⟩) n n)).run Try.prog (W.alloc (.cells Z 5)) = .ok (.string S) (W.alloc (.cells Z 5))) := by
  obtain ⟨i0, hi, hz0, hz1, hz2⟩ := info_parts Try.info5
  refine ⟨madeCells (Value.int .u8 0).cells n, str (List.replicate n 0), by rw [str_size, List.length_replicate], fun W => ?_, fun W => ?_⟩
  · have h := run_make (P := Try.prog) W 26 5 i0 (.int .u8 0) Try.underlying26 hi hz0 .i64 .i64 n n (by omega) (by omega) (by rw [hz2]; omega) (by omega)
    rw [hz1] at h
    simpa using h
  · have hs : Sl .u8 (W.alloc (.cells (madeCells (Value.int .u8 0).cells n) 5)) (.slice (some ⟨W.heap.size, 0, none⟩) (List.replicate n 0).length n) (List.replicate n 0) := by
      refine Sl.row (heap_alloc_new W _) (by simp) (by unfold maxLen; omega) fun i b hi => ?_
      rw [List.getElem?_replicate] at hi
      split at hi
      · rename_i hin
        injection hi with hi
        subst hi
        unfold madeCells
        simp [Value.cells]
        exact ⟨i, by simp [hin], by rw [Nat.mod_one]; rfl⟩
      · cases hi
    have h := hs.str (P := Try.prog) 26 5 9 Try.underlying26 Try.underlying5 Try.underlying9
    rw [List.length_replicate] at h
    exact h
theorem wr_zero_len {w : World} : (gr 0).length ≤ 1 := by rw [gr_lt (by omega)]; simp

set_option maxHeartbeats 1600000 in
set_option maxRecDepth 100000 in
theorem nil_any (w : World) (n : Int) (s : ByteArray) (hs : s.size ≤ maxLen) :
    Calls Try.prog 7 #[.int .i64 n, .string s] w (Yes w) := by
  unfold maxLen at hs
  by_cases hl : 100 < s.size
  · go_enter Try.func7, Try.ntmps7
    go_wp2_with fail
    refine (awake_any w).mono ?_
    rintro e w' ⟨rfl, hb'⟩
    go_wp2
    go_ret
    exact ⟨rfl, hb'⟩
  · obtain ⟨Z, S, hS, hmk, hcv⟩ := zeros_make 65537 (by omega)
    have hS' : 65536 < S.size := by omega
    clear hS
    go_enter Try.func7, Try.ntmps7
    go_wp2_with fail
    refine (ruint_nil w).mono ?_
    rintro e w' ⟨rfl, rfl⟩
    go_wp2_with fail
    refine (rint_nil w).mono ?_
    rintro e w' ⟨rfl, rfl⟩
    go_wp2_with fail
    refine (rtext_nil w n).mono ?_
    rintro e w1 ⟨rfl, hb1⟩
    have HB1 := hid hb1
    clear hb1
    rw [show ((65537 : Nat) : Int) = 65537 from rfl] at hmk
    have hmk1 := hmk (w1.alloc (.cells #[.slice none 0 0] 28))
    have hcv1 := hcv (w1.alloc (.cells #[.slice none 0 0] 28))
    have hsz1 : (w1.alloc (.cells #[.slice none 0 0] 28)).heap.size = w1.heap.size + 1 := by simp
    rw [hsz1] at hmk1 hcv1
    have HW1 := hid ((wr_new w1).out ((Chg.refl [] _).alloc (.cells Z 5)) (Apart.nilL _))
    clear hmk hcv hsz1
    go_wp2_with fail
    refine (wtext_long _ _ S hS').mono ?_
    rintro e w2 ⟨rfl, rfl⟩
    clear hmk1 hcv1
    go_wp2_with fail
    refine (wuint_nil _ n).mono ?_
    rintro e w2 ⟨rfl, rfl⟩
    go_wp2_with fail
    refine (wint_nil _ n).mono ?_
    rintro e w2 ⟨rfl, rfl⟩
    go_wp2_with fail
    refine (wtext_nil _ s).mono ?_
    rintro e w2 ⟨rfl, rfl⟩
    go_wp2_with fail
    refine (wbytes_nil _).mono ?_
    rintro e w2 ⟨rfl, rfl⟩
    go_wp2_with fail
    refine (rleft_nil _).mono ?_
    rintro e w2 ⟨rfl, rfl⟩
    go_wp2_with fail
    refine (wbytes_fresh _ _ _ [] HW1.out (by simp)).mono ?_
    rintro e w2 ⟨u, rfl, hu, hc2⟩
    obtain ⟨A, c, rfl, _⟩ := hu.sl
    have HC2 := hid hc2.nil_below
    clear hu hc2
    go_wp2_with fail
    refine (awake_any w2).mono ?_
    rintro e w3 ⟨rfl, hb3⟩
    go_wp2
    go_ret
    refine ⟨rfl, below_step (Below.trans ((HB1.out.alloc HB1.out.size _).alloc (by have := HB1.out.size; simp; omega) _) (HC2.out.mono (by have := HB1.out.size; simp; omega))) hb3⟩
end Go.Proofs.Ytjhgebfabjbbjaa
