import Derived.Test.YtomkfggilehhgaaT15
namespace Go.Proofs.Ytomkfggilehhgaa
open Go.RowKit

theorem leq_str (t : TypeId) {xs ys : List Nat} (hx : Byt xs) (hy : Byt ys) : binOp .leq t (.string (str xs)) (.string (str ys)) = pure (.bool (!decide (ys < xs))) := by
  rw [binOp_string_leq, less_str hx hy, beq_str hx hy]
  congr 2
  rw [Bool.eq_iff_iff]
  simp
  constructor
  · rintro (h | rfl)
    · exact fun h' => List.lt_irrefl _ (List.lt_trans h h')
    · exact List.lt_irrefl _
  · intro h
    rcases Std.lt_trichotomy xs ys with h1 | h1 | h1
    · exact .inl h1
    · exact .inr h1
    · exact absurd h1 h

/-- What there is behind k rounds. -/
structure SRel (w : World) (k : Nat) (vS vB : Value) (S : List En) (wr : World) : Prop where
  s : Row 2 wr vS k (cellsE S)
  b : Row 1 wr vB k (cellsS (S.map key))
  l : S.length = k
  g : Goods S
  o : Srt S
  c : Below w.heap.size w wr
theorem SRel.nil (w : World) : SRel w 0 (.slice none 0 0) (.slice none 0 0) [] w :=
  ⟨Row.nil _ _, Row.nil _ _, rfl, ⟨by simp, by simp⟩, List.Pairwise.nil, Below.refl _ _⟩
theorem SRel.next {w wr w1 w2 : World} {k m : Nat} {vS vB v5 v6 : Value} {S : List En} {e : En} (h : SRel w k vS vB S wr) (hb1 : Below wr.heap.size wr w1) (hm : m ≤ k)
    (ht : Two 23 9 w1 w2 v5 v6 (S.take m ++ [e] ++ S.drop m) ((S.map key).take m ++ [key e] ++ (S.map key).drop m)) (hi : I64 e.1) (hx : Byt e.2)
    (h1 : ∀ (j : Nat) (x : En), j < m → S[j]? = some x → ¬ key e < key x) (h2 : ∀ (x : En), S[m]? = some x → key e < key x) : SRel w (k + 1) v5 v6 (S.take m ++ [e] ++ S.drop m) w2 := by
  have hl := ins_len e (l := S) (n := m) (by rw [h.l]; exact hm)
  rw [h.l] at hl
  have hmap : (S.map key).take m ++ [key e] ++ (S.map key).drop m = (S.take m ++ [e] ++ S.drop m).map key := by simp
  have ha := own_row ht.a
  have hb := own_row ht.b
  rw [hmap] at hb
  rw [hl] at ha
  rw [List.length_map, hl] at hb
  exact ⟨ha, hb, hl, h.g.ins hi hx, h.o.ins h1 h2, below_step (below_step h.c hb1) ht.c⟩

/-- Two entries of one row. -/
def Both (w : World) (a : Addr) (q p : Nat) (n1 : Int) (xs : List Nat) (n2 : Int) (ys : List Nat) : Prop := EntAt w (a.add (q * 2)) n1 xs ∧ EntAt w (a.add (p * 2)) n2 ys
theorem Both.below {w w' : World} {a : Addr} {q p : Nat} {n1 : Int} {xs : List Nat} {n2 : Int} {ys : List Nat} (h : Both w a q p n1 xs n2 ys) (hb : Below w.heap.size w w') : Both w' a q p n1 xs n2 ys :=
  ⟨h.1.below hb, h.2.below hb⟩
theorem cmpE_self (n : Int) (xs : List Nat) : cmpE n xs n xs = 0 := by
  unfold cmpE; rw [if_neg (Int.lt_irrefl n), if_neg (Int.lt_irrefl n)]; exact cmpL_eq xs
theorem sorted_ways {n1 n2 : Int} {xs ys : List Nat} (h1 : I64 n1) (h2 : I64 n2) (hx : Byt xs) (hy : Byt ys) (h : ¬ key (n2, ys) < key (n1, xs)) :
    (n1 = n2 ∧ xs = ys) ∨ (cmpE n1 xs n2 ys = -1 ∧ cmpE n2 ys n1 xs = 1 ∧ (n1 ≠ n2 ∨ (n1 = n2 ∧ ¬ (str xs).toList = (str ys).toList))) := by
  unfold key at h
  rcases cmpE_cases n1 n2 xs ys h1 h2 with ⟨hc, hlt, hne⟩ | ⟨_, he⟩ | ⟨_, hlt, hne⟩
  · right
    refine ⟨hc, ?_, ?_⟩
    · rcases cmpE_cases n2 n1 ys xs h2 h1 with ⟨_, h3, _⟩ | ⟨_, e1, e2⟩ | ⟨h3, _⟩
      · exact absurd h3 h
      · exact absurd (by rw [e1, e2]) hne
      · exact h3
    · by_cases he : n1 = n2
      · right
        refine ⟨he, toList_ne hx hy fun e => hne (by rw [he, e])⟩
      · exact .inl he
  · exact .inl he
  · rcases Std.lt_trichotomy (wv n1 ++ xs) (wv n2 ++ ys) with h3 | h3 | h3
    · exact absurd h3 hlt
    · exact absurd h3 hne
    · exact absurd h3 h

theorem compare_raw (w : World) (n m : Int) (xs ys : List Nat) (hx : Byt xs) (hy : Byt ys) :
    Calls Try.prog 17 #[.agg #[.int .i64 n, .string (str xs)], .agg #[.int .i64 m, .string (str ys)]] w fun e w' => e = .returned (.int .i64 (cmpE n xs m ys)) ∧ Below w.heap.size w w' :=
  compare_any w n m xs ys hx hy

theorem sorts_long (w : World) (A : Option Addr) (cap len : Nat) (h : 20 < len) (hc : len ≤ maxLen) : Calls Try.prog 8 #[.slice A len cap] w (Yes w) := by
  have h' : (20 : Int) < len := by omega
  unfold maxLen at hc
  go_enter Try.func8, Try.ntmps8
  go_wp2_with fail
  refine (awake_any _).mono ?_
  rintro e w1 ⟨rfl, hb1⟩
  go_wp2
  go_ret
  exact ⟨rfl, hb1⟩

set_option maxHeartbeats 2000000 in
set_option maxRecDepth 100000 in
theorem sorts_short (w : World) (A : Option Addr) (cap len : Nat) (l : List En) (hr : Row 2 w (.slice A len cap) len (cellsE l)) (hlen : len = l.length) (hg : Goods l) (h20 : len ≤ 20) : Calls Try.prog 8 #[.slice A len cap] w (Yes w) := by
  obtain ⟨i23, hi23, hz23, hs23, hy23⟩ := info_parts Try.info23
  obtain ⟨i9, hi9, hz9, hs9, hy9⟩ := info_parts Try.info9
  have HR := hid hr
  have HLEN := hid hlen
  have HG := hid hg
  have h20i : (len : Int) ≤ 20 := by omega
  clear hr hlen hg
  go_enter Try.func8, Try.ntmps8
  go_wp2
  go_loopw [3, 4, 5] (fun vS vB i wr => ∃ k : Nat, k ≤ len ∧ i = .int .i64 k ∧ ∃ S : List En, SRel w k vS vB S wr) (fun _ _ i _ => len - (intOf i).toNat)
  case atStart => exact ⟨0, by omega, rfl, [], SRel.nil w⟩
  case round =>
    obtain ⟨k, hk, rfl, S, hS⟩ := hrel
    obtain ⟨AS, cS, rfl⟩ := hS.s.slice
    obtain ⟨AB, cB, rfl⟩ := hS.b.slice
    have HS := hid hS
    clear hS
    by_cases hlt : k < len
    · have hlti : (k : Int) < len := by omega
      obtain ⟨⟨n, xs⟩, he⟩ : ∃ e, l[k]? = some e := ⟨l[k]'(by have := HLEN.out; omega), List.getElem?_eq_getElem _⟩
      have hn : I64 n := HG.out.i _ (List.mem_of_getElem? he)
      have hx : Byt xs := HG.out.b _ (List.mem_of_getElem? he)
      obtain ⟨ad, rfl, hent⟩ := (HR.out.below HS.out.c).ent he
      have HENT := hid hent
      obtain ⟨hc0, hc1⟩ := hent
      have HE := hid he
      have hsx := str_size xs
      clear he
      cases hkey : keyB xs with
      | false =>
        by_cases h100 : 100 < xs.length
        · have h100i : (100 : Int) < xs.length := by omega
          go_wp2_with fail
          refine (put_no _ n xs hkey).mono ?_
          rintro e w1 ⟨rfl, hb1⟩
          have HB1 := hid hb1
          clear hc0 hc1
          obtain ⟨hc0, hc1⟩ := HENT.out.below hb1
          clear hb1
          go_wp2_with fail
          refine (awake_any _).mono ?_
          rintro e w2 ⟨rfl, hb2⟩
          go_wp2
          go_ret
          exact ⟨rfl, below_step (below_step HS.out.c HB1.out) hb2⟩
        · have h100i : (xs.length : Int) ≤ 100 := by omega
          go_wp2_with fail
          refine (put_no _ n xs hkey).mono ?_
          rintro e w1 ⟨rfl, hb1⟩
          have HB1 := hid hb1
          clear hc0 hc1
          obtain ⟨hc0, hc1⟩ := HENT.out.below hb1
          clear hb1
          go_wp2_with fail
          refine (awake_any _).mono ?_
          rintro e w2 ⟨rfl, hb2⟩
          go_wp2
          go_ret
          exact ⟨rfl, below_step (below_step HS.out.c HB1.out) hb2⟩
      | true =>
        have hl16 := (keyB_yes hkey).2.2
        have hl100 : (xs.length : Int) ≤ 100 := by omega
        go_wp2_with fail
        refine (put_ok _ n xs hn hkey).mono ?_
        obtain ⟨K, HK⟩ : ∃ K, Hid (K = key (n, xs)) := ⟨_, rfl⟩
        rw [show wv n ++ xs = K from HK.out.symm]
        rintro e w1 ⟨rfl, hb1⟩
        have HB1 := hid hb1
        have HENT1 := hid (HENT.out.below hb1)
        clear hc0 hc1 hb1
        obtain ⟨hc0, hc1⟩ := HENT1.out
        have hKb : Byt K := by rw [HK.out]; exact Goods.key_byt hx
        have HKB := hid hKb
        clear hKb
        go_wp2
        go_loop [8] (fun i => ∃ m : Nat, m ≤ k ∧ i = .int .i64 m ∧ Hid (∀ (j : Nat) (x : En), j < m → S[j]? = some x → ¬ K < key x)) (fun i => k - (intOf i).toNat)
        case atStart => exact ⟨0, by omega, rfl, fun j x hj => by omega⟩
        case round =>
          obtain ⟨m, hmk, rfl, HLE⟩ := hrel
          by_cases hm : m < k
          · have hmi : (m : Int) < k := by omega
            obtain ⟨x, hxm⟩ : ∃ x, S[m]? = some x := ⟨S[m]'(by rw [HS.out.l]; exact hm), List.getElem?_eq_getElem _⟩
            have HXM := hid hxm
            have hxb : Byt (key x) := Goods.key_byt (HS.out.g.b x (List.mem_of_getElem? hxm))
            obtain ⟨adb, rfl, hcb⟩ := (HS.out.b.below HB1.out).cell (cellsS_at (i := m) (l := S.map key) (by rw [List.getElem?_map, hxm]; rfl))
            have hleq := fun t => leq_str t hxb HKB.out
            obtain ⟨X, HX⟩ : ∃ X, Hid (X = key x) := ⟨_, rfl⟩
            rw [← HX.out] at hcb hleq
            clear hxm hxb
            by_cases hlt' : K < X
            · simp only [hlt', decide_true] at hleq
              have HGT : Hid (∀ (x : En), S[m]? = some x → K < key x) := fun y hy => by
                have := HXM.out
                rw [hy] at this
                injection this with this
                subst this
                rw [← HX.out]; exact hlt'
              clear hlt'
              obtain ⟨VA, HVA⟩ : ∃ V, Hid (V = sliced AS 0 m cS 2) := ⟨_, rfl⟩
              obtain ⟨VB, HVB⟩ : ∃ V, Hid (V = sliced (some adb) 0 m cB 1) := ⟨_, rfl⟩
              obtain ⟨VC, HVC⟩ : ∃ V, Hid (V = sliced AS m k cS 2) := ⟨_, rfl⟩
              obtain ⟨VD, HVD⟩ : ∃ V, Hid (V = sliced (some adb) m k cB 1) := ⟨_, rfl⟩
              have hcA : ∀ W, (Instr.slice 43 (.slice AS k cS) none (some (.int .i64 (m : Int))) none).run Try.prog W = .ok VA W := fun W => by rw [HVA.out]; exact cutE_to W AS k cS m (by have := HS.out.s.cap; omega)
              have hcB : ∀ W, (Instr.slice 44 (.slice (some adb) k cB) none (some (.int .i64 (m : Int))) none).run Try.prog W = .ok VB W := fun W => by rw [HVB.out]; exact cutS_to W _ k cB m (by have := HS.out.b.cap; omega)
              have hcC : ∀ W, (Instr.slice 43 (.slice AS k cS) (some (.int .i64 (m : Int))) none none).run Try.prog W = .ok VC W := fun W => by rw [HVC.out]; exact cutE_from W AS k cS m (by omega)
              have hcD : ∀ W, (Instr.slice 44 (.slice (some adb) k cB) (some (.int .i64 (m : Int))) none none).run Try.prog W = .ok VD W := fun W => by rw [HVD.out]; exact cutS_from W _ k cB m (by omega)
              have HRA : Hid (Row 2 w1 VA (S.take m).length (cellsE (S.take m))) := by
                have h := (HS.out.s.below HB1.out).cutE (a := 0) (b := m) (by omega) (by omega)
                rw [HVA.out, List.length_take, HS.out.l, Nat.min_eq_left hmk]
                exact h
              have HRB : Hid (Row 1 w1 VB ((S.map key).take m).length (cellsS ((S.map key).take m))) := by
                have h := (HS.out.b.below HB1.out).cutS (a := 0) (b := m) (by omega) (by omega)
                rw [HVB.out, List.length_take, List.length_map, HS.out.l, Nat.min_eq_left hmk]
                exact h
              have HRC : Hid (Row 2 w1 VC (S.drop m).length (cellsE (S.drop m))) := by
                have h := (HS.out.s.below HB1.out).cutE (a := m) (b := k) hmk (by omega)
                rw [List.take_of_length_le (by rw [List.length_drop, HS.out.l]; omega)] at h
                rw [HVC.out, List.length_drop, HS.out.l]
                exact h
              have HRD : Hid (Row 1 w1 VD ((S.map key).drop m).length (cellsS ((S.map key).drop m))) := by
                have h := (HS.out.b.below HB1.out).cutS (a := m) (b := k) hmk (by omega)
                rw [List.take_of_length_le (by rw [List.length_drop, List.length_map, HS.out.l]; omega)] at h
                rw [HVD.out, List.length_drop, List.length_map, HS.out.l]
                exact h
              have HT0 := hid (Two.start 23 9 w1)
              have HSL : Hid (S.length ≤ 20) := by show _ ≤ _; rw [HS.out.l]; omega
              go_wp2_with (first
                | (at_builtin; refine wpList_append_row_ _ rfl (.tmp 58) (.tmp 61) 43 rfl w1.heap.size 23 i23 _ 2 24 Try.underlying43 hi23 hz23 hs23 hy23 rfl (by omega) (.slice none 0 0) _ _ rfl HT0.out.a _ _ _ rfl HRA.out (cellsE_one _) (by have := HSL.out; simp [maxLen]; omega) (by have := HSL.out; simp; omega) (Nat.le_refl _) ?_; intro v1 w2 ho1 hg1; have HT1 : Hid (Two 23 9 w1 w2 v1 (.slice none 0 0) (S.take m) []) := hid (HT0.out.stepA (by decide) ho1 hg1); clear ho1 hg1)
                | (at_builtin; refine wpList_append_row_ _ rfl (.tmp 63) (.tmp 66) 44 rfl w1.heap.size 9 i9 _ 1 16 Try.underlying44 hi9 hz9 hs9 hy9 rfl (by omega) (.slice none 0 0) _ _ rfl HT1.out.b _ _ _ rfl (HRB.out.below HT1.out.c) (cellsS_one _) (by have := HSL.out; simp [maxLen]; omega) (by have := HSL.out; simp; omega) HT1.out.c.size ?_; intro v2 w3 ho2 hg2; have HT2 : Hid (Two 23 9 w1 w3 v1 v2 (S.take m) ((S.map key).take m)) := hid (HT1.out.stepB (by decide) ho2 hg2); clear ho2 hg2; obtain ⟨hd0, hd1⟩ := HENT1.out.below HT2.out.c)
                | (at_builtin; refine wpList_append_row_ _ rfl (.tmp 68) (.tmp 73) 43 rfl w1.heap.size 23 i23 _ 2 24 Try.underlying43 hi23 hz23 hs23 hy23 rfl (by omega) v1 _ _ rfl (HT2.out.alloc _).a _ _ _ rfl (row_new w3 2 1 (cellsE [(n, xs)]) 23 (by simp [maxLen]) rfl) (cellsE_one _) (by have := HSL.out; simp [maxLen]; omega) (by have := HSL.out; simp; omega) (HT2.out.alloc _).c.size ?_; intro v3 w4 ho3 hg3; have HT3 : Hid (Two 23 9 w1 w4 v3 v2 (S.take m ++ [(n, xs)]) ((S.map key).take m)) := hid ((HT2.out.alloc _).stepA (S' := [(n, xs)]) (by decide) ho3 hg3); clear ho3 hg3 hd0 hd1)
                | (at_builtin; refine wpList_append_row_ _ rfl (.tmp 75) (.tmp 77) 44 rfl w1.heap.size 9 i9 _ 1 16 Try.underlying44 hi9 hz9 hs9 hy9 rfl (by omega) v2 _ _ rfl (HT3.out.alloc _).b _ _ _ rfl (row_new w4 1 1 (cellsS [K]) 9 (by simp [maxLen]) rfl) (cellsS_one _) (by have := HSL.out; simp [maxLen]; omega) (by have := HSL.out; simp; omega) (HT3.out.alloc _).c.size ?_; intro v4 w5 ho4 hg4; have HT4 : Hid (Two 23 9 w1 w5 v3 v4 (S.take m ++ [(n, xs)]) ((S.map key).take m ++ [K])) := hid ((HT3.out.alloc _).stepB (B' := [K]) (by decide) ho4 hg4); clear ho4 hg4)
                | (at_builtin; refine wpList_append_row_ _ rfl (.tmp 79) (.tmp 82) 43 rfl w1.heap.size 23 i23 _ 2 24 Try.underlying43 hi23 hz23 hs23 hy23 rfl (by omega) v3 _ _ rfl HT4.out.a _ _ _ rfl (HRC.out.below HT4.out.c) (cellsE_one _) (by have := HSL.out; simp [maxLen]; omega) (by have := HSL.out; simp; omega) HT4.out.c.size ?_; intro v5 w6 ho5 hg5; have HT5 : Hid (Two 23 9 w1 w6 v5 v4 (S.take m ++ [(n, xs)] ++ S.drop m) ((S.map key).take m ++ [K])) := hid (HT4.out.stepA (by decide) ho5 hg5); clear ho5 hg5)
                | (at_builtin; refine wpList_append_row_ _ rfl (.tmp 84) (.tmp 87) 44 rfl w1.heap.size 9 i9 _ 1 16 Try.underlying44 hi9 hz9 hs9 hy9 rfl (by omega) v4 _ _ rfl HT5.out.b _ _ _ rfl (HRD.out.below HT5.out.c) (cellsS_one _) (by have := HSL.out; simp [maxLen]; omega) (by have := HSL.out; simp; omega) HT5.out.c.size ?_; intro v6 w7 ho6 hg6; have HT6 : Hid (Two 23 9 w1 w7 v5 v6 (S.take m ++ [(n, xs)] ++ S.drop m) ((S.map key).take m ++ [K] ++ (S.map key).drop m)) := hid (HT5.out.stepB (by decide) ho6 hg6); clear ho6 hg6))
              go_roundw
              case rel => exact ⟨k + 1, by omega, by go_num, _, HS.out.next HB1.out hmk (HK.out ▸ HT6.out) hn hx (HK.out ▸ HLE.out) (HK.out ▸ HGT.out)⟩
              case measure => simp [intOf]; omega
            · simp only [hlt', decide_false] at hleq
              have HLE' : Hid (∀ (j : Nat) (x : En), j < m + 1 → S[j]? = some x → ¬ K < key x) := fun j y hj hy => by
                rcases Nat.lt_or_ge j m with h | h
                · exact HLE.out j y h hy
                · obtain rfl : j = m := by omega
                  have := HXM.out
                  rw [hy] at this
                  injection this with this
                  subst this
                  rw [← HX.out]; exact hlt'
              clear hlt'
              go_wp2
              go_round
              case rel => exact ⟨m + 1, by omega, by go_num, HLE'⟩
              case measure => simp [intOf]; omega
          · obtain rfl : m = k := by omega
            have HGT : Hid (∀ (x : En), S[m]? = some x → K < key x) := fun y hy => by
              have := (List.getElem?_eq_some_iff.1 hy).1
              rw [HS.out.l] at this
              omega
            obtain ⟨VA, HVA⟩ : ∃ V, Hid (V = sliced AS 0 m cS 2) := ⟨_, rfl⟩
            obtain ⟨VB, HVB⟩ : ∃ V, Hid (V = sliced AB 0 m cB 1) := ⟨_, rfl⟩
            obtain ⟨VC, HVC⟩ : ∃ V, Hid (V = sliced AS m m cS 2) := ⟨_, rfl⟩
            obtain ⟨VD, HVD⟩ : ∃ V, Hid (V = sliced AB m m cB 1) := ⟨_, rfl⟩
            have hcA : ∀ W, (Instr.slice 43 (.slice AS m cS) none (some (.int .i64 (m : Int))) none).run Try.prog W = .ok VA W := fun W => by rw [HVA.out]; exact cutE_to W AS m cS m (by have := HS.out.s.cap; omega)
            have hcB : ∀ W, (Instr.slice 44 (.slice AB m cB) none (some (.int .i64 (m : Int))) none).run Try.prog W = .ok VB W := fun W => by rw [HVB.out]; exact cutS_to W _ m cB m (by have := HS.out.b.cap; omega)
            have hcC : ∀ W, (Instr.slice 43 (.slice AS m cS) (some (.int .i64 (m : Int))) none none).run Try.prog W = .ok VC W := fun W => by rw [HVC.out]; exact cutE_from W AS m cS m (by omega)
            have hcD : ∀ W, (Instr.slice 44 (.slice AB m cB) (some (.int .i64 (m : Int))) none none).run Try.prog W = .ok VD W := fun W => by rw [HVD.out]; exact cutS_from W _ m cB m (by omega)
            have HRA : Hid (Row 2 w1 VA (S.take m).length (cellsE (S.take m))) := by
              have h := (HS.out.s.below HB1.out).cutE (a := 0) (b := m) (by omega) (by omega)
              rw [HVA.out, List.length_take, HS.out.l, Nat.min_eq_left hmk]
              exact h
            have HRB : Hid (Row 1 w1 VB ((S.map key).take m).length (cellsS ((S.map key).take m))) := by
              have h := (HS.out.b.below HB1.out).cutS (a := 0) (b := m) (by omega) (by omega)
              rw [HVB.out, List.length_take, List.length_map, HS.out.l, Nat.min_eq_left hmk]
              exact h
            have HRC : Hid (Row 2 w1 VC (S.drop m).length (cellsE (S.drop m))) := by
              have h := (HS.out.s.below HB1.out).cutE (a := m) (b := m) hmk (by omega)
              rw [List.take_of_length_le (by rw [List.length_drop, HS.out.l]; omega)] at h
              rw [HVC.out, List.length_drop, HS.out.l]
              exact h
            have HRD : Hid (Row 1 w1 VD ((S.map key).drop m).length (cellsS ((S.map key).drop m))) := by
              have h := (HS.out.b.below HB1.out).cutS (a := m) (b := m) hmk (by omega)
              rw [List.take_of_length_le (by rw [List.length_drop, List.length_map, HS.out.l]; omega)] at h
              rw [HVD.out, List.length_drop, List.length_map, HS.out.l]
              exact h
            have HT0 := hid (Two.start 23 9 w1)
            have HSL : Hid (S.length ≤ 20) := by show _ ≤ _; rw [HS.out.l]; omega
            go_wp2_with (first
              | (at_builtin; refine wpList_append_row_ _ rfl (.tmp 58) (.tmp 61) 43 rfl w1.heap.size 23 i23 _ 2 24 Try.underlying43 hi23 hz23 hs23 hy23 rfl (by omega) (.slice none 0 0) _ _ rfl HT0.out.a _ _ _ rfl HRA.out (cellsE_one _) (by have := HSL.out; simp [maxLen]; omega) (by have := HSL.out; simp; omega) (Nat.le_refl _) ?_; intro v1 w2 ho1 hg1; have HT1 : Hid (Two 23 9 w1 w2 v1 (.slice none 0 0) (S.take m) []) := hid (HT0.out.stepA (by decide) ho1 hg1); clear ho1 hg1)
              | (at_builtin; refine wpList_append_row_ _ rfl (.tmp 63) (.tmp 66) 44 rfl w1.heap.size 9 i9 _ 1 16 Try.underlying44 hi9 hz9 hs9 hy9 rfl (by omega) (.slice none 0 0) _ _ rfl HT1.out.b _ _ _ rfl (HRB.out.below HT1.out.c) (cellsS_one _) (by have := HSL.out; simp [maxLen]; omega) (by have := HSL.out; simp; omega) HT1.out.c.size ?_; intro v2 w3 ho2 hg2; have HT2 : Hid (Two 23 9 w1 w3 v1 v2 (S.take m) ((S.map key).take m)) := hid (HT1.out.stepB (by decide) ho2 hg2); clear ho2 hg2; obtain ⟨hd0, hd1⟩ := HENT1.out.below HT2.out.c)
              | (at_builtin; refine wpList_append_row_ _ rfl (.tmp 68) (.tmp 73) 43 rfl w1.heap.size 23 i23 _ 2 24 Try.underlying43 hi23 hz23 hs23 hy23 rfl (by omega) v1 _ _ rfl (HT2.out.alloc _).a _ _ _ rfl (row_new w3 2 1 (cellsE [(n, xs)]) 23 (by simp [maxLen]) rfl) (cellsE_one _) (by have := HSL.out; simp [maxLen]; omega) (by have := HSL.out; simp; omega) (HT2.out.alloc _).c.size ?_; intro v3 w4 ho3 hg3; have HT3 : Hid (Two 23 9 w1 w4 v3 v2 (S.take m ++ [(n, xs)]) ((S.map key).take m)) := hid ((HT2.out.alloc _).stepA (S' := [(n, xs)]) (by decide) ho3 hg3); clear ho3 hg3 hd0 hd1)
              | (at_builtin; refine wpList_append_row_ _ rfl (.tmp 75) (.tmp 77) 44 rfl w1.heap.size 9 i9 _ 1 16 Try.underlying44 hi9 hz9 hs9 hy9 rfl (by omega) v2 _ _ rfl (HT3.out.alloc _).b _ _ _ rfl (row_new w4 1 1 (cellsS [K]) 9 (by simp [maxLen]) rfl) (cellsS_one _) (by have := HSL.out; simp [maxLen]; omega) (by have := HSL.out; simp; omega) (HT3.out.alloc _).c.size ?_; intro v4 w5 ho4 hg4; have HT4 : Hid (Two 23 9 w1 w5 v3 v4 (S.take m ++ [(n, xs)]) ((S.map key).take m ++ [K])) := hid ((HT3.out.alloc _).stepB (B' := [K]) (by decide) ho4 hg4); clear ho4 hg4)
              | (at_builtin; refine wpList_append_row_ _ rfl (.tmp 79) (.tmp 82) 43 rfl w1.heap.size 23 i23 _ 2 24 Try.underlying43 hi23 hz23 hs23 hy23 rfl (by omega) v3 _ _ rfl HT4.out.a _ _ _ rfl (HRC.out.below HT4.out.c) (cellsE_one _) (by have := HSL.out; simp [maxLen]; omega) (by have := HSL.out; simp; omega) HT4.out.c.size ?_; intro v5 w6 ho5 hg5; have HT5 : Hid (Two 23 9 w1 w6 v5 v4 (S.take m ++ [(n, xs)] ++ S.drop m) ((S.map key).take m ++ [K])) := hid (HT4.out.stepA (by decide) ho5 hg5); clear ho5 hg5)
              | (at_builtin; refine wpList_append_row_ _ rfl (.tmp 84) (.tmp 87) 44 rfl w1.heap.size 9 i9 _ 1 16 Try.underlying44 hi9 hz9 hs9 hy9 rfl (by omega) v4 _ _ rfl HT5.out.b _ _ _ rfl (HRD.out.below HT5.out.c) (cellsS_one _) (by have := HSL.out; simp [maxLen]; omega) (by have := HSL.out; simp; omega) HT5.out.c.size ?_; intro v6 w7 ho6 hg6; have HT6 : Hid (Two 23 9 w1 w7 v5 v6 (S.take m ++ [(n, xs)] ++ S.drop m) ((S.map key).take m ++ [K] ++ (S.map key).drop m)) := hid (HT5.out.stepB (by decide) ho6 hg6); clear ho6 hg6))
            go_roundw
            case rel => exact ⟨m + 1, by omega, by go_num, _, HS.out.next HB1.out hmk (HK.out ▸ HT6.out) hn hx (HK.out ▸ HLE.out) (HK.out ▸ HGT.out)⟩
            case measure => simp [intOf]; omega
    · obtain rfl : k = len := by omega
      obtain ⟨ws, rfl⟩ : ∃ ws, ws = wr := ⟨_, rfl⟩
      have hB0 : Below ws.heap.size ws ws := Below.refl _ _
      go_wp2
      go_loopw [11] (fun i wq => ∃ p : Nat, p ≤ k ∧ i = .int .i64 p ∧ Below ws.heap.size ws wq) (fun i _ => k - (intOf i).toNat)
      case atStart => exact ⟨0, by omega, rfl, hB0⟩
      case round =>
        obtain ⟨p, hp, rfl, hbq⟩ := hrel
        have HBQ := hid hbq
        clear hbq
        by_cases hpk : p < k
        · have hpi : (p : Int) < k := by omega
          go_wp2
          go_loopw [12] (fun i wq' => ∃ q : Nat, q ≤ p ∧ i = .int .i64 q ∧ Below ws.heap.size ws wq') (fun i _ => p - (intOf i).toNat)
          case atStart => exact ⟨0, by omega, rfl, HBQ.out⟩
          case round =>
            obtain ⟨q, hq, rfl, hbr⟩ := hrel
            have HBR := hid hbr
            clear hbr
            by_cases hqp : q < p
            · have hqi : (q : Int) < p := by omega
              have hqk : (q : Int) < k := by omega
              obtain ⟨⟨n1, xs⟩, hx⟩ : ∃ e, S[q]? = some e := ⟨S[q]'(by rw [HS.out.l]; omega), List.getElem?_eq_getElem _⟩
              obtain ⟨⟨n2, ys⟩, hy⟩ : ∃ e, S[p]? = some e := ⟨S[p]'(by rw [HS.out.l]; omega), List.getElem?_eq_getElem _⟩
              have hxb : Byt xs := HS.out.g.b _ (List.mem_of_getElem? hx)
              have hyb : Byt ys := HS.out.g.b _ (List.mem_of_getElem? hy)
              have hx1 : I64 n1 := HS.out.g.i _ (List.mem_of_getElem? hx)
              have hy1 : I64 n2 := HS.out.g.i _ (List.mem_of_getElem? hy)
              have hnot := HS.out.o.at_ hqp hx hy
              obtain ⟨ad, rfl, hent⟩ := (HS.out.s.below HBR.out).ent hx
              obtain ⟨ad', hAd, hent'⟩ := (HS.out.s.below HBR.out).ent hy
              injection hAd with hAd
              subst hAd
              have HP : Hid (Both wr ad q p n1 xs n2 ys) := ⟨hent, hent'⟩
              have HXB := hid hxb
              have HYB := hid hyb
              clear hent hent' hx hy
              rcases sorted_ways hx1 hy1 hxb hyb hnot with ⟨rfl, rfl⟩ | ⟨hc, hc2, hE | ⟨rfl, hE⟩⟩
              · have HC : Hid (cmpE n1 xs n1 xs = 0) := cmpE_self n1 xs
                have HC2 := HC
                clear hnot hxb hyb hx1 hy1
                obtain ⟨⟨hp0, hp1⟩, hp2, hp3⟩ := HP.out
                go_wp2
                go_region_held3 (fun w' => w'.cell? (ad.add (q * 2)) = some (.int .i64 n1) ∧ w'.cell? { block := (ad.add (q * 2)).block, off := (ad.add (q * 2)).off + 1, spot := none } = some (.string (str xs)) ∧ w'.cell? (ad.add (p * 2)) = some (.int .i64 n1) ∧ w'.cell? { block := (ad.add (p * 2)).block, off := (ad.add (p * 2)).off + 1, spot := none } = some (.string (str xs))) (first | exact ⟨hp0, hp1, hp2, hp3⟩ | exact ⟨HP5.out.1.1, HP5.out.1.2, HP5.out.2.1, HP5.out.2.2⟩)
                  (first
                    | (go_at_call 17; ((with_reducible refine (compare_raw _ n1 n1 xs xs HXB.out HYB.out).mono ?_); rw [HC.out]; rintro e w5 ⟨rfl, hb5⟩; have HP5 := hid (Both.below (w := wr.drew) HP.out hb5); have HB5 := hid hb5; clear hb5)))
                clear hp0 hp1 hp2 hp3
                obtain ⟨⟨hp0, hp1⟩, hp2, hp3⟩ := HP5.out
                go_wp2
                go_region_held3 (fun w' => w'.cell? (ad.add (q * 2)) = some (.int .i64 n1) ∧ w'.cell? { block := (ad.add (q * 2)).block, off := (ad.add (q * 2)).off + 1, spot := none } = some (.string (str xs)) ∧ w'.cell? (ad.add (p * 2)) = some (.int .i64 n1) ∧ w'.cell? { block := (ad.add (p * 2)).block, off := (ad.add (p * 2)).off + 1, spot := none } = some (.string (str xs))) (first | exact ⟨hp0, hp1, hp2, hp3⟩ | exact ⟨HP6.out.1.1, HP6.out.1.2, HP6.out.2.1, HP6.out.2.2⟩)
                  (first
                    | (go_at_call 17; ((with_reducible refine (compare_raw _ n1 n1 xs xs HYB.out HXB.out).mono ?_); rw [HC2.out]; rintro e w6 ⟨rfl, hb6⟩; have HP6 := hid (Both.below (w := w5.drew) HP5.out hb6); have HB6 := hid hb6; clear hb6)))
                go_wp2
                go_roundw
                case rel => exact ⟨q + 1, by omega, by go_num, below_step (below_step HBR.out.drew HB5.out).drew HB6.out⟩
                case measure => simp [intOf]; omega
              · have HC := hid hc
                have HC2 := hid hc2
                clear hnot hxb hyb hx1 hy1 hc hc2
                obtain ⟨⟨hp0, hp1⟩, hp2, hp3⟩ := HP.out
                go_wp2
                go_region_held3 (fun w' => w'.cell? (ad.add (q * 2)) = some (.int .i64 n1) ∧ w'.cell? { block := (ad.add (q * 2)).block, off := (ad.add (q * 2)).off + 1, spot := none } = some (.string (str xs)) ∧ w'.cell? (ad.add (p * 2)) = some (.int .i64 n2) ∧ w'.cell? { block := (ad.add (p * 2)).block, off := (ad.add (p * 2)).off + 1, spot := none } = some (.string (str ys))) (first | exact ⟨hp0, hp1, hp2, hp3⟩ | exact ⟨HP5.out.1.1, HP5.out.1.2, HP5.out.2.1, HP5.out.2.2⟩)
                  (first
                    | (go_at_call 17; ((with_reducible refine (compare_raw _ n1 n2 xs ys HXB.out HYB.out).mono ?_); rw [HC.out]; rintro e w5 ⟨rfl, hb5⟩; have HP5 := hid (Both.below (w := wr.drew) HP.out hb5); have HB5 := hid hb5; clear hb5)))
                clear hp0 hp1 hp2 hp3
                obtain ⟨⟨hp0, hp1⟩, hp2, hp3⟩ := HP5.out
                go_wp2
                go_region_held3 (fun w' => w'.cell? (ad.add (q * 2)) = some (.int .i64 n1) ∧ w'.cell? { block := (ad.add (q * 2)).block, off := (ad.add (q * 2)).off + 1, spot := none } = some (.string (str xs)) ∧ w'.cell? (ad.add (p * 2)) = some (.int .i64 n2) ∧ w'.cell? { block := (ad.add (p * 2)).block, off := (ad.add (p * 2)).off + 1, spot := none } = some (.string (str ys))) (first | exact ⟨hp0, hp1, hp2, hp3⟩ | exact ⟨HP6.out.1.1, HP6.out.1.2, HP6.out.2.1, HP6.out.2.2⟩)
                  (first
                    | (go_at_call 17; ((with_reducible refine (compare_raw _ n2 n1 ys xs HYB.out HXB.out).mono ?_); rw [HC2.out]; rintro e w6 ⟨rfl, hb6⟩; have HP6 := hid (Both.below (w := w5.drew) HP5.out hb6); have HB6 := hid hb6; clear hb6)))
                go_wp2
                go_roundw
                case rel => exact ⟨q + 1, by omega, by go_num, below_step (below_step HBR.out.drew HB5.out).drew HB6.out⟩
                case measure => simp [intOf]; omega
              · have HC := hid hc
                have HC2 := hid hc2
                clear hnot hxb hyb hx1 hy1 hc hc2
                obtain ⟨⟨hp0, hp1⟩, hp2, hp3⟩ := HP.out
                go_wp2
                go_region_held3 (fun w' => w'.cell? (ad.add (q * 2)) = some (.int .i64 n1) ∧ w'.cell? { block := (ad.add (q * 2)).block, off := (ad.add (q * 2)).off + 1, spot := none } = some (.string (str xs)) ∧ w'.cell? (ad.add (p * 2)) = some (.int .i64 n1) ∧ w'.cell? { block := (ad.add (p * 2)).block, off := (ad.add (p * 2)).off + 1, spot := none } = some (.string (str ys))) (first | exact ⟨hp0, hp1, hp2, hp3⟩ | exact ⟨HP5.out.1.1, HP5.out.1.2, HP5.out.2.1, HP5.out.2.2⟩)
                  (first
                    | (go_at_call 17; ((with_reducible refine (compare_raw _ n1 n1 xs ys HXB.out HYB.out).mono ?_); rw [HC.out]; rintro e w5 ⟨rfl, hb5⟩; have HP5 := hid (Both.below (w := wr.drew) HP.out hb5); have HB5 := hid hb5; clear hb5)))
                clear hp0 hp1 hp2 hp3
                obtain ⟨⟨hp0, hp1⟩, hp2, hp3⟩ := HP5.out
                go_wp2
                go_region_held3 (fun w' => w'.cell? (ad.add (q * 2)) = some (.int .i64 n1) ∧ w'.cell? { block := (ad.add (q * 2)).block, off := (ad.add (q * 2)).off + 1, spot := none } = some (.string (str xs)) ∧ w'.cell? (ad.add (p * 2)) = some (.int .i64 n1) ∧ w'.cell? { block := (ad.add (p * 2)).block, off := (ad.add (p * 2)).off + 1, spot := none } = some (.string (str ys))) (first | exact ⟨hp0, hp1, hp2, hp3⟩ | exact ⟨HP6.out.1.1, HP6.out.1.2, HP6.out.2.1, HP6.out.2.2⟩)
                  (first
                    | (go_at_call 17; ((with_reducible refine (compare_raw _ n1 n1 ys xs HYB.out HXB.out).mono ?_); rw [HC2.out]; rintro e w6 ⟨rfl, hb6⟩; have HP6 := hid (Both.below (w := w5.drew) HP5.out hb6); have HB6 := hid hb6; clear hb6)))
                go_wp2
                go_roundw
                case rel => exact ⟨q + 1, by omega, by go_num, below_step (below_step HBR.out.drew HB5.out).drew HB6.out⟩
                case measure => simp [intOf]; omega
            · obtain rfl : q = p := by omega
              go_wp2
              go_roundw
              case rel => exact ⟨q + 1, by omega, by go_num, HBR.out⟩
              case measure => simp [intOf]; omega
        · obtain rfl : p = k := by omega
          go_wp2_with fail
          refine (awake_any _).mono ?_
          rintro e w2 ⟨rfl, hb2⟩
          go_wp2
          go_ret
          exact ⟨rfl, below_step (below_step HS.out.c HBQ.out) hb2⟩
end Go.Proofs.Ytomkfggilehhgaa
