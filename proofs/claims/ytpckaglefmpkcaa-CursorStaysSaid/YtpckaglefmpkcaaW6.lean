import Derived.Test.YtpckaglefmpkcaaW3
namespace Go.Proofs.Ytpckaglefmpkcaa
open Go.RowKit

/-- What stands behind a text is not ahead of it and a byte 0. -/
theorem next_lt : ∀ (y x : List Nat), y < x → ¬ x < y ++ [0]
  | [], x, _, h => by
    cases x with
    | nil => exact absurd ‹[] < []› (List.lt_irrefl _)
    | cons a x =>
      rw [List.nil_append, List.cons_lt_cons_iff] at h
      rcases h with h | ⟨_, h⟩
      · omega
      · exact List.not_lt_nil _ h
  | b :: y, [], h, _ => List.not_lt_nil _ h
  | b :: y, a :: x, h, h' => by
    rw [List.cons_append, List.cons_lt_cons_iff] at h'
    rw [List.cons_lt_cons_iff] at h
    rcases h with h | ⟨h, h2⟩
    · omega
    · subst h
      rcases h' with h' | ⟨_, h'⟩
      · omega
      · exact next_lt y x h2 h'
theorem lt_next (y : List Nat) : y < y ++ [0] := by
  have : y ++ [] < y ++ [0] := app_lt_ y
  rwa [List.append_nil] at this
where app_lt_ : ∀ y : List Nat, y ++ [] < y ++ [0]
  | [] => List.nil_lt_cons _ _
  | b :: y => by rw [List.cons_append, List.cons_append, List.cons_lt_cons_iff]; exact .inr ⟨rfl, app_lt_ y⟩

def SortedL (l : List Pr) : Prop := l.Pairwise fun a b => a.1 < b.1
theorem SortedL.at_ {l : List Pr} (h : SortedL l) {i j : Nat} {x y : Pr} (hij : i < j) (hi : l[i]? = some x) (hj : l[j]? = some y) : x.1 < y.1 := by
  obtain ⟨h1, rfl⟩ := List.getElem?_eq_some_iff.1 hi
  obtain ⟨h2, rfl⟩ := List.getElem?_eq_some_iff.1 hj
  exact List.pairwise_iff_getElem.1 h i j h1 h2 hij
theorem atN_nil (l : List Pr) : atN l [] = 0 := atN_of l [] 0 (Nat.zero_le _) (fun j p h => by omega) (fun p _ => List.not_lt_nil _)
theorem atN_key {l : List Pr} (h : SortedL l) {j : Nat} {x : Pr} (hj : l[j]? = some x) : atN l x.1 = j :=
  atN_of l x.1 j (Nat.le_of_lt (List.getElem?_eq_some_iff.1 hj).1) (fun i p hi hp => h.at_ hi hp hj) (fun p hp => by rw [hj] at hp; injection hp with hp; subst hp; exact List.lt_irrefl _)
theorem atN_next {l : List Pr} (h : SortedL l) {j : Nat} {x : Pr} (hj : l[j]? = some x) : atN l (x.1 ++ [0]) = j + 1 := by
  refine atN_of l _ (j + 1) (List.getElem?_eq_some_iff.1 hj).1 (fun i p hi hp => ?_) (fun p hp => next_lt _ _ (h.at_ (by omega) hj hp))
  rcases Nat.lt_or_ge i j with hij | hij
  · exact List.lt_trans (h.at_ hij hp hj) (lt_next _)
  · obtain rfl : i = j := by omega
    rw [hj] at hp; injection hp with hp; subst hp
    exact lt_next _
theorem getL_key {l : List Pr} (h : SortedL l) {j : Nat} {x : Pr} (hj : l[j]? = some x) : getL l x.1 = some x.2 := by
  unfold getL
  rw [atN_key h hj, hj]
  simp
/-- All keys that there are may be. -/
def Keyed (l : List Pr) : Prop := ∀ q ∈ l, key64 q.1 = true
theorem Keyed.put {l : List Pr} (h : Keyed l) (k v : List Nat) : Keyed (putN l k v) := by
  unfold putN
  rcases putE_cases k v with ⟨h1, h2⟩ | ⟨h1, h2, h3⟩ | ⟨h1, h2, h3⟩
  · rw [h2, if_neg (by decide)]; exact h
  · rw [h3, if_neg (by decide)]; exact h
  · rw [h3, if_pos rfl]
    intro q hq
    unfold putL at hq
    simp only [List.mem_append, List.mem_singleton] at hq
    rcases hq with (hq | rfl) | hq
    · exact h q (List.mem_of_mem_take hq)
    · exact h1
    · exact h q (List.mem_of_mem_drop hq)
theorem Keyed.del {l : List Pr} (h : Keyed l) (k : List Nat) : Keyed (delN l k) := by
  unfold delN
  split
  · intro q hq
    unfold delL at hq
    rcases List.mem_append.1 hq with hq | hq
    · exact h q (List.mem_of_mem_take hq)
    · exact h q (List.mem_of_mem_drop hq)
  · exact h
theorem Keyed.step {l : List Pr} (h : Keyed l) (o : Cl) : Keyed (stepL l o) := by
  unfold stepL
  split
  · exact h.put _ _
  · split
    · exact h.del _
    · exact h
theorem Keyed.run : ∀ (os : List Cl) {l : List Pr}, Keyed l → Keyed (runL l os)
  | [], _, h => h
  | o :: os, _, h => Keyed.run os (h.step o)

theorem atN_not : ∀ (l : List Pr) (k : List Nat) (q : Pr), l[atN l k]? = some q → ¬ q.1 < k
  | [], k, q, h => by simp at h
  | p :: l, k, q, h => by
    unfold atN at h
    by_cases hp : p.1 < k
    · rw [if_pos hp] at h
      exact atN_not l k q h
    · rw [if_neg hp] at h
      simp at h
      subst h
      exact hp
theorem zero_str : (⟨#[0]⟩ : ByteArray) = str [0] := by apply ba_ext; rw [str_list]; rfl
theorem run_add0 (t : TypeId) (xs : List Nat) (h : xs.length ≤ 1000) : binOp .add t (.string (str xs)) (.string ⟨#[0]⟩) = pure (.string (str (xs ++ [0]))) := by
  rw [zero_str, binOp_string_add]
  unfold Op.stringOp
  have h1 := str_size xs
  have h2 := str_size [0]
  have hm : IntKind.i64.max = 9223372036854775807 := rfl
  simp only [h1, h2, str_app, hm]
  rw [if_neg (by simp; omega)]
theorem steps_no (w : World) (n : Int) (hn : n < 2 ∨ 16 < n) (v : Value) : Calls Try.prog 9 #[.int .i64 n, v] w (Yes w) := by
  go_enter Try.func9, Try.ntmps9
  go_wp2_with fail
  refine (tree_new_no w n hn).mono ?_
  rintro e w1 ⟨rfl, hb1⟩
  go_wp2_with fail
  refine (awake_yes _).mono ?_
  rintro e w2 ⟨rfl, hb2⟩
  go_wp2
  go_ret
  exact ⟨rfl, below_step hb1 hb2⟩
theorem steps_many (w : World) (o : Nat) (h2 : 2 ≤ o) (h16 : o ≤ 16) (v : Value) (os : List Cl) (hv : Elems 3 cO w v os) (hf : fewB os = false) : Calls Try.prog 9 #[.int .i64 (o : Int), v] w (Yes w) := by
  go_enter Try.func9, Try.ntmps9
  go_wp2_with fail
  refine (tree_new_at w o h2 h16).mono ?_
  rintro e w1 ⟨a, P, rfl, hb1, ha, ht⟩
  have HB1 := hid hb1
  clear ht hb1 ha
  go_wp2_with fail
  refine (few_any w1 _ os (hv.below HB1.out)).mono ?_
  rw [hf]
  rintro e w1' ⟨rfl, rfl⟩
  go_wp2_with fail
  refine (awake_yes _).mono ?_
  rintro e w2 ⟨rfl, hb2⟩
  go_wp2
  go_ret
  exact ⟨rfl, below_step HB1.out hb2⟩

set_option maxHeartbeats 4000000 in
theorem steps_ok (w : World) (o : Nat) (h2 : 2 ≤ o) (h16 : o ≤ 16) (v : Value) (os : List Cl) (hv : Elems 3 cO w v os) (hos : ClsOk os) (hf : fewB os = true) :
    Calls Try.prog 9 #[.int .i64 (o : Int), v] w (Yes w) := by
  obtain ⟨A, cap, rfl⟩ := hv.slice
  obtain ⟨hfew, hlen⟩ := fewB_yes hf
  obtain ⟨len, HLEN⟩ : ∃ len, Hid (len = os.length) := ⟨_, rfl⟩
  have hl200 : len ≤ 200 := by rw [HLEN.out]; exact hlen
  have HV := hid hv
  have HOS := hid hos
  have HFEW := hid hfew
  have HF := hid hf
  rw [← HLEN.out] at HV ⊢
  clear hv hos hfew hf hlen
  go_enter Try.func9, Try.ntmps9
  go_wp2_with fail
  refine (tree_new_at w o h2 h16).mono ?_
  rintro e w1 ⟨a, P, rfl, hb1, ha, ht⟩
  have HT := hid ht
  have HA := hid ha
  have HB1 := hid hb1
  clear ht hb1 ha
  go_wp2_with fail
  refine (few_any w1 _ os (HV.out.below HB1.out)).mono ?_
  rw [HF.out]
  rintro e w1' ⟨rfl, rfl⟩
  have HST := hid (st_new HT.out HB1.out HA.out)
  go_wp2
  go_loopw [8] (fun i wr => ∃ k : Nat, k ≤ len ∧ i = .int .i64 k ∧ ∃ P G, St w wr P G a w1.heap.size (runL [] (os.take k)) o) (fun i _ => len - (intOf i).toNat)
  case atStart => exact ⟨0, by omega, rfl, P, _, HST.out⟩
  case round =>
    obtain ⟨k, hk, rfl, P', G', hst⟩ := hrel
    have HS := hid hst
    by_cases hlt : k < len
    · have hlti : (k : Int) < len := by omega
      obtain ⟨op, hop⟩ : ∃ op, os[k]? = some op := ⟨os[k]'(by have := HLEN.out; omega), List.getElem?_eq_getElem _⟩
      obtain ⟨ad, rfl, hat⟩ := (HV.out.below hst.since).opAt hop
      obtain ⟨hc0, hc1, hc2⟩ := hat
      have HN := hid (runL_take [] hop)
      have hmem := List.mem_of_getElem? hop
      have HOK := hid (HOS.out.ok op hmem)
      have hk1 := (HFEW.out op hmem).1
      have hk2 := (HFEW.out op hmem).2
      have HRL : Hid ((runL [] (os.take k)).length ≤ 900) := by
        have := runL_len (os.take k) []
        rw [List.length_take] at this
        show _ ≤ _
        simp at this; omega
      clear hst hop hmem
      go_wp2_with fail
      refine (does_any HS.out op HOK.out hk1 hk2 HRL.out).mono ?_
      rw [← HN.out]
      rintro e w2 ⟨rfl, P2, G2, hst2⟩
      have HST2 := hid hst2
      clear hst2 hc0 hc1 hc2
      go_wp2
      go_roundw
      case rel => exact ⟨k + 1, by omega, by go_num, P2, G2, HST2.out⟩
      case measure => simp [intOf]; omega
    · obtain rfl : k = len := by omega
      have hall : os.take k = os := List.take_of_length_le (by have := HLEN.out; omega)
      rw [hall] at HS
      obtain ⟨L, HLE⟩ : ∃ L, Hid (L = runL [] os) := ⟨_, rfl⟩
      rw [← HLE.out] at HS
      have HLL : Hid (L.length ≤ 900) := by
        have := runL_len os []
        have := HLEN.out
        show _ ≤ _
        rw [HLE.out]
        simp at *; omega
      have HKY : Hid (Keyed L) := by rw [HLE.out]; exact Keyed.run os (fun _ h => by cases h)
      have HSO : Hid (SortedL L) := HS.out.t.rise
      have HPB := hid (HS.out.t.byt)
      obtain ⟨m, HM⟩ : ∃ m, Hid (m = L.length) := ⟨_, rfl⟩
      have hm300 : m ≤ 900 := by rw [HM.out]; exact HLL.out
      have HSN := hid str_nil
      clear hst hall
      obtain ⟨ws, rfl⟩ : ∃ ws, ws = wr := ⟨_, rfl⟩
      have hB0 := Below.refl ws.heap.size ws
      go_wp2
      go_loopw [9, 10] (fun at_ n wr => ∃ j : Nat, j ≤ m ∧ n = .int .i64 j ∧ ∃ K : List Nat, at_ = .string (str K) ∧ Hid (atN L K = j) ∧ Hid (Byt K) ∧ Hid (K.length ≤ 100) ∧ Below ws.heap.size ws wr) (fun _ n _ => m + 1 - (intOf n).toNat)
      case atStart => exact ⟨0, by omega, rfl, [], by rw [← str_nil], atN_nil L, (fun b h => by cases h), by show _ ≤ _; simp, hB0⟩
      case round =>
        obtain ⟨j, hj, rfl, K, rfl, HAT, HKB, HKL, hbw⟩ := hrel
        have HSW := hid (HS.out.below_ hbw)
        have HBW := hid hbw
        clear hbw
        by_cases hjm : j < m
        · have hji : (j : Int) ≤ m := by omega
          obtain ⟨⟨kx, vx⟩, hx⟩ : ∃ x, L[j]? = some x := ⟨L[j]'(by have := HM.out; omega), List.getElem?_eq_getElem _⟩
          have hxb := HPB.out.at_ j hx
          have HCE : Hid (ceilR L K = .tuple #[.string (str kx), .string (str vx), .int .i64 0]) := by
            show _ = _
            unfold ceilR; rw [HAT.out, hx]
          have h64 := HKY.out _ (List.mem_of_getElem? hx)
          have hgl := getL_key HSO.out hx
          have HGV : Hid (getV L kx = vx) := by show _ = _; unfold getV; rw [show key64 kx = true from h64, hgl]; rfl
          have HGE : Hid (getE L kx = 0) := by show _ = _; unfold getE; rw [show key64 kx = true from h64, hgl]; rfl
          have HKX : Hid (kx.length ≤ 64) := by
            have : key64 kx = true := h64
            unfold key64 at this
            exact (of_decide_eq_true this).2
          have hless : Op.bytesLess (str kx).toList (str K).toList = false := by
            rw [less_str hxb.1 HKB.out, decide_eq_false (atN_not L K _ (by rw [HAT.out]; exact hx))]
          have HNX : Hid (atN L (kx ++ [0]) = j + 1) := atN_next HSO.out hx
          have HXB := hid hxb.1
          have hadd := fun t => run_add0 t kx (by have := HKX.out; omega)
          clear hx hxb h64 hgl
          go_wp2_with fail
          refine (HSW.out.t.len).mono ?_
          rw [← HM.out]
          rintro e w3 ⟨rfl, hb3⟩
          have HS3 := hid (HSW.out.below_ hb3)
          have HBW3 := hid (below_step HBW.out hb3)
          clear hb3
          go_wp2_with fail
          refine (HS3.out.t.ceil (Nat.le_trans HLL.out (by decide)) K HKB.out).mono ?_
          rw [HCE.out]
          rintro e w4 ⟨rfl, hb4⟩
          have HS4 := hid (HS3.out.below_ hb4)
          have HBW4 := hid (below_step HBW3.out hb4)
          clear hb4
          go_wp2_with fail
          refine (HS4.out.t.get (Nat.le_trans HLL.out (by decide)) kx HXB.out (by have := HKX.out; omega)).mono ?_
          rw [HGV.out, HGE.out]
          rintro e w5 ⟨rfl, hb5⟩
          have HS5 := hid (HS4.out.below_ hb5)
          have HBW5 := hid (below_step HBW4.out hb5)
          clear hb5
          go_wp2
          go_roundw
          case rel => exact ⟨j + 1, by omega, by go_num, kx ++ [0], rfl, HNX, HXB.out.app (by intro b hb; simp at hb; omega), by show _ ≤ _; have := HKX.out; simp; omega, HBW5.out⟩
          case measure => simp [intOf]; omega
        · obtain rfl : j = m := by omega
          have HCE : Hid (ceilR L K = .tuple #[.string (str []), .string (str []), .int .i64 14]) := by
            show _ = _
            unfold ceilR; rw [HAT.out, List.getElem?_eq_none (by have := HM.out; omega)]
          go_wp2_with fail
          refine (HSW.out.t.len).mono ?_
          rw [← HM.out]
          rintro e w3 ⟨rfl, hb3⟩
          have HS3 := hid (HSW.out.below_ hb3)
          clear hb3
          go_wp2_with fail
          refine (HS3.out.t.ceil (Nat.le_trans HLL.out (by decide)) K HKB.out).mono ?_
          rw [HCE.out]
          rintro e w4 ⟨rfl, hb4⟩
          have HS4 := hid (HS3.out.below_ hb4)
          clear hb4
          go_wp2_with fail
          refine (HS4.out.t.len).mono ?_
          rw [← HM.out]
          rintro e w5 ⟨rfl, hb5⟩
          have HS5 := hid (HS4.out.below_ hb5)
          clear hb5
          go_wp2_with fail
          refine (awake_yes _).mono ?_
          rintro e w6 ⟨rfl, hb6⟩
          go_wp2
          go_ret
          exact ⟨rfl, below_step HS5.out.since hb6⟩
theorem steps_any (w : World) (n : Int) (v : Value) (os : List Cl) (hv : Elems 3 cO w v os) (hos : ClsOk os) : Calls Try.prog 9 #[.int .i64 n, v] w (Yes w) := by
  by_cases hn : n < 2 ∨ 16 < n
  · exact steps_no w n hn v
  · obtain ⟨o, rfl⟩ : ∃ o : Nat, n = (o : Int) := ⟨n.toNat, by omega⟩
    cases hf : fewB os with
    | false => exact steps_many w o (by omega) (by omega) v os hv hf
    | true => exact steps_ok w o (by omega) (by omega) v os hv hos hf
end Go.Proofs.Ytpckaglefmpkcaa
