import Derived.Test.YtlnagdodnkhbmaaT20
import Derived.Test.YtlnagdodnkhbmaaT18
import Derived.Test.YtlnagdodnkhbmaaT14
set_option maxRecDepth 100000
open Go Go.RowKit
namespace Go.Proofs.Ytlnagdodnkhbmaa
theorem ext_get {l m : List (List Nat)} (hlen : l.length = m.length) (h : ∀ (j : Nat) (x y : List Nat), j < l.length → l[j]? = some x → m[j]? = some y → x = y) : l = m := by
  refine List.ext_getElem hlen fun i h1 h2 => h i _ _ h1 (List.getElem?_eq_getElem _) (List.getElem?_eq_getElem _)
/-- Two lists of texts. -/
theorem texts_any (w : World) (v u : Value) (l m : List (List Nat)) (hv : Elems 1 cT w v l) (hu : Elems 1 cT w u m) (hl : ∀ x ∈ l, Byt x) (hm : ∀ x ∈ m, Byt x) :
    Calls Try.prog 18 #[v, u] w fun e w' => e = .returned (.bool (decide (l = m))) ∧ ∃ n, w' = w.drewN n := by
  obtain ⟨A, cap, rfl⟩ := hv.slice
  obtain ⟨B, cbp, rfl⟩ := hu.slice
  have HL := hid hv
  have HM := hid hu
  have HBL := hid hl
  have HBM := hid hm
  have hcap := hv.cap
  have hml : l.length ≤ 9223372036854775807 := by have := hcap.2.2; unfold maxLen at this; omega
  have hcbp := hu.cap
  have hmm : m.length ≤ 9223372036854775807 := by have := hcbp.2.2; unfold maxLen at this; omega
  obtain ⟨len, HLEN⟩ : ∃ len, Hid (len = l.length) := ⟨_, rfl⟩
  obtain ⟨mlen, HMLEN⟩ : ∃ len, Hid (len = m.length) := ⟨_, rfl⟩
  rw [← HLEN.out] at hml HL ⊢
  rw [← HMLEN.out] at hmm HM ⊢
  clear hv hu hl hm hcap hcbp
  by_cases hne : len = mlen
  · subst hne
    go_enter Try.func18, Try.ntmps18
    go_wp2
    go_loopw [5] (fun i w' => ∃ n : Nat, n ≤ len ∧ i = .int .i64 n ∧ Hid (∀ (j : Nat) (x y : List Nat), j < n → l[j]? = some x → m[j]? = some y → x = y) ∧ ∃ mm, w' = w.drewN mm) (fun i _ => len - (intOf i).toNat)
    case atStart => exact ⟨0, by omega, rfl, fun j x y hj => by omega, 0, rfl⟩
    case round =>
      obtain ⟨n, hn, rfl, HJ, mm, rfl⟩ := hrel
      by_cases hlt : n < len
      · have hlti : (n : Int) < len := by omega
        obtain ⟨x, hx⟩ : ∃ x, l[n]? = some x := ⟨l[n]'(by have := HLEN.out; omega), List.getElem?_eq_getElem _⟩
        obtain ⟨y, hy⟩ : ∃ x, m[n]? = some x := ⟨m[n]'(by have := HMLEN.out; omega), List.getElem?_eq_getElem _⟩
        obtain ⟨ad, rfl, h0⟩ := HL.out.cell cT_len hx (j := 0) (u := .string (str x)) rfl
        obtain ⟨bd, rfl, h1⟩ := HM.out.cell cT_len hy (j := 0) (u := .string (str y)) rfl
        rw [Nat.mul_one, Nat.add_zero] at h0 h1
        have hbeq := beq_str (HBL.out x (List.mem_of_getElem? hx)) (HBM.out y (List.mem_of_getElem? hy))
        have HX := hid hx
        have HY := hid hy
        clear hx hy
        by_cases hxy : x = y
        · have HJ' : Hid (∀ (j : Nat) (x y : List Nat), j < n + 1 → l[j]? = some x → m[j]? = some y → x = y) := fun j a b hj ha hb => by
            rcases Nat.lt_or_ge j n with h | h
            · exact HJ.out j a b h ha hb
            · obtain rfl : j = n := by omega
              have h1 := HX.out
              have h2 := HY.out
              rw [ha] at h1
              rw [hb] at h2
              injection h1 with h1
              injection h2 with h2
              rw [h1, h2, hxy]
          subst hxy
          go_wp2
          go_quiet (fail)
          go_wp2
          go_roundw
          case rel => exact ⟨n + 1, by omega, by go_num, HJ', _, rfl⟩
          case measure => simp [intOf]; omega
        · simp only [hxy, decide_false] at hbeq
          have HNE : Hid (decide (l = m) = false) := decide_eq_false fun h => by
            have h1 := HX.out
            have h2 := HY.out
            rw [h, h2] at h1
            injection h1 with h1
            exact hxy h1.symm
          clear hxy
          go_wp2
          go_quiet (fail)
          go_wp2
          go_ret
          exact ⟨by rw [HNE.out]; rfl, _, by first | rfl | (rw [World.drewN_drewN])⟩
      · obtain rfl : n = len := by omega
        have HE : Hid (l = m) := ext_get (HLEN.out.symm.trans HMLEN.out) fun j x y hj => HJ.out j x y (by have := HLEN.out; omega)
        go_wp2
        go_ret
        exact ⟨by rw [decide_eq_true HE.out]; rfl, mm, rfl⟩
  · have hni : ((len : Int) = mlen) = False := eq_false (by omega)
    have HNE : Hid (decide (l = m) = false) := decide_eq_false fun h => hne (by rw [HLEN.out, HMLEN.out, h])
    go_enter Try.func18, Try.ntmps18
    go_wp2
    go_ret
    exact ⟨by rw [HNE.out]; rfl, 0, rfl⟩

theorem rows_new2 (w : World) (a b : List Nat) (e : TypeId) : Elems 1 cT (w.alloc (.cells #[.string (str a), .string (str b)] e)) (.slice (some ⟨w.heap.size, 0, none⟩) 2 2) [a, b] := by
  have h := row_new w 1 2 (cellsBy cT [a, b]) e (by simp [maxLen]) (cellsBy_len cT_len [a, b])
  have e1 : cellsBy cT [a, b] = cT a ++ cT b := by simp [cellsBy]
  unfold Elems
  rw [e1] at h ⊢
  exact h
theorem rows_lit2 (w : World) (s t : ByteArray) (a b : List Nat) (hs : s = str a) (ht : t = str b) (e : TypeId) : Elems 1 cT (w.alloc (.cells #[.string s, .string t] e)) (.slice (some ⟨w.heap.size, 0, none⟩) 2 2) [a, b] := by
  subst hs; subst ht
  exact rows_new2 w a b e
theorem texts_same (w : World) (v u : Value) (l : List (List Nat)) (hv : Elems 1 cT w v l) (hu : Elems 1 cT w u l) (hl : ∀ x ∈ l, Byt x) :
    Calls Try.prog 18 #[v, u] w fun e w' => e = .returned (.bool true) ∧ Below w.heap.size w w' :=
  (texts_any w v u l l hv hu hl hl).mono fun e w' h => ⟨by rw [h.1, decide_eq_true rfl], by obtain ⟨_, n, rfl⟩ := h; exact below_drewN' (Below.refl _ _) n⟩
theorem tput_lit {w : World} {T : Nat} {p : Nat → Nat} {Q : Bl} {most o : Nat} {l : List KR} (h : Tab w T p Q most o l) (s : ByteArray) (k : List Nat) (hs : s = str k) (hb : Byt k) (x : Int) (hx : I64 x) :
    Calls Try.prog 24 #[.pointer (some ⟨T, 0, none⟩), .string s, .agg #[.int .i64 x, .int .i64 0, .int .i64 0, .int .i64 0]] w fun e w' => (∃ u, e = .returned u) ∧ Tab w' T p (New Q w w') most o (kputN most l k ⟨x, 0, 0, 0⟩) ∧ Chg (five p) w w' (five p) := by
  subst hs
  refine (tput h k hb ⟨x, 0, 0, 0⟩ ?_).mono fun e w' h => ⟨⟨_, h.1⟩, h.2⟩
  intro y hy
  unfold Ro.l at hy
  simp at hy
  rcases hy with rfl | rfl
  · exact hx
  · unfold I64; omega
def l3 : List KR := [([97], ⟨5, 0, 0, 0⟩), ([98], ⟨3, 0, 0, 0⟩), ([99], ⟨5, 0, 0, 0⟩)]
theorem l3_eq : kputN 9 (kputN 9 (kputN 9 [] [97] ⟨5, 0, 0, 0⟩) [98] ⟨3, 0, 0, 0⟩) [99] ⟨5, 0, 0, 0⟩ = l3 := by kernel_rfl
theorem l3_a : findL 0 4 9 9 l3 = [[97], [99]] := by decide +kernel
theorem l3_b : findL 0 0 9 2 l3 = [[98], [97]] := by decide +kernel
/-- The chapter's examples. -/
theorem awake_any (w : World) : Calls Try.prog 10 #[] w fun e w' => e = .returned (.bool true) ∧ Below w.heap.size w w' := by
  have HN : Hid (Calls Try.prog 28 #[.int .i64 9, .int .i64 2] w (NewEnd w 9 2)) := tnew2 w 9 (by omega) (by omega)
  have HS97 : Hid ((⟨#[97]⟩ : ByteArray) = str [97]) := by show _ = _; kernel_rfl
  have HS98 : Hid ((⟨#[98]⟩ : ByteArray) = str [98]) := by show _ = _; kernel_rfl
  have HS99 : Hid ((⟨#[99]⟩ : ByteArray) = str [99]) := by show _ = _; kernel_rfl
  have hI : ∀ x : Int, 0 ≤ x → x ≤ 9 → I64 x := fun x h1 h2 => by unfold I64; omega
  have hB : ∀ x : Nat, x ≤ 99 → Byt [x] := fun x hx y hy => by simp at hy; omega
  go_enter Try.func10, Try.ntmps10
  go_wp2_with fail
  refine HN.out.mono ?_
  rintro e w1 ⟨rfl, hb1, p, Q, ht, hp, hQ⟩
  have HB1 := hid hb1
  have HP := hid hp
  have HT := hid ht
  clear hb1 hp ht hQ
  go_wp2_with fail
  refine (tput_lit HT.out ⟨#[97]⟩ [97] HS97.out (hB 97 (by omega)) 5 (hI 5 (by omega) (by omega))).mono ?_
  rintro e w2 ⟨⟨u2, rfl⟩, ht, hc2⟩
  have HT2 := hid ht
  have HC2 := hid hc2
  clear ht hc2
  go_wp2_with fail
  refine (tput_lit HT2.out ⟨#[98]⟩ [98] HS98.out (hB 98 (by omega)) 3 (hI 3 (by omega) (by omega))).mono ?_
  rintro e w3 ⟨⟨u3, rfl⟩, ht, hc3⟩
  have HT3 := hid ht
  have HC3 := hid hc3
  clear ht hc3
  go_wp2_with fail
  refine (tput_lit HT3.out ⟨#[99]⟩ [99] HS99.out (hB 99 (by omega)) 5 (hI 5 (by omega) (by omega))).mono ?_
  rintro e w4 ⟨⟨u4, rfl⟩, ht, hc4⟩
  rw [l3_eq] at ht
  have HT4 := hid ht
  have HBW : Hid (Below w.heap.size w w4) := HB1.out.trans (((HC2.out.trans HC3.out).trans hc4).below (fun b hb => by
    obtain ⟨i, hi, rfl⟩ := mem_five.1 hb
    exact Nat.le_of_lt (HP.out i hi)) HB1.out.size)
  clear ht hc4
  have HF1 : Hid (Calls Try.prog 15 #[.pointer (some ⟨w.heap.size, 0, none⟩), .int .i64 0, .int .i64 4, .int .i64 9, .int .i64 9] w4 (FindEnd w4 [[97], [99]])) := by
    have h := tfind HT4.out 0 (by omega) 4 9 9 (hI 4 (by omega) (by omega)) (hI 9 (by omega) (by omega)) (by omega) (by omega)
    rw [l3_a] at h
    exact h
  go_wp2_with fail
  refine HF1.out.mono ?_
  rintro e w5 ⟨va, rfl, ha, hb5⟩
  have HA := hid ha
  have HB5 := hid hb5
  clear ha hb5
  have HF2 : Hid (Calls Try.prog 15 #[.pointer (some ⟨w.heap.size, 0, none⟩), .int .i64 0, .int .i64 0, .int .i64 9, .int .i64 2] w5 (FindEnd w5 [[98], [97]])) := by
    have h := tfind (HT4.out.below HB5.out) 0 (by omega) 0 9 2 (hI 0 (by omega) (by omega)) (hI 9 (by omega) (by omega)) (by omega) (by omega)
    rw [l3_b] at h
    exact h
  go_wp2_with fail
  refine HF2.out.mono ?_
  rintro e w6 ⟨vb, rfl, hb, hb6⟩
  have HA2 : Hid (Elems 1 cT w6 va [[97], [99]]) := HA.out.rows.below hb6
  have HV := hid hb.rows
  have HB6 := hid hb6
  clear hb hb6
  go_wp2_with fail
  have hE1 := rows_lit2 w6 ⟨#[97]⟩ ⟨#[99]⟩ [97] [99] HS97.out HS99.out 9
  have hal : Below w6.heap.size w6 (w6.alloc (.cells #[.string ⟨#[97]⟩, .string ⟨#[99]⟩] 9)) := (Below.refl _ _).alloc (Nat.le_refl _) _
  refine (texts_same _ va _ _ (HA2.out.below hal) hE1 (by simp; exact ⟨hB 97 (by omega), hB 99 (by omega)⟩)).mono ?_
  rintro e w7 ⟨rfl, hb7⟩
  have HB7 := hid (below_step hal hb7)
  clear hb7 hE1 hal
  go_wp2_with fail
  have hE1 := rows_lit2 w7 ⟨#[98]⟩ ⟨#[97]⟩ [98] [97] HS98.out HS97.out 9
  have hal : Below w7.heap.size w7 (w7.alloc (.cells #[.string ⟨#[98]⟩, .string ⟨#[97]⟩] 9)) := (Below.refl _ _).alloc (Nat.le_refl _) _
  refine (texts_same _ vb _ _ ((HV.out.below HB7.out).below hal) hE1 (by simp; exact ⟨hB 98 (by omega), hB 97 (by omega)⟩)).mono ?_
  rintro e w8 ⟨rfl, hb8⟩
  have HB8 := hid (below_step hal hb8)
  clear hb8 hE1 hal
  go_wp2
  go_ret
  exact ⟨rfl, below_step (below_step (below_step (below_step HBW.out HB5.out) HB6.out) HB7.out) HB8.out⟩
end Go.Proofs.Ytlnagdodnkhbmaa
