/- The reference's table: rows in a list: At, Has, Get. -/
import Derived.Test.YtlnagdodnkhbmaaT6
namespace Go.Proofs.Ytlnagdodnkhbmaa
open Go.RowKit
set_option maxRecDepth 100000

def cQ (q : KR) : List Value := [.string (str q.1), .int .i64 q.2.a, .int .i64 q.2.b, .int .i64 q.2.c, .int .i64 q.2.d]
theorem cQ_len (q : KR) : (cQ q).length = 5 := rfl
theorem cQ_one (q : KR) : ∀ y ∈ cQ q, y.oneCell' = true := by
  intro y hy
  simp [cQ] at hy
  rcases hy with rfl | rfl | rfl | rfl | rfl <;> rfl
/-- The reference's table: where it lies, what it has. -/
def RTab (w : World) (F : List Nat) (p most : Nat) (l : List KR) : Prop :=
  ∃ v, w.heap[p]? = some (.cells #[v, .int .i64 (most : Int)] 68 (0, 0)) ∧ Elems 5 cQ w v l ∧ F = p :: ownFoot v ∧ (∀ b ∈ ownFoot v, b < w.heap.size) ∧ p ∉ ownFoot v
section
variable {w w' : World} {F : List Nat} {p most : Nat} {l : List KR}
theorem RTab.keep (h : RTab w F p most l) (hs : w.heap.size ≤ w'.heap.size) (hk : ∀ b ∈ F, w'.heap[b]? = w.heap[b]?) : RTab w' F p most l := by
  obtain ⟨v, h1, h2, rfl, h4, h5⟩ := h
  exact ⟨v, (hk p List.mem_cons_self).trans h1, h2.keep fun b hb => hk b (List.mem_cons_of_mem _ hb), rfl, fun b hb => Nat.lt_of_lt_of_le (h4 b hb) hs, h5⟩
theorem RTab.mem (h : RTab w F p most l) : p ∈ F := by obtain ⟨_, _, _, rfl, _⟩ := h; exact List.mem_cons_self
theorem RTab.plt (h : RTab w F p most l) : p < w.heap.size := by obtain ⟨_, h, _⟩ := h; exact (Array.getElem?_eq_some_iff.1 h).1
theorem RTab.lt (h : RTab w F p most l) : ∀ b ∈ F, b < w.heap.size := by
  obtain ⟨v, h1, _, rfl, h4, _⟩ := h
  intro b hb
  rcases List.mem_cons.1 hb with rfl | hb
  · exact (Array.getElem?_eq_some_iff.1 h1).1
  · exact h4 b hb
theorem RTab.below (h : RTab w F p most l) (hb : Below w.heap.size w w') : RTab w' F p most l := h.keep hb.size fun b hB => hb.block b (h.lt b hB)
theorem RTab.chg {G G' : List Nat} (h : RTab w F p most l) (hc : Chg G w w' G') (hG : ∀ b ∈ G, b ∉ F) : RTab w' F p most l := h.keep hc.size (hc.out h.lt hG)
end
/-- Where a row of the list lies. -/
def QAt (w : World) (a : Addr) (q : KR) : Prop :=
  w.cell? a = some (.string (str q.1)) ∧ w.cell? { block := a.block, off := a.off + 1, spot := none } = some (.int .i64 q.2.a) ∧ w.cell? { block := a.block, off := a.off + 2, spot := none } = some (.int .i64 q.2.b) ∧
    w.cell? { block := a.block, off := a.off + 3, spot := none } = some (.int .i64 q.2.c) ∧ w.cell? { block := a.block, off := a.off + 4, spot := none } = some (.int .i64 q.2.d)
theorem Elems.qat {w : World} {A : Option Addr} {n cap i : Nat} {l : List KR} {q : KR} (h : Elems 5 cQ w (.slice A n cap) l) (hi : l[i]? = some q) : ∃ ad, A = some ad ∧ QAt w (ad.add (i * 5)) q := by
  obtain ⟨ad, hA, h0⟩ := h.cell cQ_len hi (j := 0) rfl
  obtain ⟨ad1, hA1, h1⟩ := h.cell cQ_len hi (j := 1) rfl
  obtain ⟨ad2, hA2, h2⟩ := h.cell cQ_len hi (j := 2) rfl
  obtain ⟨ad3, hA3, h3⟩ := h.cell cQ_len hi (j := 3) rfl
  obtain ⟨ad4, hA4, h4⟩ := h.cell cQ_len hi (j := 4) rfl
  subst hA
  injection hA1 with hA1; injection hA2 with hA2; injection hA3 with hA3; injection hA4 with hA4
  subst hA1; subst hA2; subst hA3; subst hA4
  rw [add_off ad _ 0] at h1
  rw [add_off ad _ 1] at h2
  rw [add_off ad _ 2] at h3
  rw [add_off ad _ 3] at h4
  exact ⟨ad, rfl, h0, h1, h2, h3, h4⟩
theorem QAt.below {w w' : World} {a : Addr} {q : KR} (h : QAt w a q) (hb : Below w.heap.size w w') : QAt w' a q :=
  ⟨below_keep hb _ _ h.1, below_keep hb _ _ h.2.1, below_keep hb _ _ h.2.2.1, below_keep hb _ _ h.2.2.2.1, below_keep hb _ _ h.2.2.2.2⟩
theorem QAt.keep {w w' : World} {a : Addr} {q : KR} (h : QAt w a q) (hk : w'.heap[a.block]? = w.heap[a.block]?) : QAt w' a q := by
  obtain ⟨h0, h1, h2, h3, h4⟩ := h
  refine ⟨?_, ?_, ?_, ?_, ?_⟩
  · exact (World.cell?_of_block hk).trans h0
  · exact (World.cell?_of_block (by exact hk)).trans h1
  · exact (World.cell?_of_block (by exact hk)).trans h2
  · exact (World.cell?_of_block (by exact hk)).trans h3
  · exact (World.cell?_of_block (by exact hk)).trans h4
def KByt (l : List KR) : Prop := ∀ q ∈ l, Byt q.1
theorem RowsOk.kbyt {l : List KR} (h : RowsOk l) : KByt l := h.byt

theorem keyB_len (xs : List Nat) : keyB xs = decide (1 ≤ (xs.length : Int) ∧ (xs.length : Int) ≤ 16) := by
  unfold keyB; rw [decide_eq_decide]; omega
theorem rright (w : World) (k : List Nat) : Calls Try.prog 47 #[.string (str k)] w fun e w' => e = .returned (.bool (keyB k)) ∧ w = w' := by
  have hs := str_size k
  have hkl := keyB_len k
  by_cases h1 : (1 : Int) ≤ k.length
  · by_cases h2 : (k.length : Int) ≤ 16
    · rw [hkl, decide_eq_true ⟨h1, h2⟩]
      clear hkl
      go_enter Try.func47, Try.ntmps47
      go_wp2
      go_ret
      exact ⟨rfl, rfl⟩
    · rw [hkl, decide_eq_false (fun h => h2 h.2)]
      clear hkl
      go_enter Try.func47, Try.ntmps47
      go_wp2
      go_ret
      exact ⟨rfl, rfl⟩
  · rw [hkl, decide_eq_false (fun h => h1 h.1)]
    clear hkl
    go_enter Try.func47, Try.ntmps47
    go_wp2
    go_ret
    exact ⟨rfl, rfl⟩
theorem at_of (l : List KR) (k : List Nat) (n : Nat) (hn : n ≤ l.length) (h1 : ∀ (j : Nat) (q : KR), j < n → l[j]? = some q → q.1 < k) (h2 : ∀ q : KR, l[n]? = some q → ¬ q.1 < k) : atN (lines l) k = n := by
  refine atN_of (lines l) k n (by rw [lines_len]; exact hn) (fun j x hj hx => ?_) (fun x hx => ?_)
  · rw [lines_at] at hx
    cases hq : l[j]? with
    | none => rw [hq] at hx; cases hx
    | some q => rw [hq] at hx; cases hx; exact h1 j q hj hq
  · rw [lines_at] at hx
    cases hq : l[n]? with
    | none => rw [hq] at hx; cases hx
    | some q => rw [hq] at hx; cases hx; exact h2 q hq
section
variable {w : World} {F : List Nat} {p most : Nat} {l : List KR}
theorem rat (hR : RTab w F p most l) (hl : KByt l) (k : List Nat) (hk : Byt k) :
    Calls Try.prog 49 #[.pointer (some ⟨p, 0, none⟩), .string (str k)] w fun e w' => e = .returned (.int .i64 (atN (lines l) k : Nat)) ∧ w = w' := by
  obtain ⟨v, h1, h2, _, _, _⟩ := hR
  obtain ⟨A, cap, rfl⟩ := h2.slice
  have H2 := hid h2
  have hp := cell_of_row w p 0 _ _ _ h1
  have hcap := h2.cap
  have hm : l.length ≤ 9223372036854775807 := by have := hcap.2.2; unfold maxLen at this; omega
  have HL := hid hl
  obtain ⟨len, HLEN⟩ : ∃ len, Hid (len = l.length) := ⟨_, rfl⟩
  rw [← HLEN.out] at hp hm
  simp at hp
  clear h1 h2 hcap hl
  go_enter Try.func49, Try.ntmps49
  go_wp2
  go_loop [5] (fun i => ∃ n : Nat, n ≤ len ∧ i = .int .i64 n ∧ Hid (∀ (j : Nat) (q : KR), j < n → l[j]? = some q → q.1 < k)) (fun i => len - (intOf i).toNat)
  case atStart => exact ⟨0, by omega, rfl, fun j q hj => by omega⟩
  case round =>
    obtain ⟨n, hn, rfl, HJ⟩ := hrel
    by_cases hlt : n < len
    · have hlti : (n : Int) < len := by omega
      obtain ⟨q, hq⟩ : ∃ q, l[n]? = some q := ⟨l[n]'(by have := HLEN.out; omega), List.getElem?_eq_getElem _⟩
      obtain ⟨ad, rfl, hc, _⟩ := H2.out.qat hq
      have hless := less_str (HL.out q (List.mem_of_getElem? hq)) hk
      have HQ := hid hq
      clear hq
      by_cases hqk : q.1 < k
      · simp only [hqk, decide_true] at hless
        have HJ' : Hid (∀ (j : Nat) (x : KR), j < n + 1 → l[j]? = some x → x.1 < k) := fun j x hj hx => by
          rcases Nat.lt_or_ge j n with h | h
          · exact HJ.out j x h hx
          · obtain rfl : j = n := by omega
            have := HQ.out
            rw [hx] at this
            injection this with this
            subst this
            exact hqk
        clear hqk
        go_wp2
        go_round
        case rel => exact ⟨n + 1, by omega, by go_num, HJ'⟩
        case measure => simp [intOf]; omega
      · simp only [hqk, decide_false] at hless
        have HA : Hid (atN (lines l) k = n) := at_of l k n (by have := HLEN.out; omega) HJ.out (fun x hx => by
          have := HQ.out
          rw [hx] at this
          injection this with this
          subst this
          exact hqk)
        clear hqk
        go_wp2
        go_ret
        exact ⟨by rw [HA.out]; rfl, rfl⟩
    · obtain rfl : n = len := by omega
      have HA : Hid (atN (lines l) k = n) := at_of l k n (by have := HLEN.out; omega) HJ.out (fun x hx => by
        have := (List.getElem?_eq_some_iff.1 hx).1
        have := HLEN.out
        omega)
      go_wp2
      go_ret
      exact ⟨by rw [HA.out]; rfl, rfl⟩
theorem rhas (hR : RTab w F p most l) (hl : KByt l) (k : List Nat) (hk : Byt k) :
    Calls Try.prog 48 #[.pointer (some ⟨p, 0, none⟩), .string (str k)] w fun e w' => e = .returned (.bool (getK l k).isSome) ∧ w = w' := by
  have HR := hid hR
  obtain ⟨v, h1, h2, _, _, _⟩ := hR
  obtain ⟨A, cap, rfl⟩ := h2.slice
  have hp := cell_of_row w p 0 _ _ _ h1
  have hcap := h2.cap
  have hm : l.length ≤ 9223372036854775807 := by have := hcap.2.2; unfold maxLen at this; omega
  have hle := atN_le (lines l) k
  rw [lines_len] at hle
  obtain ⟨len, HLEN⟩ : ∃ len, Hid (len = l.length) := ⟨_, rfl⟩
  obtain ⟨n, HNE⟩ : ∃ n, Hid (n = atN (lines l) k) := ⟨_, rfl⟩
  have HL := hid hl
  rw [← HLEN.out] at hp hm hle
  rw [← HNE.out] at hle
  simp at hp
  by_cases hlt : n < len
  · have hlti : (n : Int) < len := by omega
    obtain ⟨q, hq⟩ : ∃ q, l[n]? = some q := ⟨l[n]'(by have := HLEN.out; omega), List.getElem?_eq_getElem _⟩
    obtain ⟨ad, rfl, hc, _⟩ := h2.qat hq
    have heq := beq_str (HL.out q (List.mem_of_getElem? hq)) hk
    have HG : Hid ((getK l k).isSome = decide (q.1 = k)) := by
      show _ = _
      unfold getK
      rw [← HNE.out, hq]
      by_cases e : q.1 = k <;> simp [e]
    clear h1 h2 hcap hl hq
    by_cases hqk : q.1 = k
    · rw [decide_eq_true hqk] at heq HG
      rw [HG.out]
      clear hqk
      go_enter Try.func48, Try.ntmps48
      go_wp2_with fail
      refine (rat HR.out HL.out k hk).mono ?_
      rw [← HNE.out]
      rintro e w' ⟨rfl, rfl⟩
      go_wp2
      go_ret
      exact ⟨rfl, rfl⟩
    · rw [decide_eq_false hqk] at heq HG
      rw [HG.out]
      clear hqk
      go_enter Try.func48, Try.ntmps48
      go_wp2_with fail
      refine (rat HR.out HL.out k hk).mono ?_
      rw [← HNE.out]
      rintro e w' ⟨rfl, rfl⟩
      go_wp2
      go_ret
      exact ⟨rfl, rfl⟩
  · have hlti : ¬ (n : Int) < len := by omega
    have HG : Hid ((getK l k).isSome = false) := by
      show _ = _
      unfold getK
      rw [← HNE.out, List.getElem?_eq_none (by have := HLEN.out; omega)]
      rfl
    rw [HG.out]
    clear h1 h2 hcap hl
    go_enter Try.func48, Try.ntmps48
    go_wp2_with fail
    refine (rat HR.out HL.out k hk).mono ?_
    rw [← HNE.out]
    rintro e w' ⟨rfl, rfl⟩
    go_wp2
    go_ret
    exact ⟨rfl, rfl⟩
theorem rget_bad (w : World) (p : Nat) (k : List Nat) (hk : keyB k = false) : Calls Try.prog 31 #[.pointer (some ⟨p, 0, none⟩), .string (str k)] w (RowEnd w zero4 13) := by
  have hsame := put4_same (lies_zero w)
  dsimp only [put4, zero4] at hsame
  obtain ⟨⟨z0, z1, z2, z3⟩, f0, f1, f2, f3⟩ := (lies_zero w).cells
  dsimp only [zero4] at z0 z1 z2 z3
  go_enter Try.func31, Try.ntmps31
  go_wp2_with fail
  refine (rright _ k).mono ?_
  rw [hk]
  rintro e w' ⟨rfl, rfl⟩
  go_wp2
  exact bodyPost_ret (v := .tuple #[rowv zero4, .int .i64 13]) (by simp [results, Try.results31, go_sem, z0, z1, z2, z3, rowv, rowc, zero4]) rfl ⟨rfl, below_zero w⟩
theorem rget_none (hR : RTab w F p most l) (hl : KByt l) (k : List Nat) (hb : Byt k) (hk : keyB k = true) (hg : getK l k = none) : Calls Try.prog 31 #[.pointer (some ⟨p, 0, none⟩), .string (str k)] w (RowEnd w zero4 14) := by
  have hsame := put4_same (lies_zero w)
  dsimp only [put4, zero4] at hsame
  obtain ⟨⟨z0, z1, z2, z3⟩, f0, f1, f2, f3⟩ := (lies_zero w).cells
  dsimp only [zero4] at z0 z1 z2 z3
  go_enter Try.func31, Try.ntmps31
  go_wp2_with fail
  refine (rright _ k).mono ?_
  rw [hk]
  rintro e w' ⟨rfl, rfl⟩
  go_wp2_with fail
  refine (rhas (hR.below (below_zero w)) hl k hb).mono ?_
  rw [hg]
  rintro e w' ⟨rfl, rfl⟩
  go_wp2
  exact bodyPost_ret (v := .tuple #[rowv zero4, .int .i64 14]) (by simp [results, Try.results31, go_sem, z0, z1, z2, z3, rowv, rowc, zero4]) rfl ⟨rfl, below_zero w⟩
set_option maxHeartbeats 1000000 in
theorem rget_some (hR : RTab w F p most l) (hl : KByt l) (k : List Nat) (hb : Byt k) (hk : keyB k = true) {r : Ro} (hg : getK l k = some r) : Calls Try.prog 31 #[.pointer (some ⟨p, 0, none⟩), .string (str k)] w (RowEnd w r 0) := by
  have hat := getK_some hg
  have HR := hid (hR.below (below_zero w))
  have HG := hid hg
  obtain ⟨v, h1, h2, _, _, _⟩ := hR
  obtain ⟨A, cap, rfl⟩ := h2.slice
  have hpw := cell_of_row _ p 0 _ _ _ h1
  simp at hpw
  have hlt : atN (lines l) k < l.length := (List.getElem?_eq_some_iff.1 hat).1
  obtain ⟨n, HNE⟩ : ∃ n, Hid (n = atN (lines l) k) := ⟨_, rfl⟩
  obtain ⟨len, HLEN⟩ : ∃ len, Hid (len = l.length) := ⟨_, rfl⟩
  have hm : l.length ≤ 9223372036854775807 := by have := h2.cap; unfold maxLen at this; omega
  rw [← HNE.out] at hat hlt
  rw [← HLEN.out] at hpw hlt hm
  have hlti : (n : Int) < len := by omega
  obtain ⟨ad, rfl, hcw⟩ := h2.qat hat
  have hbr : Below w.heap.size w (w.alloc (.cells (rowc r) 33)) := (Below.refl _ _).alloc (Nat.le_refl _) _
  have hp := below_keep (below_zero w) _ _ hpw
  obtain ⟨_, c0, c1, c2, c3⟩ := hcw.below (below_zero w)
  have HS2 := hid (And.intro (below_keep hbr _ _ hpw) (hcw.below hbr).2)
  dsimp only [rowc] at c0 c1 c2 c3 HS2
  obtain ⟨⟨z0, z1, z2, z3⟩, f0, f1, f2, f3⟩ := (lies_zero w).cells
  dsimp only [zero4] at z0 z1 z2 z3
  have HPF := hid (Lies.new w r).four
  clear h1 h2 hat hpw hcw hbr
  go_enter Try.func31, Try.ntmps31
  go_wp2_with fail
  refine (rright _ k).mono ?_
  rw [hk]
  rintro e w' ⟨rfl, rfl⟩
  go_wp2_with fail
  refine (rhas HR.out hl k hb).mono ?_
  rw [HG.out]
  rintro e w' ⟨rfl, rfl⟩
  have HRD := hid (HR.out.below (below_drew' _))
  go_wp2
  go_region_held3 (fun W => W.cell? ⟨p, 0, none⟩ = some (.slice (some ad) len cap) ∧ W.cell? { block := (ad.add (n * 5)).block, off := (ad.add (n * 5)).off + 1, spot := none } = some (.int .i64 r.a) ∧ W.cell? { block := (ad.add (n * 5)).block, off := (ad.add (n * 5)).off + 2, spot := none } = some (.int .i64 r.b) ∧ W.cell? { block := (ad.add (n * 5)).block, off := (ad.add (n * 5)).off + 3, spot := none } = some (.int .i64 r.c) ∧ W.cell? { block := (ad.add (n * 5)).block, off := (ad.add (n * 5)).off + 4, spot := none } = some (.int .i64 r.d))
    (first | exact ⟨hp, c0, c1, c2, c3⟩ | exact HS2.out)
    (first | (go_at_call 49; ((with_reducible refine (rat HRD.out hl k hb).mono ?_); rw [← HNE.out]; rintro e w2 ⟨rfl, rfl⟩)))
  go_wp2
  obtain ⟨p0, p1, p2, p3⟩ := HPF.out
  dsimp only [rowc] at p0 p1 p2 p3
  exact bodyPost_ret (v := .tuple #[rowv r, .int .i64 0]) (by simp [results, Try.results31, go_sem, p0, p1, p2, p3, rowv, rowc]) rfl ⟨rfl, ((Below.refl _ _).alloc (Nat.le_refl _) _).drew⟩
end
end Go.Proofs.Ytlnagdodnkhbmaa
