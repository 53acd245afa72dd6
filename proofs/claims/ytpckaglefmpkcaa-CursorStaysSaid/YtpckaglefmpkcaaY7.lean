/- What pairs hands over. -/
import Derived.Test.YtpckaglefmpkcaaY0
import Derived.Test.YtpckaglefmpkcaaMA
import Derived.Scope
import Derived.WalkMore
namespace Go.Proofs.Ytpckaglefmpkcaa
open Go.RowKit Go.Shelf
set_option maxRecDepth 100000
attribute [local go_sem] Oper.semAt_some

/-- Where a range ends. -/
def endN (l : List Pr) (hi : List Nat) : Nat := if hi = [] then l.length else atN l hi
theorem endN_le (l : List Pr) (hi : List Nat) : endN l hi ≤ l.length := by
  unfold endN
  split
  · exact Nat.le_refl _
  · exact atN_le _ _
/-- The first pairs of a range from a place on. -/
def seg (l : List Pr) (hi : List Nat) (j most : Nat) : List Pr := ((l.take (endN l hi)).drop j).take most
theorem seg_at {l : List Pr} {hi : List Nat} {j most k : Nat} (hk : k < most) : (seg l hi j most)[k]? = if j + k < endN l hi then l[j + k]? else none := by
  unfold seg
  rw [List.getElem?_take, if_pos hk, List.getElem?_drop, List.getElem?_take]
theorem seg_len (l : List Pr) (hi : List Nat) (j most : Nat) : (seg l hi j most).length = min most (endN l hi - j) := by
  unfold seg
  have := endN_le l hi
  simp
  omega
theorem nxt_at {l : List Pr} (hr : Rising l) (hi at_ : List Nat) : nxt l hi at_ = if atN l at_ < endN l hi then l[atN l at_]? else none := by
  unfold nxt endN
  cases hx : l[atN l at_]? with
  | none =>
    simp
  | some q =>
    have hlt := (List.getElem?_eq_some_iff.1 hx).1
    simp only [Option.bind_some]
    by_cases hn : hi = []
    · rw [if_pos (.inl hn), if_pos hn, if_pos hlt]
    · rw [if_neg hn]
      have := atN_iff (k := hi) hr hx
      by_cases hh : q.1 < hi
      · rw [if_pos (.inr hh), if_pos (this.1 hh)]
      · rw [if_neg (fun h => h.elim hn hh), if_neg (fun h => hh (this.2 h))]
/-- What Next tells, by the place at which the cursor stands. -/
theorem nxt_seg {l : List Pr} (hr : Rising l) {hi at_ : List Nat} {j most k : Nat} (hk : k < most) (hat : atN l at_ = j + k) : nxt l hi at_ = (seg l hi j most)[k]? := by
  rw [nxt_at hr, seg_at hk, hat]
theorem atN_behind {l : List Pr} (hr : Rising l) {hi at_ : List Nat} {q : Pr} (hn : nxt l hi at_ = some q) : atN l (q.1 ++ [0]) = atN l at_ + 1 := by
  rw [nxt_at hr] at hn
  split at hn
  · exact atN_next hr hn
  · cases hn
theorem grown_chg {c : Nat} {w w' : World} (h : Chg [c] w w' [c]) : w.grownBy w' (some c) :=
  ⟨h.os, h.tape, h.output, h.size, fun k hk hn => h.block k hk fun hm => hn (by simp at hm; rw [hm])⟩
theorem hmf (fn : Fn) (first cap : Array Value) (w : World) : (Instr.makeFunc fn first cap).run Try.prog w = .ok (.func fn first cap) w := rfl

/-- The blocks of a range over a cursor's Next: the two that the closure names, the cursor, the tree. -/
def PG (b2 b3 c a : Nat) (P : Bl) : Bl := fun b => b = b3 ∨ b = b2 ∨ b = c ∨ b = a ∨ P b
set_option maxHeartbeats 4000000 in
theorem pairs_gives (w : World) (b2 b3 c a o most : Nat) (lo hi at_ : List Nat) (l : List Pr) (P : Bl) (hm : most ≤ 9223372036854775807)
    (h2 : w.cell? ⟨b2, 0, none⟩ = some (.func (.func 38) #[.pointer (some ⟨c, 0, none⟩)] #[])) (h3 : w.cell? ⟨b3, 0, none⟩ = some (.int .i64 (most : Int)))
    (hc : CurAt w c a lo hi at_) (ht : TreeAt w a o l P) (hca : c ≠ a) (hcP : ¬ P c) (hc2 : c ≠ b2) (hc3 : c ≠ b3) (hl : l.length ≤ 5000) (hk : Keyed l) (bhi : Byt hi) (bat : Byt at_) :
    GivesM (fun b => b = c) Try.prog 64 #[.pointer (some ⟨b3, 0, none⟩), .pointer (some ⟨b2, 0, none⟩)] encP (seg l hi (atN l at_) most) (PG b2 b3 c a P) w := by
  intro n lq J Jx K W hW hGK hKW hJ hJx hY h0
  have HGK := hid hGK
  have HKW := hid hKW
  have HJ := hid hJ
  have HJx := hid hJx
  have HY := hid hY
  have H0 := hid h0
  have HKY := hid hk
  have BHI := hid bhi
  have HRISE := hid ht.rise
  have HBYT := hid ht.byt
  -- what a world has that keeps the iterator's blocks but the cursor
  have HST : Hid (∀ W', (∀ b, PG b2 b3 c a P b → b ≠ c → W'.heap[b]? = w.heap[b]?) → w.heap.size ≤ W'.heap.size → W'.cell? ⟨b2, 0, none⟩ = some (.func (.func 38) #[.pointer (some ⟨c, 0, none⟩)] #[]) ∧ W'.cell? ⟨b3, 0, none⟩ = some (.int .i64 (most : Int)) ∧ TreeAt W' a o l P) := fun W' hb hs =>
    ⟨(World.cell?_of_block (hb b2 (.inr (.inl rfl)) hc2.symm)).trans h2, (World.cell?_of_block (hb b3 (.inl rfl) hc3.symm)).trans h3, ht.keep (hb a (.inr (.inr (.inr (.inl rfl)))) hca.symm) (fun b hP => hb b (.inr (.inr (.inr (.inr hP)))) fun e => hcP (e ▸ hP)) hs⟩
  have HCW : Hid (CurAt W c a lo hi at_) := hc.keep (hW.2 c (.inr (.inr (.inl rfl))))
  have HSW : Hid ((∀ b, PG b2 b3 c a P b → b ≠ c → W.heap[b]? = w.heap[b]?) ∧ w.heap.size ≤ W.heap.size) := ⟨fun b hb _ => hW.2 b hb, hW.1⟩
  obtain ⟨L, HL⟩ : ∃ L, Hid (L = seg l hi (atN l at_) most) := ⟨_, rfl⟩
  have HLN : Hid (L.length ≤ most) := by show _ ≤ _; rw [HL.out, seg_len]; omega
  have HSEG : Hid (∀ k, k < most → ∀ at2, atN l at2 = atN l at_ + k → nxt l hi at2 = L[k]?) := fun k hk at2 h => by rw [HL.out]; exact nxt_seg HRISE.out hk h
  have HBAT := hid bat
  rw [← HL.out] at HY ⊢
  obtain ⟨j0, HJ0⟩ : ∃ j, Hid (j = atN l at_) := ⟨_, rfl⟩
  rw [← HJ0.out] at HSEG
  clear hW hGK hKW hJ hJx hY h0 h2 h3 hc ht hk bhi bat hc2 hc3 hca hcP
  have HEND : Hid (∀ (W' : World) (fnn : Func) (tmps : Array Value), fnn = Try.f64 → (J L K W' ∨ ∃ pre, pre <+: L ∧ Jx pre K W') →
      LeavesInM Fence.wide n Try.prog fnn tmps (fun e W' => (∃ v, e = .returned v) ∧ (J L K W' ∨ ∃ pre, pre <+: L ∧ Jx pre K W')) [] .returning W') := by
    rintro W' fnn tmps rfl h
    exact ⟨_, results_none rfl _ _ _, ⟨_, rfl⟩, h⟩
  have hmf := hmf
  obtain ⟨c2, c3, _⟩ := HST.out W HSW.out.1 HSW.out.2
  refine callsIn_of_wp_marks Try.func64 rfl trivial ?_ rfl
  simp only [Try.ntmps64, List.size_toArray, List.length_cons, List.length_nil, Nat.reduceAdd, Nat.reduceSub, Array.replicate_succ, Array.replicate_zero, List.push_toArray, List.append_toArray, List.nil_append, List.cons_append]
  refine wpIn_wide.2 (wp_scope_straight ((wpIn_wide (n := n)).1 ?_))
  refine wpIn_seq ?_
  refine wpIn_label ?_
  dsimp only [Exit.then]
  gi_wp2
  clear c2 c3
  gi_loopw [8] (fun i Wr => ∃ k : Nat, k ≤ most ∧ i = .int .i64 (k : Int) ∧ k ≤ L.length ∧ ∃ at2, CurAt Wr c a lo hi at2 ∧ Hid (atN l at2 = j0 + k) ∧ Hid (Byt at2) ∧ Hid (J (L.take k) K Wr) ∧ (∀ b, PG b2 b3 c a P b → b ≠ c → Wr.heap[b]? = w.heap[b]?) ∧ W.heap.size ≤ Wr.heap.size) (fun i _ => most - (intOf i).toNat)
  case atStart => exact ⟨0, by omega, rfl, by omega, at_, HCW.out, HJ0.out.symm, HBAT.out, H0.out, HSW.out.1, Nat.le_refl _⟩
  case round =>
    obtain ⟨k, hkm, rfl, hkL, at2, hcur, HAT, HB2, HJk, hst, hsz⟩ := hrel
    have HC := hid hcur
    have HS := hid hst
    have HSZ := hid hsz
    clear hcur hst hsz
    obtain ⟨c2, c3, ht⟩ := HST.out wr HS.out (Nat.le_trans HSW.out.2 HSZ.out)
    have HT := hid ht
    clear ht c3
    by_cases hlt : k < most
    · have hlti : (k : Int) < most := by omega
      have hN := HSEG.out k hlt at2 HAT.out
      cases hx : L[k]? with
      | none =>
        rw [hx] at hN
        have hLk : L.length = k := by have := List.getElem?_eq_none_iff.1 hx; omega
        have HLK := hid hLk
        clear hLk hx
        gi_wp2
        refine ⟨trivial, fun h => (by cases h), ?_⟩
        refine (callsIn_wide.2 (next_none HC.out HT.out hl BHI.out HB2.out hN)).mono ?_
        rintro e w2 ⟨rfl, hb2⟩
        have HJ2 : Hid (J L K w2) := by
          have h1 := HJ.out _ _ _ _ none HJk.out (show wr.grownBy w2 none from ⟨hb2.os, hb2.tape, hb2.output, hb2.size, fun k hk _ => hb2.block k hk⟩) (fun _ e => by cases e) K fun b h => .inl h
          rwa [← HLK.out, List.take_length] at h1
        clear hb2
        gi_wp2
        dsimp only [Exit.noGoto]
        exact HEND.out _ _ _ rfl (.inl HJ2.out)
      | some q =>
        rw [hx] at hN
        have HX := hid hx
        have hbq := hid (HBYT.out q (by
          have h1 := hN
          rw [nxt_at HRISE.out] at h1
          split at h1
          · exact List.mem_of_getElem? h1
          · cases h1))
        have HBH : Hid (atN l (q.1 ++ [0]) = j0 + (k + 1)) := by show _ = _; rw [atN_behind HRISE.out hN, HAT.out]; omega
        have hLk : k < L.length := (List.getElem?_eq_some_iff.1 hx).1
        have HTK : Hid (L.take (k + 1) = L.take k ++ [q]) := by show _ = _; rw [List.take_add_one, hx]; rfl
        clear hx
        gi_wp2
        refine ⟨trivial, fun h => (by cases h), ?_⟩
        refine (callsIn_wide.2 (next_some HC.out HT.out hl HKY.out BHI.out HB2.out hN)).mono ?_
        rintro e w2 ⟨rfl, hc2, hch2⟩
        have HC2 := hid hc2
        have HCH2 := hid hch2
        have HJ2 : Hid (J (L.take k) K w2) := HJ.out _ _ _ _ (some c) HJk.out (grown_chg hch2) (fun r e => by injection e with e; subst e; exact ⟨.inr rfl, HGK.out c (.inr (.inr (.inl rfl)))⟩) K fun b h => .inl h
        have HS2 : Hid (∀ b, PG b2 b3 c a P b → b ≠ c → w2.heap[b]? = w.heap[b]?) := fun b hb hne => (hch2.block b (Nat.lt_of_lt_of_le (HKW.out b (HGK.out b hb)) HSZ.out) (by simpa using hne)).trans (HS.out b hb hne)
        have HSZ2 : Hid (W.heap.size ≤ w2.heap.size) := Nat.le_trans HSZ.out hch2.size
        clear hc2 hch2 c2
        obtain ⟨fn, tmps, assign, body, hy, hR⟩ := HY.out (n - 1) _ q K w2 HJ2.out (fun b hb => Nat.lt_of_lt_of_le (HKW.out b hb) HSZ2.out) (by rw [← HTK.out]; exact List.take_prefix _ _)
        dsimp only [encP] at hy
        gi_wp2
        refine ⟨fun h => (by cases h), hR.mono ?_⟩
        rintro e W3 (⟨rfl, hJ3, hs3⟩ | ⟨rfl, hJ3, hs3⟩)
        · have HJ3 : Hid (J (L.take (k + 1)) K W3) := by show J _ _ _; rw [HTK.out]; exact hJ3
          have HS3 := hid hs3
          clear hJ3 hs3 hR hy
          gi_wp2
          refine ⟨⟨k + 1, by omega, by go_num, by omega, q.1 ++ [0], HC2.out.keep (HS3.out.2 c (HGK.out c (.inr (.inr (.inl rfl))))), HBH.out, hbq.out.1.app (by intro b hb; simp at hb; omega), HJ3.out, fun b hb hne => (HS3.out.2 b (HGK.out b hb)).trans (HS2.out b hb hne), Nat.le_trans HSZ2.out HS3.out.1⟩, ?_⟩
          simp [intOf]; omega
        · have HJ3 : Hid (Jx (L.take (k + 1)) K W3) := by show Jx _ _ _; rw [HTK.out]; exact hJ3
          clear hJ3 hs3 hR hy
          gi_wp2
          dsimp only [Exit.noGoto]
          exact HEND.out _ _ _ rfl (.inr ⟨_, List.take_prefix _ _, HJ3.out⟩)
    · obtain rfl : k = most := by omega
      have hLk : L.length = k := by have := HLN.out; omega
      have HLK := hid hLk
      clear hLk
      gi_wp2
      dsimp only [Exit.noGoto]
      refine HEND.out _ _ _ rfl (.inl ?_)
      have h1 := HJk.out
      rwa [← HLK.out, List.take_length] at h1
end Go.Proofs.Ytpckaglefmpkcaa
