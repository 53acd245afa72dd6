/- found: the keys of the entries that a cursor tells. -/
import Derived.Test.YtlnagdodnkhbmaaT12
namespace Go.Proofs.Ytlnagdodnkhbmaa
open Go.RowKit Go.Shelf
set_option maxRecDepth 100000
attribute [local go_sem] Oper.semAt_some

def encS (k : List Nat) : Array Value := #[.string (str k)]
/-- The pairs of a range from a place on. -/
def seq (I : List Pr) (hi : List Nat) (j : Nat) : List Pr := (I.take (endN I hi)).drop j
theorem seq_at (I : List Pr) (hi : List Nat) (j k : Nat) : (seq I hi j)[k]? = if j + k < endN I hi then I[j + k]? else none := by
  unfold seq
  rw [List.getElem?_drop, List.getElem?_take]
theorem seq_nxt {I : List Pr} (hr : Rising I) {hi at_ : List Nat} {j k : Nat} (hat : atN I at_ = j + k) : nxt I hi at_ = (seq I hi j)[k]? := by
  rw [nxt_at hr, seq_at, hat]
/-- The keys of entries. -/
def keysOf (S : List Pr) : List (List Nat) := S.map fun q => q.1.drop 8
theorem keysOf_at (S : List Pr) (k : Nat) : (keysOf S)[k]? = (S[k]?).map fun q => q.1.drop 8 := List.getElem?_map
theorem nums_str {xs : List Nat} (h : Byt xs) : nums (str xs) = xs := (str_inj (nums_byt _) h).1 (str_nums _)
def curOf (w : World) (c : Nat) : List Nat := match w.cell? ⟨c, 3, none⟩ with | some (.string x) => nums x | _ => []
theorem curOf_at {w : World} {c a : Nat} {lo hi at_ : List Nat} (h : CurAt w c a lo hi at_) (hb : Byt at_) : curOf w c = at_ := by
  unfold curOf; rw [h.c3]; exact nums_str hb
def oneIf (v : Value) : Nat := match v with | .bool true => 1 | _ => 0

/-- The blocks of a range over a cursor's Next. -/
def PF (b1 c a : Nat) (P : Bl) : Bl := fun b => b = b1 ∨ b = c ∨ b = a ∨ P b
/-- What stands ahead of a round, of which k were before. -/
def FRelK (I S : List Pr) (c a j0 : Nat) (lo hi : List Nat) (J : List (List Nat) → Bl → World → Prop) (K : Bl) (w W : World) (G : Bl) (k : Nat) (s b : Value) (Wr : World) : Prop :=
  k ≤ S.length ∧ J ((keysOf S).take k) K Wr ∧ (∀ b, G b → b ≠ c → Wr.heap[b]? = w.heap[b]?) ∧ W.heap.size ≤ Wr.heap.size ∧
    ((∃ q at2, S[k]? = some q ∧ s = .string (str q.1) ∧ b = .bool true ∧ CurAt Wr c a lo hi at2 ∧ atN I at2 = j0 + k + 1 ∧ Byt at2) ∨ (k = S.length ∧ b = .bool false ∧ ∃ at2, CurAt Wr c a lo hi at2 ∧ atN I at2 = j0 + k ∧ Byt at2))
set_option maxHeartbeats 4000000 in
theorem found_gives (w : World) (b1 c a o : Nat) (lo hi at_ : List Nat) (I : List Pr) (P : Bl)
    (h1 : w.cell? ⟨b1, 0, none⟩ = some (.func (.func 39) #[.pointer (some ⟨c, 0, none⟩)] #[]))
    (hc : CurAt w c a lo hi at_) (ht : TreeAt w a o I P) (hca : c ≠ a) (hcP : ¬ P c) (hc1 : c ≠ b1) (hl : I.length ≤ 5000) (hk : Keyed I) (hkk : ∀ q ∈ I, keyB (q.1.drop 8) = true) (bhi : Byt hi) (bat : Byt at_) :
    GivesM (fun b => b = c) Try.prog 57 #[.pointer (some ⟨b1, 0, none⟩)] encS (keysOf (seq I hi (atN I at_))) (PF b1 c a P) w := by
  intro n lq J Jx K W hW hGK hKW hJ hJx hY h0
  have HGK := hid hGK
  have HKW := hid hKW
  have HJ := hid hJ
  have HJx := hid hJx
  have HY := hid hY
  have HKY := hid hk
  have HKK := hid hkk
  have BHI := hid bhi
  have HRISE := hid ht.rise
  have HBYT := hid ht.byt
  have HST : Hid (∀ W', (∀ b, PF b1 c a P b → b ≠ c → W'.heap[b]? = w.heap[b]?) → w.heap.size ≤ W'.heap.size → W'.cell? ⟨b1, 0, none⟩ = some (.func (.func 39) #[.pointer (some ⟨c, 0, none⟩)] #[]) ∧ TreeAt W' a o I P) := fun W' hb hs =>
    ⟨(World.cell?_of_block (hb b1 (.inl rfl) hc1.symm)).trans h1, ht.keep (hb a (.inr (.inr (.inl rfl))) hca.symm) (fun b hP => hb b (.inr (.inr (.inr hP))) fun e => hcP (e ▸ hP)) hs⟩
  have HCW : Hid (CurAt W c a lo hi at_) := hc.keep (hW.2 c (.inr (.inl rfl)))
  have HSW : Hid ((∀ b, PF b1 c a P b → b ≠ c → W.heap[b]? = w.heap[b]?) ∧ w.heap.size ≤ W.heap.size) := ⟨fun b hb _ => hW.2 b hb, hW.1⟩
  obtain ⟨j0, HJ0⟩ : ∃ j, Hid (j = atN I at_) := ⟨_, rfl⟩
  obtain ⟨S, HS⟩ : ∃ S, Hid (S = seq I hi j0) := ⟨_, rfl⟩
  have HSEG : Hid (∀ k at2, atN I at2 = j0 + k → nxt I hi at2 = S[k]?) := fun k at2 h => by rw [HS.out]; exact seq_nxt HRISE.out h
  have HSI : Hid (∀ k q, S[k]? = some q → q ∈ I ∧ j0 + k < I.length) := fun k q h => by
    rw [HS.out, seq_at] at h
    split at h
    · exact ⟨List.mem_of_getElem? h, (List.getElem?_eq_some_iff.1 h).1⟩
    · cases h
  have HBAT := hid bat
  rw [← HJ0.out, ← HS.out] at HY ⊢
  have hmf := hmf
  clear hW hGK hKW hJ hJx hY h1 hc ht hk hkk bhi bat hc1 hca hcP
  obtain ⟨c1, ht⟩ := HST.out W HSW.out.1 HSW.out.2
  have HT := hid ht
  have HEND : Hid (∀ (W' : World) (fnn : Func) (tmps : Array Value), fnn = Try.f57 → (J (keysOf S) K W' ∨ ∃ pre, pre <+: keysOf S ∧ Jx pre K W') →
      LeavesInM Fence.wide n Try.prog fnn tmps (fun e W' => (∃ v, e = .returned v) ∧ (J (keysOf S) K W' ∨ ∃ pre, pre <+: keysOf S ∧ Jx pre K W')) [] .returning W') := by
    rintro W' fnn tmps rfl h
    exact ⟨_, results_none rfl _ _ _, ⟨_, rfl⟩, h⟩
  have H0 := hid h0
  -- what a call of next leaves, by the place
  have HNX : Hid (∀ (k : Nat) (W1 : World) (at2 : List Nat), CurAt W1 c a lo hi at2 → atN I at2 = j0 + k → Byt at2 → J ((keysOf S).take k) K W1 → (∀ b, PF b1 c a P b → b ≠ c → W1.heap[b]? = w.heap[b]?) → W.heap.size ≤ W1.heap.size → k ≤ S.length →
      Calls Try.prog 39 #[.pointer (some ⟨c, 0, none⟩)] W1 fun e W2 => ∃ s v b, e = .returned (.tuple #[s, v, b]) ∧ FRelK I S c a j0 lo hi J K w W (PF b1 c a P) k s b W2) := by
    intro k W1 at2 hcu hat hb2 hj hst hsz hkS
    obtain ⟨_, ht1⟩ := HST.out W1 hst (Nat.le_trans HSW.out.2 hsz)
    have hN := HSEG.out k at2 hat
    cases hx : S[k]? with
    | none =>
      rw [hx] at hN
      have hLk : S.length = k := by have := List.getElem?_eq_none_iff.1 hx; omega
      refine (next_none hcu ht1 hl BHI.out hb2 hN).mono ?_
      rintro e W2 ⟨rfl, hbw⟩
      refine ⟨_, _, _, rfl, hkS, HJ.out _ _ _ _ none hj (grown_below hbw) (fun _ e => by cases e) K fun b h => .inl h, fun b hG hne => (hbw.block b (Nat.lt_of_lt_of_le (HKW.out b (HGK.out b hG)) hsz)).trans (hst b hG hne), Nat.le_trans hsz hbw.size, .inr ⟨hLk.symm, rfl, at2, hcu.below hbw, hat, hb2⟩⟩
    | some q =>
      rw [hx] at hN
      have hq := HSI.out k q hx
      refine (next_some hcu ht1 hl HKY.out BHI.out hb2 hN).mono ?_
      rintro e W2 ⟨rfl, hc2, hch2⟩
      refine ⟨_, _, _, rfl, hkS, HJ.out _ _ _ _ (some c) hj (grown_chg hch2) (fun r e => by injection e with e; subst e; exact ⟨.inr rfl, HGK.out c (.inr (.inl rfl))⟩) K fun b h => .inl h, fun b hG hne => (hch2.block b (Nat.lt_of_lt_of_le (HKW.out b (HGK.out b hG)) hsz) (by simpa using hne)).trans (hst b hG hne), Nat.le_trans hsz hch2.size,
        .inl ⟨q, _, hx, rfl, rfl, hc2, by rw [atN_behind HRISE.out hN, hat], (HBYT.out q hq.1).1.app (by intro b hb; simp at hb; omega)⟩⟩
  refine callsIn_of_wp_marks Try.func57 rfl trivial ?_ rfl
  simp only [Try.ntmps57, List.size_toArray, List.length_cons, List.length_nil, Nat.reduceAdd, Nat.reduceSub, Array.replicate_succ, Array.replicate_zero, List.push_toArray, List.append_toArray, List.nil_append, List.cons_append]
  gi_wp2
  clear c1 ht h0
  refine ⟨trivial, fun h => (by cases h), ?_⟩
  refine (callsIn_wide.2 (HNX.out 0 W at_ HCW.out HJ0.out.symm HBAT.out H0.out HSW.out.1 (Nat.le_refl _) (Nat.zero_le _))).mono ?_
  rintro e W2 ⟨s, v, b, rfl, hfr⟩
  have HFR := hid hfr
  clear hfr
  gi_wp2
  gi_loopw [3, 5] (fun s b Wr => ∃ k, FRelK I S c a j0 lo hi J K w W (PF b1 c a P) k s b Wr) (fun _ b Wr => 2 * (I.length - atN I (curOf Wr c)) + oneIf b)
  case atStart => exact ⟨0, HFR.out⟩
  case round =>
    obtain ⟨k, hkS, hj, hst, hsz, hcase⟩ := hrel
    rcases hcase with ⟨q, at2, hx, rfl, rfl, hcu, hat, hb2⟩ | ⟨hk, rfl, hcu⟩
    · obtain ⟨hqI, hqn⟩ := HSI.out k q hx
      have hbq := (HBYT.out q hqI).1
      have hkq := HKK.out q hqI
      have HX := hid hx
      have HCU := hid hcu
      have HAT := hid hat
      have HB2 := hid hb2
      have HJK := hid hj
      have HSTR := hid hst
      have HSZ := hid hsz
      have HQN := hid hqn
      have hTK : (keysOf S).take (k + 1) = (keysOf S).take k ++ [q.1.drop 8] := by rw [List.take_add_one, keysOf_at, hx]; rfl
      have HTK := hid hTK
      have hks : k < S.length := (List.getElem?_eq_some_iff.1 hx).1
      clear hx hcu hat hb2 hj hst hsz hqI hqn hTK
      gi_wp2
      refine ⟨trivial, fun h => (by cases h), ?_⟩
      refine (callsIn_wide.2 (get_ok wr q.1 hbq hkq)).mono ?_
      rintro e w3 ⟨rfl, hb3⟩
      unfold ent
      have HB4 : Hid (Below wr.heap.size wr (w3.alloc (.cells #[.int .i64 (val q.1), .string (str (q.1.drop 8))] 111))) := hb3.alloc hb3.size _
      obtain ⟨e0, e1⟩ := EntAt.new w3 (val q.1) (q.1.drop 8)
      obtain ⟨w4, HW4⟩ : ∃ w4, Hid (w4 = w3.alloc (.cells #[.int .i64 (val q.1), .string (str (q.1.drop 8))] 111)) := ⟨_, rfl⟩
      obtain ⟨fn, tmps, assign, body, hy, hR⟩ := HY.out (n - 1) ((keysOf S).take k) (q.1.drop 8) K (w3.alloc (.cells #[.int .i64 (val q.1), .string (str (q.1.drop 8))] 111)) (HJ.out _ _ _ _ none HJK.out (grown_below HB4.out) (fun _ e => by cases e) K fun b h => .inl h) (fun b hb => Nat.lt_of_lt_of_le (HKW.out b hb) (Nat.le_trans HSZ.out HB4.out.size)) (by rw [← HTK.out]; exact List.take_prefix _ _)
      dsimp only [encS] at hy
      clear hb3
      gi_wp2
      refine ⟨fun h => (by cases h), hR.mono ?_⟩
      rintro e W3 (⟨rfl, hJ3, hs3⟩ | ⟨rfl, hJ3, hs3⟩)
      · have HJ3 : Hid (J ((keysOf S).take (k + 1)) K W3) := by show J _ _ _; rw [HTK.out]; exact hJ3
        have HST3 : Hid (∀ b, PF b1 c a P b → b ≠ c → W3.heap[b]? = w.heap[b]?) := fun b hb hne => ((hs3.2 b (HGK.out b hb)).trans (HB4.out.block b (Nat.lt_of_lt_of_le (HKW.out b (HGK.out b hb)) HSZ.out))).trans (HSTR.out b hb hne)
        have HSZ3 : Hid (W.heap.size ≤ W3.heap.size) := Nat.le_trans HSZ.out (Nat.le_trans HB4.out.size hs3.1)
        have HCU3 : Hid (CurAt W3 c a lo hi at2) := (HCU.out.below HB4.out).keep (hs3.2 c (HGK.out c (.inr (.inl rfl))))
        obtain ⟨c1, _⟩ := HST.out W3 HST3.out (Nat.le_trans HSW.out.2 HSZ3.out)
        clear hJ3 hs3 hR hy e0 e1
        gi_wp2
        refine ⟨trivial, fun h => (by cases h), ?_⟩
        refine (callsIn_wide.2 (HNX.out (k + 1) W3 at2 HCU3.out (by rw [HAT.out]; rfl) HB2.out HJ3.out HST3.out HSZ3.out hks)).mono ?_
        rintro e W5 ⟨s5, v5, b5, rfl, hfr⟩
        have HFR := hid hfr
        have HME : Hid (2 * (I.length - atN I (curOf W5 c)) + oneIf b5 < 2 * (I.length - atN I (curOf wr c)) + oneIf (.bool true)) := by
          show _ < _
          rw [curOf_at HCU.out HB2.out, HAT.out]
          have hq1 := HQN.out
          rcases hfr.2.2.2.2 with ⟨q', at3, hx', _, rfl, hcu', hat', hb'⟩ | ⟨_, rfl, at3, hcu', hat', hb'⟩
          · have hq2 := (HSI.out _ _ hx').2
            rw [curOf_at hcu' hb', hat']
            simp only [oneIf]; omega
          · rw [curOf_at hcu' hb', hat']
            simp only [oneIf]; omega
        clear hfr c1
        gi_wp2
        exact ⟨⟨k + 1, HFR.out⟩, HME.out⟩
      · have HJ3 : Hid (Jx ((keysOf S).take (k + 1)) K W3) := by show Jx _ _ _; rw [HTK.out]; exact hJ3
        clear hJ3 hs3 hR hy
        gi_wp2
        exact HEND.out _ _ _ rfl (.inr ⟨_, List.take_prefix _ _, HJ3.out⟩)
    · have HKS := hid hk
      have HJK := hid hj
      clear hk hcu hst hj
      gi_wp2
      refine HEND.out _ _ _ rfl (.inl ?_)
      have h2 := HJK.out
      rwa [List.take_of_length_le (by rw [HKS.out]; simp [keysOf])] at h2
end Go.Proofs.Ytlnagdodnkhbmaa
