import Derived.Test.YtlnagdodnkhbmaaGreatTB
import Derived.Test.YtlnagdodnkhbmaaGreatTA
import Derived.RangeFuncNested
import Derived.Shelf.Abstract
import Derived.Shelf.RegionOpen
import Derived.OwnWalkIn
import Derived.TacticsInMore
import Derived.LoopNIn
import Derived.LoopIn
import Derived.Sort.QuietIn
import Derived.Deep.RegionHeld3

/- found: the keys of the entries that a cursor tells. -/
namespace Go.Proofs.YtlnagdodnkhbmaaGreat
open Go.RowKit Go.Shelf
set_option maxRecDepth 100000
attribute [local go_sem] Oper.semAt_some

def encS (k : List Nat) : Array Value := #[.string (str k)]
/-- The pairs of a range from a place on. -/
def seq (I : List Pr) (hi : List Nat) (j : Nat) : List Pr := (I.take (endN I hi)).drop j
theorem seq_at (I : List Pr) (hi : List Nat) (j k : Nat) : (seq I hi j)[k]? = if j + k < endN I hi then I[j + k]? else none := by
  unfold seq
  rw [List.getElem?_drop, List.getElem?_take]
theorem seq_nxt {I : List Pr} (hr : Rising I) {hi at_ : List Nat} {j k : Nat} (hat : atN I at_ = j + k) : nxt I hi at_ = (seq I hi j)[k]? := by
  rw [nxt_at hr, seq_at, hat]
/-- The keys of entries. -/
def keysOf (S : List Pr) : List (List Nat) := S.map fun q => q.1.drop 8
theorem keysOf_at (S : List Pr) (k : Nat) : (keysOf S)[k]? = (S[k]?).map fun q => q.1.drop 8 := List.getElem?_map
theorem nums_str {xs : List Nat} (h : Byt xs) : nums (str xs) = xs := (str_inj (nums_byt _) h).1 (str_nums _)
def curOf (w : World) (c : Nat) : List Nat := match w.cell? ⟨c, 3, none⟩ with | some (.string x) => nums x | _ => []
theorem curOf_at {w : World} {c a : Nat} {lo hi at_ : List Nat} (h : CurAt w c a lo hi at_) (hb : Byt at_) : curOf w c = at_ := by
  unfold curOf; rw [h.c3]; exact nums_str hb
def oneIf (v : Value) : Nat := match v with | .bool true => 1 | _ => 0

/-- The blocks of a range over a cursor's Next. -/
def PF (b1 c a : Nat) (P : Bl) : Bl := fun b => b = b1 ∨ b = c ∨ b = a ∨ P b
/-- What stands ahead of a round, of which k were before. -/
def FRelK (I S : List Pr) (c a j0 : Nat) (lo hi : List Nat) (J : List (List Nat) → Bl → World → Prop) (K : Bl) (w W : World) (G : Bl) (k : Nat) (s b : Value) (Wr : World) : Prop :=
  k ≤ S.length ∧ J ((keysOf S).take k) K Wr ∧ (∀ b, G b → b ≠ c → Wr.heap[b]? = w.heap[b]?) ∧ W.heap.size ≤ Wr.heap.size ∧
    ((∃ q at2, S[k]? = some q ∧ s = .string (str q.1) ∧ b = .bool true ∧ CurAt Wr c a lo hi at2 ∧ atN I at2 = j0 + k + 1 ∧ Byt at2) ∨ (k = S.length ∧ b = .bool false ∧ ∃ at2, CurAt Wr c a lo hi at2 ∧ atN I at2 = j0 + k ∧ Byt at2))
set_option maxHeartbeats 4000000 in
theorem found_gives (w : World) (b1 c a o : Nat) (lo hi at_ : List Nat) (I : List Pr) (P : Bl)
    (h1 : w.cell? ⟨b1, 0, none⟩ = some (.func (.func 69) #[.pointer (some ⟨c, 0, none⟩)] #[]))
    (hc : CurAt w c a lo hi at_) (ht : TreeAt w a o I P) (hca : c ≠ a) (hcP : ¬ P c) (hc1 : c ≠ b1) (hl : I.length ≤ 5000) (hk : Keyed I) (hkk : ∀ q ∈ I, keyB (q.1.drop 8) = true) (bhi : Byt hi) (bat : Byt at_) :
    GivesM (fun b => b = c) Tryz.prog 94 #[.pointer (some ⟨b1, 0, none⟩)] encS (keysOf (seq I hi (atN I at_))) (PF b1 c a P) w := by
  intro n lq J Jx K W hW hGK hKW hJ hJx hY h0
  have HGK := hid hGK
  have HKW := hid hKW
  have HJ := hid hJ
  have HJx := hid hJx
  have HY := hid hY
  have HKY := hid hk
  have HKK := hid hkk
  have BHI := hid bhi
  have HRISE := hid ht.rise
  have HBYT := hid ht.byt
  have HST : Hid (∀ W', (∀ b, PF b1 c a P b → b ≠ c → W'.heap[b]? = w.heap[b]?) → w.heap.size ≤ W'.heap.size → W'.cell? ⟨b1, 0, none⟩ = some (.func (.func 69) #[.pointer (some ⟨c, 0, none⟩)] #[]) ∧ TreeAt W' a o I P) := fun W' hb hs =>
    ⟨(World.cell?_of_block (hb b1 (.inl rfl) hc1.symm)).trans h1, ht.keep (hb a (.inr (.inr (.inl rfl))) hca.symm) (fun b hP => hb b (.inr (.inr (.inr hP))) fun e => hcP (e ▸ hP)) hs⟩
  have HCW : Hid (CurAt W c a lo hi at_) := hc.keep (hW.2 c (.inr (.inl rfl)))
  have HSW : Hid ((∀ b, PF b1 c a P b → b ≠ c → W.heap[b]? = w.heap[b]?) ∧ w.heap.size ≤ W.heap.size) := ⟨fun b hb _ => hW.2 b hb, hW.1⟩
  obtain ⟨j0, HJ0⟩ : ∃ j, Hid (j = atN I at_) := ⟨_, rfl⟩
  obtain ⟨S, HS⟩ : ∃ S, Hid (S = seq I hi j0) := ⟨_, rfl⟩
  have HSEG : Hid (∀ k at2, atN I at2 = j0 + k → nxt I hi at2 = S[k]?) := fun k at2 h => by rw [HS.out]; exact seq_nxt HRISE.out h
  have HSI : Hid (∀ k q, S[k]? = some q → q ∈ I ∧ j0 + k < I.length) := fun k q h => by
    rw [HS.out, seq_at] at h
    split at h
    · exact ⟨List.mem_of_getElem? h, (List.getElem?_eq_some_iff.1 h).1⟩
    · cases h
  have HBAT := hid bat
  rw [← HJ0.out, ← HS.out] at HY ⊢
  have hmf := hmf
  clear hW hGK hKW hJ hJx hY h1 hc ht hk hkk bhi bat hc1 hca hcP
  obtain ⟨c1, ht⟩ := HST.out W HSW.out.1 HSW.out.2
  have HT := hid ht
  have HEND : Hid (∀ (W' : World) (fnn : Func) (tmps : Array Value), fnn = Tryz.f94 → (J (keysOf S) K W' ∨ ∃ pre, pre <+: keysOf S ∧ Jx pre K W') →
      LeavesInM Fence.wide n Tryz.prog fnn tmps (fun e W' => (∃ v, e = .returned v) ∧ (J (keysOf S) K W' ∨ ∃ pre, pre <+: keysOf S ∧ Jx pre K W')) [] .returning W') := by
    rintro W' fnn tmps rfl h
    exact ⟨_, results_none rfl _ _ _, ⟨_, rfl⟩, h⟩
  have H0 := hid h0
  -- what a call of next leaves, by the place
  have HNX : Hid (∀ (k : Nat) (W1 : World) (at2 : List Nat), CurAt W1 c a lo hi at2 → atN I at2 = j0 + k → Byt at2 → J ((keysOf S).take k) K W1 → (∀ b, PF b1 c a P b → b ≠ c → W1.heap[b]? = w.heap[b]?) → W.heap.size ≤ W1.heap.size → k ≤ S.length →
      Calls Tryz.prog 69 #[.pointer (some ⟨c, 0, none⟩)] W1 fun e W2 => ∃ s v b, e = .returned (.tuple #[s, v, b]) ∧ FRelK I S c a j0 lo hi J K w W (PF b1 c a P) k s b W2) := by
    intro k W1 at2 hcu hat hb2 hj hst hsz hkS
    obtain ⟨_, ht1⟩ := HST.out W1 hst (Nat.le_trans HSW.out.2 hsz)
    have hN := HSEG.out k at2 hat
    cases hx : S[k]? with
    | none =>
      rw [hx] at hN
      have hLk : S.length = k := by have := List.getElem?_eq_none_iff.1 hx; omega
      refine (next_none hcu ht1 hl BHI.out hb2 hN).mono ?_
      rintro e W2 ⟨rfl, hbw⟩
      refine ⟨_, _, _, rfl, hkS, HJ.out _ _ _ _ none hj (grown_below hbw) (fun _ e => by cases e) K fun b h => .inl h, fun b hG hne => (hbw.block b (Nat.lt_of_lt_of_le (HKW.out b (HGK.out b hG)) hsz)).trans (hst b hG hne), Nat.le_trans hsz hbw.size, .inr ⟨hLk.symm, rfl, at2, hcu.below hbw, hat, hb2⟩⟩
    | some q =>
      rw [hx] at hN
      have hq := HSI.out k q hx
      refine (next_some hcu ht1 hl HKY.out BHI.out hb2 hN).mono ?_
      rintro e W2 ⟨rfl, hc2, hch2⟩
      refine ⟨_, _, _, rfl, hkS, HJ.out _ _ _ _ (some c) hj (grown_chg hch2) (fun r e => by injection e with e; subst e; exact ⟨.inr rfl, HGK.out c (.inr (.inl rfl))⟩) K fun b h => .inl h, fun b hG hne => (hch2.block b (Nat.lt_of_lt_of_le (HKW.out b (HGK.out b hG)) hsz) (by simpa using hne)).trans (hst b hG hne), Nat.le_trans hsz hch2.size,
        .inl ⟨q, _, hx, rfl, rfl, hc2, by rw [atN_behind HRISE.out hN, hat], (HBYT.out q hq.1).1.app (by intro b hb; simp at hb; omega)⟩⟩
  refine callsIn_of_wp_marks Tryz.func94 rfl trivial ?_ rfl
  simp only [Tryz.ntmps94, List.size_toArray, List.length_cons, List.length_nil, Nat.reduceAdd, Nat.reduceSub, Array.replicate_succ, Array.replicate_zero, List.push_toArray, List.append_toArray, List.nil_append, List.cons_append]
  gi_wp2
  clear c1 ht h0
  refine ⟨trivial, fun h => (by cases h), ?_⟩
  refine (callsIn_wide.2 (HNX.out 0 W at_ HCW.out HJ0.out.symm HBAT.out H0.out HSW.out.1 (Nat.le_refl _) (Nat.zero_le _))).mono ?_
  rintro e W2 ⟨s, v, b, rfl, hfr⟩
  have HFR := hid hfr
  clear hfr
  gi_wp2
  gi_loopw [3, 5] (fun s b Wr => ∃ k, FRelK I S c a j0 lo hi J K w W (PF b1 c a P) k s b Wr) (fun _ b Wr => 2 * (I.length - atN I (curOf Wr c)) + oneIf b)
  case atStart => exact ⟨0, HFR.out⟩
  case round =>
    obtain ⟨k, hkS, hj, hst, hsz, hcase⟩ := hrel
    rcases hcase with ⟨q, at2, hx, rfl, rfl, hcu, hat, hb2⟩ | ⟨hk, rfl, hcu⟩
    · obtain ⟨hqI, hqn⟩ := HSI.out k q hx
      have hbq := (HBYT.out q hqI).1
      have hkq := HKK.out q hqI
      have HX := hid hx
      have HCU := hid hcu
      have HAT := hid hat
      have HB2 := hid hb2
      have HJK := hid hj
      have HSTR := hid hst
      have HSZ := hid hsz
      have HQN := hid hqn
      have hTK : (keysOf S).take (k + 1) = (keysOf S).take k ++ [q.1.drop 8] := by rw [List.take_add_one, keysOf_at, hx]; rfl
      have HTK := hid hTK
      have hks : k < S.length := (List.getElem?_eq_some_iff.1 hx).1
      clear hx hcu hat hb2 hj hst hsz hqI hqn hTK
      gi_wp2
      refine ⟨trivial, fun h => (by cases h), ?_⟩
      refine (callsIn_wide.2 (get_ok wr q.1 hbq hkq)).mono ?_
      rintro e w3 ⟨rfl, hb3⟩
      unfold ent
      have HB4 : Hid (Below wr.heap.size wr (w3.alloc (.cells #[.int .i64 (val q.1), .string (str (q.1.drop 8))] 93))) := hb3.alloc hb3.size _
      obtain ⟨e0, e1⟩ := EntAt.new w3 (val q.1) (q.1.drop 8)
      obtain ⟨w4, HW4⟩ : ∃ w4, Hid (w4 = w3.alloc (.cells #[.int .i64 (val q.1), .string (str (q.1.drop 8))] 93)) := ⟨_, rfl⟩
      obtain ⟨fn, tmps, assign, body, hy, hR⟩ := HY.out (n - 1) ((keysOf S).take k) (q.1.drop 8) K (w3.alloc (.cells #[.int .i64 (val q.1), .string (str (q.1.drop 8))] 93)) (HJ.out _ _ _ _ none HJK.out (grown_below HB4.out) (fun _ e => by cases e) K fun b h => .inl h) (fun b hb => Nat.lt_of_lt_of_le (HKW.out b hb) (Nat.le_trans HSZ.out HB4.out.size)) (by rw [← HTK.out]; exact List.take_prefix _ _)
      dsimp only [encS] at hy
      clear hb3
      gi_wp2
      refine ⟨fun h => (by cases h), hR.mono ?_⟩
      rintro e W3 (⟨rfl, hJ3, hs3⟩ | ⟨rfl, hJ3, hs3⟩)
      · have HJ3 : Hid (J ((keysOf S).take (k + 1)) K W3) := by show J _ _ _; rw [HTK.out]; exact hJ3
        have HST3 : Hid (∀ b, PF b1 c a P b → b ≠ c → W3.heap[b]? = w.heap[b]?) := fun b hb hne => ((hs3.2 b (HGK.out b hb)).trans (HB4.out.block b (Nat.lt_of_lt_of_le (HKW.out b (HGK.out b hb)) HSZ.out))).trans (HSTR.out b hb hne)
        have HSZ3 : Hid (W.heap.size ≤ W3.heap.size) := Nat.le_trans HSZ.out (Nat.le_trans HB4.out.size hs3.1)
        have HCU3 : Hid (CurAt W3 c a lo hi at2) := (HCU.out.below HB4.out).keep (hs3.2 c (HGK.out c (.inr (.inl rfl))))
        obtain ⟨c1, _⟩ := HST.out W3 HST3.out (Nat.le_trans HSW.out.2 HSZ3.out)
        clear hJ3 hs3 hR hy e0 e1
        gi_wp2
        refine ⟨trivial, fun h => (by cases h), ?_⟩
        refine (callsIn_wide.2 (HNX.out (k + 1) W3 at2 HCU3.out (by rw [HAT.out]; rfl) HB2.out HJ3.out HST3.out HSZ3.out hks)).mono ?_
        rintro e W5 ⟨s5, v5, b5, rfl, hfr⟩
        have HFR := hid hfr
        have HME : Hid (2 * (I.length - atN I (curOf W5 c)) + oneIf b5 < 2 * (I.length - atN I (curOf wr c)) + oneIf (.bool true)) := by
          show _ < _
          rw [curOf_at HCU.out HB2.out, HAT.out]
          have hq1 := HQN.out
          rcases hfr.2.2.2.2 with ⟨q', at3, hx', _, rfl, hcu', hat', hb'⟩ | ⟨_, rfl, at3, hcu', hat', hb'⟩
          · have hq2 := (HSI.out _ _ hx').2
            rw [curOf_at hcu' hb', hat']
            simp only [oneIf]; omega
          · rw [curOf_at hcu' hb', hat']
            simp only [oneIf]; omega
        clear hfr c1
        gi_wp2
        exact ⟨⟨k + 1, HFR.out⟩, HME.out⟩
      · have HJ3 : Hid (Jx ((keysOf S).take (k + 1)) K W3) := by show Jx _ _ _; rw [HTK.out]; exact hJ3
        clear hJ3 hs3 hR hy
        gi_wp2
        exact HEND.out _ _ _ rfl (.inr ⟨_, List.take_prefix _ _, HJ3.out⟩)
    · have HKS := hid hk
      have HJK := hid hj
      clear hk hcu hst hj
      gi_wp2
      refine HEND.out _ _ _ rfl (.inl ?_)
      have h2 := HJK.out
      rwa [List.take_of_length_le (by rw [HKS.out]; simp [keysOf])] at h2
end Go.Proofs.YtlnagdodnkhbmaaGreat

/- Find. -/
namespace Go.Proofs.YtlnagdodnkhbmaaGreat
open Go.RowKit Go.Shelf
set_option maxRecDepth 100000
attribute [local go_sem] Oper.semAt_some

def cT (xs : List Nat) : List Value := [.string (str xs)]
theorem cT_len (xs : List Nat) : (cT xs).length = 1 := rfl
theorem cT_one (xs : List Nat) : ∀ y ∈ cT xs, y.oneCell' = true := by
  intro y hy
  simp [cT] at hy
  rw [hy]; rfl
theorem info_text : (Tryz.prog.info? 9).map (fun i => (i.zero, i.size, i.bytes)) = some (some (.string ⟨#[]⟩), 1, 16) := by kernel_rfl
theorem found_any (w : World) (fn : Fn) (first cap : Array Value) : Calls Tryz.prog 68 #[.func fn first cap] w fun e w' =>
    e = .returned (.func (.func 94) #[] #[.pointer (some ⟨w.heap.size, 0, none⟩)]) ∧ w' = w.alloc (.cells #[.func fn first cap] 132) := by
  have hmf := hmf
  go_enter Tryz.func68, Tryz.ntmps68
  go_wp2
  go_ret
  exact ⟨rfl, rfl⟩
theorem found_walks (w : World) (c a o : Nat) (lo hi at_ : List Nat) (I : List Pr) (P : Bl) (hc : CurAt w c a lo hi at_) (ht : TreeAt w a o I P) (hca : c ≠ a) (hcP : ¬ P c) (hl : I.length ≤ 5000) (hk : Keyed I) (hkk : ∀ q ∈ I, keyB (q.1.drop 8) = true) (bhi : Byt hi) (bat : Byt at_) :
    Calls Tryz.prog 68 #[.func (.func 69) #[.pointer (some ⟨c, 0, none⟩)] #[]] w fun e w' => ∃ gf lb G, e = .returned (.func (.func gf) #[] lb) ∧ Below w.heap.size w w' ∧
      (∀ args w, (callFunc gf args).run Tryz.prog w = .ok (.enter gf args) w) ∧ (∀ b, G b → b < w'.heap.size) ∧ G c ∧ (∀ b, G b → b = c ∨ b = a ∨ P b ∨ w.heap.size ≤ b) ∧ GivesM (fun b => b = c) Tryz.prog gf lb encS (keysOf (seq I hi (atN I at_))) G w' := by
  refine (found_any w _ _ _).mono ?_
  rintro e w' ⟨rfl, rfl⟩
  have hcl := hc.lt
  have hal := ht.lt
  have hb : Below w.heap.size w (w.alloc (.cells #[.func (.func 69) #[.pointer (some ⟨c, 0, none⟩)] #[]] 132)) := (Below.refl _ w).alloc (Nat.le_refl _) _
  refine ⟨_, _, PF w.heap.size c a P, rfl, hb, enters_of Tryz.func94 (by kernel_rfl) rfl, fun b hG => ?_, .inr (.inl rfl), fun b hG => ?_, found_gives _ w.heap.size c a o lo hi at_ I P (cell_of_row _ _ 0 _ _ _ (heap_alloc_new w _)) (hc.below hb) (ht.below hb) hca hcP (by omega) hl hk hkk bhi bat⟩
  · rcases hG with rfl | rfl | rfl | hG
    · simp
    · simp; omega
    · simp; omega
    · have := ht.under b hG; simp; omega
  · rcases hG with rfl | rfl | rfl | hG
    · exact .inr (.inr (.inr (Nat.le_refl _)))
    · exact .inl rfl
    · exact .inr (.inl rfl)
    · exact .inr (.inr (.inl hG))
/-- The keys gathered so far, in the row that the cell at block bl names; of what was there, the cursor's block c alone has turned besides. -/
def CollF (w3 : World) (bl bm c most : Nat) (pre : List (List Nat)) (K : Bl) (W : World) : Prop :=
  W.cell? ⟨bm, 0, none⟩ = some (.int .i64 (most : Int)) ∧ Chg [bl, c] w3 W [bl, c] ∧ ∃ v, One W bl 53 v ∧ OwnElems 1 cT 9 W w3.heap.size v (pre.take most) ∧ ¬ K bl ∧ ∀ b ∈ ownFoot v, ¬ K b
theorem collF_abide {w3 : World} {bl bm c most : Nat} (hp : bl < w3.heap.size) (hne : bl ≠ c) (hm : bm < w3.heap.size) (hmc : bm ≠ c) : AbideM (fun b => b = c) w3.heap.size (CollF w3 bl bm c most) := by
  rintro s K A A' row ⟨h0, hc, v, q2, q3, q4, q5⟩ hg hr K' hK'
  have hB : ∀ x, x < w3.heap.size → x ≠ c → A'.heap[x]? = A.heap[x]? := fun x hx hxc => hg.block x (Nat.lt_of_lt_of_le hx hc.size) fun e => (hr x e.symm).1.elim (fun h => by omega) fun h => hxc h
  have hnk : ∀ b, ¬ K b → b < A.heap.size → ¬ K' b := fun b hb hl h => by
    rcases hK' b h with h | h
    · exact hb h
    · omega
  exact ⟨(World.cell?_of_block (hB bm hm hmc)).trans h0, ⟨hg.os.trans hc.os, hg.tape.trans hc.tape, hg.output.trans hc.output, Nat.le_trans hc.size hg.size, fun k hk hn => (hB k hk fun e => hn (by simp [e])).trans (hc.block k hk hn), hc.foot⟩, v, q2.keep (hB bl hp hne), q3.keep fun b hb => hg.block b (q3.lt b hb).2 fun e => q5 b hb (hr b e.symm).2, hnk bl q4 q2.lt, fun b hb => hnk b (q5 b hb) (q3.lt b hb).2⟩
section
variable {w : World} {T : Nat} {p : Nat → Nat} {Q : Bl} {most o : Nat} {l : List KR}
theorem tfind_nil (w : World) (c lo hi m : Int) : Calls Tryz.prog 40 #[.pointer none, .int .i64 c, .int .i64 lo, .int .i64 hi, .int .i64 m] w fun e w' => e = .returned (.tuple #[.slice none 0 0, .int .i64 2]) ∧ Below w.heap.size w w' := by
  go_enter Tryz.func40, Tryz.ntmps40
  go_wp2
  go_ret2
  exact ⟨rfl, (Below.refl _ _).alloc (Nat.le_refl _) _⟩
/-- What Bounds answers. -/
def toB (hi : Int) : List Nat := if hi = 9223372036854775807 then [] else wv (hi + 1)
theorem bounds_ok (w : World) (lo hi : Int) (hl : I64 lo) (hh : I64 hi) (h : lo ≤ hi) :
    Calls Tryz.prog 66 #[.int .i64 lo, .int .i64 hi] w fun e w' => e = .returned (.tuple #[.string (str (wv lo)), .string (str (toB hi)), .int .i64 0]) ∧ Below w.heap.size w w' := by
  unfold toB
  by_cases e : hi = 9223372036854775807
  · rw [if_pos e]; subst e; exact bounds_end w lo hl
  · rw [if_neg e]; exact bounds_two w lo hi hl hh h (by have := hh.2; omega)
theorem toB_byt (hi : Int) : Byt (toB hi) := by
  unfold toB
  split
  · exact Byt.nil
  · exact wv_byt _
theorem toB_len (hi : Int) : (toB hi).length ≤ 8 := by
  unfold toB
  split
  · simp
  · rw [wv_len]; omega
theorem toB_lo {lo hi : Int} (hl : I64 lo) (hh : I64 hi) (h : lo ≤ hi) : toB hi = [] ∨ ¬ toB hi < wv lo := by
  unfold toB
  by_cases e : hi = 9223372036854775807
  · exact .inl (if_pos e)
  · rw [if_neg e]
    right
    intro hlt
    have h2 : I64 (hi + 1) := ⟨by have := hh.1; omega, by have := hh.2; omega⟩
    have := (wv_lt h2 hl [] []).1 (by simpa using hlt)
    rcases this with h3 | ⟨h3, _⟩ <;> omega
/-- Which keys Find tells. -/
def findK (I : List Pr) (lo hi : Int) (m : Nat) : List (List Nat) := (keysOf (seq I (toB hi) (atN I (wv lo)))).take m
theorem tfind_col (T : Nat) (c lo hi m : Int) (hl : I64 lo) (hh : I64 hi) (h : c < 0 ∨ (0 ≤ c ∧ 4 ≤ c)) : Calls Tryz.prog 40 #[.pointer (some ⟨T, 0, none⟩), .int .i64 c, .int .i64 lo, .int .i64 hi, .int .i64 m] w fun e w' => e = .returned (.tuple #[.slice none 0 0, .int .i64 10]) ∧ Below w.heap.size w w' := by
  have hba : Below w.heap.size w (w.alloc (.cells #[.int .i64 m] 3)) := (Below.refl _ _).alloc (Nat.le_refl _) _
  by_cases hlh : lo ≤ hi
  · rcases h with h | ⟨h0, h⟩
    · go_enter Tryz.func40, Tryz.ntmps40
      go_wp2_with fail
      refine (bounds_ok _ lo hi hl hh hlh).mono ?_
      rintro e w1 ⟨rfl, hb1⟩
      go_wp2
      go_ret2
      exact ⟨rfl, below_step hba hb1⟩
    · have h1 : ¬ c < 0 := by omega
      go_enter Tryz.func40, Tryz.ntmps40
      go_wp2_with fail
      refine (bounds_ok _ lo hi hl hh hlh).mono ?_
      rintro e w1 ⟨rfl, hb1⟩
      go_wp2
      go_ret2
      exact ⟨rfl, below_step hba hb1⟩
  · rcases h with h | ⟨h0, h⟩
    · go_enter Tryz.func40, Tryz.ntmps40
      go_wp2_with fail
      refine (bounds_no _ lo hi (by omega)).mono ?_
      rintro e w1 ⟨rfl, rfl⟩
      go_wp2
      go_ret2
      exact ⟨rfl, hba⟩
    · have h1 : ¬ c < 0 := by omega
      go_enter Tryz.func40, Tryz.ntmps40
      go_wp2_with fail
      refine (bounds_no _ lo hi (by omega)).mono ?_
      rintro e w1 ⟨rfl, rfl⟩
      go_wp2
      go_ret2
      exact ⟨rfl, hba⟩
theorem tfind_range (T c : Nat) (hc : c < 4) (lo hi m : Int) (h : hi < lo) : Calls Tryz.prog 40 #[.pointer (some ⟨T, 0, none⟩), .int .i64 (c : Int), .int .i64 lo, .int .i64 hi, .int .i64 m] w fun e w' => e = .returned (.tuple #[.slice none 0 0, .int .i64 10]) ∧ Below w.heap.size w w' := by
  have hba : Below w.heap.size w (w.alloc (.cells #[.int .i64 m] 3)) := (Below.refl _ _).alloc (Nat.le_refl _) _
  have h1 : ¬ (c : Int) < 0 := by omega
  have h2 : ¬ (4 : Int) ≤ c := by omega
  go_enter Tryz.func40, Tryz.ntmps40
  go_wp2_with fail
  refine (bounds_no _ lo hi h).mono ?_
  rintro e w1 ⟨rfl, rfl⟩
  go_wp2
  go_ret2
  exact ⟨rfl, hba⟩
theorem tfind_few (T c : Nat) (hc : c < 4) (lo hi m : Int) (hl : I64 lo) (hh : I64 hi) (h : lo ≤ hi) (hm : m < 0) : Calls Tryz.prog 40 #[.pointer (some ⟨T, 0, none⟩), .int .i64 (c : Int), .int .i64 lo, .int .i64 hi, .int .i64 m] w fun e w' => e = .returned (.tuple #[.slice none 0 0, .int .i64 23]) ∧ Below w.heap.size w w' := by
  have hba : Below w.heap.size w (w.alloc (.cells #[.int .i64 m] 3)) := (Below.refl _ _).alloc (Nat.le_refl _) _
  have h1 : ¬ (c : Int) < 0 := by omega
  have h2 : ¬ (4 : Int) ≤ c := by omega
  have q0 := (One.new w 3 (.int .i64 m)).cell
  go_enter Tryz.func40, Tryz.ntmps40
  go_wp2_with fail
  refine (bounds_ok _ lo hi hl hh h).mono ?_
  rintro e w1 ⟨rfl, hb1⟩
  have q1 := below_keep hb1 _ _ q0
  go_wp2
  go_ret2
  exact ⟨rfl, below_step hba hb1⟩
end
end Go.Proofs.YtlnagdodnkhbmaaGreat

/- Find: which keys it tells. -/
namespace Go.Proofs.YtlnagdodnkhbmaaGreat
open Go.RowKit Go.Shelf
set_option maxRecDepth 100000
attribute [local go_sem] Oper.semAt_some

def FindEnd (w : World) (L : List (List Nat)) (e : Ending) (w' : World) : Prop :=
  ∃ v, e = .returned (.tuple #[v, .int .i64 0]) ∧ OwnElems 1 cT 9 w' w.heap.size v L ∧ Below w.heap.size w w'
theorem Idx.bkey {c : Nat} {l : List KR} {I : List Pr} (h : Idx c l I) (hl : RowsOk l) : ∀ q ∈ I, keyB (q.1.drop 8) = true := fun q hq => by
  obtain ⟨x, hx, rfl⟩ := h.mem.1 hq
  unfold entC
  dsimp only
  rw [entB_drop]
  exact hl.key x hx
theorem keysOf_len (S : List Pr) : (keysOf S).length = S.length := List.length_map _
theorem seq_len (I : List Pr) (hi : List Nat) (j : Nat) : (seq I hi j).length ≤ I.length := by
  unfold seq
  have := endN_le I hi
  simp; omega
set_option maxHeartbeats 4000000 in
theorem tfind_ok {w : World} {T : Nat} {p : Nat → Nat} {Q : Bl} {most o : Nat} {J : Nat → List Pr} {l : List KR} (hT : TabI w T p Q most o J) (hok : TOk l J) (hlen : l.length ≤ 1024) (c : Nat) (hc : c < 4) (lo hi : Int) (m : Nat) (hl : I64 lo) (hh : I64 hi) (h : lo ≤ hi) (hm : m ≤ 9223372036854775807) :
    Calls Tryz.prog 40 #[.pointer (some ⟨T, 0, none⟩), .int .i64 (c : Int), .int .i64 lo, .int .i64 hi, .int .i64 (m : Int)] w (FindEnd w (findK (J c) lo hi m)) := by
  have h1 : ¬ (c : Int) < 0 := by omega
  have h2 : ¬ (4 : Int) ≤ c := by omega
  have h3 : (c : Int) < 5 := by omega
  have h4 : (0 : Int) ≤ (c : Int) := by omega
  have h5 : ¬ (m : Int) < 0 := by omega
  have HBA : Hid (Below w.heap.size w (w.alloc (.cells #[.int .i64 (m : Int)] 3))) := (Below.refl _ _).alloc (Nat.le_refl _) _
  have HQ0 := hid (One.new w 3 (.int .i64 (m : Int)))
  have HT := hid hT
  have HIDX := hid (hok.idx c hc)
  have HROWS := hid hok.rows
  obtain ⟨I, HI⟩ : ∃ I, Hid (I = J c) := ⟨_, rfl⟩
  have HTR : Hid (TreeAt w (p c) o I Q) := by rw [HI.out]; exact hT.t c (by omega)
  have HIL : Hid (I.length ≤ 5000) := by show _ ≤ _; rw [HI.out, hok.len (by omega)]; omega
  rw [← HI.out] at HIDX ⊢
  have HKY := hid (HIDX.out.keyed hok.rows)
  have HKK := hid (HIDX.out.bkey hok.rows)
  have hmf := hmf
  have hpl := hT.plt (i := c) (by omega)
  have HUN := hid hT.under
  clear hT hok
  refine (callsIn_wide (n := 3)).1 ?_
  refine callsIn_of_wp_marks Tryz.func40 rfl trivial ?_ rfl
  simp only [Tryz.ntmps40, List.size_toArray, List.length_cons, List.length_nil, Nat.reduceAdd, Nat.reduceSub, Array.replicate_succ, Array.replicate_zero, List.push_toArray, List.append_toArray, List.nil_append, List.cons_append]
  refine wpIn_wide.2 ?_
  go_wp2_with fail
  refine (bounds_ok _ lo hi hl hh h).mono ?_
  rintro e w1 ⟨rfl, hb1⟩
  have HB1 := hid (below_step HBA.out hb1)
  have HQ1 := hid (HQ0.out.keep (hb1.block _ HQ0.out.lt))
  have q0 := HQ1.out.cell
  have cc := (HT.out.below HB1.out).cp (i := c) (by omega)
  clear hb1
  go_wp2_with fail
  refine (new_ok w1 (p c) (wv lo) (toB hi) (wv_byt _) (toB_byt _) (by rw [wv_len]; omega) (by have := toB_len hi; omega) (toB_lo hl hh h)).mono ?_
  rintro e w2 ⟨cu, rfl, hb2, hcu, hcur⟩
  have HB2 := hid (below_step HB1.out hb2)
  have HCUR := hid hcur
  have hcl := hcur.lt
  have HQ2 := hid (HQ1.out.keep (hb2.block _ HQ1.out.lt))
  have hs1 := HB1.out.size
  have hs1' := HQ1.out.lt
  obtain ⟨w3, HW3⟩ : ∃ W, Hid (W = w2.alloc (.cells #[.slice none 0 0] 53)) := ⟨_, rfl⟩
  clear hb2 hcur q0 cc
  go_wp2_with fail
  rw [← HW3.out]
  have HB3 : Hid (Below w2.heap.size w2 w3) := by rw [HW3.out]; exact (Below.refl _ _).alloc (Nat.le_refl _) _
  have HONE3 : Hid (One w3 w2.heap.size 53 (.slice none 0 0)) := by rw [HW3.out]; exact One.new w2 _ _
  have HBW3 := hid (below_step HB2.out HB3.out)
  have hca : cu ≠ p c := by omega
  have hcP : ¬ Q cu := fun h => by have := HUN.out cu h; omega
  refine (found_walks w3 cu (p c) o (wv lo) (toB hi) (wv lo) I Q (HCUR.out.below HB3.out) (HTR.out.below HBW3.out) hca hcP HIL.out HKY.out HKK.out (toB_byt _) (wv_byt _)).mono ?_
  rintro e w4 ⟨gf, lb, G, rfl, hb4, hen, hGl, hGc, hGw, hgv⟩
  have HB4 := hid hb4
  have HONE4 := hid (HONE3.out.keep (hb4.block _ HONE3.out.lt))
  have HQ4 := hid ((HQ2.out.keep (HB3.out.block _ HQ2.out.lt)).keep (hb4.block _ (Nat.lt_of_lt_of_le HQ2.out.lt HB3.out.size)))
  have hbl4 : w2.heap.size < w4.heap.size := HONE4.out.lt
  have HAB := hid (collF_abide (w3 := w4) (bl := w2.heap.size) (bm := w.heap.size) (c := cu) (most := m) hbl4 (by omega) HQ4.out.lt (by omega))
  have hnG : ¬ G w2.heap.size := fun h => by
    have hh1 := HB2.out.size
    have hh2 := HB3.out.size
    rcases hGw _ h with h | h | h | h
    · omega
    · omega
    · have := HUN.out _ h; omega
    · have := HONE3.out.lt; omega
  obtain ⟨L, HL⟩ : ∃ L, Hid (L = keysOf (seq I (toB hi) (atN I (wv lo)))) := ⟨_, rfl⟩
  have HLL : Hid (L.length ≤ 5000) := by
    show _ ≤ _
    rw [HL.out, keysOf_len]
    exact Nat.le_trans (seq_len _ _ _) HIL.out
  rw [← HL.out] at hgv
  have HRES : Hid (findK I lo hi m = L.take m) := by show _ = _; unfold findK; rw [HL.out]
  rw [HRES.out]
  clear hb4
  go_wp2
  refine (wpIn_wide (n := 3)).1 ?_
  refine range_ownM (gf := gf) (lb := lb) rfl hen hgv (w0 := w4) (Stay.refl _ _) (fun _ => rfl) (CollF w4 w2.heap.size w.heap.size cu m) (fun cd xs K W => cd = .exit 1 ∧ m < xs.length ∧ CollF w4 w2.heap.size w.heap.size cu m xs K W) (fun b h => h ▸ hGc) HAB.out (fun cd s K A A' row hi hg hr K' hK' => ⟨hi.1, hi.2.1, HAB.out s K A A' row hi.2.2 hg hr K' hK'⟩) G (fun _ h => h) hGl
    ⟨HQ4.out.cell, (Chg.refl _ _), _, HONE4.out, by rw [List.take_nil]; exact OwnElems.nil _ _ _ _ _, hnG, by simp [ownFoot, Value.ownBlock]⟩ ?round ?done ?stop
  case stop =>
    rintro D cd pre K W hpre ⟨rfl, hlt, h0, hcw, v, hone, hown, _, hkr⟩ _ hKD hD hK
    have HRE : Hid (pre.take m = L.take m) := by
      obtain ⟨t, ht⟩ := hpre
      show _ = _
      rw [← ht, List.take_append_of_le_length (by omega)]
    have HCW := hid hcw
    have HOW := hid hown
    have HKR := hid hkr
    have HKD := hid hKD
    have HDD := hid hD
    have HSH := hid hK
    have qp := hone.cell
    clear hcw hown hkr hKD hD hK hone h0 hpre
    gi_wp2
    go_wp2
    refine ⟨by simp, .inl ⟨_, _, rfl, run_takeDeferred HSH.out, ?_⟩⟩
    have hD' : w.heap.size ≤ D := by have := HDD.out; have := HBW3.out.size; have := HB4.out.size; omega
    have hbw : Below w.heap.size w W := by
      have h1 : Chg [] w w4 [w2.heap.size, cu] := (Chg.of_below (F := []) (below_step HBW3.out HB4.out)).less fun k hk => by
        simp at hk
        rcases hk with rfl | rfl
        · exact .inr HB2.out.size
        · exact .inr (by omega)
      exact (h1.trans HCW.out).below (fun _ h => by cases h) (Nat.le_refl _)
    refine ⟨.tuple #[v, .int .i64 0], ?_, v, rfl, ?_, ?_⟩
    · simp [results, Tryz.f40, go_sem]
    · rw [HRES.out, ← HRE.out]
      refine OwnElems.down_ (HOW.out.keep fun b hb => World.putObj_heap_other fun e => HKR.out b hb ?_) (by have := HBW3.out.size; have := HB4.out.size; omega)
      rw [e]; exact HKD.out
    · exact hbw.trans (belowK_b (w := w) (Nat.le_refl _) _ D _ _ hD' HSH.out rfl rfl)
  case round =>
    rintro lq pre x K W mm hI hKW hKl hlq hpre
    unfold encS
    gi_wp2
    refine ⟨Stay.refl _ _, fun W2 hg2 => ?_⟩
    obtain ⟨h0, hc2, v, hone, hown, hkp, hkr⟩ := HAB.out pre K W W2 (some lq) hI hg2 (fun r e => by injection e with e; subst e; exact ⟨.inl hlq, hKl⟩) K fun b h => .inl h
    have HW2 : Hid (W.heap.size ≤ W2.heap.size) := hg2.size
    clear hI hg2
    obtain ⟨Av, nv, cv, rfl⟩ := hown.rows.form
    have hnv := hown.rows.cap.1
    have HONE := hid hone
    have HOWN := hid hown
    have HC2 := hid hc2
    have HNV := hid hnv
    have HM0 := hid h0
    have qp := hone.cell
    have qf := hone.frozen
    have hpl : pre.length + 1 ≤ 5000 := by
      have h1 := hpre.length_le
      have h2 := HLL.out
      simp at h1
      omega
    clear hc2 hone hown hnv
    refine wpIn_block ?_
    refine wpIn_seq_k fun KK hKK => ?_
    by_cases hcase : m ≤ pre.length
    · have hnm : nv = m := by have := HNV.out; simp at this; omega
      subst hnm
      clear hKK
      gi_wp2
      dsimp only [Exit.inBlock, Exit.then, postB]
      refine ⟨Stay.refl _ _, rfl, by simp; omega, HM0.out, HC2.out, _, HONE.out, ?_, hkp, hkr⟩
      have h2 := HOWN.out
      rwa [show (pre ++ [x]).take nv = pre.take nv from List.take_append_of_le_length hcase]
    · have HNE : Hid (nv = pre.length) := by have := HNV.out; simp at this; show _ = _; omega
      have hni : ¬ (nv : Int) = (m : Int) := by have := HNE.out; omega
      have hKK' := hid hKK
      clear hKK
      gi_wp2
      refine hKK'.out _ _ ?_
      have HOWP : Hid (OwnElems 1 cT 9 W2 w4.heap.size (.slice Av nv cv) pre) := by
        have h2 := HOWN.out
        rwa [List.take_of_length_le (by omega)] at h2
      have HTP : Hid ((pre ++ [x]).take m = pre ++ [x]) := List.take_of_length_le (by simp; omega)
      obtain ⟨ip, hip, hzp, hsp, hyp⟩ := info_parts info_text
      clear hni
      refine region_in_round_list (by kernel_rfl) (fun _ _ h => h) ?_
      go_wp2_with (at_builtin; refine wpList_append_rows _ rfl (.tmp 64) (.tmp 66) 53 rfl w4.heap.size 9 ip _ 1 16 Tryz.underlying53 hip hzp hsp hyp rfl (by omega) cT_one _ _ rfl (HOWP.out.alloc _) _ [x] rfl (rows_new _ 1 cT cT_len x _) ?h63 ?hby ?hba ?_; (case h63 => (simp [maxLen]; omega)); (case hby => (simp; omega)); (case hba => (have := HC2.out.size; simp; omega)); intro v2 w5 ho4 hg4 hf4; obtain ⟨A2, n2, cc2, rfl⟩ := ho4.rows.form; have HO4 := hid ho4; have HG4 := hid hg4; have HF4 := hid hf4; have HONE4' : Hid (One w5 w2.heap.size 53 (.slice Av nv cv)) := (One.keep (One.alloc HONE.out _) (hg4.block _ (by have := HONE.out.lt; simp; omega) (fun e => by have := (HOWP.out.lt _ (mem_ownFoot.2 e.symm)).1; omega))); have qp := HONE4'.out.cell; have qf := HONE4'.out.frozen; clear ho4 hg4 hf4)
      dsimp only [Exit.inBlock, postB]
      have hne : w2.heap.size ∉ ownFoot (.slice A2 n2 cc2) := fun h => by have := (HO4.out.lt _ h).1; omega
      have hW4 := HG4.out.size
      have hbW := HONE.out.lt
      refine ⟨⟨?_, fun b hb => ?_⟩, ?_, ?_, _, HONE4'.out.set _, ?_, hkp, fun b hb hKb => ?_⟩
      · simp [World.setCell] at hW4 ⊢; omega
      · have hbl : b < W2.heap.size := Nat.lt_of_lt_of_le (hKW b hb) HW2.out
        have h1 : b ≠ w2.heap.size := fun e => hkp (e ▸ hb)
        refine (Below.heap_setCell _ _ _ _ h1).trans ((HG4.out.block b (by simp; omega) fun e => hkr b (mem_ownFoot.2 e.symm) hb).trans (Below.heap_alloc _ _ _ hbl))
      · have hq1 : w.heap.size < W2.heap.size := blk_lt HM0.out
        have hqm : w.heap.size ≠ w2.heap.size := by have := HQ2.out.lt; omega
        refine (World.cell?_of_block ?_).trans HM0.out
        refine (Below.heap_setCell _ _ _ _ hqm).trans ((HG4.out.block _ (by simp; omega) fun e => ?_).trans (Below.heap_alloc _ _ _ hq1))
        have h9 : w4.heap.size ≤ w.heap.size := (HOWP.out.lt _ (mem_ownFoot.2 e.symm)).1
        have := HQ4.out.lt
        omega
      · have hs3 := HC2.out.size
        refine ⟨HG4.out.os.trans HC2.out.os, HG4.out.tape.trans HC2.out.tape, HG4.out.output.trans HC2.out.output, by simp [World.setCell] at hW4 ⊢; omega, fun k hk hn => ?_, fun k hk => .inl hk⟩
        refine (Below.heap_setCell _ _ _ _ (fun e => hn (by rw [e]; simp))).trans ((HG4.out.block k (by simp; omega) fun e => ?_).trans ((Below.heap_alloc _ _ _ (by omega)).trans (HC2.out.block k hk hn)))
        have := (HOWP.out.lt k (mem_ownFoot.2 e.symm)).1
        omega
      · rw [HTP.out]
        exact HO4.out.keep fun b hb => Below.heap_setCell _ _ _ _ (fun e => hne (by rw [e] at hb; exact hb))
      · rcases HF4.out b hb with h | h
        · exact hkr b h hKb
        · have h1 := hKW b hKb
          have h2 := HW2.out
          simp at h
          omega
  case done =>
    rintro D Kd W ⟨h0, hcw, v, hone, hown, _, hkr⟩ _ hKD hD hK
    have HCW := hid hcw
    have HOW := hid hown
    have HKR := hid hkr
    have HKD := hid hKD
    have HDD := hid hD
    have HSH := hid hK
    have qp := hone.cell
    clear hcw hown hkr hKD hD hK hone h0
    go_wp2
    refine ⟨by simp, .inl ⟨_, _, rfl, run_takeDeferred HSH.out, ?_⟩⟩
    have hD' : w.heap.size ≤ D := by have := HDD.out; have := HBW3.out.size; have := HB4.out.size; omega
    have hbw : Below w.heap.size w W := by
      have h1 : Chg [] w w4 [w2.heap.size, cu] := (Chg.of_below (F := []) (below_step HBW3.out HB4.out)).less fun k hk => by
        simp at hk
        rcases hk with rfl | rfl
        · exact .inr HB2.out.size
        · exact .inr (by omega)
      exact (h1.trans HCW.out).below (fun _ h => by cases h) (Nat.le_refl _)
    refine ⟨.tuple #[v, .int .i64 0], ?_, v, rfl, ?_, ?_⟩
    · simp [results, Tryz.f40, go_sem]
    · rw [HRES.out]
      refine OwnElems.down_ (HOW.out.keep fun b hb => World.putObj_heap_other fun e => HKR.out b hb ?_) (by have := HBW3.out.size; have := HB4.out.size; omega)
      rw [e]; exact HKD.out
    · exact hbw.trans (belowK_b (w := w) (Nat.le_refl _) _ D _ _ hD' HSH.out rfl rfl)
end Go.Proofs.YtlnagdodnkhbmaaGreat

/- Which rows a range of a column's values has: by value, then by key. No program but Find's call. -/
namespace Go.Proofs.YtlnagdodnkhbmaaGreat
open Go.RowKit
set_option maxRecDepth 100000

theorem rising_ext : ∀ {A B : List Pr}, Rising A → Rising B → (∀ q, q ∈ A ↔ q ∈ B) → A = B
  | [], [], _, _, _ => rfl
  | [], b :: B, _, _, h => by have := (h b).2 List.mem_cons_self; cases this
  | a :: A, [], _, _, h => by have := (h a).1 List.mem_cons_self; cases this
  | a :: A, b :: B, hA, hB, h => by
    unfold Rising at hA hB
    rw [List.pairwise_cons] at hA hB
    have e : a = b := by
      rcases List.mem_cons.1 ((h a).1 List.mem_cons_self) with e | h1
      · exact e
      rcases List.mem_cons.1 ((h b).2 List.mem_cons_self) with e | h2
      · exact e.symm
      exact absurd (List.lt_trans (hB.1 a h1) (hA.1 b h2)) (List.lt_irrefl _)
    subst e
    congr 1
    refine rising_ext hA.2 hB.2 fun q => ⟨fun hq => ?_, fun hq => ?_⟩
    · rcases List.mem_cons.1 ((h q).1 (List.mem_cons_of_mem _ hq)) with e | h1
      · subst e; exact absurd (hA.1 _ hq) (List.lt_irrefl _)
      · exact h1
    · rcases List.mem_cons.1 ((h q).2 (List.mem_cons_of_mem _ hq)) with e | h1
      · subst e; exact absurd (hB.1 _ hq) (List.lt_irrefl _)
      · exact h1
theorem getL_free {l : List Pr} {k : List Nat} (h : ∀ q ∈ l, q.1 ≠ k) : getL l k = none := by
  cases hg : getL l k with
  | none => rfl
  | some v => exact absurd rfl (h _ (List.mem_of_getElem? (getL_some hg)))

/-- Is a row's value within? -/
def inR (c : Nat) (lo hi : Int) (q : KR) : Bool := decide (lo ≤ q.2.at c) && decide (q.2.at c ≤ hi)
/-- The place of a row among rows by their values, then keys; with it. -/
def posC (c : Nat) (F : List KR) (x : KR) : Nat := atN (F.map (entC c)) (entB (x.2.at c) x.1)
def insC (c : Nat) (F : List KR) (x : KR) : List KR := F.take (posC c F x) ++ [x] ++ F.drop (posC c F x)
theorem insC_perm (c : Nat) (F : List KR) (x : KR) : (insC c F x).Perm (x :: F) := by
  unfold insC
  refine (mid_perm _ _ _).trans ?_
  rw [List.take_append_drop]
theorem insC_map {c : Nat} {F : List KR} {x : KR} (h : ∀ q ∈ F, q.1 ≠ x.1) : (insC c F x).map (entC c) = putL (F.map (entC c)) (entB (x.2.at c) x.1) [] := by
  unfold insC putL
  rw [getL_free (l := F.map (entC c)) (fun q hq => ?_), if_neg (by simp), List.map_append, List.map_append, List.map_take, List.map_drop]
  · rfl
  · obtain ⟨y, hy, rfl⟩ := List.mem_map.1 hq
    intro e
    exact h y hy (entB_key e)
/-- The rows of a range of values, in order. -/
def tellK (c : Nat) (lo hi : Int) (l : List KR) : List KR := (l.filter (inR c lo hi)).foldl (insC c) []
theorem tell_fold (c : Nat) : ∀ (M F : List KR), Rising (F.map (entC c)) → (∀ q ∈ F, ∀ y ∈ M, q.1 ≠ y.1) → M.Pairwise (fun a b => a.1 ≠ b.1) → Rising ((M.foldl (insC c) F).map (entC c)) ∧ (M.foldl (insC c) F).Perm (M ++ F)
  | [], F, h, _, _ => ⟨h, List.Perm.refl _⟩
  | x :: M, F, h, hd, hp => by
    have hp' := List.pairwise_cons.1 hp
    have h1 : ∀ q ∈ F, q.1 ≠ x.1 := fun q hq => hd q hq x List.mem_cons_self
    have h2 := insC_perm c F x
    obtain ⟨h3, h4⟩ := tell_fold c M (insC c F x) (by rw [insC_map h1]; exact putL_rising h _ _) (fun q hq y hy => by
      rcases List.mem_cons.1 (h2.mem_iff.1 hq) with rfl | hq
      · exact hp'.1 y hy
      · exact hd q hq y (List.mem_cons_of_mem _ hy)) hp'.2
    refine ⟨h3, h4.trans ?_⟩
    refine ((List.Perm.refl M).append h2).trans ?_
    rw [List.cons_append]
    exact List.perm_middle
theorem RowsOk.diff {l : List KR} (h : RowsOk l) : l.Pairwise (fun a b => a.1 ≠ b.1) := h.rise.imp fun {a b} hab => fun e => by rw [e] at hab; exact List.lt_irrefl _ hab
theorem tellK_ok {l : List KR} (h : RowsOk l) (c : Nat) (lo hi : Int) : Rising ((tellK c lo hi l).map (entC c)) ∧ (tellK c lo hi l).Perm (l.filter (inR c lo hi)) := by
  obtain ⟨h1, h2⟩ := tell_fold c (l.filter (inR c lo hi)) [] List.Pairwise.nil (by simp) (h.diff.sublist List.filter_sublist)
  exact ⟨h1, by rwa [List.append_nil] at h2⟩
theorem tellK_mem {l : List KR} (h : RowsOk l) {c : Nat} {lo hi : Int} {q : KR} : q ∈ tellK c lo hi l ↔ q ∈ l ∧ lo ≤ q.2.at c ∧ q.2.at c ≤ hi := by
  rw [(tellK_ok h c lo hi).2.mem_iff, List.mem_filter]
  simp [inR]
theorem tellK_len {l : List KR} (h : RowsOk l) (c : Nat) (lo hi : Int) : (tellK c lo hi l).length ≤ l.length := by
  rw [(tellK_ok h c lo hi).2.length_eq]
  exact List.length_filter_le _ _
theorem entB_lo {x lo : Int} (hx : I64 x) (hl : I64 lo) (k : List Nat) : entB x k < wv lo ↔ x < lo := by
  have := wv_lt hx hl k []
  rw [List.append_nil] at this
  unfold entB
  rw [this]
  constructor
  · rintro (h | ⟨_, h⟩)
    · exact h
    · exact absurd h (List.not_lt_nil _)
  · exact .inl
theorem seq_mem {I : List Pr} (_hr : Rising I) {hi : List Nat} {j : Nat} {q : Pr} : q ∈ seq I hi j ↔ ∃ i, I[i]? = some q ∧ j ≤ i ∧ i < endN I hi := by
  constructor
  · intro h
    obtain ⟨k, hk⟩ := List.getElem?_of_mem h
    rw [seq_at] at hk
    split at hk
    · exact ⟨j + k, hk, by omega, by assumption⟩
    · cases hk
  · rintro ⟨i, hi', h1, h2⟩
    have : (seq I hi j)[i - j]? = some q := by
      rw [seq_at, show j + (i - j) = i by omega, if_pos h2]; exact hi'
    exact List.mem_of_getElem? this
theorem seq_tell {c : Nat} {l : List KR} {I : List Pr} (h : Idx c l I) (hl : RowsOk l) (hc : c < 4) {lo hi : Int} (hlo : I64 lo) (hhi : I64 hi) : seq I (toB hi) (atN I (wv lo)) = (tellK c lo hi l).map (entC c) := by
  have hsub : (seq I (toB hi) (atN I (wv lo))).Sublist I := by
    unfold seq
    exact (List.drop_sublist _ _).trans (List.take_sublist _ _)
  refine rising_ext (rising_sub h.rise hsub) (tellK_ok hl c lo hi).1 fun q => ?_
  rw [seq_mem h.rise, List.mem_map]
  constructor
  · rintro ⟨i, hq, h1, h2⟩
    obtain ⟨x, hx, rfl⟩ := h.mem.1 (List.mem_of_getElem? hq)
    have hxo := (hl.ok x hx).at hc
    refine ⟨x, (tellK_mem hl).2 ⟨hx, ?_, ?_⟩, rfl⟩
    · have h3 := (atN_iff (k := wv lo) h.rise hq)
      have h4 : ¬ entB (x.2.at c) x.1 < wv lo := fun h5 => by have := h3.1 h5; omega
      rw [entB_lo hxo hlo] at h4
      omega
    · unfold endN at h2
      unfold toB at h2
      by_cases e : hi = 9223372036854775807
      · have := hxo.2; omega
      · rw [if_neg e, if_neg (fun e' => by have := congrArg List.length e'; rw [wv_len] at this; simp at this)] at h2
        have h3 := (atN_iff (k := wv (hi + 1)) h.rise hq).2 h2
        have h4 := (entB_lo hxo (lo := hi + 1) ⟨by have := hhi.1; omega, by have := hhi.2; omega⟩ x.1).1 h3
        omega
  · rintro ⟨x, hx, rfl⟩
    obtain ⟨hm, h1, h2⟩ := (tellK_mem hl).1 hx
    have hxo := (hl.ok x hm).at hc
    obtain ⟨i, hi'⟩ := List.getElem?_of_mem (h.mem.2 ⟨x, hm, rfl⟩)
    refine ⟨i, hi', ?_, ?_⟩
    · have h3 := (atN_iff (k := wv lo) h.rise hi')
      have h4 : ¬ i < atN I (wv lo) := fun h5 => by
        have h6 := (entB_lo hxo hlo x.1).1 (h3.2 h5)
        omega
      omega
    · unfold endN toB
      by_cases e : hi = 9223372036854775807
      · rw [if_pos e, if_pos rfl]; exact (List.getElem?_eq_some_iff.1 hi').1
      · rw [if_neg e, if_neg (fun e' => by have := congrArg List.length e'; rw [wv_len] at this; simp at this)]
        refine (atN_iff (k := wv (hi + 1)) h.rise hi').1 ?_
        exact (entB_lo hxo (lo := hi + 1) ⟨by have := hhi.1; omega, by have := hhi.2; omega⟩ x.1).2 (by omega)
/-- What Find tells. -/
def findL (c : Nat) (lo hi : Int) (m : Nat) (l : List KR) : List (List Nat) := ((tellK c lo hi l).map Prod.fst).take m
theorem findK_findL {c : Nat} {l : List KR} {I : List Pr} (h : Idx c l I) (hl : RowsOk l) (hc : c < 4) {lo hi : Int} (hlo : I64 lo) (hhi : I64 hi) (m : Nat) : findK I lo hi m = findL c lo hi m l := by
  unfold findK findL
  rw [seq_tell h hl hc hlo hhi]
  unfold keysOf
  rw [List.map_map]
  congr 2
theorem tfind {w : World} {T : Nat} {p : Nat → Nat} {Q : Bl} {most o : Nat} {l : List KR} (h : Tab w T p Q most o l) (c : Nat) (hc : c < 4) (lo hi : Int) (m : Nat) (hl : I64 lo) (hh : I64 hi) (hle : lo ≤ hi) (hm : m ≤ 9223372036854775807) :
    Calls Tryz.prog 40 #[.pointer (some ⟨T, 0, none⟩), .int .i64 (c : Int), .int .i64 lo, .int .i64 hi, .int .i64 (m : Int)] w (FindEnd w (findL c lo hi m l)) := by
  have hlen := h.le
  obtain ⟨J, hT, hok, _⟩ := h
  rw [← findK_findL (hok.idx c hc) hok.rows hc hl hh m]
  exact tfind_ok hT hok hlen c hc lo hi m hl hh hle hm
end Go.Proofs.YtlnagdodnkhbmaaGreat

/- The order of entries, as the reference has it. -/
namespace Go.Proofs.YtlnagdodnkhbmaaGreat
open Go.RowKit
set_option maxRecDepth 100000

theorem app_lt : ∀ (l : List Nat) {a b : List Nat}, (l ++ a < l ++ b) ↔ a < b
  | [], _, _ => Iff.rfl
  | x :: l, a, b => by
    rw [List.cons_append, List.cons_append, List.cons_lt_cons_iff]
    have := app_lt l (a := a) (b := b)
    constructor
    · rintro (h | ⟨_, h⟩)
      · omega
      · exact this.1 h
    · intro h; exact .inr ⟨rfl, this.2 h⟩
theorem cut_at {xs : List Nat} {k x : Nat} (h : xs[k]? = some x) : xs = xs.take k ++ x :: xs.drop (k + 1) := by
  obtain ⟨hk, rfl⟩ := List.getElem?_eq_some_iff.1 h
  rw [← List.drop_eq_getElem_cons hk, List.take_append_drop]
theorem cmpL_at {a b : List Nat} {k x y : Nat} (hx : a[k]? = some x) (hy : b[k]? = some y) (ht : a.take k = b.take k) (h : x < y) : a < b := by
  rw [cut_at hx, cut_at hy, ht, app_lt, List.cons_lt_cons_iff]
  exact .inl h
theorem cmpL_short {a b : List Nat} (hl : a.length < b.length) (ht : a = b.take a.length) : a < b := by
  have hb : b = a ++ b.drop a.length := by
    conv => lhs; rw [← List.take_append_drop a.length b, ← ht]
  have hd : b.drop a.length ≠ [] := by
    intro e
    have := congrArg List.length e
    rw [List.length_drop] at this
    simp at this; omega
  rw [hb]
  have : a ++ [] < a ++ b.drop a.length := by
    rw [app_lt]
    cases hq : b.drop a.length with
    | nil => exact absurd hq hd
    | cons y ys => exact List.nil_lt_cons y ys
  rwa [List.append_nil] at this
theorem cmpL_of_gt {a b : List Nat} (h : b < a) : cmpL a b = 1 := by
  refine cmpL_gt (fun h' => ?_) (fun e => ?_)
  · exact List.lt_irrefl _ (List.lt_trans h h')
  · subst e; exact List.lt_irrefl _ h
theorem refcompare_no (w : World) (n m : Int) (s t : ByteArray) (h : n ≠ m) : Calls Tryz.prog 48 #[.int .i64 n, .string s, .int .i64 m, .string t] w fun e w' => e = .returned (.int .i64 (if n < m then -1 else 1)) ∧ w' = w := by
  by_cases h' : n < m
  · rw [if_pos h']
    go_enter Tryz.func48, Tryz.ntmps48
    go_wp2
    go_ret
    exact ⟨rfl, rfl⟩
  · rw [if_neg h']
    go_enter Tryz.func48, Tryz.ntmps48
    go_wp2
    go_ret
    exact ⟨rfl, rfl⟩
theorem refcompare_same (w : World) (n : Int) (xs ys : List Nat) (hx : Byt xs) (hy : Byt ys) (hlx : xs.length ≤ 1000000) (hly : ys.length ≤ 1000000) :
    Calls Tryz.prog 48 #[.int .i64 n, .string (str xs), .int .i64 n, .string (str ys)] w fun e w' => e = .returned (.int .i64 (cmpL xs ys)) ∧ ∃ n, w' = w.drewN n := by
  have hsx := str_size xs
  have hsy := str_size ys
  obtain ⟨r, HR⟩ : ∃ r, Hid (r = cmpL xs ys) := ⟨_, rfl⟩
  rw [← HR.out]
  go_enter Tryz.func48, Tryz.ntmps48
  go_wp2
  go_loopw [9] (fun i wr => ∃ k : Nat, k ≤ xs.length ∧ k ≤ ys.length ∧ i = .int .i64 k ∧ Hid (xs.take k = ys.take k) ∧ ∃ n, wr = w.drewN n) (fun i _ => xs.length - (intOf i).toNat)
  case atStart => exact ⟨0, by omega, by omega, rfl, rfl, 0, rfl⟩
  case round =>
    obtain ⟨k, hk, hk', rfl, HE, N, rfl⟩ := hrel
    by_cases h1 : k < xs.length
    · have h1i : (k : Int) < xs.length := by omega
      by_cases h2 : k < ys.length
      · have h2i : (k : Int) < ys.length := by omega
        obtain ⟨x, hxk⟩ : ∃ b, xs[k]? = some b := ⟨xs[k]'(by omega), List.getElem?_eq_getElem _⟩
        obtain ⟨y, hyk⟩ : ∃ b, ys[k]? = some b := ⟨ys[k]'(by omega), List.getElem?_eq_getElem _⟩
        obtain ⟨hsz, hget⟩ := str_get hxk hx
        obtain ⟨hsz', hget'⟩ := str_get hyk hy
        have HX := hid hxk
        have HY := hid hyk
        clear hxk hyk
        by_cases hxy : x = y
        · go_wp2
          go_quiet (fail)
          go_wp2
          go_roundw
          case rel => exact ⟨k + 1, by omega, by omega, by go_num, take_snoc_eq HE.out HX.out (hxy ▸ HY.out), _, rfl⟩
          case measure => simp [intOf]; omega
        · by_cases hlt : x < y
          · have HL := hid (cmpL_lt (cmpL_at HX.out HY.out HE.out hlt))
            go_wp2
            go_quiet (fail)
            go_wp2
            go_quiet (fail)
            go_wp2
            go_ret
            exact ⟨by rw [HR.out, HL.out]; rfl, _, by simp only [World.drewN_drewN]; rfl⟩
          · have HL := hid (cmpL_of_gt (cmpL_at HY.out HX.out HE.out.symm (by omega)))
            go_wp2
            go_quiet (fail)
            go_wp2
            go_quiet (fail)
            go_wp2
            go_ret
            exact ⟨by rw [HR.out, HL.out]; rfl, _, by simp only [World.drewN_drewN]; rfl⟩
      · have hke : k = ys.length := by omega
        have h2i : ¬ (k : Int) < ys.length := by omega
        have HL := hid (cmpL_of_gt (cmpL_short (a := ys) (b := xs) (by omega) (by rw [← hke, HE.out, List.take_of_length_le (by omega)])))
        have h3 : (ys.length : Int) < xs.length := by omega
        go_wp2
        go_ret
        exact ⟨by rw [HR.out, HL.out]; rfl, _, rfl⟩
    · have hke : k = xs.length := by omega
      have h1i : ¬ (k : Int) < xs.length := by omega
      by_cases h2 : xs.length < ys.length
      · have HL := hid (cmpL_lt (cmpL_short (a := xs) (b := ys) h2 (by rw [← hke, ← HE.out, List.take_of_length_le (by omega)])))
        have h3 : (xs.length : Int) < ys.length := by omega
        go_wp2
        go_ret
        exact ⟨by rw [HR.out, HL.out]; rfl, _, rfl⟩
      · have he : xs = ys := by
          have := HE.out
          rwa [List.take_of_length_le (by omega), List.take_of_length_le (by omega)] at this
        have HL := hid (show cmpL xs ys = 0 by rw [he]; exact cmpL_eq ys)
        have h3 : (xs.length : Int) = ys.length := by rw [he]
        clear he
        go_wp2
        go_ret
        exact ⟨by rw [HR.out, HL.out]; rfl, _, rfl⟩
theorem refcompare_any (w : World) (n m : Int) (xs ys : List Nat) (hx : Byt xs) (hy : Byt ys) (hlx : xs.length ≤ 1000000) (hly : ys.length ≤ 1000000) :
    Calls Tryz.prog 48 #[.int .i64 n, .string (str xs), .int .i64 m, .string (str ys)] w fun e w' => e = .returned (.int .i64 (cmpE n xs m ys)) ∧ ∃ n, w' = w.drewN n := by
  by_cases h : n = m
  · subst h
    rw [show cmpE n xs n ys = cmpL xs ys by unfold cmpE; rw [if_neg (Int.lt_irrefl n), if_neg (Int.lt_irrefl n)]]
    exact refcompare_same w n xs ys hx hy hlx hly
  · refine (refcompare_no w n m _ _ h).mono ?_
    rintro e w' ⟨rfl, rfl⟩
    refine ⟨?_, 0, rfl⟩
    unfold cmpE
    by_cases h' : n < m
    · rw [if_pos h', if_pos h']
    · rw [if_neg h', if_neg h', if_pos (by omega)]
end Go.Proofs.YtlnagdodnkhbmaaGreat

/- The reference's Find. -/
namespace Go.Proofs.YtlnagdodnkhbmaaGreat
open Go.RowKit
set_option maxRecDepth 100000

theorem QAt.col {w : World} {a : Addr} {q : KR} (h : QAt w a q) {c : Nat} (hc : c < 4) : w.cell? { block := a.block, off := a.off + 1 + c, spot := none } = some (.int .i64 (q.2.at c)) := by
  obtain ⟨_, h1, h2, h3, h4⟩ := h
  match c with
  | 0 => exact h1
  | 1 => exact h2
  | 2 => exact h3
  | 3 => exact h4
  | c + 4 => omega
theorem qAt_new (w : World) (q : KR) : QAt (w.alloc (.cells #[.string (str q.1), .int .i64 q.2.a, .int .i64 q.2.b, .int .i64 q.2.c, .int .i64 q.2.d] 97)) ⟨w.heap.size, 0, none⟩ q :=
  ⟨cell_of_row _ _ 0 _ _ _ (heap_alloc_new w _), cell_of_row _ _ 1 _ _ _ (heap_alloc_new w _), cell_of_row _ _ 2 _ _ _ (heap_alloc_new w _), cell_of_row _ _ 3 _ _ _ (heap_alloc_new w _), cell_of_row _ _ 4 _ _ _ (heap_alloc_new w _)⟩
theorem QAt.drewN {w : World} {a : Addr} {q : KR} (h : QAt w a q) (n : Nat) : QAt (w.drewN n) a q := h.below (below_drewN' (Below.refl _ _) n)
theorem cmpE_lt {n m : Int} {a b : List Nat} (hn : I64 n) (hm : I64 m) : cmpE n a m b < 0 ↔ entB n a < entB m b := by
  have h := wv_lt hn hm a b
  show _ ↔ wv n ++ a < wv m ++ b
  rw [h]
  unfold cmpE
  by_cases h1 : n < m
  · rw [if_pos h1]; simp [h1]
  · rw [if_neg h1]
    by_cases h2 : m < n
    · rw [if_pos h2]
      constructor
      · intro h; omega
      · rintro (h | ⟨h, _⟩) <;> omega
    · rw [if_neg h2]
      have he : n = m := by omega
      unfold cmpL
      by_cases h3 : a < b
      · rw [if_pos h3]
        exact ⟨fun _ => .inr ⟨he, h3⟩, fun _ => by omega⟩
      · rw [if_neg h3]
        constructor
        · intro h4; split at h4 <;> omega
        · rintro (h4 | ⟨_, h4⟩)
          · omega
          · exact absurd h4 h3
theorem posC_of (c : Nat) (F : List KR) (x : KR) (n : Nat) (hn : n ≤ F.length) (h1 : ∀ (j : Nat) (q : KR), j < n → F[j]? = some q → entB (q.2.at c) q.1 < entB (x.2.at c) x.1) (h2 : ∀ q : KR, F[n]? = some q → ¬ entB (q.2.at c) q.1 < entB (x.2.at c) x.1) : posC c F x = n := by
  refine atN_of _ _ n (by rw [List.length_map]; exact hn) (fun j y hj hy => ?_) (fun y hy => ?_)
  · rw [List.getElem?_map] at hy
    cases hq : F[j]? with
    | none => rw [hq] at hy; cases hy
    | some q => rw [hq] at hy; cases hy; exact h1 j q hj hq
  · rw [List.getElem?_map] at hy
    cases hq : F[n]? with
    | none => rw [hq] at hy; cases hy
    | some q => rw [hq] at hy; cases hy; exact h2 q hq
/-- What has been found of the first rows. -/
def foundK (c : Nat) (lo hi : Int) (l : List KR) (k : Nat) : List KR := tellK c lo hi (l.take k)
theorem foundK_step {c : Nat} {lo hi : Int} {l : List KR} {k : Nat} {q : KR} (h : l[k]? = some q) : foundK c lo hi l (k + 1) = if inR c lo hi q then insC c (foundK c lo hi l k) q else foundK c lo hi l k := by
  unfold foundK tellK
  rw [List.take_add_one, h, List.filter_append, List.foldl_append]
  cases hq : inR c lo hi q <;> simp [hq]
theorem RowsOk.take {l : List KR} (h : RowsOk l) (k : Nat) : RowsOk (l.take k) :=
  ⟨h.rise.sublist (List.take_sublist _ _), fun q hq => h.byt q (List.mem_of_mem_take hq), fun q hq => h.key q (List.mem_of_mem_take hq), fun q hq => h.ok q (List.mem_of_mem_take hq)⟩
theorem foundK_mem {l : List KR} (h : RowsOk l) {c : Nat} {lo hi : Int} {k : Nat} {q : KR} (hq : q ∈ foundK c lo hi l k) : q ∈ l := List.mem_of_mem_take ((tellK_mem (h.take k)).1 hq).1
theorem foundK_len {l : List KR} (h : RowsOk l) (c : Nat) (lo hi : Int) (k : Nat) : (foundK c lo hi l k).length ≤ l.length := by
  have h1 := tellK_len (h.take k) c lo hi
  unfold foundK
  simp at h1; omega
structure OutRel (W : World) (lo hi : Int) (F : List KR) (v : Value) (wr : World) : Prop where
  f : OwnElems 5 cQ 97 wr W.heap.size v F
  b : Below W.heap.size W wr
  t : wr.heap[W.heap.size]? = some (.cells #[.int .i64 lo, .int .i64 hi] 58 (0, 0))
theorem OutRel.drewN {W : World} {lo hi : Int} {F : List KR} {v : Value} {wr : World} (h : OutRel W lo hi F v wr) (n : Nat) : OutRel W lo hi F v (wr.drewN n) := ⟨h.f.keep fun _ _ => rfl, below_drewN' h.b n, h.t⟩
theorem OutRel.below {W : World} {lo hi : Int} {F : List KR} {v : Value} {wr w' : World} (h : OutRel W lo hi F v wr) (hb : Below wr.heap.size wr w') : OutRel W lo hi F v w' := ⟨h.f.keep fun b hbm => hb.block b (h.f.lt b hbm).2, below_step h.b hb, (hb.block _ (Array.getElem?_eq_some_iff.1 h.t).1).trans h.t⟩
theorem OwnElems.same_below {w w' : World} {base : Nat} {e : TypeId} {v : Value} {l : List KR} (h : OwnElems 5 cQ e w base v l) (hb : Below w.heap.size w w') : OwnElems 5 cQ e w' base v l := h.keep fun b hbm => hb.block b (h.lt b hbm).2
/-- What the reference's Find leaves. -/
def RFindEnd (w : World) (L : List (List Nat)) (e : Ending) (w' : World) : Prop := ∃ v, e = .returned v ∧ OwnElems 1 cT 9 w' w.heap.size v L ∧ Below w.heap.size w w'
set_option maxHeartbeats 4000000 in
theorem rfind {w : World} {F : List Nat} {p most : Nat} {l : List KR} (hR : RTab w F p most l) (hok : RowsOk l) (hsz : l.length ≤ 1024) (c : Nat) (hc : c < 4) (lo hi : Int) (m : Nat) (hm : m ≤ 9223372036854775807) :
    Calls Tryz.prog 19 #[.pointer (some ⟨p, 0, none⟩), .int .i64 (c : Int), .agg #[.int .i64 lo, .int .i64 hi], .int .i64 (m : Int)] w (RFindEnd w (findL c lo hi m l)) := by
  obtain ⟨i0, hi0, hz0, hs0, hy0⟩ := info_parts qinfo
  obtain ⟨it, hit, hzt, hst, hyt⟩ := info_parts info_text
  obtain ⟨u, h1, h2, _, _, _⟩ := hR
  obtain ⟨A, cap, rfl⟩ := h2.slice
  obtain ⟨len, HLEN⟩ : ∃ len, Hid (len = l.length) := ⟨_, rfl⟩
  have hpw := cell_of_row _ p 0 _ _ _ h1
  simp at hpw
  rw [← HLEN.out] at hpw
  have hlm : len ≤ 1024 := by rw [HLEN.out]; exact hsz
  have HP := hid hpw
  have HL := hid h2
  have HOK := hid hok
  rw [← HLEN.out] at HL
  have hci : (c : Int) < 4 := by omega
  have hc0 : (0 : Int) ≤ (c : Int) := by omega
  have HST : Hid (OutRel w lo hi (foundK c lo hi l 0) (.slice none 0 0) (w.alloc (.cells #[.int .i64 lo, .int .i64 hi] 58))) := ⟨OwnElems.nil _ _ _ _ _, (Below.refl _ _).alloc (Nat.le_refl _) _, heap_alloc_new w _⟩
  clear h1 h2 hpw hok hsz
  go_enter Tryz.func19, Tryz.ntmps19
  go_wp2
  go_loopw [9, 10] (fun v i wr => ∃ k : Nat, k ≤ len ∧ i = .int .i64 k ∧ OutRel w lo hi (foundK c lo hi l k) v wr) (fun _ i _ => len - (intOf i).toNat)
  case atStart => exact ⟨0, by omega, rfl, HST.out⟩
  case round =>
    obtain ⟨k, hk, rfl, hJ⟩ := hrel
    have HJ := hid hJ
    obtain ⟨Af, nf, cf, rfl⟩ := hJ.f.rows.form
    have hp := below_keep hJ.b _ _ HP.out
    clear hJ
    by_cases hlt : k < len
    · have hlti : (k : Int) < len := by omega
      obtain ⟨q, hq⟩ : ∃ q, l[k]? = some q := ⟨l[k]'(by have := HLEN.out; omega), List.getElem?_eq_getElem _⟩
      obtain ⟨ad, hA, hqa⟩ := HL.out.qat hq
      subst hA
      have HQA := hid (hqa.below HJ.out.b)
      obtain ⟨kx, r⟩ := q
      obtain ⟨d0, d1, d2, d3, d4⟩ := HQA.out
      dsimp only at d0 d1 d2 d3 d4
      have HSTEP := hid (foundK_step (c := c) (lo := lo) (hi := hi) hq)
      have hqm := List.mem_of_getElem? hq
      have HXO : Hid (I64 (r.at c)) := (HOK.out.ok _ hqm).at hc
      have HXB : Hid (Byt kx) := HOK.out.byt _ hqm
      have hxk : kx.length ≤ 1000000 := by have h := (keyB_yes (HOK.out.key _ hqm)).2.2; dsimp only at h; omega
      obtain ⟨x, HX⟩ : ∃ x, Hid (x = r.at c) := ⟨_, rfl⟩
      have HNA := hid (qAt_new wr (kx, r))
      have hxc := HNA.out.col hc
      obtain ⟨e0, e1, e2, e3, e4⟩ := HNA.out
      have t0 := cell_of_row _ _ 0 _ _ _ HJ.out.t
      have t1 := cell_of_row _ _ 1 _ _ _ HJ.out.t
      have t0 := below_keep ((Below.refl wr.heap.size wr).alloc (Nat.le_refl _) (.cells #[.string (str kx), .int .i64 r.a, .int .i64 r.b, .int .i64 r.c, .int .i64 r.d] 97)) _ _ t0
      have t1 := below_keep ((Below.refl wr.heap.size wr).alloc (Nat.le_refl _) (.cells #[.string (str kx), .int .i64 r.a, .int .i64 r.b, .int .i64 r.c, .int .i64 r.d] 97)) _ _ t1
      simp at t0 t1
      dsimp only at e0 e1 e2 e3 e4 hxc
      rw [← HX.out] at hxc HXO
      clear hqa hq hqm
      by_cases hxl : x < lo
      · have hd : decide (x < lo) = true := decide_eq_true hxl
        have HSK : Hid (foundK c lo hi l (k + 1) = foundK c lo hi l k) := by
          show _ = _
          rw [HSTEP.out, if_neg]
          unfold inR; dsimp only; rw [← HX.out]; simp; omega
        go_wp2
        go_quiet (fail)
        go_wp2
        go_roundw
        case rel => exact ⟨k + 1, by omega, by go_num, by rw [HSK.out]; exact (HJ.out.below ((Below.refl _ _).alloc (Nat.le_refl _) _)).drewN _⟩
        case measure => simp [intOf]; omega
      · have hd : decide (x < lo) = false := decide_eq_false hxl
        by_cases hxh : hi < x
        · have hd2 : decide (hi < x) = true := decide_eq_true hxh
          have HSK : Hid (foundK c lo hi l (k + 1) = foundK c lo hi l k) := by
            show _ = _
            rw [HSTEP.out, if_neg]
            unfold inR; dsimp only; rw [← HX.out]; simp; omega
          go_wp2
          go_quiet (fail)
          go_wp2
          go_roundw
          case rel => exact ⟨k + 1, by omega, by go_num, by rw [HSK.out]; exact (HJ.out.below ((Below.refl _ _).alloc (Nat.le_refl _) _)).drewN _⟩
          case measure => simp [intOf]; omega
        · have hd2 : decide (hi < x) = false := decide_eq_false hxh
          have HSK : Hid (foundK c lo hi l (k + 1) = insC c (foundK c lo hi l k) (kx, r)) := by
            show _ = _
            rw [HSTEP.out, if_pos]
            unfold inR; dsimp only; rw [← HX.out]; simp; omega
          go_wp2
          go_quiet (fail)
          rename_i nq
          obtain ⟨ws, HWS⟩ : ∃ ws, Hid (ws = (wr.alloc (.cells #[.string (str kx), .int .i64 r.a, .int .i64 r.b, .int .i64 r.c, .int .i64 r.d] 97)).drewN nq) := ⟨_, rfl⟩
          have HBS : Hid (Below wr.heap.size wr ws) := by rw [HWS.out]; exact below_drewN' ((Below.refl _ _).alloc (Nat.le_refl _) _) nq
          have HXS : Hid (QAt ws ⟨wr.heap.size, 0, none⟩ (kx, r)) := by rw [HWS.out]; exact HNA.out.drewN nq
          have HJS := hid (HJ.out.below HBS.out)
          rw [← HWS.out]
          obtain ⟨FF, HFF⟩ : ∃ FF, Hid (FF = foundK c lo hi l k) := ⟨_, rfl⟩
          have HFM : Hid (∀ y ∈ FF, y ∈ l) := fun y hy => by rw [HFF.out] at hy; exact foundK_mem HOK.out hy
          have HSZ : Hid (FF.length ≤ 1024) := by show _ ≤ _; rw [HFF.out]; have := foundK_len HOK.out c lo hi k; have := HLEN.out; omega
          rw [← HFF.out] at HJS HSK
          have HNF : Hid (nf = FF.length) := HJS.out.f.rows.cap.1
          have hnf : nf ≤ 1024 := by have := HSZ.out; have := HNF.out; omega
          clear e0 e1 e2 e3 e4 hxc t0 t1 hp d0 d1 d2 d3 d4 hd hd2
          go_wp2
          go_loopw [12] (fun i w' => ∃ j : Nat, j ≤ nf ∧ i = .int .i64 j ∧ Hid (∀ (i : Nat) (y : KR), i < j → FF[i]? = some y → entB (y.2.at c) y.1 < entB (r.at c) kx) ∧ ∃ mm, w' = ws.drewN mm) (fun i _ => nf - (intOf i).toNat)
          case atStart => exact ⟨0, by omega, rfl, fun i y hi => by omega, 0, rfl⟩
          case round =>
            obtain ⟨j, hjn, rfl, HPJ, mm, rfl⟩ := hrel
            have HXQ := hid (HXS.out.drewN mm)
            have hxc := HXS.out.col hc
            have hxk0 := HXS.out.1
            dsimp only at hxc hxk0
            rw [← HX.out] at hxc
            have HFIN : Hid (∀ wv : World, wv = ws.drewN mm → (∀ y : KR, FF[j]? = some y → ¬ entB (y.2.at c) y.1 < entB (r.at c) kx) → posC c FF (kx, r) = j) := fun _ _ hno => posC_of c FF (kx, r) j (by have := HNF.out; omega) HPJ.out hno
            by_cases hjlt : j < nf
            · have hji : (j : Int) < nf := by omega
              obtain ⟨y, hy⟩ : ∃ y, FF[j]? = some y := ⟨FF[j]'(by have := HNF.out; omega), List.getElem?_eq_getElem _⟩
              obtain ⟨adf, hAf, hya⟩ := HJS.out.f.rows.qat hy
              subst hAf
              have hyc := hya.col hc
              have hyk := hya.1
              have hym := HFM.out y (List.mem_of_getElem? hy)
              have HYO : Hid (I64 (y.2.at c)) := (HOK.out.ok _ hym).at hc
              have HYB : Hid (Byt y.1) := HOK.out.byt _ hym
              have hyl : y.1.length ≤ 1000000 := by have h := (keyB_yes (HOK.out.key _ hym)).2.2; omega
              obtain ⟨E, HE⟩ : ∃ E, Hid (E = cmpE (y.2.at c) y.1 x kx) := ⟨_, rfl⟩
              have HCMP : Hid (∀ W : World, Calls Tryz.prog 48 #[.int .i64 (y.2.at c), .string (str y.1), .int .i64 x, .string (str kx)] W fun e w' => e = .returned (.int .i64 E) ∧ ∃ n, w' = W.drewN n) := fun W => by rw [HE.out]; exact refcompare_any W _ _ _ _ HYB.out HXB.out hyl hxk
              have HEL : Hid (E < 0 ↔ entB (y.2.at c) y.1 < entB (r.at c) kx) := by show _ ↔ _; rw [HE.out, ← HX.out]; exact cmpE_lt HYO.out HXO.out
              obtain ⟨yv, HYV⟩ : ∃ yv, Hid (yv = y.2.at c) := ⟨_, rfl⟩
              rw [← HYV.out] at hyc HCMP
              have HY := hid hy
              clear hya hy hym
              by_cases hE : E < 0
              · have HPN : Hid (∀ (i : Nat) (z : KR), i < j + 1 → FF[i]? = some z → entB (z.2.at c) z.1 < entB (r.at c) kx) := fun i z hi hz => by
                  rcases Nat.lt_or_ge i j with h | h
                  · exact HPJ.out i z h hz
                  · obtain rfl : i = j := by omega
                    have := HY.out
                    rw [hz] at this
                    injection this with this
                    subst this
                    exact HEL.out.1 hE
                have hEd : decide (E < 0) = true := decide_eq_true hE
                go_wp2
                go_quiet (first | (go_at_call 48; refine (HCMP.out _).mono ?_; rintro e w' ⟨he, n, hn⟩; exact ⟨he, _, by rw [hn, World.drewN_drewN, Nat.add_assoc]⟩))
                go_wp2
                go_roundw
                case rel => exact ⟨j + 1, by omega, by go_num, HPN.out, _, rfl⟩
                case measure => simp [intOf]; omega
              · have hEd : decide (E < 0) = false := decide_eq_false hE
                have HPOS : Hid (posC c FF (kx, r) = j) := HFIN.out _ rfl fun z hz => by
                  have := HY.out
                  rw [hz] at this
                  injection this with this
                  subst this
                  exact fun h => hE (HEL.out.2 h)
                have hjf : j ≤ nf := by omega
                go_wp2
                go_quiet (first | (go_at_call 48; refine (HCMP.out _).mono ?_; rintro e w' ⟨he, n, hn⟩; exact ⟨he, _, by rw [hn, World.drewN_drewN, Nat.add_assoc]⟩))
                obtain ⟨wq, HWQ⟩ : ∃ wq, Hid (wq = (ws.drewN mm).drewN nq) := ⟨_, rfl⟩
                have HBQ : Hid (Below ws.heap.size ws wq) := by rw [HWQ.out]; exact below_drewN' (below_drewN' (Below.refl _ _) _) _
                have HXQ2 := hid (HXS.out.below HBQ.out)
                have HJQ := hid (HJS.out.below HBQ.out)
                first | rw [← HWQ.out] | (rw [World.drewN_drewN] at HWQ; rw [← HWQ.out])
                obtain ⟨VA, HVA⟩ : ∃ V, Hid (V = sliced (some adf) 0 j cf 5) := ⟨_, rfl⟩
                obtain ⟨VC, HVC⟩ : ∃ V, Hid (V = sliced (some adf) j nf cf 5) := ⟨_, rfl⟩
                have hcap := HJQ.out.f.rows.cap
                have hcA : ∀ W, (Instr.slice 45 (.slice (some adf) nf cf) none (some (.int .i64 (j : Int))) none).run Tryz.prog W = .ok VA W := fun W => by rw [HVA.out]; exact qcut_to W (some adf) nf cf j (by have := HNF.out; omega)
                have hcC : ∀ W, (Instr.slice 45 (.slice (some adf) nf cf) (some (.int .i64 (j : Int))) none none).run Tryz.prog W = .ok VC W := fun W => by rw [HVC.out]; exact qcut_from W (some adf) nf cf j hjf
                have HRA : Hid (Elems 5 cQ wq VA (FF.take j)) := by rw [HVA.out]; exact HJQ.out.f.rows.to_ cQ_len (by have := HNF.out; omega)
                have HRC : Hid (Elems 5 cQ wq VC (FF.drop j)) := by rw [HVC.out, HNF.out]; have h := HJQ.out.f.rows; rw [HNF.out] at h; exact h.from_ cQ_len (by have := HNF.out; omega)
                have HJN : Hid (j ≤ FF.length) := by show _ ≤ _; have := HNF.out; omega
                clear hcap hxc hxk0
                go_wp2_with (first
                  | (at_builtin; refine wpList_append_rows _ rfl (.tmp 85) (.tmp 88) 45 rfl wq.heap.size 97 i0 _ 5 48 Tryz.underlying45 hi0 hz0 hs0 hy0 rfl (by omega) cQ_one v2 _ rfl HO2.out _ _ rfl (HRC.out.below HB2.out) (by have := HSZ.out; have := HJN.out; simp [maxLen]; omega) (by have := HSZ.out; have := HJN.out; simp; omega) HB2.out.size ?_; intro v3 w3 ho3 hg3 hf3; obtain ⟨A3, N3, c3, rfl⟩ := (OwnElems.rows ho3).form; have HO3 := hid ho3; have HB3 := hid (HB2.out.grown hg3 HB2.out.size (fun g hg => (HO2.out.lt g (mem_ownFoot.2 hg)).1)); clear ho3 hg3 hf3)
                  | (at_builtin; refine wpList_append_rows _ rfl (.tmp 81) (.tmp 83) 45 rfl wq.heap.size 97 i0 _ 5 48 Tryz.underlying45 hi0 hz0 hs0 hy0 rfl (by omega) cQ_one v1 _ rfl (HO1.out.alloc _) _ _ rfl (rows_new w1 5 cQ cQ_len (kx, r) 97) (by have := HSZ.out; have := HJN.out; simp [maxLen]; omega) (by have := HSZ.out; have := HJN.out; simp; omega) (HB1.out.alloc HB1.out.size _).size ?_; intro v2 w2 ho2 hg2 hf2; have HO2 := hid ho2; have HB2 := hid ((HB1.out.alloc HB1.out.size _).grown hg2 (HB1.out.alloc HB1.out.size _).size (fun g hg => (HO1.out.lt g (mem_ownFoot.2 hg)).1)); clear ho2 hg2 hf2 y0 y1 y2 y3 y4)
                  | (at_builtin; refine wpList_append_rows _ rfl (.tmp 76) (.tmp 79) 45 rfl wq.heap.size 97 i0 _ 5 48 Tryz.underlying45 hi0 hz0 hs0 hy0 rfl (by omega) cQ_one (.slice none 0 0) _ rfl (OwnElems.nil _ _ _ _ _) _ _ rfl HRA.out (by have := HSZ.out; have := HJN.out; simp [maxLen]; omega) (by have := HSZ.out; have := HJN.out; simp; omega) (Nat.le_refl _) ?_; intro v1 w1 ho1 hg1 hf1; rw [List.nil_append] at ho1; have HO1 := hid ho1; have HB1 := hid ((Below.refl wq.heap.size wq).grown hg1 (Nat.le_refl _) (fun g hg => by simp [Value.ownBlock] at hg)); obtain ⟨y0, y1, y2, y3, y4⟩ := HXQ2.out.below HB1.out; dsimp only at y0 y1 y2 y3 y4; clear ho1 hg1 hf1))
                go_roundw
                case rel =>
                  refine ⟨k + 1, by omega, by go_num, ?_⟩
                  rw [HSK.out]
                  unfold insC
                  rw [HPOS.out]
                  have hbq := HB3.out
                  exact ⟨HO3.out.down_ HJQ.out.b.size, HJQ.out.b.trans (hbq.mono HJQ.out.b.size), (hbq.block _ (Array.getElem?_eq_some_iff.1 HJQ.out.t).1).trans HJQ.out.t⟩
                case measure => simp [intOf]; omega
            · have hji : ¬ (j : Int) < nf := by omega
              have hjd : decide ((j : Int) < (nf : Int)) = false := decide_eq_false hji
              have hjd2 : decide (j < nf) = false := decide_eq_false hjlt
              have HPOS : Hid (posC c FF (kx, r) = j) := HFIN.out _ rfl fun z hz => by
                have := (List.getElem?_eq_some_iff.1 hz).1
                have := HNF.out
                omega
              have hjf : j ≤ nf := by omega
              go_wp2
              go_quiet (fail)
              obtain ⟨wq, HWQ⟩ : ∃ wq, Hid (wq = (ws.drewN mm).drewN nq) := ⟨_, rfl⟩
              have HBQ : Hid (Below ws.heap.size ws wq) := by rw [HWQ.out]; exact below_drewN' (below_drewN' (Below.refl _ _) _) _
              have HXQ2 := hid (HXS.out.below HBQ.out)
              have HJQ := hid (HJS.out.below HBQ.out)
              first | rw [← HWQ.out] | (rw [World.drewN_drewN] at HWQ; rw [← HWQ.out])
              obtain ⟨VA, HVA⟩ : ∃ V, Hid (V = sliced Af 0 j cf 5) := ⟨_, rfl⟩
              obtain ⟨VC, HVC⟩ : ∃ V, Hid (V = sliced Af j nf cf 5) := ⟨_, rfl⟩
              have hcap := HJQ.out.f.rows.cap
              have hcA : ∀ W, (Instr.slice 45 (.slice Af nf cf) none (some (.int .i64 (j : Int))) none).run Tryz.prog W = .ok VA W := fun W => by rw [HVA.out]; exact qcut_to W Af nf cf j (by have := HNF.out; omega)
              have hcC : ∀ W, (Instr.slice 45 (.slice Af nf cf) (some (.int .i64 (j : Int))) none none).run Tryz.prog W = .ok VC W := fun W => by rw [HVC.out]; exact qcut_from W Af nf cf j hjf
              have HRA : Hid (Elems 5 cQ wq VA (FF.take j)) := by rw [HVA.out]; exact HJQ.out.f.rows.to_ cQ_len (by have := HNF.out; omega)
              have HRC : Hid (Elems 5 cQ wq VC (FF.drop j)) := by rw [HVC.out, HNF.out]; have h := HJQ.out.f.rows; rw [HNF.out] at h; exact h.from_ cQ_len (by have := HNF.out; omega)
              have HJN : Hid (j ≤ FF.length) := by show _ ≤ _; have := HNF.out; omega
              clear hcap hxc hxk0
              go_wp2_with (first
                | (at_builtin; refine wpList_append_rows _ rfl (.tmp 85) (.tmp 88) 45 rfl wq.heap.size 97 i0 _ 5 48 Tryz.underlying45 hi0 hz0 hs0 hy0 rfl (by omega) cQ_one v2 _ rfl HO2.out _ _ rfl (HRC.out.below HB2.out) (by have := HSZ.out; have := HJN.out; simp [maxLen]; omega) (by have := HSZ.out; have := HJN.out; simp; omega) HB2.out.size ?_; intro v3 w3 ho3 hg3 hf3; obtain ⟨A3, N3, c3, rfl⟩ := (OwnElems.rows ho3).form; have HO3 := hid ho3; have HB3 := hid (HB2.out.grown hg3 HB2.out.size (fun g hg => (HO2.out.lt g (mem_ownFoot.2 hg)).1)); clear ho3 hg3 hf3)
                | (at_builtin; refine wpList_append_rows _ rfl (.tmp 81) (.tmp 83) 45 rfl wq.heap.size 97 i0 _ 5 48 Tryz.underlying45 hi0 hz0 hs0 hy0 rfl (by omega) cQ_one v1 _ rfl (HO1.out.alloc _) _ _ rfl (rows_new w1 5 cQ cQ_len (kx, r) 97) (by have := HSZ.out; have := HJN.out; simp [maxLen]; omega) (by have := HSZ.out; have := HJN.out; simp; omega) (HB1.out.alloc HB1.out.size _).size ?_; intro v2 w2 ho2 hg2 hf2; have HO2 := hid ho2; have HB2 := hid ((HB1.out.alloc HB1.out.size _).grown hg2 (HB1.out.alloc HB1.out.size _).size (fun g hg => (HO1.out.lt g (mem_ownFoot.2 hg)).1)); clear ho2 hg2 hf2 y0 y1 y2 y3 y4)
                | (at_builtin; refine wpList_append_rows _ rfl (.tmp 76) (.tmp 79) 45 rfl wq.heap.size 97 i0 _ 5 48 Tryz.underlying45 hi0 hz0 hs0 hy0 rfl (by omega) cQ_one (.slice none 0 0) _ rfl (OwnElems.nil _ _ _ _ _) _ _ rfl HRA.out (by have := HSZ.out; have := HJN.out; simp [maxLen]; omega) (by have := HSZ.out; have := HJN.out; simp; omega) (Nat.le_refl _) ?_; intro v1 w1 ho1 hg1 hf1; rw [List.nil_append] at ho1; have HO1 := hid ho1; have HB1 := hid ((Below.refl wq.heap.size wq).grown hg1 (Nat.le_refl _) (fun g hg => by simp [Value.ownBlock] at hg)); obtain ⟨y0, y1, y2, y3, y4⟩ := HXQ2.out.below HB1.out; dsimp only at y0 y1 y2 y3 y4; clear ho1 hg1 hf1))
              go_roundw
              case rel =>
                refine ⟨k + 1, by omega, by go_num, ?_⟩
                rw [HSK.out]
                unfold insC
                rw [HPOS.out]
                have hbq := HB3.out
                exact ⟨HO3.out.down_ HJQ.out.b.size, HJQ.out.b.trans (hbq.mono HJQ.out.b.size), (hbq.block _ (Array.getElem?_eq_some_iff.1 HJQ.out.t).1).trans HJQ.out.t⟩
              case measure => simp [intOf]; omega
    · obtain rfl : k = len := by omega
      obtain ⟨FF, HFF⟩ : ∃ FF, Hid (FF = foundK c lo hi l k) := ⟨_, rfl⟩
      rw [← HFF.out] at HJ
      have HNF : Hid (nf = FF.length) := HJ.out.f.rows.cap.1
      have HRES : Hid (findL c lo hi m l = (FF.map Prod.fst).take m) := by
        show _ = _
        rw [HFF.out]
        unfold findL foundK
        rw [show l.take k = l from List.take_of_length_le (by have := HLEN.out; omega)]
      have HSZ : Hid (FF.length ≤ 1024) := by show _ ≤ _; rw [HFF.out]; have := foundK_len HOK.out c lo hi k; have := HLEN.out; omega
      have hnf : nf ≤ 1024 := by have := HSZ.out; have := HNF.out; omega
      obtain ⟨wa, rfl⟩ : ∃ wa, wa = wr := ⟨_, rfl⟩
      go_wp2
      go_loopw [14, 15] (fun v i wr => ∃ j : Nat, j ≤ nf ∧ j ≤ m ∧ i = .int .i64 j ∧ OwnElems 1 cT 9 wr wa.heap.size v ((FF.map Prod.fst).take j) ∧ Below wa.heap.size wa wr) (fun _ i _ => nf - (intOf i).toNat)
      case atStart => exact ⟨0, by omega, by omega, rfl, OwnElems.nil _ _ _ _ _, Below.refl _ _⟩
      case round =>
        obtain ⟨j, hjn, hjm, rfl, hown, hbw⟩ := hrel
        have HOWN := hid hown
        have HBW := hid hbw
        obtain ⟨Ao, no, co, rfl⟩ := hown.rows.form
        clear hown hbw
        by_cases hjlt : j < nf
        · have hji : (j : Int) < nf := by omega
          by_cases hjm2 : j < m
          · have hjmi : (j : Int) < m := by omega
            obtain ⟨y, hy⟩ : ∃ y, FF[j]? = some y := ⟨FF[j]'(by have := HNF.out; omega), List.getElem?_eq_getElem _⟩
            obtain ⟨adf, hAf, hya⟩ := (HJ.out.below HBW.out).f.rows.qat hy
            subst hAf
            have hyk := hya.1
            have HTK : Hid ((FF.map Prod.fst).take (j + 1) = (FF.map Prod.fst).take j ++ [y.1]) := by show _ = _; rw [List.take_add_one, List.getElem?_map, hy]; rfl
            have HJL : Hid (((FF.map Prod.fst).take j).length ≤ 1024) := by show _ ≤ _; have := HSZ.out; simp; omega
            clear hya hy
            go_wp2_with (at_builtin; refine wpList_append_rows _ rfl (.tmp 101) (.tmp 107) 53 rfl wa.heap.size 9 it _ 1 16 Tryz.underlying53 hit hzt hst hyt rfl (by omega) cT_one _ _ rfl (HOWN.out.alloc _) _ _ rfl (rows_new _ 1 cT cT_len y.1 9) (by have := HJL.out; simp at this; simp [maxLen]; omega) (by have := HJL.out; simp at this; simp; omega) (HBW.out.alloc HBW.out.size _).size ?_; intro v1 w1 ho1 hg1 hf1; have HO1 := hid ho1; have HB1 := hid ((HBW.out.alloc HBW.out.size _).grown hg1 (HBW.out.alloc HBW.out.size _).size (fun g hg => (HOWN.out.lt g (mem_ownFoot.2 hg)).1)); clear ho1 hg1 hf1)
            go_roundw
            case rel => exact ⟨j + 1, by omega, by omega, by go_num, by rw [HTK.out]; exact HO1.out, HB1.out⟩
            case measure => simp [intOf]; omega
          · have hjmi : ¬ (j : Int) < m := by omega
            have hje : j = m := by omega
            have HJE := hid hje
            clear hje
            go_wp2
            go_ret
            refine ⟨_, rfl, ?_, below_step HJ.out.b HBW.out⟩
            show OwnElems 1 cT 9 wr w.heap.size (.slice Ao no co) (findL c lo hi m l)
            rw [HRES.out, ← HJE.out]
            exact HOWN.out.down_ HJ.out.b.size
        · have hji : ¬ (j : Int) < nf := by omega
          have hje : j = nf := by omega
          have HJE := hid hje
          clear hje
          go_wp2
          go_ret
          refine ⟨_, rfl, ?_, below_step HJ.out.b HBW.out⟩
          show OwnElems 1 cT 9 wr w.heap.size (.slice Ao no co) (findL c lo hi m l)
          rw [HRES.out, List.take_of_length_le (by have := HNF.out; simp; omega)]
          have h2 := HOWN.out
          rw [List.take_of_length_le (by have := HNF.out; have := HJE.out; simp; omega)] at h2
          exact h2.down_ HJ.out.b.size
end Go.Proofs.YtlnagdodnkhbmaaGreat

set_option maxRecDepth 100000
open Go Go.RowKit
namespace Go.Proofs.YtlnagdodnkhbmaaGreat
theorem ext_get {l m : List (List Nat)} (hlen : l.length = m.length) (h : ∀ (j : Nat) (x y : List Nat), j < l.length → l[j]? = some x → m[j]? = some y → x = y) : l = m := by
  refine List.ext_getElem hlen fun i h1 h2 => h i _ _ h1 (List.getElem?_eq_getElem _) (List.getElem?_eq_getElem _)
/-- Two lists of texts. -/
theorem texts_any (w : World) (v u : Value) (l m : List (List Nat)) (hv : Elems 1 cT w v l) (hu : Elems 1 cT w u m) (hl : ∀ x ∈ l, Byt x) (hm : ∀ x ∈ m, Byt x) :
    Calls Tryz.prog 18 #[v, u] w fun e w' => e = .returned (.bool (decide (l = m))) ∧ ∃ n, w' = w.drewN n := by
  obtain ⟨A, cap, rfl⟩ := hv.slice
  obtain ⟨B, cbp, rfl⟩ := hu.slice
  have HL := hid hv
  have HM := hid hu
  have HBL := hid hl
  have HBM := hid hm
  have hcap := hv.cap
  have hml : l.length ≤ 9223372036854775807 := by have := hcap.2.2; unfold maxLen at this; omega
  have hcbp := hu.cap
  have hmm : m.length ≤ 9223372036854775807 := by have := hcbp.2.2; unfold maxLen at this; omega
  obtain ⟨len, HLEN⟩ : ∃ len, Hid (len = l.length) := ⟨_, rfl⟩
  obtain ⟨mlen, HMLEN⟩ : ∃ len, Hid (len = m.length) := ⟨_, rfl⟩
  rw [← HLEN.out] at hml HL ⊢
  rw [← HMLEN.out] at hmm HM ⊢
  clear hv hu hl hm hcap hcbp
  by_cases hne : len = mlen
  · subst hne
    go_enter Tryz.func18, Tryz.ntmps18
    go_wp2
    go_loopw [5] (fun i w' => ∃ n : Nat, n ≤ len ∧ i = .int .i64 n ∧ Hid (∀ (j : Nat) (x y : List Nat), j < n → l[j]? = some x → m[j]? = some y → x = y) ∧ ∃ mm, w' = w.drewN mm) (fun i _ => len - (intOf i).toNat)
    case atStart => exact ⟨0, by omega, rfl, fun j x y hj => by omega, 0, rfl⟩
    case round =>
      obtain ⟨n, hn, rfl, HJ, mm, rfl⟩ := hrel
      by_cases hlt : n < len
      · have hlti : (n : Int) < len := by omega
        obtain ⟨x, hx⟩ : ∃ x, l[n]? = some x := ⟨l[n]'(by have := HLEN.out; omega), List.getElem?_eq_getElem _⟩
        obtain ⟨y, hy⟩ : ∃ x, m[n]? = some x := ⟨m[n]'(by have := HMLEN.out; omega), List.getElem?_eq_getElem _⟩
        obtain ⟨ad, rfl, h0⟩ := HL.out.cell cT_len hx (j := 0) (u := .string (str x)) rfl
        obtain ⟨bd, rfl, h1⟩ := HM.out.cell cT_len hy (j := 0) (u := .string (str y)) rfl
        rw [Nat.mul_one, Nat.add_zero] at h0 h1
        have hbeq := beq_str (HBL.out x (List.mem_of_getElem? hx)) (HBM.out y (List.mem_of_getElem? hy))
        have HX := hid hx
        have HY := hid hy
        clear hx hy
        by_cases hxy : x = y
        · have HJ' : Hid (∀ (j : Nat) (x y : List Nat), j < n + 1 → l[j]? = some x → m[j]? = some y → x = y) := fun j a b hj ha hb => by
            rcases Nat.lt_or_ge j n with h | h
            · exact HJ.out j a b h ha hb
            · obtain rfl : j = n := by omega
              have h1 := HX.out
              have h2 := HY.out
              rw [ha] at h1
              rw [hb] at h2
              injection h1 with h1
              injection h2 with h2
              rw [h1, h2, hxy]
          subst hxy
          go_wp2
          go_quiet (fail)
          go_wp2
          go_roundw
          case rel => exact ⟨n + 1, by omega, by go_num, HJ', _, rfl⟩
          case measure => simp [intOf]; omega
        · simp only [hxy, decide_false] at hbeq
          have HNE : Hid (decide (l = m) = false) := decide_eq_false fun h => by
            have h1 := HX.out
            have h2 := HY.out
            rw [h, h2] at h1
            injection h1 with h1
            exact hxy h1.symm
          clear hxy
          go_wp2
          go_quiet (fail)
          go_wp2
          go_ret
          exact ⟨by rw [HNE.out]; rfl, _, by first | rfl | (rw [World.drewN_drewN])⟩
      · obtain rfl : n = len := by omega
        have HE : Hid (l = m) := ext_get (HLEN.out.symm.trans HMLEN.out) fun j x y hj => HJ.out j x y (by have := HLEN.out; omega)
        go_wp2
        go_ret
        exact ⟨by rw [decide_eq_true HE.out]; rfl, mm, rfl⟩
  · have hni : ((len : Int) = mlen) = False := eq_false (by omega)
    have HNE : Hid (decide (l = m) = false) := decide_eq_false fun h => hne (by rw [HLEN.out, HMLEN.out, h])
    go_enter Tryz.func18, Tryz.ntmps18
    go_wp2
    go_ret
    exact ⟨by rw [HNE.out]; rfl, 0, rfl⟩

theorem rows_new2 (w : World) (a b : List Nat) (e : TypeId) : Elems 1 cT (w.alloc (.cells #[.string (str a), .string (str b)] e)) (.slice (some ⟨w.heap.size, 0, none⟩) 2 2) [a, b] := by
  have h := row_new w 1 2 (cellsBy cT [a, b]) e (by simp [maxLen]) (cellsBy_len cT_len [a, b])
  have e1 : cellsBy cT [a, b] = cT a ++ cT b := by simp [cellsBy]
  unfold Elems
  rw [e1] at h ⊢
  exact h
theorem rows_lit2 (w : World) (s t : ByteArray) (a b : List Nat) (hs : s = str a) (ht : t = str b) (e : TypeId) : Elems 1 cT (w.alloc (.cells #[.string s, .string t] e)) (.slice (some ⟨w.heap.size, 0, none⟩) 2 2) [a, b] := by
  subst hs; subst ht
  exact rows_new2 w a b e
theorem texts_same (w : World) (v u : Value) (l : List (List Nat)) (hv : Elems 1 cT w v l) (hu : Elems 1 cT w u l) (hl : ∀ x ∈ l, Byt x) :
    Calls Tryz.prog 18 #[v, u] w fun e w' => e = .returned (.bool true) ∧ Below w.heap.size w w' :=
  (texts_any w v u l l hv hu hl hl).mono fun e w' h => ⟨by rw [h.1, decide_eq_true rfl], by obtain ⟨_, n, rfl⟩ := h; exact below_drewN' (Below.refl _ _) n⟩
theorem tput_lit {w : World} {T : Nat} {p : Nat → Nat} {Q : Bl} {most o : Nat} {l : List KR} (h : Tab w T p Q most o l) (s : ByteArray) (k : List Nat) (hs : s = str k) (hb : Byt k) (x : Int) (hx : I64 x) :
    Calls Tryz.prog 23 #[.pointer (some ⟨T, 0, none⟩), .string s, .agg #[.int .i64 x, .int .i64 0, .int .i64 0, .int .i64 0]] w fun e w' => (∃ u, e = .returned u) ∧ Tab w' T p (New Q w w') most o (kputN most l k ⟨x, 0, 0, 0⟩) ∧ Chg (five p) w w' (five p) := by
  subst hs
  refine (tput h k hb ⟨x, 0, 0, 0⟩ ?_).mono fun e w' h => ⟨⟨_, h.1⟩, h.2⟩
  intro y hy
  unfold Ro.l at hy
  simp at hy
  rcases hy with rfl | rfl
  · exact hx
  · unfold I64; omega
def l3 : List KR := [([97], ⟨5, 0, 0, 0⟩), ([98], ⟨3, 0, 0, 0⟩), ([99], ⟨5, 0, 0, 0⟩)]
theorem l3_eq : kputN 9 (kputN 9 (kputN 9 [] [97] ⟨5, 0, 0, 0⟩) [98] ⟨3, 0, 0, 0⟩) [99] ⟨5, 0, 0, 0⟩ = l3 := by kernel_rfl
theorem l3_a : findL 0 4 9 9 l3 = [[97], [99]] := by decide +kernel
theorem l3_b : findL 0 0 9 2 l3 = [[98], [97]] := by decide +kernel
end Go.Proofs.YtlnagdodnkhbmaaGreat

/- law07's Same, where the rows are the same. -/
namespace Go.Proofs.YtlnagdodnkhbmaaGreat
open Go.RowKit Go.Shelf
set_option maxRecDepth 100000
attribute [local go_sem] Oper.semAt_some
theorem run_eql_nil7 (gf : Nat) (lb : Array Value) (W : World) : (binOp .eql 100 (.func (.func gf) #[] lb) .nilFunc).run Tryz.prog W = .ok (.bool false) W := by
  have h : (Op.equalIn (9999 + 1) 100 (.func (.func gf) #[] lb) .nilFunc).run Tryz.prog W = .ok false W := by
    unfold Op.equalIn
    simp [run_underlying Tryz.underlying100]
  simp [binOp, Op.equal, Op.maxDepth, h]
/-- A loop over a function that counts in block B; block w.heap.size holds a pointer, the next one the result. -/
def SameK (w : World) (p B : Nat) (pre : List KR) (K : Bl) (W : World) : Prop :=
  (W.cell? ⟨w.heap.size, 0, none⟩ = some (.pointer (some ⟨p, 0, none⟩)) ∧ W.cell? ⟨w.heap.size + 1, 0, none⟩ = some (.bool false) ∧ W.frozen? ⟨w.heap.size + 1, 0, none⟩ = false ∧ W.cell? ⟨B, 0, none⟩ = some (.int .i64 (pre.length : Nat)) ∧ W.frozen? ⟨B, 0, none⟩ = false ∧ ¬ K B) ∧ Below w.heap.size w W
theorem sameK_abide {w : World} {p B : Nat} (hlt : w.heap.size + 1 < B) : Abide (B + 1) (SameK w p B) := by
  rintro s K A A' row ⟨⟨h0, h1, h1f, hn, hnf, kb⟩, hB⟩ hg hr K' hK'
  have hsz : B < A.heap.size := blk_lt hn
  have hA : Below (B + 1) A A' := (Below.refl _ _).grown hg hsz fun k e => (hr k e).1
  refine ⟨⟨(hA.cell (by show w.heap.size < _; omega)).trans h0, (hA.cell (by show w.heap.size + 1 < _; omega)).trans h1, (hA.frozen (by show w.heap.size + 1 < _; omega)).trans h1f, (hA.cell (by show B < _; omega)).trans hn, (hA.frozen (by show B < _; omega)).trans hnf, fun h => ?_⟩, hB.grown hg hB.size fun k e => by have := (hr k e).1; omega⟩
  rcases hK' B h with h | h
  · exact kb h
  · omega
theorem SameK.below {w : World} {p B : Nat} {pre : List KR} {K : Bl} {W W' : World} (h : SameK w p B pre K W) (hb : Below W.heap.size W W') : SameK w p B pre K W' := by
  obtain ⟨⟨h0, h1, h1f, hn, hnf, kb⟩, hB⟩ := h
  exact ⟨⟨below_keep hb _ _ h0, below_keep hb _ _ h1, (hb.frozen (p := ⟨w.heap.size + 1, 0, none⟩) (blk_lt h1)).trans h1f, below_keep hb _ _ hn, (hb.frozen (p := ⟨B, 0, none⟩) (blk_lt hn)).trans hnf, kb⟩, below_step hB hb⟩
set_option maxHeartbeats 800000 in
theorem same7_yes (w : World) (T : Nat) (p : Nat → Nat) (Q : Bl) (most o : Nat) (l : List KR) (G : List Nat) (rp : Nat) (hT : Tab w T p Q most o l) (hR : RTab w G rp most l) (hl : KByt l) :
    Calls Tryz.prog 21 #[.pointer (some ⟨T, 0, none⟩), .pointer (some ⟨rp, 0, none⟩)] w fun e w' => e = .returned (.bool true) ∧ Below w.heap.size w w' := by
  have HT := hid hT
  have HR := hid hR
  have hsz : l.length ≤ 1024 := hT.le
  clear hT hR
  refine (callsIn_wide (n := 3)).1 ?_
  refine callsIn_of_wp_marks Tryz.func21 rfl trivial ?_ rfl
  simp only [Tryz.ntmps21, List.size_toArray, List.length_cons, List.length_nil, Nat.reduceAdd, Nat.reduceSub, Array.replicate_succ, Array.replicate_zero, List.push_toArray, List.append_toArray, List.nil_append, List.cons_append]
  have hB0 : Below w.heap.size w ((w.alloc (.cells #[.pointer (some ⟨rp, 0, none⟩)] 30)).alloc (.cells #[.bool false] 4)) := ((Below.refl _ w).alloc (Nat.le_refl _) _).alloc (by simp) _
  have HB0 := hid hB0
  have hnil := run_eql_nil7
  gi_wp2_with (refine ⟨trivial, ?_⟩; gi_at_call 49; refine (callsIn_wide.2 (tall (HT.out.below HB0.out))).mono ?_; rintro e w1 ⟨gf, lb, G1, rfl, hb1, hw1, hGQ⟩)
  have HB1 := hid (below_step HB0.out hb1)
  have c0 := below_keep hb1 _ _ (cellPast (.cells #[.bool false] 4) (cellNew w (.pointer (some ⟨rp, 0, none⟩)) 30).1)
  have c1 : w1.cell? ⟨w.heap.size + 1, 0, none⟩ = some (.bool false) := below_keep hb1 _ _ (by have := (cellNew (w.alloc (.cells #[.pointer (some ⟨rp, 0, none⟩)] 30)) (.bool false) 4).1; rwa [World.size_alloc] at this)
  have f1 : w1.frozen? ⟨w.heap.size + 1, 0, none⟩ = false := (hb1.frozen (p := ⟨w.heap.size + 1, 0, none⟩) (by simp)).trans (by have := (cellNew (w.alloc (.cells #[.pointer (some ⟨rp, 0, none⟩)] 30)) (.bool false) 4).2; rwa [World.size_alloc] at this)
  have cn := cellNew w1 (.int .i64 0) 3
  have hlt1 : w.heap.size + 1 < w1.heap.size := by have := hb1.size; simp at this; omega
  have HAB := hid (sameK_abide (w := w) (p := rp) (B := w1.heap.size) hlt1)
  refine range_own (gf := gf) (lb := lb) rfl hw1.en hw1.gives (w0 := w1) (Stay.of_below ((Below.refl _ w1).alloc (Nat.le_refl _) _) hw1.lt) (fun _ => rfl) (SameK w rp w1.heap.size) (fun _ _ _ _ => False) (by rw [World.size_alloc]; exact HAB.out) (fun _ _ _ _ _ _ h => h.elim) G1 (fun _ h => h) (fun b hb => by have := hw1.lt b hb; simp; omega)
    ⟨⟨cellPast _ c0, cellPast _ c1, frozenPast _ c1 f1, cn.1, cn.2, fun h => by have := hw1.lt _ h; omega⟩, HB1.out.alloc HB1.out.size _⟩ ?round ?done ?stop
  case round =>
    rintro lq pre x K W m hI hKW hKl hlq hpre
    dsimp only [encK, rowv, rowc]
    gi_wp2
    obtain ⟨Wa, HWA⟩ : ∃ Wa, Hid (Wa = W.alloc (.cells #[.int .i64 x.2.a, .int .i64 x.2.b, .int .i64 x.2.c, .int .i64 x.2.d] 41)) := ⟨_, rfl⟩
    rw [← HWA.out]
    have hba : Below W.heap.size W Wa := by rw [HWA.out]; exact (Below.refl _ _).alloc (Nat.le_refl _) _
    have hrow : Wa.heap[W.heap.size]? = some (.cells #[.int .i64 x.2.a, .int .i64 x.2.b, .int .i64 x.2.c, .int .i64 x.2.d] 41 (0, 0)) := by rw [HWA.out]; exact heap_alloc_new W _
    refine ⟨Stay.of_below hba hKW, fun W2 hg2 => ?_⟩
    have hlW := hKW lq hKl
    have hI2 := HAB.out pre K Wa W2 (some lq) (hI.below hba) hg2 (fun r e => by injection e with e; subst e; simp at hlq; exact ⟨hlq, hKl⟩) K fun b h => .inl h
    have HW2 : Hid (W.heap.size < W2.heap.size) := Nat.lt_of_lt_of_le (Array.getElem?_eq_some_iff.1 hrow).1 hg2.size
    have hrow2 : W2.heap[W.heap.size]? = some (.cells #[.int .i64 x.2.a, .int .i64 x.2.b, .int .i64 x.2.c, .int .i64 x.2.d] 41 (0, 0)) := (hg2.block _ (Array.getElem?_eq_some_iff.1 hrow).1 (by intro e; injection e with e; omega)).trans hrow
    have r0 := cell_of_row W2 W.heap.size 0 _ _ _ hrow2
    have r1 := cell_of_row W2 W.heap.size 1 _ _ _ hrow2
    have r2 := cell_of_row W2 W.heap.size 2 _ _ _ hrow2
    have r3 := cell_of_row W2 W.heap.size 3 _ _ _ hrow2
    clear hI hg2 hrow hrow2 hba
    obtain ⟨⟨h0, h1, h1f, hn, hnf, hkb⟩, hB⟩ := hI2
    have HBW := hid hB
    obtain ⟨u, hone, hel, _, _, _⟩ := HR.out.below hB
    obtain ⟨A, cap, rfl⟩ := hel.slice
    have hp := cell_of_row W2 rp 0 _ _ _ hone
    have hmx : l.length ≤ 1024 := hsz
    obtain ⟨n, HNE⟩ : ∃ n, Hid (n = pre.length) := ⟨_, rfl⟩
    have hq : l[n]? = some x := by
      obtain ⟨t, ht⟩ := hpre
      rw [← ht, HNE.out, List.append_assoc, List.getElem?_append_right (Nat.le_refl _)]
      simp
    have hqb := hl x (List.mem_of_getElem? hq)
    obtain ⟨len, HLEN⟩ : ∃ len, Hid (len = l.length) := ⟨_, rfl⟩
    have hlt : n < len := by rw [HLEN.out]; exact (List.getElem?_eq_some_iff.1 hq).1
    rw [← HLEN.out] at hp hmx
    simp at hp
    rw [← HNE.out] at hn
    have hlti : decide (len ≤ n) = false := by rw [decide_eq_false_iff_not]; omega
    have hlti' : (n : Int) < len := by omega
    obtain ⟨ad, rfl, q0, q1, q2, q3, q4⟩ := hel.qat hq
    have hk1 := beq_str hqb hqb
    simp only [decide_true] at hk1
    simp at r0 r1 r2 r3
    have heq := eq_rows x.2 x.2
    rw [decide_eq_true rfl] at heq
    clear hel hone hq hqb hpre hB
    gi_wp2
    refine region_round (by kernel_rfl) (by kernel_rfl) (by kernel_rfl) ?_
    repeat (gi_big_quiet_step (fail))
    refine wpQuietIn_nil ?_
    intro _ hw'
    obtain ⟨nq, hw''⟩ := hw'
    subst hw''
    gi_wp2
    have hnb : w.heap.size ≠ w1.heap.size := by omega
    have hnb1 : w.heap.size + 1 ≠ w1.heap.size := by omega
    refine ⟨(stay_drew K W2 nq).trans ⟨by simp [World.setCell], fun b hb => Below.heap_setCell _ _ _ _ fun e => hkb (by rw [e] at hb; exact hb)⟩, ⟨cellFar (b := ⟨w1.heap.size, 0, none⟩) h0 hnb _, cellFar (b := ⟨w1.heap.size, 0, none⟩) h1 hnb1 _, ?_, ?_, ?_, hkb⟩, (below_drewN' HBW.out nq).setCell (p := ⟨w1.heap.size, 0, none⟩) (by show w.heap.size ≤ w1.heap.size; omega) _⟩
    · rw [World.frozen?_setCell]; exact h1f
    · rw [List.length_append, ← HNE.out]
      exact World.cell?_setCell_same' _ _ _ (by show (W2.cell? _).isSome = true; rw [hn]; rfl)
    · rw [World.frozen?_setCell]; exact hnf
  case done =>
    rintro D Kd W ⟨⟨h0, h1, h1f, hn, hnf, _⟩, hB⟩ _ _ hD hK
    have HBW := hid hB
    have HK := hid hK
    obtain ⟨u, hone, hel, _, _, _⟩ := HR.out.below hB
    obtain ⟨A, cap, rfl⟩ := hel.slice
    have hp := cell_of_row W rp 0 _ _ _ hone
    simp at hp
    have hpl : rp < w.heap.size := HR.out.plt
    obtain ⟨len, HLEN⟩ : ∃ len, Hid (len = l.length) := ⟨_, rfl⟩
    rw [← HLEN.out] at hp hn
    have HP := hid hp
    have HC0 := hid h0
    have HCN := hid hn
    have HC1 := hid h1
    have HF1 := hid h1f
    have hD' : w.heap.size ≤ D := by simp at hD; omega
    have HLN : Hid (∀ W', Below w.heap.size w W' → Calls Tryz.prog 29 #[.pointer (some ⟨T, 0, none⟩)] W' fun e w2 => e = .returned (.int .i64 (len : Int)) ∧ Below W'.heap.size W' w2) := fun W' hb => by
      rw [HLEN.out]
      refine (tlen (HT.out.below hb)).mono ?_
      rintro e w2 ⟨h, rfl⟩
      exact ⟨h, Below.refl _ _⟩
    clear hel hone hB hK hnf
    gi_wp2
    refine wpIn_wide.2 ?_
    go_region_held3 (fun W' => W'.cell? ⟨w1.heap.size, 0, none⟩ = some (.int .i64 len) ∧ W'.cell? ⟨w.heap.size, 0, none⟩ = some (.pointer (some ⟨rp, 0, none⟩)) ∧ W'.cell? ⟨rp, 0, none⟩ = some (.slice A len cap)) (first | exact ⟨hn, h0, hp⟩ | exact HS2.out | exact HS3.out)
      (first
        | (go_at_call 29; ((with_reducible refine (HLN.out _ (HBW.out.drew)).mono ?_); rintro e w5 ⟨rfl, hb5⟩; have HB5 := hid hb5; have HS2 : Hid (w5.cell? ⟨w1.heap.size, 0, none⟩ = some (.int .i64 len) ∧ w5.cell? ⟨w.heap.size, 0, none⟩ = some (.pointer (some ⟨rp, 0, none⟩)) ∧ w5.cell? ⟨rp, 0, none⟩ = some (.slice A len cap)) := ⟨below_keep hb5 _ _ HCN.out, below_keep hb5 _ _ HC0.out, below_keep hb5 _ _ HP.out⟩; have HS3 : Hid ((w5.setCell ⟨w.heap.size + 1, 0, none⟩ (.bool true)).cell? ⟨w1.heap.size, 0, none⟩ = some (.int .i64 len) ∧ (w5.setCell ⟨w.heap.size + 1, 0, none⟩ (.bool true)).cell? ⟨w.heap.size, 0, none⟩ = some (.pointer (some ⟨rp, 0, none⟩)) ∧ (w5.setCell ⟨w.heap.size + 1, 0, none⟩ (.bool true)).cell? ⟨rp, 0, none⟩ = some (.slice A len cap)) := ⟨cellFar (b := ⟨w.heap.size + 1, 0, none⟩) HS2.out.1 (by show w1.heap.size ≠ w.heap.size + 1; omega) _, cellFar (b := ⟨w.heap.size + 1, 0, none⟩) HS2.out.2.1 (by show w.heap.size ≠ w.heap.size + 1; omega) _, cellFar (b := ⟨w.heap.size + 1, 0, none⟩) HS2.out.2.2 (by show rp ≠ w.heap.size + 1; omega) _⟩; have h15 := below_keep hb5 _ _ HC1.out; have h15f := (hb5.frozen (p := ⟨w.heap.size + 1, 0, none⟩) (blk_lt HC1.out)).trans HF1.out; clear hb5)))
    have hDW : D < W.heap.size := (Array.getElem?_eq_some_iff.1 HK.out).1
    have HK' : Hid ((w5.setCell ⟨w.heap.size + 1, 0, none⟩ (.bool true)).heap[D]? = some (.deferred (some []))) := (KeepsOthers.setCell w5 ⟨w.heap.size + 1, 0, none⟩ (.bool true)).same D _ ((HB5.out.block D hDW).trans HK.out) rfl
    have hc5 := cell_kept (World.cell?_setCell_same' w5 ⟨w.heap.size + 1, 0, none⟩ (.bool true) (by rw [h15]; rfl)) (grownBy_putObj' _ D (.deferred none)) (fun r e => by cases e; exact ⟨_, HK'.out, rfl⟩)
    gi_wp2
    refine ⟨by simp, .inl ⟨_, _, rfl, run_takeDeferred HK'.out, ?_⟩⟩
    refine ⟨.bool true, ?_, rfl, ?_⟩
    · simp [results, Tryz.f21, go_sem, hc5]
    · exact ((below_step HBW.out.drew HB5.out).setCell (p := ⟨w.heap.size + 1, 0, none⟩) (by show w.heap.size ≤ w.heap.size + 1; omega) _).trans (belowK_b (w := w) (Nat.le_refl _) _ D _ _ hD' HK'.out rfl rfl)
  case stop =>
    rintro D c pre K W _ h
    exact h.elim
end Go.Proofs.YtlnagdodnkhbmaaGreat
