/- turn: a key's row turns from one to another one, and all indexes with it. -/
import Derived.Test.YtlnagdodnkhbmaaT2
import Derived.Deep.RegionHeld
namespace Go.Proofs.Ytlnagdodnkhbmaa
open Go.RowKit
set_option maxRecDepth 100000

/-- A change in a slice, cell by cell. -/
def CAt (key : ByteArray) (w : World) (a : Addr) (c : Cg) : Prop :=
  w.cell? a = some (.int .i64 (c.1 : Int)) ∧ w.cell? { block := a.block, off := a.off + 1, spot := none } = some (.int .i64 c.2.1) ∧ w.cell? { block := a.block, off := a.off + 2, spot := none } = some (.string key) ∧ w.cell? { block := a.block, off := a.off + 3, spot := none } = some (.bool c.2.2)
theorem add_off (a : Addr) (i j : Nat) : a.add (i + (j + 1)) = { block := (a.add i).block, off := (a.add i).off + (j + 1), spot := none } := by
  rw [← add_add', Addr.add_succ']
theorem Elems.cat {key : ByteArray} {w : World} {A : Option Addr} {n cap i : Nat} {l : List Cg} {c : Cg} (h : Elems 4 (cC key) w (.slice A n cap) l) (hi : l[i]? = some c) : ∃ ad, A = some ad ∧ CAt key w (ad.add (i * 4)) c := by
  obtain ⟨ad, hA, h0⟩ := h.cell (cC_len key) hi (j := 0) rfl
  obtain ⟨ad1, hA1, h1⟩ := h.cell (cC_len key) hi (j := 1) rfl
  obtain ⟨ad2, hA2, h2⟩ := h.cell (cC_len key) hi (j := 2) rfl
  obtain ⟨ad3, hA3, h3⟩ := h.cell (cC_len key) hi (j := 3) rfl
  subst hA
  injection hA1 with hA1; injection hA2 with hA2; injection hA3 with hA3
  subst hA1; subst hA2; subst hA3
  rw [add_off ad _ 0] at h1
  rw [add_off ad _ 1] at h2
  rw [add_off ad _ 2] at h3
  exact ⟨ad, rfl, h0, h1, h2, h3⟩
theorem CAt.below {key : ByteArray} {w w' : World} {a : Addr} {c : Cg} (h : CAt key w a c) (hb : Below w.heap.size w w') : CAt key w' a c :=
  ⟨below_keep hb _ _ h.1, below_keep hb _ _ h.2.1, below_keep hb _ _ h.2.2.1, below_keep hb _ _ h.2.2.2⟩


theorem CAt.new (key : ByteArray) (w : World) (c : Nat) (x : Int) (a : Bool) : CAt key (w.alloc (.cells #[.int .i64 (c : Int), .int .i64 x, .string key, .bool a] 113)) ⟨w.heap.size, 0, none⟩ (c, x, a) :=
  ⟨cell_of_row _ _ 0 _ _ _ (heap_alloc_new w _), cell_of_row _ _ 1 _ _ _ (heap_alloc_new w _), cell_of_row _ _ 2 _ _ _ (heap_alloc_new w _), cell_of_row _ _ 3 _ _ _ (heap_alloc_new w _)⟩
theorem put_raw (w : World) (x : Int) (k : List Nat) (hx : I64 x) (hk : keyB k = true) : Calls Try.prog 53 #[.agg #[.int .i64 x, .string (str k)]] w fun e w' => e = .returned (.tuple #[.string (str (entB x k)), .int .i64 0]) ∧ Below w.heap.size w w' := put_ok w x k hx hk
theorem TreeAt.put0 {w : World} {p o : Nat} {l : List Pr} {P : Bl} (h : TreeAt w p o l P) (hl : l.length ≤ 5000) (k : List Nat) (hkb : Byt k) (hk : k.length ≤ 5000) :
    Calls Try.prog 67 #[.pointer (some ⟨p, 0, none⟩), .string (str k), .string ⟨#[]⟩] w fun e w' => (∃ v, e = .returned v) ∧ Done P w w' p o (putN l k []) := by
  rw [str_nil]
  refine (h.put hl k [] hkb Byt.nil hk).mono ?_
  rintro e w' ⟨rfl, hd⟩
  exact ⟨⟨_, rfl⟩, hd⟩
theorem TreeAt.del0 {w : World} {p o : Nat} {l : List Pr} {P : Bl} (h : TreeAt w p o l P) (hl : l.length ≤ 5000) (k : List Nat) (hkb : Byt k) (hk : k.length ≤ 5000) :
    Calls Try.prog 66 #[.pointer (some ⟨p, 0, none⟩), .string (str k)] w fun e w' => (∃ v, e = .returned v) ∧ Done P w w' p o (delN l k) := by
  refine (h.del hl k hkb hk).mono ?_
  rintro e w' ⟨rfl, hd⟩
  exact ⟨⟨_, rfl⟩, hd⟩
theorem TreeAt.put1 {w : World} {p o : Nat} {l : List Pr} {P : Bl} (h : TreeAt w p o l P) (hl : l.length ≤ 5000) (k v : List Nat) (hkb : Byt k) (hvb : Byt v) (hk : k.length ≤ 5000) :
    Calls Try.prog 67 #[.pointer (some ⟨p, 0, none⟩), .string (str k), .string (str v)] w fun e w' => (∃ v, e = .returned v) ∧ Done P w w' p o (putN l k v) := by
  refine (h.put hl k v hkb hvb hk).mono ?_
  rintro e w' ⟨rfl, hd⟩
  exact ⟨⟨_, rfl⟩, hd⟩
theorem rencode_raw (w : World) (r : Ro) (hr : r.ok) : Calls Try.prog 68 #[.agg #[.int .i64 r.a, .int .i64 r.b, .int .i64 r.c, .int .i64 r.d]] w (Fresh w (enc r.l)) := rencode w r hr
theorem Lies.four {w : World} {g : Nat} {r : Ro} (h : Lies w g r) : w.cell? ⟨g, 0, none⟩ = some (.int .i64 r.a) ∧ w.cell? ⟨g, 1, none⟩ = some (.int .i64 r.b) ∧ w.cell? ⟨g, 2, none⟩ = some (.int .i64 r.c) ∧ w.cell? ⟨g, 3, none⟩ = some (.int .i64 r.d) := h.cells.1
theorem stepI_len (k : List Nat) (J : Nat → List Pr) (g : Cg) (c : Nat) : (stepI k J g c).length ≤ (J c).length + 1 := by
  unfold stepI
  split
  · unfold step1
    split
    · exact putN_len _ _ _
    · have := delN_len (J c) (entB g.2.1 k); omega
  · omega
theorem lineI_len (k : List Nat) (J : Nat → List Pr) (n : Option Ro) (c : Nat) : (lineI k J n c).length ≤ (J c).length + 1 := by
  unfold lineI
  split
  · rename_i h; subst h
    cases n with
    | none => have := delN_len (J 4) k; dsimp only; omega
    | some r => exact putN_len _ _ _
  · omega
theorem foldI_len (k : List Nat) (c : Nat) : ∀ (L : List Cg) (J : Nat → List Pr), (L.foldl (stepI k) J c).length ≤ (J c).length + L.length
  | [], J => by simp
  | g :: L, J => by
    have h1 := foldI_len k c L (stepI k J g)
    have h2 := stepI_len k J g c
    rw [List.foldl_cons, List.length_cons]; omega
theorem one_val {o : Option Ro} {k : Nat} {a : Bool} (ho : ∀ r, o = some r → r.ok) : ∀ g ∈ one o k a, I64 g.2.1 := by
  intro g hg
  unfold one at hg
  cases o with
  | none => simp at hg
  | some r =>
    dsimp only at hg
    cases hx : r.l[k]? with
    | none => rw [hx] at hg; simp at hg
    | some x => rw [hx] at hg; simp at hg; rw [hg]; exact ho r rfl x (List.mem_of_getElem? hx)
theorem upto_val {o n : Option Ro} (ho : ∀ r, o = some r → r.ok) (hn : ∀ r, n = some r → r.ok) : ∀ (m : Nat), ∀ g ∈ upto o n m, I64 g.2.1
  | 0, g, hg => by simp [upto] at hg
  | m + 1, g, hg => by
    rw [upto_succ] at hg
    rcases List.mem_append.1 hg with hg | hg
    · exact upto_val ho hn m g hg
    · unfold chg1 at hg
      split at hg
      · cases hg
      · rcases List.mem_append.1 hg with hg | hg
        · exact one_val ho g hg
        · exact one_val hn g hg
/-- What has turned in the trees, since W, before which no node of Q was new. -/
structure TurnRel (W wr : World) (T : Nat) (p : Nat → Nat) (Q : Bl) (most o : Nat) (J : Nat → List Pr) : Prop where
  t : TabI wr T p (New Q W wr) most o J
  c : Chg (five p) W wr (five p)
section
variable {W wr w' : World} {T : Nat} {p : Nat → Nat} {Q : Bl} {most o : Nat} {J : Nat → List Pr}
theorem TurnRel.below (h : TurnRel W wr T p Q most o J) (hb : Below wr.heap.size wr w') : TurnRel W w' T p Q most o J := by
  have h1 := h.t.below hb
  have hs := h.c.size
  have hs2 := hb.size
  refine ⟨h1.more (fun b hn => New.later hs2 hn) (fun b hn => ?_) (fun i hi => ?_), h.c.step_below hb⟩
  · rcases hn with hn | hn
    · exact h1.under b (.inl hn)
    · exact hn.2
  · rintro (hn | hn)
    · exact h.t.out hi (.inl hn)
    · have h3 := h.t.plt hi
      rcases Nat.lt_or_ge (p i) wr.heap.size with h4 | h4
      · exact h.t.out hi (.inr ⟨hn.1, h4⟩)
      · omega
theorem TurnRel.start (h : TabI w' T p Q most o J) : TurnRel w' w' T p Q most o J :=
  ⟨h.more (fun _ hb => .inl hb) (h.under.new (Nat.le_refl _)) (fun _ hi => h.news (Nat.le_refl _) hi), Chg.refl _ _⟩
theorem TurnRel.step (h : TurnRel W wr T p Q most o J) (hW : ∀ i, i < 5 → p i < W.heap.size ∧ ¬ Q (p i)) (hu : Under Q W) {i : Nat} (hi : i < 5) {l' : List Pr} (hd : Done (New Q W wr) wr w' (p i) o l') :
    TurnRel W w' T p Q most o (fun c => if c = i then l' else J c) := by
  obtain ⟨h1, h2⟩ := h.t.turn hi hd
  exact ⟨TabI.join hW h.c.size h2.size hu h1, h.c.trans h2⟩
end
set_option maxHeartbeats 2000000 in
theorem turn_none (w : World) (T : Nat) (p : Nat → Nat) (Q : Bl) (most o : Nat) (J : Nat → List Pr) (k : List Nat) (vo : Value) (ro : Option Ro) (hT : TabI w T p Q most o J) (hb : Byt k) (hk : keyB k = true) (hl : ∀ i, i < 5 → (J i).length ≤ 2000)
    (ho : LRow w vo ro) (hro : ∀ r, ro = some r → r.ok) :
    Calls Try.prog 45 #[.pointer (some ⟨T, 0, none⟩), .string (str k), vo, .pointer none] w fun e w' => (∃ v, e = .returned v) ∧ TurnRel w w' T p Q most o (turnI k J ro (none)) := by
  have HT := hid hT
  have HB := hid hb
  have HO := hid ho
  have HRO := hid hro
  have HL := hid hl
  have hkl := keyB_yes hk
  have hce := checkE_yes hk
  have HPW : Hid (∀ i, i < 5 → p i < w.heap.size ∧ ¬ Q (p i)) := fun i hi => ⟨hT.plt hi, hT.out hi⟩
  have HU : Hid (Under Q w) := hT.under
  have HSE := hid str_nil
  have c5 := hT.c5
  have HK := hid hk
  clear hT hb hk hl ho hro
  go_enter Try.func45, Try.ntmps45
  refine wp_scope_straight ?_
  go_wp2_with fail
  refine ((HT.out.t 4 (by omega)).del (by have := HL.out 4 (by omega); omega) k HB.out (by omega)).mono ?_
  rintro e w1 ⟨rfl, hd⟩
  have HR1 : Hid (TurnRel w w1 T p Q most o (lineI k J none)) := by
    obtain ⟨h1, h2⟩ := HT.out.turn (by omega : 4 < 5) hd
    exact ⟨h1, h2⟩
  have HO1 : Hid (LRow w1 vo ro) := HO.out.chg HR1.out.c fun g r h => HT.out.rows h
  have HN1 : Hid (LRow w1 (.pointer none) none) := rfl
  clear hd c5
  have HLI : Hid (∀ c, c < 5 → (lineI k J (none) c).length ≤ 2001) := fun c hc => by have := lineI_len k J (none) c; have := HL.out c hc; omega
  go_wp2_with fail
  refine (changes_any w1 k vo (.pointer none) ro (none) HO1.out.prow HN1.out.prow).mono ?_
  rw [hce, if_pos HK.out]
  rintro e w2 ⟨u, rfl, hu, hb2, hf2⟩
  obtain ⟨A, n, cp, rfl⟩ := hu.form
  have hn := hu.cap.1
  obtain ⟨L, HLL⟩ : ∃ L, Hid (L = upto ro (none) 4) := ⟨_, rfl⟩
  have HCO : Hid (∀ g ∈ L, g.1 < 4 ∧ I64 g.2.1) := fun g hg => by rw [HLL.out] at hg; exact ⟨upto_col 4 g hg, upto_val HRO.out (fun r e => by cases e) 4 g hg⟩
  have hL8 : L.length ≤ 8 := by rw [HLL.out]; exact upto_len _ _ 4
  rw [← HLL.out] at hu hn
  have HR2 := hid (HR1.out.below hb2)
  have HE := hid hu
  have HF : Hid (∀ b ∈ ownFoot (Value.slice A n cp), b ∉ five p) := fun b hbm hm => by
    obtain ⟨i, hi, e⟩ := mem_five.1 hm
    have h1 := (HPW.out i hi).1
    have h2 := hf2 b hbm
    have h3 := HR1.out.c.size
    omega
  have HN := hid hn
  have hn8 : n ≤ 8 := by omega
  clear hu hb2 hf2 hn hL8
  go_wp2
  refine wp_label ?_
  dsimp only [Exit.then]
  go_wp2
  go_loopw [44] (fun i wr => ∃ j : Nat, j ≤ n ∧ i = .int .i64 j ∧ TurnRel w wr T p Q most o ((L.take j).foldl (stepI k) (lineI k J (none))) ∧ Elems 4 (cC (str k)) wr (.slice A n cp) L) (fun i _ => n - (intOf i).toNat)
  case atStart => exact ⟨0, by omega, rfl, HR2.out, HE.out⟩
  case round =>
    obtain ⟨j, hj, rfl, hrl, hel⟩ := hrel
    have HR := hid hrl
    have HEL := hid hel
    by_cases hlt : j < n
    · have hlti : (j : Int) < n := by omega
      obtain ⟨g, hg⟩ : ∃ g, L[j]? = some g := ⟨L[j]'(by have := HN.out; omega), List.getElem?_eq_getElem _⟩
      obtain ⟨col, x, a⟩ := g
      obtain ⟨ad, rfl, hat⟩ := hel.cat hg
      obtain ⟨q0, q1, q2, q3⟩ := hat
      have HBL : Hid (ad.block < wr.heap.size) := by have := blk_lt q0; rwa [add_blk] at this
      dsimp only at q0 q1 q2 q3
      obtain ⟨hc4, hx⟩ := HCO.out _ (List.mem_of_getElem? hg)
      dsimp only at hc4 hx
      have hc0 : (0 : Int) ≤ (col : Int) := by omega
      have hc5 : (col : Int) < 5 := by omega
      have HX := hid hx
      have HSTEP : Hid ((L.take (j + 1)).foldl (stepI k) (lineI k J (none)) = stepI k ((L.take j).foldl (stepI k) (lineI k J (none))) (col, x, a)) := by
        show _ = _
        rw [List.take_add_one, hg, List.foldl_append]
        rfl
      obtain ⟨JJ, HJJ⟩ : ∃ JJ, Hid (JJ = (L.take j).foldl (stepI k) (lineI k J (none))) := ⟨_, rfl⟩
      rw [← HJJ.out] at HR HSTEP
      have HLJ : Hid ((JJ col).length ≤ 5000) := by
        show _ ≤ _
        rw [HJJ.out]
        have h1 := foldI_len k col (L.take j) (lineI k J (none))
        have h2 := HLI.out col (by omega)
        rw [List.length_take] at h1
        omega
      have HNA := hid (CAt.new (str k) wr col x a)
      obtain ⟨n0, n1, n2, n3⟩ := HNA.out
      dsimp only at n0 n1 n2 n3
      clear hg hx hrl hel
      go_wp2_with fail
      refine (put_raw _ x k HX.out HK.out).mono ?_
      rintro e w3 ⟨rfl, hb3⟩
      have HB3 := hid hb3
      have HBA : Hid (Below wr.heap.size wr (wr.alloc (.cells #[.int .i64 (col : Int), .int .i64 x, .string (str k), .bool a] 113))) := (Below.refl _ _).alloc (Nat.le_refl _) _
      have HR3 := hid ((HR.out.below HBA.out).below hb3)
      have HE3 := hid ((HEL.out.below HBA.out).below hb3)
      have HN3 := hid (HNA.out.below hb3)
      have HEF : Hid (∀ w4 : World, Chg (five p) w3.drew w4 (five p) → Elems 4 (cC (str k)) w4 (.slice (some ad) n cp) L) := fun w4 hc4 =>
        HE3.out.keep fun b hbm => by
          have hlt3 : b < w3.heap.size := by
            have h1 : b = ad.block := by simpa [ownFoot, Value.ownBlock] using hbm
            have h2 := HBL.out
            have h3 := HBA.out.size
            have h4 := HB3.out.size
            omega
          exact hc4.block b hlt3 (HF.out b hbm)
      clear hb3 n0 n1 n2 n3 q0 q1 q2 q3
      obtain ⟨n0, n1, n2, n3⟩ := HN3.out
      dsimp only at n0 n1 n2 n3
      have cc := HR3.out.t.cp (i := col) (by omega)
      have HR3D : Hid (TurnRel w w3.drew T p Q most o JJ) := HR3.out.below (below_drew' _)
      have HNE : Hid (∀ w4 : World, Chg [p col] w3.drew w4 [p col] → w4.cell? ⟨wr.heap.size, 0, none⟩ = some (.int .i64 (col : Int)) ∧ w4.cell? ⟨T, 1 + col, none⟩ = some (.pointer (some ⟨p col, 0, none⟩))) := fun w4 hc4 => by
        have h1 := (HPW.out col (by omega)).1
        have h2 := HR.out.c.size
        have h3 := HT.out.nT col (by omega)
        exact ⟨chg_cell (w := w3.drew) hc4 n0 (by simp; omega), chg_cell (w := w3.drew) hc4 cc (by simp; omega)⟩
      cases a with
      | true =>
        go_wp2_with fail
        go_region_held3 (fun W => W.cell? ⟨wr.heap.size, 0, none⟩ = some (.int .i64 (col : Int)) ∧ W.cell? ⟨T, 1 + col, none⟩ = some (.pointer (some ⟨p col, 0, none⟩))) (first | exact ⟨n0, cc⟩ | exact HS4.out)
          (first | (go_at_call 67; ((with_reducible refine ((HR3D.out.t.t col (by omega)).put0 HLJ.out (entB x k) (entB_byt x HB.out) (by rw [entB_len]; omega)).mono ?_); rintro e w4 ⟨⟨v4, rfl⟩, hd4⟩; have HD4 := hid hd4; have HS4 : Hid (w4.cell? ⟨wr.heap.size, 0, none⟩ = some (.int .i64 (col : Int)) ∧ w4.cell? ⟨T, 1 + col, none⟩ = some (.pointer (some ⟨p col, 0, none⟩))) := HNE.out w4 hd4.2; clear hd4)))
        have HR4 := hid (HR3D.out.step HPW.out HU.out (by omega) HD4.out)
        go_wp2
        go_roundw
        case rel =>
          refine ⟨j + 1, by omega, by go_num, ?_, HEF.out w4 (HD4.out.2.wide2 fun b hb => by simp at hb; rw [hb]; exact mem_five.2 ⟨col, by omega, rfl⟩)⟩
          rw [HSTEP.out]
          have e : stepI k JJ (col, x, true) = fun c => if c = col then putN (JJ col) (entB x k) [] else JJ c := by
            funext c
            unfold stepI step1
            by_cases hc : c = col
            · subst hc; rfl
            · dsimp only; rw [if_neg hc, if_neg hc]
          rw [e]; exact HR4.out
        case measure => simp [intOf]; omega
      | false =>
        go_wp2_with fail
        go_region_held3 (fun W => W.cell? ⟨wr.heap.size, 0, none⟩ = some (.int .i64 (col : Int)) ∧ W.cell? ⟨T, 1 + col, none⟩ = some (.pointer (some ⟨p col, 0, none⟩))) (first | exact ⟨n0, cc⟩ | exact HS4.out)
          (first | (go_at_call 66; ((with_reducible refine ((HR3D.out.t.t col (by omega)).del0 HLJ.out (entB x k) (entB_byt x HB.out) (by rw [entB_len]; omega)).mono ?_); rintro e w4 ⟨⟨v4, rfl⟩, hd4⟩; have HD4 := hid hd4; have HS4 : Hid (w4.cell? ⟨wr.heap.size, 0, none⟩ = some (.int .i64 (col : Int)) ∧ w4.cell? ⟨T, 1 + col, none⟩ = some (.pointer (some ⟨p col, 0, none⟩))) := HNE.out w4 hd4.2; clear hd4)))
        have HR4 := hid (HR3D.out.step HPW.out HU.out (by omega) HD4.out)
        go_wp2
        go_roundw
        case rel =>
          refine ⟨j + 1, by omega, by go_num, ?_, HEF.out w4 (HD4.out.2.wide2 fun b hb => by simp at hb; rw [hb]; exact mem_five.2 ⟨col, by omega, rfl⟩)⟩
          rw [HSTEP.out]
          have e : stepI k JJ (col, x, false) = fun c => if c = col then delN (JJ col) (entB x k) else JJ c := by
            funext c
            unfold stepI step1
            by_cases hc : c = col
            · subst hc; rfl
            · dsimp only; rw [if_neg hc, if_neg hc]
          rw [e]; exact HR4.out
        case measure => simp [intOf]; omega
    · obtain rfl : j = n := by omega
      have hall : L.take j = L := List.take_of_length_le (by have := HN.out; omega)
      rw [hall, HLL.out] at HR
      go_wp2
      dsimp only [Exit.noGoto]
      refine bodyPost_end (results_none rfl _ _ _) rfl ?_
      exact ⟨⟨_, rfl⟩, HR.out⟩
set_option maxHeartbeats 2000000 in
theorem turn_some (w : World) (T : Nat) (p : Nat → Nat) (Q : Bl) (most o : Nat) (J : Nat → List Pr) (k : List Nat) (vo : Value) (ro : Option Ro) (vn : Value) (r : Ro) (hT : TabI w T p Q most o J) (hb : Byt k) (hk : keyB k = true) (hl : ∀ i, i < 5 → (J i).length ≤ 2000)
    (ho : LRow w vo ro) (hro : ∀ r, ro = some r → r.ok) (hn : LRow w vn (some r)) (hr : r.ok) :
    Calls Try.prog 45 #[.pointer (some ⟨T, 0, none⟩), .string (str k), vo, vn] w fun e w' => (∃ v, e = .returned v) ∧ TurnRel w w' T p Q most o (turnI k J ro (some r)) := by
  have HT := hid hT
  have HB := hid hb
  have HO := hid ho
  have HRO := hid hro
  have HL := hid hl
  have hkl := keyB_yes hk
  have hce := checkE_yes hk
  have HPW : Hid (∀ i, i < 5 → p i < w.heap.size ∧ ¬ Q (p i)) := fun i hi => ⟨hT.plt hi, hT.out hi⟩
  have HU : Hid (Under Q w) := hT.under
  have HSE := hid str_nil
  have c5 := hT.c5
  have HK := hid hk
  have HRR := hid hr
  obtain ⟨g, rfl, hlies⟩ := hn
  have HG := hid hlies
  obtain ⟨r0, r1, r2, r3⟩ := HG.out.four
  have HRD : Hid (TurnRel w w.drew T p Q most o J) := (TurnRel.start hT).below (below_drew' w)
  have HGD : Hid (Lies w.drew g r) := hlies
  clear hT hb hk hl ho hro hr hlies
  go_enter Try.func45, Try.ntmps45
  refine wp_scope_straight ?_
  go_wp2_with fail
  go_region_held (fun W => W.cell? ⟨T, 5, none⟩ = some (.pointer (some ⟨p 4, 0, none⟩)) ∧ W.cell? ⟨g, 0, none⟩ = some (.int .i64 r.a) ∧ W.cell? ⟨g, 1, none⟩ = some (.int .i64 r.b) ∧ W.cell? ⟨g, 2, none⟩ = some (.int .i64 r.c) ∧ W.cell? ⟨g, 3, none⟩ = some (.int .i64 r.d))
    (first | exact ⟨c5, r0, r1, r2, r3⟩ | exact HS1.out | exact HS2.out)
    (first
      | (go_at_call 68; ((with_reducible refine (rencode_raw _ r HRR.out).mono ?_); rintro e w0 ⟨u, rfl, hu, hb⟩; have HRA := hid (HRD.out.below hb.nil_below); have HGA := hid (HGD.out.below hb.nil_below); have hcv := hu.sl.str (P := Try.prog) 92 5 9 Try.underlying92 Try.underlying5 Try.underlying9; have HS1 := hid (And.intro HRA.out.t.c5 HGA.out.four); clear hu hb))
      | (go_at_call 67; ((with_reducible refine ((HRA.out.t.t 4 (by omega)).put1 (by have := HL.out 4 (by omega); omega) k (enc r.l) HB.out (enc_byt _) (by omega)).mono ?_); rintro e w1 ⟨⟨v1, rfl⟩, hd⟩; have HR1 : Hid (TurnRel w w1 T p Q most o (lineI k J (some r))) := (HRA.out.step HPW.out HU.out (by omega : 4 < 5) hd); have HN1 : Hid (LRow w1 (.pointer (some ⟨g, 0, none⟩)) (some r)) := ⟨g, rfl, HGA.out.keep (hd.2.block g HGA.out.lt (by simp; exact (HRA.out.t.t 4 (by omega)).not_row HGA.out))⟩; have HS2 := hid (And.intro HR1.out.t.c5 (Lies.four (let ⟨_, e, h⟩ := HN1.out; by cases e; exact h))); clear hd)))
  have HO1 : Hid (LRow w1 vo ro) := HO.out.chg HR1.out.c fun g r h => HT.out.rows h
  clear c5 r0 r1 r2 r3
  have HLI : Hid (∀ c, c < 5 → (lineI k J (some r) c).length ≤ 2001) := fun c hc => by have := lineI_len k J (some r) c; have := HL.out c hc; omega
  go_wp2_with fail
  refine (changes_any w1 k vo (.pointer (some ⟨g, 0, none⟩)) ro (some r) HO1.out.prow HN1.out.prow).mono ?_
  rw [hce, if_pos HK.out]
  rintro e w2 ⟨u, rfl, hu, hb2, hf2⟩
  obtain ⟨A, n, cp, rfl⟩ := hu.form
  have hn := hu.cap.1
  obtain ⟨L, HLL⟩ : ∃ L, Hid (L = upto ro (some r) 4) := ⟨_, rfl⟩
  have HCO : Hid (∀ g ∈ L, g.1 < 4 ∧ I64 g.2.1) := fun g hg => by rw [HLL.out] at hg; exact ⟨upto_col 4 g hg, upto_val HRO.out (fun s e => by cases e; exact HRR.out) 4 g hg⟩
  have hL8 : L.length ≤ 8 := by rw [HLL.out]; exact upto_len _ _ 4
  rw [← HLL.out] at hu hn
  have HR2 := hid (HR1.out.below hb2)
  have HE := hid hu
  have HF : Hid (∀ b ∈ ownFoot (Value.slice A n cp), b ∉ five p) := fun b hbm hm => by
    obtain ⟨i, hi, e⟩ := mem_five.1 hm
    have h1 := (HPW.out i hi).1
    have h2 := hf2 b hbm
    have h3 := HR1.out.c.size
    omega
  have HN := hid hn
  have hn8 : n ≤ 8 := by omega
  clear hu hb2 hf2 hn hL8
  go_wp2
  refine wp_label ?_
  dsimp only [Exit.then]
  go_wp2
  go_loopw [44] (fun i wr => ∃ j : Nat, j ≤ n ∧ i = .int .i64 j ∧ TurnRel w wr T p Q most o ((L.take j).foldl (stepI k) (lineI k J (some r))) ∧ Elems 4 (cC (str k)) wr (.slice A n cp) L) (fun i _ => n - (intOf i).toNat)
  case atStart => exact ⟨0, by omega, rfl, HR2.out, HE.out⟩
  case round =>
    obtain ⟨j, hj, rfl, hrl, hel⟩ := hrel
    have HR := hid hrl
    have HEL := hid hel
    by_cases hlt : j < n
    · have hlti : (j : Int) < n := by omega
      obtain ⟨g', hg⟩ : ∃ g, L[j]? = some g := ⟨L[j]'(by have := HN.out; omega), List.getElem?_eq_getElem _⟩
      obtain ⟨col, x, a⟩ := g'
      obtain ⟨ad, rfl, hat⟩ := hel.cat hg
      obtain ⟨q0, q1, q2, q3⟩ := hat
      have HBL : Hid (ad.block < wr.heap.size) := by have := blk_lt q0; rwa [add_blk] at this
      dsimp only at q0 q1 q2 q3
      obtain ⟨hc4, hx⟩ := HCO.out _ (List.mem_of_getElem? hg)
      dsimp only at hc4 hx
      have hc0 : (0 : Int) ≤ (col : Int) := by omega
      have hc5 : (col : Int) < 5 := by omega
      have HX := hid hx
      have HSTEP : Hid ((L.take (j + 1)).foldl (stepI k) (lineI k J (some r)) = stepI k ((L.take j).foldl (stepI k) (lineI k J (some r))) (col, x, a)) := by
        show _ = _
        rw [List.take_add_one, hg, List.foldl_append]
        rfl
      obtain ⟨JJ, HJJ⟩ : ∃ JJ, Hid (JJ = (L.take j).foldl (stepI k) (lineI k J (some r))) := ⟨_, rfl⟩
      rw [← HJJ.out] at HR HSTEP
      have HLJ : Hid ((JJ col).length ≤ 5000) := by
        show _ ≤ _
        rw [HJJ.out]
        have h1 := foldI_len k col (L.take j) (lineI k J (some r))
        have h2 := HLI.out col (by omega)
        rw [List.length_take] at h1
        omega
      have HNA := hid (CAt.new (str k) wr col x a)
      obtain ⟨n0, n1, n2, n3⟩ := HNA.out
      dsimp only at n0 n1 n2 n3
      clear hg hx hrl hel
      go_wp2_with fail
      refine (put_raw _ x k HX.out HK.out).mono ?_
      rintro e w3 ⟨rfl, hb3⟩
      have HB3 := hid hb3
      have HBA : Hid (Below wr.heap.size wr (wr.alloc (.cells #[.int .i64 (col : Int), .int .i64 x, .string (str k), .bool a] 113))) := (Below.refl _ _).alloc (Nat.le_refl _) _
      have HR3 := hid ((HR.out.below HBA.out).below hb3)
      have HE3 := hid ((HEL.out.below HBA.out).below hb3)
      have HN3 := hid (HNA.out.below hb3)
      have HEF : Hid (∀ w4 : World, Chg (five p) w3.drew w4 (five p) → Elems 4 (cC (str k)) w4 (.slice (some ad) n cp) L) := fun w4 hc4 =>
        HE3.out.keep fun b hbm => by
          have hlt3 : b < w3.heap.size := by
            have h1 : b = ad.block := by simpa [ownFoot, Value.ownBlock] using hbm
            have h2 := HBL.out
            have h3 := HBA.out.size
            have h4 := HB3.out.size
            omega
          exact hc4.block b hlt3 (HF.out b hbm)
      clear hb3 n0 n1 n2 n3 q0 q1 q2 q3
      obtain ⟨n0, n1, n2, n3⟩ := HN3.out
      dsimp only at n0 n1 n2 n3
      have cc := HR3.out.t.cp (i := col) (by omega)
      have HR3D : Hid (TurnRel w w3.drew T p Q most o JJ) := HR3.out.below (below_drew' _)
      have HNE : Hid (∀ w4 : World, Chg [p col] w3.drew w4 [p col] → w4.cell? ⟨wr.heap.size, 0, none⟩ = some (.int .i64 (col : Int)) ∧ w4.cell? ⟨T, 1 + col, none⟩ = some (.pointer (some ⟨p col, 0, none⟩))) := fun w4 hc4 => by
        have h1 := (HPW.out col (by omega)).1
        have h2 := HR.out.c.size
        have h3 := HT.out.nT col (by omega)
        exact ⟨chg_cell (w := w3.drew) hc4 n0 (by simp; omega), chg_cell (w := w3.drew) hc4 cc (by simp; omega)⟩
      cases a with
      | true =>
        go_wp2_with fail
        go_region_held3 (fun W => W.cell? ⟨wr.heap.size, 0, none⟩ = some (.int .i64 (col : Int)) ∧ W.cell? ⟨T, 1 + col, none⟩ = some (.pointer (some ⟨p col, 0, none⟩))) (first | exact ⟨n0, cc⟩ | exact HS4.out)
          (first | (go_at_call 67; ((with_reducible refine ((HR3D.out.t.t col (by omega)).put0 HLJ.out (entB x k) (entB_byt x HB.out) (by rw [entB_len]; omega)).mono ?_); rintro e w4 ⟨⟨v4, rfl⟩, hd4⟩; have HD4 := hid hd4; have HS4 : Hid (w4.cell? ⟨wr.heap.size, 0, none⟩ = some (.int .i64 (col : Int)) ∧ w4.cell? ⟨T, 1 + col, none⟩ = some (.pointer (some ⟨p col, 0, none⟩))) := HNE.out w4 hd4.2; clear hd4)))
        have HR4 := hid (HR3D.out.step HPW.out HU.out (by omega) HD4.out)
        go_wp2
        go_roundw
        case rel =>
          refine ⟨j + 1, by omega, by go_num, ?_, HEF.out w4 (HD4.out.2.wide2 fun b hb => by simp at hb; rw [hb]; exact mem_five.2 ⟨col, by omega, rfl⟩)⟩
          rw [HSTEP.out]
          have e : stepI k JJ (col, x, true) = fun c => if c = col then putN (JJ col) (entB x k) [] else JJ c := by
            funext c
            unfold stepI step1
            by_cases hc : c = col
            · subst hc; rfl
            · dsimp only; rw [if_neg hc, if_neg hc]
          rw [e]; exact HR4.out
        case measure => simp [intOf]; omega
      | false =>
        go_wp2_with fail
        go_region_held3 (fun W => W.cell? ⟨wr.heap.size, 0, none⟩ = some (.int .i64 (col : Int)) ∧ W.cell? ⟨T, 1 + col, none⟩ = some (.pointer (some ⟨p col, 0, none⟩))) (first | exact ⟨n0, cc⟩ | exact HS4.out)
          (first | (go_at_call 66; ((with_reducible refine ((HR3D.out.t.t col (by omega)).del0 HLJ.out (entB x k) (entB_byt x HB.out) (by rw [entB_len]; omega)).mono ?_); rintro e w4 ⟨⟨v4, rfl⟩, hd4⟩; have HD4 := hid hd4; have HS4 : Hid (w4.cell? ⟨wr.heap.size, 0, none⟩ = some (.int .i64 (col : Int)) ∧ w4.cell? ⟨T, 1 + col, none⟩ = some (.pointer (some ⟨p col, 0, none⟩))) := HNE.out w4 hd4.2; clear hd4)))
        have HR4 := hid (HR3D.out.step HPW.out HU.out (by omega) HD4.out)
        go_wp2
        go_roundw
        case rel =>
          refine ⟨j + 1, by omega, by go_num, ?_, HEF.out w4 (HD4.out.2.wide2 fun b hb => by simp at hb; rw [hb]; exact mem_five.2 ⟨col, by omega, rfl⟩)⟩
          rw [HSTEP.out]
          have e : stepI k JJ (col, x, false) = fun c => if c = col then delN (JJ col) (entB x k) else JJ c := by
            funext c
            unfold stepI step1
            by_cases hc : c = col
            · subst hc; rfl
            · dsimp only; rw [if_neg hc, if_neg hc]
          rw [e]; exact HR4.out
        case measure => simp [intOf]; omega
    · obtain rfl : j = n := by omega
      have hall : L.take j = L := List.take_of_length_le (by have := HN.out; omega)
      rw [hall, HLL.out] at HR
      go_wp2
      dsimp only [Exit.noGoto]
      refine bodyPost_end (results_none rfl _ _ _) rfl ?_
      exact ⟨⟨_, rfl⟩, HR.out⟩
end Go.Proofs.Ytlnagdodnkhbmaa
