/- Calls, one by one, with a table and with the reference's. -/
import Derived.Test.YtlnagdodnkhbmaaT9
import Derived.Test.YtlnagdodnkhbmaaT12
namespace Go.Proofs.Ytlnagdodnkhbmaa
open Go.RowKit
set_option maxRecDepth 100000

/-- A call: what is asked, a key, a row. -/
structure Op7 where
  k : Int
  key : List Nat
  row : Ro
structure Op7.Ok (o : Op7) : Prop where
  key : Byt o.key
  row : o.row.ok
def cOp (o : Op7) : List Value := [.int .i64 o.k, .string (str o.key), .int .i64 o.row.a, .int .i64 o.row.b, .int .i64 o.row.c, .int .i64 o.row.d]
theorem cOp_len (o : Op7) : (cOp o).length = 6 := rfl
def opV (o : Op7) : Value := .agg #[.int .i64 o.k, .string (str o.key), .int .i64 o.row.a, .int .i64 o.row.b, .int .i64 o.row.c, .int .i64 o.row.d]
def OpAt (w : World) (b : Addr) (o : Op7) : Prop :=
  w.cell? b = some (.int .i64 o.k) ∧ w.cell? { block := b.block, off := b.off + 1, spot := none } = some (.string (str o.key)) ∧ w.cell? { block := b.block, off := b.off + 2, spot := none } = some (.int .i64 o.row.a) ∧
    w.cell? { block := b.block, off := b.off + 3, spot := none } = some (.int .i64 o.row.b) ∧ w.cell? { block := b.block, off := b.off + 4, spot := none } = some (.int .i64 o.row.c) ∧ w.cell? { block := b.block, off := b.off + 5, spot := none } = some (.int .i64 o.row.d)
theorem Elems.opAt {w : World} {A : Option Addr} {n cap i : Nat} {l : List Op7} {o : Op7} (h : Elems 6 cOp w (.slice A n cap) l) (hi : l[i]? = some o) : ∃ ad, A = some ad ∧ OpAt w (ad.add (i * 6)) o := by
  obtain ⟨ad, hA, h0⟩ := h.cell cOp_len hi (j := 0) rfl
  obtain ⟨ad1, hA1, h1⟩ := h.cell cOp_len hi (j := 1) rfl
  obtain ⟨ad2, hA2, h2⟩ := h.cell cOp_len hi (j := 2) rfl
  obtain ⟨ad3, hA3, h3⟩ := h.cell cOp_len hi (j := 3) rfl
  obtain ⟨ad4, hA4, h4⟩ := h.cell cOp_len hi (j := 4) rfl
  obtain ⟨ad5, hA5, h5⟩ := h.cell cOp_len hi (j := 5) rfl
  subst hA
  injection hA1 with hA1; injection hA2 with hA2; injection hA3 with hA3; injection hA4 with hA4; injection hA5 with hA5
  subst hA1; subst hA2; subst hA3; subst hA4; subst hA5
  rw [add_off ad _ 0] at h1
  rw [add_off ad _ 1] at h2
  rw [add_off ad _ 2] at h3
  rw [add_off ad _ 3] at h4
  rw [add_off ad _ 4] at h5
  exact ⟨ad, rfl, h0, h1, h2, h3, h4, h5⟩
theorem OpAt.below {w w' : World} {b : Addr} {o : Op7} (h : OpAt w b o) (hb : Below w.heap.size w w') : OpAt w' b o :=
  ⟨below_keep hb _ _ h.1, below_keep hb _ _ h.2.1, below_keep hb _ _ h.2.2.1, below_keep hb _ _ h.2.2.2.1, below_keep hb _ _ h.2.2.2.2.1, below_keep hb _ _ h.2.2.2.2.2⟩
theorem OpAt.chg {w w' : World} {b : Addr} {o : Op7} {F F' : List Nat} (h : OpAt w b o) (hc : Chg F w w' F') (hF : b.block ∉ F) : OpAt w' b o :=
  ⟨chg_cell hc h.1 hF, chg_cell hc h.2.1 hF, chg_cell hc h.2.2.1 hF, chg_cell hc h.2.2.2.1 hF, chg_cell hc h.2.2.2.2.1 hF, chg_cell hc h.2.2.2.2.2 hF⟩
theorem opAt_new (w : World) (o : Op7) : OpAt (w.alloc (.cells #[.int .i64 o.k, .string (str o.key), .int .i64 o.row.a, .int .i64 o.row.b, .int .i64 o.row.c, .int .i64 o.row.d] 35)) ⟨w.heap.size, 0, none⟩ o :=
  ⟨cell_of_row _ _ 0 _ _ _ (heap_alloc_new w _), cell_of_row _ _ 1 _ _ _ (heap_alloc_new w _), cell_of_row _ _ 2 _ _ _ (heap_alloc_new w _), cell_of_row _ _ 3 _ _ _ (heap_alloc_new w _), cell_of_row _ _ 4 _ _ _ (heap_alloc_new w _), cell_of_row _ _ 5 _ _ _ (heap_alloc_new w _)⟩
def stepK (most : Nat) (l : List KR) (o : Op7) : List KR := if o.k = 0 then kputN most l o.key o.row else if o.k = 1 then kdelN l o.key else l
theorem stepK_ok {l : List KR} (h : RowsOk l) (most : Nat) {o : Op7} (ho : o.Ok) : RowsOk (stepK most l o) := by
  unfold stepK
  split
  · exact h.kput most ho.key ho.row
  · split
    · exact h.kdel _
    · exact h
theorem stepK_len (most : Nat) (l : List KR) (o : Op7) : (stepK most l o).length ≤ l.length + 1 := by
  unfold stepK
  split
  · exact kputN_len _ _ _ _
  · split
    · have := kdelN_len l o.key; omega
    · omega
theorem stepK_most {most : Nat} {l : List KR} (h : l.length ≤ most) (o : Op7) : (stepK most l o).length ≤ most := by
  unfold stepK
  split
  · exact kputN_most h _ _
  · split
    · have := kdelN_len l o.key; omega
    · exact h
def runK (most : Nat) (l : List KR) (os : List Op7) : List KR := os.foldl (stepK most) l
theorem runK_take {os : List Op7} {i : Nat} {o : Op7} (most : Nat) (l : List KR) (h : os[i]? = some o) : runK most l (os.take (i + 1)) = stepK most (runK most l (os.take i)) o := by
  unfold runK
  rw [List.take_add_one, h, List.foldl_append]
  rfl

/-- A table and the reference's beside it: the same rows; nothing else has turned since W, and what turns lies behind W. -/
structure St (W w : World) (T : Nat) (p : Nat → Nat) (Q : Bl) (most o : Nat) (G : List Nat) (rp : Nat) (l : List KR) : Prop where
  t : Tab w T p Q most o l
  r : RTab w G rp most l
  n : ∀ i, i < 5 → p i ∉ G
  m : ¬ Q rp
  nT : rp ≠ T
  c : Chg [] W w (rp :: five p)
section
variable {W w w' : World} {T : Nat} {p : Nat → Nat} {Q : Bl} {most o : Nat} {G : List Nat} {rp : Nat} {l l' : List KR}
theorem St.ne (h : St W w T p Q most o G rp l) {i : Nat} (hi : i < 5) : p i ≠ rp := fun e => h.n i hi (e ▸ h.r.mem)
theorem St.fiveG (h : St W w T p Q most o G rp l) : ∀ b ∈ five p, b ∉ G := fun b hb => by
  obtain ⟨i, hi, rfl⟩ := mem_five.1 hb
  exact h.n i hi
theorem St.since (h : St W w T p Q most o G rp l) : Below W.heap.size W w := h.c.below (fun _ h => by cases h) (Nat.le_refl _)
theorem St.below_ (h : St W w T p Q most o G rp l) (hb : Below w.heap.size w w') : St W w' T p Q most o G rp l :=
  ⟨h.t.below hb, h.r.below hb, h.n, h.m, h.nT, h.c.step_below hb⟩
/-- Both sides were called, one behind the other. -/
theorem St.both {w1 : World} {u : Value} {e : Ending} (h : St W w T p Q most o G rp l) (h1 : Tab w1 T p (New Q w w1) most o l') (c1 : Chg (five p) w w1 (five p)) (h2 : REnd w1 G rp most l' u e w') : ∃ Q' G', St W w' T p Q' most o G' rp l' ∧ ∀ b, Q' b → Q b ∨ w.heap.size ≤ b := by
  obtain ⟨-, G', r2, c2, hG⟩ := h2
  have hrp := h.r.plt
  refine ⟨_, G', ⟨h1.chg c2 (by simp; exact fun e => h.nT e.symm) (fun i hi => by simpa using h.ne hi) (fun b hb => ?_), r2, fun i hi hm => ?_, ?_, h.nT, ?_⟩, fun b hb => hb.imp id fun h => h.1⟩
  · simp at hb; subst hb
    rintro (hh | hh)
    · exact h.m hh
    · omega
  · rcases hG _ hm with hh | hh
    · exact h.n i hi hh
    · have := c1.size; have := h.t.plt hi; omega
  · rintro (hh | hh)
    · exact h.m hh
    · omega
  · have c3 : Chg (rp :: five p) w w1 (rp :: five p) := c1.wide2 fun k hk => List.mem_cons_of_mem _ hk
    have c4 : Chg (rp :: five p) w1 w' (rp :: five p) := c2.wide2 fun k hk => by simp at hk; rw [hk]; exact List.mem_cons_self
    exact (h.c.trans c3).trans c4
theorem tput_raw (h : Tab w T p Q most o l) (k : List Nat) (hb : Byt k) (r : Ro) (hr : r.ok) :
    Calls Try.prog 24 #[.pointer (some ⟨T, 0, none⟩), .string (str k), .agg #[.int .i64 r.a, .int .i64 r.b, .int .i64 r.c, .int .i64 r.d]] w (PutEnd w T p Q most o (kputN most l k r) (kgetR l k) (kputW l k) (kputE most l k)) := tput h k hb r hr
theorem rput_raw (hR : RTab w G rp most l) (hl : KByt l) (k : List Nat) (hb : Byt k) (hsz : l.length ≤ 1024) (r : Ro) :
    Calls Try.prog 29 #[.pointer (some ⟨rp, 0, none⟩), .string (str k), .agg #[.int .i64 r.a, .int .i64 r.b, .int .i64 r.c, .int .i64 r.d]] w (REnd w G rp most (kputN most l k r) (.tuple #[rowv (kgetR l k), .bool (kputW l k), .int .i64 (kputE most l k)])) := rput hR hl k hb hsz r
theorem rend_from {w0 : World} {u : Value} {e : Ending} (hb : Below w0.heap.size w0 w) (h : REnd w G rp most l u e w') : REnd w0 G rp most l u e w' := by
  obtain ⟨he, F', h1, h2, h3⟩ := h
  refine ⟨he, F', h1, (Chg.of_below hb).trans h2, fun b hm => ?_⟩
  rcases h3 b hm with hh | hh
  · exact .inl hh
  · exact .inr (Nat.le_trans hb.size hh)
/-- Behind a call of both. -/
def Both (W : World) (T : Nat) (p : Nat → Nat) (most o rp : Nat) (l : List KR) (e : Ending) (w' : World) : Prop :=
  e = .returned (.bool true) ∧ ∃ Q' G', St W w' T p Q' most o G' rp l
/-- The same, with where the nodes lie: they lay there, or are new. -/
def BothQ (W w : World) (Q : Bl) (T : Nat) (p : Nat → Nat) (most o rp : Nat) (l : List KR) (e : Ending) (w' : World) : Prop :=
  e = .returned (.bool true) ∧ ∃ Q' G', St W w' T p Q' most o G' rp l ∧ ∀ b, Q' b → Q b ∨ w.heap.size ≤ b
theorem does_put (h : St W w T p Q most o G rp l) (kx : List Nat) (r : Ro) (hkb : Byt kx) (hr : r.ok) :
    Calls Try.prog 12 #[.pointer (some ⟨T, 0, none⟩), .pointer (some ⟨rp, 0, none⟩), opV ⟨0, kx, r⟩] w (BothQ W w Q T p most o rp (kputN most l kx r)) := by
  have hba : Below w.heap.size w (w.alloc (.cells #[.int .i64 0, .string (str kx), .int .i64 r.a, .int .i64 r.b, .int .i64 r.c, .int .i64 r.d] 35)) := (Below.refl _ w).alloc (Nat.le_refl _) _
  have HBA := hid hba
  have HST := hid (h.below_ hba)
  have HO := hid (opAt_new w ⟨0, kx, r⟩)
  have HWF : Hid (∀ i, i < 5 → p i < w.heap.size) := fun i hi => h.t.plt hi
  have HBF : Hid (w.heap.size ∉ five p) := fun hm => by have := h.t.flt _ hm; omega
  have HLE : Hid (l.length ≤ 1024) := h.t.le
  have HKB := hid h.t.rows.kbyt
  obtain ⟨A, HA⟩ : ∃ A, Hid (A = kgetR l kx) := ⟨_, rfl⟩
  have heq := eq_rows A A
  rw [decide_eq_true rfl] at heq
  obtain ⟨hc0, hc1, hc2, hc3, hc4, hc5⟩ := HO.out
  dsimp only at hc0 hc1 hc2 hc3 hc4 hc5
  clear hba h
  unfold opV
  go_enter Try.func12, Try.ntmps12
  obtain ⟨B, HB⟩ : ∃ B, Hid (B = kputW l kx) := ⟨_, rfl⟩
  obtain ⟨E, HE⟩ : ∃ E, Hid (E = kputE most l kx) := ⟨_, rfl⟩
  go_wp2_with fail
  refine (tput_raw HST.out.t kx hkb r hr).mono ?_
  rw [← HA.out, ← HB.out, ← HE.out]
  rintro e w1 ⟨rfl, ht1, cg1⟩
  have HT1 := hid ht1
  have HC1 := hid cg1
  have HR1 := hid (HST.out.r.chg cg1 HST.out.fiveG)
  have HO1 := hid ((HO.out.chg cg1 HBF.out))
  clear hc0 hc1 hc2 hc3 hc4 hc5 ht1 cg1
  have HBB : Hid (Below w1.heap.size w1 (w1.alloc (.cells (rowc A) 33))) := (Below.refl _ _).alloc (Nat.le_refl _) _
  have HL1 := hid (Lies.new w1 A)
  dsimp only [rowv, rowc] at HBB HL1 ⊢
  obtain ⟨hc0, hc1, hc2, hc3, hc4, hc5⟩ := HO1.out.below HBB.out
  dsimp only at hc0 hc1 hc2 hc3 hc4 hc5
  go_wp2_with fail
  refine (rput_raw (HR1.out.below HBB.out) HKB.out kx hkb HLE.out r).mono ?_
  rw [← HA.out, ← HB.out, ← HE.out]
  intro e w2 hr2
  have HR2 := hid hr2
  obtain ⟨rfl, -, -, cg2, -⟩ := hr2
  have HST1 := hid (HST.out.both HT1.out HC1.out (rend_from HBB.out HR2.out))
  have HL2 : Hid (Lies w2 w1.heap.size A) := HL1.out.keep (cg2.block _ HL1.out.lt (by have := HR1.out.plt; simp; omega))
  clear hc0 hc1 hc2 hc3 hc4 hc5 cg2
  dsimp only [rowv, rowc]
  obtain ⟨y0, y1, y2, y3⟩ := (HL2.out.below ((Below.refl _ _).alloc (Nat.le_refl _) (.cells (rowc A) 33))).four
  obtain ⟨z0, z1, z2, z3⟩ := (Lies.new w2 A).four
  dsimp only [rowc] at y0 y1 y2 y3 z0 z1 z2 z3
  go_wp2
  go_ret
  obtain ⟨Q', G', h, hq⟩ := HST1.out
  exact ⟨rfl, Q', G', h.below_ ((Below.refl _ _).alloc (Nat.le_refl _) _), fun b hb => (hq b hb).imp id fun h => by simp at h; omega⟩
theorem does_del (h : St W w T p Q most o G rp l) (kx : List Nat) (r : Ro) (hkb : Byt kx) (_hr : r.ok) :
    Calls Try.prog 12 #[.pointer (some ⟨T, 0, none⟩), .pointer (some ⟨rp, 0, none⟩), opV ⟨1, kx, r⟩] w (BothQ W w Q T p most o rp (kdelN l kx)) := by
  have hba : Below w.heap.size w (w.alloc (.cells #[.int .i64 1, .string (str kx), .int .i64 r.a, .int .i64 r.b, .int .i64 r.c, .int .i64 r.d] 35)) := (Below.refl _ w).alloc (Nat.le_refl _) _
  have HBA := hid hba
  have HST := hid (h.below_ hba)
  have HO := hid (opAt_new w ⟨1, kx, r⟩)
  have HWF : Hid (∀ i, i < 5 → p i < w.heap.size) := fun i hi => h.t.plt hi
  have HBF : Hid (w.heap.size ∉ five p) := fun hm => by have := h.t.flt _ hm; omega
  have HLE : Hid (l.length ≤ 1024) := h.t.le
  have HKB := hid h.t.rows.kbyt
  obtain ⟨A, HA⟩ : ∃ A, Hid (A = kgetR l kx) := ⟨_, rfl⟩
  have heq := eq_rows A A
  rw [decide_eq_true rfl] at heq
  obtain ⟨hc0, hc1, hc2, hc3, hc4, hc5⟩ := HO.out
  dsimp only at hc0 hc1 hc2 hc3 hc4 hc5
  clear hba h
  unfold opV
  go_enter Try.func12, Try.ntmps12
  obtain ⟨E, HE⟩ : ∃ E, Hid (E = kgetE l kx) := ⟨_, rfl⟩
  go_wp2_with fail
  refine (tdel HST.out.t kx hkb).mono ?_
  rw [← HA.out, ← HE.out]
  rintro e w1 ⟨rfl, ht1, cg1⟩
  have HT1 := hid ht1
  have HC1 := hid cg1
  have HR1 := hid (HST.out.r.chg cg1 HST.out.fiveG)
  have HO1 := hid ((HO.out.chg cg1 HBF.out))
  clear hc0 hc1 hc2 hc3 hc4 hc5 ht1 cg1
  have HBB : Hid (Below w1.heap.size w1 (w1.alloc (.cells (rowc A) 33))) := (Below.refl _ _).alloc (Nat.le_refl _) _
  have HL1 := hid (Lies.new w1 A)
  dsimp only [rowv, rowc] at HBB HL1 ⊢
  obtain ⟨hc0, hc1, hc2, hc3, hc4, hc5⟩ := HO1.out.below HBB.out
  dsimp only at hc0 hc1 hc2 hc3 hc4 hc5
  go_wp2_with fail
  refine (rdel (HR1.out.below HBB.out) HKB.out kx hkb HLE.out).mono ?_
  rw [← HA.out, ← HE.out]
  intro e w2 hr2
  have HR2 := hid hr2
  obtain ⟨rfl, -, -, cg2, -⟩ := hr2
  have HST1 := hid (HST.out.both HT1.out HC1.out (rend_from HBB.out HR2.out))
  have HL2 : Hid (Lies w2 w1.heap.size A) := HL1.out.keep (cg2.block _ HL1.out.lt (by have := HR1.out.plt; simp; omega))
  clear hc0 hc1 hc2 hc3 hc4 hc5 cg2
  dsimp only [rowv, rowc]
  obtain ⟨y0, y1, y2, y3⟩ := (HL2.out.below ((Below.refl _ _).alloc (Nat.le_refl _) (.cells (rowc A) 33))).four
  obtain ⟨z0, z1, z2, z3⟩ := (Lies.new w2 A).four
  dsimp only [rowc] at y0 y1 y2 y3 z0 z1 z2 z3
  go_wp2
  go_ret
  obtain ⟨Q', G', h, hq⟩ := HST1.out
  exact ⟨rfl, Q', G', h.below_ ((Below.refl _ _).alloc (Nat.le_refl _) _), fun b hb => (hq b hb).imp id fun h => by simp at h; omega⟩
theorem does_get (h : St W w T p Q most o G rp l) (kk : Int) (h0 : ¬ kk = 0) (h1 : ¬ kk = 1) (kx : List Nat) (r : Ro) (hkb : Byt kx) (_hr : r.ok) :
    Calls Try.prog 12 #[.pointer (some ⟨T, 0, none⟩), .pointer (some ⟨rp, 0, none⟩), opV ⟨kk, kx, r⟩] w (BothQ W w Q T p most o rp l) := by
  have hba : Below w.heap.size w (w.alloc (.cells #[.int .i64 kk, .string (str kx), .int .i64 r.a, .int .i64 r.b, .int .i64 r.c, .int .i64 r.d] 35)) := (Below.refl _ w).alloc (Nat.le_refl _) _
  have HBA := hid hba
  have HST := hid (h.below_ hba)
  have HO := hid (opAt_new w ⟨kk, kx, r⟩)
  have HWF : Hid (∀ i, i < 5 → p i < w.heap.size) := fun i hi => h.t.plt hi
  have HBF : Hid (w.heap.size ∉ five p) := fun hm => by have := h.t.flt _ hm; omega
  have HLE : Hid (l.length ≤ 1024) := h.t.le
  have HKB := hid h.t.rows.kbyt
  obtain ⟨A, HA⟩ : ∃ A, Hid (A = kgetR l kx) := ⟨_, rfl⟩
  have heq := eq_rows A A
  rw [decide_eq_true rfl] at heq
  obtain ⟨hc0, hc1, hc2, hc3, hc4, hc5⟩ := HO.out
  dsimp only at hc0 hc1 hc2 hc3 hc4 hc5
  clear hba h
  unfold opV
  go_enter Try.func12, Try.ntmps12
  obtain ⟨E, HE⟩ : ∃ E, Hid (E = kgetE l kx) := ⟨_, rfl⟩
  go_wp2_with fail
  refine (tget HST.out.t kx hkb).mono ?_
  rw [← HA.out, ← HE.out]
  rintro e w1 ⟨rfl, hb1⟩
  have HB1 := hid hb1
  have HO1 := hid (HO.out.below hb1)
  clear hc0 hc1 hc2 hc3 hc4 hc5 hb1
  have HBB : Hid (Below w1.heap.size w1 (w1.alloc (.cells (rowc A) 33))) := (Below.refl _ _).alloc (Nat.le_refl _) _
  have HL1 := hid (Lies.new w1 A)
  dsimp only [rowv, rowc] at HBB HL1 ⊢
  obtain ⟨hc0, hc1, hc2, hc3, hc4, hc5⟩ := HO1.out.below HBB.out
  dsimp only at hc0 hc1 hc2 hc3 hc4 hc5
  go_wp2_with fail
  refine (rget ((HST.out.r.below HB1.out).below HBB.out) HKB.out kx hkb).mono ?_
  rw [← HA.out, ← HE.out]
  rintro e w2 ⟨rfl, hb2⟩
  have HB2 := hid hb2
  have HL2 := hid (HL1.out.below hb2)
  clear hc0 hc1 hc2 hc3 hc4 hc5 hb2
  dsimp only [rowv, rowc]
  obtain ⟨y0, y1, y2, y3⟩ := (HL2.out.below ((Below.refl _ _).alloc (Nat.le_refl _) (.cells (rowc A) 33))).four
  obtain ⟨z0, z1, z2, z3⟩ := (Lies.new w2 A).four
  dsimp only [rowc] at y0 y1 y2 y3 z0 z1 z2 z3
  go_wp2
  go_ret
  exact ⟨rfl, Q, G, (((HST.out.below_ HB1.out).below_ HBB.out).below_ HB2.out).below_ ((Below.refl _ _).alloc (Nat.le_refl _) _), fun b hb => .inl hb⟩
theorem doesQ_any (h : St W w T p Q most o G rp l) (op : Op7) (ho : op.Ok) :
    Calls Try.prog 12 #[.pointer (some ⟨T, 0, none⟩), .pointer (some ⟨rp, 0, none⟩), opV op] w (BothQ W w Q T p most o rp (stepK most l op)) := by
  obtain ⟨kk, kx, r⟩ := op
  unfold stepK
  by_cases h0 : kk = 0
  · rw [if_pos h0]; subst h0; exact does_put h kx r ho.key ho.row
  · rw [if_neg h0]
    by_cases h1 : kk = 1
    · rw [if_pos h1]; subst h1; exact does_del h kx r ho.key ho.row
    · rw [if_neg h1]; exact does_get h kk h0 h1 kx r ho.key ho.row
theorem does_any (h : St W w T p Q most o G rp l) (op : Op7) (ho : op.Ok) :
    Calls Try.prog 12 #[.pointer (some ⟨T, 0, none⟩), .pointer (some ⟨rp, 0, none⟩), opV op] w (Both W T p most o rp (stepK most l op)) :=
  (doesQ_any h op ho).mono fun _ _ h => ⟨h.1, let ⟨Q', G', h', _⟩ := h.2; ⟨Q', G', h'⟩⟩
end
end Go.Proofs.Ytlnagdodnkhbmaa
