/- law07's does: what a call answered, as one value. -/
import Derived.Test.YtlnagdodnkhbmaaT34
namespace Go.Proofs.Ytlnagdodnkhbmaa
open Go.RowKit
set_option maxRecDepth 100000
def storeA (a : World) (g : Nat) (r : Ro) (b : Bool) (e : Int) : World := (((((a.setCell ⟨g, 0, none⟩ (.int .i64 r.a)).setCell ⟨g, 1, none⟩ (.int .i64 r.b)).setCell ⟨g, 2, none⟩ (.int .i64 r.c)).setCell ⟨g, 3, none⟩ (.int .i64 r.d)).setCell ⟨g, 4, none⟩ (.bool b)).setCell ⟨g, 5, none⟩ (.int .i64 e)
def cellsA (r : Ro) (b : Bool) (e : Int) : Array Value := #[.int .i64 r.a, .int .i64 r.b, .int .i64 r.c, .int .i64 r.d, .bool b, .int .i64 e]
def ansV (r : Ro) (b : Bool) (e : Int) : Value := .agg #[.int .i64 r.a, .int .i64 r.b, .int .i64 r.c, .int .i64 r.d, .bool b, .int .i64 e]
def AnsAt (w : World) (g : Nat) (r : Ro) (b : Bool) (e : Int) : Prop := w.heap[g]? = some (.cells (cellsA r b e) 61 (0, 0))
section
variable {w w' a : World} {g : Nat} {r r0 : Ro} {b b0 : Bool} {e e0 : Int}
theorem AnsAt.put (h : AnsAt a g r0 b0 e0) (r : Ro) (b : Bool) (e : Int) : AnsAt (storeA a g r b e) g r b e := by
  unfold AnsAt at h
  have h0 := setCell_row h (i := 0) (.int .i64 r.a)
  have h1 := setCell_row h0 (i := 1) (.int .i64 r.b)
  have h2 := setCell_row h1 (i := 2) (.int .i64 r.c)
  have h3 := setCell_row h2 (i := 3) (.int .i64 r.d)
  have h4 := setCell_row h3 (i := 4) (.bool b)
  exact setCell_row h4 (i := 5) (.int .i64 e)
theorem AnsAt.lt (h : AnsAt w g r b e) : g < w.heap.size := by
  unfold AnsAt at h
  exact (Array.getElem?_eq_some_iff.1 h).1
theorem AnsAt.below (h : AnsAt w g r b e) (hb : Below w.heap.size w w') : AnsAt w' g r b e := by
  have h1 := h.lt
  unfold AnsAt at h ⊢
  exact (hb.block g h1).trans h
theorem AnsAt.new (w : World) (r : Ro) (b : Bool) (e : Int) : AnsAt (w.alloc (.cells #[.int .i64 r.a, .int .i64 r.b, .int .i64 r.c, .int .i64 r.d, .bool b, .int .i64 e] 61)) w.heap.size r b e := by
  unfold AnsAt cellsA
  exact heap_alloc_new w _
theorem AnsAt.six (h : AnsAt w g r b e) : (w.cell? ⟨g, 0, none⟩ = some (.int .i64 r.a) ∧ w.cell? ⟨g, 1, none⟩ = some (.int .i64 r.b) ∧ w.cell? ⟨g, 2, none⟩ = some (.int .i64 r.c) ∧ w.cell? ⟨g, 3, none⟩ = some (.int .i64 r.d) ∧ w.cell? ⟨g, 4, none⟩ = some (.bool b) ∧ w.cell? ⟨g, 5, none⟩ = some (.int .i64 e)) ∧
    w.frozen? ⟨g, 0, none⟩ = false ∧ w.frozen? ⟨g, 1, none⟩ = false ∧ w.frozen? ⟨g, 2, none⟩ = false ∧ w.frozen? ⟨g, 3, none⟩ = false ∧ w.frozen? ⟨g, 4, none⟩ = false ∧ w.frozen? ⟨g, 5, none⟩ = false := by
  unfold AnsAt cellsA at h
  refine ⟨⟨cell_of_row _ _ 0 _ _ _ h, cell_of_row _ _ 1 _ _ _ h, cell_of_row _ _ 2 _ _ _ h, cell_of_row _ _ 3 _ _ _ h, cell_of_row _ _ 4 _ _ _ h, cell_of_row _ _ 5 _ _ _ h⟩, ?_⟩
  simp [World.frozen?, h]
theorem below_store6 {B : Nat} (h : Below B w a) (hg : B ≤ g) (r : Ro) (b : Bool) (e : Int) : Below B w (storeA a g r b e) :=
  (((((h.setCell (p := ⟨g, 0, none⟩) hg _).setCell (p := ⟨g, 1, none⟩) hg _).setCell (p := ⟨g, 2, none⟩) hg _).setCell (p := ⟨g, 3, none⟩) hg _).setCell (p := ⟨g, 4, none⟩) hg _).setCell (p := ⟨g, 5, none⟩) hg _
end
/-- The table's part of a call. -/
def TStep (w : World) (Q : Bl) (T : Nat) (p : Nat → Nat) (most o : Nat) (m : List KR) (e : Ending) (r : Ro) (b : Bool) (c : Int) (w' : World) : Prop :=
  e = .returned (ansV r b c) ∧ ∃ Q', Tab w' T p Q' most o m ∧ Chg (five p) w w' (five p) ∧ ∀ b, Q' b → Q b ∨ w.heap.size ≤ b
theorem tstep_end {w wb w1 : World} {T g : Nat} {p : Nat → Nat} {Q Q1 : Bl} {most o : Nat} {m : List KR} (h0 : Below w.heap.size w wb) (hg : w.heap.size ≤ g) (hT : T < w.heap.size) (hp : ∀ i, i < 5 → p i < w.heap.size) (ht : Tab w1 T p Q1 most o m) (hQ : ¬ Q1 g) (hq : ∀ b, Q1 b → Q b ∨ w.heap.size ≤ b) (hc : Chg (five p) wb w1 (five p)) (obj : Obj) (r : Ro) (b : Bool) (e : Int) :
    ∃ Q', Tab (storeA (w1.alloc obj) g r b e) T p Q' most o m ∧ Chg (five p) w (storeA (w1.alloc obj) g r b e) (five p) ∧ ∀ b, Q' b → Q b ∨ w.heap.size ≤ b := by
  have h1 : Chg [g] w1 (storeA (w1.alloc obj) g r b e) [g] :=
    ((((((((Chg.refl [g] w1).alloc obj).setCell (p := ⟨g, 0, none⟩) (by simp) _).setCell (p := ⟨g, 1, none⟩) (by simp) _).setCell (p := ⟨g, 2, none⟩) (by simp) _).setCell (p := ⟨g, 3, none⟩) (by simp) _).setCell (p := ⟨g, 4, none⟩) (by simp) _).setCell (p := ⟨g, 5, none⟩) (by simp) _)
  refine ⟨Q1, ht.chg h1 (by simp; omega) (fun i hi => by have := hp i hi; simp; omega) (fun b hb => by simp at hb; rw [hb]; exact hQ), ?_, hq⟩
  have h2 : Chg (five p) w w1 (g :: five p) := ((Chg.of_below h0).trans hc).less fun k hk => by
    rcases List.mem_cons.1 hk with rfl | hk
    · exact .inr hg
    · exact .inl hk
  have h3 : Chg (g :: five p) w1 (storeA (w1.alloc obj) g r b e) (g :: five p) := h1.wide2 fun k hk => by simp at hk; rw [hk]; exact List.mem_cons_self
  exact (h2.trans h3).less fun k hk => .inl (List.mem_cons_of_mem _ hk)
section
variable {w : World} {T : Nat} {p : Nat → Nat} {Q : Bl} {most o : Nat} {l : List KR}
set_option maxHeartbeats 1000000 in
theorem ans_put (h : Tab w T p Q most o l) (kx : List Nat) (r : Ro) (hkb : Byt kx) (hr : r.ok) :
    Calls Try.prog 27 #[.pointer (some ⟨T, 0, none⟩), .agg #[.int .i64 0, .string (str kx), .int .i64 r.a, .int .i64 r.b, .int .i64 r.c, .int .i64 r.d]] w fun e w' => TStep w Q T p most o (kputN most l kx r) e (kgetR l kx) (kputW l kx) (kputE most l kx) w' := by
  have HB0 : Hid (Below w.heap.size w ((w.alloc (.cells #[.int .i64 0, .string (str kx), .int .i64 r.a, .int .i64 r.b, .int .i64 r.c, .int .i64 r.d] 35)).alloc (.cells #[.int .i64 0, .int .i64 0, .int .i64 0, .int .i64 0, .bool false, .int .i64 0] 61))) := ((Below.refl _ w).alloc (Nat.le_refl _) _).alloc (by simp) _
  have HO := hid ((opAt_new w ⟨0, kx, r⟩).below ((Below.refl _ _).alloc (Nat.le_refl _) (.cells #[.int .i64 0, .int .i64 0, .int .i64 0, .int .i64 0, .bool false, .int .i64 0] 61)))
  have HAN := hid (AnsAt.new (w.alloc (.cells #[.int .i64 0, .string (str kx), .int .i64 r.a, .int .i64 r.b, .int .i64 r.c, .int .i64 r.d] 35)) ⟨0, 0, 0, 0⟩ false 0)
  rw [World.size_alloc] at HAN
  have HT := hid (h.below HB0.out)
  have HAF : Hid (w.heap.size + 1 ∉ five p) := fun hm => by have := h.flt _ hm; omega
  have HLT : Hid (T < w.heap.size) := h.lt
  have HPF : Hid (∀ i, i < 5 → p i < w.heap.size) := fun i hi => h.plt hi
  have HQF : Hid (∀ w1, Chg (five p) ((w.alloc (.cells #[.int .i64 0, .string (str kx), .int .i64 r.a, .int .i64 r.b, .int .i64 r.c, .int .i64 r.d] 35)).alloc (.cells #[.int .i64 0, .int .i64 0, .int .i64 0, .int .i64 0, .bool false, .int .i64 0] 61)) w1 (five p) → ¬ New Q ((w.alloc (.cells #[.int .i64 0, .string (str kx), .int .i64 r.a, .int .i64 r.b, .int .i64 r.c, .int .i64 r.d] 35)).alloc (.cells #[.int .i64 0, .int .i64 0, .int .i64 0, .int .i64 0, .bool false, .int .i64 0] 61)) w1 (w.heap.size + 1)) := fun w1 _ hq => by
    rcases hq with hq | hq
    · have := h.under _ hq; omega
    · have := hq.1; simp at this; omega
  obtain ⟨hc0, hc1, hc2, hc3, hc4, hc5⟩ := HO.out
  dsimp only at hc0 hc1 hc2 hc3 hc4 hc5 HAN
  obtain ⟨A, HA⟩ : ∃ A, Hid (A = kgetR l kx) := ⟨_, rfl⟩
  obtain ⟨ws, HWS⟩ : ∃ b : Bool, Hid (b = kputW l kx) := ⟨_, rfl⟩
  obtain ⟨E, HE⟩ : ∃ E : Int, Hid (E = kputE most l kx) := ⟨_, rfl⟩
  rw [← HA.out, ← HWS.out, ← HE.out]
  obtain ⟨wb, HWB⟩ : ∃ W, Hid (W = (w.alloc (.cells #[.int .i64 0, .string (str kx), .int .i64 r.a, .int .i64 r.b, .int .i64 r.c, .int .i64 r.d] 35)).alloc (.cells #[.int .i64 0, .int .i64 0, .int .i64 0, .int .i64 0, .bool false, .int .i64 0] 61)) := ⟨_, rfl⟩
  rw [← HWB.out] at HT HAN HB0 HQF
  clear h
  go_enter Try.func27, Try.ntmps27
  go_wp2_with fail
  rw [← HWB.out]
  refine (tput_raw HT.out kx hkb r hr).mono ?_
  rw [← HA.out, ← HWS.out, ← HE.out]
  rintro e w1 ⟨rfl, ht1, cg1⟩
  dsimp only [rowv, rowc]
  have HT1 := hid (ht1)
  have HC1 : Hid (Chg (five p) wb w1 (five p)) := cg1
  have HAN1 : Hid (AnsAt w1 (w.heap.size + 1) ⟨0, 0, 0, 0⟩ false 0) := (HC1.out.block _ HAN.out.lt HAF.out).trans HAN.out
  have hba : Below w1.heap.size w1 (w1.alloc (.cells #[.int .i64 A.a, .int .i64 A.b, .int .i64 A.c, .int .i64 A.d] 33)) := (Below.refl _ _).alloc (Nat.le_refl _) _
  obtain ⟨y0, y1, y2, y3⟩ := (Lies.new w1 A).four
  dsimp only [rowc] at y0 y1 y2 y3
  have HAN2 := hid (HAN1.out.below hba)
  have HSA := hid (HAN2.out.put A ws E)
  obtain ⟨⟨u0, u1, u2, u3, u4, u5⟩, f0, f1, f2, f3, f4, f5⟩ := HAN2.out.six
  obtain ⟨⟨p0, p1, p2, p3, p4, p5⟩, -⟩ := HSA.out.six
  unfold storeA at p0 p1 p2 p3 p4 p5
  dsimp only at u0 u1 u2 u3 u4 u5
  have HEND := hid (tstep_end HB0.out (Nat.le_succ _) HLT.out HPF.out HT1.out (HQF.out _ HC1.out) (fun b hb => hb.imp id fun h => Nat.le_trans HB0.out.size h.1) HC1.out (.cells #[.int .i64 A.a, .int .i64 A.b, .int .i64 A.c, .int .i64 A.d] 33) A ws E)
  clear ht1 cg1 hc0 hc1 hc2 hc3 hc4 hc5 hba
  go_wp2
  refine bodyPost_ret (v := ansV A ws E) (by unfold ansV; simp [results, Try.results27, go_sem, p0, p1, p2, p3, p4, p5]) rfl ⟨rfl, HEND.out⟩
set_option maxHeartbeats 1000000 in
theorem ans_del (h : Tab w T p Q most o l) (kx : List Nat) (r : Ro) (hkb : Byt kx) (_hr : r.ok) :
    Calls Try.prog 27 #[.pointer (some ⟨T, 0, none⟩), .agg #[.int .i64 1, .string (str kx), .int .i64 r.a, .int .i64 r.b, .int .i64 r.c, .int .i64 r.d]] w fun e w' => TStep w Q T p most o (kdelN l kx) e (kgetR l kx) (false) (kgetE l kx) w' := by
  have HB0 : Hid (Below w.heap.size w ((w.alloc (.cells #[.int .i64 1, .string (str kx), .int .i64 r.a, .int .i64 r.b, .int .i64 r.c, .int .i64 r.d] 35)).alloc (.cells #[.int .i64 0, .int .i64 0, .int .i64 0, .int .i64 0, .bool false, .int .i64 0] 61))) := ((Below.refl _ w).alloc (Nat.le_refl _) _).alloc (by simp) _
  have HO := hid ((opAt_new w ⟨1, kx, r⟩).below ((Below.refl _ _).alloc (Nat.le_refl _) (.cells #[.int .i64 0, .int .i64 0, .int .i64 0, .int .i64 0, .bool false, .int .i64 0] 61)))
  have HAN := hid (AnsAt.new (w.alloc (.cells #[.int .i64 1, .string (str kx), .int .i64 r.a, .int .i64 r.b, .int .i64 r.c, .int .i64 r.d] 35)) ⟨0, 0, 0, 0⟩ false 0)
  rw [World.size_alloc] at HAN
  have HT := hid (h.below HB0.out)
  have HAF : Hid (w.heap.size + 1 ∉ five p) := fun hm => by have := h.flt _ hm; omega
  have HLT : Hid (T < w.heap.size) := h.lt
  have HPF : Hid (∀ i, i < 5 → p i < w.heap.size) := fun i hi => h.plt hi
  have HQF : Hid (∀ w1, Chg (five p) ((w.alloc (.cells #[.int .i64 1, .string (str kx), .int .i64 r.a, .int .i64 r.b, .int .i64 r.c, .int .i64 r.d] 35)).alloc (.cells #[.int .i64 0, .int .i64 0, .int .i64 0, .int .i64 0, .bool false, .int .i64 0] 61)) w1 (five p) → ¬ New Q ((w.alloc (.cells #[.int .i64 1, .string (str kx), .int .i64 r.a, .int .i64 r.b, .int .i64 r.c, .int .i64 r.d] 35)).alloc (.cells #[.int .i64 0, .int .i64 0, .int .i64 0, .int .i64 0, .bool false, .int .i64 0] 61)) w1 (w.heap.size + 1)) := fun w1 _ hq => by
    rcases hq with hq | hq
    · have := h.under _ hq; omega
    · have := hq.1; simp at this; omega
  obtain ⟨hc0, hc1, hc2, hc3, hc4, hc5⟩ := HO.out
  dsimp only at hc0 hc1 hc2 hc3 hc4 hc5 HAN
  obtain ⟨A, HA⟩ : ∃ A, Hid (A = kgetR l kx) := ⟨_, rfl⟩
  obtain ⟨E, HE⟩ : ∃ E : Int, Hid (E = kgetE l kx) := ⟨_, rfl⟩
  rw [← HA.out, ← HE.out]
  obtain ⟨wb, HWB⟩ : ∃ W, Hid (W = (w.alloc (.cells #[.int .i64 1, .string (str kx), .int .i64 r.a, .int .i64 r.b, .int .i64 r.c, .int .i64 r.d] 35)).alloc (.cells #[.int .i64 0, .int .i64 0, .int .i64 0, .int .i64 0, .bool false, .int .i64 0] 61)) := ⟨_, rfl⟩
  rw [← HWB.out] at HT HAN HB0 HQF
  clear h
  go_enter Try.func27, Try.ntmps27
  go_wp2_with fail
  rw [← HWB.out]
  refine (tdel HT.out kx hkb).mono ?_
  rw [← HA.out, ← HE.out]
  rintro e w1 ⟨rfl, ht1, cg1⟩
  dsimp only [rowv, rowc]
  have HT1 := hid (ht1)
  have HC1 : Hid (Chg (five p) wb w1 (five p)) := cg1
  have HAN1 : Hid (AnsAt w1 (w.heap.size + 1) ⟨0, 0, 0, 0⟩ false 0) := (HC1.out.block _ HAN.out.lt HAF.out).trans HAN.out
  have hba : Below w1.heap.size w1 (w1.alloc (.cells #[.int .i64 A.a, .int .i64 A.b, .int .i64 A.c, .int .i64 A.d] 33)) := (Below.refl _ _).alloc (Nat.le_refl _) _
  obtain ⟨y0, y1, y2, y3⟩ := (Lies.new w1 A).four
  dsimp only [rowc] at y0 y1 y2 y3
  have HAN2 := hid (HAN1.out.below hba)
  have HSA := hid (HAN2.out.put A false E)
  obtain ⟨⟨u0, u1, u2, u3, u4, u5⟩, f0, f1, f2, f3, f4, f5⟩ := HAN2.out.six
  obtain ⟨⟨p0, p1, p2, p3, p4, p5⟩, -⟩ := HSA.out.six
  unfold storeA at p0 p1 p2 p3 p4 p5
  dsimp only at u0 u1 u2 u3 u4 u5
  have HEND := hid (tstep_end HB0.out (Nat.le_succ _) HLT.out HPF.out HT1.out (HQF.out _ HC1.out) (fun b hb => hb.imp id fun h => Nat.le_trans HB0.out.size h.1) HC1.out (.cells #[.int .i64 A.a, .int .i64 A.b, .int .i64 A.c, .int .i64 A.d] 33) A false E)
  clear ht1 cg1 hc0 hc1 hc2 hc3 hc4 hc5 hba
  go_wp2
  refine bodyPost_ret (v := ansV A false E) (by unfold ansV; simp [results, Try.results27, go_sem, p0, p1, p2, p3, p4, p5]) rfl ⟨rfl, HEND.out⟩
set_option maxHeartbeats 1000000 in
theorem ans_get (h : Tab w T p Q most o l) (kx : List Nat) (r : Ro) (hkb : Byt kx) (_hr : r.ok) (kk : Int) (h0 : ¬ kk = 0) (h1 : ¬ kk = 1) :
    Calls Try.prog 27 #[.pointer (some ⟨T, 0, none⟩), .agg #[.int .i64 kk, .string (str kx), .int .i64 r.a, .int .i64 r.b, .int .i64 r.c, .int .i64 r.d]] w fun e w' => TStep w Q T p most o (l) e (kgetR l kx) (false) (kgetE l kx) w' := by
  have HB0 : Hid (Below w.heap.size w ((w.alloc (.cells #[.int .i64 kk, .string (str kx), .int .i64 r.a, .int .i64 r.b, .int .i64 r.c, .int .i64 r.d] 35)).alloc (.cells #[.int .i64 0, .int .i64 0, .int .i64 0, .int .i64 0, .bool false, .int .i64 0] 61))) := ((Below.refl _ w).alloc (Nat.le_refl _) _).alloc (by simp) _
  have HO := hid ((opAt_new w ⟨kk, kx, r⟩).below ((Below.refl _ _).alloc (Nat.le_refl _) (.cells #[.int .i64 0, .int .i64 0, .int .i64 0, .int .i64 0, .bool false, .int .i64 0] 61)))
  have HAN := hid (AnsAt.new (w.alloc (.cells #[.int .i64 kk, .string (str kx), .int .i64 r.a, .int .i64 r.b, .int .i64 r.c, .int .i64 r.d] 35)) ⟨0, 0, 0, 0⟩ false 0)
  rw [World.size_alloc] at HAN
  have HT := hid (h.below HB0.out)
  have HAF : Hid (w.heap.size + 1 ∉ five p) := fun hm => by have := h.flt _ hm; omega
  have HLT : Hid (T < w.heap.size) := h.lt
  have HPF : Hid (∀ i, i < 5 → p i < w.heap.size) := fun i hi => h.plt hi
  have HQF : Hid (∀ w1, Chg (five p) ((w.alloc (.cells #[.int .i64 kk, .string (str kx), .int .i64 r.a, .int .i64 r.b, .int .i64 r.c, .int .i64 r.d] 35)).alloc (.cells #[.int .i64 0, .int .i64 0, .int .i64 0, .int .i64 0, .bool false, .int .i64 0] 61)) w1 (five p) → ¬ Q (w.heap.size + 1)) := fun w1 _ hq => by
    have := h.under _ hq; omega
  obtain ⟨hc0, hc1, hc2, hc3, hc4, hc5⟩ := HO.out
  dsimp only at hc0 hc1 hc2 hc3 hc4 hc5 HAN
  obtain ⟨A, HA⟩ : ∃ A, Hid (A = kgetR l kx) := ⟨_, rfl⟩
  obtain ⟨E, HE⟩ : ∃ E : Int, Hid (E = kgetE l kx) := ⟨_, rfl⟩
  rw [← HA.out, ← HE.out]
  obtain ⟨wb, HWB⟩ : ∃ W, Hid (W = (w.alloc (.cells #[.int .i64 kk, .string (str kx), .int .i64 r.a, .int .i64 r.b, .int .i64 r.c, .int .i64 r.d] 35)).alloc (.cells #[.int .i64 0, .int .i64 0, .int .i64 0, .int .i64 0, .bool false, .int .i64 0] 61)) := ⟨_, rfl⟩
  rw [← HWB.out] at HT HAN HB0 HQF
  clear h
  go_enter Try.func27, Try.ntmps27
  go_wp2_with fail
  rw [← HWB.out]
  refine (tget HT.out kx hkb).mono ?_
  rw [← HA.out, ← HE.out]
  rintro e w1 ⟨rfl, hb1⟩
  dsimp only [rowv, rowc]
  have HT1 := hid (HT.out.below hb1)
  have HC1 : Hid (Chg (five p) wb w1 (five p)) := Chg.of_below hb1
  have HAN1 : Hid (AnsAt w1 (w.heap.size + 1) ⟨0, 0, 0, 0⟩ false 0) := (HC1.out.block _ HAN.out.lt HAF.out).trans HAN.out
  have hba : Below w1.heap.size w1 (w1.alloc (.cells #[.int .i64 A.a, .int .i64 A.b, .int .i64 A.c, .int .i64 A.d] 33)) := (Below.refl _ _).alloc (Nat.le_refl _) _
  obtain ⟨y0, y1, y2, y3⟩ := (Lies.new w1 A).four
  dsimp only [rowc] at y0 y1 y2 y3
  have HAN2 := hid (HAN1.out.below hba)
  have HSA := hid (HAN2.out.put A false E)
  obtain ⟨⟨u0, u1, u2, u3, u4, u5⟩, f0, f1, f2, f3, f4, f5⟩ := HAN2.out.six
  obtain ⟨⟨p0, p1, p2, p3, p4, p5⟩, -⟩ := HSA.out.six
  unfold storeA at p0 p1 p2 p3 p4 p5
  dsimp only at u0 u1 u2 u3 u4 u5
  have HEND := hid (tstep_end HB0.out (Nat.le_succ _) HLT.out HPF.out HT1.out (HQF.out _ HC1.out) (fun b hb => .inl hb) HC1.out (.cells #[.int .i64 A.a, .int .i64 A.b, .int .i64 A.c, .int .i64 A.d] 33) A false E)
  clear hb1 hc0 hc1 hc2 hc3 hc4 hc5 hba
  go_wp2
  refine bodyPost_ret (v := ansV A false E) (by unfold ansV; simp [results, Try.results27, go_sem, p0, p1, p2, p3, p4, p5]) rfl ⟨rfl, HEND.out⟩
def ansW (l : List KR) (o : Op7) : Bool := if o.k = 0 then kputW l o.key else false
def ansE (most : Nat) (l : List KR) (o : Op7) : Int := if o.k = 0 then kputE most l o.key else kgetE l o.key
theorem ans_any (h : Tab w T p Q most o l) (op : Op7) (ho : op.Ok) :
    Calls Try.prog 27 #[.pointer (some ⟨T, 0, none⟩), opV op] w fun e w' => TStep w Q T p most o (stepK most l op) e (kgetR l op.key) (ansW l op) (ansE most l op) w' := by
  obtain ⟨kk, kx, r⟩ := op
  unfold stepK ansW ansE
  by_cases h0 : kk = 0
  · subst h0; exact ans_put h kx r ho.key ho.row
  · simp only [if_neg h0]
    by_cases h1 : kk = 1
    · subst h1; exact ans_del h kx r ho.key ho.row
    · simp only [if_neg h1]; exact ans_get h kx r ho.key ho.row kk h0 h1
end
end Go.Proofs.Ytlnagdodnkhbmaa

