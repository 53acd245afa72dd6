import Derived.Test.YtlnagdodnkhbmaaGreatTC
import Derived.Test.YtlnagdodnkhbmaaGreatTF
import Derived.Test.YtlnagdodnkhbmaaGreatTD
import Derived.StillTailTactics
import Derived.Deep.RegionLaw

/- law07's Finds. -/
namespace Go.Proofs.YtlnagdodnkhbmaaGreat
open Go.RowKit
set_option maxRecDepth 100000
def AskAt (w : World) (b : Nat) (a : Ask7) : Prop :=
  w.cell? ⟨b, 0, none⟩ = some (.int .i64 a.c) ∧ w.cell? ⟨b, 1, none⟩ = some (.int .i64 a.lo) ∧ w.cell? ⟨b, 2, none⟩ = some (.int .i64 a.hi) ∧ w.cell? ⟨b, 3, none⟩ = some (.int .i64 a.m)
theorem AskAt.new (w : World) (a : Ask7) (e : TypeId) : AskAt (w.alloc (.cells #[.int .i64 a.c, .int .i64 a.lo, .int .i64 a.hi, .int .i64 a.m] e)) w.heap.size a :=
  ⟨cell_of_row _ _ 0 _ _ _ (heap_alloc_new w _), cell_of_row _ _ 1 _ _ _ (heap_alloc_new w _), cell_of_row _ _ 2 _ _ _ (heap_alloc_new w _), cell_of_row _ _ 3 _ _ _ (heap_alloc_new w _)⟩
theorem AskAt.below {w w' : World} {b : Nat} {a : Ask7} (h : AskAt w b a) (hb : Below w.heap.size w w') : AskAt w' b a := ⟨below_keep hb _ _ h.1, below_keep hb _ _ h.2.1, below_keep hb _ _ h.2.2.1, below_keep hb _ _ h.2.2.2⟩
theorem findL_byt {l : List KR} (h : RowsOk l) (c : Nat) (lo hi : Int) (m : Nat) : ∀ x ∈ findL c lo hi m l, Byt x := fun x hx => by
  obtain ⟨q, hq, rfl⟩ := List.mem_map.1 (List.mem_of_mem_take hx)
  exact h.byt q ((tellK_mem h).1 hq).1
section
variable {w : World} {T : Nat} {p : Nat → Nat} {Q : Bl} {most o : Nat} {G : List Nat} {rp : Nat} {l : List KR}
end
end Go.Proofs.YtlnagdodnkhbmaaGreat

/- TableWhole. -/
namespace Go.Proofs.YtlnagdodnkhbmaaGreat
open Go.RowKit
set_option maxRecDepth 100000
/-- A box of two numbers. -/
def Box2 (w : World) (b : Nat) (x y : Int) : Prop := w.cell? ⟨b, 0, none⟩ = some (.int .i64 x) ∧ w.cell? ⟨b, 1, none⟩ = some (.int .i64 y)
theorem Box2.new (w : World) (x y : Int) (e : TypeId) : Box2 (w.alloc (.cells #[.int .i64 x, .int .i64 y] e)) w.heap.size x y := ⟨cell_of_row _ _ 0 _ _ _ (heap_alloc_new w _), cell_of_row _ _ 1 _ _ _ (heap_alloc_new w _)⟩
theorem Box2.below {w w' : World} {b : Nat} {x y : Int} (h : Box2 w b x y) (hb : Below w.heap.size w w') : Box2 w' b x y := ⟨below_keep hb _ _ h.1, below_keep hb _ _ h.2⟩
theorem telem : Tryz.prog.elem 53 = 9 := by kernel_rfl
theorem tsize (W : World) : (sizeOf 9).run Tryz.prog W = .ok 1 W := by kernel_rfl
theorem tcut_to (W : World) (A : Option Addr) (len cap h : Nat) (hh : h ≤ cap) : (Instr.slice 53 (.slice A len cap) none (some (.int .i64 (h : Int))) none).run Tryz.prog W = .ok (sliced A 0 h cap 1) W := by
  have e := run_slice_h (P := Tryz.prog) (w := W) 53 A len cap (by rw [telem]; exact Tryz.underlying53) .i64 (h : Int) (by omega) (by omega)
  rw [telem, tsize] at e
  simpa [Result.andThen] using e
theorem tcut_from (W : World) (A : Option Addr) (len cap a : Nat) (ha : a ≤ len) : (Instr.slice 53 (.slice A len cap) (some (.int .i64 (a : Int))) none none).run Tryz.prog W = .ok (sliced A a len cap 1) W := by
  have e := run_slice_l (P := Tryz.prog) (w := W) 53 A len cap (by rw [telem]; exact Tryz.underlying53) .i64 (a : Int) (by omega) (by omega)
  rw [telem, tsize] at e
  simpa [Result.andThen] using e
theorem findL_all {l : List KR} (h : RowsOk l) (hl : l.length ≤ 1024) (c : Nat) (lo hi : Int) : findL c lo hi 2000 l = (tellK c lo hi l).map Prod.fst := by
  have := tellK_len h c lo hi
  unfold findL
  rw [List.take_of_length_le (by rw [List.length_map]; omega)]
theorem keys_byt {l : List KR} (h : RowsOk l) (c : Nat) (lo hi : Int) : ∀ x ∈ (tellK c lo hi l).map Prod.fst, Byt x := fun x hx => by
  obtain ⟨q, hq, rfl⟩ := List.mem_map.1 hx
  exact h.byt q ((tellK_mem h).1 hq).1
theorem tfind_all {w : World} {T : Nat} {p : Nat → Nat} {Q : Bl} {most o : Nat} {l : List KR} (h : Tab w T p Q most o l) (c : Nat) (hc : c < 4) (lo hi : Int) (hl : I64 lo) (hh : I64 hi) (hle : lo ≤ hi) :
    Calls Tryz.prog 40 #[.pointer (some ⟨T, 0, none⟩), .int .i64 (c : Int), .int .i64 lo, .int .i64 hi, .int .i64 2000] w (FindEnd w ((tellK c lo hi l).map Prod.fst)) := by
  rw [← findL_all h.rows h.le]
  exact tfind h c hc lo hi 2000 hl hh hle (by omega)
theorem Lies.at_ {w : World} {g : Nat} {r : Ro} (h : Lies w g r) {c : Nat} (hc : c < 4) : w.cell? ⟨g, c, none⟩ = some (.int .i64 (r.at c)) := h.cell (r.get_at hc)
/-- What is told of all values, of those up to one, of that one. -/
structure WholeL (c : Nat) (y : Int) (l : List KR) (N A O : List (List Nat)) : Prop where
  n : N = (tellK c (-9223372036854775808) 9223372036854775807 l).map Prod.fst
  a : A = (tellK c (-9223372036854775808) y l).map Prod.fst
  o : O = (tellK c y y l).map Prod.fst
section
variable {l : List KR} {c : Nat} {y : Int} {N A O : List (List Nat)}
theorem WholeL.top (h : WholeL c y l N A O) (hy : y = 9223372036854775807) : A = N := by rw [h.a, h.n, hy]
theorem WholeL.parts (h : WholeL c y l N A O) (hl : RowsOk l) (hc : c < 4) (hy : I64 y) : N = A ++ (tellK c (y + 1) 9223372036854775807 l).map Prod.fst := by
  rw [h.n, h.a]
  exact tellK_part hl hc (by have := hy.1; omega) (by have := hy.2; omega)
theorem WholeL.own (h : WholeL c y l N A O) (hl : RowsOk l) (hc : c < 4) (hy : I64 y) : A = (tellK c (-9223372036854775808) (y - 1) l).map Prod.fst ++ O := by
  rw [h.a, h.o]
  have := tellK_part hl hc (lo := -9223372036854775808) (m := y - 1) (hi := y) (by have := hy.1; omega) (by omega)
  rwa [show y - 1 + 1 = y by omega] at this
end
end Go.Proofs.YtlnagdodnkhbmaaGreat

/- law07's Same: are a table's rows a reference's? -/
namespace Go.Proofs.YtlnagdodnkhbmaaGreat
open Go.RowKit Go.Shelf
set_option maxRecDepth 100000
attribute [local go_sem] Oper.semAt_some
def preK : List KR → List KR → Bool
  | [], _ => true
  | _ :: _, [] => false
  | x :: a, y :: b => decide (x.1 = y.1) && decide (x.2.l = y.2.l) && preK a b
theorem preK_iff : ∀ {a b : List KR}, preK a b = true ↔ a <+: b
  | [], _ => by simp [preK]
  | _ :: _, [] => by simp [preK]
  | x :: a, y :: b => by
    simp only [preK, Bool.and_eq_true, decide_eq_true_iff, preK_iff, List.cons_prefix_cons]
    constructor
    · rintro ⟨⟨h1, h2⟩, h3⟩; exact ⟨Prod.ext h1 (Ro.ext_l h2), h3⟩
    · rintro ⟨rfl, h3⟩; exact ⟨⟨rfl, rfl⟩, h3⟩
def eqL (a b : List KR) : Bool := preK a b && decide (a.length = b.length)
theorem eqL_iff {a b : List KR} : eqL a b = true ↔ a = b := by
  unfold eqL
  rw [Bool.and_eq_true, decide_eq_true_iff, preK_iff]
  constructor
  · exact fun h => h.1.eq_of_length h.2
  · rintro rfl; exact ⟨List.prefix_refl _, rfl⟩
theorem eqL_same {a b : List KR} (ha : RowsOk a) (hb : RowsOk b) : eqL a b = sameL a b := by
  rw [Bool.eq_iff_iff, eqL_iff, sameL_yes ha hb]
theorem eqL_no {a b : List KR} (h : a ≠ b) : eqL a b = false := by
  rw [Bool.eq_false_iff]; exact fun e => h (eqL_iff.1 e)
def SameG (w : World) (p B : Nat) (l2 pre : List KR) (K : Bl) (W : World) : Prop := SameK w p B pre K W ∧ ¬ K (w.heap.size + 1) ∧ pre <+: l2
def SameGX (w : World) (p : Nat) (l2 pre : List KR) (K : Bl) (W : World) : Prop := CheckK w p pre K W ∧ ¬ K (w.heap.size + 1) ∧ ¬ pre <+: l2
theorem sameG_abide {w : World} {p B : Nat} {l2 : List KR} (hlt : w.heap.size + 1 < B) : Abide (B + 1) (SameG w p B l2) := by
  rintro s K A A' row ⟨h, hk, hq⟩ hg hr K' hK'
  refine ⟨sameK_abide hlt s K A A' row h hg hr K' hK', fun h2 => ?_, hq⟩
  have : w.heap.size + 1 < A.heap.size := blk_lt h.1.2.1
  rcases hK' _ h2 with h3 | h3
  · exact hk h3
  · omega
theorem sameGX_abide {w : World} {p B : Nat} {l2 : List KR} (hlt : w.heap.size + 1 < B) : Abide (B + 1) (SameGX w p l2) := by
  rintro s K A A' row ⟨h, hk, hq⟩ hg hr K' hK'
  refine ⟨checkK_abide s K A A' row h hg (fun r e => ⟨by have := (hr r e).1; omega, (hr r e).2⟩) K' hK', fun h2 => ?_, hq⟩
  have : w.heap.size + 1 < A.heap.size := blk_lt h.1.2.1
  rcases hK' _ h2 with h3 | h3
  · exact hk h3
  · omega
theorem pre_snoc {pre l2 : List KR} {x y : KR} (h : pre <+: l2) (hy : l2[pre.length]? = some y) : pre ++ [x] <+: l2 ↔ x = y := by
  constructor
  · rintro ⟨t, ht⟩
    rw [← ht, List.append_assoc, List.getElem?_append_right (Nat.le_refl _)] at hy
    simpa using hy
  · rintro rfl
    obtain ⟨t, rfl⟩ := h
    rw [List.getElem?_append_right (Nat.le_refl _), Nat.sub_self] at hy
    cases t with
    | nil => cases hy
    | cons z t => simp at hy; subst hy; exact ⟨t, by simp⟩
theorem pre_over {pre l2 : List KR} {x : KR} (h : l2.length ≤ pre.length) : ¬ pre ++ [x] <+: l2 := fun e => by
  have := e.length_le
  simp at this; omega
theorem exitG {w : World} {p B : Nat} {pre pre' l2 : List KR} {K : Bl} {W2 : World} (h : SameK w p B pre K W2) (hk : ¬ K (w.heap.size + 1)) (hn : ¬ pre' <+: l2) (nq : Nat) :
    Stay K W2 ((W2.drewN nq).setCell ⟨w.heap.size + 1, 0, none⟩ (.bool false)) ∧ SameGX w p l2 pre' K ((W2.drewN nq).setCell ⟨w.heap.size + 1, 0, none⟩ (.bool false)) := by
  obtain ⟨⟨h0, h1, h1f, _, _, _⟩, hB⟩ := h
  have hc : CheckK w p pre K (W2.drewN nq) := ⟨⟨h0, h1, h1f⟩, below_drewN' hB nq⟩
  exact ⟨(stay_drew K W2 nq).trans (stay_set hk), checkK_set hc pre', hk, hn⟩
set_option maxHeartbeats 4000000 in
theorem same7_any (w : World) (T : Nat) (p : Nat → Nat) (Q : Bl) (most o : Nat) (l : List KR) (G : List Nat) (rp most2 : Nat) (l2 : List KR) (hT : Tab w T p Q most o l) (hR : RTab w G rp most2 l2) (hl2 : KByt l2) (h24 : l2.length ≤ 1024) :
    Calls Tryz.prog 21 #[.pointer (some ⟨T, 0, none⟩), .pointer (some ⟨rp, 0, none⟩)] w fun e w' => e = .returned (.bool (eqL l l2)) ∧ Below w.heap.size w w' := by
  have HT := hid hT
  have HR := hid hR
  have hsz : l.length ≤ 1024 := hT.le
  have HL2 := hid hl2
  clear hT hR hl2
  refine (callsIn_wide (n := 3)).1 ?_
  refine callsIn_of_wp_marks Tryz.func21 rfl trivial ?_ rfl
  simp only [Tryz.ntmps21, List.size_toArray, List.length_cons, List.length_nil, Nat.reduceAdd, Nat.reduceSub, Array.replicate_succ, Array.replicate_zero, List.push_toArray, List.append_toArray, List.nil_append, List.cons_append]
  have hB0 : Below w.heap.size w ((w.alloc (.cells #[.pointer (some ⟨rp, 0, none⟩)] 30)).alloc (.cells #[.bool false] 4)) := ((Below.refl _ w).alloc (Nat.le_refl _) _).alloc (by simp) _
  have HB0 := hid hB0
  have hnil := run_eql_nil7
  gi_wp2_with (refine ⟨trivial, ?_⟩; gi_at_call 49; refine (callsIn_wide.2 (tall (HT.out.below HB0.out))).mono ?_; rintro e w1 ⟨gf, lb, G1, rfl, hb1, hw1, hGQ⟩)
  have HB1 := hid (below_step HB0.out hb1)
  have c0 := below_keep hb1 _ _ (cellPast (.cells #[.bool false] 4) (cellNew w (.pointer (some ⟨rp, 0, none⟩)) 30).1)
  have c1 : w1.cell? ⟨w.heap.size + 1, 0, none⟩ = some (.bool false) := below_keep hb1 _ _ (by have := (cellNew (w.alloc (.cells #[.pointer (some ⟨rp, 0, none⟩)] 30)) (.bool false) 4).1; rwa [World.size_alloc] at this)
  have f1 : w1.frozen? ⟨w.heap.size + 1, 0, none⟩ = false := (hb1.frozen (p := ⟨w.heap.size + 1, 0, none⟩) (by simp)).trans (by have := (cellNew (w.alloc (.cells #[.pointer (some ⟨rp, 0, none⟩)] 30)) (.bool false) 4).2; rwa [World.size_alloc] at this)
  have cn := cellNew w1 (.int .i64 0) 3
  have hlt1 : w.heap.size + 1 < w1.heap.size := by have := hb1.size; simp at this; omega
  have HNK : Hid (¬ G1 (w.heap.size + 1)) := fun hg => by
    rcases hGQ _ hg with h3 | h3
    · have := HT.out.under _ h3; omega
    · have h5 := h3
      simp only [World.size_alloc] at h5
      omega
  have HAB := hid (sameG_abide (w := w) (p := rp) (B := w1.heap.size) (l2 := l2) hlt1)
  have HAX := hid (sameGX_abide (w := w) (p := rp) (B := w1.heap.size) (l2 := l2) hlt1)
  refine range_own (gf := gf) (lb := lb) rfl hw1.en hw1.gives (w0 := w1) (Stay.of_below ((Below.refl _ w1).alloc (Nat.le_refl _) _) hw1.lt) (fun _ => rfl) (SameG w rp w1.heap.size l2) (fun cd s K W => cd = .ret ∧ SameGX w rp l2 s K W) (by rw [World.size_alloc]; exact HAB.out) (fun cd s K A A' row hi hg hr K' hK' => ⟨hi.1, (by rw [World.size_alloc] at hr; exact HAX.out s K A A' row hi.2 hg hr K' hK')⟩) G1 (fun _ h => h) (fun b hb => by have := hw1.lt b hb; simp; omega)
    ⟨⟨⟨cellPast _ c0, cellPast _ c1, frozenPast _ c1 f1, cn.1, cn.2, fun h => by have := hw1.lt _ h; omega⟩, HB1.out.alloc HB1.out.size _⟩, HNK.out, List.nil_prefix⟩ ?round ?done ?stop
  case round =>
    rintro lq pre x K W m hI hKW hKl hlq hpre
    dsimp only [encK, rowv, rowc]
    gi_wp2
    obtain ⟨Wa, HWA⟩ : ∃ Wa, Hid (Wa = W.alloc (.cells #[.int .i64 x.2.a, .int .i64 x.2.b, .int .i64 x.2.c, .int .i64 x.2.d] 41)) := ⟨_, rfl⟩
    rw [← HWA.out]
    have hba : Below W.heap.size W Wa := by rw [HWA.out]; exact (Below.refl _ _).alloc (Nat.le_refl _) _
    have hrow : Wa.heap[W.heap.size]? = some (.cells #[.int .i64 x.2.a, .int .i64 x.2.b, .int .i64 x.2.c, .int .i64 x.2.d] 41 (0, 0)) := by rw [HWA.out]; exact heap_alloc_new W _
    refine ⟨Stay.of_below hba hKW, fun W2 hg2 => ?_⟩
    have hlW := hKW lq hKl
    have HI2 := hid (HAB.out pre K Wa W2 (some lq) ⟨hI.1.below hba, hI.2⟩ hg2 (fun r e => by injection e with e; subst e; simp at hlq; exact ⟨hlq, hKl⟩) K fun b h => .inl h)
    have HW2 : Hid (W.heap.size < W2.heap.size) := Nat.lt_of_lt_of_le (Array.getElem?_eq_some_iff.1 hrow).1 hg2.size
    have hrow2 : W2.heap[W.heap.size]? = some (.cells #[.int .i64 x.2.a, .int .i64 x.2.b, .int .i64 x.2.c, .int .i64 x.2.d] 41 (0, 0)) := (hg2.block _ (Array.getElem?_eq_some_iff.1 hrow).1 (by intro e; injection e with e; omega)).trans hrow
    have r0 := cell_of_row W2 W.heap.size 0 _ _ _ hrow2
    have r1 := cell_of_row W2 W.heap.size 1 _ _ _ hrow2
    have r2 := cell_of_row W2 W.heap.size 2 _ _ _ hrow2
    have r3 := cell_of_row W2 W.heap.size 3 _ _ _ hrow2
    have HXM : Hid (x ∈ l) := hpre.subset (by simp)
    clear hI hg2 hrow hrow2 hba hpre
    obtain ⟨⟨⟨h0, h1, h1f, hn, hnf, hkb⟩, hB⟩, hnk, hpl⟩ := HI2.out
    have HBW := hid hB
    have HPL := hid hpl
    obtain ⟨u, hone, hel, _, _, _⟩ := HR.out.below hB
    obtain ⟨A, cap, rfl⟩ := hel.slice
    have hp := cell_of_row W2 rp 0 _ _ _ hone
    have hmx : l2.length ≤ 1024 := h24
    obtain ⟨n, HNE⟩ : ∃ n, Hid (n = pre.length) := ⟨_, rfl⟩
    obtain ⟨len, HLEN⟩ : ∃ len, Hid (len = l2.length) := ⟨_, rfl⟩
    have hn24 : n ≤ 1024 := by rw [HNE.out]; have := hpl.length_le; omega
    rw [← HLEN.out] at hp hmx
    simp at hp
    rw [← HNE.out] at hn
    simp at r0 r1 r2 r3
    have hxb := HT.out.rows.byt _ HXM.out
    by_cases hover : len ≤ n
    · have hlti : decide (len ≤ n) = true := decide_eq_true hover
      have hlti2 : decide ((len : Int) ≤ (n : Int)) = true := decide_eq_true (by omega)
      have hlti3 : (len : Int) ≤ (n : Int) := by omega
      have HNP : Hid (¬ pre ++ [x] <+: l2) := pre_over (by rw [← HNE.out, ← HLEN.out]; exact hover)
      clear hel hone hB hpl
      gi_wp2
      refine region_round (by kernel_rfl) (by kernel_rfl) (by kernel_rfl) ?_
      repeat (gi_big_quiet_step (fail))
      refine wpQuietIn_nil ?_
      intro _ hw'
      obtain ⟨nq, hw''⟩ := hw'
      subst hw''
      gi_wp2
      exact ⟨(exitG HI2.out.1 hnk HNP.out nq).1, rfl, (exitG HI2.out.1 hnk HNP.out nq).2⟩
    · have hlti : decide (len ≤ n) = false := decide_eq_false hover
      have hlti2 : decide ((len : Int) ≤ (n : Int)) = false := decide_eq_false (by omega)
      have hlti' : (n : Int) < len := by omega
      obtain ⟨y, hq⟩ : ∃ y, l2[n]? = some y := ⟨l2[n]'(by have := HLEN.out; omega), List.getElem?_eq_getElem _⟩
      obtain ⟨ad, rfl, q0, q1, q2, q3, q4⟩ := hel.qat hq
      have hyb := HL2.out y (List.mem_of_getElem? hq)
      have hk1 := beq_str hxb hyb
      have HPS : Hid (pre ++ [x] <+: l2 ↔ x = y) := pre_snoc hpl (by rw [← HNE.out]; exact hq)
      clear hel hone hB hpl
      by_cases hxy : x.1 = y.1
      · have hxk : (x.1 = y.1) = True := eq_true hxy
        simp only [hxy, decide_true] at hk1
        have heq := eq_rows x.2 y.2
        by_cases hrr : x.2.l = y.2.l
        · rw [decide_eq_true hrr] at heq
          have HEX : Hid (x = y) := Prod.ext hxy (Ro.ext_l hrr)
          have HPX : Hid (pre ++ [x] <+: l2) := HPS.out.2 HEX.out
          clear hxy hrr hxk HPS
          obtain rfl : x = y := HEX.out
          gi_wp2
          refine region_round (by kernel_rfl) (by kernel_rfl) (by kernel_rfl) ?_
          repeat (gi_big_quiet_step (fail))
          refine wpQuietIn_nil ?_
          intro _ hw'
          obtain ⟨nq, hw''⟩ := hw'
          subst hw''
          gi_wp2
          have hnb : w.heap.size ≠ w1.heap.size := by omega
          have hnb1 : w.heap.size + 1 ≠ w1.heap.size := by omega
          refine ⟨(stay_drew K W2 nq).trans ⟨by simp [World.setCell], fun b hb => Below.heap_setCell _ _ _ _ fun e => hkb (by rw [e] at hb; exact hb)⟩, ⟨⟨cellFar (b := ⟨w1.heap.size, 0, none⟩) h0 hnb _, cellFar (b := ⟨w1.heap.size, 0, none⟩) h1 hnb1 _, ?_, ?_, ?_, hkb⟩, (below_drewN' HBW.out nq).setCell (p := ⟨w1.heap.size, 0, none⟩) (by show w.heap.size ≤ w1.heap.size; omega) _⟩, hnk, HPX.out⟩
          · rw [World.frozen?_setCell]; exact h1f
          · rw [List.length_append, ← HNE.out]
            exact World.cell?_setCell_same' _ _ _ (by show (W2.cell? _).isSome = true; rw [hn]; rfl)
          · rw [World.frozen?_setCell]; exact hnf
        · rw [decide_eq_false hrr] at heq
          have HNP : Hid (¬ pre ++ [x] <+: l2) := fun e => hrr (by rw [HPS.out.1 e])
          rw [← hxy] at q0
          rw [← hxy] at hk1
          clear hxy hrr hxk
          gi_wp2
          refine region_round (by kernel_rfl) (by kernel_rfl) (by kernel_rfl) ?_
          repeat (gi_big_quiet_step (fail))
          refine wpQuietIn_nil ?_
          intro _ hw'
          obtain ⟨nq, hw''⟩ := hw'
          subst hw''
          gi_wp2
          exact ⟨(exitG HI2.out.1 hnk HNP.out nq).1, rfl, (exitG HI2.out.1 hnk HNP.out nq).2⟩
      · simp only [hxy, decide_false] at hk1
        have HNP : Hid (¬ pre ++ [x] <+: l2) := fun e => hxy (by rw [HPS.out.1 e])
        clear hxy
        gi_wp2
        refine region_round (by kernel_rfl) (by kernel_rfl) (by kernel_rfl) ?_
        repeat (gi_big_quiet_step (fail))
        refine wpQuietIn_nil ?_
        intro _ hw'
        obtain ⟨nq, hw''⟩ := hw'
        subst hw''
        gi_wp2
        exact ⟨(exitG HI2.out.1 hnk HNP.out nq).1, rfl, (exitG HI2.out.1 hnk HNP.out nq).2⟩
  case done =>
    rintro D Kd W ⟨⟨⟨h0, h1, h1f, hn, hnf, _⟩, hB⟩, _, hpl⟩ _ _ hD hK
    have HBW := hid hB
    have HK := hid hK
    have HPL := hid hpl
    obtain ⟨u, hone, hel, _, _, _⟩ := HR.out.below hB
    obtain ⟨A, cap, rfl⟩ := hel.slice
    have hp := cell_of_row W rp 0 _ _ _ hone
    simp at hp
    have hpl : rp < w.heap.size := HR.out.plt
    obtain ⟨len, HLEN⟩ : ∃ len, Hid (len = l2.length) := ⟨_, rfl⟩
    obtain ⟨n, HNE⟩ : ∃ n, Hid (n = l.length) := ⟨_, rfl⟩
    rw [← HLEN.out] at hp
    rw [← HNE.out] at hn
    have HP := hid hp
    have HC0 := hid h0
    have HCN := hid hn
    have HC1 := hid h1
    have HF1 := hid h1f
    have hD' : w.heap.size ≤ D := by simp at hD; omega
    have HLN : Hid (∀ W', Below w.heap.size w W' → Calls Tryz.prog 29 #[.pointer (some ⟨T, 0, none⟩)] W' fun e w2 => e = .returned (.int .i64 (n : Int)) ∧ Below W'.heap.size W' w2) := fun W' hb => by
      rw [HNE.out]
      refine (tlen (HT.out.below hb)).mono ?_
      rintro e w2 ⟨h, rfl⟩
      exact ⟨h, Below.refl _ _⟩
    clear hel hone hB hK hnf
    by_cases hln : n = len
    · have HRES : Hid (eqL l l2 = true) := eqL_iff.2 (HPL.out.eq_of_length (by rw [← HNE.out, ← HLEN.out, hln]))
      subst hln
      gi_wp2
      refine wpIn_wide.2 ?_
      go_region_held3 (fun W' => W'.cell? ⟨w1.heap.size, 0, none⟩ = some (.int .i64 n) ∧ W'.cell? ⟨w.heap.size, 0, none⟩ = some (.pointer (some ⟨rp, 0, none⟩)) ∧ W'.cell? ⟨rp, 0, none⟩ = some (.slice A n cap)) (first | exact ⟨hn, h0, hp⟩ | exact HS2.out | exact HS3.out)
        (first
          | (go_at_call 29; ((with_reducible refine (HLN.out _ (HBW.out.drew)).mono ?_); rintro e w5 ⟨rfl, hb5⟩; have HB5 := hid hb5; have HS2 : Hid (w5.cell? ⟨w1.heap.size, 0, none⟩ = some (.int .i64 n) ∧ w5.cell? ⟨w.heap.size, 0, none⟩ = some (.pointer (some ⟨rp, 0, none⟩)) ∧ w5.cell? ⟨rp, 0, none⟩ = some (.slice A n cap)) := ⟨below_keep hb5 _ _ HCN.out, below_keep hb5 _ _ HC0.out, below_keep hb5 _ _ HP.out⟩; have HS3 : Hid ((w5.setCell ⟨w.heap.size + 1, 0, none⟩ (.bool true)).cell? ⟨w1.heap.size, 0, none⟩ = some (.int .i64 n) ∧ (w5.setCell ⟨w.heap.size + 1, 0, none⟩ (.bool true)).cell? ⟨w.heap.size, 0, none⟩ = some (.pointer (some ⟨rp, 0, none⟩)) ∧ (w5.setCell ⟨w.heap.size + 1, 0, none⟩ (.bool true)).cell? ⟨rp, 0, none⟩ = some (.slice A n cap)) := ⟨cellFar (b := ⟨w.heap.size + 1, 0, none⟩) HS2.out.1 (by show w1.heap.size ≠ w.heap.size + 1; omega) _, cellFar (b := ⟨w.heap.size + 1, 0, none⟩) HS2.out.2.1 (by show w.heap.size ≠ w.heap.size + 1; omega) _, cellFar (b := ⟨w.heap.size + 1, 0, none⟩) HS2.out.2.2 (by show rp ≠ w.heap.size + 1; omega) _⟩; have h15 := below_keep hb5 _ _ HC1.out; have h15f := (hb5.frozen (p := ⟨w.heap.size + 1, 0, none⟩) (blk_lt HC1.out)).trans HF1.out; clear hb5)))
      have hDW : D < W.heap.size := (Array.getElem?_eq_some_iff.1 HK.out).1
      have HK' : Hid ((w5.setCell ⟨w.heap.size + 1, 0, none⟩ (.bool true)).heap[D]? = some (.deferred (some []))) := (KeepsOthers.setCell w5 ⟨w.heap.size + 1, 0, none⟩ (.bool true)).same D _ ((HB5.out.block D hDW).trans HK.out) rfl
      have hc5 := cell_kept (World.cell?_setCell_same' w5 ⟨w.heap.size + 1, 0, none⟩ (.bool true) (by rw [h15]; rfl)) (grownBy_putObj' _ D (.deferred none)) (fun r e => by cases e; exact ⟨_, HK'.out, rfl⟩)
      gi_wp2
      refine ⟨by simp, .inl ⟨_, _, rfl, run_takeDeferred HK'.out, ?_⟩⟩
      refine ⟨.bool true, ?_, ?_, ?_⟩
      · simp [results, Tryz.f21, go_sem, hc5]
      · rw [HRES.out]
      · exact ((below_step HBW.out.drew HB5.out).setCell (p := ⟨w.heap.size + 1, 0, none⟩) (by show w.heap.size ≤ w.heap.size + 1; omega) _).trans (belowK_b (w := w) (Nat.le_refl _) _ D _ _ hD' HK'.out rfl rfl)
    · have HRES : Hid (eqL l l2 = false) := eqL_no fun e => hln (by rw [HNE.out, HLEN.out, e])
      have hln2 : ¬ (n : Int) = (len : Int) := by omega
      have hln3 : decide ((n : Int) = (len : Int)) = false := decide_eq_false hln2
      have hln4 : decide (n = len) = false := decide_eq_false hln
      gi_wp2
      refine wpIn_wide.2 ?_
      go_still_tail 13, (by kernel_rfl)
      change wpList _ _ _ _ _ W.drew
      have h1 : W.drew.cell? ⟨w.heap.size + 1, 0, none⟩ = some (.bool false) := h1
      have h1f : W.drew.frozen? ⟨w.heap.size + 1, 0, none⟩ = false := h1f
      go_wp2
      have HK' : Hid ((W.setCell ⟨w.heap.size + 1, 0, none⟩ (.bool false)).drew.heap[D]? = some (.deferred (some []))) := (KeepsOthers.setCell W ⟨w.heap.size + 1, 0, none⟩ (.bool false)).same D _ HK.out rfl
      have hc6 : (W.setCell ⟨w.heap.size + 1, 0, none⟩ (.bool false)).drew.cell? ⟨w.heap.size + 1, 0, none⟩ = some (.bool false) := World.cell?_setCell_same' W ⟨w.heap.size + 1, 0, none⟩ (.bool false) (by rw [HC1.out]; rfl)
      have hc5 := cell_kept hc6 (grownBy_putObj' _ D (.deferred none)) (fun r e => by cases e; exact ⟨_, HK'.out, rfl⟩)
      gi_wp2
      refine ⟨by simp, .inl ⟨_, _, rfl, run_takeDeferred HK'.out, ?_⟩⟩
      refine ⟨.bool false, ?_, ?_, ?_⟩
      · simp [results, Tryz.f21, go_sem, hc5]
      · rw [HRES.out]
      · exact ((HBW.out.setCell (p := ⟨w.heap.size + 1, 0, none⟩) (by show w.heap.size ≤ w.heap.size + 1; omega) _).drew).trans (belowK_b (w := w) (Nat.le_refl _) _ D _ _ hD' HK'.out rfl rfl)
  case stop =>
    rintro D cd pre K W hpre ⟨rfl, ⟨⟨h0, h1, h1f⟩, hB⟩, _, hnp⟩ _ _ hD hK
    have HRES : Hid (eqL l l2 = false) := eqL_no fun e => hnp (e ▸ hpre)
    have HBWW := hid hB
    have hD' : w.heap.size ≤ D := by simp at hD; omega
    have HK' := hid hK
    have hc5 := cell_kept h1 (grownBy_putObj' _ D (.deferred none)) (fun r e => by cases e; exact ⟨_, HK'.out, rfl⟩)
    clear hB hK hnp hpre
    gi_wp2
    refine ⟨by simp, .inl ⟨_, _, rfl, run_takeDeferred HK'.out, ?_⟩⟩
    refine ⟨.bool false, ?_, ?_, ?_⟩
    · simp [results, Tryz.f21, go_sem, hc5]
    · rw [HRES.out]
    · exact HBWW.out.trans (belowK_b (w := w) (Nat.le_refl _) _ D _ _ hD' HK'.out rfl rfl)
end Go.Proofs.YtlnagdodnkhbmaaGreat

/- A table's Copy; the reference's Copy. -/
namespace Go.Proofs.YtlnagdodnkhbmaaGreat
open Go.RowKit
set_option maxRecDepth 100000
/-- A copy's cells, while its trees are copied. -/
def padC (most : Int) (p p' : Nat → Nat) (k : Nat) : Array Value := #[.int .i64 most, if 0 < k then ptr (p' 0) else ptr (p 0), if 1 < k then ptr (p' 1) else ptr (p 1), if 2 < k then ptr (p' 2) else ptr (p 2), if 3 < k then ptr (p' 3) else ptr (p 3), if 4 < k then ptr (p' 4) else ptr (p 4)]
def upd (p' : Nat → Nat) (k b : Nat) : Nat → Nat := fun i => if i = k then b else p' i
theorem padC_set (most : Int) (p p' : Nat → Nat) (b : Nat) {k : Nat} (h : k < 5) : (padC most p p' k).set! (1 + k) (ptr b) = padC most p (upd p' k b) (k + 1) := by
  match k with
  | 0 => rfl
  | 1 => rfl
  | 2 => rfl
  | 3 => rfl
  | 4 => rfl
  | k + 5 => omega
theorem padC_at (most : Int) (p p' : Nat → Nat) {k : Nat} (h : k < 5) : (padC most p p' k)[1 + k]? = some (.pointer (some ⟨p k, 0, none⟩)) := by
  match k with
  | 0 => rfl
  | 1 => rfl
  | 2 => rfl
  | 3 => rfl
  | 4 => rfl
  | k + 5 => omega
theorem idx_any (p : Nat → Nat) {k : Nat} (h : k < 5) (W : World) : (Instr.index 105 (.agg #[.pointer (some ⟨p 0, 0, none⟩), .pointer (some ⟨p 1, 0, none⟩), .pointer (some ⟨p 2, 0, none⟩), .pointer (some ⟨p 3, 0, none⟩), .pointer (some ⟨p 4, 0, none⟩)]) (.int .i64 (k : Int))).run Tryz.prog W = .ok (.pointer (some ⟨p k, 0, none⟩)) W := by
  obtain ⟨h0, h1, h2, h3, h4⟩ := idx5 p
  rcases (by omega : k = 0 ∨ k = 1 ∨ k = 2 ∨ k = 3 ∨ k = 4) with rfl | rfl | rfl | rfl | rfl
  · exact h0 W
  · exact h1 W
  · exact h2 W
  · exact h3 W
  · exact h4 W
structure CopyRel (w : World) (most : Int) (o : Nat) (p p' : Nat → Nat) (Q : Bl) (J : Nat → List Pr) (k : Nat) (wr : World) : Prop where
  below : Below w.heap.size w wr
  c : wr.heap[w.heap.size]? = some (.cells (padC most p p' k) 107 (0, 0))
  t : ∀ j, j < k → TreeAt wr (p' j) o (J j) Q
  lt : ∀ j, j < k → w.heap.size < p' j ∧ p' j < wr.heap.size
  ne : ∀ i j, i < k → j < k → p' i = p' j → i = j
theorem CopyRel.start (w : World) (most : Int) (o : Nat) (p : Nat → Nat) (Q : Bl) (J : Nat → List Pr) : CopyRel w most o p p Q J 0 (w.alloc (.cells #[.int .i64 most, .pointer (some ⟨p 0, 0, none⟩), .pointer (some ⟨p 1, 0, none⟩), .pointer (some ⟨p 2, 0, none⟩), .pointer (some ⟨p 3, 0, none⟩), .pointer (some ⟨p 4, 0, none⟩)] 107)) :=
  ⟨(Below.refl _ _).alloc (Nat.le_refl _) _, heap_alloc_new w _, fun j h => by omega, fun j h => by omega, fun i j h => by omega⟩
theorem CopyRel.step {w wr w' : World} {most : Int} {o k : Nat} {p p' : Nat → Nat} {Q : Bl} {J : Nat → List Pr} (h : CopyRel w most o p p' Q J k wr) (hQ : Under Q w) (hk : k < 5) (hb : Below wr.heap.size wr w') (hs : wr.heap.size < w'.heap.size) (ht : TreeAt w' wr.heap.size o (J k) Q) :
    CopyRel w most o p (upd p' k wr.heap.size) Q J (k + 1) (w'.setCell ⟨w.heap.size, 1 + k, none⟩ (.pointer (some ⟨wr.heap.size, 0, none⟩))) := by
  have hlt : w.heap.size < wr.heap.size := (Array.getElem?_eq_some_iff.1 h.c).1
  have hc : w'.heap[w.heap.size]? = some (.cells (padC most p p' k) 107 (0, 0)) := (hb.block _ hlt).trans h.c
  have hk1 : ∀ b, b ≠ w.heap.size → (w'.setCell ⟨w.heap.size, 1 + k, none⟩ (.pointer (some ⟨wr.heap.size, 0, none⟩))).heap[b]? = w'.heap[b]? := fun b hne => Below.heap_setCell _ _ _ _ hne
  have hsz : (w'.setCell ⟨w.heap.size, 1 + k, none⟩ (.pointer (some ⟨wr.heap.size, 0, none⟩))).heap.size = w'.heap.size := by simp [World.setCell]
  have hQ1 : ∀ b, Q b → b ≠ w.heap.size := fun b hb e => by have := hQ b hb; omega
  refine ⟨(h.below.trans (hb.mono h.below.size)).setCell (p := ⟨w.heap.size, 1 + k, none⟩) (Nat.le_refl _) _, ?_, fun j hj => ?_, fun j hj => ?_, fun i j hi hj e => ?_⟩
  · rw [setCell_row hc, ← padC_set most p p' wr.heap.size hk]; rfl
  · unfold upd
    by_cases e : j = k
    · subst e
      rw [if_pos rfl]
      exact ht.keep (hk1 _ (by omega)) (fun b hb => hk1 b (hQ1 b hb)) (by omega)
    · rw [if_neg e]
      have h3 := h.lt j (by omega)
      exact ((h.t j (by omega)).below hb).keep (hk1 _ (by omega)) (fun b hb => hk1 b (hQ1 b hb)) (by omega)
  · unfold upd
    rw [hsz]
    by_cases e : j = k
    · rw [if_pos e]; omega
    · rw [if_neg e]
      have h3 := h.lt j (by omega)
      omega
  · unfold upd at e
    by_cases e1 : i = k
    · by_cases e2 : j = k
      · omega
      · rw [if_pos e1, if_neg e2] at e
        have h3 := h.lt j (by omega)
        omega
    · by_cases e2 : j = k
      · rw [if_neg e1, if_pos e2] at e
        have h3 := h.lt i (by omega)
        omega
      · rw [if_neg e1, if_neg e2] at e
        exact h.ne i j (by omega) (by omega) e
theorem CopyRel.tab {w wr : World} {most o : Nat} {p p' : Nat → Nat} {Q : Bl} {J : Nat → List Pr} (h : CopyRel w (most : Int) o p p' Q J 5 wr) : TabI wr w.heap.size p' Q most o J :=
  ⟨h.c, h.t, fun i j hi hj e => h.ne i j hi hj e, fun i hi => by have := h.lt i hi; omega⟩
def CopyEnd (w : World) (Q : Bl) (most o : Nat) (l : List KR) (e : Ending) (w' : World) : Prop :=
  e = .returned (.pointer (some ⟨w.heap.size, 0, none⟩)) ∧ Below w.heap.size w w' ∧ ∃ p', Tab w' w.heap.size p' Q most o l ∧ ∀ i, i < 5 → w.heap.size < p' i
section
variable {P : Program} {α : Type} {c : α → List Value}
theorem step_append_rows {w : World} {ops : Array Oper} {o : Oper} {a : Act} {K : Act → World → Prop} {Q : Exit → Act → World → Prop} {E : Prop} (hgd : o.guard = none) (s x : Operand) (t : TypeId)
    (ho : o.op = .call { callee := .builtin .append, args := #[s, x], argTypes := #[t, t] })
    (base : Nat) (e : TypeId) (i : TypeInfo) (z : Value) (size bytes : Nat) (ht : P.underlying t = some (.slice e)) (hi : P.info? e = some i) (hz : i.zero = some z)
    (hsize : i.size = size) (hby : i.bytes = bytes) (hzs : z.cells.size = size) (hsz : 0 < size) (hone : ∀ a, ∀ y ∈ c a, y.oneCell' = true)
    (v : Value) (l : List α) (hs : a.eval s = v) (hown : OwnElems size c e w base v l) (u : Value) (l' : List α) (hx : a.eval x = u) (hu : Elems size c w u l')
    (h63 : l.length + l'.length ≤ maxLen) (hbytes : (l.length + l'.length) * bytes ≤ 140737488355328) (hbase : base ≤ w.heap.size)
    (h : ∀ v' w', OwnElems size c e w' base v' (l ++ l') → w.grownBy w' v.ownBlock → (∀ b ∈ ownFoot v', b ∈ ownFoot v ∨ w.heap.size ≤ b) → K (a.put o.dst v') w') :
    if Region.wanted o (yielded ops a.tmps) = true then Oper.wp P o a w K Q else E := by
  rw [if_pos (by unfold Region.wanted; rw [hgd])]
  obtain ⟨v', w', hrun, h2, h3, h4⟩ := run_append_rows (P := P) w base t o.type e i z size bytes ht hi hz hsize hby hzs hsz hone v l hown u l' hu h63 hbytes hbase
  unfold Oper.wp execOp
  simp only [ho, resolve, invoke, builtin, Sem.run_bind, Sem.run_pure, Result.andThen_ok, List.map_toArray, List.map_cons, List.map_nil, hs, hx, hrun]
  exact h v' w' h2 h3 h4
end
set_option maxHeartbeats 1000000 in
theorem rcopy {w : World} {G : List Nat} {rp most : Nat} {l : List KR} (h : RTab w G rp most l) (hsz : l.length ≤ 200000) : Calls Tryz.prog 35 #[.pointer (some ⟨rp, 0, none⟩)] w fun e w' =>
    e = .returned (.pointer (some ⟨w.heap.size, 0, none⟩)) ∧ Below w.heap.size w w' ∧ ∃ G', RTab w' G' w.heap.size most l ∧ ∀ b ∈ G', w.heap.size ≤ b := by
  have H := hid h
  have HSZ := hid hsz
  obtain ⟨v, h1, h2, rfl, h4, h5⟩ := h
  obtain ⟨A, cap, rfl⟩ := h2.slice
  obtain ⟨i0, hi0, hz0, hs0, hy0⟩ := info_parts qinfo
  have HEL := hid h2
  obtain ⟨n, HN⟩ : ∃ n, Hid (n = l.length) := ⟨_, rfl⟩
  rw [← HN.out] at h1 HEL
  have HRP : Hid (rp < w.heap.size) := (Array.getElem?_eq_some_iff.1 h1).1
  have m1 : w.cell? ⟨rp, 1, none⟩ = some (.int .i64 (most : Int)) := cell_of_row w rp 1 _ _ _ h1
  have m0 : w.cell? ⟨rp, 0, none⟩ = some (.slice A n cap) := by have := cell_of_row w rp 0 _ _ _ h1; simpa using this
  have hba : Below w.heap.size w (w.alloc (.cells #[.slice none 0 0, .int .i64 (most : Int)] 47)) := (Below.refl _ _).alloc (Nat.le_refl _) _
  have HBA := hid hba
  have HROW : Hid ((w.alloc (.cells #[.slice none 0 0, .int .i64 (most : Int)] 47)).heap[w.heap.size]? = some (.cells #[.slice none 0 0, .int .i64 (most : Int)] 47 (0, 0))) := heap_alloc_new w _
  have k0 := below_keep hba _ _ m0
  have x0 : (w.alloc (.cells #[.slice none 0 0, .int .i64 (most : Int)] 47)).cell? ⟨w.heap.size, 0, none⟩ = some (.slice none 0 0) := cell_of_row _ w.heap.size 0 _ _ _ HROW.out
  have HSA : Hid (w.heap.size + 1 ≤ (w.alloc (.cells #[.slice none 0 0, .int .i64 (most : Int)] 47)).heap.size) := by show _ ≤ _; simp
  obtain ⟨wa, HWA⟩ : ∃ W, Hid (W = w.alloc (.cells #[.slice none 0 0, .int .i64 (most : Int)] 47)) := ⟨_, rfl⟩
  rw [← HWA.out] at HBA HROW k0 x0 HSA
  clear h1 h2 h4 h5 hba
  go_enter Tryz.func35, Tryz.ntmps35
  go_wp2
  rw [← HWA.out]
  go_region_law
    (refine step_append_rows (by rfl) (.tmp 14) (.tmp 18) 45 (by rfl) (w.heap.size + 1) 97 i0 _ 5 48 Tryz.underlying45 hi0 hz0 hs0 hy0 (by rfl) (by omega) cQ_one (.slice none 0 0) [] (by rfl) (OwnElems.nil _ _ _ _ _) (.slice A n cap) l (by rfl) (HEL.out.below (below_step HBA.out (below_drew' wa))) (by have := HSZ.out; simp [maxLen]; omega) (by have := HSZ.out; simp; omega) HSA.out ?_; intro v4 w4 ho4 hg4 hf4;
          have HO4 := hid ho4; have HG4 := hid hg4; have HF4 := hid hf4;
          have HR4 : Hid (w4.heap[w.heap.size]? = some (.cells #[.slice none 0 0, .int .i64 (most : Int)] 47 (0, 0))) := (HG4.out.block _ HSA.out (by intro e; cases e)).trans HROW.out;
          have x4 : w4.cell? ⟨w.heap.size, 0, none⟩ = some (.slice none 0 0) := cell_of_row _ w.heap.size 0 _ _ _ HR4.out;
          have x4f : w4.frozen? ⟨w.heap.size, 0, none⟩ = false := (by have := HR4.out; simp [World.frozen?, this]);
          obtain ⟨A4, n4, c4, rfl⟩ := ho4.rows.form;
          clear ho4 hg4 hf4)
  all_goals
    have HRF := hid (setCell_row HR4.out (i := 0) (.slice A4 n4 c4))
    have HBF : Hid (Below w.heap.size w (w4.setCell ⟨w.heap.size, 0, none⟩ (.slice A4 n4 c4))) := (below_step HBA.out (((Below.refl wa.heap.size wa).drew).grown HG4.out (Nat.le_refl _) (fun k e => by cases e))).setCell (p := ⟨w.heap.size, 0, none⟩) (Nat.le_refl _) _
    have HFG : Hid (∀ b ∈ ownFoot (.slice A4 n4 c4), w.heap.size + 1 ≤ b ∧ b < w4.heap.size) := fun b hb => HO4.out.lt b hb
    have HFE : Hid (Elems 5 cQ (w4.setCell ⟨w.heap.size, 0, none⟩ (.slice A4 n4 c4)) (.slice A4 n4 c4) l) := by
      have h5 := HO4.out.rows
      rw [List.nil_append] at h5
      exact h5.keep fun b hb => Below.heap_setCell _ _ _ _ (by have := (HFG.out b hb).1; show b ≠ w.heap.size; omega)
    go_wp2
    go_ret
    refine ⟨rfl, HBF.out, _, ⟨_, HRF.out, HFE.out, rfl, fun b hb => ?_, fun hb => ?_⟩, fun b hb => ?_⟩
    · have := (HFG.out b hb).2
      simpa [World.setCell] using this
    · have := (HFG.out _ hb).1; omega
    · rcases List.mem_cons.1 hb with rfl | hb
      · exact Nat.le_refl _
      · have := (HFG.out b hb).1; omega
end Go.Proofs.YtlnagdodnkhbmaaGreat
