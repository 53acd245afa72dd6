/- A table: Len, Most, Put, Delete. -/
import Derived.Test.YtlnagdodnkhbmaaT4
namespace Go.Proofs.Ytlnagdodnkhbmaa
open Go.RowKit
set_option maxRecDepth 100000

section
variable {w : World} {T : Nat} {p : Nat → Nat} {Q : Bl} {most o : Nat} {l : List KR}
theorem tlines (h : Tab w T p Q most o l) : Calls Try.prog 40 #[.pointer (some ⟨T, 0, none⟩)] w fun e w' => e = .returned (.pointer (some ⟨p 4, 0, none⟩)) ∧ w' = w := by
  obtain ⟨J, hT, _⟩ := h
  have c5 := hT.c5
  clear hT
  go_enter Try.func40, Try.ntmps40
  go_wp2
  go_ret
  exact ⟨rfl, rfl⟩
theorem tlen (h : Tab w T p Q most o l) : Calls Try.prog 16 #[.pointer (some ⟨T, 0, none⟩)] w fun e w' => e = .returned (.int .i64 (l.length : Int)) ∧ w' = w := by
  have H := hid h
  obtain ⟨J, hT, hok, _⟩ := h
  obtain ⟨H4, g, t, h4⟩ := hT.t 4 (by omega)
  have HT4 := hid h4
  have HLL : Hid ((J 4).length = l.length) := by show _ = _; rw [hok.lin, lines_len]
  clear hT hok h4
  go_enter Try.func16, Try.ntmps16
  go_wp2_with fail
  refine (tlines H.out).mono ?_
  rintro e w1 ⟨rfl, rfl⟩
  go_wp2_with fail
  refine (tree_len _ _ _ _ _ _ _ _ HT4.out).mono ?_
  rw [HLL.out]
  rintro e w2 ⟨rfl, rfl⟩
  go_wp2
  go_ret
  exact ⟨rfl, rfl⟩
theorem tmost (h : Tab w T p Q most o l) : Calls Try.prog 22 #[.pointer (some ⟨T, 0, none⟩)] w fun e w' => e = .returned (.int .i64 (most : Int)) ∧ w' = w := by
  obtain ⟨J, hT, hok, _⟩ := h
  have c0 := hT.c0
  clear hT hok
  go_enter Try.func22, Try.ntmps22
  go_wp2
  go_ret
  exact ⟨rfl, rfl⟩
end
theorem tlines_nil (w : World) : Calls Try.prog 40 #[.pointer none] w fun e w' => e = .returned (.pointer none) ∧ w' = w := by
  go_enter Try.func40, Try.ntmps40
  go_wp2
  go_ret
  exact ⟨rfl, rfl⟩
theorem tlen_nil (w : World) : Calls Try.prog 16 #[.pointer none] w fun e w' => e = .returned (.int .i64 0) ∧ w' = w := by
  go_enter Try.func16, Try.ntmps16
  go_wp2_with fail
  refine (tlines_nil _).mono ?_
  rintro e w1 ⟨rfl, rfl⟩
  go_wp2_with fail
  refine (nil_len _).mono ?_
  rintro e w2 ⟨rfl, rfl⟩
  go_wp2
  go_ret
  exact ⟨rfl, rfl⟩
theorem tmost_nil (w : World) : Calls Try.prog 22 #[.pointer none] w fun e w' => e = .returned (.int .i64 0) ∧ w' = w := by
  go_enter Try.func22, Try.ntmps22
  go_wp2
  go_ret
  exact ⟨rfl, rfl⟩

theorem TurnRel.tab {W w : World} {T : Nat} {p : Nat → Nat} {Q : Bl} {most o : Nat} {J : Nat → List Pr} {l : List KR} (h : TurnRel W w T p Q most o J) (hok : TOk l J) (hl : l.length ≤ most) (hm : most ≤ 1024) : Tab w T p (New Q W w) most o l := ⟨J, h.t, hok, hl, hm⟩
/-- Between a call's start and a turn within it nothing of the table turned. -/
theorem TurnRel.from_ {W a b : World} {T : Nat} {p : Nat → Nat} {Q : Bl} {most o : Nat} {J : Nat → List Pr} (h : TurnRel a b T p Q most o J) (hb : Below W.heap.size W a) (hW : ∀ i, i < 5 → p i < W.heap.size ∧ ¬ Q (p i)) (hu : Under Q W) : TurnRel W b T p Q most o J := by
  have h1 := hb.size
  have h2 := h.c.size
  refine ⟨h.t.more (fun k hk => ?_) (hu.new (Nat.le_trans h1 h2)) fun i hi => ?_, (Chg.of_below hb).trans h.c⟩
  · rcases hk with hk | hk
    · exact .inl hk
    · exact .inr ⟨by omega, hk.2⟩
  · rintro (hh | hh)
    · exact (hW i hi).2 hh
    · have := (hW i hi).1; omega

/-- The same, and the row that the call answers is stored last. -/
theorem TurnRel.close {W a b : World} {T : Nat} {p : Nat → Nat} {Q : Bl} {most o : Nat} {J J0 : Nat → List Pr} (h : TurnRel a b T p Q most o J) (hb : Below W.heap.size W a) (h0 : TabI W T p Q most o J0) {g : Nat} (hg : W.heap.size ≤ g) (hga : g < a.heap.size) (r : Ro) : TurnRel W (put4 b g r) T p Q most o J := by
  have h1 := hb.size
  have h2 := h.c.size
  have hT := h0.lt
  have hu := h0.under
  have hc : Chg [g] b (put4 b g r) [g] := (Chg.refl [g] b).put4 (by simp) r
  have hs := hc.size
  have ht := h.t.chg hc (by simp; omega) (fun i hi => by have := h0.plt hi; simp; omega) (fun k hk => by
    simp at hk; subst hk
    rintro (hh | hh)
    · have := hu _ hh; omega
    · omega)
  refine ⟨ht.more (fun k hk => ?_) (hu.new (by omega)) fun i hi => ?_, ?_⟩
  · rcases hk with hk | hk
    · exact .inl hk
    · exact .inr ⟨by omega, by omega⟩
  · rintro (hh | hh)
    · exact h0.out hi hh
    · have := h0.plt hi; omega
  · have h3 : Chg (five p) W b (five p) := (Chg.of_below hb).trans h.c
    exact ((h3.less (K := g :: five p) fun k hk => (List.mem_cons.1 hk).elim (fun e => .inr (by omega)) .inl).put4 List.mem_cons_self r).less fun k hk => .inl (List.mem_cons_of_mem _ hk)
/-- What Put leaves. -/
def PutEnd (w : World) (T : Nat) (p : Nat → Nat) (Q : Bl) (most o : Nat) (l : List KR) (r : Ro) (was : Bool) (c : Int) (e : Ending) (w' : World) : Prop :=
  e = .returned (.tuple #[rowv r, .bool was, .int .i64 c]) ∧ Tab w' T p (New Q w w') most o l ∧ Chg (five p) w w' (five p)
theorem Tab.still {w w' : World} {T : Nat} {p : Nat → Nat} {Q : Bl} {most o : Nat} {l : List KR} (h : Tab w T p Q most o l) (hb : Below w.heap.size w w') : Tab w' T p (New Q w w') most o l ∧ Chg (five p) w w' (five p) := by
  obtain ⟨J, h1, h2, h3, h4⟩ := h
  have h5 := (TurnRel.start h1).below hb
  exact ⟨⟨J, h5.t, h2, h3, h4⟩, h5.c⟩
/-- The two blocks that Put makes: the row, and what it answers. -/
theorem put_start (w : World) (r : Ro) : Lies ((w.alloc (.cells #[.int .i64 r.a, .int .i64 r.b, .int .i64 r.c, .int .i64 r.d] 33)).alloc (.cells #[.int .i64 0, .int .i64 0, .int .i64 0, .int .i64 0] 33)) w.heap.size r ∧
    Lies ((w.alloc (.cells #[.int .i64 r.a, .int .i64 r.b, .int .i64 r.c, .int .i64 r.d] 33)).alloc (.cells #[.int .i64 0, .int .i64 0, .int .i64 0, .int .i64 0] 33)) (w.heap.size + 1) zero4 ∧
    Below w.heap.size w ((w.alloc (.cells #[.int .i64 r.a, .int .i64 r.b, .int .i64 r.c, .int .i64 r.d] 33)).alloc (.cells #[.int .i64 0, .int .i64 0, .int .i64 0, .int .i64 0] 33)) := by
  refine ⟨(Lies.new w r).below ((Below.refl _ _).alloc (Nat.le_refl _) _), ?_, ((Below.refl _ _).alloc (Nat.le_refl _) _).alloc (by simp) _⟩
  have := Lies.new (w.alloc (.cells (rowc r) 33)) zero4
  rwa [show (w.alloc (.cells (rowc r) 33)).heap.size = w.heap.size + 1 by simp] at this
theorem put4_far_lies {w : World} {g h : Nat} {r s : Ro} (hl : Lies w h s) (hne : h ≠ g) : Lies (put4 w g r) h s := hl.keep (put4_far hne)
theorem put4_chg {F : List Nat} (w : World) (g : Nat) (r : Ro) (hg : g ∈ F) : Chg F w (put4 w g r) F := (Chg.refl F w).put4 hg r
theorem tget_raw_nil (w : World) (s : ByteArray) : Calls Try.prog 17 #[.pointer none, .string s] w fun e w' => e = .returned (.tuple #[rowv zero4, .int .i64 2]) ∧ Below w.heap.size w w' := tget_nil w s
set_option maxHeartbeats 1000000 in
theorem tput_nil (w : World) (s : ByteArray) (r : Ro) : Calls Try.prog 24 #[.pointer none, .string s, rowv r] w fun e w' => e = .returned (.tuple #[rowv zero4, .bool false, .int .i64 2]) ∧ Below w.heap.size w w' := by
  have HS0 := hid (put_start w r)
  unfold rowv rowc
  go_enter Try.func24, Try.ntmps24
  go_wp2_with fail
  refine (tget_raw_nil _ s).mono ?_
  rintro e w1 ⟨rfl, hb1⟩
  have HA1 := hid (HS0.out.1.below hb1)
  have HZ1 := hid (HS0.out.2.1.below hb1)
  have HB1 := hid (below_step HS0.out.2.2 hb1)
  obtain ⟨⟨⟨z0, z1, z2, z3⟩, f0, f1, f2, f3⟩, HPP, HBB⟩ := stored HZ1.out HB1.out (Nat.le_succ _) zero4
  have HLP := hid (HZ1.out.put zero4)
  have HAP := hid (put4_far_lies (r := zero4) HA1.out (by omega : w.heap.size ≠ w.heap.size + 1))
  have HPP := hid HPP
  have HBB := hid HBB
  dsimp only [zero4] at z0 z1 z2 z3
  clear hb1
  dsimp only [rowv, rowc, zero4]
  obtain ⟨⟨⟨z0, z1, z2, z3⟩, f0, f1, f2, f3⟩, HPQ, HBC⟩ := stored HLP.out HBB.out (Nat.le_succ _) zero4
  have HPQ := hid HPQ
  have HBC := hid HBC
  try dsimp only [zero4] at z0 z1 z2 z3
  go_wp2
  obtain ⟨p0, p1, p2, p3⟩ := HPQ.out
  try dsimp only [zero4] at p0 p1 p2 p3
  exact bodyPost_ret (v := .tuple #[rowv zero4, .bool false, .int .i64 2]) (by simp [results, Try.results24, go_sem, p0, p1, p2, p3, rowv, rowc, zero4]) rfl (by first | exact ⟨rfl, HBC.out⟩ | exact ⟨rfl, HBB.out⟩ | exact ⟨rfl, HB1.out⟩)
theorem tget_raw_bad (w : World) (T : Nat) (k : List Nat) (hk : keyB k = false) : Calls Try.prog 17 #[.pointer (some ⟨T, 0, none⟩), .string (str k)] w fun e w' => e = .returned (.tuple #[rowv zero4, .int .i64 13]) ∧ Below w.heap.size w w' := tget_bad T k hk
set_option maxHeartbeats 1000000 in
theorem tput_bad (w : World) (T : Nat) (k : List Nat) (hk : keyB k = false) (r : Ro) : Calls Try.prog 24 #[.pointer (some ⟨T, 0, none⟩), .string (str k), rowv r] w fun e w' => e = .returned (.tuple #[rowv zero4, .bool false, .int .i64 13]) ∧ Below w.heap.size w w' := by
  have HS0 := hid (put_start w r)
  unfold rowv rowc
  go_enter Try.func24, Try.ntmps24
  go_wp2_with fail
  refine (tget_raw_bad _ T k hk).mono ?_
  rintro e w1 ⟨rfl, hb1⟩
  have HA1 := hid (HS0.out.1.below hb1)
  have HZ1 := hid (HS0.out.2.1.below hb1)
  have HB1 := hid (below_step HS0.out.2.2 hb1)
  obtain ⟨⟨⟨z0, z1, z2, z3⟩, f0, f1, f2, f3⟩, HPP, HBB⟩ := stored HZ1.out HB1.out (Nat.le_succ _) zero4
  have HLP := hid (HZ1.out.put zero4)
  have HAP := hid (put4_far_lies (r := zero4) HA1.out (by omega : w.heap.size ≠ w.heap.size + 1))
  have HPP := hid HPP
  have HBB := hid HBB
  dsimp only [zero4] at z0 z1 z2 z3
  clear hb1
  dsimp only [rowv, rowc, zero4]
  obtain ⟨⟨⟨z0, z1, z2, z3⟩, f0, f1, f2, f3⟩, HPQ, HBC⟩ := stored HLP.out HBB.out (Nat.le_succ _) zero4
  have HPQ := hid HPQ
  have HBC := hid HBC
  try dsimp only [zero4] at z0 z1 z2 z3
  go_wp2
  obtain ⟨p0, p1, p2, p3⟩ := HPQ.out
  try dsimp only [zero4] at p0 p1 p2 p3
  exact bodyPost_ret (v := .tuple #[rowv zero4, .bool false, .int .i64 13]) (by simp [results, Try.results24, go_sem, p0, p1, p2, p3, rowv, rowc, zero4]) rfl (by first | exact ⟨rfl, HBC.out⟩ | exact ⟨rfl, HBB.out⟩ | exact ⟨rfl, HB1.out⟩)
section
variable {w : World} {T : Nat} {p : Nat → Nat} {Q : Bl} {most o : Nat} {l : List KR}
set_option maxHeartbeats 1000000 in
theorem tput_was (h : Tab w T p Q most o l) (k : List Nat) (hb : Byt k) (hk : keyB k = true) {s : Ro} (hg : getK l k = some s) (r : Ro) (hr : r.ok) :
    Calls Try.prog 24 #[.pointer (some ⟨T, 0, none⟩), .string (str k), rowv r] w (PutEnd w T p Q most o (putK l k r) s true 0) := by
  have hle := h.le
  have hmo := h.most_le
  have hfu := h.full
  have HT := hid h
  have HSP := hid str_nil
  have HS0 := hid (put_start w r)
  obtain ⟨J, hT, hok, _⟩ := h
  have hlp : (putK l k r).length = l.length := by
    have h1 := (putK_was hg r).length_eq
    have h2 := delK_len hg
    simp at h1; omega
  have hso : s.ok := hok.rows.ok _ (getK_mem hg)
  have HTI := hid hT
  have HOK := hid (hok.was hg hb hk hr)
  have HJL : Hid (∀ i, i < 5 → (J i).length ≤ 2000) := fun i hi => by rw [hok.len hi]; omega
  clear hok hT
  unfold rowv rowc
  go_enter Try.func24, Try.ntmps24
  go_wp2_with fail
  refine (tget_some (HT.out.below HS0.out.2.2) k hb hk hg).mono ?_
  rintro e w1 ⟨rfl, hb1⟩
  have HA1 := hid (HS0.out.1.below hb1)
  have HZ1 := hid (HS0.out.2.1.below hb1)
  have HB1 := hid (below_step HS0.out.2.2 hb1)
  obtain ⟨⟨⟨z0, z1, z2, z3⟩, f0, f1, f2, f3⟩, HPP, HBB⟩ := stored HZ1.out HB1.out (Nat.le_succ _) s
  have HLP := hid (HZ1.out.put s)
  have HAP := hid (put4_far_lies (r := s) HA1.out (by omega : w.heap.size ≠ w.heap.size + 1))
  have HPP := hid HPP
  have HBB := hid HBB
  dsimp only [zero4] at z0 z1 z2 z3
  clear hb1
  dsimp only [rowv, rowc, zero4]
  go_wp2_with fail
  refine (turn_some _ T p Q most o J k (.pointer (some ⟨w.heap.size + 1, 0, none⟩)) (some s) (.pointer (some ⟨w.heap.size, 0, none⟩)) r (HTI.out.below HBB.out) hb hk HJL.out ⟨_, rfl, HLP.out⟩ (fun x e => by cases e; exact hso) ⟨_, rfl, HAP.out⟩ hr).mono ?_
  rintro e w2 ⟨⟨v, rfl⟩, hr2⟩
  have HR2 := hid (hr2.close HBB.out HTI.out (Nat.le_succ _) HLP.out.lt s)
  have HL2 := hid (HLP.out.keep (hr2.c.block _ HLP.out.lt ((HTI.out.below HBB.out).rows HLP.out)))
  clear hr2 z0 z1 z2 z3 f0 f1 f2 f3
  obtain ⟨⟨z0, z1, z2, z3⟩, f0, f1, f2, f3⟩ := HL2.out.cells
  go_wp2
  obtain ⟨p0, p1, p2, p3⟩ := (HL2.out.put s).four
  exact bodyPost_ret (v := .tuple #[rowv s, .bool true, .int .i64 0]) (by simp [results, Try.results24, go_sem, p0, p1, p2, p3, rowv, rowc]) rfl ⟨rfl, HR2.out.tab HOK.out (by omega) hmo, HR2.out.c⟩
set_option maxHeartbeats 1000000 in
theorem tput_full (h : Tab w T p Q most o l) (k : List Nat) (hb : Byt k) (hk : keyB k = true) (hg : getK l k = none) (hf : most ≤ l.length) (r : Ro) :
    Calls Try.prog 24 #[.pointer (some ⟨T, 0, none⟩), .string (str k), rowv r] w fun e w' => e = .returned (.tuple #[rowv zero4, .bool false, .int .i64 16]) ∧ Below w.heap.size w w' := by
  have hle := h.le
  have hmo := h.most_le
  have hfu := h.full
  have HT := hid h
  have HSP := hid str_nil
  have HS0 := hid (put_start w r)
  have hfi : (most : Int) ≤ (l.length : Int) := by omega
  unfold rowv rowc
  go_enter Try.func24, Try.ntmps24
  go_wp2_with fail
  refine (tget_none (HT.out.below HS0.out.2.2) k hb hk hg).mono ?_
  rintro e w1 ⟨rfl, hb1⟩
  have HA1 := hid (HS0.out.1.below hb1)
  have HZ1 := hid (HS0.out.2.1.below hb1)
  have HB1 := hid (below_step HS0.out.2.2 hb1)
  obtain ⟨⟨⟨z0, z1, z2, z3⟩, f0, f1, f2, f3⟩, HPP, HBB⟩ := stored HZ1.out HB1.out (Nat.le_succ _) zero4
  have HLP := hid (HZ1.out.put zero4)
  have HAP := hid (put4_far_lies (r := zero4) HA1.out (by omega : w.heap.size ≠ w.heap.size + 1))
  have HPP := hid HPP
  have HBB := hid HBB
  dsimp only [zero4] at z0 z1 z2 z3
  clear hb1
  dsimp only [rowv, rowc, zero4]
  have HTP := hid (HT.out.below HB1.out)
  have c0 := (let ⟨_, h, _⟩ := HTP.out; h.c0)
  have HTD := hid (HTP.out.below (below_drew' _))
  have hsame := put4_same HZ1.out
  have HSA := hid hsame
  dsimp only [put4, zero4] at hsame
  go_wp2_with fail
  go_region_held3 (fun W => W.cell? ⟨T, 0, none⟩ = some (.int .i64 (most : Int))) (first | exact c0)
    (first | (go_at_call 16; ((with_reducible refine (tlen HTD.out).mono ?_); rintro e w5 ⟨rfl, rfl⟩)))
  have HB5 : Hid (Below w.heap.size w w1.drew) := HB1.out.drew
  obtain ⟨-, HPQ, HBC⟩ := stored (a := w1.drew) HZ1.out HB5.out (Nat.le_succ _) zero4
  have HPQ := hid HPQ
  have HBC := hid HBC
  go_wp2
  obtain ⟨p0, p1, p2, p3⟩ := HPQ.out
  try dsimp only [zero4] at p0 p1 p2 p3
  exact bodyPost_ret (v := .tuple #[rowv zero4, .bool false, .int .i64 16]) (by simp [results, Try.results24, go_sem, z0, z1, z2, z3, rowv, rowc, zero4]) rfl (by first | exact ⟨rfl, HBC.out⟩ | exact ⟨rfl, HB5.out⟩)
set_option maxHeartbeats 1000000 in
theorem tput_new (h : Tab w T p Q most o l) (k : List Nat) (hb : Byt k) (hk : keyB k = true) (hg : getK l k = none) (hf : l.length < most) (r : Ro) (hr : r.ok) :
    Calls Try.prog 24 #[.pointer (some ⟨T, 0, none⟩), .string (str k), rowv r] w (PutEnd w T p Q most o (putK l k r) zero4 false 0) := by
  have hle := h.le
  have hmo := h.most_le
  have hfu := h.full
  have HT := hid h
  have HSP := hid str_nil
  have HS0 := hid (put_start w r)
  have hfi : ¬ (most : Int) ≤ (l.length : Int) := by omega
  obtain ⟨J, hT, hok, _⟩ := h
  have hlp : (putK l k r).length = l.length + 1 := by
    have h1 := (putK_new hg r).length_eq
    simpa using h1
  have HTI := hid hT
  have HOK := hid (hok.new hg hb hk hr)
  have HJL : Hid (∀ i, i < 5 → (J i).length ≤ 2000) := fun i hi => by rw [hok.len hi]; omega
  clear hok hT
  unfold rowv rowc
  go_enter Try.func24, Try.ntmps24
  go_wp2_with fail
  refine (tget_none (HT.out.below HS0.out.2.2) k hb hk hg).mono ?_
  rintro e w1 ⟨rfl, hb1⟩
  have HA1 := hid (HS0.out.1.below hb1)
  have HZ1 := hid (HS0.out.2.1.below hb1)
  have HB1 := hid (below_step HS0.out.2.2 hb1)
  obtain ⟨⟨⟨z0, z1, z2, z3⟩, f0, f1, f2, f3⟩, HPP, HBB⟩ := stored HZ1.out HB1.out (Nat.le_succ _) zero4
  have HLP := hid (HZ1.out.put zero4)
  have HAP := hid (put4_far_lies (r := zero4) HA1.out (by omega : w.heap.size ≠ w.heap.size + 1))
  have HPP := hid HPP
  have HBB := hid HBB
  dsimp only [zero4] at z0 z1 z2 z3
  clear hb1
  dsimp only [rowv, rowc, zero4]
  have HTP := hid (HT.out.below HB1.out)
  have c0 := (let ⟨_, h, _⟩ := HTP.out; h.c0)
  have HTD := hid (HTP.out.below (below_drew' _))
  have hsame := put4_same HZ1.out
  have HSA := hid hsame
  dsimp only [put4, zero4] at hsame
  go_wp2_with fail
  go_region_held3 (fun W => W.cell? ⟨T, 0, none⟩ = some (.int .i64 (most : Int))) (first | exact c0)
    (first | (go_at_call 16; ((with_reducible refine (tlen HTD.out).mono ?_); rintro e w5 ⟨rfl, rfl⟩)))
  have HB5 : Hid (Below w.heap.size w w1.drew) := HB1.out.drew
  have HA5 : Hid (Lies w1.drew w.heap.size r) := HA1.out
  have HL5 : Hid (Lies w1.drew (w.heap.size + 1) zero4) := HZ1.out
  go_wp2_with fail
  refine (turn_some _ T p Q most o J k (.pointer none) none (.pointer (some ⟨w.heap.size, 0, none⟩)) r (HTI.out.below HB5.out) hb hk HJL.out rfl (fun x e => by cases e) ⟨_, rfl, HA5.out⟩ hr).mono ?_
  rintro e w2 ⟨⟨v, rfl⟩, hr2⟩
  have HR2 := hid (hr2.close HB5.out HTI.out (Nat.le_succ _) HL5.out.lt zero4)
  have HR3 := hid (hr2.from_ HB5.out (fun i hi => ⟨HTI.out.plt hi, HTI.out.out hi⟩) HTI.out.under)
  have HL2 := hid (HL5.out.keep (hr2.c.block _ HL5.out.lt ((HTI.out.below HB5.out).rows HL5.out)))
  clear hr2 z0 z1 z2 z3 f0 f1 f2 f3 c0
  obtain ⟨⟨z0, z1, z2, z3⟩, f0, f1, f2, f3⟩ := HL2.out.cells
  dsimp only [zero4] at z0 z1 z2 z3
  go_wp2
  obtain ⟨p0, p1, p2, p3⟩ := (HL2.out.put zero4).four
  dsimp only [zero4] at p0 p1 p2 p3
  exact bodyPost_ret (v := .tuple #[rowv zero4, .bool false, .int .i64 0]) (by simp [results, Try.results24, go_sem, p0, p1, p2, p3, rowv, rowc, zero4]) rfl (by first | exact ⟨rfl, HR2.out.tab HOK.out (by omega) hmo, HR2.out.c⟩ | exact ⟨rfl, HR3.out.tab HOK.out (by omega) hmo, HR3.out.c⟩)
theorem tput (h : Tab w T p Q most o l) (k : List Nat) (hb : Byt k) (r : Ro) (hr : r.ok) :
    Calls Try.prog 24 #[.pointer (some ⟨T, 0, none⟩), .string (str k), rowv r] w (PutEnd w T p Q most o (kputN most l k r) (kgetR l k) (kputW l k) (kputE most l k)) := by
  unfold kputN kgetR kputW kputE
  cases hk : keyB k with
  | false =>
    refine (tput_bad w T k hk r).mono ?_
    rintro e w' ⟨rfl, hb'⟩
    exact ⟨rfl, h.still hb'⟩
  | true =>
    cases hg : getK l k with
    | some s => exact tput_was h k hb hk hg r hr
    | none =>
      by_cases hf : most ≤ l.length
      · refine (tput_full h k hb hk hg hf r).mono ?_
        rintro e w' ⟨rfl, hb'⟩
        simp only [if_true, Option.isSome_none, Bool.false_eq_true, if_false, if_pos hf]
        exact ⟨rfl, h.still hb'⟩
      · simp only [if_true, Option.isSome_none, Bool.false_eq_true, if_false, if_neg hf]
        exact tput_new h k hb hk hg (by omega) r hr
end
end Go.Proofs.Ytlnagdodnkhbmaa
