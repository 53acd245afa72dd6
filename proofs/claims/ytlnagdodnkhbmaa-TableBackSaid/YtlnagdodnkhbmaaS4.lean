/- Decode. -/
import Derived.Test.YtlnagdodnkhbmaaS3
namespace Go.Proofs.Ytlnagdodnkhbmaa
open Go.RowKit

theorem zig_all {N : Nat} (h : N < 18446744073709551616) : ∃ x, I64 x ∧ zig x = N := by
  by_cases h1 : N % 2 = 1
  · refine ⟨-1 - ((N / 2 : Nat) : Int), ⟨by omega, by omega⟩, ?_⟩
    rw [zig_neg (by omega)]; omega
  · refine ⟨((N / 2 : Nat) : Int), ⟨by omega, by omega⟩, ?_⟩
    rw [zig_pos (by omega)]; omega
/-- Bytes begin with so many numbers, or with fewer, and then with none. -/
theorem enc_dec : ∀ (n : Nat) (xs : List Nat), (∃ l rest, l.length = n ∧ (∀ x ∈ l, I64 x) ∧ xs = enc l ++ rest) ∨ (∃ l rest, l.length < n ∧ (∀ x ∈ l, I64 x) ∧ xs = enc l ++ rest ∧ NoGr rest)
  | 0, xs => .inl ⟨[], xs, rfl, by simp, rfl⟩
  | n + 1, xs => by
    rcases gr_dec xs with ⟨N, ys, hN, rfl⟩ | h
    · obtain ⟨x, hx, rfl⟩ := zig_all hN
      rcases enc_dec n ys with ⟨l, rest, h1, h2, rfl⟩ | ⟨l, rest, h1, h2, rfl, h3⟩
      · refine .inl ⟨x :: l, rest, by simp [h1], ?_, ?_⟩
        · intro y hy
          rcases List.mem_cons.1 hy with rfl | hy
          · exact hx
          · exact h2 y hy
        · unfold enc; rw [List.flatMap_cons, List.append_assoc]
      · refine .inr ⟨x :: l, rest, by simp; omega, ?_, ?_, h3⟩
        · intro y hy
          rcases List.mem_cons.1 hy with rfl | hy
          · exact hx
          · exact h2 y hy
        · unfold enc; rw [List.flatMap_cons, List.append_assoc]
    · exact .inr ⟨[], xs, by simp, by simp, rfl, h⟩

/-- What Decode, and the reference's, answer: a value, and a number. -/
def Told (w : World) (v u : Value) (e : Ending) (w' : World) : Prop := e = .returned (.tuple #[v, u]) ∧ Below w.heap.size w w'

def zero4 : Ro := ⟨0, 0, 0, 0⟩
theorem chg_below {w a b : World} {g : Nat} {G : List Nat} (h1 : Below w.heap.size w a) (h2 : Chg [g] a b G) (hg : w.heap.size ≤ g) : Below w.heap.size w b :=
  h1.trans (h2.below (fun k hk => by rw [List.mem_singleton.1 hk]; exact hg) h1.size)

theorem below_put4 {w a : World} {B g : Nat} (h : Below B w a) (hg : B ≤ g) (r : Ro) : Below B w (put4 a g r) :=
  (((h.setCell (p := ⟨g, 0, none⟩) hg _).setCell (p := ⟨g, 1, none⟩) hg _).setCell (p := ⟨g, 2, none⟩) hg _).setCell (p := ⟨g, 3, none⟩) hg _

set_option maxRecDepth 100000 in
theorem rdecode (w : World) (v : Value) (l : List Int) (rest : List Nat) (r : Ro) (c : Int) (hs : Sl .u8 w v (enc l ++ rest)) (hb : Byt rest) (hl : ∀ x ∈ l, I64 x)
    (hm : l.length = 4 ∧ rest = [] ∧ r.l = l ∧ c = 0 ∨ l.length = 4 ∧ rest ≠ [] ∧ r = zero4 ∧ c = 11 ∨ l.length < 4 ∧ NoGr rest ∧ r = zero4 ∧ c = 11) (hn : rest.length ≤ 1000000) :
    Calls Try.prog 43 #[v] w (Told w (rowv r) (.int .i64 c)) := by
  have hmf := fhmf
  have HS := hid hs
  have HM := hid hm
  have HL := hid hl
  have HB := hid hb
  have HN := hid hn
  obtain ⟨A, n, cp, rfl⟩ : ∃ A n cp, v = .slice A n cp := by obtain ⟨A, cp, h, _⟩ := hs; exact ⟨A, _, cp, h⟩
  clear hs hm hl hb hn
  go_enter Try.func43, Try.ntmps43
  go_wp2_with fail
  refine (rdnew_any _ _ _ (HS.out.alloc _)).mono ?_
  rintro e w1 ⟨rfl, hw1⟩
  have HW1 := hid hw1
  have hR : Hid (Rd w1 (w.heap.size + 1) (enc l ++ rest)) := by
    show Rd _ _ _
    rw [hw1]
    have := rd_new (w.alloc (.cells (rowc zero4) 33)) (enc l ++ rest)
    rw [show (w.alloc (.cells (rowc zero4) 33)).heap.size = w.heap.size + 1 by simp] at this
    exact this
  have hZ : Hid (Lies w1 w.heap.size zero4) := by
    show Lies _ _ _
    rw [hw1]
    exact (Lies.new w zero4).below ((Below.refl _ _).alloc (Nat.le_refl _) _)
  have hB : Hid (Below w.heap.size w w1) := by
    show Below _ _ _
    rw [hw1]
    exact ((Below.refl _ _).alloc (Nat.le_refl _) _).alloc (by simp) _
  clear hw1
  obtain ⟨r1, c1, H1⟩ : ∃ (r1 : Ro) (c1 : Int), Hid (l.length = 4 ∧ r1.l = l ∧ c1 = 0 ∨ l.length < 4 ∧ NoGr rest ∧ r1 = ⟨0, 0, 0, 0⟩ ∧ c1 = 11) := by
    rcases HM.out with ⟨h, _, h2, _⟩ | ⟨h, _⟩ | ⟨h, h1, _⟩
    · exact ⟨r, 0, .inl ⟨h, h2, rfl⟩⟩
    · obtain ⟨r1, h1⟩ := Ro.of h
      exact ⟨r1, 0, .inl ⟨h, h1, rfl⟩⟩
    · exact ⟨⟨0, 0, 0, 0⟩, 11, .inr ⟨h, h1, rfl, rfl⟩⟩
  go_wp2_with fail
  refine (rread w1 (w.heap.size + 1) l rest c1 r1 hR.out HB.out HL.out H1.out HN.out).mono ?_
  rintro e w2 ⟨rfl, hr2, G, hc2⟩
  have HB2 : Hid (Below w.heap.size w w2) := chg_below hB.out hc2 (by omega)
  have HZ2 : Hid (Lies w2 w.heap.size zero4) := hZ.out.keep (hc2.block _ hZ.out.lt (by simp))
  have HR2 := hid hr2
  clear hr2 hc2
  have HZ3 : Hid (Lies (w2.alloc (.cells (rowc r1) 33)) w.heap.size zero4) := HZ2.out.below ((Below.refl _ _).alloc (Nat.le_refl _) _)
  have HB3 : Hid (Below w.heap.size w (w2.alloc (.cells (rowc r1) 33))) := HB2.out.alloc HB2.out.size _
  have HR3 : Hid (Rd (w2.alloc (.cells (rowc r1) 33)) (w.heap.size + 1) rest) := One.alloc HR2.out _
  have HN3 : Hid (Lies (w2.alloc (.cells (rowc r1) 33)) w2.heap.size r1) := Lies.new _ _
  obtain ⟨⟨z0, z1, z2, z3⟩, f0, f1, f2, f3⟩ := HZ3.out.cells
  dsimp only [rowc, zero4] at z0 z1 z2 z3 f0 f1 f2 f3
  unfold rowv rowc
  rcases H1.out with ⟨h4, hr1, hc1⟩ | ⟨h4, hng, hr1, hc1⟩
  · subst hc1
    have HH := hid (And.intro h4 hr1)
    clear h4 hr1 z0 z1 z2 z3 f0 f1 f2 f3
    go_wp2_with fail
    refine (rleft _ _ _ HR3.out).mono ?_
    rintro e w4 ⟨rfl, hw4⟩
    obtain rfl : w4 = w2.alloc (.cells #[.int .i64 r1.a, .int .i64 r1.b, .int .i64 r1.c, .int .i64 r1.d] 33) := hw4.symm
    clear hw4
    obtain ⟨⟨z0, z1, z2, z3⟩, f0, f1, f2, f3⟩ := HZ3.out.cells
    dsimp only [rowc, zero4] at z0 z1 z2 z3 f0 f1 f2 f3
    cases rest with
    | nil =>
      obtain ⟨⟨c0, c1, c2, c3⟩, _⟩ := HN3.out.cells
      dsimp only [rowc] at c0 c1 c2 c3
      have hfin : r = r1 ∧ c = 0 := by
        rcases HM.out with ⟨_, _, h2, h3⟩ | ⟨_, h, _⟩ | ⟨h, _⟩
        · exact ⟨Ro.ext_ (h2.trans HH.out.2.symm), h3⟩
        · exact absurd rfl h
        · have := HH.out.1; omega
      obtain ⟨rfl, rfl⟩ := hfin
      have HPP := hid (HZ3.out.put r).cells.1
      have HBB : Hid (Below w.heap.size w (put4 (w2.alloc (.cells (rowc r) 33)) w.heap.size r)) := below_put4 HB3.out (Nat.le_refl _) r
      go_wp2
      obtain ⟨p0, p1, p2, p3⟩ := HPP.out
      dsimp only [rowc, zero4] at p0 p1 p2 p3
      exact bodyPost_ret (v := .tuple #[rowv r, .int .i64 0]) (by simp [results, Try.results43, go_sem, p0, p1, p2, p3, rowv, rowc]) rfl ⟨rfl, HBB.out⟩
    | cons y ys =>
      have hfin : r = zero4 ∧ c = 11 := by
        rcases HM.out with ⟨_, h, _⟩ | ⟨_, _, h2, h3⟩ | ⟨h, _⟩
        · cases h
        · exact ⟨h2, h3⟩
        · have := HH.out.1; omega
      obtain ⟨rfl, rfl⟩ := hfin
      have HPP := hid (HZ3.out.put zero4).cells.1
      have HBB : Hid (Below w.heap.size w (put4 (w2.alloc (.cells (rowc r1) 33)) w.heap.size zero4)) := below_put4 HB3.out (Nat.le_refl _) zero4
      have hpos : (0 : Int) < ((y :: ys).length : Nat) := by simp only [List.length_cons]; omega
      go_wp2
      obtain ⟨p0, p1, p2, p3⟩ := HPP.out
      dsimp only [rowc, zero4] at p0 p1 p2 p3
      exact bodyPost_ret (v := .tuple #[rowv zero4, .int .i64 11]) (by simp [results, Try.results43, go_sem, p0, p1, p2, p3, rowv, rowc, zero4]) rfl ⟨rfl, HBB.out⟩
  · subst hc1
    subst hr1
    have hfin : r = zero4 ∧ c = 11 := by
      rcases HM.out with ⟨h, _⟩ | ⟨h, _⟩ | ⟨_, _, h2, h3⟩
      · omega
      · omega
      · exact ⟨h2, h3⟩
    obtain ⟨rfl, rfl⟩ := hfin
    have HPP := hid (HZ3.out.put zero4).cells.1
    have HBB : Hid (Below w.heap.size w (put4 (w2.alloc (.cells (rowc zero4) 33)) w.heap.size zero4)) := below_put4 HB3.out (Nat.le_refl _) zero4
    clear h4 hng
    go_wp2
    obtain ⟨p0, p1, p2, p3⟩ := HPP.out
    dsimp only [rowc, zero4] at p0 p1 p2 p3
    exact bodyPost_ret (v := .tuple #[rowv zero4, .int .i64 11]) (by simp [results, Try.results43, go_sem, p0, p1, p2, p3, rowv, rowc, zero4]) rfl ⟨rfl, HBB.out⟩
end Go.Proofs.Ytlnagdodnkhbmaa

