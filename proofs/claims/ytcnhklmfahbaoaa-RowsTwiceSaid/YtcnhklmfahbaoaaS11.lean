/- RowsEncode, RowsDecode, RowsBack. -/
import Derived.Test.YtcnhklmfahbaoaaS10
namespace Go.Proofs.Ytcnhklmfahbaoaa
open Go.RowKit

theorem rencode_raw (w : World) (r : Ro) (hr : r.ok) : Calls Try.prog 10 #[.agg #[.int .i64 r.a, .int .i64 r.b, .int .i64 r.c, .int .i64 r.d]] w (Fresh w (enc r.l)) := rencode w r hr
theorem refencode_raw (w : World) (r : Ro) (hr : r.ok) : Calls Try.prog 11 #[.agg #[.int .i64 r.a, .int .i64 r.b, .int .i64 r.c, .int .i64 r.d]] w (Fresh w (enc r.l)) := refencode w r hr

set_option maxHeartbeats 1000000 in
set_option maxRecDepth 100000 in
theorem rowsencode_any (w : World) (r : Ro) (hr : r.ok) : Calls Try.prog 3 #[rowv r] w (Yes w) := by
  have HR := hid hr
  have HL0 := hid (Lies.new w r)
  have HLD : Hid (Lies (w.alloc (.cells (rowc r) 23)).drew w.heap.size r) := HL0.out
  have HB0 : Hid (Below w.heap.size w (w.alloc (.cells (rowc r) 23))) := (Below.refl _ _).alloc (Nat.le_refl _) _
  obtain ⟨p0, p1, p2, p3⟩ := HL0.out.cells.1
  dsimp only [rowc] at p0 p1 p2 p3
  have HE : Hid (eqB (enc r.l) (enc r.l) = true) := by show _ = _; unfold eqB; simp
  unfold rowv rowc
  go_enter Try.func3, Try.ntmps3
  go_wp2_with fail
  go_region_held3 (fun W => W.cell? ⟨w.heap.size, 0, none⟩ = some (.int .i64 r.a) ∧ W.cell? ⟨w.heap.size, 1, none⟩ = some (.int .i64 r.b) ∧ W.cell? ⟨w.heap.size, 2, none⟩ = some (.int .i64 r.c) ∧ W.cell? ⟨w.heap.size, 3, none⟩ = some (.int .i64 r.d))
    (first | exact ⟨p0, p1, p2, p3⟩ | exact HP1.out | exact HP2.out | exact HP3.out | exact HP4.out)
    (first
      | (go_at_call 10; ((with_reducible refine (rencode_raw _ r HR.out).mono ?_); rintro e w1 ⟨u, rfl, hu, hb⟩; have HU := hid hu.sl; have HB1 := hid hb.nil_below; have HL1 := hid (HLD.out.below HB1.out); have HP1 := hid HL1.out.cells.1; clear hu hb))
      | (go_at_call 11; ((with_reducible refine (refencode_raw _ r HR.out).mono ?_); rintro e w2 ⟨u', rfl, hu, hb⟩; have HU' := hid hu.sl; have HB2 := hid hb.nil_below; have HL2 := hid (HL1.out.below HB2.out); have HP2 := hid HL2.out.cells.1; clear hu hb))
      | (go_at_call 9; ((with_reducible refine (bytes_any _ _ _ _ _ (HU.out.below HB2.out) HU'.out).mono ?_); rw [HE.out]; rintro e w3 ⟨rfl, hb⟩; have HB3 := hid hb; have HL3 := hid (HL2.out.below hb); have HP3 := hid HL3.out.cells.1; clear hb))
      | (go_at_call 12; ((with_reducible refine (awake6 _).mono ?_); rintro e w4 ⟨rfl, hb⟩; have HB4 := hid hb; have HL4 := hid (HL3.out.below hb); have HP4 := hid HL4.out.cells.1; clear hb)))
  go_wp2
  go_ret
  exact ⟨rfl, below_step (below_step (below_step (below_step HB0.out.drew HB1.out) HB2.out) HB3.out) HB4.out⟩

/-- Bytes are a row's, or none's. -/
theorem dec_cases (b : List Nat) (hb : Byt b) : ∃ (l : List Int) (rest : List Nat) (r : Ro), b = enc l ++ rest ∧ Byt rest ∧ (∀ x ∈ l, I64 x) ∧
    (l.length = 4 ∧ rest = [] ∧ r.l = l ∨ l.length = 4 ∧ rest ≠ [] ∧ r = zero4 ∨ l.length < 4 ∧ NoGr rest ∧ r = zero4) := by
  rcases enc_dec 4 b with ⟨l, rest, h1, h2, rfl⟩ | ⟨l, rest, h1, h2, rfl, h3⟩
  · by_cases h : rest = []
    · obtain ⟨r, hr⟩ := Ro.of h1
      exact ⟨l, rest, r, rfl, hb.right, h2, .inl ⟨h1, h, hr⟩⟩
    · exact ⟨l, rest, zero4, rfl, hb.right, h2, .inr (.inl ⟨h1, h, rfl⟩)⟩
  · exact ⟨l, rest, zero4, rfl, hb.right, h2, .inr (.inr ⟨h1, h3, rfl⟩)⟩

set_option maxHeartbeats 1000000 in
set_option maxRecDepth 100000 in
theorem rowsdecode_any (w : World) (v : Value) (b : List Nat) (hs : Sl .u8 w v b) (hb : Byt b) : Calls Try.prog 4 #[v] w (Yes w) := by
  have HS := hid hs
  obtain ⟨A, len, cp, rfl⟩ : ∃ A n cp, v = .slice A n cp := by obtain ⟨A, cp, h, _⟩ := hs; exact ⟨A, _, cp, h⟩
  have hlen := HS.out.len
  by_cases h100 : (100 : Int) < len
  · clear hs
    go_enter Try.func4, Try.ntmps4
    go_wp2_with fail
    refine (awake6 w).mono ?_
    rintro e w1 ⟨rfl, hb1⟩
    go_wp2
    go_ret
    exact ⟨rfl, hb1⟩
  · obtain ⟨l, rest, r, rfl, hbr, hl, hcase⟩ := dec_cases b hb
    have hle : (enc l ++ rest).length ≤ 100 := by rw [← hlen]; omega
    have hre : rest.length ≤ 1000000 := by rw [List.length_append] at hle; omega
    obtain ⟨c, c', hcc, H1, H2⟩ : ∃ (c : Int) (c' : Bool), (c = 0 ∧ c' = true ∨ c = 11 ∧ c' = false ∧ r = zero4) ∧
        Hid (l.length = 4 ∧ rest = [] ∧ r.l = l ∧ c = 0 ∨ l.length = 4 ∧ rest ≠ [] ∧ r = zero4 ∧ c = 11 ∨ l.length < 4 ∧ NoGr rest ∧ r = zero4 ∧ c = 11) ∧
        Hid (l.length = 4 ∧ rest = [] ∧ r.l = l ∧ c' = true ∨ l.length = 4 ∧ rest ≠ [] ∧ r = zero4 ∧ c' = false ∨ l.length < 4 ∧ NoGr rest ∧ r = zero4 ∧ c' = false) := by
      rcases hcase with ⟨h1, h2, h3⟩ | ⟨h1, h2, h3⟩ | ⟨h1, h2, h3⟩
      · exact ⟨0, true, .inl ⟨rfl, rfl⟩, .inl ⟨h1, h2, h3, rfl⟩, .inl ⟨h1, h2, h3, rfl⟩⟩
      · exact ⟨11, false, .inr ⟨rfl, rfl, h3⟩, .inr (.inl ⟨h1, h2, h3, rfl⟩), .inr (.inl ⟨h1, h2, h3, rfl⟩)⟩
      · exact ⟨11, false, .inr ⟨rfl, rfl, h3⟩, .inr (.inr ⟨h1, h2, h3, rfl⟩), .inr (.inr ⟨h1, h2, h3, rfl⟩)⟩
    have HBR := hid hbr
    have HL := hid hl
    have HLE := hid hle
    have HRE := hid hre
    have heq := eq_rows r r
    rw [decide_eq_true rfl] at heq
    clear hs hb hbr hl hcase hle hre hlen
    go_enter Try.func4, Try.ntmps4
    go_wp2_with fail
    refine (rdecode w _ l rest r c HS.out HBR.out HL.out H1.out HRE.out).mono ?_
    rintro e w1 ⟨rfl, hb1⟩
    have HB1 : Hid (Below w.heap.size w (w1.alloc (.cells (rowc r) 23))) := hb1.alloc hb1.size _
    clear hb1
    unfold rowv rowc
    go_wp2_with fail
    refine (refdecode (w1.alloc (.cells (rowc r) 23)) _ l rest r c' (HS.out.below HB1.out) HBR.out HL.out H2.out HLE.out).mono ?_
    rintro e w2 ⟨rfl, hb2⟩
    unfold rowv rowc
    have HL1 : Hid (Lies (w2.alloc (.cells (rowc r) 23)) w1.heap.size r) := ((Lies.new w1 r).below hb2).below ((Below.refl _ _).alloc (Nat.le_refl _) _)
    have HB2 : Hid (Below w.heap.size w (w2.alloc (.cells (rowc r) 23))) := (HB1.out.trans (hb2.mono HB1.out.size)).alloc (Nat.le_trans HB1.out.size hb2.size) _
    obtain ⟨p0, p1, p2, p3⟩ := HL1.out.cells.1
    dsimp only [rowc] at p0 p1 p2 p3
    clear hb2
    rcases hcc with ⟨rfl, rfl⟩ | ⟨rfl, rfl, hz⟩
    · go_wp2_with fail
      refine (awake6 _).mono ?_
      rintro e w3 ⟨rfl, hb3⟩
      have HB3 : Hid (Below w.heap.size w w3) := HB2.out.trans (hb3.mono HB2.out.size)
      clear hb3
      go_wp2
      go_ret
      exact ⟨rfl, HB3.out⟩
    · subst hz
      dsimp only [zero4] at heq p0 p1 p2 p3
      unfold zero4
      go_wp2_with fail
      refine (awake6 _).mono ?_
      rintro e w3 ⟨rfl, hb3⟩
      have HB3 : Hid (Below w.heap.size w w3) := HB2.out.trans (hb3.mono HB2.out.size)
      clear hb3
      go_wp2
      go_ret
      exact ⟨rfl, HB3.out⟩

set_option maxHeartbeats 1000000 in
set_option maxRecDepth 100000 in
theorem rowsback_any (w : World) (r : Ro) (v : Value) (b : List Nat) (hr : r.ok) (hs : Sl .u8 w v b) (hb : Byt b) : Calls Try.prog 6 #[rowv r, v] w (Yes w) := by
  have HS := hid hs
  have HR := hid hr
  obtain ⟨A, len, cp, rfl⟩ : ∃ A n cp, v = .slice A n cp := by obtain ⟨A, cp, h, _⟩ := hs; exact ⟨A, _, cp, h⟩
  have hlen := HS.out.len
  have HB0 : Hid (Below w.heap.size w (w.alloc (.cells (rowc r) 23))) := (Below.refl _ _).alloc (Nat.le_refl _) _
  have HL0 := hid (Lies.new w r)
  by_cases h100 : (100 : Int) < len
  · clear hs hr
    unfold rowv rowc
    go_enter Try.func6, Try.ntmps6
    go_wp2_with fail
    refine (awake6 _).mono ?_
    rintro e w1 ⟨rfl, hb1⟩
    have HB1 : Hid (Below w.heap.size w w1) := HB0.out.trans (hb1.mono HB0.out.size)
    clear hb1
    go_wp2
    go_ret
    exact ⟨rfl, HB1.out⟩
  · obtain ⟨l, rest, s, rfl, hbr, hl, hcase⟩ := dec_cases b hb
    have hle : (enc l ++ rest).length ≤ 100 := by rw [← hlen]; omega
    have hre : rest.length ≤ 1000000 := by rw [List.length_append] at hle; omega
    obtain ⟨c, hcc, H1⟩ : ∃ (c : Int), Hid (c = 0 ∧ s.ok ∧ enc s.l = enc l ++ rest ∨ c = 11 ∧ s = zero4) ∧
        Hid (l.length = 4 ∧ rest = [] ∧ s.l = l ∧ c = 0 ∨ l.length = 4 ∧ rest ≠ [] ∧ s = zero4 ∧ c = 11 ∨ l.length < 4 ∧ NoGr rest ∧ s = zero4 ∧ c = 11) := by
      rcases hcase with ⟨h1, h2, h3⟩ | ⟨h1, h2, h3⟩ | ⟨h1, h2, h3⟩
      · exact ⟨0, .inl ⟨rfl, by unfold Ro.ok; rw [h3]; exact hl, by rw [h3, h2, List.append_nil]⟩, .inl ⟨h1, h2, h3, rfl⟩⟩
      · exact ⟨11, .inr ⟨rfl, h3⟩, .inr (.inl ⟨h1, h2, h3, rfl⟩)⟩
      · exact ⟨11, .inr ⟨rfl, h3⟩, .inr (.inr ⟨h1, h2, h3, rfl⟩)⟩
    have HBR := hid hbr
    have HL := hid hl
    have HLE := hid hle
    have HRE := hid hre
    have heq := eq_rows r r
    rw [decide_eq_true rfl] at heq
    obtain ⟨p0, p1, p2, p3⟩ := HL0.out.cells.1
    dsimp only [rowc] at p0 p1 p2 p3
    clear hs hb hbr hl hcase hle hre hlen hr
    unfold rowv rowc
    go_enter Try.func6, Try.ntmps6
    go_wp2_with fail
    refine (rencode_raw _ r HR.out).mono ?_
    rintro e w1 ⟨u, rfl, hu, hb1⟩
    have HU : Hid (Sl .u8 w1 u (enc r.l ++ [])) := by
      show Sl _ _ _ _
      rw [List.append_nil]; exact hu.sl
    have HB1 : Hid (Below w.heap.size w w1) := HB0.out.trans (hb1.nil_below.mono HB0.out.size)
    have HL1 : Hid (Lies w1 w.heap.size r) := HL0.out.below hb1.nil_below
    clear hu hb1 p0 p1 p2 p3
    go_wp2_with fail
    refine (rdecode w1 _ r.l [] r 0 HU.out Byt.nil HR.out (.inl ⟨rfl, rfl, rfl, rfl⟩) (by simp)).mono ?_
    rintro e w2 ⟨rfl, hb2⟩
    have HB2 : Hid (Below w.heap.size w (w2.alloc (.cells (rowc r) 23))) := (HB1.out.trans (hb2.mono HB1.out.size)).alloc (Nat.le_trans HB1.out.size hb2.size) _
    have HL2 : Hid (Lies (w2.alloc (.cells (rowc r) 23)) w.heap.size r) := (HL1.out.below hb2).below ((Below.refl _ _).alloc (Nat.le_refl _) _)
    have HN2 : Hid (Lies (w2.alloc (.cells (rowc r) 23)) w2.heap.size r) := Lies.new _ _
    obtain ⟨p0, p1, p2, p3⟩ := HL2.out.cells.1
    obtain ⟨q0, q1, q2, q3⟩ := HN2.out.cells.1
    dsimp only [rowc] at p0 p1 p2 p3 q0 q1 q2 q3
    clear hb2
    unfold rowv rowc
    go_wp2_with fail
    refine (rdecode _ _ l rest s c (HS.out.below HB2.out) HBR.out HL.out H1.out HRE.out).mono ?_
    rintro e w3 ⟨rfl, hb3⟩
    have HB3 : Hid (Below w.heap.size w (w3.alloc (.cells (rowc s) 23))) := (HB2.out.trans (hb3.mono HB2.out.size)).alloc (Nat.le_trans HB2.out.size hb3.size) _
    have HN3 : Hid (Lies (w3.alloc (.cells (rowc s) 23)) w3.heap.size s) := Lies.new _ _
    clear hb3 p0 p1 p2 p3 q0 q1 q2 q3 heq
    obtain ⟨p0, p1, p2, p3⟩ := HN3.out.cells.1
    dsimp only [rowc] at p0 p1 p2 p3
    unfold rowv rowc
    rcases hcc.out with ⟨rfl, hso, hse⟩ | ⟨rfl, hz⟩
    · have HSO := hid hso
      have HSE := hid hse
      clear hso hse
      go_wp2_with fail
      refine (rencode_raw _ s HSO.out).mono ?_
      rintro e w4 ⟨u4, rfl, hu4, hb4⟩
      rw [HSE.out] at hu4
      have HU4 := hid hu4.sl
      have HB4 : Hid (Below w.heap.size w w4) := HB3.out.trans (hb4.nil_below.mono HB3.out.size)
      clear hu4 hb4
      go_wp2_with fail
      refine (bytes_any _ _ _ _ _ HU4.out (HS.out.below HB4.out)).mono ?_
      rw [show eqB (enc l ++ rest) (enc l ++ rest) = true by unfold eqB; simp]
      rintro e w5 ⟨rfl, hb5⟩
      have HB5 : Hid (Below w.heap.size w w5) := HB4.out.trans (hb5.mono HB4.out.size)
      clear hb5
      go_wp2_with fail
      refine (awake6 _).mono ?_
      rintro e w6 ⟨rfl, hb6⟩
      have HB6 : Hid (Below w.heap.size w w6) := HB5.out.trans (hb6.mono HB5.out.size)
      clear hb6
      go_wp2
      go_ret
      exact ⟨rfl, HB6.out⟩
    · subst hz
      have heq := eq_rows zero4 zero4
      rw [decide_eq_true rfl] at heq
      dsimp only [zero4] at heq p0 p1 p2 p3
      unfold zero4
      go_wp2_with fail
      refine (awake6 _).mono ?_
      rintro e w4 ⟨rfl, hb4⟩
      have HB4 : Hid (Below w.heap.size w w4) := HB3.out.trans (hb4.mono HB3.out.size)
      clear hb4
      go_wp2
      go_ret
      exact ⟨rfl, HB4.out⟩
end Go.Proofs.Ytcnhklmfahbaoaa
