/- RowsChange. -/
import Derived.Test.YtcnhklmfahbaoaaS11
namespace Go.Proofs.Ytcnhklmfahbaoaa
open Go.RowKit

theorem changes_any (w : World) (ks : List Nat) (p q : Value) (o n : Option Ro) (hp : PRow w p o) (hq : PRow w q n) :
    Calls Try.prog 15 #[.string (str ks), p, q] w (Chgd (str ks) w (checkE ks) (if keyB ks then upto o n 4 else [])) := by
  cases hk : keyB ks with
  | false =>
    rw [show checkE ks = 13 by unfold checkE; rw [hk]; rfl]
    exact changes_no w ks p q hk
  | true =>
    rw [show checkE ks = 0 by unfold checkE; rw [hk]; rfl]
    cases o with
    | none => exact changes_one w ks p q none n hk hp hq (.inl rfl)
    | some r =>
      cases n with
      | none => exact changes_one w ks p q (some r) none hk hp hq (.inr rfl)
      | some s => exact changes_both w ks p q r s hk hp hq

/-- Two rows, and whether they are there: one value. -/
def turnc (r : Ro) (had : Bool) (s : Ro) (has : Bool) : Array Value := #[.int .i64 r.a, .int .i64 r.b, .int .i64 r.c, .int .i64 r.d, .bool had, .int .i64 s.a, .int .i64 s.b, .int .i64 s.c, .int .i64 s.d, .bool has]
def turnv (r : Ro) (had : Bool) (s : Ro) (has : Bool) : Value := .agg (turnc r had s has)
def TLies (w : World) (g : Nat) (r : Ro) (had : Bool) (s : Ro) (has : Bool) : Prop := w.heap[g]? = some (.cells (turnc r had s has) 36 (0, 0))
section
variable {w w' : World} {g : Nat} {r s : Ro} {had has : Bool}
theorem TLies.lt (h : TLies w g r had s has) : g < w.heap.size := by
  rcases Nat.lt_or_ge g w.heap.size with hl | hl
  · exact hl
  · unfold TLies at h; rw [Array.getElem?_eq_none hl] at h; cases h
theorem TLies.below (h : TLies w g r had s has) (hb : Below w.heap.size w w') : TLies w' g r had s has := (hb.block g h.lt).trans h
theorem TLies.new (w : World) (r s : Ro) (had has : Bool) : TLies (w.alloc (.cells (turnc r had s has) 36)) w.heap.size r had s has := heap_alloc_new w _
theorem TLies.old (h : TLies w g r had s has) {k : Nat} {x : Int} (hx : r.l[k]? = some x) : w.cell? ⟨g, 0 + k, none⟩ = some (.int .i64 x) := by
  rw [Nat.zero_add, cell_of_row w g k _ _ _ h]
  match k with
  | 0 => injection hx with hx; subst hx; rfl
  | 1 => injection hx with hx; subst hx; rfl
  | 2 => injection hx with hx; subst hx; rfl
  | 3 => injection hx with hx; subst hx; rfl
  | k + 4 => simp [Ro.l] at hx
theorem TLies.now (h : TLies w g r had s has) {k : Nat} {x : Int} (hx : s.l[k]? = some x) : w.cell? ⟨g, 5 + k, none⟩ = some (.int .i64 x) := by
  rw [cell_of_row w g (5 + k) _ _ _ h]
  match k with
  | 0 => injection hx with hx; subst hx; rfl
  | 1 => injection hx with hx; subst hx; rfl
  | 2 => injection hx with hx; subst hx; rfl
  | 3 => injection hx with hx; subst hx; rfl
  | k + 4 => simp [Ro.l] at hx
theorem TLies.is (h : TLies w g r had s has) : w.cell? ⟨g, 4, none⟩ = some (.bool had) ∧ w.cell? ⟨g, 9, none⟩ = some (.bool has) :=
  ⟨cell_of_row w g 4 _ _ _ h, cell_of_row w g 9 _ _ _ h⟩
theorem TLies.rows (h : TLies w g r had s has) : (w.cell? ⟨g, 0, none⟩ = some (.int .i64 r.a) ∧ w.cell? ⟨g, 1, none⟩ = some (.int .i64 r.b) ∧ w.cell? ⟨g, 2, none⟩ = some (.int .i64 r.c) ∧ w.cell? ⟨g, 3, none⟩ = some (.int .i64 r.d)) ∧
    w.cell? ⟨g, 5, none⟩ = some (.int .i64 s.a) ∧ w.cell? ⟨g, 6, none⟩ = some (.int .i64 s.b) ∧ w.cell? ⟨g, 7, none⟩ = some (.int .i64 s.c) ∧ w.cell? ⟨g, 8, none⟩ = some (.int .i64 s.d) :=
  ⟨⟨cell_of_row w g 0 _ _ _ h, cell_of_row w g 1 _ _ _ h, cell_of_row w g 2 _ _ _ h, cell_of_row w g 3 _ _ _ h⟩, cell_of_row w g 5 _ _ _ h, cell_of_row w g 6 _ _ _ h, cell_of_row w g 7 _ _ _ h, cell_of_row w g 8 _ _ _ h⟩
theorem TLies.pold (h : TLies w g r had s has) : PRow w (if had then .pointer (some ⟨g, 0, none⟩) else .pointer none) (opt r had) := by
  cases had with
  | false => exact rfl
  | true => exact ⟨g, 0, rfl, fun k x hx => h.old hx⟩
theorem TLies.pnow (h : TLies w g r had s has) : PRow w (if has then .pointer (some ⟨g, 5, none⟩) else .pointer none) (opt s has) := by
  cases has with
  | false => exact rfl
  | true => exact ⟨g, 5, rfl, fun k x hx => h.now hx⟩
end
/-- A change of the reference's in a slice, cell by cell. -/
def RAt (w : World) (a : Addr) (c : Cg) : Prop :=
  w.cell? a = some (.int .i64 (c.1 : Int)) ∧ w.cell? { block := a.block, off := a.off + 1, spot := none } = some (.int .i64 c.2.1) ∧ w.cell? { block := a.block, off := a.off + 2, spot := none } = some (.bool c.2.2)
theorem Elems.rat {w : World} {A : Option Addr} {n cap i : Nat} {l : List Cg} {c : Cg} (h : Elems 3 cR w (.slice A n cap) l) (hi : l[i]? = some c) : ∃ ad, A = some ad ∧ RAt w (ad.add (i * 3)) c := by
  obtain ⟨ad, hA, h0⟩ := h.cell cR_len hi (j := 0) rfl
  obtain ⟨ad1, hA1, h1⟩ := h.cell cR_len hi (j := 1) rfl
  obtain ⟨ad2, hA2, h2⟩ := h.cell cR_len hi (j := 2) rfl
  subst hA
  injection hA1 with hA1; injection hA2 with hA2
  subst hA1; subst hA2
  rw [add_off ad _ 0] at h1
  rw [add_off ad _ 1] at h2
  exact ⟨ad, rfl, h0, h1, h2⟩
theorem pointer_val (w : World) (a : Addr) (b : Bool) (v : Value) (h : v = if b then .pointer (some a) else .pointer none) : Calls Try.prog 16 #[.pointer (some a), .bool b] w fun e w' => e = .returned v ∧ w = w' := by
  rw [h]; exact pointer_any w a b
theorem refchanges_raw (w : World) (r s : Ro) (had has : Bool) : Calls Try.prog 17 #[.agg #[.int .i64 r.a, .int .i64 r.b, .int .i64 r.c, .int .i64 r.d], .bool had, .agg #[.int .i64 s.a, .int .i64 s.b, .int .i64 s.c, .int .i64 s.d], .bool has] w (RChgd w (upto (opt r had) (opt s has) 4)) := refchanges w r s had has
theorem keyB_len (xs : List Nat) : keyB xs = decide (1 ≤ (xs.length : Int) ∧ (xs.length : Int) ≤ 16) := by
  unfold keyB; rw [decide_eq_decide]; omega

set_option maxHeartbeats 2000000 in
set_option maxRecDepth 100000 in
theorem rowschange_any (w : World) (ks : List Nat) (r s : Ro) (had has : Bool) : Calls Try.prog 5 #[.string (str ks), turnv r had s has] w (Yes w) := by
  have hsz := str_size ks
  have HB0 : Hid (Below w.heap.size w (w.alloc (.cells (turnc r had s has) 36))) := (Below.refl _ _).alloc (Nat.le_refl _) _
  have HL0 := hid (TLies.new w r s had has)
  unfold turnv turnc
  by_cases h100 : (100 : Int) < ks.length
  · go_enter Try.func5, Try.ntmps5
    go_wp2_with fail
    refine (awake6 _).mono ?_
    rintro e w1 ⟨rfl, hb1⟩
    have HB1 : Hid (Below w.heap.size w w1) := HB0.out.trans (hb1.mono HB0.out.size)
    clear hb1
    go_wp2
    go_ret
    exact ⟨rfl, HB1.out⟩
  · obtain ⟨q4, q9⟩ := HL0.out.is
    dsimp only [turnc] at q4 q9
    obtain ⟨P, hP⟩ : ∃ P : Value, P = if had then .pointer (some ⟨w.heap.size, 0, none⟩) else .pointer none := ⟨_, rfl⟩
    obtain ⟨Q, hQ⟩ : ∃ Q : Value, Q = if has then .pointer (some ⟨w.heap.size, 5, none⟩) else .pointer none := ⟨_, rfl⟩
    have HPO : Hid (PRow (w.alloc (.cells (turnc r had s has) 36)).drew P (opt r had)) := by
      show PRow _ _ _
      rw [hP]; exact HL0.out.pold
    have HPN : Hid (PRow (w.alloc (.cells (turnc r had s has) 36)).drew Q (opt s has)) := by
      show PRow _ _ _
      rw [hQ]; exact HL0.out.pnow
    have HPV := hid hP
    have HQV := hid hQ
    clear hP hQ
    have HB0D : Hid (Below w.heap.size w (w.alloc (.cells (turnc r had s has) 36)).drew) := HB0.out.drew
    have HL0D : Hid (TLies (w.alloc (.cells (turnc r had s has) 36)).drew w.heap.size r had s has) := HL0.out
    dsimp only [turnc] at HPO HPN HB0D HL0D
    go_enter Try.func5, Try.ntmps5
    go_wp2_with fail
    go_region_held3 (fun W => W.cell? ⟨w.heap.size, 4, none⟩ = some (.bool had) ∧ W.cell? ⟨w.heap.size, 9, none⟩ = some (.bool has))
      (first | exact ⟨q4, q9⟩ | exact HQ.out)
      (first
        | (go_at_call 16; ((with_reducible refine (pointer_val _ _ had P HPV.out).mono ?_); rintro e w0 ⟨rfl, rfl⟩))
        | (go_at_call 16; ((with_reducible refine (pointer_val _ _ has Q HQV.out).mono ?_); rintro e w0 ⟨rfl, rfl⟩))
        | (go_at_call 15; ((with_reducible refine (changes_any _ ks _ _ _ _ HPO.out HPN.out).mono ?_); rintro e w1 ⟨u, rfl, hu, hb⟩; have HU := hid hu; have HB1 := hid hb; have HL1 := hid (HL0D.out.below hb); have HQ := hid HL1.out.is; clear hu hb)))
    obtain ⟨A, n, cp, rfl⟩ := HU.out.form
    have hn := HU.out.cap.1
    have HB2 : Hid (Below w.heap.size w w1) := HB0D.out.trans (HB1.out.mono HB0D.out.size)
    have hkl := keyB_len ks
    clear q4 q9
    cases hk : keyB ks with
    | false =>
      have hce : checkE ks = 13 := by unfold checkE; rw [hk]; rfl
      rw [hk] at hkl hn
      simp only [Bool.false_eq_true, if_false, List.length_nil] at hn
      subst hn
      rw [hce]
      have hcase : (ks.length : Int) < 1 ∨ (16 : Int) < ks.length := by
        have := decide_eq_false_iff_not.1 hkl.symm
        omega
      clear hk hkl hce
      rcases hcase with h1 | h1
      · go_wp2_with fail
        refine (awake6 _).mono ?_
        rintro e w2 ⟨rfl, hb2⟩
        have HB3 : Hid (Below w.heap.size w w2) := HB2.out.trans (hb2.mono HB2.out.size)
        clear hb2
        go_wp2
        go_ret
        exact ⟨rfl, HB3.out⟩
      · have h2 : ¬ (ks.length : Int) < 1 := by omega
        go_wp2_with fail
        refine (awake6 _).mono ?_
        rintro e w2 ⟨rfl, hb2⟩
        have HB3 : Hid (Below w.heap.size w w2) := HB2.out.trans (hb2.mono HB2.out.size)
        clear hb2
        go_wp2
        go_ret
        exact ⟨rfl, HB3.out⟩
    | true =>
      have hce : checkE ks = 0 := by unfold checkE; rw [hk]; rfl
      rw [hk] at hkl hn
      rw [if_pos rfl] at hn
      obtain ⟨l, HLL⟩ : ∃ l, Hid (l = upto (opt r had) (opt s has) 4) := ⟨_, rfl⟩
      have HU2 : Hid (Elems 4 (cC (str ks)) w1 (.slice A n cp) l) := by
        have h := HU.out
        rw [hk, if_pos rfl, ← HLL.out] at h
        exact h
      rw [← HLL.out] at hn
      have hl8 : l.length ≤ 8 := by rw [HLL.out]; exact upto_len _ _ 4
      rw [hce]
      have h12 := decide_eq_true_iff.1 hkl.symm
      obtain ⟨h1, h2⟩ := h12
      have h1' : ¬ (ks.length : Int) < 1 := by omega
      have h2' : ¬ (16 : Int) < ks.length := by omega
      obtain ⟨⟨a0, a1, a2, a3⟩, b0, b1, b2, b3⟩ := HL1.out.rows
      obtain ⟨q4, q9⟩ := HL1.out.is
      have HN := hid hn
      clear hk hkl hce h1 h2 HU hn
      go_wp2_with fail
      refine (refchanges_raw _ r s had has).mono ?_
      rw [← HLL.out]
      rintro e w2 ⟨u2, rfl, hu2, hb2⟩
      obtain ⟨A2, n2, cp2, rfl⟩ := hu2.form
      have hn2 : n2 = n := by rw [hu2.cap.1, HN.out]
      subst hn2
      have HU3 := hid (HU2.out.below hb2)
      have HR3 := hid hu2
      have HB3 : Hid (Below w.heap.size w w2) := HB2.out.trans (hb2.mono HB2.out.size)
      have hn8 : n2 ≤ 8 := by have := HN.out; omega
      have heq := eq_change
      clear hu2 hb2 a0 a1 a2 a3 b0 b1 b2 b3 q4 q9 h1' h2'
      go_wp2
      go_loopw [8] (fun i wr => ∃ k : Nat, k ≤ n2 ∧ i = .int .i64 k ∧ ∃ m, wr = w2.drewN m) (fun i _ => n2 - (intOf i).toNat)
      case atStart => exact ⟨0, by omega, rfl, 0, rfl⟩
      case round =>
        obtain ⟨k, hkn, rfl, m, rfl⟩ := hrel
        by_cases hlt : k < n2
        · obtain ⟨c, hc⟩ : ∃ c, l[k]? = some c := ⟨l[k]'(by have := HN.out; omega), List.getElem?_eq_getElem _⟩
          obtain ⟨ad, rfl, p0, p1, p2, p3⟩ := HU3.out.cat hc
          obtain ⟨ad2, rfl, r0, r1, r2⟩ := HR3.out.rat hc
          have hlt' : (k : Int) < n2 := by omega
          clear hc
          go_wp2
          go_quiet (fail)
          go_wp2
          go_roundw
          case rel => exact ⟨k + 1, by omega, by go_num, _, rfl⟩
          case measure => simp [intOf]; omega
        · go_wp2_with fail
          refine (awake6 _).mono ?_
          rintro e w3 ⟨rfl, hb3⟩
          have HB4 : Hid (Below w.heap.size w w3) := (below_drewN' HB3.out m).trans (hb3.mono (below_drewN' HB3.out m).size)
          clear hb3
          go_wp2
          go_ret
          exact ⟨rfl, HB4.out⟩
end Go.Proofs.Ytcnhklmfahbaoaa
