/- RowsApply. -/
import Derived.Test.YtcnhklmfahbaoaaS12
namespace Go.Proofs.Ytcnhklmfahbaoaa
open Go.RowKit

/-- What the law keeps of an index: a column's value, and whether it is there. -/
abbrev Sto := List Int × List Bool
def stp (st : Sto) (c : Cg) : Sto := (st.1.set c.1 c.2.1, st.2.set c.1 c.2.2)
def chk (st : Sto) (c : Cg) : Prop := c.1 < 4 ∧ st.2[c.1]? = some (!c.2.2) ∧ (∃ y, st.1[c.1]? = some y) ∧ (c.2.2 = false → st.1[c.1]? = some c.2.1)
def Goes (s : Ro) (has : Bool) : Sto → List Cg → Prop
  | st, [] => st.2 = [has, has, has, has] ∧ st.1.length = 4 ∧ (has = true → st.1 = s.l)
  | st, c :: cs => chk st c ∧ Goes s has (stp st c) cs
theorem goes_all (r s : Ro) (had has : Bool) : Goes s has (r.l, [had, had, had, had]) (upto (opt r had) (opt s has) 4) := by
  obtain ⟨a, b, c, d⟩ := r
  obtain ⟨a', b', c', d'⟩ := s
  have hr : List.range 4 = [0, 1, 2, 3] := by decide
  cases had <;> cases has
  · simp [upto, hr, chg1, alikeB, one, opt, Goes, Ro.l]
  · simp [upto, hr, chg1, alikeB, one, opt, Goes, Ro.l, chk, stp]
  · simp [upto, hr, chg1, alikeB, one, opt, Goes, Ro.l, chk, stp]
  · by_cases h1 : a = a' <;> by_cases h2 : b = b' <;> by_cases h3 : c = c' <;> by_cases h4 : d = d' <;>
      simp [upto, hr, chg1, alikeB, one, opt, Goes, Ro.l, chk, stp, h1, h2, h3, h4]

def bools (T : List Bool) : Array Value := (T.map fun b => Value.bool b).toArray
theorem bools_set (T : List Bool) (k : Nat) (b : Bool) : (bools T).set! k (.bool b) = bools (T.set k b) := by
  unfold bools
  simp [List.map_set]
theorem bools_at {T : List Bool} {k : Nat} {b : Bool} (h : T[k]? = some b) : (bools T)[k]? = some (.bool b) := by
  unfold bools
  rw [List.getElem?_toArray, List.getElem?_map, h]; rfl
/-- Where the law keeps it. -/
def VT (W : World) (st : Sto) (w : World) : Prop :=
  w.heap[W.heap.size]? = some (.cells (rowl st.1) 22 (0, 0)) ∧ w.heap[W.heap.size + 1]? = some (.cells (bools st.2) 52 (0, 0)) ∧ Below W.heap.size W w
section
variable {W w : World} {st : Sto}
theorem VT.drewN (h : VT W st w) (n : Nat) : VT W st (w.drewN n) := ⟨h.1, h.2.1, below_drewN' h.2.2 n⟩
theorem VT.val (h : VT W st w) {k : Nat} {x : Int} (hx : st.1[k]? = some x) : w.cell? ⟨W.heap.size, k, none⟩ = some (.int .i64 x) := (cell_of_row w _ k _ _ _ h.1).trans (rowl_at hx)
theorem VT.is (h : VT W st w) {k : Nat} {x : Bool} (hx : st.2[k]? = some x) : w.cell? ⟨W.heap.size + 1, k, none⟩ = some (.bool x) := (cell_of_row w _ k _ _ _ h.2.1).trans (bools_at hx)
theorem VT.fz (h : VT W st w) (k : Nat) : w.frozen? ⟨W.heap.size, k, none⟩ = false := by simp [World.frozen?, h.1]
theorem VT.fz' (h : VT W st w) (k : Nat) : w.frozen? ⟨W.heap.size + 1, k, none⟩ = false := by simp [World.frozen?, h.2.1]
theorem VT.setV (h : VT W st w) (k : Nat) (x : Int) : VT W (st.1.set k x, st.2) (w.setCell ⟨W.heap.size, k, none⟩ (.int .i64 x)) :=
  ⟨by have := setCell_row h.1 (i := k) (.int .i64 x); rw [rowl_set] at this; exact this,
    by rw [Below.heap_setCell _ _ _ _ (by show W.heap.size + 1 ≠ W.heap.size; omega)]; exact h.2.1, h.2.2.setCell (by show W.heap.size ≤ W.heap.size; omega) _⟩
theorem VT.setT (h : VT W st w) (k : Nat) (x : Bool) : VT W (st.1, st.2.set k x) (w.setCell ⟨W.heap.size + 1, k, none⟩ (.bool x)) :=
  ⟨by rw [Below.heap_setCell _ _ _ _ (by show W.heap.size ≠ W.heap.size + 1; omega)]; exact h.1,
    by have := setCell_row h.2.1 (i := k) (.bool x); rw [bools_set] at this; exact this, h.2.2.setCell (by show W.heap.size ≤ W.heap.size + 1; omega) _⟩
end
def padb (had : Bool) (k : Nat) : List Bool := List.replicate k had ++ List.replicate (4 - k) false
theorem padb_step (had : Bool) {k : Nat} (h : k < 4) : (padb had k).set k had = padb had (k + 1) := by
  match k, h with
  | 0, _ => rfl
  | 1, _ => rfl
  | 2, _ => rfl
  | 3, _ => rfl
theorem padb_at (had : Bool) {k : Nat} (h : k < 4) : ∃ x, (padb had k)[k]? = some x := by
  match k, h with
  | 0, _ => exact ⟨_, rfl⟩
  | 1, _ => exact ⟨_, rfl⟩
  | 2, _ => exact ⟨_, rfl⟩
  | 3, _ => exact ⟨_, rfl⟩
theorem eq_ent (a a' : Int) (s s' : ByteArray) (w : World) :
    (Op.equalIn 10000 45 (.agg #[.int .i64 a, .string s]) (.agg #[.int .i64 a', .string s'])).run Try.prog w = .ok (decide (a = a' ∧ s.toList = s'.toList)) w := by
  have u3 := Try.underlying3
  have a3 := Try.isAgg3
  have z3 := Try.sizeOf3
  have u5 := Try.underlying9
  have a5 := Try.isAgg9
  have z5 := Try.sizeOf9
  rw [show (10000 : Nat) = 9999 + 1 from rfl, Op.equalIn]
  simp only [Sem.run_bind, run_underlying Try.underlying45, Result.andThen_ok]
  go_simp
  by_cases h1 : a = a' <;> by_cases h2 : s.toList = s'.toList <;> simp [h1, h2]

set_option maxHeartbeats 2000000 in
set_option maxRecDepth 100000 in
theorem rowsapply_any (w : World) (ks : List Nat) (r s : Ro) (had has : Bool) : Calls Try.prog 8 #[.string (str ks), turnv r had s has] w (Yes w) := by
  have hsz := str_size ks
  have HB0 : Hid (Below w.heap.size w (w.alloc (.cells (turnc r had s has) 36))) := (Below.refl _ _).alloc (Nat.le_refl _) _
  have HL0 := hid (TLies.new w r s had has)
  unfold turnv turnc
  obtain ⟨q4, q9⟩ := HL0.out.is
  dsimp only [turnc] at q4 q9
  obtain ⟨P, hP⟩ : ∃ P : Value, P = if had then .pointer (some ⟨w.heap.size, 0, none⟩) else .pointer none := ⟨_, rfl⟩
  obtain ⟨Q, hQ⟩ : ∃ Q : Value, Q = if has then .pointer (some ⟨w.heap.size, 5, none⟩) else .pointer none := ⟨_, rfl⟩
  have HPO : Hid (PRow (w.alloc (.cells (turnc r had s has) 36)).drew P (opt r had)) := by
    show PRow _ _ _
    rw [hP]; exact HL0.out.pold
  have HPN : Hid (PRow (w.alloc (.cells (turnc r had s has) 36)).drew Q (opt s has)) := by
    show PRow _ _ _
    rw [hQ]; exact HL0.out.pnow
  have HPV := hid hP
  have HQV := hid hQ
  clear hP hQ
  have HB0D : Hid (Below w.heap.size w (w.alloc (.cells (turnc r had s has) 36)).drew) := HB0.out.drew
  have HL0D : Hid (TLies (w.alloc (.cells (turnc r had s has) 36)).drew w.heap.size r had s has) := HL0.out
  dsimp only [turnc] at HPO HPN HB0D HL0D
  go_enter Try.func8, Try.ntmps8
  go_wp2_with fail
  go_region_held3 (fun W => W.cell? ⟨w.heap.size, 4, none⟩ = some (.bool had) ∧ W.cell? ⟨w.heap.size, 9, none⟩ = some (.bool has))
    (first | exact ⟨q4, q9⟩ | exact HQ.out)
    (first
      | (go_at_call 16; ((with_reducible refine (pointer_val _ _ had P HPV.out).mono ?_); rintro e w0 ⟨rfl, rfl⟩))
      | (go_at_call 16; ((with_reducible refine (pointer_val _ _ has Q HQV.out).mono ?_); rintro e w0 ⟨rfl, rfl⟩))
      | (go_at_call 15; ((with_reducible refine (changes_any _ ks _ _ _ _ HPO.out HPN.out).mono ?_); rintro e w1 ⟨u, rfl, hu, hb⟩; have HU := hid hu; have HB1 := hid hb; have HL1 := hid (HL0D.out.below hb); have HQ := hid HL1.out.is; clear hu hb)))
  obtain ⟨A, n, cp, rfl⟩ := HU.out.form
  have hn := HU.out.cap.1
  have HB2 : Hid (Below w.heap.size w w1) := HB0D.out.trans (HB1.out.mono HB0D.out.size)
  have hkl := keyB_len ks
  clear q4 q9
  cases hk : keyB ks with
  | false =>
    have hce : checkE ks = 13 := by unfold checkE; rw [hk]; rfl
    rw [hk] at hkl hn
    simp only [Bool.false_eq_true, if_false, List.length_nil] at hn
    subst hn
    rw [hce]
    have hcase : (ks.length : Int) < 1 ∨ (16 : Int) < ks.length := by
      have := decide_eq_false_iff_not.1 hkl.symm
      omega
    clear hk hkl hce
    rcases hcase with h1 | h1
    · go_wp2_with fail
      refine (awake6 _).mono ?_
      rintro e w2 ⟨rfl, hb2⟩
      have HB3 : Hid (Below w.heap.size w w2) := HB2.out.trans (hb2.mono HB2.out.size)
      clear hb2
      go_wp2
      go_ret
      exact ⟨rfl, HB3.out⟩
    · have h2 : ¬ (ks.length : Int) < 1 := by omega
      go_wp2_with fail
      refine (awake6 _).mono ?_
      rintro e w2 ⟨rfl, hb2⟩
      have HB3 : Hid (Below w.heap.size w w2) := HB2.out.trans (hb2.mono HB2.out.size)
      clear hb2
      go_wp2
      go_ret
      exact ⟨rfl, HB3.out⟩
  | true =>
    have hce : checkE ks = 0 := by unfold checkE; rw [hk]; rfl
    rw [hk] at hn
    rw [if_pos rfl] at hn
    obtain ⟨l, HLL⟩ : ∃ l, Hid (l = upto (opt r had) (opt s has) 4) := ⟨_, rfl⟩
    have HU2 : Hid (Elems 4 (cC (str ks)) w1 (.slice A n cp) l) := by
      have h := HU.out
      rw [hk, if_pos rfl, ← HLL.out] at h
      exact h
    rw [← HLL.out] at hn
    have hl8 : l.length ≤ 8 := by rw [HLL.out]; exact upto_len _ _ 4
    have HGO : Hid (Goes s has (r.l, [had, had, had, had]) l) := by
      show Goes _ _ _ _
      rw [HLL.out]; exact goes_all r s had has
    rw [hce]
    have HN := hid hn
    have hn8 : n ≤ 8 := by omega
    have hst : VT w1 (padr r.l 0, padb had 0) ((w1.alloc (.cells (rowl [0, 0, 0, 0]) 22)).alloc (.cells (bools [false, false, false, false]) 52)) := by
      refine ⟨?_, ?_, ((Below.refl _ _).alloc (Nat.le_refl _) _).alloc (by simp) _⟩
      · rw [Below.heap_alloc _ _ _ (by simp)]; exact heap_alloc_new _ _
      · have := heap_alloc_new (w1.alloc (.cells (rowl [0, 0, 0, 0]) 22)) (.cells (bools [false, false, false, false]) 52)
        rw [show (w1.alloc (.cells (rowl [0, 0, 0, 0]) 22)).heap.size = w1.heap.size + 1 by simp] at this
        exact this
    have HST := hid hst
    clear hk hkl hce HU hn hst
    go_wp2
    go_loopw [9] (fun i wr => ∃ k : Nat, k ≤ 4 ∧ i = .int .i64 k ∧ VT w1 (padr r.l k, padb had k) wr) (fun i _ => 4 - (intOf i).toNat)
    case atStart => exact ⟨0, by omega, rfl, HST.out⟩
    case round =>
      obtain ⟨k, hk, rfl, hV⟩ := hrel
      have HV := hid hV
      clear hV
      by_cases hlt : k < 4
      · have h4 : (k : Int) < 4 := by omega
        obtain ⟨x, hx⟩ := r.at_ hlt
        have hT := HL1.out.below HV.out.2.2
        have a0 := hT.old hx
        rw [Nat.zero_add] at a0
        have v0 := HV.out.val (k := k) (List.getElem?_eq_getElem (by show k < (padr r.l k).length; rw [padr_len (by show k ≤ 4; omega) (by omega)]; exact hlt))
        have f0 := HV.out.fz k
        have hS := HV.out.setV k x
        have a1 := (HL1.out.below hS.2.2).is.1
        obtain ⟨y, hy⟩ := padb_at had hlt
        have v1 := hS.is (k := k) hy
        have f1 := hS.fz' k
        have hS2 := hS.setT k had
        dsimp only at hS2
        rw [padr_step hx hlt, padb_step had hlt] at hS2
        have HS2 := hid hS2
        clear hx hT hS hS2 hy
        go_wp2
        go_roundw
        case rel => exact ⟨k + 1, by omega, by go_num, HS2.out⟩
        case measure => simp [intOf]; omega
      · obtain rfl : k = 4 := by omega
        have HV4 : Hid (VT w1 (r.l, [had, had, had, had]) wr) := by
          have h := HV.out
          rw [padr_all (by rfl)] at h
          exact h
        obtain ⟨ws, rfl⟩ : ∃ ws, ws = wr := ⟨_, rfl⟩
        clear hk hlt
        go_wp2
        go_loopw [10] (fun i wr => ∃ (j : Nat) (st : Sto), j ≤ n ∧ i = .int .i64 j ∧ VT w1 st wr ∧ Goes s has st (l.drop j)) (fun i _ => n - (intOf i).toNat)
        case atStart => exact ⟨0, _, by omega, rfl, HV4.out, HGO.out⟩
        case round =>
          obtain ⟨j, st, hj, rfl, hV, hG⟩ := hrel
          have HVJ := hid hV
          have HG := hid hG
          clear hV hG
          by_cases hlt : j < n
          · obtain ⟨⟨c, x, a⟩, hc⟩ : ∃ c, l[j]? = some c := ⟨l[j]'(by have := HN.out; omega), List.getElem?_eq_getElem _⟩
            have hcl := hc
            have HCL := hid hcl
            have hG := HG.out
            rw [List.drop_eq_getElem_cons (by have := HN.out; omega : j < l.length)] at hG
            rw [List.getElem?_eq_getElem (by have := HN.out; omega)] at hc
            have hc' := Option.some.inj hc
            rw [hc'] at hG
            obtain ⟨⟨hc4, ht, ⟨y, hy⟩, hv⟩, hnext⟩ := hG
            dsimp only at hc4 ht hy hv
            have hU := HU2.out.below HVJ.out.2.2
            obtain ⟨ad, rfl, p0, p1, p2, p3⟩ := hU.cat hcl
            dsimp only at p0 p1 p2 p3
            have hlt' : (j : Int) < n := by omega
            have h0 : ¬ (c : Int) < 0 := by omega
            have h3 : ¬ (3 : Int) < c := by omega
            have h4 : (c : Int) < 4 := by omega
            have hd0 : decide ((c : Int) < 0) = false := by simp
            have hd3 : decide ((3 : Int) < (c : Int)) = false := by simp; omega
            have hd3' : decide (3 < c) = false := by simp; omega
            have v0 := HVJ.out.is ht
            have v1 := HVJ.out.val hy
            have HNX : Hid (Goes s has (stp st (c, x, a)) (l.drop (j + 1))) := hnext
            have HY := hid hy
            have HT := hid ht
            have hmk : ∀ m, Hid (VT w1 (stp st (c, x, a)) (((wr.drewN m).setCell ⟨w1.heap.size + 1, c, none⟩ (.bool a)).setCell ⟨w1.heap.size, c, none⟩ (.int .i64 x))) ∧ (wr.drewN m).frozen? ⟨w1.heap.size + 1, c, none⟩ = false ∧
                ((wr.drewN m).setCell ⟨w1.heap.size + 1, c, none⟩ (.bool a)).cell? ⟨w1.heap.size, c, none⟩ = some (.int .i64 y) ∧ ((wr.drewN m).setCell ⟨w1.heap.size + 1, c, none⟩ (.bool a)).frozen? ⟨w1.heap.size, c, none⟩ = false ∧
                CAt (str ks) ((wr.drewN m).setCell ⟨w1.heap.size + 1, c, none⟩ (.bool a)) (ad.add (j * 4)) (c, x, a) := fun m => by
              have h1 := HVJ.out.drewN m
              have h2 := h1.setT c a
              obtain ⟨ad2, e2, hat⟩ := (HU2.out.below h2.2.2).cat HCL.out
              injection e2 with e2
              subst e2
              exact ⟨h2.setV c x, h1.fz' c, h2.val HY.out, h2.fz c, hat⟩
            have HMK := hid hmk
            clear hc hc' hcl hU hy ht hnext hmk
            have heq := eq_ent
            cases a with
            | true =>
              clear hv
              simp only [Bool.not_true] at v0
              go_wp2
              go_quiet (fail)
              obtain ⟨S1, S2, S3, S4, s0, s1, s2, s3⟩ := HMK.out nq
              have t0 : (wr.drewN nq).cell? _ = _ := p0
              have t1 : (wr.drewN nq).cell? _ = _ := p1
              have t2 : (wr.drewN nq).cell? _ = _ := p2
              have t3 : (wr.drewN nq).cell? _ = _ := p3
              have v2 : (wr.drewN nq).cell? _ = _ := v0
              dsimp only at s0 s1 s2 s3
              clear p0 p1 p2 p3 v0 v1
              go_wp2
              go_roundw
              case rel =>
                (repeat apply Exists.intro)
                refine ⟨?_, rfl⟩
                exact ⟨j + 1, _, by omega, by go_num, S1.out, HNX.out⟩
              case measure => simp [intOf]; omega
            | false =>
              have v1' := HVJ.out.val (hv rfl)
              clear hv v1
              simp only [Bool.not_false] at v0
              have heq1 : ∀ w, _ := fun w => (eq_ent x x (str ks) (str ks) w).trans (by rw [decide_eq_true ⟨rfl, rfl⟩])
              clear heq
              go_wp2
              go_quiet (fail)
              obtain ⟨S1, S2, S3, S4, s0, s1, s2, s3⟩ := HMK.out nq
              have t0 : (wr.drewN nq).cell? _ = _ := p0
              have t1 : (wr.drewN nq).cell? _ = _ := p1
              have t2 : (wr.drewN nq).cell? _ = _ := p2
              have t3 : (wr.drewN nq).cell? _ = _ := p3
              have v2 : (wr.drewN nq).cell? _ = _ := v0
              dsimp only at s0 s1 s2 s3
              clear p0 p1 p2 p3 v0 v1' heq1
              go_wp2
              go_roundw
              case rel =>
                (repeat apply Exists.intro)
                refine ⟨?_, rfl⟩
                exact ⟨j + 1, _, by omega, by go_num, S1.out, HNX.out⟩
              case measure => simp [intOf]; omega
          · obtain rfl : j = n := by omega
            have hend := HG.out
            rw [List.drop_of_length_le (by have := HN.out; omega)] at hend
            obtain ⟨he1, he2, he3⟩ := hend
            have HE1 := hid he1
            have HE2 := hid he2
            have HE3 := hid he3
            obtain ⟨wt, rfl⟩ : ∃ wt, wt = wr := ⟨_, rfl⟩
            clear he1 he2 he3 hj hlt
            go_wp2
            go_loopw [12] (fun i wr => ∃ k : Nat, k ≤ 4 ∧ i = .int .i64 k ∧ ∃ m, wr = wt.drewN m) (fun i _ => 4 - (intOf i).toNat)
            case atStart => exact ⟨0, by omega, rfl, 0, rfl⟩
            case round =>
              obtain ⟨k, hk4, rfl, m, rfl⟩ := hrel
              by_cases hlt : k < 4
              · have h4 : (k : Int) < 4 := by omega
                have hT := HL1.out.below HVJ.out.2.2
                obtain ⟨y, hy⟩ : ∃ y, st.1[k]? = some y := ⟨st.1[k]'(by have := HE2.out; omega), List.getElem?_eq_getElem _⟩
                obtain ⟨z, hz⟩ := s.at_ hlt
                have a9 := hT.is.2
                have az := hT.now hz
                have b1 := HVJ.out.val hy
                have b2 := HVJ.out.is (k := k) (x := has) (by rw [HE1.out]; match k, hlt with | 0, _ => rfl | 1, _ => rfl | 2, _ => rfl | 3, _ => rfl)
                cases has with
                | true =>
                  obtain rfl : y = z := by
                    rw [HE3.out rfl, hz] at hy
                    injection hy with hy
                    exact hy.symm
                  clear hT hy hz
                  go_wp2
                  go_quiet (fail)
                  go_wp2
                  go_roundw
                  case rel => first | exact ⟨k + 1, by omega, by go_num, _, rfl⟩ | ((repeat apply Exists.intro); refine ⟨?_, rfl⟩; exact ⟨k + 1, by omega, by go_num, _, rfl⟩)
                  case measure => simp [intOf]; omega
                | false =>
                  clear hT hy hz
                  go_wp2
                  go_quiet (fail)
                  go_wp2
                  go_roundw
                  case rel => first | exact ⟨k + 1, by omega, by go_num, _, rfl⟩ | ((repeat apply Exists.intro); refine ⟨?_, rfl⟩; exact ⟨k + 1, by omega, by go_num, _, rfl⟩)
                  case measure => simp [intOf]; omega
              · have HBT : Hid (Below w.heap.size w (wt.drewN m)) := below_drewN' (HB2.out.trans (HVJ.out.2.2.mono HB2.out.size)) m
                go_wp2_with fail
                refine (awake6 _).mono ?_
                rintro e w5 ⟨rfl, hb5⟩
                have HB5 : Hid (Below w.heap.size w w5) := HBT.out.trans (hb5.mono HBT.out.size)
                clear hb5
                go_wp2
                go_ret
                exact ⟨rfl, HB5.out⟩
end Go.Proofs.Ytcnhklmfahbaoaa
