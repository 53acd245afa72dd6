/- RowsTwice. -/
import Derived.Test.YtcnhklmfahbaoaaS13
namespace Go.Proofs.Ytcnhklmfahbaoaa
open Go.RowKit

theorem one_mem {o : Option Ro} {k c : Nat} {x : Int} {a b : Bool} (h : (c, x, a) ∈ one o k b) : c = k ∧ a = b ∧ ∃ r, o = some r ∧ r.l[k]? = some x := by
  unfold one at h
  cases o with
  | none => simp at h
  | some r =>
    dsimp only at h
    split at h
    · simp at h
    · rename_i y hy
      simp at h
      obtain ⟨rfl, rfl, rfl⟩ := h
      exact ⟨rfl, rfl, r, rfl, hy⟩
theorem one_in {r : Ro} {k : Nat} {x : Int} {b : Bool} (h : r.l[k]? = some x) : (k, x, b) ∈ one (some r) k b := by rw [one_some b h]; simp
theorem alike_symm (o n : Option Ro) (k : Nat) : alikeB n o k = alikeB o n k := by
  unfold alikeB
  cases o <;> cases n <;> simp [eq_comm]
theorem chg1_symm {o n : Option Ro} {k c : Nat} {x : Int} {a : Bool} (h : (c, x, a) ∈ chg1 o n k) : (c, x, !a) ∈ chg1 n o k := by
  unfold chg1 at h ⊢
  rw [alike_symm]
  split at h
  · simp at h
  · rename_i hal
    rw [if_neg hal]
    rcases List.mem_append.1 h with h | h
    · obtain ⟨rfl, rfl, r, rfl, hx⟩ := one_mem h
      exact List.mem_append_right _ (one_in hx)
    · obtain ⟨rfl, rfl, r, rfl, hx⟩ := one_mem h
      exact List.mem_append_left _ (one_in hx)
theorem one_len_any (o : Option Ro) (k : Nat) (a b : Bool) : (one o k a).length = (one o k b).length := by
  unfold one
  cases o with
  | none => rfl
  | some r => dsimp only; split <;> rfl
theorem chg1_len_symm (o n : Option Ro) (k : Nat) : (chg1 n o k).length = (chg1 o n k).length := by
  unfold chg1
  rw [alike_symm]
  split
  · rfl
  · rw [List.length_append, List.length_append, one_len_any n k false true, one_len_any o k true false]; omega
theorem upto_len_symm (o n : Option Ro) : ∀ k, (upto n o k).length = (upto o n k).length
  | 0 => rfl
  | k + 1 => by rw [upto_succ, upto_succ, List.length_append, List.length_append, upto_len_symm o n k, chg1_len_symm]
theorem upto_none (k : Nat) : upto none none k = [] := by
  unfold upto
  rw [List.flatMap_eq_nil_iff]
  intro x _
  rfl
theorem upto_self (o : Option Ro) (k : Nat) : upto o o k = [] := by
  cases o with
  | none => exact upto_none k
  | some r => exact upto_same r k
theorem twice_fact {r s : Ro} {had has a : Bool} {c : Nat} {x : Int} (h : (c, x, a) ∈ upto (opt r had) (opt s has) 4) :
    c < 4 ∧ (a = true → has = true ∧ s.l[c]? = some x) ∧ (a = false → had = true ∧ r.l[c]? = some x) ∧ (c, x, !a) ∈ upto (opt s has) (opt r had) 4 := by
  unfold upto at h ⊢
  rw [List.mem_flatMap] at h
  obtain ⟨k, hk, h⟩ := h
  have hk4 := List.mem_range.1 hk
  have hs := chg1_symm h
  unfold chg1 at h
  split at h
  · simp at h
  · rcases List.mem_append.1 h with h | h
    · obtain ⟨rfl, rfl, r', ho, hx⟩ := one_mem h
      refine ⟨hk4, (fun h => by cases h), fun _ => ?_, List.mem_flatMap.2 ⟨_, hk, hs⟩⟩
      cases had with
      | false => cases ho
      | true => injection ho with ho; subst ho; exact ⟨rfl, hx⟩
    · obtain ⟨rfl, rfl, r', ho, hx⟩ := one_mem h
      refine ⟨hk4, fun _ => ?_, (fun h => by cases h), List.mem_flatMap.2 ⟨_, hk, hs⟩⟩
      cases has with
      | false => cases ho
      | true => injection ho with ho; subst ho; exact ⟨rfl, hx⟩
/-- Has one of these been met: the same column and value, the other way round? -/
def metB (c : Nat) (x : Int) (a : Bool) (l : List Cg) : Bool := l.any fun y => decide (y.1 = c) && decide (y.2.1 = x) && (y.2.2 != a)
theorem metB_succ {c k c' : Nat} {x x' : Int} {a a' : Bool} {l : List Cg} (h : l[k]? = some (c', x', a')) : metB c x a (l.take (k + 1)) = (metB c x a (l.take k) || (decide (c' = c) && decide (x' = x) && (a' != a))) := by
  unfold metB
  rw [List.take_add_one, h, List.any_append]
  simp
theorem metB_all {c : Nat} {x : Int} {a : Bool} {l : List Cg} (h : (c, x, !a) ∈ l) : metB c x a l = true := by
  unfold metB
  rw [List.any_eq_true]
  exact ⟨_, h, by cases a <;> simp⟩

set_option maxHeartbeats 4000000 in
set_option maxRecDepth 100000 in
theorem rowstwice_any (w : World) (ks : List Nat) (r s : Ro) (had has : Bool) : Calls Try.prog 7 #[.string (str ks), turnv r had s has] w (Yes w) := by
  have hsz := str_size ks
  have HB0 : Hid (Below w.heap.size w (w.alloc (.cells (turnc r had s has) 36))) := (Below.refl _ _).alloc (Nat.le_refl _) _
  have HL0 := hid (TLies.new w r s had has)
  unfold turnv turnc
  obtain ⟨q4, q9⟩ := HL0.out.is
  dsimp only [turnc] at q4 q9
  obtain ⟨P, hP⟩ : ∃ P : Value, P = if had then .pointer (some ⟨w.heap.size, 0, none⟩) else .pointer none := ⟨_, rfl⟩
  obtain ⟨Q, hQ⟩ : ∃ Q : Value, Q = if has then .pointer (some ⟨w.heap.size, 5, none⟩) else .pointer none := ⟨_, rfl⟩
  have HPO : Hid (PRow (w.alloc (.cells (turnc r had s has) 36)).drew P (opt r had)) := by
    show PRow _ _ _
    rw [hP]; exact HL0.out.pold
  have HPN : Hid (PRow (w.alloc (.cells (turnc r had s has) 36)).drew Q (opt s has)) := by
    show PRow _ _ _
    rw [hQ]; exact HL0.out.pnow
  have PV := hid hP
  have QV := hid hQ
  clear hP hQ
  have HB0D : Hid (Below w.heap.size w (w.alloc (.cells (turnc r had s has) 36)).drew) := HB0.out.drew
  have HL0D : Hid (TLies (w.alloc (.cells (turnc r had s has) 36)).drew w.heap.size r had s has) := HL0.out
  dsimp only [turnc] at HPO HPN HB0D HL0D
  go_enter Try.func7, Try.ntmps7
  go_wp2_with fail
  go_region_held3 (fun W => W.cell? ⟨w.heap.size, 4, none⟩ = some (.bool had) ∧ W.cell? ⟨w.heap.size, 9, none⟩ = some (.bool has))
    (first | exact ⟨q4, q9⟩ | exact HQ1.out)
    (first
      | (go_at_call 16; ((with_reducible refine (pointer_val _ _ had P PV.out).mono ?_); rintro e w0 ⟨rfl, rfl⟩))
      | (go_at_call 16; ((with_reducible refine (pointer_val _ _ has Q QV.out).mono ?_); rintro e w0 ⟨rfl, rfl⟩))
      | (go_at_call 15; ((with_reducible refine (changes_any _ ks _ _ _ _ HPO.out HPN.out).mono ?_); rintro e w1 ⟨u1, rfl, hu, hb⟩; have HU1 := hid hu; have HB1 := hid hb; have HL1 := hid (HL0D.out.below hb); have HQ1 := hid HL1.out.is; clear hu hb)))
  have HPO1 : Hid (PRow w1.drew P (opt r had)) := by
    show PRow _ _ _
    rw [PV.out]; exact HL1.out.pold
  have HPN1 : Hid (PRow w1.drew Q (opt s has)) := by
    show PRow _ _ _
    rw [QV.out]; exact HL1.out.pnow
  have HL1D : Hid (TLies w1.drew w.heap.size r had s has) := HL1.out
  clear q4 q9
  obtain ⟨q4, q9⟩ := HL1.out.is
  go_wp2_with fail
  go_region_held3 (fun W => W.cell? ⟨w.heap.size, 4, none⟩ = some (.bool had) ∧ W.cell? ⟨w.heap.size, 9, none⟩ = some (.bool has))
    (first | exact ⟨q4, q9⟩ | exact HQ2.out)
    (first
      | (go_at_call 16; ((with_reducible refine (pointer_val _ _ has Q QV.out).mono ?_); rintro e w0 ⟨rfl, rfl⟩))
      | (go_at_call 16; ((with_reducible refine (pointer_val _ _ had P PV.out).mono ?_); rintro e w0 ⟨rfl, rfl⟩))
      | (go_at_call 15; ((with_reducible refine (changes_any _ ks _ _ _ _ HPN1.out HPO1.out).mono ?_); rintro e w2 ⟨u2, rfl, hu, hb⟩; have HU2 := hid hu; have HB2 := hid hb; have HL2 := hid (HL1D.out.below hb); have HQ2 := hid HL2.out.is; clear hu hb)))
  have HPO2 : Hid (PRow w2.drew P (opt r had)) := by
    show PRow _ _ _
    rw [PV.out]; exact HL2.out.pold
  have HPN2 : Hid (PRow w2.drew Q (opt s has)) := by
    show PRow _ _ _
    rw [QV.out]; exact HL2.out.pnow
  have HL2D : Hid (TLies w2.drew w.heap.size r had s has) := HL2.out
  clear q4 q9
  obtain ⟨q4, q9⟩ := HL2.out.is
  go_wp2_with fail
  go_region_held3 (fun W => W.cell? ⟨w.heap.size, 4, none⟩ = some (.bool had) ∧ W.cell? ⟨w.heap.size, 9, none⟩ = some (.bool has))
    (first | exact ⟨q4, q9⟩ | exact HQ3.out)
    (first
      | (go_at_call 16; ((with_reducible refine (pointer_val _ _ had P PV.out).mono ?_); rintro e w0 ⟨rfl, rfl⟩))
      | (go_at_call 15; ((with_reducible refine (changes_any _ ks _ _ _ _ HPO2.out HPO2.out).mono ?_); rintro e w3 ⟨u3, rfl, hu, hb⟩; have HU3 := hid hu; have HB3 := hid hb; have HL3 := hid (HL2D.out.below hb); have HQ3 := hid HL3.out.is; clear hu hb)))
  obtain ⟨A1, n1, c1, rfl⟩ := HU1.out.form
  obtain ⟨A2, n2, c2, rfl⟩ := HU2.out.form
  obtain ⟨A3, n3, c3, rfl⟩ := HU3.out.form
  have hn1 := HU1.out.cap.1
  have hn2 := HU2.out.cap.1
  have hn3 := HU3.out.cap.1
  rw [upto_self, ite_self] at hn3
  have hn3' : n3 = 0 := hn3
  subst hn3'
  have HW1 : Hid (Below w.heap.size w w1) := below_step HB0D.out HB1.out
  have HW2 : Hid (Below w.heap.size w w2) := below_step HW1.out.drew HB2.out
  have HW3 : Hid (Below w.heap.size w w3) := below_step HW2.out.drew HB3.out
  have hkl := keyB_len ks
  have HE2 : Hid (Elems 4 (cC (str ks)) w3 (.slice A2 n2 c2) (if keyB ks = true then upto (opt s has) (opt r had) 4 else [])) :=
    (show Elems 4 (cC (str ks)) w2.drew _ _ from HU2.out).below HB3.out
  have HE1 : Hid (Elems 4 (cC (str ks)) w3 (.slice A1 n1 c1) (if keyB ks = true then upto (opt r had) (opt s has) 4 else [])) := by
    have e1 : Elems 4 (cC (str ks)) w2 _ _ := (show Elems 4 (cC (str ks)) w1.drew _ _ from HU1.out).below HB2.out
    exact (show Elems 4 (cC (str ks)) w2.drew _ _ from e1).below HB3.out
  clear q4 q9 HU1 HU2 HU3 hn3
  cases hk : keyB ks with
  | false =>
    have hce : checkE ks = 13 := by unfold checkE; rw [hk]; rfl
    rw [hk] at hn1 hn2
    simp only [Bool.false_eq_true, if_false, List.length_nil] at hn1 hn2
    subst hn1
    subst hn2
    rw [hce]
    clear hk hkl hce
    go_wp2_with fail
    refine (awake6 _).mono ?_
    rintro e w4 ⟨rfl, hb4⟩
    have HB4 : Hid (Below w.heap.size w w4) := HW3.out.trans (hb4.mono HW3.out.size)
    clear hb4
    go_wp2
    go_ret
    exact ⟨rfl, HB4.out⟩
  | true =>
    have hce : checkE ks = 0 := by unfold checkE; rw [hk]; rfl
    rw [hk] at hn1 hn2
    rw [if_pos rfl] at hn1 hn2
    rw [hce]
    obtain ⟨la, HLA⟩ : ∃ l, Hid (l = upto (opt r had) (opt s has) 4) := ⟨_, rfl⟩
    obtain ⟨lb, HLB⟩ : ∃ l, Hid (l = upto (opt s has) (opt r had) 4) := ⟨_, rfl⟩
    have HEA : Hid (Elems 4 (cC (str ks)) w3 (.slice A1 n1 c1) la) := by
      have h := HE1.out
      rw [hk, if_pos rfl, ← HLA.out] at h
      exact h
    have HEB : Hid (Elems 4 (cC (str ks)) w3 (.slice A2 n2 c2) lb) := by
      have h := HE2.out
      rw [hk, if_pos rfl, ← HLB.out] at h
      exact h
    rw [← HLA.out] at hn1
    rw [← HLB.out] at hn2
    have hl8 : la.length ≤ 8 := by rw [HLA.out]; exact upto_len _ _ 4
    have hle : lb.length = la.length := by rw [HLA.out, HLB.out]; exact upto_len_symm _ _ 4
    have hnn : n2 = n1 := by omega
    subst hnn
    have hn8 : n2 ≤ 8 := by omega
    have HNA := hid hn1
    have HNB := hid hn2
    obtain ⟨q4, q9⟩ := HL3.out.is
    have HFA : Hid (∀ c x a, (c, x, a) ∈ la → c < 4 ∧ (a = true → has = true ∧ s.l[c]? = some x) ∧ (a = false → had = true ∧ r.l[c]? = some x) ∧ (c, x, !a) ∈ lb) := by
      intro c x a h
      rw [HLA.out] at h
      rw [HLB.out]
      exact twice_fact h
    clear hk hkl hce hn1 hn2 hle HE1 HE2 HLA HLB hl8
    have HQ4 := hid q4
    have HQ9 := hid q9
    cases had with
    | false =>
      go_wp2
      go_loopw [11] (fun i wr => ∃ j : Nat, j ≤ n2 ∧ i = .int .i64 j ∧ ∃ m, wr = w3.drewN m) (fun i _ => n2 - (intOf i).toNat)
      case atStart => exact ⟨0, by omega, rfl, 0, rfl⟩
      case round =>
        obtain ⟨j, hj, rfl, m, rfl⟩ := hrel
        by_cases hlt : j < n2
        · obtain ⟨⟨c, x, a⟩, hc⟩ : ∃ c, la[j]? = some c := ⟨la[j]'(by have := HNA.out; omega), List.getElem?_eq_getElem _⟩
          obtain ⟨hc4, hat, haf, hin⟩ := HFA.out c x a (List.mem_of_getElem? hc)
          obtain ⟨ad, rfl, p0, p1, p2, p3⟩ := HEA.out.cat hc
          dsimp only at p0 p1 p2 p3
          have hlt' : (j : Int) < n2 := by omega
          have hd0 : decide ((c : Int) < 0) = false := by simp
          have hd3 : decide ((3 : Int) < (c : Int)) = false := by simp; omega
          have hd3' : decide (3 < c) = false := by simp; omega
          have h4 : (c : Int) < 4 := by omega
          obtain ⟨y, hy⟩ := r.at_ hc4
          have a0 := HL3.out.old hy
          rw [Nat.zero_add] at a0
          have HIN := hid hin
          clear hc hin
          cases a with
          | true =>
            obtain ⟨hh, hx⟩ := hat rfl
            subst hh
            have az := HL3.out.now hx
            clear hat haf hx hy
            go_wp2
            go_loopw [13, 14] (fun b i wr => ∃ k : Nat, k ≤ n2 ∧ ∃ B : Bool, b = .bool B ∧ metB c x true (lb.take k) = B ∧ i = .int .i64 k ∧ ∃ m, wr = w3.drewN m) (fun _ i _ => n2 - (intOf i).toNat)
            case atStart => exact ⟨0, by omega, false, rfl, rfl, rfl, _, rfl⟩
            case round =>
              obtain ⟨k, hk, B, rfl, hB, rfl, m2, rfl⟩ := hrel
              have HBM := hid hB
              clear hB
              by_cases hkl : k < n2
              · obtain ⟨⟨c', x', a'⟩, hc'⟩ : ∃ c, lb[k]? = some c := ⟨lb[k]'(by have := HNB.out; omega), List.getElem?_eq_getElem _⟩
                obtain ⟨ad', rfl, t0, t1, t2, t3⟩ := HEB.out.cat hc'
                dsimp only at t0 t1 t2 t3
                have hms := metB_succ (c := c) (x := x) (a := true) hc'
                rw [HBM.out] at hms
                have HMS := hid hms
                have hkl' : (k : Int) < n2 := by omega
                clear hc' hms
                cases B with
                | true =>
                  as_aux_lemma =>
                    go_wp2
                    go_quiet (fail)
                    go_wp2
                    go_roundw
                    case rel => first | exact ⟨k + 1, by omega, true, rfl, by rw [HMS.out]; rfl, by go_num, _, rfl⟩ | ((repeat apply Exists.intro); refine ⟨?_, rfl⟩; exact ⟨k + 1, by omega, true, rfl, by rw [HMS.out]; rfl, by go_num, _, rfl⟩)
                    case measure => simp [intOf]; omega
                | false =>
                  by_cases hcc : c' = c
                  · subst hcc
                    by_cases hxx : x' = x
                    · subst hxx
                      have heq1 : ∀ w, _ := fun w => (eq_ent x' x' (str ks) (str ks) w).trans (by rw [decide_eq_true ⟨rfl, rfl⟩])
                      cases a' with
                      | true =>
                        as_aux_lemma =>
                          go_wp2
                          go_quiet (fail)
                          go_wp2
                          go_roundw
                          case rel => first | exact ⟨k + 1, by omega, false, rfl, by rw [HMS.out]; simp, by go_num, _, rfl⟩ | ((repeat apply Exists.intro); refine ⟨?_, rfl⟩; exact ⟨k + 1, by omega, false, rfl, by rw [HMS.out]; simp, by go_num, _, rfl⟩)
                          case measure => simp [intOf]; omega
                      | false =>
                        as_aux_lemma =>
                          go_wp2
                          go_quiet (fail)
                          go_wp2
                          go_roundw
                          case rel => first | exact ⟨k + 1, by omega, true, rfl, by rw [HMS.out]; simp, by go_num, _, rfl⟩ | ((repeat apply Exists.intro); refine ⟨?_, rfl⟩; exact ⟨k + 1, by omega, true, rfl, by rw [HMS.out]; simp, by go_num, _, rfl⟩)
                          case measure => simp [intOf]; omega
                    · have heq1 : ∀ w, _ := fun w => (eq_ent x' x (str ks) (str ks) w).trans (by rw [decide_eq_false (fun h => hxx h.1)])
                      as_aux_lemma =>
                        go_wp2
                        go_quiet (fail)
                        go_wp2
                        go_roundw
                        case rel => first | exact ⟨k + 1, by omega, false, rfl, by rw [HMS.out]; simp [hxx], by go_num, _, rfl⟩ | ((repeat apply Exists.intro); refine ⟨?_, rfl⟩; exact ⟨k + 1, by omega, false, rfl, by rw [HMS.out]; simp [hxx], by go_num, _, rfl⟩)
                        case measure => simp [intOf]; omega
                  · have he1 : decide ((c' : Int) = (c : Int)) = false := by simp; omega
                    have he2 : decide (c' = c) = false := by simp; omega
                    have he3 : ((c' : Int) == (c : Int)) = false := by simp; omega
                    as_aux_lemma =>
                      go_wp2
                      go_quiet (fail)
                      go_wp2
                      go_roundw
                      case rel => first | exact ⟨k + 1, by omega, false, rfl, by rw [HMS.out]; simp [hcc], by go_num, _, rfl⟩ | ((repeat apply Exists.intro); refine ⟨?_, rfl⟩; exact ⟨k + 1, by omega, false, rfl, by rw [HMS.out]; simp [hcc], by go_num, _, rfl⟩)
                      case measure => simp [intOf]; omega
              · obtain rfl : k = n2 := by omega
                have hend := HBM.out
                rw [List.take_of_length_le (by have := HNB.out; omega), metB_all HIN.out] at hend
                subst hend
                have q4 := HQ4.out
                have q9 := HQ9.out
                go_wp2
                go_roundw
                case rel => first | exact ⟨j + 1, by omega, by go_num, _, rfl⟩ | ((repeat apply Exists.intro); refine ⟨?_, rfl⟩; exact ⟨j + 1, by omega, by go_num, _, rfl⟩)
                case measure => simp [intOf]; omega
          | false =>
            obtain ⟨hh, hx⟩ := haf rfl
            cases hh
        · go_wp2_with fail
          refine (awake6 _).mono ?_
          rintro e w4 ⟨rfl, hb4⟩
          have HB4 : Hid (Below w.heap.size w w4) := (below_drewN' HW3.out m).trans (hb4.mono (below_drewN' HW3.out m).size)
          clear hb4
          go_wp2
          go_ret
          exact ⟨rfl, HB4.out⟩
    | true =>
      go_wp2
      go_loopw [11] (fun i wr => ∃ j : Nat, j ≤ n2 ∧ i = .int .i64 j ∧ ∃ m, wr = w3.drewN m) (fun i _ => n2 - (intOf i).toNat)
      case atStart => exact ⟨0, by omega, rfl, 0, rfl⟩
      case round =>
        obtain ⟨j, hj, rfl, m, rfl⟩ := hrel
        by_cases hlt : j < n2
        · obtain ⟨⟨c, x, a⟩, hc⟩ : ∃ c, la[j]? = some c := ⟨la[j]'(by have := HNA.out; omega), List.getElem?_eq_getElem _⟩
          obtain ⟨hc4, hat, haf, hin⟩ := HFA.out c x a (List.mem_of_getElem? hc)
          obtain ⟨ad, rfl, p0, p1, p2, p3⟩ := HEA.out.cat hc
          dsimp only at p0 p1 p2 p3
          have hlt' : (j : Int) < n2 := by omega
          have hd0 : decide ((c : Int) < 0) = false := by simp
          have hd3 : decide ((3 : Int) < (c : Int)) = false := by simp; omega
          have hd3' : decide (3 < c) = false := by simp; omega
          have h4 : (c : Int) < 4 := by omega
          obtain ⟨y, hy⟩ := r.at_ hc4
          have a0 := HL3.out.old hy
          rw [Nat.zero_add] at a0
          have HIN := hid hin
          clear hc hin
          cases a with
          | true =>
            obtain ⟨hh, hx⟩ := hat rfl
            subst hh
            have az := HL3.out.now hx
            clear hat haf hx hy
            go_wp2
            go_loopw [13, 14] (fun b i wr => ∃ k : Nat, k ≤ n2 ∧ ∃ B : Bool, b = .bool B ∧ metB c x true (lb.take k) = B ∧ i = .int .i64 k ∧ ∃ m, wr = w3.drewN m) (fun _ i _ => n2 - (intOf i).toNat)
            case atStart => exact ⟨0, by omega, false, rfl, rfl, rfl, _, rfl⟩
            case round =>
              obtain ⟨k, hk, B, rfl, hB, rfl, m2, rfl⟩ := hrel
              have HBM := hid hB
              clear hB
              by_cases hkl : k < n2
              · obtain ⟨⟨c', x', a'⟩, hc'⟩ : ∃ c, lb[k]? = some c := ⟨lb[k]'(by have := HNB.out; omega), List.getElem?_eq_getElem _⟩
                obtain ⟨ad', rfl, t0, t1, t2, t3⟩ := HEB.out.cat hc'
                dsimp only at t0 t1 t2 t3
                have hms := metB_succ (c := c) (x := x) (a := true) hc'
                rw [HBM.out] at hms
                have HMS := hid hms
                have hkl' : (k : Int) < n2 := by omega
                clear hc' hms
                cases B with
                | true =>
                  as_aux_lemma =>
                    go_wp2
                    go_quiet (fail)
                    go_wp2
                    go_roundw
                    case rel => first | exact ⟨k + 1, by omega, true, rfl, by rw [HMS.out]; rfl, by go_num, _, rfl⟩ | ((repeat apply Exists.intro); refine ⟨?_, rfl⟩; exact ⟨k + 1, by omega, true, rfl, by rw [HMS.out]; rfl, by go_num, _, rfl⟩)
                    case measure => simp [intOf]; omega
                | false =>
                  by_cases hcc : c' = c
                  · subst hcc
                    by_cases hxx : x' = x
                    · subst hxx
                      have heq1 : ∀ w, _ := fun w => (eq_ent x' x' (str ks) (str ks) w).trans (by rw [decide_eq_true ⟨rfl, rfl⟩])
                      cases a' with
                      | true =>
                        as_aux_lemma =>
                          go_wp2
                          go_quiet (fail)
                          go_wp2
                          go_roundw
                          case rel => first | exact ⟨k + 1, by omega, false, rfl, by rw [HMS.out]; simp, by go_num, _, rfl⟩ | ((repeat apply Exists.intro); refine ⟨?_, rfl⟩; exact ⟨k + 1, by omega, false, rfl, by rw [HMS.out]; simp, by go_num, _, rfl⟩)
                          case measure => simp [intOf]; omega
                      | false =>
                        as_aux_lemma =>
                          go_wp2
                          go_quiet (fail)
                          go_wp2
                          go_roundw
                          case rel => first | exact ⟨k + 1, by omega, true, rfl, by rw [HMS.out]; simp, by go_num, _, rfl⟩ | ((repeat apply Exists.intro); refine ⟨?_, rfl⟩; exact ⟨k + 1, by omega, true, rfl, by rw [HMS.out]; simp, by go_num, _, rfl⟩)
                          case measure => simp [intOf]; omega
                    · have heq1 : ∀ w, _ := fun w => (eq_ent x' x (str ks) (str ks) w).trans (by rw [decide_eq_false (fun h => hxx h.1)])
                      as_aux_lemma =>
                        go_wp2
                        go_quiet (fail)
                        go_wp2
                        go_roundw
                        case rel => first | exact ⟨k + 1, by omega, false, rfl, by rw [HMS.out]; simp [hxx], by go_num, _, rfl⟩ | ((repeat apply Exists.intro); refine ⟨?_, rfl⟩; exact ⟨k + 1, by omega, false, rfl, by rw [HMS.out]; simp [hxx], by go_num, _, rfl⟩)
                        case measure => simp [intOf]; omega
                  · have he1 : decide ((c' : Int) = (c : Int)) = false := by simp; omega
                    have he2 : decide (c' = c) = false := by simp; omega
                    have he3 : ((c' : Int) == (c : Int)) = false := by simp; omega
                    as_aux_lemma =>
                      go_wp2
                      go_quiet (fail)
                      go_wp2
                      go_roundw
                      case rel => first | exact ⟨k + 1, by omega, false, rfl, by rw [HMS.out]; simp [hcc], by go_num, _, rfl⟩ | ((repeat apply Exists.intro); refine ⟨?_, rfl⟩; exact ⟨k + 1, by omega, false, rfl, by rw [HMS.out]; simp [hcc], by go_num, _, rfl⟩)
                      case measure => simp [intOf]; omega
              · obtain rfl : k = n2 := by omega
                have hend := HBM.out
                rw [List.take_of_length_le (by have := HNB.out; omega), metB_all HIN.out] at hend
                subst hend
                have q4 := HQ4.out
                have q9 := HQ9.out
                go_wp2
                go_roundw
                case rel => first | exact ⟨j + 1, by omega, by go_num, _, rfl⟩ | ((repeat apply Exists.intro); refine ⟨?_, rfl⟩; exact ⟨j + 1, by omega, by go_num, _, rfl⟩)
                case measure => simp [intOf]; omega
          | false =>
            obtain ⟨hh, hx⟩ := haf rfl
            have az := HL3.out.old hx
            rw [Nat.zero_add] at az
            clear hat haf hx hy hh a0
            go_wp2
            go_loopw [13, 14] (fun b i wr => ∃ k : Nat, k ≤ n2 ∧ ∃ B : Bool, b = .bool B ∧ metB c x false (lb.take k) = B ∧ i = .int .i64 k ∧ ∃ m, wr = w3.drewN m) (fun _ i _ => n2 - (intOf i).toNat)
            case atStart => exact ⟨0, by omega, false, rfl, rfl, rfl, _, rfl⟩
            case round =>
              obtain ⟨k, hk, B, rfl, hB, rfl, m2, rfl⟩ := hrel
              have HBM := hid hB
              clear hB
              by_cases hkl : k < n2
              · obtain ⟨⟨c', x', a'⟩, hc'⟩ : ∃ c, lb[k]? = some c := ⟨lb[k]'(by have := HNB.out; omega), List.getElem?_eq_getElem _⟩
                obtain ⟨ad', rfl, t0, t1, t2, t3⟩ := HEB.out.cat hc'
                dsimp only at t0 t1 t2 t3
                have hms := metB_succ (c := c) (x := x) (a := false) hc'
                rw [HBM.out] at hms
                have HMS := hid hms
                have hkl' : (k : Int) < n2 := by omega
                clear hc' hms
                cases B with
                | true =>
                  as_aux_lemma =>
                    go_wp2
                    go_quiet (fail)
                    go_wp2
                    go_roundw
                    case rel => first | exact ⟨k + 1, by omega, true, rfl, by rw [HMS.out]; rfl, by go_num, _, rfl⟩ | ((repeat apply Exists.intro); refine ⟨?_, rfl⟩; exact ⟨k + 1, by omega, true, rfl, by rw [HMS.out]; rfl, by go_num, _, rfl⟩)
                    case measure => simp [intOf]; omega
                | false =>
                  by_cases hcc : c' = c
                  · subst hcc
                    by_cases hxx : x' = x
                    · subst hxx
                      have heq1 : ∀ w, _ := fun w => (eq_ent x' x' (str ks) (str ks) w).trans (by rw [decide_eq_true ⟨rfl, rfl⟩])
                      cases a' with
                      | true =>
                        as_aux_lemma =>
                          go_wp2
                          go_quiet (fail)
                          go_wp2
                          go_roundw
                          case rel => first | exact ⟨k + 1, by omega, true, rfl, by rw [HMS.out]; simp, by go_num, _, rfl⟩ | ((repeat apply Exists.intro); refine ⟨?_, rfl⟩; exact ⟨k + 1, by omega, true, rfl, by rw [HMS.out]; simp, by go_num, _, rfl⟩)
                          case measure => simp [intOf]; omega
                      | false =>
                        as_aux_lemma =>
                          go_wp2
                          go_quiet (fail)
                          go_wp2
                          go_roundw
                          case rel => first | exact ⟨k + 1, by omega, false, rfl, by rw [HMS.out]; simp, by go_num, _, rfl⟩ | ((repeat apply Exists.intro); refine ⟨?_, rfl⟩; exact ⟨k + 1, by omega, false, rfl, by rw [HMS.out]; simp, by go_num, _, rfl⟩)
                          case measure => simp [intOf]; omega
                    · have heq1 : ∀ w, _ := fun w => (eq_ent x' x (str ks) (str ks) w).trans (by rw [decide_eq_false (fun h => hxx h.1)])
                      as_aux_lemma =>
                        go_wp2
                        go_quiet (fail)
                        go_wp2
                        go_roundw
                        case rel => first | exact ⟨k + 1, by omega, false, rfl, by rw [HMS.out]; simp [hxx], by go_num, _, rfl⟩ | ((repeat apply Exists.intro); refine ⟨?_, rfl⟩; exact ⟨k + 1, by omega, false, rfl, by rw [HMS.out]; simp [hxx], by go_num, _, rfl⟩)
                        case measure => simp [intOf]; omega
                  · have he1 : decide ((c' : Int) = (c : Int)) = false := by simp; omega
                    have he2 : decide (c' = c) = false := by simp; omega
                    have he3 : ((c' : Int) == (c : Int)) = false := by simp; omega
                    as_aux_lemma =>
                      go_wp2
                      go_quiet (fail)
                      go_wp2
                      go_roundw
                      case rel => first | exact ⟨k + 1, by omega, false, rfl, by rw [HMS.out]; simp [hcc], by go_num, _, rfl⟩ | ((repeat apply Exists.intro); refine ⟨?_, rfl⟩; exact ⟨k + 1, by omega, false, rfl, by rw [HMS.out]; simp [hcc], by go_num, _, rfl⟩)
                      case measure => simp [intOf]; omega
              · obtain rfl : k = n2 := by omega
                have hend := HBM.out
                rw [List.take_of_length_le (by have := HNB.out; omega), metB_all HIN.out] at hend
                subst hend
                have q4 := HQ4.out
                have q9 := HQ9.out
                go_wp2
                go_roundw
                case rel => first | exact ⟨j + 1, by omega, by go_num, _, rfl⟩ | ((repeat apply Exists.intro); refine ⟨?_, rfl⟩; exact ⟨j + 1, by omega, by go_num, _, rfl⟩)
                case measure => simp [intOf]; omega
        · go_wp2_with fail
          refine (awake6 _).mono ?_
          rintro e w4 ⟨rfl, hb4⟩
          have HB4 : Hid (Below w.heap.size w w4) := (below_drewN' HW3.out m).trans (hb4.mono (below_drewN' HW3.out m).size)
          clear hb4
          go_wp2
          go_ret
          exact ⟨rfl, HB4.out⟩
end Go.Proofs.Ytcnhklmfahbaoaa
