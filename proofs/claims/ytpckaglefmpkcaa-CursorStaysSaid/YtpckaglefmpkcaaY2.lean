/- The reference's In and Range; CursorScans. -/
import Derived.Test.YtpckaglefmpkcaaY1
import Derived.Test.YtpckaglefmpkcaaW10
namespace Go.Proofs.Ytpckaglefmpkcaa
open Go.RowKit
set_option maxRecDepth 100000

def inB (lo hi k : List Nat) : Bool := decide (¬ k < lo ∧ (hi = [] ∨ k < hi))
theorem in_any (w : World) (k lo hi : List Nat) (bk : Byt k) (blo : Byt lo) (bhi : Byt hi) : Calls Try.prog 41 #[.string (str k), .string (str lo), .string (str hi)] w fun e w' => e = .returned (.bool (inB lo hi k)) ∧ w' = w := by
  unfold inB
  by_cases h1 : k < lo
  · have e1 : Op.bytesLess (str k).toList (str lo).toList = true := by rw [less_str bk blo, decide_eq_true h1]
    rw [decide_eq_false (fun h => h.1 h1)]
    go_enter Try.func41, Try.ntmps41
    go_wp2
    go_ret
    exact ⟨rfl, rfl⟩
  · have e1 : Op.bytesLess (str k).toList (str lo).toList = false := by rw [less_str bk blo, decide_eq_false h1]
    by_cases h2 : hi = []
    · subst h2
      rw [decide_eq_true ⟨h1, .inl rfl⟩, ← str_nil]
      go_enter Try.func41, Try.ntmps41
      go_wp2
      go_ret
      exact ⟨rfl, rfl⟩
    · obtain ⟨n1, n2⟩ := ne_nil_str h2
      by_cases h3 : k < hi
      · have e2 : Op.bytesLess (str k).toList (str hi).toList = true := by rw [less_str bk bhi, decide_eq_true h3]
        rw [decide_eq_true ⟨h1, .inr h3⟩]
        go_enter Try.func41, Try.ntmps41
        go_wp2
        go_ret
        exact ⟨rfl, rfl⟩
      · have e2 : Op.bytesLess (str k).toList (str hi).toList = false := by rw [less_str bk bhi, decide_eq_false h3]
        rw [decide_eq_false (fun h => h.2.elim h2 h3)]
        go_enter Try.func41, Try.ntmps41
        go_wp2
        go_ret
        exact ⟨rfl, rfl⟩
def inQ (lo hi : List Nat) (q : Pr) : Bool := inB lo hi q.1
theorem filter_take_succ {f : Pr → Bool} {l : List Pr} {k : Nat} {q : Pr} (h : l[k]? = some q) : (l.take (k + 1)).filter f = (l.take k).filter f ++ if f q = true then [q] else [] := by
  rw [List.take_add_one, h]
  simp only [Option.toList_some, List.filter_append]
  congr 1
  by_cases hf : f q = true
  · rw [if_pos hf]; simp [hf]
  · rw [if_neg hf]; simp [hf]
theorem filter_take_end {f : Pr → Bool} {l : List Pr} {k most : Nat} (h1 : ((l.take k).filter f).length ≤ most) (h2 : l.length ≤ k ∨ ((l.take k).filter f).length = most) : (l.take k).filter f = (l.filter f).take most := by
  rcases h2 with h2 | h2
  · rw [List.take_of_length_le h2] at h1 ⊢
    exact (List.take_of_length_le h1).symm
  · have e : l.filter f = (l.take k).filter f ++ (l.drop k).filter f := by rw [← List.filter_append, List.take_append_drop]
    rw [e, ← h2, List.take_left]
/-- What lies in a range is a segment. -/
theorem filter_seg {l : List Pr} (hr : Rising l) (lo hi : List Nat) (_h0 : hi = [] ∨ ¬ hi < lo) : l.filter (inQ lo hi) = (l.take (endN l hi)).drop (atN l lo) := by
  have hsel : ∀ (i : Nat) (q : Pr), l[i]? = some q → (inQ lo hi q = true ↔ atN l lo ≤ i ∧ i < endN l hi) := fun i q hi' => by
    have hlt := (List.getElem?_eq_some_iff.1 hi').1
    have h1 := atN_iff (k := lo) hr hi'
    unfold inQ inB endN
    rw [decide_eq_true_iff]
    by_cases hn : hi = []
    · rw [if_pos hn]
      constructor
      · rintro ⟨a, _⟩; exact ⟨Nat.le_of_not_lt fun h => a (h1.2 h), hlt⟩
      · rintro ⟨a, _⟩; exact ⟨fun h => by have := h1.1 h; omega, .inl hn⟩
    · rw [if_neg hn]
      have h2 := atN_iff (k := hi) hr hi'
      constructor
      · rintro ⟨a, b⟩; exact ⟨Nat.le_of_not_lt fun h => a (h1.2 h), h2.1 (b.resolve_left hn)⟩
      · rintro ⟨a, b⟩; exact ⟨fun h => by have := h1.1 h; omega, .inr (h2.2 b)⟩
  have he := endN_le l hi
  have hle : atN l lo ≤ l.length := atN_le l lo
  have hall : ∀ (i j : Nat) (m : List Pr), (∀ k q, m[k]? = some q → l[i + k]? = some q) → (∀ k q, m[k]? = some q → atN l lo ≤ i + k ∧ i + k < endN l hi) → m.filter (inQ lo hi) = m := fun i j m hm hin => by
    rw [List.filter_eq_self]
    intro q hq
    obtain ⟨k, hk⟩ := List.getElem?_of_mem hq
    exact (hsel (i + k) q (hm k q hk)).2 (hin k q hk)
  have hnone : ∀ (i : Nat) (m : List Pr), (∀ k q, m[k]? = some q → l[i + k]? = some q) → (∀ k q, m[k]? = some q → i + k < atN l lo ∨ endN l hi ≤ i + k) → m.filter (inQ lo hi) = [] := fun i m hm hin => by
    rw [List.filter_eq_nil_iff]
    intro q hq ht
    obtain ⟨k, hk⟩ := List.getElem?_of_mem hq
    have := (hsel (i + k) q (hm k q hk)).1 ht
    rcases hin k q hk with h | h <;> omega
  conv => lhs; rw [← List.take_append_drop (endN l hi) l, List.filter_append]
  rw [hnone (endN l hi) (l.drop (endN l hi)) (fun k q h => by rwa [List.getElem?_drop] at h) (fun k q h => .inr (by omega)), List.append_nil]
  conv => lhs; rw [← List.take_append_drop (atN l lo) (l.take (endN l hi)), List.filter_append]
  rw [hnone 0 ((l.take (endN l hi)).take (atN l lo)) (fun k q h => by
    rw [List.getElem?_take] at h
    split at h
    · rw [List.getElem?_take] at h
      split at h
      · rwa [Nat.zero_add]
      · cases h
    · cases h) (fun k q h => by
    rw [List.getElem?_take] at h
    split at h
    · left; omega
    · cases h), List.nil_append]
  exact hall (atN l lo) 0 _ (fun k q h => by
    rw [List.getElem?_drop, List.getElem?_take] at h
    split at h
    · exact h
    · cases h) (fun k q h => by
    rw [List.getElem?_drop, List.getElem?_take] at h
    split at h
    · omega
    · cases h)
theorem filter_scan {l : List Pr} (hr : Rising l) (lo hi : List Nat) (h0 : hi = [] ∨ ¬ hi < lo) (most : Nat) : (l.filter (inQ lo hi)).take most = seg l hi (atN l lo) most := by
  rw [filter_seg hr lo hi h0]; rfl

set_option maxHeartbeats 4000000 in
theorem range_any (w : World) (F : List Nat) (p most : Nat) (l : List Pr) (lo hi : List Nat) (hR : RList w F p l) (hl : PByt l) (hsz : l.length ≤ 1000) (blo : Byt lo) (bhi : Byt hi) (hm : most ≤ 9223372036854775807) :
    Calls Try.prog 36 #[.pointer (some ⟨p, 0, none⟩), two2 lo hi, .int .i64 (most : Int)] w fun e w' =>
      ∃ v, e = .returned v ∧ OwnElems 2 cP 59 w' w.heap.size v ((l.filter (inQ lo hi)).take most) ∧ Below w.heap.size w w' := by
  obtain ⟨wB, HW⟩ : ∃ W, Hid (W = w.alloc (.cells #[.string (str lo), .string (str hi)] 48)) := ⟨_, rfl⟩
  obtain ⟨x0, x1, b0⟩ := boxed w lo hi 48
  rw [← HW.out] at x0 x1 b0
  have X0 := hid x0
  have X1 := hid x1
  have HB0 := hid b0
  have HR := hid (hR.below b0)
  have HL := hid hl
  have BLO := hid blo
  have BHI := hid bhi
  obtain ⟨ip, hip, hzp, hsp, hyp⟩ := info_parts info_pair
  obtain ⟨u, hone, hel, _⟩ := HR.out
  obtain ⟨A, cap, rfl⟩ := hel.slice
  have HONE := hid hone
  have HEL := hid hel
  obtain ⟨len, HLEN⟩ : ∃ len, Hid (len = l.length) := ⟨_, rfl⟩
  have hlen : len ≤ 1000 := by rw [HLEN.out]; exact hsz
  rw [← HLEN.out] at HONE HEL
  clear x0 x1 b0 hR hl blo bhi hone hel
  unfold two2
  go_enter Try.func36, Try.ntmps36
  go_wp2
  rw [← HW.out]
  go_loopw [7, 8] (fun out i wr => ∃ k : Nat, k ≤ len ∧ i = .int .i64 k ∧ OwnElems 2 cP 59 wr wB.heap.size out ((l.take k).filter (inQ lo hi)) ∧ Hid (((l.take k).filter (inQ lo hi)).length ≤ most) ∧ Below wB.heap.size wB wr) (fun _ i _ => len - (intOf i).toNat)
  case atStart => exact ⟨0, by omega, rfl, OwnElems.nil _ _ _ _ _, by show _ ≤ _; simp, Below.refl _ _⟩
  case round =>
    obtain ⟨k, hk, rfl, hown, HM, hb⟩ := hrel
    obtain ⟨Ao, no, co, rfl⟩ := hown.rows.form
    have hno : no = ((l.take k).filter (inQ lo hi)).length := hown.rows.cap.1
    have HOWN := hid hown
    have HB := hid hb
    have c0 := below_keep hb _ _ HONE.out.cell
    clear hown hb
    by_cases hkl : k < len
    · have hkli : (k : Int) < len := by omega
      by_cases hnm : no < most
      · have hnmi : (no : Int) < most := by omega
        obtain ⟨q, hq⟩ : ∃ q, l[k]? = some q := ⟨l[k]'(by have := HLEN.out; omega), List.getElem?_eq_getElem _⟩
        have bq := HL.out q (List.mem_of_getElem? hq)
        obtain ⟨ad, rfl, q0⟩ := (HEL.out.below HB.out).cell cP_len (j := 0) hq (u := .string (str q.1)) rfl
        obtain ⟨ad', hA, q1⟩ := (HEL.out.below HB.out).cell cP_len (j := 1) hq (u := .string (str q.2)) rfl
        injection hA with hA
        subst hA
        rw [Nat.add_zero] at q0
        rw [← add_add', Addr.add_succ' _ 0] at q1
        have x0 := below_keep HB.out _ _ X0.out
        have x1 := below_keep HB.out _ _ X1.out
        have HQ := hid (filter_take_succ (f := inQ lo hi) hq)
        have HNO := hid hno
        have hno2 : no ≤ 1000 := by
          rw [hno]
          have h1 := List.length_filter_le (inQ lo hi) (l.take k)
          rw [List.length_take] at h1
          omega
        have HBQ := hid bq
        have HIN := fun W => in_any W q.1 lo hi bq.1 BLO.out BHI.out
        have HIN' := hid HIN
        clear hq hno bq HIN
        cases hin : inB lo hi q.1 with
        | true =>
          have HT : Hid ((l.take (k + 1)).filter (inQ lo hi) = (l.take k).filter (inQ lo hi) ++ [q]) := by show _ = _; rw [HQ.out, if_pos (show inQ lo hi q = true from hin)]
          have HI := hid hin
          clear hin
          go_wp2
          go_region_held3 (fun X => X.cell? ⟨p, 0, none⟩ = some (.slice (some ad) len cap) ∧ X.cell? (ad.add (k * 2)) = some (.string (str q.1)) ∧ X.cell? ⟨w.heap.size, 0, none⟩ = some (.string (str lo)) ∧ X.cell? ⟨w.heap.size, 1, none⟩ = some (.string (str hi))) (exact ⟨c0, q0, x0, x1⟩)
            (first | (go_at_call 41; ((with_reducible refine (HIN'.out _).mono ?_); rw [HI.out]; rintro e w2 ⟨rfl, rfl⟩)))
          go_wp2_with (at_builtin; refine wpList_append_rows _ rfl (.tmp 37) (.tmp 45) 30 rfl wB.heap.size 59 ip _ 2 32 Try.underlying30 hip hzp hsp hyp rfl (by omega) cP_one _ _ rfl (OwnElems.alloc (w := wr.drew) HOWN.out _) _ [q] rfl (rows_new wr.drew 2 cP cP_len q _) ?h63 ?hby ?hba ?_; (case h63 => (have := HNO.out; simp [maxLen]; omega)); (case hby => (have := HNO.out; simp; omega)); (case hba => (have := HB.out.size; simp; omega)); intro v2 w4 ho4 hg4 hf4; have HO4 := hid ho4; have HG4 := hid hg4; clear ho4 hg4 hf4)
          go_roundw
          case rel =>
            refine ⟨k + 1, by omega, by go_num, by rw [HT.out]; exact HO4.out, by show _ ≤ _; rw [HT.out, List.length_append, ← HNO.out]; simp; omega, ?_⟩
            exact (HB.out.drew.alloc HB.out.size _).grown HG4.out (by have := HB.out.size; simp; omega) fun b e => (HOWN.out.lt b (mem_ownFoot.2 e)).1
          case measure => simp [intOf]; omega
        | false =>
          have HT : Hid ((l.take (k + 1)).filter (inQ lo hi) = (l.take k).filter (inQ lo hi)) := by show _ = _; rw [HQ.out, if_neg (show ¬ inQ lo hi q = true by unfold inQ; rw [hin]; decide), List.append_nil]
          have HI := hid hin
          clear hin
          go_wp2
          go_region_held3 (fun X => X.cell? ⟨p, 0, none⟩ = some (.slice (some ad) len cap) ∧ X.cell? (ad.add (k * 2)) = some (.string (str q.1)) ∧ X.cell? ⟨w.heap.size, 0, none⟩ = some (.string (str lo)) ∧ X.cell? ⟨w.heap.size, 1, none⟩ = some (.string (str hi))) (exact ⟨c0, q0, x0, x1⟩)
            (first | (go_at_call 41; ((with_reducible refine (HIN'.out _).mono ?_); rw [HI.out]; rintro e w2 ⟨rfl, rfl⟩)))
          go_wp2
          go_roundw
          case rel => exact ⟨k + 1, by omega, by go_num, by rw [HT.out]; exact HOWN.out, by show _ ≤ _; rw [HT.out]; exact HM.out, HB.out.drew⟩
          case measure => simp [intOf]; omega
      · have hnmi : ¬ (no : Int) < most := by omega
        have HE : Hid ((l.take k).filter (inQ lo hi) = (l.filter (inQ lo hi)).take most) := filter_take_end HM.out (.inr (by have := HM.out; omega))
        clear hno
        go_wp2
        go_ret
        exact ⟨_, rfl, by rw [← HE.out]; exact HOWN.out.down_ HB0.out.size, below_step HB0.out HB.out⟩
    · obtain rfl : k = len := by omega
      have HE : Hid ((l.take k).filter (inQ lo hi) = (l.filter (inQ lo hi)).take most) := filter_take_end HM.out (.inl (by have := HLEN.out; omega))
      clear hno
      go_wp2
      go_ret
      exact ⟨_, rfl, by rw [← HE.out]; exact HOWN.out.down_ HB0.out.size, below_step HB0.out HB.out⟩

/-- A slice of pairs: the two cells of one. -/
theorem Elems.pcell2 {w : World} {A : Option Addr} {n cap i : Nat} {l : List Pr} {q : Pr} (h : Elems 2 cP w (.slice A n cap) l) (hi : l[i]? = some q) :
    ∃ ad, A = some ad ∧ w.cell? (ad.add (i * 2)) = some (.string (str q.1)) ∧ w.cell? { block := (ad.add (i * 2)).block, off := (ad.add (i * 2)).off + 1, spot := none } = some (.string (str q.2)) := by
  obtain ⟨ad, rfl, q0⟩ := h.cell cP_len (j := 0) hi (u := .string (str q.1)) rfl
  obtain ⟨ad', hA, q1⟩ := h.cell cP_len (j := 1) hi (u := .string (str q.2)) rfl
  injection hA with hA
  subst hA
  rw [Nat.add_zero] at q0
  rw [← add_add', Addr.add_succ' _ 0] at q1
  exact ⟨ad, rfl, q0, q1⟩
end Go.Proofs.Ytpckaglefmpkcaa
