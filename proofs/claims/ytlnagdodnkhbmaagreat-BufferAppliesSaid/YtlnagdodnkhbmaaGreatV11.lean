/- A buffer: what Writes' function hands over. -/
import Derived.Test.YtlnagdodnkhbmaaGreatV10
namespace Go.Proofs.YtlnagdodnkhbmaaGreat
open Go.RowKit Go.Maps Go.WideMaps Go.Shelf
set_option maxRecDepth 100000
attribute [local go_sem] Oper.semAt_some

def encW (q : CE) : Array Value := #[.string (str q.1), ptrC q.2]
theorem elems_w {w : World} {A : Option Addr} {n cap i : Nat} {l : List CE} {s : CE} (h : Elems 2 cE8 w (.slice A n cap) l) (hi : l[i]? = some s) :
    ∃ ad, A = some ad ∧ w.cell? (ad.add (i * 2)) = some (.string (str s.1)) ∧ w.cell? { block := (ad.add (i * 2)).block, off := (ad.add (i * 2)).off + 1, spot := none } = some (ptrC s.2) := by
  obtain ⟨ad, rfl, h0⟩ := h.cell cE8_len (j := 0) hi (u := .string (str s.1)) rfl
  obtain ⟨ad1, e1, h1⟩ := h.cell cE8_len (j := 1) hi (u := ptrC s.2) rfl
  injection e1 with e1
  subst e1
  rw [Nat.add_zero] at h0
  rw [← add_add', Addr.add_succ' _ 0] at h1
  exact ⟨ad, rfl, h0, h1⟩
set_option maxHeartbeats 2000000 in
theorem writes_gives (w : World) (A : Option Addr) (c Bt : Nat) (ss : List CE) (hv : Elems 2 cE8 w (.slice A ss.length c) ss) (hb : w.cell? ⟨Bt, 0, none⟩ = some (.slice A ss.length c)) (hsz : ss.length ≤ 1000000) :
    Gives Tryz.prog 65 #[.pointer (some ⟨Bt, 0, none⟩)] encW ss (fun b => b = Bt ∨ b ∈ ownFoot (.slice A ss.length c)) w := by
  intro n l J Jx K W hW hGK hKW hJ hJx hY h0
  obtain ⟨len, HLEN⟩ : ∃ len, Hid (len = ss.length) := ⟨_, rfl⟩
  have hlen : len ≤ 1000000 := by rw [HLEN.out]; exact hsz
  have HF : Hid (∀ W', Stay K W W' → W'.cell? ⟨Bt, 0, none⟩ = some (.slice A len c) ∧ Elems 2 cE8 W' (.slice A len c) ss) := fun W' hs => by
    have h1 : Stay (fun b => b = Bt ∨ b ∈ ownFoot (.slice A ss.length c)) w W' := hW.trans (hs.less hGK)
    rw [HLEN.out]
    exact ⟨(h1.cell (a := ⟨Bt, 0, none⟩) (.inl rfl)).trans hb, hv.keep fun b hm => h1.2 b (.inr hm)⟩
  have HKW := hid hKW
  have HY := hid hY
  have HJ := hid hJ
  have HJ0 := hid h0
  obtain ⟨c0, _⟩ := HF.out W (Stay.refl _ _)
  clear hY h0 hKW hb hv hsz hW hGK hJ hJx
  refine callsIn_of_wp Tryz.func65 rfl trivial ?_ rfl
  simp only [Tryz.ntmps65, List.size_toArray, List.length_cons, List.length_nil, Nat.reduceAdd, Nat.reduceSub, Array.replicate_succ, Array.replicate_zero, List.push_toArray, List.append_toArray, List.nil_append, List.cons_append]
  gi_wp2
  gi_loopw [7] (fun i wr => ∃ k : Nat, k ≤ len ∧ i = .int .i64 (k : Int) ∧ J (ss.take k) K wr ∧ Stay K W wr) (fun i _ => len - (intOf i).toNat)
  case atStart =>
    exact ⟨0, by omega, by simp, HJ0.out, Stay.refl _ _⟩
  case round =>
    obtain ⟨k, hk, rfl, hJk, hst⟩ := hrel
    by_cases hlt : k < len
    · have hklt : (k : Int) < len := by omega
      have hk0 : (0 : Int) ≤ (k : Int) := by omega
      obtain ⟨⟨sg, sa⟩, hs⟩ : ∃ s, ss[k]? = some s := ⟨ss[k]'(by have := HLEN.out; omega), List.getElem?_eq_getElem _⟩
      obtain ⟨cb, hel⟩ := HF.out wr hst
      rw [HLEN.out] at hel
      obtain ⟨ad, rfl, p0, p1⟩ := elems_w hel hs
      have hpre : ss.take k ++ [(sg, sa)] <+: ss := by rw [← take_one hs]; exact List.take_prefix _ _
      obtain ⟨q, HQ⟩ : ∃ q, Hid (ptrC sa = .pointer q) := ptrC_ptr sa
      dsimp only at p0 p1
      rw [HQ.out] at p1
      have HST1 : Hid (Stay K wr (wr.alloc (.cells #[.string (str sg), .pointer q] 119))) := Stay.grown (World.grownBy_alloc wr _ none) (fun b hb => Nat.lt_of_lt_of_le (HKW.out b hb) hst.1) (fun _ e => by cases e)
      obtain ⟨fn, tmps, assign, body, hy, hR⟩ := HY.out (n - 1) _ _ K (wr.alloc (.cells #[.string (str sg), .pointer q] 119)) (HJ.out _ _ _ _ none hJk (World.grownBy_alloc wr _ none) (fun _ e => by cases e) K fun b hb => .inl hb) (fun b hb => Nat.lt_of_lt_of_le (HKW.out b hb) (Nat.le_trans hst.1 HST1.out.1)) hpre
      dsimp only [encW] at hy
      rw [HQ.out] at hy
      have HT := hid (take_one hs)
      have HST := hid hst
      have hkw : IntKind.i64.wrap ((k : Int) + 1) = (k : Int) + 1 := wrap_ok (by omega) (by omega)
      clear hs hel hpre hJk hst HF HY
      gi_wp2
      refine ⟨fun h => (by cases h), hR.mono ?_⟩
      rintro e W3 (⟨rfl, hJ3, hs3⟩ | ⟨rfl, hJ3, hs3⟩)
      · have HJ3 := hid hJ3
        clear hJ3
        gi_wp2
        go_roundw
        case rel => exact ⟨k + 1, by omega, by go_num, by rw [HT.out]; exact HJ3.out, (HST.out.trans HST1.out).trans hs3⟩
        case measure => simp [intOf]; omega
      · have HJ3 := hid hJ3
        clear hJ3
        gi_wp2
        refine bodyPost_ret (results_none rfl _ _ _) rfl ?_
        exact ⟨⟨_, rfl⟩, .inr ⟨ss.take (k + 1), List.take_prefix _ _, by rw [HT.out]; exact HJ3.out⟩⟩
    · obtain rfl : k = len := by omega
      have hall : ss.take k = ss := List.take_of_length_le (by rw [← HLEN.out]; exact Nat.le_refl _)
      rw [hall] at hJk
      have HJk := hid hJk
      clear hJk hall
      gi_wp2
      go_end0
      exact ⟨⟨_, rfl⟩, .inl HJk.out⟩
end Go.Proofs.YtlnagdodnkhbmaaGreat
