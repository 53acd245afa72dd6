import Derived.Test.YtjhgebfabjbbjaaRows
import Derived.Test.YtjhgebfabjbbjaaM1
import Derived.Test.YtjhgebfabjbbjaaB3
namespace Go.Proofs.Ytjhgebfabjbbjaa
open Go.RowKit

theorem Try.info5 : (Try.prog.info? 5).map (fun i => (i.zero, i.size, i.bytes)) = some (some (.int .u8 0), 1, 1) := by kernel_rfl

/-- A writer: where it lies, what it has written. -/
def Wr (w : World) (F : List Nat) (p : Value) (xs : List Nat) : Prop :=
  ∃ g v, p = .pointer (some ⟨g, 0, none⟩) ∧ One w g 28 v ∧ Own .u8 w 0 5 v xs ∧ F = g :: ownFoot v
theorem Wr.keep {w w' : World} {F : List Nat} {p : Value} {xs : List Nat} (h : Wr w F p xs) (hk : ∀ b ∈ F, w'.heap[b]? = w.heap[b]?) : Wr w' F p xs := by
  obtain ⟨g, v, rfl, h1, h2, rfl⟩ := h
  exact ⟨g, v, rfl, h1.keep (hk g List.mem_cons_self), h2.keep (fun b hb => hk b (List.mem_cons_of_mem _ hb)), rfl⟩
theorem Wr.lt {w : World} {F : List Nat} {p : Value} {xs : List Nat} (h : Wr w F p xs) : ∀ b ∈ F, b < w.heap.size := by
  obtain ⟨g, v, rfl, h1, h2, rfl⟩ := h
  intro b hb
  rcases List.mem_cons.1 hb with rfl | hb
  · exact h1.lt
  · exact h2.lt b hb

theorem one_row {w : World} {b : Nat} {e : TypeId} {fz : Nat × Nat} {z : Int} (hz : z = (b : Int)) : Sl .u8 (w.alloc (.cells #[.int .u8 z] e fz)) (.slice (some ⟨w.heap.size, 0, none⟩) 1 1) [b] := by
  subst hz
  refine Sl.row (xs := [b]) (c := 1) (heap_alloc_new w _) (by simp) (by simp [maxLen]) ?_
  intro i x hi
  match i with
  | 0 => simp at hi ⊢; omega
  | i + 1 => simp at hi

/-- What a store of what append gave leaves of a writer. -/
theorem wr_step {w w0 w1 : World} {F : List Nat} {g : Nat} {v v' : Value} {xs ys : List Nat} (h1 : One w0 g 28 v) (hown : Own .u8 w0 0 5 v xs) (hc : Chg F w w0 (g :: ownFoot v))
    (hown' : Own .u8 w1 0 5 v' ys) (hg : w0.grownBy w1 v.ownBlock) (hf : ∀ b ∈ ownFoot v', b ∈ ownFoot v ∨ w0.heap.size ≤ b) :
    Hid (One (w1.setCell ⟨g, 0, none⟩ v') g 28 v') ∧ Own .u8 (w1.setCell ⟨g, 0, none⟩ v') 0 5 v' ys ∧ Chg F w (w1.setCell ⟨g, 0, none⟩ v') (g :: ownFoot v') := by
  have hgv : g ∉ ownFoot v := hown.ne_ h1 (by decide)
  have h11 : One w1 g 28 v := h1.keep (hg.block g h1.lt fun e => hgv (mem_ownFoot.2 e.symm))
  have hgv' : g ∉ ownFoot v' := hown'.ne_ h11 (by decide)
  refine ⟨h11.set _, hown'.set_far hgv' _, ?_⟩
  have a1 : Chg F w w1 (g :: ownFoot v) := hc.grown hg (fun k hk => List.mem_cons_of_mem _ (mem_ownFoot.2 hk))
  refine (a1.setCell (p := ⟨g, 0, none⟩) List.mem_cons_self v').less fun b hb => ?_
  rcases List.mem_cons.1 hb with rfl | hb
  · exact .inl List.mem_cons_self
  · rcases hf b hb with h | h
    · exact .inl (List.mem_cons_of_mem _ h)
    · exact .inr (Nat.le_trans hc.size h)

theorem wr_mid {w0 w1 : World} {g : Nat} {v : Value} {xs : List Nat} (h1 : One w0 g 28 v) (hown : Own .u8 w0 0 5 v xs) (hg : w0.grownBy w1 v.ownBlock) :
    w1.cell? ⟨g, 0, none⟩ = some v ∧ w1.frozen? ⟨g, 0, none⟩ = false := by
  have h11 : One w1 g 28 v := h1.keep (hg.block g h1.lt fun e => hown.ne_ h1 (by decide) (mem_ownFoot.2 e.symm))
  exact ⟨h11.cell, h11.frozen⟩

theorem Own.slice {k : IntKind} {w : World} {base : Nat} {e : TypeId} {v : Value} {xs : List Nat} (h : Own k w base e v xs) : ∃ A n c, v = .slice A n c := by
  rcases h.2 with ⟨rfl, _⟩ | ⟨g', cap, cur, rfl, _⟩
  · exact ⟨_, _, _, rfl⟩
  · exact ⟨_, _, _, rfl⟩

def GrRel (w : World) (F : List Nat) (g : Nat) (all : List Nat) (u : Value) (wr : World) : Prop :=
  ∃ (m : Nat) (v : Value) (cur : List Nat), u = .int .u64 m ∧ m < 18446744073709551616 ∧ One wr g 28 v ∧ Own .u8 wr 0 5 v cur ∧ cur ++ gr m = all ∧ Chg F w wr (g :: ownFoot v)

set_option maxHeartbeats 400000 in
set_option maxRecDepth 100000 in
theorem wgroups (w : World) (F : List Nat) (p : Value) (xs : List Nat) (n : Nat) (hW : Wr w F p xs) (hn : n < 18446744073709551616) (hl : xs.length ≤ 1000000000000) :
    Calls Try.prog 25 #[p, .int .u64 n] w fun e w' => e = .returned (.tuple #[]) ∧ ∃ F', Wr w' F' p (xs ++ gr n) ∧ Chg F w w' F' := by
  obtain ⟨i0, hi, hz0, hz1, hz2⟩ := info_parts Try.info5
  obtain ⟨g, v0, rfl, hone, hown, rfl⟩ := hW
  obtain ⟨all, HA⟩ : ∃ all, Hid (all = xs ++ gr n) := ⟨_, rfl⟩
  have hla : all.length ≤ 1000000000010 := by rw [HA.out, List.length_append]; have := gr_len10 hn; omega
  rw [← HA.out]
  obtain ⟨F, HF⟩ : ∃ F, Hid (F = g :: ownFoot v0) := ⟨_, rfl⟩
  rw [← HF.out]
  have hrel0 : GrRel w F g all (.int .u64 n) w := ⟨n, v0, xs, rfl, hn, hone, hown, HA.out.symm, HF.out ▸ Chg.refl _ w⟩
  clear hone hown hl hn
  go_enter Try.func25, Try.ntmps25
  go_wp2
  go_loopw [1] (fun u wr => GrRel w F g all u wr) (fun u _ => (intOf u).toNat)
  case atStart => exact hrel0
  case round =>
    clear hrel0
    obtain ⟨m, v, cur, rfl, hm, hone, hown, hcur, hchg⟩ := hrel
    have hcell := hone.cell
    have hfr := hone.frozen
    have HC := hid hcur
    have hlc : cur.length < 1000000000011 := by have := congrArg List.length hcur; rw [List.length_append] at this; omega
    have HONE := hid hone
    have HM := hid hm
    clear hcur hone hm
    by_cases h128 : 128 ≤ m
    · go_wp2_with (at_builtin; refine wpList_append_at _ rfl (.tmp 12) (.tmp 17) 26 rfl 5 i0 (.int .u8 0) 1 Try.underlying26 hi hz0 hz1 hz2 rfl .u8 v cur rfl (hown.alloc _) _ [m % 128 + 128] rfl (one_row (by omega)) (by unfold maxLen; simp; omega) (by simp; omega) ?_; intro v' w1 hown1 hgrow1 hf1; have HST := wr_step (HONE.out.alloc _) (hown.alloc _) (hchg.alloc _) hown1 hgrow1 hf1; obtain ⟨hcell1, hfr1⟩ := wr_mid (HONE.out.alloc _) (hown.alloc _) hgrow1; obtain ⟨A', n', c', rfl⟩ := hown1.slice; clear hown1 hgrow1 hf1)
      go_roundw
      case rel =>
        obtain ⟨q1, q2, q3⟩ := HST
        refine ⟨m / 128, _, _, ?_, ?_, q1.out, q2, ?_, q3⟩
        · go_num
        · have := HM.out; omega
        · rw [List.append_assoc, List.singleton_append, ← gr_ge (by omega)]; exact HC.out
      case measure => simp [intOf]; omega
    · have hlt : m < 128 := by omega
      have hlt' : (m : Int) < 128 := by omega
      clear h128
      go_wp2_with (at_builtin; refine wpList_append_at _ rfl (.tmp 25) (.tmp 28) 26 rfl 5 i0 (.int .u8 0) 1 Try.underlying26 hi hz0 hz1 hz2 rfl .u8 v cur rfl (hown.alloc _) _ [m] rfl (one_row (by omega)) (by unfold maxLen; simp; omega) (by simp; omega) ?_; intro v' w1 hown1 hgrow1 hf1; have HST := wr_step (HONE.out.alloc _) (hown.alloc _) (hchg.alloc _) hown1 hgrow1 hf1; obtain ⟨hcell1, hfr1⟩ := wr_mid (HONE.out.alloc _) (hown.alloc _) hgrow1; obtain ⟨A', n', c', rfl⟩ := hown1.slice; clear hown1 hgrow1 hf1)
      go_end0
      obtain ⟨q1, q2, q3⟩ := HST
      have hc := HC.out
      rw [gr_lt hlt] at hc
      rw [hc] at q2
      exact ⟨rfl, _, ⟨g, _, rfl, q1.out, q2, rfl⟩, q3⟩
end Go.Proofs.Ytjhgebfabjbbjaa
