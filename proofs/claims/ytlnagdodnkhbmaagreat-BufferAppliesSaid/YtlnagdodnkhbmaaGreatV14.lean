/- A buffer: between two rounds of Apply. -/
import Derived.Test.YtlnagdodnkhbmaaGreatV13
namespace Go.Proofs.YtlnagdodnkhbmaaGreat
open Go.RowKit Go.Maps Go.WideMaps Go.Shelf
set_option maxRecDepth 100000

theorem ToldW.at_ {w : World} {cs : List CE} {ws : List WR} (h : ToldW w cs ws) {n : Nat} {k : List Nat} {c : Nat} (hx : cs[n]? = some (k, c)) : ∃ v, ws[n]? = some (k, v) ∧ PtrIs w c v := by
  have h1 := congrArg (fun l => l[n]?) h.keys
  rw [List.getElem?_map, List.getElem?_map, hx] at h1
  cases hw : ws[n]? with
  | none => rw [hw] at h1; cases h1
  | some q =>
    rw [hw] at h1
    injection h1 with h1
    obtain ⟨k2, v⟩ := q
    dsimp only at h1
    subst h1
    exact ⟨v, rfl, h.ptr _ _ _ (List.mem_of_getElem? hx) (List.mem_of_getElem? hw)⟩
theorem prefix_get {α : Type} {l pre : List α} {x : α} (h : pre ++ [x] <+: l) : l[pre.length]? = some x := by
  obtain ⟨t, rfl⟩ := h
  rw [List.append_assoc, List.getElem?_append_right (Nat.le_refl _)]
  simp
/-- Between two rounds: the table has the rows that f tells; of what was there, its five trees alone have turned. -/
def ItT (T : Nat) (p : Nat → Nat) (Q : Bl) (most o : Nat) (f : Nat → List KR) (w0 : World) (s : List CE) (K : Bl) (X : World) : Prop :=
  ∃ Q', Tab X T p Q' most o (f s.length) ∧ (∀ b, Q' b → ¬ K b) ∧ (∀ b ∈ five p, ¬ K b) ∧ Chg (five p) w0 X (five p) ∧ ∀ b, Q' b → Q b ∨ w0.heap.size ≤ b
section
variable {T : Nat} {p : Nat → Nat} {Q : Bl} {most o : Nat} {f : Nat → List KR} {w0 : World}
theorem itT_abide (hT : T < w0.heap.size) : Abide w0.heap.size (ItT T p Q most o f w0) := by
  rintro s K A A' row ⟨Q', ht, hQ, hp, hc, hn⟩ hg hr K' hK'
  have hnk : ∀ b, ¬ K b → b < A.heap.size → ¬ K' b := fun b hb hl h => by
    rcases hK' b h with h | h
    · exact hb h
    · omega
  have hch : Chg row.toList A A' row.toList := (Chg.refl _ A).grown hg fun k e => by simp [e]
  refine ⟨Q', ht.chg hch (fun h => ?_) (fun i hi h => ?_) (fun b h hb => ?_), fun b hb => hnk b (hQ b hb) (ht.under b hb), fun b hb => hnk b (hp b hb) (ht.flt b hb), ?_, hn⟩
  · have := (hr T (by simpa using h)).1; omega
  · exact hp (p i) (mem_five.2 ⟨i, hi, rfl⟩) (hr _ (by simpa using h)).2
  · exact hQ b hb (hr b (by simpa using h)).2
  · exact ⟨hg.os.trans hc.os, hg.tape.trans hc.tape, hg.output.trans hc.output, Nat.le_trans hc.size hg.size, fun k hk hn' => (hg.block k (Nat.lt_of_lt_of_le hk hc.size) fun e => by have := (hr k e.symm).1; omega).trans (hc.block k hk hn'), fun k hk => .inl hk⟩
theorem ItT.cell {s : List CE} {K : Bl} {X : World} (h : ItT T p Q most o f w0 s K X) {a : Addr} {v : Value} (hv : w0.cell? a = some v) (hn : a.block ∉ five p) : X.cell? a = some v := by
  obtain ⟨Q', _, _, _, hc, _⟩ := h
  exact (World.cell?_of_block (hc.block _ (blk_lt hv) hn)).trans hv
theorem ItT.told {s : List CE} {K : Bl} {X : World} (h : ItT T p Q most o f w0 s K X) {l : List KR} {Q0 : Bl} (ht : Tab w0 T p Q0 most o l) {c : Nat} {v : Option Ro} (hp : PtrIs w0 c v) : PtrIs X c v := by
  obtain ⟨Q', _, _, _, hc, _⟩ := h
  exact hp.keep fun g r hl => hc.block g hl.lt (ht.not_row hl)
theorem itT_turn {s : List CE} {x : CE} {K Q' : Bl} {W2 W' : World} {l2 : List KR} (hQ : ∀ b, Q' b → ¬ K b) (hp : ∀ b ∈ five p, ¬ K b) (hc : Chg (five p) w0 W2 (five p)) (hn : ∀ b, Q' b → Q b ∨ w0.heap.size ≤ b) (hKW : ∀ b, K b → b < W2.heap.size)
    (hf : f (s.length + 1) = l2) (ht' : Tab W' T p (New Q' W2 W') most o l2) (hc' : Chg (five p) W2 W' (five p)) : Stay K W2 W' ∧ ItT T p Q most o f w0 (s ++ [x]) K W' := by
  refine ⟨⟨hc'.size, fun b hb => hc'.block b (hKW b hb) fun hm => hp b hm hb⟩, New Q' W2 W', ?_, fun b hb hK => ?_, hp, hc.trans hc', fun b hb => ?_⟩
  · rw [List.length_append]
    show Tab W' T p _ most o (f (s.length + 1))
    rw [hf]; exact ht'
  · rcases hb with hb | hb
    · exact hQ b hb hK
    · have := hKW b hK; omega
  · rcases hb with hb | hb
    · exact hn b hb
    · have := hc.size; right; omega
theorem itT_same {s : List CE} {x : CE} {K : Bl} {W2 : World} (h : ItT T p Q most o f w0 s K W2) (hf : f (s.length + 1) = f s.length) : Stay K W2 W2 ∧ ItT T p Q most o f w0 (s ++ [x]) K W2 := by
  obtain ⟨Q', h1, h2⟩ := h
  refine ⟨Stay.refl _ _, Q', ?_, h2⟩
  rw [List.length_append]
  show Tab W2 T p _ most o (f (s.length + 1))
  rw [hf]; exact h1
end
/-- What there is behind Apply. -/
def ApFin (w : World) (T : Nat) (p : Nat → Nat) (Q Q' : Bl) (most o : Nat) (l : List KR) (B m : Nat) (X : World) : Prop :=
  Tab X T p Q' most o l ∧ Buf X B T m [] ∧ Chg (m :: five p) w X (m :: five p) ∧ ∀ b, Q' b → Q b ∨ w.heap.size ≤ b
theorem ApFin.put {w : World} {T : Nat} {p : Nat → Nat} {Q Q' : Bl} {most o : Nat} {l : List KR} {B m : Nat} {X : World} (h : ApFin w T p Q Q' most o l B m X) (hT : T < w.heap.size) (hB : B < w.heap.size) (hm : m < w.heap.size) (hp : ∀ b ∈ five p, b < w.heap.size) {D : Nat} (hD : w.heap.size ≤ D) (hQ : ¬ Q' D) (hs : Shut X D ∨ X.heap[D]? = some (.deferred none)) (ob : Obj) : ApFin w T p Q Q' most o l B m (X.putObj D ob) := by
  obtain ⟨h1, h2, h3, h4⟩ := h
  have hg := putObj_grown X D ob
  have hch : Chg [D] X (X.putObj D ob) [D] := (Chg.refl _ X).grown hg fun k e => by injection e with e; simp [e]
  refine ⟨h1.chg hch (by simp; omega) (fun i hi => by have := hp (p i) (mem_five.2 ⟨i, hi, rfl⟩); simp; omega) (fun b hb hq => by simp at hb; subst hb; exact hQ hq), ?_, ?_, h4⟩
  · refine h2.chg hch (by simp; omega) (by simp; omega) fun g r hl hg' => ?_
    simp at hg'
    subst hg'
    unfold Lies at hl
    rcases hs with hs | hs
    · unfold Shut at hs; rw [hl] at hs; cases hs
    · rw [hl] at hs; cases hs
  · exact ⟨hg.os.trans h3.os, hg.tape.trans h3.tape, hg.output.trans h3.output, Nat.le_trans h3.size hg.size, fun k hk hn => (hg.block k (Nat.lt_of_lt_of_le hk h3.size) fun e => by injection e with e; omega).trans (h3.block k hk hn), fun k hk => .inl hk⟩
end Go.Proofs.YtlnagdodnkhbmaaGreat
