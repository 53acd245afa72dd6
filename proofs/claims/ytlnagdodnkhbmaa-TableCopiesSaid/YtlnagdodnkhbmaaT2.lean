/- A table in memory: its block, its five trees; what turns when one tree turns. -/
import Derived.Test.YtlnagdodnkhbmaaT1
namespace Go.Proofs.Ytlnagdodnkhbmaa
open Go.RowKit
set_option maxRecDepth 100000

theorem TreeAt.mono {w : World} {p o : Nat} {l : List Pr} {P P' : Bl} (h : TreeAt w p o l P) (hP : ∀ b, P b → P' b) (hu : Under P' w) (ho : ¬ P' p) : TreeAt w p o l P' :=
  let ⟨H, g, t, h⟩ := h
  ⟨H, g, t, h.c, NodeAt.mono hP h.node, hu, ho, h.ok, h.fl, h.rise, h.byt, h.o2, h.o16⟩

def five (p : Nat → Nat) : List Nat := [p 0, p 1, p 2, p 3, p 4]
theorem mem_five {p : Nat → Nat} {k : Nat} : k ∈ five p ↔ ∃ i, i < 5 ∧ k = p i := by
  unfold five
  constructor
  · intro h
    simp at h
    rcases h with h | h | h | h | h
    · exact ⟨0, by omega, h⟩
    · exact ⟨1, by omega, h⟩
    · exact ⟨2, by omega, h⟩
    · exact ⟨3, by omega, h⟩
    · exact ⟨4, by omega, h⟩
  · rintro ⟨i, hi, rfl⟩
    match i with
    | 0 => simp
    | 1 => simp
    | 2 => simp
    | 3 => simp
    | 4 => simp
    | i + 5 => omega
def ptr (b : Nat) : Value := .pointer (some ⟨b, 0, none⟩)
def tcells (most : Nat) (p : Nat → Nat) : Array Value := #[.int .i64 (most : Int), ptr (p 0), ptr (p 1), ptr (p 2), ptr (p 3), ptr (p 4)]
/-- Block T is a table: so many rows at most; tree i lies at block p i and has the pairs J i, on blocks of Q. -/
structure TabI (w : World) (T : Nat) (p : Nat → Nat) (Q : Bl) (most o : Nat) (J : Nat → List Pr) : Prop where
  c : w.heap[T]? = some (.cells (tcells most p) 72 (0, 0))
  t : ∀ i, i < 5 → TreeAt w (p i) o (J i) Q
  ne : ∀ i j, i < 5 → j < 5 → p i = p j → i = j
  nT : ∀ i, i < 5 → p i ≠ T
section
variable {w w' : World} {T : Nat} {p : Nat → Nat} {Q : Bl} {most o : Nat} {J : Nat → List Pr}
theorem TabI.lt (h : TabI w T p Q most o J) : T < w.heap.size := (Array.getElem?_eq_some_iff.1 h.c).1
theorem TabI.plt (h : TabI w T p Q most o J) {i : Nat} (hi : i < 5) : p i < w.heap.size := (h.t i hi).lt
theorem TabI.under (h : TabI w T p Q most o J) : Under Q w := (h.t 0 (by omega)).under
theorem TabI.out (h : TabI w T p Q most o J) {i : Nat} (hi : i < 5) : ¬ Q (p i) := (h.t i hi).out
theorem TabI.c0 (h : TabI w T p Q most o J) : w.cell? ⟨T, 0, none⟩ = some (.int .i64 (most : Int)) := cell_of_row w T 0 _ _ _ h.c
theorem TabI.cp (h : TabI w T p Q most o J) {i : Nat} (hi : i < 5) : w.cell? ⟨T, 1 + i, none⟩ = some (.pointer (some ⟨p i, 0, none⟩)) := by
  rw [cell_of_row w T (1 + i) _ _ _ h.c]
  match i with
  | 0 => rfl
  | 1 => rfl
  | 2 => rfl
  | 3 => rfl
  | 4 => rfl
  | i + 5 => omega
theorem TabI.c5 (h : TabI w T p Q most o J) : w.cell? ⟨T, 5, none⟩ = some (.pointer (some ⟨p 4, 0, none⟩)) := h.cp (i := 4) (by omega)
theorem TabI.f (h : TabI w T p Q most o J) (i : Nat) : w.frozen? ⟨T, i, none⟩ = false := by have h := h.c; simp [World.frozen?, h]
theorem TabI.keep (h : TabI w T p Q most o J) (hT : w'.heap[T]? = w.heap[T]?) (hp : ∀ i, i < 5 → w'.heap[p i]? = w.heap[p i]?) (hQ : ∀ b, Q b → w'.heap[b]? = w.heap[b]?) (hs : w.heap.size ≤ w'.heap.size) : TabI w' T p Q most o J :=
  ⟨hT.trans h.c, fun i hi => (h.t i hi).keep (hp i hi) hQ hs, h.ne, h.nT⟩
theorem TabI.below (h : TabI w T p Q most o J) (hb : Below w.heap.size w w') : TabI w' T p Q most o J :=
  h.keep (hb.block T h.lt) (fun _i hi => hb.block _ (h.plt hi)) (fun b hQ => hb.block b (h.under b hQ)) hb.size
theorem TabI.drewN (h : TabI w T p Q most o J) (n : Nat) : TabI (w.drewN n) T p Q most o J := h.below (below_drewN' (Below.refl _ _) n)
/-- What turns other blocks leaves a table as it was. -/
theorem TabI.chg {F F' : List Nat} (h : TabI w T p Q most o J) (hc : Chg F w w' F') (hT : T ∉ F) (hp : ∀ i, i < 5 → p i ∉ F) (hQ : ∀ b ∈ F, ¬ Q b) : TabI w' T p Q most o J :=
  h.keep (hc.block T h.lt hT) (fun i hi => hc.block _ (h.plt hi) (hp i hi)) (fun b hb => hc.block b (h.under b hb) fun hF => hQ b hF hb) hc.size
theorem TabI.news (h : TabI w T p Q most o J) (_hs : w.heap.size ≤ w'.heap.size) {i : Nat} (hi : i < 5) : ¬ New Q w w' (p i) := by
  rintro (hh | hh)
  · exact h.out hi hh
  · have := h.plt hi; omega
/-- One tree turned. -/
theorem TabI.turn (h : TabI w T p Q most o J) {i : Nat} (hi : i < 5) {l' : List Pr} (hd : Done Q w w' (p i) o l') : TabI w' T p (New Q w w') most o (fun c => if c = i then l' else J c) ∧ Chg (five p) w w' (five p) := by
  have hc := hd.2
  refine ⟨⟨(hc.block T h.lt (by have := h.nT i hi; simp; exact fun e => this e.symm)).trans h.c, fun j hj => ?_, h.ne, h.nT⟩, hc.wide2 fun k hk => by simp at hk; rw [hk]; exact mem_five.2 ⟨i, hi, rfl⟩⟩
  by_cases e : j = i
  · subst e
    rw [if_pos rfl]
    exact hd.tree
  · rw [if_neg e]
    have h1 := (h.t j hj).chg hc (by simp; exact fun e' => e (h.ne j i hj hi e')) (fun b hb => by simp at hb; rw [hb]; exact h.out hi)
    exact h1.mono (fun b hb => .inl hb) (h.under.new hc.size) (h.news hc.size hj)
theorem TabI.more (h : TabI w T p Q most o J) {Q' : Bl} (hP : ∀ b, Q b → Q' b) (hu : Under Q' w) (ho : ∀ i, i < 5 → ¬ Q' (p i)) : TabI w T p Q' most o J :=
  ⟨h.c, fun i hi => (h.t i hi).mono hP hu (ho i hi), h.ne, h.nT⟩
end
/-- Two steps: the nodes that were new at each are new. -/
theorem TabI.join {w a b : World} {T : Nat} {p : Nat → Nat} {Q : Bl} {most o : Nat} {J : Nat → List Pr} (h0 : ∀ i, i < 5 → p i < w.heap.size ∧ ¬ Q (p i)) (h1 : w.heap.size ≤ a.heap.size) (h2 : a.heap.size ≤ b.heap.size) (hu : Under Q w)
    (h : TabI b T p (New (New Q w a) a b) most o J) : TabI b T p (New Q w b) most o J := by
  refine h.more (fun k hk => New.trans h1 h2 hk) (hu.new (Nat.le_trans h1 h2)) fun i hi => ?_
  rintro (hh | hh)
  · exact (h0 i hi).2 hh
  · have := (h0 i hi).1; omega

/-- A row that a pointer tells, in a block of its own; or none. -/
def LRow (w : World) (v : Value) : Option Ro → Prop
  | none => v = .pointer none
  | some r => ∃ g, v = .pointer (some ⟨g, 0, none⟩) ∧ Lies w g r
theorem LRow.prow {w : World} {v : Value} {o : Option Ro} (h : LRow w v o) : PRow w v o := by
  cases o with
  | none => exact h
  | some r =>
    obtain ⟨g, hp, hl⟩ := h
    exact ⟨g, 0, hp, fun k x hx => by rw [Nat.zero_add]; exact hl.cell hx⟩
theorem LRow.below {w w' : World} {v : Value} {o : Option Ro} (h : LRow w v o) (hb : Below w.heap.size w w') : LRow w' v o := by
  cases o with
  | none => exact h
  | some r =>
    obtain ⟨g, hp, hl⟩ := h
    exact ⟨g, hp, hl.below hb⟩
theorem LRow.chg {w w' : World} {v : Value} {o : Option Ro} {F F' : List Nat} (h : LRow w v o) (hc : Chg F w w' F') (hF : ∀ g r, w.heap[g]? = some (.cells (rowc r) 33 (0, 0)) → g ∉ F) : LRow w' v o := by
  cases o with
  | none => exact h
  | some r =>
    obtain ⟨g, hp, hl⟩ := h
    exact ⟨g, hp, hl.keep (hc.block g hl.lt (hF g r hl))⟩
/-- A tree's block is no row's. -/
theorem TreeAt.not_row {w : World} {a o g : Nat} {l : List Pr} {P : Bl} {r : Ro} (h : TreeAt w a o l P) (hl : Lies w g r) : g ≠ a := by
  obtain ⟨H, n, t, h⟩ := h
  rintro rfl
  have h1 := h.c
  unfold TreeC at h1
  unfold Lies at hl
  rw [h1] at hl
  injection hl with hl
  injection hl with _ ht
  exact absurd ht (by decide)
theorem TabI.rows {w : World} {T : Nat} {p : Nat → Nat} {Q : Bl} {most o : Nat} {J : Nat → List Pr} (h : TabI w T p Q most o J) {g : Nat} {r : Ro} (hl : Lies w g r) : g ∉ five p := fun hm => by
  obtain ⟨i, hi, e⟩ := mem_five.1 hm
  exact (h.t i hi).not_row hl e
end Go.Proofs.Ytlnagdodnkhbmaa
