import Derived.Test.YtlnagdodnkhbmaaGreatRA
import Derived.Test.YtlnagdodnkhbmaaGreatMA
import Derived.Deep.RegionHeld3
import Derived.Deep.QuietTactic
import Derived.BigQuiet
import Derived.RangeFuncNested
import Derived.RangeFuncBound
import Derived.RangeFuncCalls
import Derived.RangeFuncLeaves
import Derived.Shelf.Abstract
import Derived.Shelf.RegionOpen
import Derived.OwnWalkIn
import Derived.TacticsInMore
import Derived.LoopNIn
import Derived.LoopIn
import Derived.Sort.QuietIn

namespace Go.Proofs.YtlnagdodnkhbmaaGreat
open Go.RowKit

/-- A node: its pairs, its children. -/
inductive T where
  | nd (ps : List Pr) (ks : List T)
def T.ps : T → List Pr
  | .nd ps _ => ps
def T.ks : T → List T
  | .nd _ ks => ks
theorem T.eta : ∀ t : T, t = .nd t.ps t.ks
  | .nd _ _ => rfl
/-- A child's cell. -/
def cK (g : Nat) : List Value := [.pointer (some ⟨g, 0, none⟩)]
theorem cK_len (g : Nat) : (cK g).length = 1 := rfl
theorem cK_one (g : Nat) : ∀ y ∈ cK g, y.oneCell' = true := by
  intro y hy
  simp [cK] at hy
  subst hy; rfl
/-- A step's cells: the node, the place. -/
def cS (s : Nat × Nat) : List Value := [.pointer (some ⟨s.1, 0, none⟩), .int .i64 (s.2 : Nat)]
theorem cS_len (s : Nat × Nat) : (cS s).length = 2 := rfl
theorem cS_one (s : Nat × Nat) : ∀ y ∈ cS s, y.oneCell' = true := by
  intro y hy
  simp [cS] at hy
  rcases hy with rfl | rfl <;> rfl

/-- P, and what is new from w to w'. -/
def New (P : Bl) (w w' : World) : Bl := fun b => P b ∨ (w.heap.size ≤ b ∧ b < w'.heap.size)

/-- A slice of things whose row lies within P. -/
def Lay {α : Type} (P : Bl) (sz : Nat) (c : α → List Value) (w : World) (v : Value) (l : List α) : Prop := Elems sz c w v l ∧ ∀ b ∈ ownFoot v, P b
section
variable {α : Type} {P P' : Bl} {sz : Nat} {c : α → List Value} {w w' : World} {v : Value} {l : List α}
theorem Lay.keep (h : Lay P sz c w v l) (hk : ∀ b, P b → w'.heap[b]? = w.heap[b]?) : Lay P sz c w' v l := ⟨h.1.keep fun b hb => hk b (h.2 b hb), h.2⟩
theorem Lay.mono (h : Lay P sz c w v l) (hP : ∀ b, P b → P' b) : Lay P' sz c w v l := ⟨h.1, fun b hb => hP b (h.2 b hb)⟩
theorem Lay.nil (P : Bl) (sz : Nat) (c : α → List Value) (w : World) : Lay P sz c w (.slice none 0 0) [] := ⟨Elems.nil _ _ _, by simp [ownFoot, Value.ownBlock]⟩
end

/-- A node's block: two cells. -/
structure Hd (P : Bl) (w : World) (g : Nat) (vp vk : Value) (ps : List Pr) (gs : List Nat) : Prop where
  cells : w.heap[g]? = some (.cells #[vp, vk] 168 (0, 0))
  blk : P g
  pairs : Lay P 2 cP w vp ps
  kids : Lay P 1 cK w vk gs
/-- Two lists side by side. -/
def Side (R : Nat → T → Prop) (gs : List Nat) (ks : List T) : Prop := gs.length = ks.length ∧ ∀ (i g : Nat) (k : T), gs[i]? = some g → ks[i]? = some k → R g k
/-- In the world w, within P, block g is the node t, of height h. -/
def NodeAt (P : Bl) (w : World) : Nat → Nat → T → Prop
  | 0, g, t => ∃ vp vk gs, Hd P w g vp vk t.ps gs ∧ Side (fun _ _ => False) gs t.ks
  | h + 1, g, t => ∃ vp vk gs, Hd P w g vp vk t.ps gs ∧ Side (NodeAt P w h) gs t.ks
def Sub (P : Bl) (w : World) : Nat → Nat → T → Prop
  | 0 => fun _ _ => False
  | h + 1 => NodeAt P w h
theorem nodeAt_iff {P : Bl} {w : World} {h g : Nat} {t : T} : NodeAt P w h g t ↔ ∃ vp vk gs, Hd P w g vp vk t.ps gs ∧ Side (Sub P w h) gs t.ks := by
  cases h <;> exact Iff.rfl

section
variable {P P' : Bl} {w w' : World} {h g : Nat} {t : T} {vp vk : Value} {ps : List Pr} {gs gs' : List Nat} {ks ks' : List T} {R R' : Nat → T → Prop}
theorem Hd.keep (hh : Hd P w g vp vk ps gs) (hk : ∀ b, P b → w'.heap[b]? = w.heap[b]?) : Hd P w' g vp vk ps gs := ⟨(hk g hh.blk).trans hh.cells, hh.blk, hh.pairs.keep hk, hh.kids.keep hk⟩
theorem Hd.mono (hh : Hd P w g vp vk ps gs) (hP : ∀ b, P b → P' b) : Hd P' w g vp vk ps gs := ⟨hh.cells, hP g hh.blk, hh.pairs.mono hP, hh.kids.mono hP⟩
theorem Hd.c0 (hh : Hd P w g vp vk ps gs) : w.cell? ⟨g, 0, none⟩ = some vp := cell_of_row w g 0 _ _ _ hh.cells
theorem Hd.c1 (hh : Hd P w g vp vk ps gs) : w.cell? ⟨g, 1, none⟩ = some vk := cell_of_row w g 1 _ _ _ hh.cells
theorem Hd.c1' (hh : Hd P w g vp vk ps gs) : w.cell? ⟨g, 0 + 1, none⟩ = some vk := hh.c1
theorem Hd.lt (hh : Hd P w g vp vk ps gs) : g < w.heap.size := (Array.getElem?_eq_some_iff.1 hh.cells).1
theorem Side.imp (hs : Side R gs ks) (hi : ∀ g k, R g k → R' g k) : Side R' gs ks := ⟨hs.1, fun i g k h1 h2 => hi g k (hs.2 i g k h1 h2)⟩
theorem Side.app (hs : Side R gs ks) (hs' : Side R gs' ks') : Side R (gs ++ gs') (ks ++ ks') := by
  refine ⟨by rw [List.length_append, List.length_append, hs.1, hs'.1], fun i g k h1 h2 => ?_⟩
  rcases Nat.lt_or_ge i gs.length with hi | hi
  · rw [List.getElem?_append_left hi] at h1
    rw [List.getElem?_append_left (by rw [← hs.1]; exact hi)] at h2
    exact hs.2 i g k h1 h2
  · rw [List.getElem?_append_right hi] at h1
    rw [List.getElem?_append_right (by rw [← hs.1]; exact hi), ← hs.1] at h2
    exact hs'.2 _ g k h1 h2
theorem Side.take (hs : Side R gs ks) (n : Nat) : Side R (gs.take n) (ks.take n) := by
  refine ⟨by rw [List.length_take, List.length_take, hs.1], fun i g k h1 h2 => ?_⟩
  rw [List.getElem?_take] at h1 h2
  split at h1
  · rename_i hlt
    rw [if_pos hlt] at h2
    exact hs.2 i g k h1 h2
  · cases h1
theorem Side.drop (hs : Side R gs ks) (n : Nat) : Side R (gs.drop n) (ks.drop n) := by
  refine ⟨by rw [List.length_drop, List.length_drop, hs.1], fun i g k h1 h2 => ?_⟩
  rw [List.getElem?_drop] at h1 h2
  exact hs.2 _ g k h1 h2
theorem Side.nil (R : Nat → T → Prop) : Side R [] [] := ⟨rfl, by simp⟩
theorem Side.one {g : Nat} {k : T} (hr : R g k) : Side R [g] [k] := by
  refine ⟨rfl, fun i g' k' h1 h2 => ?_⟩
  cases i with
  | zero => simp at h1 h2; subst h1; subst h2; exact hr
  | succ i => simp at h1
theorem Side.at_ (hs : Side R gs ks) {i : Nat} {k : T} (hk : ks[i]? = some k) : ∃ g, gs[i]? = some g ∧ R g k := by
  have hl := (List.getElem?_eq_some_iff.1 hk).1
  exact ⟨gs[i]'(by rw [hs.1]; exact hl), List.getElem?_eq_getElem _, hs.2 i _ k (List.getElem?_eq_getElem _) hk⟩
theorem NodeAt.keep (hk : ∀ b, P b → w'.heap[b]? = w.heap[b]?) : ∀ {h g : Nat} {t : T}, NodeAt P w h g t → NodeAt P w' h g t
  | 0, _, _, ⟨vp, vk, gs, h1, h2⟩ => ⟨vp, vk, gs, h1.keep hk, h2⟩
  | _ + 1, _, _, ⟨vp, vk, gs, h1, h2⟩ => ⟨vp, vk, gs, h1.keep hk, h2.imp fun _ _ hn => NodeAt.keep hk hn⟩
theorem NodeAt.mono (hP : ∀ b, P b → P' b) : ∀ {h g : Nat} {t : T}, NodeAt P w h g t → NodeAt P' w h g t
  | 0, _, _, ⟨vp, vk, gs, h1, h2⟩ => ⟨vp, vk, gs, h1.mono hP, h2⟩
  | _ + 1, _, _, ⟨vp, vk, gs, h1, h2⟩ => ⟨vp, vk, gs, h1.mono hP, h2.imp fun _ _ hn => NodeAt.mono hP hn⟩
theorem Sub.keep (hk : ∀ b, P b → w'.heap[b]? = w.heap[b]?) : ∀ {h g : Nat} {t : T}, Sub P w h g t → Sub P w' h g t
  | 0, _, _, hf => hf
  | _ + 1, _, _, hn => NodeAt.keep hk hn
theorem Sub.mono (hP : ∀ b, P b → P' b) : ∀ {h g : Nat} {t : T}, Sub P w h g t → Sub P' w h g t
  | 0, _, _, hf => hf
  | _ + 1, _, _, hn => NodeAt.mono hP hn
/-- P's blocks lie below the heap's end. -/
def Under (P : Bl) (w : World) : Prop := ∀ b, P b → b < w.heap.size
theorem Under.new (hu : Under P w) (hs : w.heap.size ≤ w'.heap.size) : Under (New P w w') w' := fun b hb => by
  rcases hb with hb | hb
  · exact Nat.lt_of_lt_of_le (hu b hb) hs
  · exact hb.2
theorem Under.later (hu : Under P w) (hs : w.heap.size ≤ w'.heap.size) : Under P w' := fun b hb => Nat.lt_of_lt_of_le (hu b hb) hs
theorem Under.stay (hu : Under P w) (hb : Below w.heap.size w w') : ∀ b, P b → w'.heap[b]? = w.heap[b]? := fun b h => hb.block b (hu b h)
theorem New.left {b : Nat} (hb : P b) : New P w w' b := .inl hb
theorem New.trans {w2 : World} (h1 : w.heap.size ≤ w'.heap.size) (h2 : w'.heap.size ≤ w2.heap.size) {b : Nat} (hb : New (New P w w') w' w2 b) : New P w w2 b := by
  rcases hb with (hb | hb) | hb
  · exact .inl hb
  · exact .inr ⟨hb.1, by omega⟩
  · exact .inr ⟨by omega, hb.2⟩
theorem New.later {w2 : World} (h2 : w'.heap.size ≤ w2.heap.size) {b : Nat} (hb : New P w w' b) : New P w w2 b := by
  rcases hb with hb | hb
  · exact .inl hb
  · exact .inr ⟨hb.1, by omega⟩
/-- A new node. -/
theorem hd_new {w : World} (P : Bl) (vp vk : Value) (hp : Lay P 2 cP w vp ps) (hk : Lay P 1 cK w vk gs) (hu : Under P w) :
    Hd (New P w (w.alloc (.cells #[vp, vk] 168))) (w.alloc (.cells #[vp, vk] 168)) w.heap.size vp vk ps gs := by
  have hb : Below w.heap.size w (w.alloc (.cells #[vp, vk] 168)) := (Below.refl _ w).alloc (Nat.le_refl _) _
  exact ⟨heap_alloc_new w _, .inr ⟨Nat.le_refl _, by simp⟩, (hp.keep (hu.stay hb)).mono fun _ h => .inl h, (hk.keep (hu.stay hb)).mono fun _ h => .inl h⟩
end
/-- What append built, as a slice within what is new. -/
theorem Mid.lay {α : Type} {sz : Nat} {c : α → List Value} {e : TypeId} {w0 w : World} {F : List Nat} {v : Value} {l : List α} {P : Bl} (h : Mid sz c e w0 F w v l) (hF : ∀ b ∈ F, P b) : Lay (New P w0 w) sz c w v l :=
  ⟨h.rows, fun b hb => (h.foot b hb).imp (hF b) id⟩
def spl {α : Type} (l : List α) (a b : Nat) (o : List α) : List α := l.take a ++ o ++ l.drop b
end Go.Proofs.YtlnagdodnkhbmaaGreat

namespace Go.Proofs.YtlnagdodnkhbmaaGreat
open Go.RowKit
set_option maxRecDepth 100000

theorem Row.cut3 {sz len : Nat} {w : World} {cs : List Value} {A : Option Addr} {n c : Nat} (h : Row sz w (.slice A n c) len cs) {a b : Nat} (ha : a ≤ b) (hb : b ≤ len) : Row sz w (sliced A a b b sz) (b - a) ((cs.drop (a * sz)).take ((b - a) * sz)) := by
  obtain ⟨hl, A', c', hv, h1, h2, h3, hx⟩ := h
  injection hv with e1 e2 e3
  subst e1; subst e2; subst e3
  have hab : (b - a) * sz ≤ cs.length - a * sz := by
    rw [hl, ← Nat.sub_mul]
    exact Nat.mul_le_mul_right _ (by omega)
  have hlen : ((cs.drop (a * sz)).take ((b - a) * sz)).length = (b - a) * sz := by rw [List.length_take, List.length_drop]; omega
  unfold sliced
  refine ⟨hlen, _, b - a, rfl, Nat.le_refl _, by omega, fun hA => ?_, fun j u hj => ?_⟩
  · split at hA
    · omega
    · cases A with
      | none => have := h3 rfl; omega
      | some ad => cases hA
  · rw [List.getElem?_take] at hj
    split at hj
    · rename_i hjl
      rw [List.getElem?_drop] at hj
      obtain ⟨ad, hA, hcell⟩ := hx _ _ hj
      by_cases hca : b = a
      · exfalso
        have : b - a = 0 := by omega
        rw [this] at hjl
        omega
      · rw [if_neg hca, hA]
        exact ⟨_, rfl, by rw [add_add']; exact hcell⟩
    · cases hj
theorem Lay.cut3 {α : Type} {P : Bl} {sz : Nat} {c : α → List Value} (hc : ∀ a, (c a).length = sz) {w : World} {A : Option Addr} {n cap : Nat} {l : List α} (h : Lay P sz c w (.slice A n cap) l) {a b : Nat} (ha : a ≤ b) (hb : b ≤ l.length) :
    ∃ A', sliced A a b b sz = .slice A' (b - a) (b - a) ∧ Lay P sz c w (.slice A' (b - a) (b - a)) ((l.drop a).take (b - a)) := by
  refine ⟨_, rfl, ?_, fun x hx => h.2 x ?_⟩
  · have h1 := Row.cut3 h.1 ha hb
    rw [cellsBy_drop hc, cellsBy_take hc] at h1
    unfold Elems
    rw [List.length_take, List.length_drop, Nat.min_eq_left (by omega)]
    exact h1
  · rw [mem_ownFoot] at hx ⊢
    cases A with
    | none => simp [Value.ownBlock] at hx
    | some ad =>
      by_cases hba : b = a
      · simp [hba, Value.ownBlock] at hx ⊢; exact hx
      · simp [hba, Value.ownBlock, add_blk] at hx ⊢; exact hx
theorem Lay.from_ {α : Type} {P : Bl} {sz : Nat} {c : α → List Value} (hc : ∀ a, (c a).length = sz) {w : World} {A : Option Addr} {n cap : Nat} {l : List α} (h : Lay P sz c w (.slice A n cap) l) {m : Nat} (hm : m ≤ l.length) :
    Elems sz c w (sliced A m l.length cap sz) (l.drop m) := h.1.from_ hc hm
theorem Lay.slice {α : Type} {P : Bl} {sz : Nat} {c : α → List Value} {w : World} {v : Value} {l : List α} (h : Lay P sz c w v l) : ∃ A cap, v = .slice A l.length cap := h.1.slice

theorem Lay.drew {α : Type} {P : Bl} {sz : Nat} {c : α → List Value} {w : World} {v : Value} {l : List α} (h : Lay P sz c w v l) : Lay P sz c w.drew v l := h
theorem Elems.drew {α : Type} {sz : Nat} {c : α → List Value} {w : World} {v : Value} {l : List α} (h : Elems sz c w v l) : Elems sz c w.drew v l := h
theorem below_drew' (w : World) : Below w.heap.size w w.drew := below_drewN' (Below.refl _ _) 1
/-- What was cut off has no room. -/
theorem mid1 {α : Type} {sz : Nat} {c : α → List Value} {e : TypeId} {w w' : World} {P : Bl} {A : Option Addr} {a : Nat} {l : List α} (h : Lay P sz c w' (.slice A a a) l) (hd : Below w.heap.size w w') : Mid sz c e w (ownFoot (.slice A a a)) w' (.slice A a a) l := by
  obtain ⟨_, _, hc⟩ := h.slice
  injection hc with _ hl _
  subst hl
  exact Mid.full h.1 (fun _ hb => hb) hd

theorem Tryz.info164 : (Tryz.prog.info? 164).map (fun i => (i.zero, i.size, i.bytes)) = some (some (.agg #[.string ⟨#[]⟩, .string ⟨#[]⟩]), 2, 32) := by kernel_rfl
theorem elem165 : Tryz.prog.elem 165 = 164 := by kernel_rfl
theorem run_size164 (W : World) : (sizeOf 164).run Tryz.prog W = .ok 2 W := by kernel_rfl
theorem cut3P (W : World) (A : Option Addr) (len cap a b : Nat) (ha : a ≤ b) (hb : b ≤ cap) :
    (Instr.slice 165 (.slice A len cap) (some (.int .i64 (a : Int))) (some (.int .i64 (b : Int))) (some (.int .i64 (b : Int)))).run Tryz.prog W = .ok (sliced A a b b 2) W := by
  have e := run_slice_lhm (P := Tryz.prog) (w := W) 165 A len cap (by rw [elem165]; exact Tryz.underlying165) .i64 .i64 .i64 (a : Int) (b : Int) (b : Int) (by omega) (by omega) (by omega) (by omega)
  rw [elem165, run_size164] at e
  simpa [Result.andThen] using e
theorem cutlP (W : World) (A : Option Addr) (len cap a : Nat) (ha : a ≤ len) : (Instr.slice 165 (.slice A len cap) (some (.int .i64 (a : Int))) none none).run Tryz.prog W = .ok (sliced A a len cap 2) W := by
  have e := run_slice_l (P := Tryz.prog) (w := W) 165 A len cap (by rw [elem165]; exact Tryz.underlying165) .i64 (a : Int) (by omega) (by omega)
  rw [elem165, run_size164] at e
  simpa [Result.andThen] using e
theorem cut_P (w : World) (P : Bl) (v : Value) (ps : List Pr) (a b : Nat) (hv : Lay P 2 cP w v ps) (hab : a ≤ b) (hb : b ≤ ps.length) :
    Calls Tryz.prog 140 #[v, .int .i64 (a : Int), .int .i64 (b : Int)] w fun e w' => w = w' ∧ ∃ A, e = .returned (.slice A (b - a) (b - a)) ∧ Lay P 2 cP w (.slice A (b - a) (b - a)) ((ps.drop a).take (b - a)) := by
  obtain ⟨A, cap, rfl⟩ := hv.slice
  obtain ⟨A', he, hl⟩ := hv.cut3 cP_len hab hb
  have hcap := hv.1.cap
  have hrun : ∀ W, (Instr.slice 165 (.slice A ps.length cap) (some (.int .i64 (a : Int))) (some (.int .i64 (b : Int))) (some (.int .i64 (b : Int)))).run Tryz.prog W = .ok (.slice A' (b - a) (b - a)) W := fun W => by rw [← he]; exact cut3P W A ps.length cap a b hab (by omega)
  have HL := hid hl
  clear hl hcap he hv
  go_enter Tryz.func140, Tryz.ntmps140
  go_wp2
  go_ret
  exact ⟨rfl, A', rfl, HL.out⟩

theorem cut0_P (w : World) (P : Bl) (v : Value) (ps : List Pr) (b : Nat) (hv : Lay P 2 cP w v ps) (hb : b ≤ ps.length) :
    Calls Tryz.prog 140 #[v, .int .i64 0, .int .i64 (b : Int)] w fun e w' => w = w' ∧ ∃ A, e = .returned (.slice A b b) ∧ Lay P 2 cP w (.slice A b b) (ps.take b) := by
  have h := cut_P w P v ps 0 b hv (Nat.zero_le _) hb
  rw [List.drop_zero, Nat.sub_zero] at h
  exact h
set_option maxHeartbeats 2000000 in
theorem splice_P (w : World) (P : Bl) (v : Value) (ps : List Pr) (a b : Nat) (vo : Value) (os : List Pr) (hv : Lay P 2 cP w v ps) (ho : Lay P 2 cP w vo os) (hab : a ≤ b) (hb : b ≤ ps.length) (hu : Under P w) (hp : ps.length ≤ 1000) (hq : os.length ≤ 1000) :
    Calls Tryz.prog 113 #[v, .int .i64 (a : Int), .int .i64 (b : Int), vo] w fun e w' => ∃ u, e = .returned u ∧ Below w.heap.size w w' ∧ Lay (New P w w') 2 cP w' u (spl ps a b os) := by
  obtain ⟨i0, hi0, hz0, hs0, hy0⟩ := info_parts Tryz.info164
  obtain ⟨A, cap, rfl⟩ := hv.slice
  obtain ⟨Ao, capo, rfl⟩ := ho.slice
  have hcap := hv.1.cap
  obtain ⟨len, HLEN⟩ : ∃ len, Hid (len = ps.length) := ⟨_, rfl⟩
  obtain ⟨leno, HLENO⟩ : ∃ len, Hid (len = os.length) := ⟨_, rfl⟩
  obtain ⟨VC, HVC⟩ : ∃ V, Hid (V = sliced A b len cap 2) := ⟨_, rfl⟩
  have hcut : ∀ W, (Instr.slice 165 (.slice A len cap) (some (.int .i64 (b : Int))) none none).run Tryz.prog W = .ok VC W := fun W => by rw [HVC.out]; exact cutlP W A len cap b (by rw [HLEN.out]; exact hb)
  have HRC : Hid (Elems 2 cP w VC (ps.drop b)) := by rw [HVC.out, HLEN.out]; exact hv.from_ cP_len hb
  have HV := hid hv
  have HO := hid ho
  have HU := hid hu
  have hbl : b ≤ len := by rw [HLEN.out]; exact hb
  have HPQ : Hid (ps.length ≤ 1000 ∧ os.length ≤ 1000) := ⟨hp, hq⟩
  rw [← HLEN.out] at HV ⊢
  rw [← HLENO.out] at HO ⊢
  have HC := hid fun (w' : World) (P : Bl) (h : Lay P 2 cP w' (.slice A len cap) ps) => cut0_P w' P (.slice A len cap) ps a h (by omega)
  have l1 : (ps.take a).length ≤ 1000 := by rw [List.length_take]; omega
  have l2 : (ps.drop b).length ≤ 1000 := by rw [List.length_drop]; omega
  have B1 : Hid ((ps.take a).length + os.length ≤ maxLen) := by show _ ≤ _; unfold maxLen; omega
  have B2 : Hid (((ps.take a).length + os.length) * 32 ≤ 140737488355328) := by show _ ≤ _; omega
  have B3 : Hid ((ps.take a ++ os).length + (ps.drop b).length ≤ maxLen) := by show _ ≤ _; rw [List.length_append]; unfold maxLen; omega
  have B4 : Hid (((ps.take a ++ os).length + (ps.drop b).length) * 32 ≤ 140737488355328) := by show _ ≤ _; rw [List.length_append]; omega
  clear hv ho hcap hu hp hq hb l1 l2
  go_enter Tryz.func113, Tryz.ntmps113
  go_wp2
  go_region_held3 (fun _ => True) (trivial)
    (first
      | (go_at_call 140; ((with_reducible refine (HC.out _ P HV.out.drew).mono ?_); rintro e w1 ⟨rfl, A1, rfl, hl1⟩; have HL1 := hid hl1; clear hl1))
      | (refine step_append_mid (w0 := w) (F := ownFoot (.slice A1 a a)) (by rfl) _ _ 165 (by rfl) 164 i0 _ 2 32 Tryz.underlying165 hi0 hz0 hs0 hy0 (by rfl) (by omega) cP_len cP_one _ (ps.take a) (by rfl) (mid1 HL1.out (below_drew' w)) _ os (by rfl) HO.out.1.drew B1.out B2.out ?_; intro v1 w1 hm1 hg1 hf1; have HM1 := hid hm1; have HB1 := hid hm1.base; clear hm1 hg1 hf1)
      | (refine step_append_mid (w0 := w) (F := ownFoot (.slice A1 a a)) (by rfl) _ _ 165 (by rfl) 164 i0 _ 2 32 Tryz.underlying165 hi0 hz0 hs0 hy0 (by rfl) (by omega) cP_len cP_one _ (ps.take a ++ os) (by rfl) HM1.out _ (ps.drop b) (by rfl) (HRC.out.below HB1.out) B3.out B4.out ?_; intro v2 w2 hm2 hg2 hf2; have HM2 := hid hm2; clear hm2 hg2 hf2))
  go_wp2
  go_ret
  refine ⟨v2, rfl, HM2.out.base, ?_⟩
  have := HM2.out.lay (P := P) fun b hb => HL1.out.2 b hb
  exact this

theorem Tryz.info155 : (Tryz.prog.info? 155).map (fun i => (i.zero, i.size, i.bytes)) = some (some (.pointer none), 1, 8) := by kernel_rfl
theorem elem166 : Tryz.prog.elem 166 = 155 := by kernel_rfl
theorem run_size155 (W : World) : (sizeOf 155).run Tryz.prog W = .ok 1 W := by kernel_rfl
theorem cut3K (W : World) (A : Option Addr) (len cap a b : Nat) (ha : a ≤ b) (hb : b ≤ cap) :
    (Instr.slice 166 (.slice A len cap) (some (.int .i64 (a : Int))) (some (.int .i64 (b : Int))) (some (.int .i64 (b : Int)))).run Tryz.prog W = .ok (sliced A a b b 1) W := by
  have e := run_slice_lhm (P := Tryz.prog) (w := W) 166 A len cap (by rw [elem166]; exact Tryz.underlying166) .i64 .i64 .i64 (a : Int) (b : Int) (b : Int) (by omega) (by omega) (by omega) (by omega)
  rw [elem166, run_size155] at e
  simpa [Result.andThen] using e
theorem cutlK (W : World) (A : Option Addr) (len cap a : Nat) (ha : a ≤ len) : (Instr.slice 166 (.slice A len cap) (some (.int .i64 (a : Int))) none none).run Tryz.prog W = .ok (sliced A a len cap 1) W := by
  have e := run_slice_l (P := Tryz.prog) (w := W) 166 A len cap (by rw [elem166]; exact Tryz.underlying166) .i64 (a : Int) (by omega) (by omega)
  rw [elem166, run_size155] at e
  simpa [Result.andThen] using e
theorem cut_K (w : World) (P : Bl) (v : Value) (ps : List Nat) (a b : Nat) (hv : Lay P 1 cK w v ps) (hab : a ≤ b) (hb : b ≤ ps.length) :
    Calls Tryz.prog 158 #[v, .int .i64 (a : Int), .int .i64 (b : Int)] w fun e w' => w = w' ∧ ∃ A, e = .returned (.slice A (b - a) (b - a)) ∧ Lay P 1 cK w (.slice A (b - a) (b - a)) ((ps.drop a).take (b - a)) := by
  obtain ⟨A, cap, rfl⟩ := hv.slice
  obtain ⟨A', he, hl⟩ := hv.cut3 cK_len hab hb
  have hcap := hv.1.cap
  have hrun : ∀ W, (Instr.slice 166 (.slice A ps.length cap) (some (.int .i64 (a : Int))) (some (.int .i64 (b : Int))) (some (.int .i64 (b : Int)))).run Tryz.prog W = .ok (.slice A' (b - a) (b - a)) W := fun W => by rw [← he]; exact cut3K W A ps.length cap a b hab (by omega)
  have HL := hid hl
  clear hl hcap he hv
  go_enter Tryz.func158, Tryz.ntmps158
  go_wp2
  go_ret
  exact ⟨rfl, A', rfl, HL.out⟩

theorem cut0_K (w : World) (P : Bl) (v : Value) (ps : List Nat) (b : Nat) (hv : Lay P 1 cK w v ps) (hb : b ≤ ps.length) :
    Calls Tryz.prog 158 #[v, .int .i64 0, .int .i64 (b : Int)] w fun e w' => w = w' ∧ ∃ A, e = .returned (.slice A b b) ∧ Lay P 1 cK w (.slice A b b) (ps.take b) := by
  have h := cut_K w P v ps 0 b hv (Nat.zero_le _) hb
  rw [List.drop_zero, Nat.sub_zero] at h
  exact h
set_option maxHeartbeats 2000000 in
theorem splice_K (w : World) (P : Bl) (v : Value) (ps : List Nat) (a b : Nat) (vo : Value) (os : List Nat) (hv : Lay P 1 cK w v ps) (ho : Lay P 1 cK w vo os) (hab : a ≤ b) (hb : b ≤ ps.length) (hu : Under P w) (hp : ps.length ≤ 1000) (hq : os.length ≤ 1000) :
    Calls Tryz.prog 153 #[v, .int .i64 (a : Int), .int .i64 (b : Int), vo] w fun e w' => ∃ u, e = .returned u ∧ Below w.heap.size w w' ∧ Lay (New P w w') 1 cK w' u (spl ps a b os) := by
  obtain ⟨i0, hi0, hz0, hs0, hy0⟩ := info_parts Tryz.info155
  obtain ⟨A, cap, rfl⟩ := hv.slice
  obtain ⟨Ao, capo, rfl⟩ := ho.slice
  have hcap := hv.1.cap
  obtain ⟨len, HLEN⟩ : ∃ len, Hid (len = ps.length) := ⟨_, rfl⟩
  obtain ⟨leno, HLENO⟩ : ∃ len, Hid (len = os.length) := ⟨_, rfl⟩
  obtain ⟨VC, HVC⟩ : ∃ V, Hid (V = sliced A b len cap 1) := ⟨_, rfl⟩
  have hcut : ∀ W, (Instr.slice 166 (.slice A len cap) (some (.int .i64 (b : Int))) none none).run Tryz.prog W = .ok VC W := fun W => by rw [HVC.out]; exact cutlK W A len cap b (by rw [HLEN.out]; exact hb)
  have HRC : Hid (Elems 1 cK w VC (ps.drop b)) := by rw [HVC.out, HLEN.out]; exact hv.from_ cK_len hb
  have HV := hid hv
  have HO := hid ho
  have HU := hid hu
  have hbl : b ≤ len := by rw [HLEN.out]; exact hb
  have HPQ : Hid (ps.length ≤ 1000 ∧ os.length ≤ 1000) := ⟨hp, hq⟩
  rw [← HLEN.out] at HV ⊢
  rw [← HLENO.out] at HO ⊢
  have HC := hid fun (w' : World) (P : Bl) (h : Lay P 1 cK w' (.slice A len cap) ps) => cut0_K w' P (.slice A len cap) ps a h (by omega)
  have l1 : (ps.take a).length ≤ 1000 := by rw [List.length_take]; omega
  have l2 : (ps.drop b).length ≤ 1000 := by rw [List.length_drop]; omega
  have B1 : Hid ((ps.take a).length + os.length ≤ maxLen) := by show _ ≤ _; unfold maxLen; omega
  have B2 : Hid (((ps.take a).length + os.length) * 8 ≤ 140737488355328) := by show _ ≤ _; omega
  have B3 : Hid ((ps.take a ++ os).length + (ps.drop b).length ≤ maxLen) := by show _ ≤ _; rw [List.length_append]; unfold maxLen; omega
  have B4 : Hid (((ps.take a ++ os).length + (ps.drop b).length) * 8 ≤ 140737488355328) := by show _ ≤ _; rw [List.length_append]; omega
  clear hv ho hcap hu hp hq hb l1 l2
  go_enter Tryz.func153, Tryz.ntmps153
  go_wp2
  go_region_held3 (fun _ => True) (trivial)
    (first
      | (go_at_call 158; ((with_reducible refine (HC.out _ P HV.out.drew).mono ?_); rintro e w1 ⟨rfl, A1, rfl, hl1⟩; have HL1 := hid hl1; clear hl1))
      | (refine step_append_mid (w0 := w) (F := ownFoot (.slice A1 a a)) (by rfl) _ _ 166 (by rfl) 155 i0 _ 1 8 Tryz.underlying166 hi0 hz0 hs0 hy0 (by rfl) (by omega) cK_len cK_one _ (ps.take a) (by rfl) (mid1 HL1.out (below_drew' w)) _ os (by rfl) HO.out.1.drew B1.out B2.out ?_; intro v1 w1 hm1 hg1 hf1; have HM1 := hid hm1; have HB1 := hid hm1.base; clear hm1 hg1 hf1)
      | (refine step_append_mid (w0 := w) (F := ownFoot (.slice A1 a a)) (by rfl) _ _ 166 (by rfl) 155 i0 _ 1 8 Tryz.underlying166 hi0 hz0 hs0 hy0 (by rfl) (by omega) cK_len cK_one _ (ps.take a ++ os) (by rfl) HM1.out _ (ps.drop b) (by rfl) (HRC.out.below HB1.out) B3.out B4.out ?_; intro v2 w2 hm2 hg2 hf2; have HM2 := hid hm2; clear hm2 hg2 hf2))
  go_wp2
  go_ret
  refine ⟨v2, rfl, HM2.out.base, ?_⟩
  have := HM2.out.lay (P := P) fun b hb => HL1.out.2 b hb
  exact this
end Go.Proofs.YtlnagdodnkhbmaaGreat

namespace Go.Proofs.YtlnagdodnkhbmaaGreat
open Go.RowKit
set_option maxRecDepth 100000

/-- append(nil, make([]E, n)...) -/
theorem run_append_make {P : Program} (w : World) (t u e : TypeId) (i : TypeInfo) (z : Value) (ht : P.underlying t = some (.slice e)) (hu : P.underlying u = some (.int .i64)) (hi : P.info? e = some i) (hz : i.zero = some z) (n : Nat) (h0 : 0 < n) (hn : n ≤ 100000) (hs : 0 < i.size) (hb : i.bytes ≤ 1000) (hsz : z.cells.size = i.size) :
    ∃ cs, (∀ ty, (Builtin.append_ #[t, u] ty #[.slice none 0 0, .int .i64 (n : Int)]).run P w = .ok (.slice (some ⟨w.heap.size, 0, none⟩) n (grownCap w n 0 e)) (w.drew.alloc (.cells cs e))) ∧ cs.size = grownCap w n 0 e * i.size := by
  have hge := grownCap_ge w n 0 e
  have h1 : IntKind.i64.wrap (n : Int) = n := by unfold IntKind.wrap; simp [IntKind.signed, IntKind.bits]; omega
  have hnb : n * i.bytes ≤ 100000 * 1000 := Nat.mul_le_mul hn hb
  have h2 : ¬ (281474976710656 < (n : Int) * (i.bytes : Int)) := by
    rw [← Int.natCast_mul]; omega
  have h3 : ¬ (281474976710656 < Builtin.nextslicecap n 0 * i.bytes) := by rw [nextslicecap_zero h0]; omega
  have h4 : ¬ (n : Int) < 0 := by omega
  have h5 : n * i.size ≠ 0 := Nat.mul_ne_zero (by omega) (by omega)
  have h7 : n ≠ 0 := by omega
  have h8 : i.size ≠ 0 := by omega
  refine ⟨Builtin.zeroCells z.cells n ++ Builtin.zeroCells z.cells (grownCap w n 0 e - n), ?_, ?_⟩
  · intro ty
    have h6 : ¬ (9223372036854775807 < (n : Int)) := by omega
    simp [Builtin.append_, run_underlying ht, run_underlying hu, sizeOf, typeInfo, zeroValue, hi, hz, asInt, asIntOf, Builtin.lenOf, h1, h2, h3, h4, h5, h6, h7, Question.forced, run_firstCells_none, newRow, grownCap]
  · unfold Builtin.zeroCells
    simp only [Array.size_append, Array.size_map, Array.size_range, hsz]
    rw [← Nat.add_mul]; congr 1; omega
theorem wpList_append_run {P : Program} {w w' : World} {ops : Array Oper} {rest : List Oper} {o : Oper} {a : Act} {Q : Exit → Act → World → Prop} (hgd : o.guard = none) (s x : Operand) (t u : TypeId) (sv xv v' : Value)
    (ho : o.op = .call { callee := .builtin .append, args := #[s, x], argTypes := #[t, u] }) (hs : a.eval s = sv) (hx : a.eval x = xv) (hrun : ∀ ty, (Builtin.append_ #[t, u] ty #[sv, xv]).run P w = .ok v' w')
    (h : wpList P ops Q rest (a.put o.dst v') w') : wpList P ops Q (o :: rest) a w := by
  refine wpList_plain hgd fun K hK => ?_
  unfold Oper.wp execOp
  simp only [ho, resolve, invoke, builtin, Sem.run_bind, Sem.run_pure, Result.andThen_ok, List.map_toArray, List.map_cons, List.map_nil, hs, hx, hrun]
  exact hK _ _ h
def cV (x : Value) : List Value := [x]
theorem cV_len (x : Value) : (cV x).length = 1 := rfl
/-- Slices of things, one behind the other. -/
def Lists {α : Type} (sz : Nat) (c : α → List Value) (w : World) (vs : List Value) (ls : List (List α)) : Prop := vs.length = ls.length ∧ ∀ (i : Nat) (x : Value) (l : List α), vs[i]? = some x → ls[i]? = some l → Elems sz c w x l
theorem Lists.below {α : Type} {sz : Nat} {c : α → List Value} {w w' : World} {vs : List Value} {ls : List (List α)} (h : Lists sz c w vs ls) (hb : Below w.heap.size w w') : Lists sz c w' vs ls :=
  ⟨h.1, fun i x l h1 h2 => (h.2 i x l h1 h2).below hb⟩
theorem flat_take {α : Type} {ls : List (List α)} {n : Nat} {l : List α} (h : ls[n]? = some l) : (ls.take (n + 1)).flatten = (ls.take n).flatten ++ l := by
  rw [List.take_add_one, h]; simp
theorem flat_take_le {α : Type} (ls : List (List α)) (n : Nat) : (ls.take n).flatten.length ≤ ls.flatten.length := by
  conv => rhs; rw [← List.take_append_drop n ls, List.flatten_append, List.length_append]
  omega
theorem int_i64 : Tryz.prog.underlying 3 = some (.int .i64) := Tryz.underlying3

set_option maxHeartbeats 1000000 in
theorem grow_P (w : World) (F : List Nat) (n : Nat) (hn : n ≤ 100000) :
    Calls Tryz.prog 159 #[.slice none 0 0, .int .i64 (n : Int)] w fun e w' => ∃ u, e = .returned u ∧ Mid 2 cP 164 w F w' u ([] : List Pr) := by
  obtain ⟨i0, hi0, hz0, hs0, hy0⟩ := info_parts Tryz.info164
  by_cases h0 : n = 0
  · subst h0
    go_enter Tryz.func159, Tryz.ntmps159
    go_wp2
    go_ret
    exact ⟨_, rfl, Mid.nil w F (Below.refl _ _)⟩
  · obtain ⟨cs, hrun, hcs⟩ := run_append_make (P := Tryz.prog) w 165 3 164 i0 _ Tryz.underlying165 int_i64 hi0 hz0 n (by omega) hn (by omega) (by omega) (by rw [hs0]; rfl)
    have hge := grownCap_ge w n 0 164
    have hcm := grownCap_le_maxLen w n 0 164 (by unfold maxLen; omega)
    obtain ⟨cap, HCAP⟩ : ∃ cap, Hid (cap = grownCap w n 0 164) := ⟨_, rfl⟩
    rw [← HCAP.out] at hrun hcs hge hcm
    have hpos : (0 : Int) < n := by omega
    have hwn : IntKind.i64.wrap (n : Int) = n := by unfold IntKind.wrap; simp [IntKind.signed, IntKind.bits]; omega
    have hsl : ∀ W, (Instr.slice 165 (.slice (some ⟨w.heap.size, 0, none⟩) n cap) none (some (.int .i64 0)) none).run Tryz.prog W = .ok (.slice (some ⟨w.heap.size, 0, none⟩) 0 cap) W := fun W => by
      have e := run_slice_h (P := Tryz.prog) (w := W) 165 (some ⟨w.heap.size, 0, none⟩) n cap (by rw [elem165]; exact Tryz.underlying165) .i64 0 (by omega) (by omega)
      rw [elem165, run_size164] at e
      simp only [Result.andThen] at e
      rw [e]
      unfold sliced
      split <;> simp [add_zero', *]
    have HGE := hid hge
    have HCM := hid hcm
    have HCS := hid hcs
    have HS0 := hid hs0
    clear hge hcm hcs
    go_enter Tryz.func159, Tryz.ntmps159
    go_wp2_with (at_builtin; refine wpList_append_run rfl (.tmp 20) (.tmp 21) 165 3 _ _ _ rfl rfl rfl hrun ?_)
    go_ret
    refine ⟨_, rfl, ⟨?_, .inr ?_⟩⟩
    · exact (show Below w.heap.size w w.drew from below_drewN' (Below.refl _ _) 1).alloc (Nat.le_refl _) _
    · refine ⟨by simp [cellsBy], .inr ⟨w.heap.size, cap, cs, rfl, Nat.le_refl _, heap_alloc_new w.drew _, Nat.zero_le _, HCM.out, by rw [HCS.out, HS0.out], by simp [cellsBy]⟩⟩

set_option maxHeartbeats 2000000 in
theorem concat_P (w : World) (v : Value) (vs : List Value) (ls : List (List Pr)) (hv : Elems 1 cV w v vs) (hl : Lists 2 cP w vs ls) (hsz : ls.flatten.length ≤ 10000) :
    Calls Tryz.prog 156 #[v] w fun e w' => ∃ u, e = .returned u ∧ Mid 2 cP 164 w [] w' u ls.flatten := by
  obtain ⟨i0, hi0, hz0, hs0, hy0⟩ := info_parts Tryz.info164
  obtain ⟨A, cap, rfl⟩ := hv.slice
  have hcap := hv.cap
  obtain ⟨len, HLEN⟩ : ∃ len, Hid (len = vs.length) := ⟨_, rfl⟩
  have hm : vs.length ≤ 9223372036854775807 := by unfold maxLen at hcap; omega
  have HV := hid hv
  have HL := hid hl
  have HSZ := hid hsz
  rw [← HLEN.out] at hm HV ⊢
  clear hv hcap hl hsz
  go_enter Tryz.func156, Tryz.ntmps156
  go_wp2
  go_loop [3, 11] (fun s i => ∃ n : Nat, n ≤ len ∧ i = .int .i64 n ∧ ∃ S : Nat, s = .int .i64 S ∧ S ≤ 10000 ∧ Hid (S = (ls.take n).flatten.length)) (fun _ i => len - (intOf i).toNat)
  case atStart => exact ⟨0, by omega, rfl, 0, rfl, by omega, rfl⟩
  case round =>
    obtain ⟨n, hn, rfl, S, rfl, hS, HS⟩ := hrel
    by_cases hlt : n < len
    · have hlti : (n : Int) < len := by omega
      obtain ⟨x, hx⟩ : ∃ x, vs[n]? = some x := ⟨vs[n]'(by have := HLEN.out; omega), List.getElem?_eq_getElem _⟩
      obtain ⟨l, hll⟩ : ∃ l, ls[n]? = some l := ⟨ls[n]'(by have := HLEN.out; have := HL.out.1; omega), List.getElem?_eq_getElem _⟩
      obtain ⟨ad, rfl, hc⟩ := HV.out.cell cV_len (j := 0) hx (u := x) rfl
      rw [Nat.add_zero, Nat.mul_one] at hc
      obtain ⟨B, capb, rfl⟩ := (HL.out.2 n x l hx hll).slice
      have hS' : Hid (S + l.length = (ls.take (n + 1)).flatten.length) := by show _ = _; rw [flat_take hll, List.length_append, HS.out]
      have hS2 : S + l.length ≤ 10000 := by
        have h1 := hS'.out
        have h2 := flat_take_le ls (n + 1)
        have h3 := HSZ.out
        omega
      clear hx hll
      go_wp2
      go_round
      case rel => exact ⟨n + 1, by omega, by go_num, S + l.length, by go_num, hS2, hS'⟩
      case measure => simp [intOf]; omega
    · obtain rfl : n = len := by omega
      go_wp2_with fail
      refine (grow_P w [] S (by omega)).mono ?_
      rintro e w1 ⟨u, rfl, hm1⟩
      have HM1 := hid hm1
      clear hm1
      go_wp2
      go_loopw [6, 27] (fun s i wr => ∃ m : Nat, m ≤ n ∧ i = .int .i64 m ∧ Mid 2 cP 164 w [] wr s (ls.take m).flatten) (fun _ i _ => n - (intOf i).toNat)
      case atStart => exact ⟨0, by omega, rfl, HM1.out⟩
      case round =>
        obtain ⟨m, hmn, rfl, hmid⟩ := hrel
        have HMID := hid hmid
        have hB := hmid.base
        have HB := hid hB
        by_cases hlt2 : m < n
        · have hlti : (m : Int) < n := by omega
          obtain ⟨x, hx⟩ : ∃ x, vs[m]? = some x := ⟨vs[m]'(by have := HLEN.out; omega), List.getElem?_eq_getElem _⟩
          obtain ⟨l, hll⟩ : ∃ l, ls[m]? = some l := ⟨ls[m]'(by have := HLEN.out; have := HL.out.1; omega), List.getElem?_eq_getElem _⟩
          obtain ⟨ad, rfl, hc⟩ := (HV.out.below hB).cell cV_len (j := 0) hx (u := x) rfl
          rw [Nat.add_zero, Nat.mul_one] at hc
          have HX := hid ((HL.out.2 m x l hx hll).below hB)
          have HFT := hid (flat_take hll)
          have B1 : Hid ((ls.take m).flatten.length + l.length ≤ maxLen ∧ ((ls.take m).flatten.length + l.length) * 32 ≤ 140737488355328) := by
            have h1 := flat_take_le ls (m + 1)
            rw [HFT.out, List.length_append] at h1
            have h2 := HSZ.out
            constructor
            · unfold maxLen; omega
            · omega
          clear hx hll hmid hB
          go_wp2_with (at_builtin; refine wpList_append_mid (w0 := w) (F := []) rfl (.tmp 31) (.tmp 32) 165 rfl 164 i0 _ 2 32 Tryz.underlying165 hi0 hz0 hs0 hy0 rfl (by omega) cP_len cP_one _ _ rfl HMID.out _ l rfl HX.out B1.out.1 B1.out.2 ?_; intro v1 w1 hm1 hg1 hf1; have HM2 := hid hm1; clear hm1 hg1 hf1)
          go_roundw
          case rel => exact ⟨m + 1, by omega, by go_num, by rw [HFT.out]; exact HM2.out⟩
          case measure => simp [intOf]; omega
        · obtain rfl : m = n := by omega
          have hall : ls.take m = ls := List.take_of_length_le (by have := HLEN.out; have := HL.out.1; omega)
          rw [hall] at HMID
          clear hmid hB hall
          go_wp2
          go_ret
          exact ⟨_, rfl, HMID.out⟩

set_option maxHeartbeats 1000000 in
theorem grow_K (w : World) (F : List Nat) (n : Nat) (hn : n ≤ 100000) :
    Calls Tryz.prog 160 #[.slice none 0 0, .int .i64 (n : Int)] w fun e w' => ∃ u, e = .returned u ∧ Mid 1 cK 155 w F w' u ([] : List Nat) := by
  obtain ⟨i0, hi0, hz0, hs0, hy0⟩ := info_parts Tryz.info155
  by_cases h0 : n = 0
  · subst h0
    go_enter Tryz.func160, Tryz.ntmps160
    go_wp2
    go_ret
    exact ⟨_, rfl, Mid.nil w F (Below.refl _ _)⟩
  · obtain ⟨cs, hrun, hcs⟩ := run_append_make (P := Tryz.prog) w 166 3 155 i0 _ Tryz.underlying166 int_i64 hi0 hz0 n (by omega) hn (by omega) (by omega) (by rw [hs0]; rfl)
    have hge := grownCap_ge w n 0 155
    have hcm := grownCap_le_maxLen w n 0 155 (by unfold maxLen; omega)
    obtain ⟨cap, HCAP⟩ : ∃ cap, Hid (cap = grownCap w n 0 155) := ⟨_, rfl⟩
    rw [← HCAP.out] at hrun hcs hge hcm
    have hpos : (0 : Int) < n := by omega
    have hwn : IntKind.i64.wrap (n : Int) = n := by unfold IntKind.wrap; simp [IntKind.signed, IntKind.bits]; omega
    have hsl : ∀ W, (Instr.slice 166 (.slice (some ⟨w.heap.size, 0, none⟩) n cap) none (some (.int .i64 0)) none).run Tryz.prog W = .ok (.slice (some ⟨w.heap.size, 0, none⟩) 0 cap) W := fun W => by
      have e := run_slice_h (P := Tryz.prog) (w := W) 166 (some ⟨w.heap.size, 0, none⟩) n cap (by rw [elem166]; exact Tryz.underlying166) .i64 0 (by omega) (by omega)
      rw [elem166, run_size155] at e
      simp only [Result.andThen] at e
      rw [e]
      unfold sliced
      split <;> simp [add_zero', *]
    have HGE := hid hge
    have HCM := hid hcm
    have HCS := hid hcs
    have HS0 := hid hs0
    clear hge hcm hcs
    go_enter Tryz.func160, Tryz.ntmps160
    go_wp2_with (at_builtin; refine wpList_append_run rfl (.tmp 20) (.tmp 21) 166 3 _ _ _ rfl rfl rfl hrun ?_)
    go_ret
    refine ⟨_, rfl, ⟨?_, .inr ?_⟩⟩
    · exact (show Below w.heap.size w w.drew from below_drewN' (Below.refl _ _) 1).alloc (Nat.le_refl _) _
    · refine ⟨by simp [cellsBy], .inr ⟨w.heap.size, cap, cs, rfl, Nat.le_refl _, heap_alloc_new w.drew _, Nat.zero_le _, HCM.out, by rw [HCS.out, HS0.out], by simp [cellsBy]⟩⟩

set_option maxHeartbeats 2000000 in
theorem concat_K (w : World) (v : Value) (vs : List Value) (ls : List (List Nat)) (hv : Elems 1 cV w v vs) (hl : Lists 1 cK w vs ls) (hsz : ls.flatten.length ≤ 10000) :
    Calls Tryz.prog 157 #[v] w fun e w' => ∃ u, e = .returned u ∧ Mid 1 cK 155 w [] w' u ls.flatten := by
  obtain ⟨i0, hi0, hz0, hs0, hy0⟩ := info_parts Tryz.info155
  obtain ⟨A, cap, rfl⟩ := hv.slice
  have hcap := hv.cap
  obtain ⟨len, HLEN⟩ : ∃ len, Hid (len = vs.length) := ⟨_, rfl⟩
  have hm : vs.length ≤ 9223372036854775807 := by unfold maxLen at hcap; omega
  have HV := hid hv
  have HL := hid hl
  have HSZ := hid hsz
  rw [← HLEN.out] at hm HV ⊢
  clear hv hcap hl hsz
  go_enter Tryz.func157, Tryz.ntmps157
  go_wp2
  go_loop [3, 11] (fun s i => ∃ n : Nat, n ≤ len ∧ i = .int .i64 n ∧ ∃ S : Nat, s = .int .i64 S ∧ S ≤ 10000 ∧ Hid (S = (ls.take n).flatten.length)) (fun _ i => len - (intOf i).toNat)
  case atStart => exact ⟨0, by omega, rfl, 0, rfl, by omega, rfl⟩
  case round =>
    obtain ⟨n, hn, rfl, S, rfl, hS, HS⟩ := hrel
    by_cases hlt : n < len
    · have hlti : (n : Int) < len := by omega
      obtain ⟨x, hx⟩ : ∃ x, vs[n]? = some x := ⟨vs[n]'(by have := HLEN.out; omega), List.getElem?_eq_getElem _⟩
      obtain ⟨l, hll⟩ : ∃ l, ls[n]? = some l := ⟨ls[n]'(by have := HLEN.out; have := HL.out.1; omega), List.getElem?_eq_getElem _⟩
      obtain ⟨ad, rfl, hc⟩ := HV.out.cell cV_len (j := 0) hx (u := x) rfl
      rw [Nat.add_zero, Nat.mul_one] at hc
      obtain ⟨B, capb, rfl⟩ := (HL.out.2 n x l hx hll).slice
      have hS' : Hid (S + l.length = (ls.take (n + 1)).flatten.length) := by show _ = _; rw [flat_take hll, List.length_append, HS.out]
      have hS2 : S + l.length ≤ 10000 := by
        have h1 := hS'.out
        have h2 := flat_take_le ls (n + 1)
        have h3 := HSZ.out
        omega
      clear hx hll
      go_wp2
      go_round
      case rel => exact ⟨n + 1, by omega, by go_num, S + l.length, by go_num, hS2, hS'⟩
      case measure => simp [intOf]; omega
    · obtain rfl : n = len := by omega
      go_wp2_with fail
      refine (grow_K w [] S (by omega)).mono ?_
      rintro e w1 ⟨u, rfl, hm1⟩
      have HM1 := hid hm1
      clear hm1
      go_wp2
      go_loopw [6, 27] (fun s i wr => ∃ m : Nat, m ≤ n ∧ i = .int .i64 m ∧ Mid 1 cK 155 w [] wr s (ls.take m).flatten) (fun _ i _ => n - (intOf i).toNat)
      case atStart => exact ⟨0, by omega, rfl, HM1.out⟩
      case round =>
        obtain ⟨m, hmn, rfl, hmid⟩ := hrel
        have HMID := hid hmid
        have hB := hmid.base
        have HB := hid hB
        by_cases hlt2 : m < n
        · have hlti : (m : Int) < n := by omega
          obtain ⟨x, hx⟩ : ∃ x, vs[m]? = some x := ⟨vs[m]'(by have := HLEN.out; omega), List.getElem?_eq_getElem _⟩
          obtain ⟨l, hll⟩ : ∃ l, ls[m]? = some l := ⟨ls[m]'(by have := HLEN.out; have := HL.out.1; omega), List.getElem?_eq_getElem _⟩
          obtain ⟨ad, rfl, hc⟩ := (HV.out.below hB).cell cV_len (j := 0) hx (u := x) rfl
          rw [Nat.add_zero, Nat.mul_one] at hc
          have HX := hid ((HL.out.2 m x l hx hll).below hB)
          have HFT := hid (flat_take hll)
          have B1 : Hid ((ls.take m).flatten.length + l.length ≤ maxLen ∧ ((ls.take m).flatten.length + l.length) * 8 ≤ 140737488355328) := by
            have h1 := flat_take_le ls (m + 1)
            rw [HFT.out, List.length_append] at h1
            have h2 := HSZ.out
            constructor
            · unfold maxLen; omega
            · omega
          clear hx hll hmid hB
          go_wp2_with (at_builtin; refine wpList_append_mid (w0 := w) (F := []) rfl (.tmp 31) (.tmp 32) 166 rfl 155 i0 _ 1 8 Tryz.underlying166 hi0 hz0 hs0 hy0 rfl (by omega) cK_len cK_one _ _ rfl HMID.out _ l rfl HX.out B1.out.1 B1.out.2 ?_; intro v1 w1 hm1 hg1 hf1; have HM2 := hid hm1; clear hm1 hg1 hf1)
          go_roundw
          case rel => exact ⟨m + 1, by omega, by go_num, by rw [HFT.out]; exact HM2.out⟩
          case measure => simp [intOf]; omega
        · obtain rfl : m = n := by omega
          have hall : ls.take m = ls := List.take_of_length_le (by have := HLEN.out; have := HL.out.1; omega)
          rw [hall] at HMID
          clear hmid hB hall
          go_wp2
          go_ret
          exact ⟨_, rfl, HMID.out⟩
end Go.Proofs.YtlnagdodnkhbmaaGreat

namespace Go.Proofs.YtlnagdodnkhbmaaGreat
open Go.RowKit
set_option maxRecDepth 100000

/-! The document's nodes, as the code makes them. -/
def joinT (l : T) (p : Pr) (r : T) : T := .nd (l.ps ++ [p] ++ r.ps) (l.ks ++ r.ks)
def partT (t : T) (a b : Nat) : T := .nd ((t.ps.drop a).take (b - a)) (if t.ks = [] then [] else (t.ks.drop a).take (b + 1 - a))
def partsT (o : Nat) (t : T) : List Pr × List T :=
  if t.ps.length ≤ 2 * o - 1 then ([], [t]) else ((t.ps.drop (t.ps.length / 2)).take 1, [partT t 0 (t.ps.length / 2), partT t (t.ps.length / 2 + 1) t.ps.length])
/-- A node to be put in a child's place, which places it takes. -/
def fitT (o : Nat) (t : T) (a : Nat) (kid : T) : T × Nat × Nat :=
  if o - 1 ≤ kid.ps.length then (kid, a, a + 1)
  else if 0 < a then (joinT (t.ks.getD (a - 1) kid) (t.ps.getD (a - 1) ([], [])) kid, a - 1, a + 1)
  else (joinT kid (t.ps.getD 0 ([], [])) (t.ks.getD 1 kid), 0, 2)
def aboveT (o : Nat) (t : T) (a : Nat) (kid : T) : T :=
  let f := fitT o t a kid
  .nd (spl t.ps f.2.1 (f.2.2 - 1) (partsT o f.1).1) (spl t.ks f.2.1 f.2.2 (partsT o f.1).2)

theorem cell_alloc_at {W : World} {o : Obj} {a : Addr} {v : Value} (h : W.cell? a = some v) : (W.alloc o).cell? a = some v := below_keep ((Below.refl _ W).alloc (Nat.le_refl _) o) _ _ h
theorem below_alloc' {W0 W : World} (h : Below W0.heap.size W0 W) (o : Obj) : Below W0.heap.size W0 (W.alloc o) := h.alloc h.size o
theorem below_to {W0 W W' : World} (k : Below W.heap.size W W') (h : Below W0.heap.size W0 W) : Below W0.heap.size W0 W' := h.trans (k.mono h.size)
theorem below_drew1 {n : Nat} {W0 W : World} (h : Below n W0 W) : Below n W0 W.drew := below_drewN' h 1
theorem heap_drew1 (W : World) (b : Nat) : W.drew.heap[b]? = W.heap[b]? := rfl
theorem size_drew1 (W : World) : W.drew.heap.size = W.heap.size := rfl
theorem hp_new {W : World} {o : Obj} {b : Nat} (h : b = W.heap.size) : (W.alloc o).heap[b]? = some o := by subst h; exact heap_alloc_new W o
theorem hp_old {W : World} {o o' : Obj} {b : Nat} (h : W.heap[b]? = some o') : (W.alloc o).heap[b]? = some o' := (Below.heap_alloc W o b (Array.getElem?_eq_some_iff.1 h).1).trans h
theorem hp_drew {W : World} {o' : Obj} {b : Nat} (h : W.heap[b]? = some o') : W.drew.heap[b]? = some o' := h
theorem elems_one {α : Type} {c : α → List Value} {sz : Nat} (hc : ∀ a, (c a).length = sz) {W : World} {b : Nat} {a : α} {e : TypeId} (h : W.heap[b]? = some (.cells (c a).toArray e (0, 0))) : Elems sz c W (.slice (some ⟨b, 0, none⟩) 1 1) [a] :=
  ⟨by rw [cellsBy_len hc], _, _, rfl, Nat.le_refl _, by simp [maxLen], (fun h => by cases h), fun j u hj => ⟨_, rfl, by
    rw [add_at, cell_of_row _ _ _ _ _ _ h, List.getElem?_toArray]
    have : cellsBy c [a] = c a := by simp [cellsBy]
    rw [this] at hj
    exact hj⟩⟩
theorem hp_to {W W' : World} {o' : Obj} {b : Nat} (hb : Below W.heap.size W W') (h : W.heap[b]? = some o') : W'.heap[b]? = some o' := (hb.block b (Array.getElem?_eq_some_iff.1 h).1).trans h
theorem elems_pair {W : World} {b : Nat} {p : Pr} {e : TypeId} (h : W.heap[b]? = some (.cells #[.string (str p.1), .string (str p.2)] e (0, 0))) : Elems 2 cP W (.slice (some ⟨b, 0, none⟩) 1 1) [p] := elems_one cP_len (a := p) (e := e) h
/-- What append built of nothing lies in what is new. -/
theorem Mid.lay0 {α : Type} {sz : Nat} {c : α → List Value} {e : TypeId} {W0 W w : World} {v : Value} {l : List α} (h : Mid sz c e W [] w v l) (hb : Below W0.heap.size W0 W) : Lay (fun b => W0.heap.size ≤ b ∧ b < w.heap.size) sz c w v l :=
  ⟨h.rows, fun b hm => by
    rcases h.foot b hm with hf | hf
    · cases hf
    · exact ⟨Nat.le_trans hb.size hf.1, hf.2⟩⟩
theorem heap_alloc_iff (W : World) (o : Obj) (b : Nat) : (W.alloc o).heap[b]? = if b = W.heap.size then some o else W.heap[b]? := by
  by_cases h : b = W.heap.size
  · subst h; rw [if_pos rfl]; exact heap_alloc_new W o
  · rw [if_neg h]
    rcases Nat.lt_or_ge b W.heap.size with hl | hl
    · exact Below.heap_alloc W o b hl
    · rw [Array.getElem?_eq_none hl, Array.getElem?_eq_none (by simp; omega)]
theorem elems_built {W : World} {b : Nat} {cs : List Value} {e : TypeId} (h : W.heap[b]? = some (.cells cs.toArray e (0, 0))) (hn : cs.length ≤ 100) : Elems 1 cV W (.slice (some ⟨b, 0, none⟩) cs.length cs.length) cs :=
  ⟨by rw [cellsBy_len cV_len], _, _, rfl, Nat.le_refl _, by unfold maxLen; omega, (fun h => by cases h), fun j u hj => ⟨_, rfl, by
    rw [add_at, cell_of_row _ _ _ _ _ _ h, List.getElem?_toArray]
    have : cellsBy cV cs = cs := by unfold cellsBy cV; simp
    rw [this] at hj
    exact hj⟩⟩
theorem lists2 {α : Type} {sz : Nat} {c : α → List Value} {w : World} {x y : Value} {l m : List α} (h1 : Elems sz c w x l) (h2 : Elems sz c w y m) : Lists sz c w [x, y] [l, m] := by
  refine ⟨rfl, fun i u k hu hk => ?_⟩
  match i, hu, hk with
  | 0, hu, hk => simp at hu hk; subst hu; subst hk; exact h1
  | 1, hu, hk => simp at hu hk; subst hu; subst hk; exact h2
  | n + 2, hu, _ => simp at hu
theorem lists3 {α : Type} {sz : Nat} {c : α → List Value} {w : World} {x y z : Value} {l m n : List α} (h1 : Elems sz c w x l) (h2 : Elems sz c w y m) (h3 : Elems sz c w z n) : Lists sz c w [x, y, z] [l, m, n] := by
  refine ⟨rfl, fun i u k hu hk => ?_⟩
  match i, hu, hk with
  | 0, hu, hk => simp at hu hk; subst hu; subst hk; exact h1
  | 1, hu, hk => simp at hu hk; subst hu; subst hk; exact h2
  | 2, hu, hk => simp at hu hk; subst hu; subst hk; exact h3
  | n + 3, hu, _ => simp at hu
set_option maxHeartbeats 8000000 in
theorem join_any (w : World) (P : Bl) (h gl gr : Nat) (l r : T) (p : Pr) (hl : NodeAt P w h gl l) (hr : NodeAt P w h gr r) (hu : Under P w) (hs : l.ps.length ≤ 1000 ∧ r.ps.length ≤ 1000 ∧ l.ks.length ≤ 1000 ∧ r.ks.length ≤ 1000) :
    Calls Tryz.prog 152 #[.pointer (some ⟨gl, 0, none⟩), .agg #[.string (str p.1), .string (str p.2)], .pointer (some ⟨gr, 0, none⟩)] w fun e w' =>
      ∃ g, e = .returned (.pointer (some ⟨g, 0, none⟩)) ∧ Below w.heap.size w w' ∧ NodeAt (New P w w') w' h g (joinT l p r) := by
  obtain ⟨vp, vk, gs, h1, h2⟩ := nodeAt_iff.1 hl
  obtain ⟨vp', vk', gs', h1', h2'⟩ := nodeAt_iff.1 hr
  obtain ⟨A, cap, rfl⟩ := h1.pairs.slice
  obtain ⟨B, capb, rfl⟩ := h1.kids.slice
  obtain ⟨A', cap', rfl⟩ := h1'.pairs.slice
  obtain ⟨B', capb', rfl⟩ := h1'.kids.slice
  have c0 := h1.c0
  have c1 := h1.c1'
  have d0 := h1'.c0
  have d1 := h1'.c1'
  go_enter Tryz.func152, Tryz.ntmps152
  go_wp2
  have hB0 : Below w.heap.size w (w.alloc (.cells #[.string (str p.1), .string (str p.2)] 164)) := (Below.refl _ w).alloc (Nat.le_refl _) _
  obtain ⟨W0, HW0⟩ : ∃ W0, Hid (W0 = w.alloc (.cells #[.string (str p.1), .string (str p.2)] 164)) := ⟨_, rfl⟩
  have HP := hid (hu.stay hB0)
  have JS : Hid (∀ W, Below W0.heap.size W0 W → W.cell? ⟨gl, 0, none⟩ = some (.slice A l.ps.length cap) ∧ W.cell? ⟨gl, 0 + 1, none⟩ = some (.slice B gs.length capb) ∧ W.cell? ⟨gr, 0, none⟩ = some (.slice A' r.ps.length cap') ∧ W.cell? ⟨gr, 0 + 1, none⟩ = some (.slice B' gs'.length capb') ∧ W.cell? ⟨w.heap.size, 0, none⟩ = some (.string (str p.1)) ∧ W.cell? ⟨w.heap.size, 0 + 1, none⟩ = some (.string (str p.2)) ∧ Below W0.heap.size W0 W) := fun W hb => by
    rw [HW0.out] at hb ⊢
    have hbw : Below w.heap.size w W := hB0.trans (hb.mono hB0.size)
    exact ⟨below_keep hbw _ _ c0, below_keep hbw _ _ c1, below_keep hbw _ _ d0, below_keep hbw _ _ d1, below_keep hb _ _ (cell_of_row _ _ 0 _ _ _ (heap_alloc_new w _)), below_keep hb _ _ (cell_of_row _ _ 1 _ _ _ (heap_alloc_new w _)), hb⟩
  have LS : Hid (∀ W, Below W0.heap.size W0 W → Elems 2 cP W (.slice A l.ps.length cap) l.ps ∧ Elems 2 cP W (.slice A' r.ps.length cap') r.ps ∧ Elems 1 cK W (.slice B gs.length capb) gs ∧ Elems 1 cK W (.slice B' gs'.length capb') gs' ∧ Below w.heap.size w W) := fun W hb => by
    rw [HW0.out] at hb
    have hbw : Below w.heap.size w W := hB0.trans (hb.mono hB0.size)
    exact ⟨(h1.pairs.keep (hu.stay hbw)).1, (h1'.pairs.keep (hu.stay hbw)).1, (h1.kids.keep (hu.stay hbw)).1, (h1'.kids.keep (hu.stay hbw)).1, hbw⟩
  have HS1 : Hid ([l.ps, [p], r.ps].flatten.length ≤ 10000) := by show _ ≤ _; simp; omega
  have HS2 : Hid ([gs, gs'].flatten.length ≤ 10000) := by show _ ≤ _; have := h2.1; have := h2'.1; simp; omega
  have hSZ : Hid (W0.heap.size = w.heap.size + 1) := by show _ = _; rw [HW0.out]; simp
  rw [← HW0.out]
  clear c0 c1 d0 d1 hl hr h1 h1' hs
  go_region_held3 (fun W => W.cell? ⟨gl, 0, none⟩ = some (.slice A l.ps.length cap) ∧ W.cell? ⟨gl, 0 + 1, none⟩ = some (.slice B gs.length capb) ∧ W.cell? ⟨gr, 0, none⟩ = some (.slice A' r.ps.length cap') ∧ W.cell? ⟨gr, 0 + 1, none⟩ = some (.slice B' gs'.length capb') ∧ W.cell? ⟨w.heap.size, 0, none⟩ = some (.string (str p.1)) ∧ W.cell? ⟨w.heap.size, 0 + 1, none⟩ = some (.string (str p.2)) ∧ Below W0.heap.size W0 W)
    (first | exact JS.out _ (by repeat (with_reducible (first | assumption | exact Below.refl _ _ | refine below_drew1 ?_ | refine below_alloc' ?_ _))))
    (first
      | (go_at_call 157; (refine (concat_K _ _ [_, _] [gs, gs'] (elems_built (e := 166) (by repeat (first | (with_reducible exact hp_new (by simp)) | (with_reducible refine hp_drew ?_) | (with_reducible refine hp_old ?_) | (with_reducible refine hp_to hbc2 ?_))) (by simp)) (lists2 (LS.out _ (by repeat (with_reducible (first | assumption | exact Below.refl _ _ | refine below_drew1 ?_ | refine below_alloc' ?_ _)))).2.2.1 (LS.out _ (by repeat (with_reducible (first | assumption | exact Below.refl _ _ | refine below_drew1 ?_ | refine below_alloc' ?_ _)))).2.2.2.1) HS2.out).mono ?_); rintro e w3 ⟨u3, rfl, hm3⟩; obtain ⟨A3, n3, c3, rfl⟩ := hm3.rows.form; have hb3 : Below W0.heap.size W0 w3 := below_to hm3.1 (by repeat (with_reducible (first | assumption | exact Below.refl _ _ | refine below_drew1 ?_ | refine below_alloc' ?_ _))); have HL3 := hid (hm3.lay0 (W0 := W0) (by repeat (with_reducible (first | assumption | exact Below.refl _ _ | refine below_drew1 ?_ | refine below_alloc' ?_ _)))); have H23 := hid (below_to (W0 := w2) hm3.1 (by repeat (with_reducible (first | assumption | exact Below.refl _ _ | refine below_drew1 ?_ | refine below_alloc' ?_ _)))); clear hm3)
      | (go_at_call 156; (refine (concat_P _ _ [_, _, _] [l.ps, [p], r.ps] (elems_built (e := 165) (by repeat (first | (with_reducible exact hp_new (by simp)) | (with_reducible refine hp_drew ?_) | (with_reducible refine hp_old ?_) | (with_reducible refine hp_to hbc2 ?_))) (by simp)) (lists3 (LS.out _ (by repeat (with_reducible (first | assumption | exact Below.refl _ _ | refine below_drew1 ?_ | refine below_alloc' ?_ _)))).1 (elems_pair (e := 164) (by repeat (first | (with_reducible exact hp_new (by simp)) | (with_reducible refine hp_drew ?_) | (with_reducible refine hp_old ?_) | (with_reducible refine hp_to hbc2 ?_)))) (LS.out _ (by repeat (with_reducible (first | assumption | exact Below.refl _ _ | refine below_drew1 ?_ | refine below_alloc' ?_ _)))).2.1) HS1.out).mono ?_); rintro e w2 ⟨u2, rfl, hm2⟩; obtain ⟨A2, n2, c2, rfl⟩ := hm2.rows.form; have hbc2 := hm2.1; have hb2 : Below W0.heap.size W0 w2 := below_to hm2.1 (by repeat (with_reducible (first | assumption | exact Below.refl _ _ | refine below_drew1 ?_ | refine below_alloc' ?_ _))); have HL2 := hid (hm2.lay0 (W0 := W0) (by repeat (with_reducible (first | assumption | exact Below.refl _ _ | refine below_drew1 ?_ | refine below_alloc' ?_ _)))); clear hm2))
  all_goals
    go_wp2
    go_ret
    have hbw : Below w.heap.size w w3 := hB0.trans (by rw [← HW0.out]; exact hb3.mono (by rw [hSZ.out]; omega))
    have hbl : Below w3.heap.size w3 (w3.alloc (.cells #[.slice A2 n2 c2, .slice A3 n3 c3] 168)) := (Below.refl _ w3).alloc (Nat.le_refl _) _
    refine ⟨w3.heap.size, rfl, below_to hbl hbw, nodeAt_iff.2 ⟨.slice A2 n2 c2, .slice A3 n3 c3, gs ++ gs', ?_, ?_⟩⟩
    · have q1 : Lay (New P w w3) 2 cP w3 (.slice A2 n2 c2) (joinT l p r).ps := by
        have := (HL2.out.keep fun b hb => H23.out.block b hb.2).mono (P' := New P w w3) fun b hb => .inr ⟨by have := hb.1; have := hSZ.out; omega, Nat.lt_of_lt_of_le hb.2 H23.out.size⟩
        simpa [joinT, T.ps] using this
      have q2 : Lay (New P w w3) 1 cK w3 (.slice A3 n3 c3) (gs ++ gs') := by
        have := HL3.out.mono (P' := New P w w3) fun b hb => .inr ⟨by have := hb.1; have := hSZ.out; omega, hb.2⟩
        simpa using this
      exact (hd_new (New P w w3) _ _ q1 q2 (hu.new hbw.size)).mono fun b hb => New.trans hbw.size hbl.size hb
    · exact (Side.app h2 h2').imp fun g k hn => Sub.mono (fun b hb => .inl hb) (Sub.keep (hu.stay (below_to hbl hbw)) hn)
end Go.Proofs.YtlnagdodnkhbmaaGreat

namespace Go.Proofs.YtlnagdodnkhbmaaGreat
open Go.RowKit
set_option maxRecDepth 100000

theorem wrap_ok {z : Int} (h1 : -9223372036854775808 ≤ z) (h2 : z ≤ 9223372036854775807) : IntKind.i64.wrap z = z := by
  unfold IntKind.wrap; simp [IntKind.signed, IntKind.bits]; omega
theorem part_leaf (w : World) (P : Bl) (h g : Nat) (t : T) (a b : Nat) (hn : NodeAt P w h g t) (hu : Under P w) (hab : a ≤ b) (hb : b ≤ t.ps.length) (hk : t.ks = []) :
    Calls Tryz.prog 154 #[.pointer (some ⟨g, 0, none⟩), .int .i64 (a : Int), .int .i64 (b : Int)] w fun e w' =>
      ∃ g', e = .returned (.pointer (some ⟨g', 0, none⟩)) ∧ Below w.heap.size w w' ∧ NodeAt (New P w w') w' h g' (partT t a b) := by
  obtain ⟨vp, vk, gs, h1, h2⟩ := nodeAt_iff.1 hn
  obtain ⟨A, cap, rfl⟩ := h1.pairs.slice
  obtain ⟨B, capb, rfl⟩ := h1.kids.slice
  have c0 := h1.c0
  have c1 := h1.c1'
  have hg0 : gs.length = 0 := by rw [h2.1, hk]; rfl
  have hg0i : (gs.length : Int) = 0 := by omega
  rw [hg0] at c1
  have HL := hid h1.pairs
  have HU := hid hu
  have HT : Hid (partT t a b = .nd ((t.ps.drop a).take (b - a)) []) := by show _ = _; unfold partT; rw [if_pos hk]
  clear hn h1 h2 hk hg0 hg0i hu
  go_enter Tryz.func154, Tryz.ntmps154
  go_wp2_with fail
  refine (cut_P w P _ t.ps a b HL.out hab hb).mono ?_
  rintro e w1 ⟨rfl, A1, rfl, hl1⟩
  have HL1 := hid hl1
  clear hl1
  go_wp2
  go_ret
  rw [HT.out]
  have hbl : Below w.heap.size w (w.alloc (.cells #[.slice A1 (b - a) (b - a), .slice none 0 0] 168)) := (Below.refl _ w).alloc (Nat.le_refl _) _
  exact ⟨w.heap.size, rfl, hbl, nodeAt_iff.2 ⟨_, _, [], hd_new P _ _ HL1.out (Lay.nil _ _ _ _) HU.out, Side.nil _⟩⟩

set_option maxHeartbeats 4000000 in
theorem part_kids (w : World) (P : Bl) (h g : Nat) (t : T) (a b : Nat) (hn : NodeAt P w h g t) (hu : Under P w) (hab : a ≤ b) (hb : b ≤ t.ps.length) (hk : ¬ t.ks = []) (hkl : b + 1 ≤ t.ks.length) (hsz : t.ks.length ≤ 1000) :
    Calls Tryz.prog 154 #[.pointer (some ⟨g, 0, none⟩), .int .i64 (a : Int), .int .i64 (b : Int)] w fun e w' =>
      ∃ g', e = .returned (.pointer (some ⟨g', 0, none⟩)) ∧ Below w.heap.size w w' ∧ NodeAt (New P w w') w' h g' (partT t a b) := by
  obtain ⟨vp, vk, gs, h1, h2⟩ := nodeAt_iff.1 hn
  obtain ⟨A, cap, rfl⟩ := h1.pairs.slice
  obtain ⟨B, capb, rfl⟩ := h1.kids.slice
  have c0 := h1.c0
  have c1 := h1.c1'
  obtain ⟨n, HN⟩ : ∃ n, Hid (n = gs.length) := ⟨_, rfl⟩
  have hn1 : b + 1 ≤ n := by rw [HN.out, h2.1]; exact hkl
  have hn2 : n ≤ 1000 := by rw [HN.out, h2.1]; exact hsz
  have hni : ¬ (n : Int) = 0 := by omega
  have hlp := h1.pairs
  have hlk := h1.kids
  rw [← HN.out] at c1 hlk
  have HL := hid hlp
  have HK := hid hlk
  have HU := hid hu
  have HS := hid h2
  have HT : Hid (partT t a b = .nd ((t.ps.drop a).take (b - a)) ((t.ks.drop a).take (b + 1 - a))) := by show _ = _; unfold partT; rw [if_neg hk]
  have hw1 : IntKind.i64.wrap ((b : Int) + 1) = (b : Int) + 1 := wrap_ok (by omega) (by omega)
  have JS : Hid (∀ W, Below w.heap.size w W → W.cell? ⟨g, 0, none⟩ = some (.slice A t.ps.length cap) ∧ W.cell? ⟨g, 0 + 1, none⟩ = some (.slice B n capb) ∧ Below w.heap.size w W) := fun W hb => ⟨below_keep hb _ _ c0, below_keep hb _ _ c1, hb⟩
  have HCK := hid fun (W : World) (hl : Lay P 1 cK W (.slice B n capb) gs) => cut_K W P (.slice B n capb) gs a (b + 1) hl (by omega) (by have := HN.out; omega)
  clear hn h1 h2 hk hu hlp hlk hkl hsz
  go_enter Tryz.func154, Tryz.ntmps154
  go_wp2
  go_region_held3 (fun W => W.cell? ⟨g, 0, none⟩ = some (.slice A t.ps.length cap) ∧ W.cell? ⟨g, 0 + 1, none⟩ = some (.slice B n capb) ∧ Below w.heap.size w W)
    (first | exact JS.out _ (by repeat (with_reducible (first | assumption | exact Below.refl _ _ | refine below_drew1 ?_ | refine below_alloc' ?_ _))))
    (first
      | (go_at_call 158; (refine (HCK.out _ (HK.out.keep (HU.out.stay (by repeat (with_reducible (first | assumption | exact Below.refl _ _ | refine below_drew1 ?_ | refine below_alloc' ?_ _)))))).mono ?_); rintro e w2 ⟨rfl, A2, rfl, hl2⟩; have HL2 := hid hl2; clear hl2)
      | (go_at_call 140; (refine (cut_P _ P _ t.ps a b (HL.out.keep (HU.out.stay (by repeat (with_reducible (first | assumption | exact Below.refl _ _ | refine below_drew1 ?_ | refine below_alloc' ?_ _))))) hab hb).mono ?_); rintro e w1 ⟨rfl, A1, rfl, hl1⟩; have HL1 := hid hl1; clear hl1))
  go_wp2
  go_ret
  rw [HT.out]
  have hbl : Below w.heap.size w (w.drew.alloc (.cells #[.slice A1 (b - a) (b - a), .slice A2 (b + 1 - a) (b + 1 - a)] 168)) := (below_drew' w).alloc (Nat.le_refl _) _
  exact ⟨w.heap.size, rfl, hbl, nodeAt_iff.2 ⟨_, _, (gs.drop a).take (b + 1 - a), hd_new (w := w.drew) P _ _ HL1.out HL2.out HU.out, ((HS.out.drop a).take _).imp fun g k hn => Sub.mono (fun b hb => .inl hb) (Sub.keep (HU.out.stay hbl) hn)⟩⟩
theorem part_any (w : World) (P : Bl) (h g : Nat) (t : T) (a b : Nat) (hn : NodeAt P w h g t) (hu : Under P w) (hab : a ≤ b) (hb : b ≤ t.ps.length) (hk : t.ks = [] ∨ (b + 1 ≤ t.ks.length ∧ t.ks.length ≤ 1000)) :
    Calls Tryz.prog 154 #[.pointer (some ⟨g, 0, none⟩), .int .i64 (a : Int), .int .i64 (b : Int)] w fun e w' =>
      ∃ g', e = .returned (.pointer (some ⟨g', 0, none⟩)) ∧ Below w.heap.size w w' ∧ NodeAt (New P w w') w' h g' (partT t a b) := by
  by_cases h0 : t.ks = []
  · exact part_leaf w P h g t a b hn hu hab hb h0
  · obtain ⟨h1, h2⟩ := hk.resolve_left h0
    exact part_kids w P h g t a b hn hu hab hb h0 h1 h2

/-- What parts hands back. -/
def PartsAt (P : Bl) (w : World) (h o : Nat) (t : T) (vb vk : Value) : Prop := Lay P 2 cP w vb (partsT o t).1 ∧ ∃ gs, Lay P 1 cK w vk gs ∧ Side (NodeAt P w h) gs (partsT o t).2

theorem parts_one (w : World) (P : Bl) (h g p o : Nat) (t : T) (hc : w.cell? ⟨p, 0, none⟩ = some (.int .i64 (o : Nat))) (h2 : 2 ≤ o) (h16 : o ≤ 16) (hn : NodeAt P w h g t) (hu : Under P w) (hs : t.ps.length ≤ 2 * o - 1) :
    Calls Tryz.prog 139 #[.pointer (some ⟨p, 0, none⟩), .pointer (some ⟨g, 0, none⟩)] w fun e w' => ∃ vb vk, e = .returned (.tuple #[vb, vk]) ∧ Below w.heap.size w w' ∧ PartsAt (New P w w') w' h o t vb vk := by
  obtain ⟨vp, vk, gs, h1, h2'⟩ := nodeAt_iff.1 hn
  obtain ⟨A, cap, rfl⟩ := h1.pairs.slice
  have c0 := h1.c0
  obtain ⟨n, HN⟩ : ∃ n, Hid (n = t.ps.length) := ⟨_, rfl⟩
  rw [← HN.out] at c0
  have hni : (n : Int) ≤ 2 * o - 1 := by have := HN.out; omega
  have ho : (o : Int) ≤ 16 := by omega
  have ho2 : (2 : Int) ≤ o := by omega
  have HT : Hid (partsT o t = ([], [t])) := by show _ = _; unfold partsT; rw [if_pos hs]
  have HNA := hid hn
  have HU := hid hu
  clear hn h1 h2' hu hs h2 h16
  go_enter Tryz.func139, Tryz.ntmps139
  go_wp2
  go_ret2
  have hbl : Below w.heap.size w (w.alloc (.cells #[.pointer (some ⟨g, 0, none⟩)] 155)) := (Below.refl _ w).alloc (Nat.le_refl _) _
  refine ⟨_, _, rfl, hbl, ?_⟩
  unfold PartsAt
  rw [HT.out]
  exact ⟨Lay.nil _ _ _ _, [g], ⟨elems_one cK_len (a := g) (e := 155) (heap_alloc_new w _), fun b hb => by simp [ownFoot, Value.ownBlock] at hb; subst hb; exact .inr ⟨Nat.le_refl _, by simp⟩⟩, Side.one (NodeAt.mono (fun _ hb => .inl hb) (NodeAt.keep (HU.out.stay hbl) HNA.out))⟩

theorem elems_two {W : World} {b x y : Nat} {e : TypeId} (h : W.heap[b]? = some (.cells #[.pointer (some ⟨x, 0, none⟩), .pointer (some ⟨y, 0, none⟩)] e (0, 0))) : Elems 1 cK W (.slice (some ⟨b, 0, none⟩) 2 2) [x, y] :=
  ⟨rfl, _, _, rfl, Nat.le_refl _, by simp [maxLen], (fun h => by cases h), fun j u hj => ⟨_, rfl, by
    rw [add_at, cell_of_row _ _ _ _ _ _ h, List.getElem?_toArray]
    have : cellsBy cK [x, y] = [.pointer (some ⟨x, 0, none⟩), .pointer (some ⟨y, 0, none⟩)] := rfl
    rw [this] at hj
    exact hj⟩⟩
set_option maxHeartbeats 4000000 in
theorem parts_two (w : World) (P : Bl) (h g p o : Nat) (t : T) (hc : w.cell? ⟨p, 0, none⟩ = some (.int .i64 (o : Nat))) (h2 : 2 ≤ o) (h16 : o ≤ 16) (hn : NodeAt P w h g t) (hu : Under P w) (hs : ¬ t.ps.length ≤ 2 * o - 1) (h100 : t.ps.length ≤ 100) (hk : t.ks = [] ∨ t.ks.length = t.ps.length + 1) :
    Calls Tryz.prog 139 #[.pointer (some ⟨p, 0, none⟩), .pointer (some ⟨g, 0, none⟩)] w fun e w' => ∃ vb vk, e = .returned (.tuple #[vb, vk]) ∧ Below w.heap.size w w' ∧ PartsAt (New P w w') w' h o t vb vk := by
  obtain ⟨vp, vk, gs, h1, h2'⟩ := nodeAt_iff.1 hn
  obtain ⟨A, cap, rfl⟩ := h1.pairs.slice
  have c0 := h1.c0
  have HL := hid h1.pairs
  obtain ⟨n, HN⟩ : ∃ n, Hid (n = t.ps.length) := ⟨_, rfl⟩
  obtain ⟨m, HM⟩ : ∃ m, Hid (m = n / 2) := ⟨_, rfl⟩
  rw [← HN.out] at c0 hs h100 HL
  have hni : ¬ (n : Int) ≤ 2 * o - 1 := by omega
  have hm1 : m + 1 ≤ n := by rw [HM.out]; omega
  have hdv : (n : Int).tdiv 2 = (m : Nat) := by rw [HM.out]; exact (Int.ofNat_tdiv n 2).symm
  have hq := hdv
  have hw1 : IntKind.i64.wrap ((m : Int) + 1) = ((m + 1 : Nat) : Int) := by rw [wrap_ok (by omega) (by omega)]; omega
  have ho : (o : Int) ≤ 16 := by omega
  have ho2 : (2 : Int) ≤ o := by omega
  have HT : Hid (partsT o t = ((t.ps.drop m).take 1, [partT t 0 m, partT t (m + 1) n])) := by show _ = _; unfold partsT; rw [if_neg (by have := HN.out; omega), HM.out, HN.out]
  have HNA := hid hn
  have HU := hid hu
  have HK1 : Hid (t.ks = [] ∨ (m + 1 ≤ t.ks.length ∧ t.ks.length ≤ 1000)) := by
    rcases hk with h | h
    · exact .inl h
    · exact .inr ⟨by have := HN.out; omega, by have := HN.out; omega⟩
  have HK2 : Hid (t.ks = [] ∨ (n + 1 ≤ t.ks.length ∧ t.ks.length ≤ 1000)) := by
    rcases hk with h | h
    · exact .inl h
    · exact .inr ⟨by have := HN.out; omega, by have := HN.out; omega⟩
  have HP1 : Hid (m ≤ t.ps.length) := by show _ ≤ _; have := HN.out; omega
  have hc0 := hid c0
  have HCC := hid hc
  clear hn h1 h2' hu hs h2 h16 hk
  go_enter Tryz.func139, Tryz.ntmps139
  go_wp2_with fail
  refine (cut_P w P _ t.ps m (m + 1) HL.out (by omega) (by have := HN.out; omega)).mono ?_
  rintro e w1 ⟨rfl, A1, rfl, hl1⟩
  have HL1 := hid hl1
  clear hl1
  go_wp2_with fail
  refine (part_any w P h g t 0 m HNA.out HU.out (Nat.zero_le _) HP1.out HK1.out).mono ?_
  rintro e w2 ⟨g1, rfl, hb2, hn2⟩
  have HB2 := hid hb2
  have HN2 := hid hn2
  clear hb2 hn2
  go_wp2_with fail
  refine (part_any w2 (New P w w2) h g t (m + 1) n ((HNA.out.keep (HU.out.stay HB2.out)).mono fun _ h => .inl h) (HU.out.new HB2.out.size) (by omega) (by have := HN.out; omega) HK2.out).mono ?_
  rintro e w3 ⟨g2, rfl, hb3, hn3⟩
  have HB3 := hid hb3
  have HN3 := hid hn3
  clear hb3 hn3
  go_wp2
  go_ret2
  have hb13 := below_step HB2.out HB3.out
  have hbl : Below w3.heap.size w3 (w3.alloc (.cells #[.pointer (some ⟨g1, 0, none⟩), .pointer (some ⟨g2, 0, none⟩)] 155)) := (Below.refl _ w3).alloc (Nat.le_refl _) _
  refine ⟨_, _, rfl, below_step hb13 hbl, ?_⟩
  unfold PartsAt
  rw [HT.out]
  have hu3 : Under (New (New P w w2) w2 w3) w3 := (HU.out.new HB2.out.size).new HB3.out.size
  have hmono : ∀ b, New (New P w w2) w2 w3 b → New P w (w3.alloc (.cells #[.pointer (some ⟨g1, 0, none⟩), .pointer (some ⟨g2, 0, none⟩)] 155)) b := fun b hb => New.later hbl.size (New.trans HB2.out.size HB3.out.size hb)
  refine ⟨?_, [g1, g2], ⟨elems_two (e := 155) (heap_alloc_new w3 _), fun b hb => ?_⟩, ?_⟩
  · have := (HL1.out.keep (HU.out.stay (below_step hb13 hbl))).mono (P' := New P w (w3.alloc (.cells #[.pointer (some ⟨g1, 0, none⟩), .pointer (some ⟨g2, 0, none⟩)] 155))) fun _ h => .inl h
    rw [show m + 1 - m = 1 by omega] at this
    exact this
  · simp [ownFoot, Value.ownBlock] at hb
    subst hb
    exact .inr ⟨hb13.size, by simp⟩
  · refine (Side.one (g := g1) (k := partT t 0 m) ?_).app (Side.one (g := g2) (k := partT t (m + 1) n) ?_)
    · exact NodeAt.mono hmono (NodeAt.keep (hu3.stay hbl) (NodeAt.mono (fun _ h => .inl h) (NodeAt.keep ((HU.out.new HB2.out.size).stay HB3.out) HN2.out)))
    · exact NodeAt.mono hmono (NodeAt.keep (hu3.stay hbl) HN3.out)
theorem parts_any (w : World) (P : Bl) (h g p o : Nat) (t : T) (hc : w.cell? ⟨p, 0, none⟩ = some (.int .i64 (o : Nat))) (h2 : 2 ≤ o) (h16 : o ≤ 16) (hn : NodeAt P w h g t) (hu : Under P w) (h100 : t.ps.length ≤ 100) (hk : t.ks = [] ∨ t.ks.length = t.ps.length + 1) :
    Calls Tryz.prog 139 #[.pointer (some ⟨p, 0, none⟩), .pointer (some ⟨g, 0, none⟩)] w fun e w' => ∃ vb vk, e = .returned (.tuple #[vb, vk]) ∧ Below w.heap.size w w' ∧ PartsAt (New P w w') w' h o t vb vk := by
  by_cases hs : t.ps.length ≤ 2 * o - 1
  · exact parts_one w P h g p o t hc h2 h16 hn hu hs
  · exact parts_two w P h g p o t hc h2 h16 hn hu hs h100 hk
end Go.Proofs.YtlnagdodnkhbmaaGreat

namespace Go.Proofs.YtlnagdodnkhbmaaGreat
open Go.RowKit
set_option maxRecDepth 100000

/-- How many children nodes beside each other have. -/
def Arity (t : T) (kid : T) : Prop := (kid.ks = [] ∧ ∀ k ∈ t.ks, k.ks = []) ∨ (kid.ks.length = kid.ps.length + 1 ∧ ∀ k ∈ t.ks, k.ks.length = k.ps.length + 1)
structure AboveOk (t : T) (a : Nat) (kd : T) : Prop where
  place : a ≤ t.ps.length
  kids : t.ks.length = t.ps.length + 1
  some : 1 ≤ t.ps.length
  few : t.ps.length ≤ 100
  kid : kd.ps.length ≤ 49
  sibs : ∀ k ∈ t.ks, k.ps.length ≤ 49
  ar : Arity t kd
theorem arity_kid {t kid : T} (h : Arity t kid) : kid.ks = [] ∨ kid.ks.length = kid.ps.length + 1 := h.imp (·.1) (·.1)
theorem arity_join {t l r kid : T} (p : Pr) (h : Arity t kid) (hl : l ∈ t.ks ∨ l = kid) (hr : r ∈ t.ks ∨ r = kid) : (joinT l p r).ks = [] ∨ (joinT l p r).ks.length = (joinT l p r).ps.length + 1 := by
  rcases h with ⟨h1, h2⟩ | ⟨h1, h2⟩
  · left
    have e1 : l.ks = [] := by rcases hl with hl | rfl; exact h2 l hl; exact h1
    have e2 : r.ks = [] := by rcases hr with hr | rfl; exact h2 r hr; exact h1
    simp [joinT, T.ks] at *
    exact ⟨e1, e2⟩
  · right
    have e1 : l.ks.length = l.ps.length + 1 := by rcases hl with hl | rfl; exact h2 l hl; exact h1
    have e2 : r.ks.length = r.ps.length + 1 := by rcases hr with hr | rfl; exact h2 r hr; exact h1
    show (l.ks ++ r.ks).length = (l.ps ++ [p] ++ r.ps).length + 1
    simp
    omega
theorem Lay.pcell {P : Bl} {w : World} {A : Option Addr} {n cap i : Nat} {l : List Pr} {p : Pr} (h : Lay P 2 cP w (.slice A n cap) l) (hi : l[i]? = some p) :
    ∃ ad, A = some ad ∧ w.cell? (ad.add (i * 2)) = some (.string (str p.1)) ∧ w.cell? { block := (ad.add (i * 2)).block, off := (ad.add (i * 2)).off + 1, spot := none } = some (.string (str p.2)) := by
  obtain ⟨ad, rfl, h0⟩ := h.1.cell cP_len (j := 0) hi (u := .string (str p.1)) rfl
  obtain ⟨ad1, e1, h1⟩ := h.1.cell cP_len (j := 1) hi (u := .string (str p.2)) rfl
  injection e1 with e1
  subst e1
  rw [Nat.add_zero] at h0
  rw [← add_add', Addr.add_succ' _ 0] at h1
  exact ⟨ad, rfl, h0, h1⟩
theorem Lay.kcell {P : Bl} {w : World} {A : Option Addr} {n cap i g : Nat} {l : List Nat} (h : Lay P 1 cK w (.slice A n cap) l) (hi : l[i]? = some g) : ∃ ad, A = some ad ∧ w.cell? (ad.add i) = some (.pointer (some ⟨g, 0, none⟩)) := by
  obtain ⟨ad, rfl, h0⟩ := h.1.cell cK_len (j := 0) hi (u := .pointer (some ⟨g, 0, none⟩)) rfl
  rw [Nat.add_zero, Nat.mul_one] at h0
  exact ⟨ad, rfl, h0⟩
/-- Blocks of P and others stay. -/
theorem side_spl {R : Nat → T → Prop} {gs gs' : List Nat} {ks ks' : List T} (h : Side R gs ks) (h' : Side R gs' ks') (a b : Nat) : Side R (spl gs a b gs') (spl ks a b ks') := ((h.take a).app h').app (h.drop b)

theorem below_size {W W' : World} (h : Below W.heap.size W W') : W.heap.size ≤ W'.heap.size := h.size
/-- What is new since a world behind the first one is new since the first one. -/
theorem New.back {P : Bl} {W0 W w : World} (h : Below W0.heap.size W0 W) {b : Nat} (hb : New P W w b) : New P W0 w b := by
  rcases hb with hb | hb
  · exact .inl hb
  · exact .inr ⟨Nat.le_trans h.size hb.1, hb.2⟩
theorem above_new {P : Bl} {w W0 W2 W4 W5 : World} (h0 : w.heap.size ≤ W0.heap.size) (h1 : W0.heap.size ≤ W2.heap.size) (h4 : W2.heap.size ≤ W4.heap.size) (h5 : W4.heap.size ≤ W5.heap.size) {b : Nat}
    (hb : New (New (New P W0 W2) W2 W4) W4 W5 b) : New P w W5 b := by
  rcases hb with ((hb | hb) | hb) | hb
  · exact .inl hb
  all_goals exact .inr ⟨by omega, by omega⟩
theorem below_drewN_ {n k : Nat} {W0 W : World} (h : Below n W0 W) : Below n W0 (W.drewN k) := below_drewN' h k
/-- parts, told from a world on. -/
theorem parts_from {W0 : World} {P : Bl} {h p o gj : Nat} {J : T} (hu : Under P W0) (ho : W0.cell? ⟨p, 0, none⟩ = some (.int .i64 (o : Nat))) (h2 : 2 ≤ o) (h16 : o ≤ 16) (h100 : J.ps.length ≤ 100) (hk : J.ks = [] ∨ J.ks.length = J.ps.length + 1)
    (W : World) (hb : Below W0.heap.size W0 W) (hn : NodeAt (New P W0 W) W h gj J) :
    Calls Tryz.prog 139 #[.pointer (some ⟨p, 0, none⟩), .pointer (some ⟨gj, 0, none⟩)] W fun e w' => ∃ vb vk, e = .returned (.tuple #[vb, vk]) ∧ Below W0.heap.size W0 w' ∧ PartsAt (New P W0 w') w' h o J vb vk := by
  refine (parts_any W (New P W0 W) h gj p o J (below_keep hb _ _ ho) h2 h16 hn (hu.new hb.size) h100 hk).mono ?_
  rintro e w' ⟨vb, vk, rfl, hb', hl, gs, hg, hs⟩
  have hm : ∀ b, New (New P W0 W) W w' b → New P W0 w' b := fun b hb1 => New.trans hb.size hb'.size hb1
  exact ⟨vb, vk, rfl, below_step hb hb', hl.mono hm, gs, hg.mono hm, hs.imp fun _ _ hn => NodeAt.mono hm hn⟩
theorem join_from {W0 : World} {P : Bl} {h gl gr : Nat} {l r : T} (p : Pr) (hu : Under P W0) (hl : NodeAt P W0 h gl l) (hr : NodeAt P W0 h gr r) (hs : l.ps.length ≤ 1000 ∧ r.ps.length ≤ 1000 ∧ l.ks.length ≤ 1000 ∧ r.ks.length ≤ 1000) (W : World) (hb : Below W0.heap.size W0 W) :
    Calls Tryz.prog 152 #[.pointer (some ⟨gl, 0, none⟩), .agg #[.string (str p.1), .string (str p.2)], .pointer (some ⟨gr, 0, none⟩)] W fun e w' =>
      ∃ g, e = .returned (.pointer (some ⟨g, 0, none⟩)) ∧ Below W0.heap.size W0 w' ∧ NodeAt (New P W0 w') w' h g (joinT l p r) := by
  refine (join_any W P h gl gr l r p (NodeAt.keep (hu.stay hb) hl) (NodeAt.keep (hu.stay hb) hr) (hu.later hb.size) hs).mono ?_
  rintro e w' ⟨g, rfl, hb', hn⟩
  exact ⟨g, rfl, below_step hb hb', NodeAt.mono (fun b hb1 => New.back hb hb1) hn⟩

set_option maxHeartbeats 8000000 in
theorem above_fits (w : World) (P : Bl) (h p o g a gk : Nat) (t kid : T) (hc : w.cell? ⟨p, 0, none⟩ = some (.int .i64 (o : Nat))) (h2 : 2 ≤ o) (h16 : o ≤ 16) (hn : NodeAt P w (h + 1) g t) (hkn : NodeAt P w h gk kid) (hu : Under P w) (hok : AboveOk t a kid) (hfit : o - 1 ≤ kid.ps.length) :
    Calls Tryz.prog 138 #[.pointer (some ⟨p, 0, none⟩), .agg #[.pointer (some ⟨g, 0, none⟩), .int .i64 (a : Int)], .pointer (some ⟨gk, 0, none⟩)] w fun e w' =>
      ∃ g', e = .returned (.pointer (some ⟨g', 0, none⟩)) ∧ Below w.heap.size w w' ∧ NodeAt (New P w w') w' (h + 1) g' (aboveT o t a kid) := by
  have hf : Hid (fitT o t a kid = (kid, a, a + 1)) := by
    show _ = _
    unfold fitT; rw [if_pos hfit]
  obtain ⟨vp, vk, gs, h1, hs⟩ := hn
  obtain ⟨vp', vk', gs', h1', hs'⟩ := nodeAt_iff.1 hkn
  obtain ⟨A, cap, rfl⟩ := h1.pairs.slice
  obtain ⟨B, capb, rfl⟩ := h1.kids.slice
  obtain ⟨A', cap', rfl⟩ := h1'.pairs.slice
  have hgl : gs.length = t.ps.length + 1 := by rw [hs.1]; exact hok.kids
  obtain ⟨n, HN⟩ : ∃ n, Hid (n = t.ps.length) := ⟨_, rfl⟩
  obtain ⟨nk, HNK⟩ : ∃ n, Hid (n = kid.ps.length) := ⟨_, rfl⟩
  have HP0 := hid h1.pairs
  have HK0 := hid h1.kids
  rw [← HN.out] at HP0
  rw [hgl, ← HN.out] at HK0
  have hB0 : Below w.heap.size w (w.alloc (.cells #[.pointer (some ⟨g, 0, none⟩), .int .i64 (a : Int)] 162)) := (Below.refl _ w).alloc (Nat.le_refl _) _
  obtain ⟨W0, HW0⟩ : ∃ W0, Hid (W0 = w.alloc (.cells #[.pointer (some ⟨g, 0, none⟩), .int .i64 (a : Int)] 162)) := ⟨_, rfl⟩
  have HSZ : Hid (W0.heap.size = w.heap.size + 1) := by show _ = _; rw [HW0.out]; simp
  have HB0 : Hid (Below w.heap.size w W0) := by rw [HW0.out]; exact hB0
  have HU := hid hu
  have HS : Hid (Side (NodeAt P W0 h) gs t.ks) := hs.imp fun _ _ hn => NodeAt.keep (hu.stay HB0.out) hn
  have HKN : Hid (NodeAt P W0 h gk kid) := NodeAt.keep (hu.stay HB0.out) hkn
  have HLP : Hid (Lay P 2 cP W0 (.slice A n cap) t.ps) := HP0.out.keep (hu.stay HB0.out)
  have HLK : Hid (Lay P 1 cK W0 (.slice B (n + 1) capb) gs) := HK0.out.keep (hu.stay HB0.out)
  have HOK := hid hok
  have s0 : W0.cell? ⟨w.heap.size, 0, none⟩ = some (.pointer (some ⟨g, 0, none⟩)) := by rw [HW0.out]; exact cell_of_row _ _ 0 _ _ _ (heap_alloc_new w _)
  have s1 : W0.cell? ⟨w.heap.size, 0 + 1, none⟩ = some (.int .i64 (a : Int)) := by rw [HW0.out]; exact cell_of_row _ _ 1 _ _ _ (heap_alloc_new w _)
  have c0 : W0.cell? ⟨g, 0, none⟩ = some (.slice A n cap) := by rw [HN.out]; exact (h1.keep (hu.stay HB0.out)).c0
  have c1 : W0.cell? ⟨g, 0 + 1, none⟩ = some (.slice B (n + 1) capb) := by have := (h1.keep (hu.stay HB0.out)).c1'; rwa [hgl, ← HN.out] at this
  have k0 : W0.cell? ⟨gk, 0, none⟩ = some (.slice A' nk cap') := by rw [HNK.out]; exact (h1'.keep (hu.stay HB0.out)).c0
  have o0 : W0.cell? ⟨p, 0, none⟩ = some (.int .i64 (o : Nat)) := below_keep HB0.out _ _ hc
  have C0 := hid c0
  have C1 := hid c1
  have O0 := hid o0
  have haw : IntKind.i64.wrap ((a : Int) + 1) = (a : Int) + 1 := wrap_ok (by omega) (by have := hok.place; have := hok.few; omega)
  have how : IntKind.i64.wrap ((o : Int) - 1) = (o : Int) - 1 := wrap_ok (by omega) (by omega)
  have hn1 : 1 ≤ n := by rw [HN.out]; exact hok.some
  have hn100 : n ≤ 100 := by rw [HN.out]; exact hok.few
  have han : a ≤ n := by rw [HN.out]; exact hok.place
  have hni : (n : Int) ≤ 100 := by omega
  have hai : (a : Int) ≤ n := by omega
  have ho1 : (2 : Int) ≤ o := by omega
  have ho2 : (o : Int) ≤ 16 := by omega
  have hge : (o : Int) - 1 ≤ nk := by have := HNK.out; omega
  have HPC := hid (fun gj W hb hn => parts_from (P := P) (h := h) (gj := gj) (J := kid) (HU.out.later HB0.out.size) o0 h2 h16 (by have := HOK.out.kid; omega) (arity_kid HOK.out.ar) W hb hn)
  clear hs hs' h1 h1' hkn hu hB0 hok hgl
  go_enter Tryz.func138, Tryz.ntmps138
  go_wp2
  rw [← HW0.out]
  go_quiet (fail)
  go_wp2
  go_quiet (fail)
  go_wp2_with fail
  refine (HPC.out gk _ (by repeat (with_reducible (first | assumption | exact Below.refl _ _ | refine below_drew1 ?_ | refine below_drewN_ ?_ | refine below_alloc' ?_ _))) (NodeAt.mono (fun _ h => .inl h) (NodeAt.keep ((HU.out.later HB0.out.size).stay (by repeat (with_reducible (first | assumption | exact Below.refl _ _ | refine below_drew1 ?_ | refine below_drewN_ ?_ | refine below_alloc' ?_ _)))) HKN.out))).mono ?_
  rintro e W2 ⟨vb, vs, rfl, hb2, hlb, gp, hlg, hsd⟩
  obtain ⟨Ab, nb, cb, rfl⟩ := hlb.1.form
  obtain ⟨As, ns, cs, rfl⟩ := hlg.1.form
  have HB2 := hid hb2
  obtain ⟨P2, HP2⟩ : ∃ Q : Bl, Hid (Q = New P W0 W2) := ⟨_, rfl⟩
  have HLB := hid hlb
  have HLG := hid hlg
  have HSD := hid hsd
  rw [← HP2.out] at HLB HLG HSD
  have HU2 : Hid (Under P2 W2) := by rw [HP2.out]; exact (HU.out.later HB0.out.size).new hb2.size
  have HPP : Hid (∀ b, P b → P2 b) := by rw [HP2.out]; exact fun b hb => .inl hb
  have d0 := below_keep HB2.out _ _ C0.out
  have d1 := below_keep HB2.out _ _ C1.out
  have HL2 : Hid (Lay P2 2 cP W2 (.slice A n cap) t.ps) := (HLP.out.keep ((HU.out.later HB0.out.size).stay HB2.out)).mono HPP.out
  have HK2 : Hid (Lay P2 1 cK W2 (.slice B (n + 1) capb) gs) := (HLK.out.keep ((HU.out.later HB0.out.size).stay HB2.out)).mono HPP.out
  have HS2 : Hid (Side (NodeAt P2 W2 h) gs t.ks) := HS.out.imp fun _ _ hn => NodeAt.mono HPP.out (NodeAt.keep ((HU.out.later HB0.out.size).stay HB2.out) hn)
  have HLN : Hid (t.ps.length = n ∧ gs.length = n + 1 ∧ (partsT o (kid)).1.length ≤ 100 ∧ gp.length ≤ 100) := by
    refine ⟨HN.out.symm, by rw [HS.out.1, HOK.out.kids, ← HN.out], ?_, ?_⟩
    · unfold partsT; split <;> simp; omega
    · rw [hsd.1]; unfold partsT; split <;> simp
  have JS : Hid (∀ W, Below W2.heap.size W2 W → W.cell? ⟨g, 0, none⟩ = some (.slice A n cap) ∧ W.cell? ⟨g, 0 + 1, none⟩ = some (.slice B (n + 1) capb) ∧ Below W2.heap.size W2 W) := fun W hb => ⟨below_keep hb _ _ d0, below_keep hb _ _ d1, hb⟩
  have HAP := hid fun (W : World) (hb : Below W2.heap.size W2 W) => splice_P W P2 (.slice A n cap) t.ps a ((a + 1) - 1) (.slice Ab nb cb) (partsT o (kid)).1 (HL2.out.keep (HU2.out.stay hb)) (HLB.out.keep (HU2.out.stay hb)) (by omega) (by rw [HLN.out.1]; omega) (HU2.out.later hb.size) (by have := HLN.out.1; omega) (by have := HLN.out.2.2.1; omega)
  have HAK := hid fun (W : World) (hb : Below W2.heap.size W2 W) => splice_K W P2 (.slice B (n + 1) capb) gs a (a + 1) (.slice As ns cs) gp (HK2.out.keep (HU2.out.stay hb)) (HLG.out.keep (HU2.out.stay hb)) (by omega) (by rw [HLN.out.2.1]; omega) (HU2.out.later hb.size) (by have := HLN.out.2.1; omega) (by have := HLN.out.2.2.2; omega)
  rw [show (((a + 1) - 1 : Nat) : Int) = (a : Int) by omega, show ((a : Nat) : Int) = (a : Int) by omega] at HAP
  rw [show (((a + 1) : Nat) : Int) = ((a : Int) + 1) by omega, show ((a : Nat) : Int) = (a : Int) by omega] at HAK
  have hwa : IntKind.i64.wrap (a : Int) = a := wrap_ok (by omega) (by omega)
  have htw : IntKind.i64.wrap (((a : Int) + 1) - 1) = (a : Int) := by rw [wrap_ok (by omega) (by omega)]; omega
  clear hlb hlg hsd hb2 d0 d1
  go_wp2
  go_region_held3 (fun W => W.cell? ⟨g, 0, none⟩ = some (.slice A n cap) ∧ W.cell? ⟨g, 0 + 1, none⟩ = some (.slice B (n + 1) capb) ∧ Below W2.heap.size W2 W)
    (first | exact JS.out _ (by repeat (with_reducible (first | assumption | exact Below.refl _ _ | refine below_drew1 ?_ | refine below_drewN_ ?_ | refine below_alloc' ?_ _))))
    (first
      | (go_at_call 153; (with_reducible refine (HAK.out _ (by repeat (with_reducible (first | assumption | exact Below.refl _ _ | refine below_drew1 ?_ | refine below_drewN_ ?_ | refine below_alloc' ?_ _)))).mono ?_); rintro e W4 ⟨u4, rfl, hb4, hl4⟩; obtain ⟨A4, n4, c4, rfl⟩ := hl4.1.form; have hbc4 := below_to (W0 := W2) hb4 (by repeat (with_reducible (first | assumption | exact Below.refl _ _ | refine below_drew1 ?_ | refine below_drewN_ ?_ | refine below_alloc' ?_ _))); have H34 := hid (below_to (W0 := W3) hb4 (by repeat (with_reducible (first | assumption | exact Below.refl _ _ | refine below_drew1 ?_ | refine below_drewN_ ?_ | refine below_alloc' ?_ _)))); have HL4 := hid hl4; clear hl4 hb4)
      | (go_at_call 113; (with_reducible refine (HAP.out _ (by repeat (with_reducible (first | assumption | exact Below.refl _ _ | refine below_drew1 ?_ | refine below_drewN_ ?_ | refine below_alloc' ?_ _)))).mono ?_); rintro e W3 ⟨u3, rfl, hb3, hl3⟩; obtain ⟨A3, n3, c3, rfl⟩ := hl3.1.form; have hbc3 := below_to (W0 := W2) hb3 (by repeat (with_reducible (first | assumption | exact Below.refl _ _ | refine below_drew1 ?_ | refine below_drewN_ ?_ | refine below_alloc' ?_ _))); have HSW := hid (below_size hb3); have HL3 := hid (hl3.mono fun b hb => New.back (by repeat (with_reducible (first | assumption | exact Below.refl _ _ | refine below_drew1 ?_ | refine below_drewN_ ?_ | refine below_alloc' ?_ _))) hb); clear hl3 hb3))
  go_wp2
  go_ret
  have hbl : Below W4.heap.size W4 (W4.alloc (.cells #[.slice A3 n3 c3, .slice A4 n4 c4] 168)) := (Below.refl _ W4).alloc (Nat.le_refl _) _
  have hb24 : Below W2.heap.size W2 W4 := by assumption
  have hbw : Below w.heap.size w W4 := below_step (below_step HB0.out HB2.out) hb24
  refine ⟨W4.heap.size, rfl, below_step hbw hbl, .slice A3 n3 c3, .slice A4 n4 c4, spl gs a (a + 1) gp, ?_, ?_⟩
  · have hu4 : Under (New P2 W2 W4) W4 := HU2.out.new hb24.size
    have hu3 : Under (New P2 W2 W3) W3 := HU2.out.new (by assumption : Below W2.heap.size W2 W3).size
    have q1 : Lay (New P2 W2 W4) 2 cP W4 (.slice A3 n3 c3) (aboveT o t a kid).ps := by
      have := (HL3.out.keep (hu3.stay H34.out)).mono (P' := New P2 W2 W4) fun b hb => New.later H34.out.size hb
      unfold aboveT
      rw [hf.out]
      exact this
    have q2 : Lay (New P2 W2 W4) 1 cK W4 (.slice A4 n4 c4) (spl gs a (a + 1) gp) := HL4.out.mono fun b hb => New.back (below_step (by assumption : Below W2.heap.size W2 W3) (Below.refl _ _)) hb
    refine (hd_new (New P2 W2 W4) _ _ q1 q2 hu4).mono fun b hb => ?_
    rw [HP2.out] at hb
    exact above_new HB0.out.size HB2.out.size hb24.size hbl.size hb
  · have hks : (aboveT o t a kid).ks = spl t.ks a (a + 1) (partsT o (kid)).2 := by
      unfold aboveT
      rw [hf.out]
      rfl
    rw [hks]
    refine (side_spl HS2.out HSD.out a (a + 1)).imp fun g' k hn => ?_
    refine NodeAt.mono (P := P2) (fun b hb => ?_) (NodeAt.keep (HU2.out.stay (below_step hb24 hbl)) hn)
    rw [HP2.out] at hb
    exact above_new HB0.out.size HB2.out.size hb24.size hbl.size (.inl (.inl hb))


set_option maxHeartbeats 8000000 in
theorem above_left (w : World) (P : Bl) (h p o g a gk : Nat) (t kid : T) (hc : w.cell? ⟨p, 0, none⟩ = some (.int .i64 (o : Nat))) (h2 : 2 ≤ o) (h16 : o ≤ 16) (hn : NodeAt P w (h + 1) g t) (hkn : NodeAt P w h gk kid) (hu : Under P w) (hok : AboveOk t a kid) (hfit : ¬ o - 1 ≤ kid.ps.length) (a0 : Nat) (hpos : a = a0 + 1) (l : T) (pr : Pr) (hl : t.ks[a0]? = some l) (hpr : t.ps[a0]? = some pr) :
    Calls Tryz.prog 138 #[.pointer (some ⟨p, 0, none⟩), .agg #[.pointer (some ⟨g, 0, none⟩), .int .i64 (a : Int)], .pointer (some ⟨gk, 0, none⟩)] w fun e w' =>
      ∃ g', e = .returned (.pointer (some ⟨g', 0, none⟩)) ∧ Below w.heap.size w w' ∧ NodeAt (New P w w') w' (h + 1) g' (aboveT o t a kid) := by
  have hf : Hid (fitT o t a kid = (joinT l pr kid, a0, a + 1)) := by
    show _ = _
    unfold fitT; rw [if_neg hfit, if_pos (by omega), show a - 1 = a0 by omega]; simp only [List.getD_eq_getElem?_getD, hl, hpr, Option.getD_some]
  obtain ⟨vp, vk, gs, h1, hs⟩ := hn
  obtain ⟨vp', vk', gs', h1', hs'⟩ := nodeAt_iff.1 hkn
  obtain ⟨A, cap, rfl⟩ := h1.pairs.slice
  obtain ⟨B, capb, rfl⟩ := h1.kids.slice
  obtain ⟨A', cap', rfl⟩ := h1'.pairs.slice
  have hgl : gs.length = t.ps.length + 1 := by rw [hs.1]; exact hok.kids
  obtain ⟨n, HN⟩ : ∃ n, Hid (n = t.ps.length) := ⟨_, rfl⟩
  obtain ⟨nk, HNK⟩ : ∃ n, Hid (n = kid.ps.length) := ⟨_, rfl⟩
  have HP0 := hid h1.pairs
  have HK0 := hid h1.kids
  rw [← HN.out] at HP0
  rw [hgl, ← HN.out] at HK0
  have hB0 : Below w.heap.size w (w.alloc (.cells #[.pointer (some ⟨g, 0, none⟩), .int .i64 (a : Int)] 162)) := (Below.refl _ w).alloc (Nat.le_refl _) _
  obtain ⟨W0, HW0⟩ : ∃ W0, Hid (W0 = w.alloc (.cells #[.pointer (some ⟨g, 0, none⟩), .int .i64 (a : Int)] 162)) := ⟨_, rfl⟩
  have HSZ : Hid (W0.heap.size = w.heap.size + 1) := by show _ = _; rw [HW0.out]; simp
  have HB0 : Hid (Below w.heap.size w W0) := by rw [HW0.out]; exact hB0
  have HU := hid hu
  have HS : Hid (Side (NodeAt P W0 h) gs t.ks) := hs.imp fun _ _ hn => NodeAt.keep (hu.stay HB0.out) hn
  have HKN : Hid (NodeAt P W0 h gk kid) := NodeAt.keep (hu.stay HB0.out) hkn
  have HLP : Hid (Lay P 2 cP W0 (.slice A n cap) t.ps) := HP0.out.keep (hu.stay HB0.out)
  have HLK : Hid (Lay P 1 cK W0 (.slice B (n + 1) capb) gs) := HK0.out.keep (hu.stay HB0.out)
  have HOK := hid hok
  have s0 : W0.cell? ⟨w.heap.size, 0, none⟩ = some (.pointer (some ⟨g, 0, none⟩)) := by rw [HW0.out]; exact cell_of_row _ _ 0 _ _ _ (heap_alloc_new w _)
  have s1 : W0.cell? ⟨w.heap.size, 0 + 1, none⟩ = some (.int .i64 (a : Int)) := by rw [HW0.out]; exact cell_of_row _ _ 1 _ _ _ (heap_alloc_new w _)
  have c0 : W0.cell? ⟨g, 0, none⟩ = some (.slice A n cap) := by rw [HN.out]; exact (h1.keep (hu.stay HB0.out)).c0
  have c1 : W0.cell? ⟨g, 0 + 1, none⟩ = some (.slice B (n + 1) capb) := by have := (h1.keep (hu.stay HB0.out)).c1'; rwa [hgl, ← HN.out] at this
  have k0 : W0.cell? ⟨gk, 0, none⟩ = some (.slice A' nk cap') := by rw [HNK.out]; exact (h1'.keep (hu.stay HB0.out)).c0
  have o0 : W0.cell? ⟨p, 0, none⟩ = some (.int .i64 (o : Nat)) := below_keep HB0.out _ _ hc
  have C0 := hid c0
  have C1 := hid c1
  have O0 := hid o0
  have haw : IntKind.i64.wrap ((a : Int) + 1) = (a : Int) + 1 := wrap_ok (by omega) (by have := hok.place; have := hok.few; omega)
  have how : IntKind.i64.wrap ((o : Int) - 1) = (o : Int) - 1 := wrap_ok (by omega) (by omega)
  have hn1 : 1 ≤ n := by rw [HN.out]; exact hok.some
  have hn100 : n ≤ 100 := by rw [HN.out]; exact hok.few
  have han : a ≤ n := by rw [HN.out]; exact hok.place
  have hni : (n : Int) ≤ 100 := by omega
  have hai : (a : Int) ≤ n := by omega
  have ho1 : (2 : Int) ≤ o := by omega
  have ho2 : (o : Int) ≤ 16 := by omega
  have hpa : (0 : Int) < a := by omega
  have hpw : IntKind.i64.wrap ((a : Int) - 1) = (a0 : Nat) := by rw [wrap_ok (by omega) (by omega)]; omega
  have hpi : (a0 : Int) < n := by omega
  have hpi2 : (a0 : Int) < (n : Int) + 1 := by omega
  obtain ⟨gsb, hgsb, hsb⟩ := Side.at_ HS.out hl
  obtain ⟨adP, rfl, p0, p1⟩ := HLP.out.pcell hpr
  obtain ⟨adK, rfl, q0⟩ := HLK.out.kcell hgsb
  have hlt : ¬ (o : Int) - 1 ≤ nk := by have := HNK.out; omega
  have JS1 : Hid (∀ W, Below W0.heap.size W0 W → W.cell? ⟨g, 0, none⟩ = some (.slice (some adP) n cap) ∧ W.cell? ⟨g, 0 + 1, none⟩ = some (.slice (some adK) (n + 1) capb) ∧ W.cell? (adK.add a0) = some (.pointer (some ⟨gsb, 0, none⟩)) ∧ W.cell? (adP.add (a0 * 2)) = some (.string (str pr.1)) ∧ W.cell? { block := (adP.add (a0 * 2)).block, off := (adP.add (a0 * 2)).off + 1, spot := none } = some (.string (str pr.2)) ∧ Below W0.heap.size W0 W) := fun W hb => ⟨below_keep hb _ _ c0, below_keep hb _ _ c1, below_keep hb _ _ q0, below_keep hb _ _ p0, below_keep hb _ _ p1, hb⟩
  have hsz : l.ks.length ≤ 1000 ∧ kid.ks.length ≤ 1000 := by
    have h1 := HOK.out.sibs l (List.mem_of_getElem? hl)
    have h2 := HOK.out.kid
    rcases HOK.out.ar with ⟨e1, e2⟩ | ⟨e1, e2⟩
    · rw [e1, e2 _ (List.mem_of_getElem? hl)]; simp
    · rw [e1, e2 _ (List.mem_of_getElem? hl)]; omega
  have hsl := HOK.out.sibs l (List.mem_of_getElem? hl)
  have hkl := HOK.out.kid
  have HJC := hid (fun W hb => join_from (P := P) (h := h) (gl := gsb) (gr := gk) (l := l) (r := kid) pr (HU.out.later HB0.out.size) hsb HKN.out (by omega) W hb)
  clear hsz hsl hkl hgsb
  have HPC := hid (fun gj W hb hn => parts_from (P := P) (h := h) (gj := gj) (J := joinT l pr kid) (HU.out.later HB0.out.size) o0 h2 h16 (by show (_ ++ _ ++ _ : List Pr).length ≤ 100; have := HOK.out.kid; have := HOK.out.sibs _ (List.mem_of_getElem? hl); simp; omega) (arity_join pr HOK.out.ar (.inl (List.mem_of_getElem? hl)) (.inr rfl)) W hb hn)
  have hq1 : a0 ≤ a := by omega
  have hq2 : a ≤ a0 + 1 := by omega
  clear hl hpr hpos
  clear hs hs' h1 h1' hkn hu hB0 hok hgl
  go_enter Tryz.func138, Tryz.ntmps138
  go_wp2
  rw [← HW0.out]
  go_quiet (fail)
  go_wp2
  go_quiet (fail)
  go_wp2
  go_region_held3 (fun W => W.cell? ⟨g, 0, none⟩ = some (.slice (some adP) n cap) ∧ W.cell? ⟨g, 0 + 1, none⟩ = some (.slice (some adK) (n + 1) capb) ∧ W.cell? (adK.add a0) = some (.pointer (some ⟨gsb, 0, none⟩)) ∧ W.cell? (adP.add (a0 * 2)) = some (.string (str pr.1)) ∧ W.cell? { block := (adP.add (a0 * 2)).block, off := (adP.add (a0 * 2)).off + 1, spot := none } = some (.string (str pr.2)) ∧ Below W0.heap.size W0 W)
    (first | exact JS1.out _ (by repeat (with_reducible (first | assumption | exact Below.refl _ _ | refine below_drew1 ?_ | refine below_drewN_ ?_ | refine below_alloc' ?_ _))))
    (first | (go_at_call 152; (with_reducible refine (HJC.out _ (by repeat (with_reducible (first | assumption | exact Below.refl _ _ | refine below_drew1 ?_ | refine below_drewN_ ?_ | refine below_alloc' ?_ _)))).mono ?_); rintro e W1 ⟨gj, rfl, hb1, hnj⟩; have HNJ := hid hnj; clear hnj))
  go_wp2_with fail
  refine (HPC.out gj _ (by repeat (with_reducible (first | assumption | exact Below.refl _ _ | refine below_drew1 ?_ | refine below_drewN_ ?_ | refine below_alloc' ?_ _))) (HNJ.out)).mono ?_
  rintro e W2 ⟨vb, vs, rfl, hb2, hlb, gp, hlg, hsd⟩
  obtain ⟨Ab, nb, cb, rfl⟩ := hlb.1.form
  obtain ⟨As, ns, cs, rfl⟩ := hlg.1.form
  have HB2 := hid hb2
  obtain ⟨P2, HP2⟩ : ∃ Q : Bl, Hid (Q = New P W0 W2) := ⟨_, rfl⟩
  have HLB := hid hlb
  have HLG := hid hlg
  have HSD := hid hsd
  rw [← HP2.out] at HLB HLG HSD
  have HU2 : Hid (Under P2 W2) := by rw [HP2.out]; exact (HU.out.later HB0.out.size).new hb2.size
  have HPP : Hid (∀ b, P b → P2 b) := by rw [HP2.out]; exact fun b hb => .inl hb
  have d0 := below_keep HB2.out _ _ C0.out
  have d1 := below_keep HB2.out _ _ C1.out
  have HL2 : Hid (Lay P2 2 cP W2 (.slice (some adP) n cap) t.ps) := (HLP.out.keep ((HU.out.later HB0.out.size).stay HB2.out)).mono HPP.out
  have HK2 : Hid (Lay P2 1 cK W2 (.slice (some adK) (n + 1) capb) gs) := (HLK.out.keep ((HU.out.later HB0.out.size).stay HB2.out)).mono HPP.out
  have HS2 : Hid (Side (NodeAt P2 W2 h) gs t.ks) := HS.out.imp fun _ _ hn => NodeAt.mono HPP.out (NodeAt.keep ((HU.out.later HB0.out.size).stay HB2.out) hn)
  have HLN : Hid (t.ps.length = n ∧ gs.length = n + 1 ∧ (partsT o (joinT l pr kid)).1.length ≤ 100 ∧ gp.length ≤ 100) := by
    refine ⟨HN.out.symm, by rw [HS.out.1, HOK.out.kids, ← HN.out], ?_, ?_⟩
    · unfold partsT; split <;> simp; omega
    · rw [hsd.1]; unfold partsT; split <;> simp
  have JS : Hid (∀ W, Below W2.heap.size W2 W → W.cell? ⟨g, 0, none⟩ = some (.slice (some adP) n cap) ∧ W.cell? ⟨g, 0 + 1, none⟩ = some (.slice (some adK) (n + 1) capb) ∧ Below W2.heap.size W2 W) := fun W hb => ⟨below_keep hb _ _ d0, below_keep hb _ _ d1, hb⟩
  have HAP := hid fun (W : World) (hb : Below W2.heap.size W2 W) => splice_P W P2 (.slice (some adP) n cap) t.ps a0 ((a + 1) - 1) (.slice Ab nb cb) (partsT o (joinT l pr kid)).1 (HL2.out.keep (HU2.out.stay hb)) (HLB.out.keep (HU2.out.stay hb)) (by omega) (by rw [HLN.out.1]; omega) (HU2.out.later hb.size) (by have := HLN.out.1; omega) (by have := HLN.out.2.2.1; omega)
  have HAK := hid fun (W : World) (hb : Below W2.heap.size W2 W) => splice_K W P2 (.slice (some adK) (n + 1) capb) gs a0 (a + 1) (.slice As ns cs) gp (HK2.out.keep (HU2.out.stay hb)) (HLG.out.keep (HU2.out.stay hb)) (by omega) (by rw [HLN.out.2.1]; omega) (HU2.out.later hb.size) (by have := HLN.out.2.1; omega) (by have := HLN.out.2.2.2; omega)
  rw [show (((a + 1) - 1 : Nat) : Int) = (a : Int) by omega, show ((a0 : Nat) : Int) = (a0 : Int) by omega] at HAP
  rw [show (((a + 1) : Nat) : Int) = ((a : Int) + 1) by omega, show ((a0 : Nat) : Int) = (a0 : Int) by omega] at HAK
  have hwa : IntKind.i64.wrap (a : Int) = a := wrap_ok (by omega) (by omega)
  have htw : IntKind.i64.wrap (((a : Int) + 1) - 1) = (a : Int) := by rw [wrap_ok (by omega) (by omega)]; omega
  clear hlb hlg hsd hb2 d0 d1
  go_wp2
  go_region_held3 (fun W => W.cell? ⟨g, 0, none⟩ = some (.slice (some adP) n cap) ∧ W.cell? ⟨g, 0 + 1, none⟩ = some (.slice (some adK) (n + 1) capb) ∧ Below W2.heap.size W2 W)
    (first | exact JS.out _ (by repeat (with_reducible (first | assumption | exact Below.refl _ _ | refine below_drew1 ?_ | refine below_drewN_ ?_ | refine below_alloc' ?_ _))))
    (first
      | (go_at_call 153; (with_reducible refine (HAK.out _ (by repeat (with_reducible (first | assumption | exact Below.refl _ _ | refine below_drew1 ?_ | refine below_drewN_ ?_ | refine below_alloc' ?_ _)))).mono ?_); rintro e W4 ⟨u4, rfl, hb4, hl4⟩; obtain ⟨A4, n4, c4, rfl⟩ := hl4.1.form; have hbc4 := below_to (W0 := W2) hb4 (by repeat (with_reducible (first | assumption | exact Below.refl _ _ | refine below_drew1 ?_ | refine below_drewN_ ?_ | refine below_alloc' ?_ _))); have H34 := hid (below_to (W0 := W3) hb4 (by repeat (with_reducible (first | assumption | exact Below.refl _ _ | refine below_drew1 ?_ | refine below_drewN_ ?_ | refine below_alloc' ?_ _)))); have HL4 := hid hl4; clear hl4 hb4)
      | (go_at_call 113; (with_reducible refine (HAP.out _ (by repeat (with_reducible (first | assumption | exact Below.refl _ _ | refine below_drew1 ?_ | refine below_drewN_ ?_ | refine below_alloc' ?_ _)))).mono ?_); rintro e W3 ⟨u3, rfl, hb3, hl3⟩; obtain ⟨A3, n3, c3, rfl⟩ := hl3.1.form; have hbc3 := below_to (W0 := W2) hb3 (by repeat (with_reducible (first | assumption | exact Below.refl _ _ | refine below_drew1 ?_ | refine below_drewN_ ?_ | refine below_alloc' ?_ _))); have HSW := hid (below_size hb3); have HL3 := hid (hl3.mono fun b hb => New.back (by repeat (with_reducible (first | assumption | exact Below.refl _ _ | refine below_drew1 ?_ | refine below_drewN_ ?_ | refine below_alloc' ?_ _))) hb); clear hl3 hb3))
  go_wp2
  go_ret
  have hbl : Below W4.heap.size W4 (W4.alloc (.cells #[.slice A3 n3 c3, .slice A4 n4 c4] 168)) := (Below.refl _ W4).alloc (Nat.le_refl _) _
  have hb24 : Below W2.heap.size W2 W4 := by assumption
  have hbw : Below w.heap.size w W4 := below_step (below_step HB0.out HB2.out) hb24
  refine ⟨W4.heap.size, rfl, below_step hbw hbl, .slice A3 n3 c3, .slice A4 n4 c4, spl gs a0 (a + 1) gp, ?_, ?_⟩
  · have hu4 : Under (New P2 W2 W4) W4 := HU2.out.new hb24.size
    have hu3 : Under (New P2 W2 W3) W3 := HU2.out.new (by assumption : Below W2.heap.size W2 W3).size
    have q1 : Lay (New P2 W2 W4) 2 cP W4 (.slice A3 n3 c3) (aboveT o t a kid).ps := by
      have := (HL3.out.keep (hu3.stay H34.out)).mono (P' := New P2 W2 W4) fun b hb => New.later H34.out.size hb
      unfold aboveT
      rw [hf.out]
      exact this
    have q2 : Lay (New P2 W2 W4) 1 cK W4 (.slice A4 n4 c4) (spl gs a0 (a + 1) gp) := HL4.out.mono fun b hb => New.back (below_step (by assumption : Below W2.heap.size W2 W3) (Below.refl _ _)) hb
    refine (hd_new (New P2 W2 W4) _ _ q1 q2 hu4).mono fun b hb => ?_
    rw [HP2.out] at hb
    exact above_new HB0.out.size HB2.out.size hb24.size hbl.size hb
  · have hks : (aboveT o t a kid).ks = spl t.ks a0 (a + 1) (partsT o (joinT l pr kid)).2 := by
      unfold aboveT
      rw [hf.out]
      rfl
    rw [hks]
    refine (side_spl HS2.out HSD.out a0 (a + 1)).imp fun g' k hn => ?_
    refine NodeAt.mono (P := P2) (fun b hb => ?_) (NodeAt.keep (HU2.out.stay (below_step hb24 hbl)) hn)
    rw [HP2.out] at hb
    exact above_new HB0.out.size HB2.out.size hb24.size hbl.size (.inl (.inl hb))


set_option maxHeartbeats 8000000 in
theorem above_right (w : World) (P : Bl) (h p o g a gk : Nat) (t kid : T) (hc : w.cell? ⟨p, 0, none⟩ = some (.int .i64 (o : Nat))) (h2 : 2 ≤ o) (h16 : o ≤ 16) (hn : NodeAt P w (h + 1) g t) (hkn : NodeAt P w h gk kid) (hu : Under P w) (hok : AboveOk t a kid) (hfit : ¬ o - 1 ≤ kid.ps.length) (hpos : a = 0) (r : T) (pr : Pr) (hr : t.ks[a + 1]? = some r) (hpr : t.ps[a]? = some pr) :
    Calls Tryz.prog 138 #[.pointer (some ⟨p, 0, none⟩), .agg #[.pointer (some ⟨g, 0, none⟩), .int .i64 (a : Int)], .pointer (some ⟨gk, 0, none⟩)] w fun e w' =>
      ∃ g', e = .returned (.pointer (some ⟨g', 0, none⟩)) ∧ Below w.heap.size w w' ∧ NodeAt (New P w w') w' (h + 1) g' (aboveT o t a kid) := by
  have hf : Hid (fitT o t a kid = (joinT kid pr r, a, a + 2)) := by
    show _ = _
    subst hpos; unfold fitT; rw [if_neg hfit, if_neg (by omega)]; simp only [List.getD_eq_getElem?_getD, hr, hpr, Option.getD_some]
  obtain ⟨vp, vk, gs, h1, hs⟩ := hn
  obtain ⟨vp', vk', gs', h1', hs'⟩ := nodeAt_iff.1 hkn
  obtain ⟨A, cap, rfl⟩ := h1.pairs.slice
  obtain ⟨B, capb, rfl⟩ := h1.kids.slice
  obtain ⟨A', cap', rfl⟩ := h1'.pairs.slice
  have hgl : gs.length = t.ps.length + 1 := by rw [hs.1]; exact hok.kids
  obtain ⟨n, HN⟩ : ∃ n, Hid (n = t.ps.length) := ⟨_, rfl⟩
  obtain ⟨nk, HNK⟩ : ∃ n, Hid (n = kid.ps.length) := ⟨_, rfl⟩
  have HP0 := hid h1.pairs
  have HK0 := hid h1.kids
  rw [← HN.out] at HP0
  rw [hgl, ← HN.out] at HK0
  have hB0 : Below w.heap.size w (w.alloc (.cells #[.pointer (some ⟨g, 0, none⟩), .int .i64 (a : Int)] 162)) := (Below.refl _ w).alloc (Nat.le_refl _) _
  obtain ⟨W0, HW0⟩ : ∃ W0, Hid (W0 = w.alloc (.cells #[.pointer (some ⟨g, 0, none⟩), .int .i64 (a : Int)] 162)) := ⟨_, rfl⟩
  have HSZ : Hid (W0.heap.size = w.heap.size + 1) := by show _ = _; rw [HW0.out]; simp
  have HB0 : Hid (Below w.heap.size w W0) := by rw [HW0.out]; exact hB0
  have HU := hid hu
  have HS : Hid (Side (NodeAt P W0 h) gs t.ks) := hs.imp fun _ _ hn => NodeAt.keep (hu.stay HB0.out) hn
  have HKN : Hid (NodeAt P W0 h gk kid) := NodeAt.keep (hu.stay HB0.out) hkn
  have HLP : Hid (Lay P 2 cP W0 (.slice A n cap) t.ps) := HP0.out.keep (hu.stay HB0.out)
  have HLK : Hid (Lay P 1 cK W0 (.slice B (n + 1) capb) gs) := HK0.out.keep (hu.stay HB0.out)
  have HOK := hid hok
  have s0 : W0.cell? ⟨w.heap.size, 0, none⟩ = some (.pointer (some ⟨g, 0, none⟩)) := by rw [HW0.out]; exact cell_of_row _ _ 0 _ _ _ (heap_alloc_new w _)
  have s1 : W0.cell? ⟨w.heap.size, 0 + 1, none⟩ = some (.int .i64 (a : Int)) := by rw [HW0.out]; exact cell_of_row _ _ 1 _ _ _ (heap_alloc_new w _)
  have c0 : W0.cell? ⟨g, 0, none⟩ = some (.slice A n cap) := by rw [HN.out]; exact (h1.keep (hu.stay HB0.out)).c0
  have c1 : W0.cell? ⟨g, 0 + 1, none⟩ = some (.slice B (n + 1) capb) := by have := (h1.keep (hu.stay HB0.out)).c1'; rwa [hgl, ← HN.out] at this
  have k0 : W0.cell? ⟨gk, 0, none⟩ = some (.slice A' nk cap') := by rw [HNK.out]; exact (h1'.keep (hu.stay HB0.out)).c0
  have o0 : W0.cell? ⟨p, 0, none⟩ = some (.int .i64 (o : Nat)) := below_keep HB0.out _ _ hc
  have C0 := hid c0
  have C1 := hid c1
  have O0 := hid o0
  have haw : IntKind.i64.wrap ((a : Int) + 1) = (a : Int) + 1 := wrap_ok (by omega) (by have := hok.place; have := hok.few; omega)
  have how : IntKind.i64.wrap ((o : Int) - 1) = (o : Int) - 1 := wrap_ok (by omega) (by omega)
  have hn1 : 1 ≤ n := by rw [HN.out]; exact hok.some
  have hn100 : n ≤ 100 := by rw [HN.out]; exact hok.few
  have han : a ≤ n := by rw [HN.out]; exact hok.place
  have hni : (n : Int) ≤ 100 := by omega
  have hai : (a : Int) ≤ n := by omega
  have ho1 : (2 : Int) ≤ o := by omega
  have ho2 : (o : Int) ≤ 16 := by omega
  have hpa : ¬ (0 : Int) < a := by omega
  have hpi : (a : Int) < n := by omega
  have hpi2 : (a : Int) + 1 < (n : Int) + 1 := by omega
  have hpi3 : (0 : Int) ≤ (a : Int) + 1 := by omega
  have hpi4 : ((a : Int) + 1).toNat = a + 1 := by omega
  have hpw2 : IntKind.i64.wrap ((a : Int) + 2) = (a : Int) + 2 := wrap_ok (by omega) (by omega)
  have hpw3 : IntKind.i64.wrap ((a : Int) + 1 + 1) = (a : Int) + 2 := by rw [wrap_ok (by omega) (by omega)]; omega
  obtain ⟨gsb, hgsb, hsb⟩ := Side.at_ HS.out hr
  obtain ⟨adP, rfl, p0, p1⟩ := HLP.out.pcell hpr
  obtain ⟨adK, rfl, q0⟩ := HLK.out.kcell hgsb
  rw [Addr.add_succ' _ a] at q0
  have hlt : ¬ (o : Int) - 1 ≤ nk := by have := HNK.out; omega
  have JS1 : Hid (∀ W, Below W0.heap.size W0 W → W.cell? ⟨g, 0, none⟩ = some (.slice (some adP) n cap) ∧ W.cell? ⟨g, 0 + 1, none⟩ = some (.slice (some adK) (n + 1) capb) ∧ W.cell? ({ block := adK.block, off := adK.off + (a + 1), spot := none } : Addr) = some (.pointer (some ⟨gsb, 0, none⟩)) ∧ W.cell? (adP.add (a * 2)) = some (.string (str pr.1)) ∧ W.cell? { block := (adP.add (a * 2)).block, off := (adP.add (a * 2)).off + 1, spot := none } = some (.string (str pr.2)) ∧ Below W0.heap.size W0 W) := fun W hb => ⟨below_keep hb _ _ c0, below_keep hb _ _ c1, below_keep hb _ _ q0, below_keep hb _ _ p0, below_keep hb _ _ p1, hb⟩
  have hsz : r.ks.length ≤ 1000 ∧ kid.ks.length ≤ 1000 := by
    have h1 := HOK.out.sibs r (List.mem_of_getElem? hr)
    have h2 := HOK.out.kid
    rcases HOK.out.ar with ⟨e1, e2⟩ | ⟨e1, e2⟩
    · rw [e1, e2 _ (List.mem_of_getElem? hr)]; simp
    · rw [e1, e2 _ (List.mem_of_getElem? hr)]; omega
  have hsl := HOK.out.sibs r (List.mem_of_getElem? hr)
  have hkl := HOK.out.kid
  have HJC := hid (fun W hb => join_from (P := P) (h := h) (gl := gk) (gr := gsb) (l := kid) (r := r) pr (HU.out.later HB0.out.size) HKN.out hsb (by omega) W hb)
  clear hsz hsl hkl hgsb
  have HPC := hid (fun gj W hb hn => parts_from (P := P) (h := h) (gj := gj) (J := joinT kid pr r) (HU.out.later HB0.out.size) o0 h2 h16 (by show (_ ++ _ ++ _ : List Pr).length ≤ 100; have := HOK.out.kid; have := HOK.out.sibs _ (List.mem_of_getElem? hr); simp; omega) (arity_join pr HOK.out.ar (.inr rfl) (.inl (List.mem_of_getElem? hr))) W hb hn)
  clear hr hpr hpos
  clear hs hs' h1 h1' hkn hu hB0 hok hgl
  go_enter Tryz.func138, Tryz.ntmps138
  go_wp2
  rw [← HW0.out]
  go_quiet (fail)
  go_wp2
  go_quiet (fail)
  go_wp2
  go_region_held3 (fun W => W.cell? ⟨g, 0, none⟩ = some (.slice (some adP) n cap) ∧ W.cell? ⟨g, 0 + 1, none⟩ = some (.slice (some adK) (n + 1) capb) ∧ W.cell? ({ block := adK.block, off := adK.off + (a + 1), spot := none } : Addr) = some (.pointer (some ⟨gsb, 0, none⟩)) ∧ W.cell? (adP.add (a * 2)) = some (.string (str pr.1)) ∧ W.cell? { block := (adP.add (a * 2)).block, off := (adP.add (a * 2)).off + 1, spot := none } = some (.string (str pr.2)) ∧ Below W0.heap.size W0 W)
    (first | exact JS1.out _ (by repeat (with_reducible (first | assumption | exact Below.refl _ _ | refine below_drew1 ?_ | refine below_drewN_ ?_ | refine below_alloc' ?_ _))))
    (first | (go_at_call 152; (with_reducible refine (HJC.out _ (by repeat (with_reducible (first | assumption | exact Below.refl _ _ | refine below_drew1 ?_ | refine below_drewN_ ?_ | refine below_alloc' ?_ _)))).mono ?_); rintro e W1 ⟨gj, rfl, hb1, hnj⟩; have HNJ := hid hnj; clear hnj))
  go_wp2_with fail
  refine (HPC.out gj _ (by repeat (with_reducible (first | assumption | exact Below.refl _ _ | refine below_drew1 ?_ | refine below_drewN_ ?_ | refine below_alloc' ?_ _))) (HNJ.out)).mono ?_
  rintro e W2 ⟨vb, vs, rfl, hb2, hlb, gp, hlg, hsd⟩
  obtain ⟨Ab, nb, cb, rfl⟩ := hlb.1.form
  obtain ⟨As, ns, cs, rfl⟩ := hlg.1.form
  have HB2 := hid hb2
  obtain ⟨P2, HP2⟩ : ∃ Q : Bl, Hid (Q = New P W0 W2) := ⟨_, rfl⟩
  have HLB := hid hlb
  have HLG := hid hlg
  have HSD := hid hsd
  rw [← HP2.out] at HLB HLG HSD
  have HU2 : Hid (Under P2 W2) := by rw [HP2.out]; exact (HU.out.later HB0.out.size).new hb2.size
  have HPP : Hid (∀ b, P b → P2 b) := by rw [HP2.out]; exact fun b hb => .inl hb
  have d0 := below_keep HB2.out _ _ C0.out
  have d1 := below_keep HB2.out _ _ C1.out
  have HL2 : Hid (Lay P2 2 cP W2 (.slice (some adP) n cap) t.ps) := (HLP.out.keep ((HU.out.later HB0.out.size).stay HB2.out)).mono HPP.out
  have HK2 : Hid (Lay P2 1 cK W2 (.slice (some adK) (n + 1) capb) gs) := (HLK.out.keep ((HU.out.later HB0.out.size).stay HB2.out)).mono HPP.out
  have HS2 : Hid (Side (NodeAt P2 W2 h) gs t.ks) := HS.out.imp fun _ _ hn => NodeAt.mono HPP.out (NodeAt.keep ((HU.out.later HB0.out.size).stay HB2.out) hn)
  have HLN : Hid (t.ps.length = n ∧ gs.length = n + 1 ∧ (partsT o (joinT kid pr r)).1.length ≤ 100 ∧ gp.length ≤ 100) := by
    refine ⟨HN.out.symm, by rw [HS.out.1, HOK.out.kids, ← HN.out], ?_, ?_⟩
    · unfold partsT; split <;> simp; omega
    · rw [hsd.1]; unfold partsT; split <;> simp
  have JS : Hid (∀ W, Below W2.heap.size W2 W → W.cell? ⟨g, 0, none⟩ = some (.slice (some adP) n cap) ∧ W.cell? ⟨g, 0 + 1, none⟩ = some (.slice (some adK) (n + 1) capb) ∧ Below W2.heap.size W2 W) := fun W hb => ⟨below_keep hb _ _ d0, below_keep hb _ _ d1, hb⟩
  have HAP := hid fun (W : World) (hb : Below W2.heap.size W2 W) => splice_P W P2 (.slice (some adP) n cap) t.ps a ((a + 2) - 1) (.slice Ab nb cb) (partsT o (joinT kid pr r)).1 (HL2.out.keep (HU2.out.stay hb)) (HLB.out.keep (HU2.out.stay hb)) (by omega) (by rw [HLN.out.1]; omega) (HU2.out.later hb.size) (by have := HLN.out.1; omega) (by have := HLN.out.2.2.1; omega)
  have HAK := hid fun (W : World) (hb : Below W2.heap.size W2 W) => splice_K W P2 (.slice (some adK) (n + 1) capb) gs a (a + 2) (.slice As ns cs) gp (HK2.out.keep (HU2.out.stay hb)) (HLG.out.keep (HU2.out.stay hb)) (by omega) (by rw [HLN.out.2.1]; omega) (HU2.out.later hb.size) (by have := HLN.out.2.1; omega) (by have := HLN.out.2.2.2; omega)
  rw [show (((a + 2) - 1 : Nat) : Int) = ((a : Int) + 1) by omega, show ((a : Nat) : Int) = (a : Int) by omega] at HAP
  rw [show (((a + 2) : Nat) : Int) = ((a : Int) + 2) by omega, show ((a : Nat) : Int) = (a : Int) by omega] at HAK
  have hwa : IntKind.i64.wrap (a : Int) = a := wrap_ok (by omega) (by omega)
  have htw : IntKind.i64.wrap (((a : Int) + 2) - 1) = ((a : Int) + 1) := by rw [wrap_ok (by omega) (by omega)]; omega
  clear hlb hlg hsd hb2 d0 d1
  go_wp2
  go_region_held3 (fun W => W.cell? ⟨g, 0, none⟩ = some (.slice (some adP) n cap) ∧ W.cell? ⟨g, 0 + 1, none⟩ = some (.slice (some adK) (n + 1) capb) ∧ Below W2.heap.size W2 W)
    (first | exact JS.out _ (by repeat (with_reducible (first | assumption | exact Below.refl _ _ | refine below_drew1 ?_ | refine below_drewN_ ?_ | refine below_alloc' ?_ _))))
    (first
      | (go_at_call 153; (with_reducible refine (HAK.out _ (by repeat (with_reducible (first | assumption | exact Below.refl _ _ | refine below_drew1 ?_ | refine below_drewN_ ?_ | refine below_alloc' ?_ _)))).mono ?_); rintro e W4 ⟨u4, rfl, hb4, hl4⟩; obtain ⟨A4, n4, c4, rfl⟩ := hl4.1.form; have hbc4 := below_to (W0 := W2) hb4 (by repeat (with_reducible (first | assumption | exact Below.refl _ _ | refine below_drew1 ?_ | refine below_drewN_ ?_ | refine below_alloc' ?_ _))); have H34 := hid (below_to (W0 := W3) hb4 (by repeat (with_reducible (first | assumption | exact Below.refl _ _ | refine below_drew1 ?_ | refine below_drewN_ ?_ | refine below_alloc' ?_ _)))); have HL4 := hid hl4; clear hl4 hb4)
      | (go_at_call 113; (with_reducible refine (HAP.out _ (by repeat (with_reducible (first | assumption | exact Below.refl _ _ | refine below_drew1 ?_ | refine below_drewN_ ?_ | refine below_alloc' ?_ _)))).mono ?_); rintro e W3 ⟨u3, rfl, hb3, hl3⟩; obtain ⟨A3, n3, c3, rfl⟩ := hl3.1.form; have hbc3 := below_to (W0 := W2) hb3 (by repeat (with_reducible (first | assumption | exact Below.refl _ _ | refine below_drew1 ?_ | refine below_drewN_ ?_ | refine below_alloc' ?_ _))); have HSW := hid (below_size hb3); have HL3 := hid (hl3.mono fun b hb => New.back (by repeat (with_reducible (first | assumption | exact Below.refl _ _ | refine below_drew1 ?_ | refine below_drewN_ ?_ | refine below_alloc' ?_ _))) hb); clear hl3 hb3))
  go_wp2
  go_ret
  have hbl : Below W4.heap.size W4 (W4.alloc (.cells #[.slice A3 n3 c3, .slice A4 n4 c4] 168)) := (Below.refl _ W4).alloc (Nat.le_refl _) _
  have hb24 : Below W2.heap.size W2 W4 := by assumption
  have hbw : Below w.heap.size w W4 := below_step (below_step HB0.out HB2.out) hb24
  refine ⟨W4.heap.size, rfl, below_step hbw hbl, .slice A3 n3 c3, .slice A4 n4 c4, spl gs a (a + 2) gp, ?_, ?_⟩
  · have hu4 : Under (New P2 W2 W4) W4 := HU2.out.new hb24.size
    have hu3 : Under (New P2 W2 W3) W3 := HU2.out.new (by assumption : Below W2.heap.size W2 W3).size
    have q1 : Lay (New P2 W2 W4) 2 cP W4 (.slice A3 n3 c3) (aboveT o t a kid).ps := by
      have := (HL3.out.keep (hu3.stay H34.out)).mono (P' := New P2 W2 W4) fun b hb => New.later H34.out.size hb
      unfold aboveT
      rw [hf.out]
      exact this
    have q2 : Lay (New P2 W2 W4) 1 cK W4 (.slice A4 n4 c4) (spl gs a (a + 2) gp) := HL4.out.mono fun b hb => New.back (below_step (by assumption : Below W2.heap.size W2 W3) (Below.refl _ _)) hb
    refine (hd_new (New P2 W2 W4) _ _ q1 q2 hu4).mono fun b hb => ?_
    rw [HP2.out] at hb
    exact above_new HB0.out.size HB2.out.size hb24.size hbl.size hb
  · have hks : (aboveT o t a kid).ks = spl t.ks a (a + 2) (partsT o (joinT kid pr r)).2 := by
      unfold aboveT
      rw [hf.out]
      rfl
    rw [hks]
    refine (side_spl HS2.out HSD.out a (a + 2)).imp fun g' k hn => ?_
    refine NodeAt.mono (P := P2) (fun b hb => ?_) (NodeAt.keep (HU2.out.stay (below_step hb24 hbl)) hn)
    rw [HP2.out] at hb
    exact above_new HB0.out.size HB2.out.size hb24.size hbl.size (.inl (.inl hb))

end Go.Proofs.YtlnagdodnkhbmaaGreat

namespace Go.Proofs.YtlnagdodnkhbmaaGreat
open Go.RowKit Go.Shelf
set_option maxRecDepth 100000
attribute [local go_sem] Oper.semAt_some

/-- A list's elements from behind, with their places. -/
def bwd (ss : List (Nat × Nat)) : List (Nat × (Nat × Nat)) := (ss.zipIdx.map fun x => (x.2, x.1)).reverse
theorem bwd_len (ss : List (Nat × Nat)) : (bwd ss).length = ss.length := by simp [bwd]
theorem bwd_at {ss : List (Nat × Nat)} {k j : Nat} {s : Nat × Nat} (hj : j + 1 + k = ss.length) (hs : ss[j]? = some s) : (bwd ss)[k]? = some (j, s) := by
  unfold bwd
  have hl := (List.getElem?_eq_some_iff.1 hs).1
  rw [List.getElem?_reverse (by simp; omega)]
  simp only [List.length_map, List.length_zipIdx, List.getElem?_map, List.getElem?_zipIdx]
  rw [show ss.length - 1 - k = j by omega, hs]
  simp
def encB (x : Nat × (Nat × Nat)) : Array Value := #[.int .i64 (x.1 : Int), .agg #[.pointer (some ⟨x.2.1, 0, none⟩), .int .i64 (x.2.2 : Int)]]
theorem take_one {α : Type} {l : List α} {k : Nat} {x : α} (h : l[k]? = some x) : l.take (k + 1) = l.take k ++ [x] := by rw [List.take_add_one, h]; rfl

theorem Elems.step {w : World} {A : Option Addr} {n cap i : Nat} {l : List (Nat × Nat)} {s : Nat × Nat} (h : Elems 2 cS w (.slice A n cap) l) (hi : l[i]? = some s) :
    ∃ ad, A = some ad ∧ w.cell? (ad.add (i * 2)) = some (.pointer (some ⟨s.1, 0, none⟩)) ∧ w.cell? { block := (ad.add (i * 2)).block, off := (ad.add (i * 2)).off + 1, spot := none } = some (.int .i64 (s.2 : Int)) := by
  obtain ⟨ad, rfl, h0⟩ := h.cell cS_len (j := 0) hi (u := .pointer (some ⟨s.1, 0, none⟩)) rfl
  obtain ⟨ad1, e1, h1⟩ := h.cell cS_len (j := 1) hi (u := .int .i64 (s.2 : Int)) rfl
  injection e1 with e1
  subst e1
  rw [Nat.add_zero] at h0
  rw [← add_add', Addr.add_succ' _ 0] at h1
  exact ⟨ad, rfl, h0, h1⟩
theorem backward_any (w : World) (A : Option Addr) (n c : Nat) : Calls Tryz.prog 131 #[.slice A n c] w fun e w' =>
    e = .returned (.func (.func 150) #[] #[.pointer (some ⟨w.heap.size, 0, none⟩)]) ∧ w' = w.alloc (.cells #[.slice A n c] 158) := by
  go_enter Tryz.func131, Tryz.ntmps131
  go_wp2
  go_ret
  exact ⟨rfl, rfl⟩

set_option maxHeartbeats 2000000 in
theorem backward_gives (w : World) (A : Option Addr) (c Bt : Nat) (ss : List (Nat × Nat)) (hv : Elems 2 cS w (.slice A ss.length c) ss) (hb : w.cell? ⟨Bt, 0, none⟩ = some (.slice A ss.length c)) (hsz : ss.length ≤ 100000) :
    Gives Tryz.prog 150 #[.pointer (some ⟨Bt, 0, none⟩)] encB (bwd ss) (fun b => b = Bt ∨ b ∈ ownFoot (.slice A ss.length c)) w := by
  intro n l J Jx K W hW hGK hKW hJ hJx hY h0
  obtain ⟨len, HLEN⟩ : ∃ len, Hid (len = ss.length) := ⟨_, rfl⟩
  have hlen : len ≤ 100000 := by rw [HLEN.out]; exact hsz
  have HF : Hid (∀ W', Stay K W W' → W'.cell? ⟨Bt, 0, none⟩ = some (.slice A len c) ∧ Elems 2 cS W' (.slice A len c) ss) := fun W' hs => by
    have h1 : Stay (fun b => b = Bt ∨ b ∈ ownFoot (.slice A ss.length c)) w W' := hW.trans (hs.less hGK)
    rw [HLEN.out]
    exact ⟨(h1.cell (a := ⟨Bt, 0, none⟩) (.inl rfl)).trans hb, hv.keep fun b hm => h1.2 b (.inr hm)⟩
  have HKW := hid hKW
  have HY := hid hY
  have HJ0 := hid h0
  obtain ⟨c0, _⟩ := HF.out W (Stay.refl _ _)
  clear hY h0 hKW hb hv hsz hW hGK hJ hJx
  refine callsIn_of_wp Tryz.func150 rfl trivial ?_ rfl
  simp only [Tryz.ntmps150, List.size_toArray, List.length_cons, List.length_nil, Nat.reduceAdd, Nat.reduceSub, Array.replicate_succ, Array.replicate_zero, List.push_toArray, List.append_toArray, List.nil_append, List.cons_append]
  gi_wp2
  gi_loopw [3] (fun i wr => ∃ k : Nat, k ≤ len ∧ i = .int .i64 ((len : Int) - 1 - k) ∧ J ((bwd ss).take k) K wr ∧ Stay K W wr) (fun i _ => (intOf i + 1).toNat)
  case atStart =>
    exact ⟨0, by omega, by simp, HJ0.out, Stay.refl _ _⟩
  case round =>
    obtain ⟨k, hk, rfl, hJk, hst⟩ := hrel
    by_cases hlt : k < len
    · obtain ⟨j, hj⟩ : ∃ j, j + 1 + k = len := ⟨len - 1 - k, by omega⟩
      have e1 : (len : Int) - 1 - k = (j : Int) := by omega
      have e2 : (len : Int) - 1 - (k + 1 : Nat) = (j : Int) - 1 := by omega
      have hjlt : (j : Int) < len := by omega
      have hj0 : (0 : Int) ≤ (j : Int) := by omega
      obtain ⟨⟨sg, sa⟩, hs⟩ : ∃ s, ss[j]? = some s := ⟨ss[j]'(by have := HLEN.out; omega), List.getElem?_eq_getElem _⟩
      obtain ⟨cb, hel⟩ := HF.out wr hst
      rw [HLEN.out] at hel
      obtain ⟨ad, rfl, p0, p1⟩ := hel.step hs
      have hb := bwd_at (show j + 1 + k = ss.length by rw [← HLEN.out]; exact hj) hs
      have hpre : (bwd ss).take k ++ [(j, (sg, sa))] <+: bwd ss := by rw [← take_one hb]; exact List.take_prefix _ _
      obtain ⟨fn, tmps, assign, body, hy, hR⟩ := HY.out (n - 1) _ _ K wr hJk (fun b hb => Nat.lt_of_lt_of_le (HKW.out b hb) hst.1) hpre
      dsimp only [encB] at hy
      have HT := hid (take_one hb)
      have HST := hid hst
      have HE2 := hid e2
      have hjw : IntKind.i64.wrap ((j : Int) - 1) = (j : Int) - 1 := wrap_ok (by omega) (by omega)
      rw [e1]
      clear hs hel hb hpre hJk hst e1 e2 HF HY
      gi_wp2
      refine ⟨fun h => (by cases h), hR.mono ?_⟩
      rintro e W3 (⟨rfl, hJ3, hs3⟩ | ⟨rfl, hJ3, hs3⟩)
      · have HJ3 := hid hJ3
        clear hJ3
        gi_wp2
        go_roundw
        case rel => exact ⟨k + 1, by omega, by rw [HE2.out], by rw [HT.out]; exact HJ3.out, HST.out.trans hs3⟩
        case measure => simp [intOf]
      · have HJ3 := hid hJ3
        clear hJ3
        gi_wp2
        refine bodyPost_ret (results_none rfl _ _ _) rfl ?_
        exact ⟨⟨_, rfl⟩, .inr ⟨(bwd ss).take (k + 1), List.take_prefix _ _, by rw [HT.out]; exact HJ3.out⟩⟩
    · obtain rfl : k = len := by omega
      have e1 : (k : Int) - 1 - k = -1 := by omega
      have hall : (bwd ss).take k = bwd ss := List.take_of_length_le (by rw [bwd_len, ← HLEN.out]; exact Nat.le_refl _)
      rw [e1]
      rw [hall] at hJk
      have HJk := hid hJk
      clear hJk hall
      gi_wp2
      go_end0
      exact ⟨⟨_, rfl⟩, .inl HJk.out⟩
end Go.Proofs.YtlnagdodnkhbmaaGreat

/- The document's nodes: how many keys they have, and which, in order, whatever is put in a child's place. -/
namespace Go.Proofs.YtlnagdodnkhbmaaGreat
open Go.RowKit

/-- A node of height h that has from lo to hi keys, above others that are as they must be. -/
def Ok (o : Nat) : Nat → Nat → Nat → T → Prop
  | 0, lo, hi, t => (lo ≤ t.ps.length ∧ t.ps.length ≤ hi) ∧ t.ks = []
  | h + 1, lo, hi, t => (lo ≤ t.ps.length ∧ t.ps.length ≤ hi) ∧ t.ks.length = t.ps.length + 1 ∧ ∀ k ∈ t.ks, Ok o h (o - 1) (2 * o - 1) k
section
variable {o h lo hi : Nat} {t l r kid : T}
theorem Ok.len (ht : Ok o h lo hi t) : lo ≤ t.ps.length ∧ t.ps.length ≤ hi := by cases h <;> exact ht.1
theorem Ok.to_ (ht : Ok o h lo hi t) {lo' hi' : Nat} (h1 : lo' ≤ t.ps.length) (h2 : t.ps.length ≤ hi') : Ok o h lo' hi' t := by cases h <;> exact ⟨⟨h1, h2⟩, ht.2⟩
theorem Ok.same (ht : Ok o h lo hi t) : Ok o h t.ps.length t.ps.length t := ht.to_ (Nat.le_refl _) (Nat.le_refl _)
theorem Ok.arity (ht : Ok o h lo hi t) : t.ks = [] ∨ t.ks.length = t.ps.length + 1 := by
  cases h with
  | zero => exact .inl ht.2
  | succ h => exact .inr ht.2.1
theorem join_ok {l1 h1 l2 h2 : Nat} (p : Pr) (hl : Ok o h l1 h1 l) (hr : Ok o h l2 h2 r) : Ok o h (l1 + l2 + 1) (h1 + h2 + 1) (joinT l p r) := by
  have a := hl.len
  have b := hr.len
  have e : (joinT l p r).ps.length = l.ps.length + r.ps.length + 1 := by show (l.ps ++ [p] ++ r.ps).length = _; simp; omega
  cases h with
  | zero => exact ⟨by rw [e]; omega, by show l.ks ++ r.ks = []; rw [hl.2, hr.2]; rfl⟩
  | succ h =>
    refine ⟨by rw [e]; omega, ?_, fun k hk => ?_⟩
    · rw [e]; show (l.ks ++ r.ks).length = _; rw [List.length_append, hl.2.1, hr.2.1]; omega
    · rcases List.mem_append.1 (show k ∈ l.ks ++ r.ks from hk) with hk | hk
      · exact hl.2.2 k hk
      · exact hr.2.2 k hk
theorem part_ok (ht : Ok o h lo hi t) {a b : Nat} (hab : a ≤ b) (hb : b ≤ t.ps.length) : Ok o h (b - a) (b - a) (partT t a b) := by
  have e : (partT t a b).ps.length = b - a := by show ((t.ps.drop a).take (b - a)).length = _; rw [List.length_take, List.length_drop]; omega
  cases h with
  | zero =>
    refine ⟨by rw [e]; omega, ?_⟩
    show (if t.ks = [] then [] else _) = []
    rw [if_pos ht.2]
  | succ h =>
    have hne : ¬ t.ks = [] := fun e => by have := ht.2.1; rw [e] at this; simp at this
    have hks : (partT t a b).ks = (t.ks.drop a).take (b + 1 - a) := by show (if t.ks = [] then [] else _) = _; rw [if_neg hne]
    refine ⟨by rw [e]; omega, ?_, fun k hk => ?_⟩
    · rw [hks, e, List.length_take, List.length_drop, ht.2.1]; omega
    · rw [hks] at hk
      exact ht.2.2 k (List.mem_of_mem_drop (List.mem_of_mem_take hk))
theorem parts_ok (ho : 2 ≤ o) (ht : Ok o h lo hi t) (h1 : o - 1 ≤ t.ps.length) (h2 : t.ps.length ≤ 4 * o - 1) :
    (∀ x ∈ (partsT o t).2, Ok o h (o - 1) (2 * o - 1) x) ∧ (partsT o t).2.length = (partsT o t).1.length + 1 ∧ (partsT o t).1.length ≤ 1 := by
  unfold partsT
  split
  · rename_i hle
    refine ⟨fun x hx => ?_, rfl, by simp⟩
    simp at hx
    subst hx
    exact ht.to_ h1 hle
  · rename_i hgt
    refine ⟨fun x hx => ?_, ?_, ?_⟩
    · simp at hx
      rcases hx with rfl | rfl
      · have := part_ok ht (a := 0) (b := t.ps.length / 2) (Nat.zero_le _) (by omega)
        exact this.to_ (by have := this.len; omega) (by have := this.len; omega)
      · have := part_ok ht (a := t.ps.length / 2 + 1) (b := t.ps.length) (by omega) (Nat.le_refl _)
        exact this.to_ (by have := this.len; omega) (by have := this.len; omega)
    · rw [List.length_take, List.length_drop]; simp; omega
    · rw [List.length_take]; omega
theorem mem_spl {α : Type} {l o : List α} {a b : Nat} {x : α} (h : x ∈ spl l a b o) : x ∈ l ∨ x ∈ o := by
  unfold spl at h
  rcases List.mem_append.1 h with h | h
  · rcases List.mem_append.1 h with h | h
    · exact .inl (List.mem_of_mem_take h)
    · exact .inr h
  · exact .inl (List.mem_of_mem_drop h)
theorem spl_len {α : Type} {l o : List α} {a b : Nat} (ha : a ≤ b) (hb : b ≤ l.length) : (spl l a b o).length + (b - a) = l.length + o.length := by
  unfold spl
  rw [List.length_append, List.length_append, List.length_take, List.length_drop]
  omega

/-- What stands in the child's place: which way it is made. -/
theorem fit_cases (_ho : 2 ≤ o) (ht : Ok o (h + 1) lo hi t) (a : Nat) (ha : a ≤ t.ps.length) (h1 : 1 ≤ t.ps.length) (_hk : Ok o h (o - 2) (2 * o) kid) :
    (o - 1 ≤ kid.ps.length ∧ fitT o t a kid = (kid, a, a + 1)) ∨
    (¬ o - 1 ≤ kid.ps.length ∧ ∃ a0 l p, a = a0 + 1 ∧ t.ks[a0]? = some l ∧ t.ps[a0]? = some p ∧ fitT o t a kid = (joinT l p kid, a0, a + 1)) ∨
    (¬ o - 1 ≤ kid.ps.length ∧ a = 0 ∧ ∃ r p, t.ks[a + 1]? = some r ∧ t.ps[a]? = some p ∧ fitT o t a kid = (joinT kid p r, 0, 2)) := by
  by_cases hf : o - 1 ≤ kid.ps.length
  · exact .inl ⟨hf, by unfold fitT; rw [if_pos hf]⟩
  · right
    have hkl := ht.2.1
    rcases Nat.eq_zero_or_pos a with rfl | hp
    · right
      obtain ⟨r, hr⟩ : ∃ r, t.ks[0 + 1]? = some r := ⟨t.ks[0 + 1]'(by omega), List.getElem?_eq_getElem _⟩
      obtain ⟨p, hp⟩ : ∃ p, t.ps[0]? = some p := ⟨t.ps[0]'(by omega), List.getElem?_eq_getElem _⟩
      refine ⟨hf, rfl, r, p, hr, hp, ?_⟩
      unfold fitT
      rw [if_neg hf, if_neg (by omega)]
      simp only [List.getD_eq_getElem?_getD, hr, hp, Option.getD_some]
    · left
      obtain ⟨a0, rfl⟩ : ∃ a0, a = a0 + 1 := ⟨a - 1, by omega⟩
      obtain ⟨l, hl⟩ : ∃ l, t.ks[a0]? = some l := ⟨t.ks[a0]'(by omega), List.getElem?_eq_getElem _⟩
      obtain ⟨p, hp⟩ : ∃ p, t.ps[a0]? = some p := ⟨t.ps[a0]'(by omega), List.getElem?_eq_getElem _⟩
      refine ⟨hf, a0, l, p, rfl, hl, hp, ?_⟩
      unfold fitT
      rw [if_neg hf, if_pos (by omega), Nat.add_sub_cancel]
      simp only [List.getD_eq_getElem?_getD, hl, hp, Option.getD_some]
theorem above_ok (ho : 2 ≤ o) (ht : Ok o (h + 1) lo hi t) (a : Nat) (ha : a ≤ t.ps.length) (h1 : 1 ≤ t.ps.length) (hk : Ok o h (o - 2) (2 * o) kid) :
    Ok o (h + 1) (t.ps.length - 1) (t.ps.length + 1) (aboveT o t a kid) := by
  have hkl := ht.2.1
  have fin : ∀ (J : T) (f e : Nat), fitT o t a kid = (J, f, e) → f + 1 ≤ e → e ≤ t.ps.length + 1 → e - 1 - f ≤ 1 → (∃ l1 h1, Ok o h l1 h1 J ∧ o - 1 ≤ J.ps.length ∧ J.ps.length ≤ 4 * o - 1) → Ok o (h + 1) (t.ps.length - 1) (t.ps.length + 1) (aboveT o t a kid) := by
    rintro J f e hf h2 h3 h4 ⟨l1, h1, hJ, h5, h6⟩
    obtain ⟨p1, p2, p3⟩ := parts_ok ho hJ h5 h6
    have eps : (aboveT o t a kid).ps = spl t.ps f (e - 1) (partsT o J).1 := by unfold aboveT; rw [hf]; rfl
    have eks : (aboveT o t a kid).ks = spl t.ks f e (partsT o J).2 := by unfold aboveT; rw [hf]; rfl
    have q1 := spl_len (l := t.ps) (o := (partsT o J).1) (a := f) (b := e - 1) (by omega) (by omega)
    have q2 := spl_len (l := t.ks) (o := (partsT o J).2) (a := f) (b := e) (by omega) (by omega)
    refine ⟨⟨by rw [eps]; omega, by rw [eps]; omega⟩, by rw [eps, eks]; omega, fun k hm => ?_⟩
    rw [eks] at hm
    rcases mem_spl hm with hm | hm
    · exact ht.2.2 k hm
    · exact p1 k hm
  have hkk := hk.len
  rcases fit_cases ho ht a ha h1 hk with ⟨hf, he⟩ | ⟨hf, a0, l, p, rfl, hl, hp, he⟩ | ⟨hf, rfl, r, p, hr, hp, he⟩
  · exact fin _ _ _ he (by omega) (by omega) (by omega) ⟨_, _, hk, hf, by omega⟩
  · have hlk := ht.2.2 l (List.mem_of_getElem? hl)
    have hj := join_ok p hlk hk
    have := hj.len
    have := hlk.len
    have e : (joinT l p kid).ps.length = l.ps.length + kid.ps.length + 1 := by show (l.ps ++ [p] ++ kid.ps).length = _; simp; omega
    exact fin _ _ _ he (by omega) (by omega) (by omega) ⟨_, _, hj, by omega, by omega⟩
  · have hlk := ht.2.2 r (List.mem_of_getElem? hr)
    have hj := join_ok p hk hlk
    have := hlk.len
    have e : (joinT kid p r).ps.length = kid.ps.length + r.ps.length + 1 := by show (kid.ps ++ [p] ++ r.ps).length = _; simp; omega
    exact fin _ _ _ he (by omega) (by omega) (by omega) ⟨_, _, hj, by omega, by omega⟩
end

/-! All pairs, in order. -/
def inter : List Pr → List (List Pr) → List Pr
  | ps, [] => ps
  | [], k :: ks => k ++ inter [] ks
  | p :: ps, k :: ks => k ++ p :: inter ps ks
/-- What stands behind a child. -/
def tl : List Pr → List (List Pr) → List Pr
  | [], ks => inter [] ks
  | p :: ps, ks => p :: inter ps ks
/-- What stands ahead of a child. -/
def pre : List Pr → List (List Pr) → List Pr
  | p :: ps, k :: ks => k ++ p :: pre ps ks
  | _, _ => []
def flat : Nat → T → List Pr
  | 0, t => t.ps
  | h + 1, t => inter t.ps (t.ks.map (flat h))
theorem inter_cons (ps : List Pr) (k : List Pr) (ks : List (List Pr)) : inter ps (k :: ks) = k ++ tl ps ks := by cases ps <;> rfl
theorem inter_app : ∀ (ps1 : List Pr) (ks1 : List (List Pr)) (ps2 : List Pr) (ks2 : List (List Pr)), ps1.length = ks1.length → inter (ps1 ++ ps2) (ks1 ++ ks2) = pre ps1 ks1 ++ inter ps2 ks2
  | [], [], _, _, _ => rfl
  | p :: ps1, k :: ks1, ps2, ks2, h => by
    show k ++ p :: inter (ps1 ++ ps2) (ks1 ++ ks2) = (k ++ p :: pre ps1 ks1) ++ inter ps2 ks2
    rw [inter_app ps1 ks1 ps2 ks2 (by simpa using h)]; simp
  | [], _ :: _, _, _, h => by simp at h
  | _ :: _, [], _, _, h => by simp at h
theorem pre_app : ∀ (ps1 : List Pr) (ks1 : List (List Pr)) (ps2 : List Pr) (ks2 : List (List Pr)), ps1.length = ks1.length → pre (ps1 ++ ps2) (ks1 ++ ks2) = pre ps1 ks1 ++ pre ps2 ks2
  | [], [], _, _, _ => rfl
  | p :: ps1, k :: ks1, ps2, ks2, h => by
    show k ++ p :: pre (ps1 ++ ps2) (ks1 ++ ks2) = (k ++ p :: pre ps1 ks1) ++ pre ps2 ks2
    rw [pre_app ps1 ks1 ps2 ks2 (by simpa using h)]; simp
  | [], _ :: _, _, _, h => by simp at h
  | _ :: _, [], _, _, h => by simp at h
theorem inter_app1 : ∀ (ps1 : List Pr) (ks1 : List (List Pr)) (ps2 : List Pr) (ks2 : List (List Pr)), ks1.length = ps1.length + 1 → inter (ps1 ++ ps2) (ks1 ++ ks2) = inter ps1 ks1 ++ tl ps2 ks2
  | [], [k], ps2, ks2, _ => by
    show inter ps2 (k :: ks2) = (k ++ []) ++ tl ps2 ks2
    rw [inter_cons, List.append_nil]
  | p :: ps1, k :: ks1, ps2, ks2, h => by
    show k ++ p :: inter (ps1 ++ ps2) (ks1 ++ ks2) = (k ++ p :: inter ps1 ks1) ++ tl ps2 ks2
    rw [inter_app1 ps1 ks1 ps2 ks2 (by simpa using h)]; simp
  | [], [], _, _, h => by simp at h
  | [], _ :: _ :: _, _, _, h => by simp at h
  | _ :: _, [], _, _, h => by simp at h
theorem inter_spl {ps bs : List Pr} {ks cs : List (List Pr)} {f g e : Nat} (h1 : f ≤ ps.length) (h2 : f ≤ ks.length) (hc : cs.length = bs.length + 1) :
    inter (spl ps f g bs) (spl ks f e cs) = pre (ps.take f) (ks.take f) ++ inter bs cs ++ tl (ps.drop g) (ks.drop e) := by
  unfold spl
  rw [List.append_assoc, List.append_assoc, inter_app _ _ _ _ (by rw [List.length_take, List.length_take]; omega), inter_app1 _ _ _ _ hc, List.append_assoc]
theorem map_spl {α β : Type} (f : α → β) (l o : List α) (a b : Nat) : (spl l a b o).map f = spl (l.map f) a b (o.map f) := by unfold spl; simp
/-- Ahead of a child, and behind it. -/
def LL (h : Nat) (t : T) (a : Nat) : List Pr := pre (t.ps.take a) ((t.ks.take a).map (flat h))
def RR (h : Nat) (t : T) (a : Nat) : List Pr := tl (t.ps.drop a) ((t.ks.drop (a + 1)).map (flat h))
section
variable {o h lo hi : Nat} {t l r kid : T}
theorem flat_at {a : Nat} {k : T} (ha : a ≤ t.ps.length) (hk : t.ks[a]? = some k) : flat (h + 1) t = LL h t a ++ flat h k ++ RR h t a := by
  have hl := (List.getElem?_eq_some_iff.1 hk).1
  have e : t.ks.drop a = k :: t.ks.drop (a + 1) := by
    rw [List.drop_eq_getElem_cons hl]; congr 1; exact (List.getElem?_eq_some_iff.1 hk).2
  show inter t.ps (t.ks.map (flat h)) = _
  conv => lhs; rw [← List.take_append_drop a t.ps, ← List.take_append_drop a t.ks, List.map_append, inter_app _ _ _ _ (by simp; omega), e, List.map_cons, inter_cons]
  unfold LL RR
  rw [List.append_assoc]
theorem join_flat (p : Pr) (hl : Ok o h lo hi l) : flat h (joinT l p r) = flat h l ++ p :: flat h r := by
  cases h with
  | zero => show l.ps ++ [p] ++ r.ps = l.ps ++ p :: r.ps; simp
  | succ h =>
    show inter (l.ps ++ [p] ++ r.ps) ((l.ks ++ r.ks).map (flat h)) = inter l.ps (l.ks.map (flat h)) ++ p :: inter r.ps (r.ks.map (flat h))
    rw [List.append_assoc, List.map_append, inter_app1 _ _ _ _ (by rw [List.length_map]; exact hl.2.1)]
    rfl
theorem parts_flat (_ho : 2 ≤ o) (ht : Ok o h lo hi t) : inter (partsT o t).1 ((partsT o t).2.map (flat h)) = flat h t := by
  unfold partsT
  split
  · show flat h t ++ [] = _; simp
  · rename_i hgt
    obtain ⟨m, hm⟩ : ∃ m, m = t.ps.length / 2 := ⟨_, rfl⟩
    rw [← hm]
    have hml : m < t.ps.length := by omega
    obtain ⟨p, hp⟩ : ∃ p, t.ps[m]? = some p := ⟨t.ps[m], List.getElem?_eq_getElem _⟩
    have ed : t.ps.drop m = p :: t.ps.drop (m + 1) := by
      rw [List.drop_eq_getElem_cons hml]; congr 1; exact (List.getElem?_eq_some_iff.1 hp).2
    have e1 : (t.ps.drop m).take 1 = [p] := by rw [ed]; rfl
    simp only [e1]
    show flat h (partT t 0 m) ++ p :: (flat h (partT t (m + 1) t.ps.length) ++ []) = _
    rw [List.append_nil]
    have et : (t.ps.drop (m + 1)).take (t.ps.length - (m + 1)) = t.ps.drop (m + 1) := List.take_of_length_le (by rw [List.length_drop]; exact Nat.le_refl _)
    cases h with
    | zero =>
      show (t.ps.drop 0).take (m - 0) ++ p :: (t.ps.drop (m + 1)).take (t.ps.length - (m + 1)) = t.ps
      rw [et, List.drop_zero, Nat.sub_zero, ← ed, List.take_append_drop]
    | succ h =>
      have hne : ¬ t.ks = [] := fun e => by have := ht.2.1; rw [e] at this; simp at this
      have k1 : (partT t 0 m).ks = t.ks.take (m + 1) := by show (if t.ks = [] then [] else (t.ks.drop 0).take (m + 1 - 0)) = _; rw [if_neg hne, List.drop_zero, Nat.sub_zero]
      have k2 : (partT t (m + 1) t.ps.length).ks = t.ks.drop (m + 1) := by
        show (if t.ks = [] then [] else (t.ks.drop (m + 1)).take (t.ps.length + 1 - (m + 1))) = _
        rw [if_neg hne]; exact List.take_of_length_le (by rw [List.length_drop, ht.2.1]; omega)
      show inter ((t.ps.drop 0).take (m - 0)) ((partT t 0 m).ks.map (flat h)) ++ p :: inter ((t.ps.drop (m + 1)).take (t.ps.length - (m + 1))) ((partT t (m + 1) t.ps.length).ks.map (flat h)) = inter t.ps (t.ks.map (flat h))
      rw [et, List.drop_zero, Nat.sub_zero, k1, k2]
      conv => rhs; rw [← List.take_append_drop m t.ps, ← List.take_append_drop (m + 1) t.ks, List.map_append, inter_app1 _ _ _ _ (by simp [ht.2.1]), ed]
      rfl
theorem above_flat (ho : 2 ≤ o) (ht : Ok o (h + 1) lo hi t) (a : Nat) (ha : a ≤ t.ps.length) (h1 : 1 ≤ t.ps.length) (hk : Ok o h (o - 2) (2 * o) kid) :
    flat (h + 1) (aboveT o t a kid) = LL h t a ++ flat h kid ++ RR h t a := by
  have hkl := ht.2.1
  have hkk := hk.len
  have fin : ∀ (J : T) (f e : Nat), fitT o t a kid = (J, f, e) → f ≤ t.ps.length → (∃ l1 h1, Ok o h l1 h1 J ∧ o - 1 ≤ J.ps.length ∧ J.ps.length ≤ 4 * o - 1) →
      flat (h + 1) (aboveT o t a kid) = LL h t f ++ flat h J ++ tl (t.ps.drop (e - 1)) ((t.ks.drop e).map (flat h)) := by
    rintro J f e hf h2 ⟨l1, h1, hJ, h5, h6⟩
    have eps : (aboveT o t a kid).ps = spl t.ps f (e - 1) (partsT o J).1 := by unfold aboveT; rw [hf]; rfl
    have eks : (aboveT o t a kid).ks = spl t.ks f e (partsT o J).2 := by unfold aboveT; rw [hf]; rfl
    show inter (aboveT o t a kid).ps ((aboveT o t a kid).ks.map (flat h)) = _
    rw [eps, eks, map_spl, inter_spl (by omega) (by rw [List.length_map]; omega) (by rw [List.length_map]; exact (parts_ok ho hJ h5 h6).2.1), parts_flat ho hJ]
    unfold LL
    rw [List.map_take, List.map_drop]
  rcases fit_cases ho ht a ha h1 hk with ⟨hf, he⟩ | ⟨hf, a0, l, p, rfl, hl, hp, he⟩ | ⟨hf, rfl, r, p, hr, hp, he⟩
  · rw [fin _ _ _ he ha ⟨_, _, hk, hf, by omega⟩]
    rfl
  · have hlk := ht.2.2 l (List.mem_of_getElem? hl)
    have hj := join_ok p hlk hk
    have := hlk.len
    have e : (joinT l p kid).ps.length = l.ps.length + kid.ps.length + 1 := by show (l.ps ++ [p] ++ kid.ps).length = _; simp; omega
    rw [fin _ _ _ he (by omega) ⟨_, _, hj, by omega, by omega⟩, join_flat p hlk]
    have hL : LL h t (a0 + 1) = LL h t a0 ++ (flat h l ++ [p]) := by
      unfold LL
      have e1 : t.ps.take (a0 + 1) = t.ps.take a0 ++ [p] := by rw [List.take_add_one, hp]; rfl
      have e2 : t.ks.take (a0 + 1) = t.ks.take a0 ++ [l] := by rw [List.take_add_one, hl]; rfl
      rw [e1, e2, List.map_append, pre_app _ _ _ _ (by simp; omega)]
      rfl
    rw [hL]
    unfold RR
    simp
  · have hlk := ht.2.2 r (List.mem_of_getElem? hr)
    have hj := join_ok p hk hlk
    have := hlk.len
    have e : (joinT kid p r).ps.length = kid.ps.length + r.ps.length + 1 := by show (kid.ps ++ [p] ++ r.ps).length = _; simp; omega
    rw [fin _ _ _ he (by omega) ⟨_, _, hj, by omega, by omega⟩, join_flat p hk]
    have hlp := (List.getElem?_eq_some_iff.1 hp).1
    have hlr := (List.getElem?_eq_some_iff.1 hr).1
    have hR : RR h t 0 = p :: (flat h r ++ tl (t.ps.drop 1) ((t.ks.drop 2).map (flat h))) := by
      unfold RR
      have e1 : t.ps.drop 0 = p :: t.ps.drop 1 := by rw [List.drop_eq_getElem_cons hlp]; congr 1; exact (List.getElem?_eq_some_iff.1 hp).2
      have e2 : t.ks.drop (0 + 1) = r :: t.ks.drop 2 := by rw [List.drop_eq_getElem_cons hlr]; congr 1; exact (List.getElem?_eq_some_iff.1 hr).2
      rw [e1, e2, List.map_cons]
      show p :: inter (t.ps.drop 1) (flat h r :: _) = _
      rw [inter_cons]
    rw [hR]
    simp
end
end Go.Proofs.YtlnagdodnkhbmaaGreat

namespace Go.Proofs.YtlnagdodnkhbmaaGreat
open Go.RowKit Go.Shelf
set_option maxRecDepth 100000
attribute [local go_sem] Oper.semAt_some

/-- above, whichever way it goes. -/
theorem above_any (w : World) (P : Bl) (h p o g a gk : Nat) (t kid : T) {lo hi : Nat} (hc : w.cell? ⟨p, 0, none⟩ = some (.int .i64 (o : Nat))) (h2 : 2 ≤ o) (h16 : o ≤ 16) (hn : NodeAt P w (h + 1) g t) (hkn : NodeAt P w h gk kid) (hu : Under P w)
    (ht : Ok o (h + 1) lo hi t) (hhi : hi ≤ 31) (ha : a ≤ t.ps.length) (h1 : 1 ≤ t.ps.length) (hk : Ok o h (o - 2) (2 * o) kid) :
    Calls Tryz.prog 138 #[.pointer (some ⟨p, 0, none⟩), .agg #[.pointer (some ⟨g, 0, none⟩), .int .i64 (a : Int)], .pointer (some ⟨gk, 0, none⟩)] w fun e w' =>
      ∃ g', e = .returned (.pointer (some ⟨g', 0, none⟩)) ∧ Below w.heap.size w w' ∧ NodeAt (New P w w') w' (h + 1) g' (aboveT o t a kid) := by
  have htl := ht.len
  have hkl := hk.len
  have hok : AboveOk t a kid := by
    refine ⟨ha, ht.2.1, h1, by omega, by omega, fun k hm => by have := (ht.2.2 k hm).len; omega, ?_⟩
    cases h with
    | zero => exact .inl ⟨hk.2, fun k hm => (ht.2.2 k hm).2⟩
    | succ h => exact .inr ⟨hk.2.1, fun k hm => (ht.2.2 k hm).2.1⟩
  rcases fit_cases h2 ht a ha h1 hk with ⟨hf, _⟩ | ⟨hf, a0, l, pr, he, hl, hp, _⟩ | ⟨hf, he, r, pr, hr, hp, _⟩
  · exact above_fits w P h p o g a gk t kid hc h2 h16 hn hkn hu hok hf
  · exact above_left w P h p o g a gk t kid hc h2 h16 hn hkn hu hok hf a0 he l pr hl hp
  · exact above_right w P h p o g a gk t kid hc h2 h16 hn hkn hu hok hf he r pr hr hp

/-- The tree's own block. -/
def TreeC (w : World) (p : Nat) (o n g : Nat) : Prop := w.heap[p]? = some (.cells #[.int .i64 (o : Int), .int .i64 (n : Int), .pointer (some ⟨g, 0, none⟩)] 157 (0, 0))
section
variable {w w' : World} {p o n g : Nat}
theorem TreeC.lt (h : TreeC w p o n g) : p < w.heap.size := (Array.getElem?_eq_some_iff.1 h).1
theorem TreeC.c0 (h : TreeC w p o n g) : w.cell? ⟨p, 0, none⟩ = some (.int .i64 (o : Int)) := cell_of_row w p 0 _ _ _ h
theorem TreeC.c1 (h : TreeC w p o n g) : w.cell? ⟨p, 0 + 1, none⟩ = some (.int .i64 (n : Int)) := cell_of_row w p 1 _ _ _ h
theorem TreeC.c2 (h : TreeC w p o n g) : w.cell? ⟨p, 0 + 2, none⟩ = some (.pointer (some ⟨g, 0, none⟩)) := cell_of_row w p 2 _ _ _ h
theorem TreeC.c2' (h : TreeC w p o n g) : w.cell? ⟨p, 2, none⟩ = some (.pointer (some ⟨g, 0, none⟩)) := h.c2
theorem TreeC.c1' (h : TreeC w p o n g) : w.cell? ⟨p, 1, none⟩ = some (.int .i64 (n : Int)) := h.c1
theorem TreeC.alloc (h : TreeC w p o n g) (b : Obj) : TreeC (w.alloc b) p o n g := (Below.heap_alloc w b p (Array.getElem?_eq_some_iff.1 h).1).trans h
theorem TreeC.f (h : TreeC w p o n g) (i : Nat) : w.frozen? ⟨p, i, none⟩ = false := by unfold TreeC at h; simp [World.frozen?, h]
theorem TreeC.keep (h : TreeC w p o n g) (hk : w'.heap[p]? = w.heap[p]?) : TreeC w' p o n g := hk.trans h
theorem TreeC.root (h : TreeC w p o n g) (g' : Nat) : TreeC (w.setCell ⟨p, 2, none⟩ (.pointer (some ⟨g', 0, none⟩))) p o n g' := by
  unfold TreeC at h ⊢
  simp [World.setCell, Array.getElem?_modify, h]
theorem TreeC.count (h : TreeC w p o n g) (n' : Nat) : TreeC (w.setCell ⟨p, 1, none⟩ (.int .i64 (n' : Int))) p o n' g := by
  unfold TreeC at h ⊢
  simp [World.setCell, Array.getElem?_modify, h]
end

/-- Each node has one more children than keys, but at the bottom. -/
def Full : Nat → T → Prop
  | 0, t => t.ks = []
  | h + 1, t => t.ks.length = t.ps.length + 1 ∧ ∀ k ∈ t.ks, Full h k
theorem Ok.full {o : Nat} : ∀ {h lo hi : Nat} {t : T}, Ok o h lo hi t → Full h t
  | 0, _, _, _, ht => ht.2
  | _ + 1, _, _, _, ht => ⟨ht.2.1, fun k hk => Ok.full (ht.2.2 k hk)⟩
/-- How many levels lie below a node, read off the memory. -/
def lefts : Nat → World → Nat → Nat
  | 0, _, _ => 0
  | f + 1, w, g => match w.cell? ⟨g, 1, none⟩ with
    | some (.slice (some ad) (_ + 1) _) => match w.cell? ad with
      | some (.pointer (some a)) => lefts f w a.block + 1
      | _ => 0
    | _ => 0
theorem lefts_eq {P : Bl} {w : World} : ∀ (h f g : Nat) (t : T), NodeAt P w h g t → Full h t → h ≤ f → lefts f w g = h
  | 0, f, g, t, hn, hf, _ => by
    obtain ⟨vp, vk, gs, hh, hs⟩ := hn
    have hc := hh.c1
    obtain ⟨B, cb, rfl⟩ := hh.kids.slice
    have h0 : gs.length = 0 := by rw [hs.1, show t.ks = [] from hf]; rfl
    rw [h0] at hc
    cases f with
    | zero => rfl
    | succ f => simp [lefts, hc]
  | h + 1, f, g, t, hn, hf, hle => by
    obtain ⟨vp, vk, gs, hh, hs⟩ := hn
    have hc := hh.c1
    obtain ⟨B, cb, rfl⟩ := hh.kids.slice
    obtain ⟨f, rfl⟩ : ∃ f', f = f' + 1 := ⟨f - 1, by omega⟩
    obtain ⟨k, hk⟩ : ∃ k, t.ks[0]? = some k := ⟨t.ks[0]'(by have := hf.1; omega), List.getElem?_eq_getElem _⟩
    obtain ⟨g0, hg0, hn0⟩ := hs.at_ hk
    obtain ⟨ad, rfl, hc0⟩ := hh.kids.kcell hg0
    rw [add_zero'] at hc0
    have hl : gs.length = t.ps.length + 1 := by rw [hs.1]; exact hf.1
    rw [hl] at hc
    simp only [lefts, hc, hc0]
    rw [lefts_eq h f g0 k hn0 (hf.2 k (List.mem_of_getElem? hk)) (by omega)]
/-- Levels without keys fall away. -/
def collT : Nat → T → Nat × T
  | 0, t => (0, t)
  | h + 1, t => if t.ps = [] then (match t.ks with | k :: _ => collT h k | [] => (h + 1, t)) else (h + 1, t)
def upT (o : Nat) (path : List (T × Nat)) (kid : T) : T := path.foldr (fun x k => aboveT o x.1 x.2 k) kid
def rootT (o H : Nat) (u : T) : Nat × T := collT (H + 1) (.nd (partsT o u).1 (partsT o u).2)

/-- The nodes of a way, in memory, and as they must be; the first one is the root. -/
structure PathAt (P : Bl) (w : World) (o H : Nat) (ss : List (Nat × Nat)) (path : List (T × Nat)) : Prop where
  len : ss.length = path.length
  deep : ss.length ≤ H
  node : ∀ (j : Nat) (s : Nat × Nat) (x : T × Nat), ss[j]? = some s → path[j]? = some x → s.2 = x.2 ∧ NodeAt P w (H - j) s.1 x.1 ∧ x.2 ≤ x.1.ps.length ∧ Ok o (H - j) (if j = 0 then 1 else o - 1) (2 * o - 1) x.1
theorem PathAt.keep {P : Bl} {w w' : World} {o H : Nat} {ss : List (Nat × Nat)} {path : List (T × Nat)} (h : PathAt P w o H ss path) (hk : ∀ b, P b → w'.heap[b]? = w.heap[b]?) : PathAt P w' o H ss path :=
  ⟨h.len, h.deep, fun j s x h1 h2 => by obtain ⟨q1, q2, q3, q4⟩ := h.node j s x h1 h2; exact ⟨q1, NodeAt.keep hk q2, q3, q4⟩⟩
theorem up_ok {P : Bl} {w : World} {o H : Nat} {ss : List (Nat × Nat)} {path : List (T × Nat)} {kid : T} (ho : 2 ≤ o) (hp : PathAt P w o H ss path) (hk : Ok o (H - ss.length) (if ss.length = 0 then 0 else o - 2) (2 * o) kid) :
    ∀ k, k ≤ ss.length → Ok o (H - ss.length + k) (if k = ss.length then 0 else o - 2) (2 * o) (upT o (path.drop (ss.length - k)) kid)
  | 0, _ => by
    rw [Nat.sub_zero, hp.len, List.drop_length]
    have := hk
    rw [hp.len] at this
    refine this.to_ ?_ this.len.2
    have h1 := this.len.1
    by_cases h0 : path.length = 0
    · rw [if_pos h0.symm]; exact Nat.zero_le _
    · rw [if_neg h0] at h1
      rw [if_neg (fun e => h0 e.symm)]; exact h1
  | k + 1, hle => by
    have ih := up_ok ho hp hk k (by omega)
    rw [if_neg (by omega)] at ih
    have hd := hp.deep
    have hl := hp.len
    obtain ⟨x, hx⟩ : ∃ x, path[ss.length - (k + 1)]? = some x := ⟨path[ss.length - (k + 1)]'(by omega), List.getElem?_eq_getElem _⟩
    obtain ⟨s, hs⟩ : ∃ s, ss[ss.length - (k + 1)]? = some s := ⟨ss[ss.length - (k + 1)]'(by omega), List.getElem?_eq_getElem _⟩
    obtain ⟨_, _, q3, q4⟩ := hp.node _ s x hs hx
    have e : path.drop (ss.length - (k + 1)) = x :: path.drop (ss.length - k) := by
      have hlt := (List.getElem?_eq_some_iff.1 hx).1
      rw [List.drop_eq_getElem_cons hlt, (List.getElem?_eq_some_iff.1 hx).2]
      congr 2; omega
    have eu : upT o (path.drop (ss.length - (k + 1))) kid = aboveT o x.1 x.2 (upT o (path.drop (ss.length - k)) kid) := by rw [e]; rfl
    rw [eu]
    have eh : H - (ss.length - (k + 1)) = H - ss.length + k + 1 := by omega
    rw [eh] at q4
    have hlen := q4.len
    have h1 : 1 ≤ x.1.ps.length := by have := hlen.1; split at this <;> omega
    have := above_ok ho q4 x.2 q3 h1 ih
    rw [show H - ss.length + (k + 1) = H - ss.length + k + 1 by omega]
    refine this.to_ ?_ (by have := this.len; omega)
    have hb := this.len
    split
    · omega
    · have : ¬ ss.length - (k + 1) = 0 := by omega
      rw [if_neg this] at hlen
      omega
theorem up_step {o : Nat} {path : List (T × Nat)} {kid : T} {j : Nat} {x : T × Nat} (hx : path[j]? = some x) : upT o (path.drop j) kid = aboveT o x.1 x.2 (upT o (path.drop (j + 1)) kid) := by
  have hlt := (List.getElem?_eq_some_iff.1 hx).1
  rw [List.drop_eq_getElem_cons hlt, (List.getElem?_eq_some_iff.1 hx).2]
  rfl
end Go.Proofs.YtlnagdodnkhbmaaGreat

