/- Changes: a change's cells; join, change, pointer. -/
import Derived.Test.YtlnagdodnkhbmaaS5
namespace Go.Proofs.Ytlnagdodnkhbmaa
open Go.RowKit

/-- A change: column, value, whether it comes in. -/
abbrev Cg := Nat × Int × Bool
def cC (key : ByteArray) (c : Cg) : List Value := [.int .i64 (c.1 : Int), .int .i64 c.2.1, .string key, .bool c.2.2]
theorem cC_len (key : ByteArray) (c : Cg) : (cC key c).length = 4 := rfl
theorem cC_one (key : ByteArray) (c : Cg) : ∀ y ∈ cC key c, y.oneCell' = true := by
  intro y hy
  simp [cC] at hy
  rcases hy with rfl | rfl | rfl | rfl <;> rfl
theorem cinfo : (Try.prog.info? 113).map (fun i => (i.zero, i.size, i.bytes)) = some (some (.agg #[.int .i64 0, .int .i64 0, .string ⟨#[]⟩, .bool false]), 4, 40) := by kernel_rfl

def J1 (key : ByteArray) (W : World) (l : List Cg) (g : Nat) (p1 p2 : Value) (l2 : List Cg) (v : Value) (w : World) : Prop :=
  OwnElems 4 (cC key) 113 w W.heap.size v l ∧ Below W.heap.size W w ∧ w.heap[g]? = some (.cells #[p1, p2] 107 (0, 0)) ∧ Elems 4 (cC key) w p2 l2 ∧ (∀ b ∈ ownFoot p2, b ∉ ownFoot v ∧ b < w.heap.size)
def J2 (key : ByteArray) (W : World) (l : List Cg) (v : Value) (w : World) : Prop :=
  OwnElems 4 (cC key) 113 w W.heap.size v l ∧ Below W.heap.size W w

theorem OwnElems.ne_ {α : Type} {c : α → List Value} {sz : Nat} {e : TypeId} {w : World} {base : Nat} {v : Value} {l : List α} (h : OwnElems sz c e w base v l) {g : Nat} {cs : Array Value} {t : TypeId} {fz : Nat × Nat} (hg : w.heap[g]? = some (.cells cs t fz)) (hne : e ≠ t) : g ∉ ownFoot v := by
  intro hm
  rcases h.2 with ⟨rfl, _⟩ | ⟨g', cap, cur, rfl, hb, hh, r⟩
  · simp [ownFoot, Value.ownBlock] at hm
  · simp [ownFoot, Value.ownBlock] at hm
    subst hm
    rw [hg] at hh
    injection hh with hh
    injection hh with _ ht
    exact hne ht.symm

/-- What an append onto such a row leaves of what lies elsewhere. -/
theorem j_step {key : ByteArray} {W w w' : World} {l l' : List Cg} {v v' : Value} (hO : OwnElems 4 (cC key) 113 w W.heap.size v l) (hB : Below W.heap.size W w)
    (hO' : OwnElems 4 (cC key) 113 w' W.heap.size v' (l ++ l')) (hg : w.grownBy w' v.ownBlock) : J2 key W (l ++ l') v' w' :=
  ⟨hO', hB.grown hg hB.size fun k hk => (hO.lt k (mem_ownFoot.2 hk)).1⟩

set_option maxRecDepth 100000 in
theorem join_two (key : ByteArray) (W w : World) (v : Value) (l l1 l2 : List Cg) (g : Nat) (p1 p2 : Value) (hO : OwnElems 4 (cC key) 113 w W.heap.size v l) (hB : Below W.heap.size W w)
    (hg : w.heap[g]? = some (.cells #[p1, p2] 107 (0, 0))) (h1 : Elems 4 (cC key) w p1 l1) (h2 : Elems 4 (cC key) w p2 l2)
    (ha2 : ∀ b ∈ ownFoot p2, b ∉ ownFoot v ∧ b < w.heap.size) (hl : l.length + l1.length + l2.length ≤ 100) :
    Calls Try.prog 70 #[v, .slice (some ⟨g, 0, none⟩) 2 2] w fun e w' => ∃ u, e = .returned u ∧ J2 key W ((l ++ l1) ++ l2) u w' := by
  obtain ⟨i0, hi, hz0, hz1, hz2⟩ := info_parts cinfo
  have HO := hid hO
  have HB := hid hB
  have HG := hid hg
  have H1 := hid h1
  have H2 := hid h2
  have HA2 := hid ha2
  obtain ⟨A1, n1, c1, rfl⟩ := h1.form
  obtain ⟨A2, n2, c2, rfl⟩ := h2.form
  obtain ⟨Av, nv, cv, rfl⟩ := hO.rows.form
  clear hO hB hg h1 h2 ha2
  go_enter Try.func70, Try.ntmps70
  go_wp2
  go_loopw [0, 9] (fun x i wr => (i = .int .i64 0 ∧ x = .slice Av nv cv ∧ wr = w) ∨ (i = .int .i64 1 ∧ J1 key W (l ++ l1) g (.slice A1 n1 c1) (.slice A2 n2 c2) l2 x wr) ∨ (i = .int .i64 2 ∧ J2 key W ((l ++ l1) ++ l2) x wr)) (fun _ i _ => 2 - (intOf i).toNat)
  case atStart => exact .inl ⟨rfl, rfl, rfl⟩
  case round =>
    rcases hrel with ⟨rfl, rfl, rfl⟩ | ⟨rfl, hO1, hB1, hg1, h21, ha1⟩ | ⟨rfl, hO1, hB1⟩
    · have q0 := cell_of_row _ g 0 _ _ _ HG.out
      go_wp2_with (at_builtin; refine wpList_append_rows _ rfl (.tmp 13) (.tmp 14) 107 rfl W.heap.size 113 i0 _ 4 40 Try.underlying107 hi hz0 hz1 hz2 rfl (by omega) (cC_one key) (.slice Av nv cv) l rfl HO.out (.slice A1 n1 c1) l1 rfl H1.out (by unfold maxLen; omega) (by omega) HB.out.size ?_; intro v' w1 hown1 hgrow1 hf1; have HST := hid (j_step HO.out HB.out hown1 hgrow1); have HGG := hid (And.intro hgrow1 hf1); clear hown1 hgrow1 hf1)
      go_roundw
      case rel =>
        obtain ⟨hgr, hf⟩ := HGG.out
        refine .inr (.inl ⟨rfl, HST.out.1, HST.out.2, ?_, ?_, ?_⟩)
        · rw [hgr.block g (Array.getElem?_eq_some_iff.1 HG.out).1 fun e => HO.out.ne_ HG.out (by decide) (mem_ownFoot.2 e.symm)]
          exact HG.out
        · exact H2.out.keep fun b hb => hgr.block b (HA2.out b hb).2 fun e => (HA2.out b hb).1 (mem_ownFoot.2 e.symm)
        · intro b hb
          obtain ⟨h1, h2⟩ := HA2.out b hb
          refine ⟨fun hm => ?_, Nat.lt_of_lt_of_le h2 hgr.size⟩
          rcases hf b hm with h | h
          · exact h1 h
          · omega
      case measure => simp [intOf]
    · obtain ⟨Aw, nw, cw, rfl⟩ := hO1.rows.form
      have q1 := cell_of_row _ g 1 _ _ _ hg1
      have HO1 := hid hO1
      have HB1 := hid hB1
      have H21 := hid h21
      clear hO1 hB1 hg1 h21 ha1
      go_wp2_with (at_builtin; refine wpList_append_rows _ rfl (.tmp 13) (.tmp 14) 107 rfl W.heap.size 113 i0 _ 4 40 Try.underlying107 hi hz0 hz1 hz2 rfl (by omega) (cC_one key) (.slice Aw nw cw) (l ++ l1) rfl HO1.out (.slice A2 n2 c2) l2 rfl H21.out (by unfold maxLen; simp; omega) (by simp; omega) HB1.out.size ?_; intro v' w1 hown1 hgrow1 hf1; have HST := hid (j_step HO1.out HB1.out hown1 hgrow1); clear hown1 hgrow1 hf1)
      go_roundw
      case rel => exact .inr (.inr ⟨rfl, HST.out⟩)
      case measure => simp [intOf]
    · have HJ := hid (show J2 key W ((l ++ l1) ++ l2) _ _ from ⟨hO1, hB1⟩)
      clear hO1 hB1
      go_wp2
      go_ret
      exact ⟨_, rfl, HJ.out⟩

/-- A row that a pointer tells, or none. -/
def PRow (w : World) (p : Value) : Option Ro → Prop
  | none => p = .pointer none
  | some r => ∃ g o, p = .pointer (some ⟨g, o, none⟩) ∧ ∀ k x, r.l[k]? = some x → w.cell? ⟨g, o + k, none⟩ = some (.int .i64 x)
theorem PRow.below {w w' : World} {p : Value} {o : Option Ro} (h : PRow w p o) (hb : Below w.heap.size w w') : PRow w' p o := by
  cases o with
  | none => exact h
  | some r =>
    obtain ⟨g, o, hp, hc⟩ := h
    exact ⟨g, o, hp, fun k x hx => below_keep hb _ _ (hc k x hx)⟩

def one (o : Option Ro) (k : Nat) (a : Bool) : List Cg :=
  match o with
  | none => []
  | some r => match r.l[k]? with
    | none => []
    | some x => [(k, x, a)]
/-- What change leaves: a slice of at most one change, in memory of its own. -/
def Ones (key : ByteArray) (w : World) (l : List Cg) (e : Ending) (w' : World) : Prop :=
  ∃ u, e = .returned u ∧ Elems 4 (cC key) w' u l ∧ Below w.heap.size w w' ∧ ∀ b ∈ ownFoot u, w.heap.size ≤ b ∧ b < w'.heap.size
set_option maxRecDepth 100000 in
theorem change_any (w : World) (key : ByteArray) (p : Value) (o : Option Ro) (k : Nat) (a : Bool) (hp : PRow w p o) (hk : k < 4) :
    Calls Try.prog 71 #[.string key, p, .int .i64 (k : Int), .bool a] w (Ones key w (one o k a)) := by
  cases o with
  | none =>
    subst hp
    go_enter Try.func71, Try.ntmps71
    go_wp2
    go_ret
    exact ⟨_, rfl, Elems.nil _ _ _, Below.refl _ _, by simp [ownFoot, Value.ownBlock]⟩
  | some r =>
    obtain ⟨g, o, rfl, hc⟩ := hp
    obtain ⟨x, hx⟩ := r.at_ hk
    have hcell := hc k x hx
    have h4 : (k : Int) < 4 := by omega
    have e : one (some r) k a = [(k, x, a)] := by unfold one; dsimp only; rw [hx]
    rw [e]
    have HE := hid (rows_new w 4 (cC key) (cC_len key) (k, x, a) 113)
    clear hc hx e
    go_enter Try.func71, Try.ntmps71
    go_wp2
    go_ret
    exact ⟨_, rfl, HE.out, (Below.refl _ _).alloc (Nat.le_refl _) _, by simp [ownFoot, Value.ownBlock]⟩
end Go.Proofs.Ytlnagdodnkhbmaa

