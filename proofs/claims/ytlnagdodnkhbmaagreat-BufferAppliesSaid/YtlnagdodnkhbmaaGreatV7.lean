/- A buffer: what Writes sorts, and hands over. -/
import Derived.Test.YtlnagdodnkhbmaaGreatV6
import Derived.Test.YtlnagdodnkhbmaaGreatShelf
import Derived.Shelf.SlSortCmp.NoneTotal
namespace Go.Proofs.YtlnagdodnkhbmaaGreat
open Go.RowKit Go.Maps Go.WideMaps Go.Shelf
set_option maxRecDepth 100000
attribute [local go_sem] Oper.semAt_some

theorem copied_any (w : World) (c : Nat) (v : Option Ro) (h : PtrIs w c v) : Calls Tryz.prog 62 #[ptrC c] w fun e w' => ∃ c', e = .returned (ptrC c') ∧ PtrIs w' c' v ∧ Below w.heap.size w w' ∧ ∀ g, c' = g + 1 → w.heap.size ≤ g := by
  cases v with
  | none =>
    obtain rfl := h.zero
    unfold ptrC
    clear h
    go_enter Tryz.func62, Tryz.ntmps62
    go_wp2
    go_ret
    exact ⟨0, rfl, rfl, Below.refl _ _, fun g e => by omega⟩
  | some r =>
    obtain ⟨g, rfl, hl⟩ := h.row
    obtain ⟨y0, y1, y2, y3⟩ := hl.four
    unfold ptrC
    clear h hl
    go_enter Tryz.func62, Tryz.ntmps62
    go_wp2
    go_ret
    exact ⟨w.heap.size + 1, rfl, ⟨r, rfl, Lies.new w r⟩, (Below.refl _ _).alloc (Nat.le_refl _) _, fun g e => by omega⟩
/-- A write as it lies in a slice: a key, and a pointer's number. -/
abbrev CE := List Nat × Nat
def cE8 (q : CE) : List Value := [.string (str q.1), ptrC q.2]
theorem cE8_len (q : CE) : (cE8 q).length = 2 := rfl
theorem ptrC_one (c : Nat) : (ptrC c).oneCell' = true := by cases c <;> rfl
theorem cE8_one (q : CE) : ∀ y ∈ cE8 q, y.oneCell' = true := by
  intro y hy
  simp [cE8] at hy
  rcases hy with rfl | rfl
  · rfl
  · exact ptrC_one _
def cmpW (x y : CE) : Int := Lib.compareBytes (str x.1).data.toList (str y.1).data.toList
theorem enters64 : ∀ args w, (callFunc 64 args).run Tryz.prog w = .ok (.enter 64 args) w := enters_of Tryz.func64 (by kernel_rfl) rfl
theorem compare_w (x y : CE) (W : World) : Calls Tryz.prog 64 #[.agg #[.string (str x.1), ptrC x.2], .agg #[.string (str y.1), ptrC y.2]] W fun e w' => e = .returned (.int .i64 (cmpW x y)) ∧ ∃ q os', w' = Go.Sort.grow (W.drewN q) os' := by
  have hcon := fun W' => Any.strings_Compare sh_lays106 (str x.1) (str y.1) W'
  change ∀ W', Calls Tryz.prog 92 _ _ _ at hcon
  unfold cmpW
  obtain ⟨p, hp⟩ : ∃ p, p = ptrC x.2 := ⟨_, rfl⟩
  obtain ⟨p2, hp2⟩ : ∃ p, p = ptrC y.2 := ⟨_, rfl⟩
  have h1 := ptrC_one x.2
  have h2 := ptrC_one y.2
  rw [← hp] at h1 ⊢
  rw [← hp2] at h2 ⊢
  generalize Lib.compareBytes (str x.1).data.toList (str y.1).data.toList = r at hcon ⊢
  clear hp hp2
  go_enter Tryz.func64, Tryz.ntmps64
  go_wp2_with (go_at_call 92; refine (hcon _).mono ?_; rintro e w' ⟨rfl, rfl⟩)
  go_ret
  exact ⟨rfl, 0, _, by rw [Go.Sort.alloc_eq_grow, Go.Sort.alloc_eq_grow, Go.Sort.grow_grow]; rfl⟩
end Go.Proofs.YtlnagdodnkhbmaaGreat
