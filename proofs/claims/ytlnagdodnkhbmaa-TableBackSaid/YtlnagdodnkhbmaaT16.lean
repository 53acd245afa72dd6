/- Find. -/
import Derived.Test.YtlnagdodnkhbmaaT15
namespace Go.Proofs.Ytlnagdodnkhbmaa
open Go.RowKit Go.Shelf
set_option maxRecDepth 100000
attribute [local go_sem] Oper.semAt_some

def cT (xs : List Nat) : List Value := [.string (str xs)]
theorem cT_len (xs : List Nat) : (cT xs).length = 1 := rfl
theorem cT_one (xs : List Nat) : ∀ y ∈ cT xs, y.oneCell' = true := by
  intro y hy
  simp [cT] at hy
  rw [hy]; rfl
theorem info_text : (Try.prog.info? 9).map (fun i => (i.zero, i.size, i.bytes)) = some (some (.string ⟨#[]⟩), 1, 16) := by kernel_rfl
theorem found_any (w : World) (fn : Fn) (first cap : Array Value) : Calls Try.prog 38 #[.func fn first cap] w fun e w' =>
    e = .returned (.func (.func 57) #[] #[.pointer (some ⟨w.heap.size, 0, none⟩)]) ∧ w' = w.alloc (.cells #[.func fn first cap] 86) := by
  have hmf := hmf
  go_enter Try.func38, Try.ntmps38
  go_wp2
  go_ret
  exact ⟨rfl, rfl⟩
theorem found_walks (w : World) (c a o : Nat) (lo hi at_ : List Nat) (I : List Pr) (P : Bl) (hc : CurAt w c a lo hi at_) (ht : TreeAt w a o I P) (hca : c ≠ a) (hcP : ¬ P c) (hl : I.length ≤ 5000) (hk : Keyed I) (hkk : ∀ q ∈ I, keyB (q.1.drop 8) = true) (bhi : Byt hi) (bat : Byt at_) :
    Calls Try.prog 38 #[.func (.func 39) #[.pointer (some ⟨c, 0, none⟩)] #[]] w fun e w' => ∃ gf lb G, e = .returned (.func (.func gf) #[] lb) ∧ Below w.heap.size w w' ∧
      (∀ args w, (callFunc gf args).run Try.prog w = .ok (.enter gf args) w) ∧ (∀ b, G b → b < w'.heap.size) ∧ G c ∧ (∀ b, G b → b = c ∨ b = a ∨ P b ∨ w.heap.size ≤ b) ∧ GivesM (fun b => b = c) Try.prog gf lb encS (keysOf (seq I hi (atN I at_))) G w' := by
  refine (found_any w _ _ _).mono ?_
  rintro e w' ⟨rfl, rfl⟩
  have hcl := hc.lt
  have hal := ht.lt
  have hb : Below w.heap.size w (w.alloc (.cells #[.func (.func 39) #[.pointer (some ⟨c, 0, none⟩)] #[]] 86)) := (Below.refl _ w).alloc (Nat.le_refl _) _
  refine ⟨_, _, PF w.heap.size c a P, rfl, hb, enters_of Try.func57 (by kernel_rfl) rfl, fun b hG => ?_, .inr (.inl rfl), fun b hG => ?_, found_gives _ w.heap.size c a o lo hi at_ I P (cell_of_row _ _ 0 _ _ _ (heap_alloc_new w _)) (hc.below hb) (ht.below hb) hca hcP (by omega) hl hk hkk bhi bat⟩
  · rcases hG with rfl | rfl | rfl | hG
    · simp
    · simp; omega
    · simp; omega
    · have := ht.under b hG; simp; omega
  · rcases hG with rfl | rfl | rfl | hG
    · exact .inr (.inr (.inr (Nat.le_refl _)))
    · exact .inl rfl
    · exact .inr (.inl rfl)
    · exact .inr (.inr (.inl hG))
/-- The keys gathered so far, in the row that the cell at block bl names; of what was there, the cursor's block c alone has turned besides. -/
def CollF (w3 : World) (bl bm c most : Nat) (pre : List (List Nat)) (K : Bl) (W : World) : Prop :=
  W.cell? ⟨bm, 0, none⟩ = some (.int .i64 (most : Int)) ∧ Chg [bl, c] w3 W [bl, c] ∧ ∃ v, One W bl 41 v ∧ OwnElems 1 cT 9 W w3.heap.size v (pre.take most) ∧ ¬ K bl ∧ ∀ b ∈ ownFoot v, ¬ K b
theorem collF_abide {w3 : World} {bl bm c most : Nat} (hp : bl < w3.heap.size) (hne : bl ≠ c) (hm : bm < w3.heap.size) (hmc : bm ≠ c) : AbideM (fun b => b = c) w3.heap.size (CollF w3 bl bm c most) := by
  rintro s K A A' row ⟨h0, hc, v, q2, q3, q4, q5⟩ hg hr K' hK'
  have hB : ∀ x, x < w3.heap.size → x ≠ c → A'.heap[x]? = A.heap[x]? := fun x hx hxc => hg.block x (Nat.lt_of_lt_of_le hx hc.size) fun e => (hr x e.symm).1.elim (fun h => by omega) fun h => hxc h
  have hnk : ∀ b, ¬ K b → b < A.heap.size → ¬ K' b := fun b hb hl h => by
    rcases hK' b h with h | h
    · exact hb h
    · omega
  exact ⟨(World.cell?_of_block (hB bm hm hmc)).trans h0, ⟨hg.os.trans hc.os, hg.tape.trans hc.tape, hg.output.trans hc.output, Nat.le_trans hc.size hg.size, fun k hk hn => (hB k hk fun e => hn (by simp [e])).trans (hc.block k hk hn), hc.foot⟩, v, q2.keep (hB bl hp hne), q3.keep fun b hb => hg.block b (q3.lt b hb).2 fun e => q5 b hb (hr b e.symm).2, hnk bl q4 q2.lt, fun b hb => hnk b (q5 b hb) (q3.lt b hb).2⟩
section
variable {w : World} {T : Nat} {p : Nat → Nat} {Q : Bl} {most o : Nat} {l : List KR}
theorem tfind_nil (w : World) (c lo hi m : Int) : Calls Try.prog 15 #[.pointer none, .int .i64 c, .int .i64 lo, .int .i64 hi, .int .i64 m] w fun e w' => e = .returned (.tuple #[.slice none 0 0, .int .i64 2]) ∧ Below w.heap.size w w' := by
  go_enter Try.func15, Try.ntmps15
  go_wp2
  go_ret2
  exact ⟨rfl, (Below.refl _ _).alloc (Nat.le_refl _) _⟩
/-- What Bounds answers. -/
def toB (hi : Int) : List Nat := if hi = 9223372036854775807 then [] else wv (hi + 1)
theorem bounds_ok (w : World) (lo hi : Int) (hl : I64 lo) (hh : I64 hi) (h : lo ≤ hi) :
    Calls Try.prog 36 #[.int .i64 lo, .int .i64 hi] w fun e w' => e = .returned (.tuple #[.string (str (wv lo)), .string (str (toB hi)), .int .i64 0]) ∧ Below w.heap.size w w' := by
  unfold toB
  by_cases e : hi = 9223372036854775807
  · rw [if_pos e]; subst e; exact bounds_end w lo hl
  · rw [if_neg e]; exact bounds_two w lo hi hl hh h (by have := hh.2; omega)
theorem toB_byt (hi : Int) : Byt (toB hi) := by
  unfold toB
  split
  · exact Byt.nil
  · exact wv_byt _
theorem toB_len (hi : Int) : (toB hi).length ≤ 8 := by
  unfold toB
  split
  · simp
  · rw [wv_len]; omega
theorem toB_lo {lo hi : Int} (hl : I64 lo) (hh : I64 hi) (h : lo ≤ hi) : toB hi = [] ∨ ¬ toB hi < wv lo := by
  unfold toB
  by_cases e : hi = 9223372036854775807
  · exact .inl (if_pos e)
  · rw [if_neg e]
    right
    intro hlt
    have h2 : I64 (hi + 1) := ⟨by have := hh.1; omega, by have := hh.2; omega⟩
    have := (wv_lt h2 hl [] []).1 (by simpa using hlt)
    rcases this with h3 | ⟨h3, _⟩ <;> omega
/-- Which keys Find tells. -/
def findK (I : List Pr) (lo hi : Int) (m : Nat) : List (List Nat) := (keysOf (seq I (toB hi) (atN I (wv lo)))).take m
theorem tfind_col (T : Nat) (c lo hi m : Int) (hl : I64 lo) (hh : I64 hi) (h : c < 0 ∨ (0 ≤ c ∧ 4 ≤ c)) : Calls Try.prog 15 #[.pointer (some ⟨T, 0, none⟩), .int .i64 c, .int .i64 lo, .int .i64 hi, .int .i64 m] w fun e w' => e = .returned (.tuple #[.slice none 0 0, .int .i64 10]) ∧ Below w.heap.size w w' := by
  have hba : Below w.heap.size w (w.alloc (.cells #[.int .i64 m] 3)) := (Below.refl _ _).alloc (Nat.le_refl _) _
  by_cases hlh : lo ≤ hi
  · rcases h with h | ⟨h0, h⟩
    · go_enter Try.func15, Try.ntmps15
      go_wp2_with fail
      refine (bounds_ok _ lo hi hl hh hlh).mono ?_
      rintro e w1 ⟨rfl, hb1⟩
      go_wp2
      go_ret2
      exact ⟨rfl, below_step hba hb1⟩
    · have h1 : ¬ c < 0 := by omega
      go_enter Try.func15, Try.ntmps15
      go_wp2_with fail
      refine (bounds_ok _ lo hi hl hh hlh).mono ?_
      rintro e w1 ⟨rfl, hb1⟩
      go_wp2
      go_ret2
      exact ⟨rfl, below_step hba hb1⟩
  · rcases h with h | ⟨h0, h⟩
    · go_enter Try.func15, Try.ntmps15
      go_wp2_with fail
      refine (bounds_no _ lo hi (by omega)).mono ?_
      rintro e w1 ⟨rfl, rfl⟩
      go_wp2
      go_ret2
      exact ⟨rfl, hba⟩
    · have h1 : ¬ c < 0 := by omega
      go_enter Try.func15, Try.ntmps15
      go_wp2_with fail
      refine (bounds_no _ lo hi (by omega)).mono ?_
      rintro e w1 ⟨rfl, rfl⟩
      go_wp2
      go_ret2
      exact ⟨rfl, hba⟩
theorem tfind_range (T c : Nat) (hc : c < 4) (lo hi m : Int) (h : hi < lo) : Calls Try.prog 15 #[.pointer (some ⟨T, 0, none⟩), .int .i64 (c : Int), .int .i64 lo, .int .i64 hi, .int .i64 m] w fun e w' => e = .returned (.tuple #[.slice none 0 0, .int .i64 10]) ∧ Below w.heap.size w w' := by
  have hba : Below w.heap.size w (w.alloc (.cells #[.int .i64 m] 3)) := (Below.refl _ _).alloc (Nat.le_refl _) _
  have h1 : ¬ (c : Int) < 0 := by omega
  have h2 : ¬ (4 : Int) ≤ c := by omega
  go_enter Try.func15, Try.ntmps15
  go_wp2_with fail
  refine (bounds_no _ lo hi h).mono ?_
  rintro e w1 ⟨rfl, rfl⟩
  go_wp2
  go_ret2
  exact ⟨rfl, hba⟩
theorem tfind_few (T c : Nat) (hc : c < 4) (lo hi m : Int) (hl : I64 lo) (hh : I64 hi) (h : lo ≤ hi) (hm : m < 0) : Calls Try.prog 15 #[.pointer (some ⟨T, 0, none⟩), .int .i64 (c : Int), .int .i64 lo, .int .i64 hi, .int .i64 m] w fun e w' => e = .returned (.tuple #[.slice none 0 0, .int .i64 23]) ∧ Below w.heap.size w w' := by
  have hba : Below w.heap.size w (w.alloc (.cells #[.int .i64 m] 3)) := (Below.refl _ _).alloc (Nat.le_refl _) _
  have h1 : ¬ (c : Int) < 0 := by omega
  have h2 : ¬ (4 : Int) ≤ c := by omega
  have q0 := (One.new w 3 (.int .i64 m)).cell
  go_enter Try.func15, Try.ntmps15
  go_wp2_with fail
  refine (bounds_ok _ lo hi hl hh h).mono ?_
  rintro e w1 ⟨rfl, hb1⟩
  have q1 := below_keep hb1 _ _ q0
  go_wp2
  go_ret2
  exact ⟨rfl, below_step hba hb1⟩
end
end Go.Proofs.Ytlnagdodnkhbmaa
