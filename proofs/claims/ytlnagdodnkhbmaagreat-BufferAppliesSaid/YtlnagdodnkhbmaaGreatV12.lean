/- A buffer: what Apply makes of the table's rows (no program). -/
import Derived.Test.YtlnagdodnkhbmaaGreatV11
import Derived.Test.YtlnagdodnkhbmaaGreatTD
namespace Go.Proofs.YtlnagdodnkhbmaaGreat
open Go.RowKit
set_option maxRecDepth 100000

/-- What is taken out. -/
def delStep (l : List KR) (q : WR) : List KR := match q.2 with
  | none => kdelN l q.1
  | some _ => l
def delsW (l : List KR) (ws : List WR) : List KR := ws.foldl delStep l
/-- What is put. -/
def putStep (most : Nat) (l : List KR) (q : WR) : List KR := match q.2 with
  | none => l
  | some r => kputN most l q.1 r
def putsW (most : Nat) (l : List KR) (ws : List WR) : List KR := ws.foldl (putStep most) l
theorem foldl_take {α β : Type} (f : β → α → β) (b : β) {l : List α} {n : Nat} {x : α} (h : l[n]? = some x) : (l.take (n + 1)).foldl f b = f ((l.take n).foldl f b) x := by
  rw [take_one h, List.foldl_append]; rfl
theorem WsOk.filter {ws : List WR} (h : WsOk ws) (p : WR → Bool) : WsOk (ws.filter p) :=
  ⟨h.rise.filter p, fun q hq => h.byt q (List.mem_filter.1 hq).1, fun q hq => h.key q (List.mem_filter.1 hq).1, fun q hq => h.ok q (List.mem_filter.1 hq).1⟩
theorem WsOk.tail {q : WR} {ws : List WR} (h : WsOk (q :: ws)) : WsOk ws :=
  ⟨(List.pairwise_cons.1 h.rise).2, fun x hx => h.byt x (List.mem_cons_of_mem _ hx), fun x hx => h.key x (List.mem_cons_of_mem _ hx), fun x hx => h.ok x (List.mem_cons_of_mem _ hx)⟩
theorem delsW_eq : ∀ (ws : List WR) (l : List KR), delsW l ws = showW l (ws.filter fun q => q.2.isNone)
  | [], _ => rfl
  | (k, none) :: ws, l => delsW_eq ws _
  | (k, some r) :: ws, l => delsW_eq ws _
theorem puts_le : ∀ (ws : List WR) (l : List KR), RowsOk l → WsOk ws → (∀ q ∈ ws, q.2.isSome = true) → l.length ≤ (showW l ws).length
  | [], _, _, _, _ => Nat.le_refl _
  | (k, none) :: ws, _, _, _, h => absurd (h _ List.mem_cons_self) (by simp)
  | (k, some r) :: ws, l, hl, hw, h => by
    have h1 := puts_le ws (showStep l (k, some r)) (showStep_ok hl (hw.byt _ List.mem_cons_self) (hw.key _ List.mem_cons_self) (hw.ok _ List.mem_cons_self)) hw.tail fun q hq => h q (List.mem_cons_of_mem _ hq)
    have h2 := showStep_len (l := l) (q := (k, some r)) (hw.key _ List.mem_cons_self)
    have h3 : 0 ≤ delta l (k, some r) := by unfold delta; dsimp only; split <;> omega
    show l.length ≤ (showW (showStep l (k, some r)) ws).length
    omega
theorem putsW_eq {most : Nat} : ∀ (ws : List WR) (l : List KR), RowsOk l → WsOk ws → (showW l (ws.filter fun q => q.2.isSome)).length ≤ most → putsW most l ws = showW l (ws.filter fun q => q.2.isSome)
  | [], _, _, _, _ => rfl
  | (k, none) :: ws, l, hl, hw, h => putsW_eq ws l hl hw.tail h
  | (k, some r) :: ws, l, hl, hw, h => by
    have hk := hw.key _ List.mem_cons_self
    have hs := showStep_ok hl (hw.byt _ List.mem_cons_self) hk (hw.ok _ List.mem_cons_self)
    have hlen := puts_le (ws.filter fun q => q.2.isSome) _ hs (hw.tail.filter _) fun q hq => (List.mem_filter.1 hq).2
    have h' : (showW (showStep l (k, some r)) (ws.filter fun q => q.2.isSome)).length ≤ most := h
    have hst : putStep most l (k, some r) = showStep l (k, some r) := by
      show kputN most l k r = putK l k r
      unfold kputN kputE
      dsimp only at hk
      rw [if_pos hk]
      by_cases hg : (getK l k).isSome = true
      · rw [if_pos hg, if_pos rfl]
      · rw [if_neg hg]
        have h2 := showStep_len (l := l) (q := (k, some r)) hk
        have h3 : delta l (k, some r) = 1 := by unfold delta; dsimp only; rw [if_neg hg]
        rw [if_neg (show ¬ most ≤ l.length by omega), if_pos rfl]
    show putsW most (putStep most l (k, some r)) ws = showW (showStep l (k, some r)) _
    rw [hst]
    exact putsW_eq ws _ hs hw.tail h'
theorem two_shows {l : List KR} {ws : List WR} (hl : RowsOk l) (hw : WsOk ws) : showW (showW l (ws.filter fun q => q.2.isNone)) (ws.filter fun q => q.2.isSome) = showW l ws := by
  have h1 := showW_ok hl (hw.filter fun q => q.2.isNone)
  refine rows_ext (showW_ok h1 (hw.filter _)) (showW_ok hl hw) fun x => ?_
  rw [mem_showW h1 (hw.filter _), mem_showW hl (hw.filter _), mem_showW hl hw]
  simp only [List.mem_filter, Option.isSome_some, Option.isNone_some, and_true, and_false, Bool.false_eq_true, false_or]
  constructor
  · rintro (h | ⟨h, h2, h3⟩)
    · exact .inl h
    · refine .inr ⟨fun v hv => ?_, h3⟩
      cases v with
      | none => exact h2 none ⟨hv, rfl⟩
      | some r => exact h (some r) ⟨hv, rfl⟩
  · rintro (h | ⟨h, h3⟩)
    · exact .inl h
    · exact .inr ⟨fun v hv => h v hv.1, fun v hv => h v hv.1, h3⟩
/-- **Apply's two rounds make what the buffer showed**, where that may be. -/
theorem apply_rows {l : List KR} {ws : List WR} {most : Nat} (hl : RowsOk l) (hw : WsOk ws) (h : (showW l ws).length ≤ most) : putsW most (delsW l ws) ws = showW l ws := by
  rw [delsW_eq, putsW_eq _ _ (showW_ok hl (hw.filter _)) hw (by rw [two_shows hl hw]; exact h), two_shows hl hw]
end Go.Proofs.YtlnagdodnkhbmaaGreat
