/- A buffer: Writes. -/
import Derived.Test.YtlnagdodnkhbmaaGreatV8
import Derived.Test.YtlnagdodnkhbmaaGreatTE
import Derived.Deep.RegionLaw
namespace Go.Proofs.YtlnagdodnkhbmaaGreat
open Go.RowKit Go.Maps Go.WideMaps Go.Shelf
set_option maxRecDepth 100000

/-- A call of a Go function, as one step of a region that draws: its contract, and that it returns. -/
theorem step_call_ret {P : Program} {ops : Array Oper} {o : Oper} {a : Act} {w : World} {K : Act → World → Prop} {Q : Exit → Act → World → Prop} {E : Prop} (hgd : o.guard = none) (f : FuncId) (x : Operand) (t : TypeId)
    (ho : o.op = .call { callee := .value (.func f), args := #[x], argTypes := #[t] }) (u : Value) (hx : a.eval x = u) (hn : ∀ args w, (callFunc f args).run P w = .ok (.enter f args) w)
    {α : Type} (R : α → Value) (S : α → World → Prop) (hc : Calls P f #[u] w fun e w' => ∃ c, e = .returned (R c) ∧ S c w') (h : ∀ c w', S c w' → K (a.put o.dst (R c)) w') :
    if Region.wanted o (yielded ops a.tmps) = true then Oper.wp P o a w K Q else E := by
  rw [if_pos (by unfold Region.wanted; rw [hgd])]
  unfold Oper.wp
  have hev : a.eval (.func f) = .func (.func f) #[] #[] := rfl
  have e : (execOp a.eval o).run P w = .ok (.enter f #[u]) w := by
    unfold execOp
    simp [ho, resolve, Deferred.ofValue, invoke, hx, hev, hn, Result.andThen]
  rw [e, Oper.upon_enter]
  refine hc.mono ?_
  rintro e w' ⟨c, rfl, hs⟩
  exact h c w' hs

/-- These keys' pointers tell these writes' rows. -/
structure ToldW (w : World) (cs : List CE) (us : List WR) : Prop where
  keys : cs.map Prod.fst = us.map Prod.fst
  ptr : ∀ k c v, (k, c) ∈ cs → (k, v) ∈ us → PtrIs w c v
section
variable {w w' : World} {cs : List CE} {us : List WR}
theorem ToldW.nil (w : World) : ToldW w [] [] := ⟨rfl, fun _ _ _ h => by cases h⟩
theorem ToldW.keep (h : ToldW w cs us) (hk : ∀ g r, Lies w g r → w'.heap[g]? = w.heap[g]?) : ToldW w' cs us := ⟨h.keys, fun k c v hc hv => (h.ptr k c v hc hv).keep hk⟩
theorem ToldW.below (h : ToldW w cs us) (hb : Below w.heap.size w w') : ToldW w' cs us := h.keep fun g _ hl => hb.block g hl.lt
theorem ToldW.app (h : ToldW w cs us) {k : List Nat} {c : Nat} {v : Option Ro} (hp : PtrIs w c v) (hu : ∀ u, (k, u) ∈ us → u = v) : ToldW w (cs ++ [(k, c)]) (us ++ [(k, v)]) := by
  refine ⟨by rw [List.map_append, List.map_append, h.keys]; rfl, fun k1 c1 v1 hc hv => ?_⟩
  rcases List.mem_append.1 hc with hc' | hc'
  · rcases List.mem_append.1 hv with hv' | hv'
    · exact h.ptr k1 c1 v1 hc' hv'
    · obtain ⟨e1, e2⟩ := Prod.mk.inj (List.mem_singleton.1 hv')
      subst e1; subst e2
      obtain ⟨u, hu'⟩ := keys_mem h.keys hc'
      have := hu u hu'
      subst this
      exact h.ptr _ c1 _ hc' hu'
  · obtain ⟨e1, e2⟩ := Prod.mk.inj (List.mem_singleton.1 hc')
    subst e1; subst e2
    rcases List.mem_append.1 hv with hv' | hv'
    · rw [hu v1 hv']; exact hp
    · obtain ⟨_, e2⟩ := Prod.mk.inj (List.mem_singleton.1 hv')
      rw [e2]; exact hp
end
section
variable {w w' : World} {m r : Nat} {ws L : List WR} {cnt : Nat}
theorem RngB.grown {row : Option Nat} (h : RngB w m r ws L cnt) (hg : w.grownBy w' row) (hm : some m ≠ row) (hr : some r ≠ row) (hrow : ∀ g x, Lies w g x → some g ≠ row) : RngB w' m r ws L cnt := by
  obtain ⟨n, D, cs, left, h1, h2, h3, h4, h5, h6⟩ := h
  exact ⟨n, D, cs, left, h1.kept hg hm hr, h2, h3, fun k c v hc hv => (h4 k c v hc hv).keep fun g x hl => hg.block g hl.lt (hrow g x hl), h5, h6⟩
theorem RngB.not_row (h : RngB w m r ws L cnt) {g : Nat} {x : Ro} (hl : Lies w g x) : g ≠ r := by
  rintro rfl
  obtain ⟨n, D, cs, left, ⟨_, _, _, _, _, _, _, _, _, hit, _⟩, _⟩ := h
  unfold Lies at hl
  rw [hit] at hl
  cases hl
theorem set_grown (w : World) (b : Nat) (v : Value) : w.grownBy (w.setCell ⟨b, 0, none⟩ v) (some b) :=
  ⟨rfl, rfl, rfl, by simp [World.setCell], fun k _ hne => Below.heap_setCell _ _ _ _ (fun e => hne (by rw [e]))⟩
theorem own_not_row {base : Nat} {v : Value} {cs : List CE} (h : OwnElems 2 cE8 119 w base v cs) {g : Nat} {x : Ro} (hl : Lies w g x) : some g ≠ v.ownBlock := by
  rcases h with ⟨_, ⟨rfl, _⟩ | ⟨b, cap, cur, rfl, _, hb, _⟩⟩
  · intro e; cases e
  · intro e
    injection e with e
    unfold Lies at hl
    rw [e] at hl
    have hl2 : w.heap[b]? = _ := hl
    rw [hb] at hl2
    injection hl2 with hl2
    injection hl2 with _ e2 _
    exact absurd e2 (by decide)
end
/-- While Writes collects: bl holds the slice, r is the range's block. -/
structure WRel (w0 : World) (m r : Nat) (ws L : List WR) (cnt : Nat) (us : List WR) (cs : List CE) (v : Value) (wr : World) : Prop where
  hr : r = w0.heap.size + 1
  rng : RngB wr m r ws L cnt
  perm : (us ++ L).Perm ws
  told : ToldW wr cs us
  bl : wr.heap[w0.heap.size]? = some (.cells #[v] 116 (0, 0))
  own : OwnElems 2 cE8 119 wr (w0.heap.size + 2) v cs
  below : Below w0.heap.size w0 wr
  new_ : ∀ q ∈ cs, ∀ g, q.2 = g + 1 → w0.heap.size ≤ g
section
variable {w0 wr w3 w4 : World} {m r : Nat} {ws L : List WR} {cnt : Nat} {us : List WR} {cs : List CE} {v : Value}
theorem WRel.len (h : WRel w0 m r ws L cnt us cs v wr) : cs.length ≤ ws.length := by
  have h1 := h.perm.length_eq
  have h2 := congrArg List.length h.told.keys
  simp at h1 h2
  omega
theorem WRel.cell (h : WRel w0 m r ws L cnt us cs v wr) : wr.cell? ⟨w0.heap.size, 0, none⟩ = some v := by
  have := cell_of_row wr w0.heap.size 0 _ _ _ h.bl
  simpa using this
/-- Behind the range's step and the row's copy. -/
structure WMid (w0 : World) (m r : Nat) (ws L' : List WR) (cnt' : Nat) (us : List WR) (cs : List CE) (v : Value) (w4 : World) : Prop where
  hr : r = w0.heap.size + 1
  rng : RngB w4 m r ws L' cnt'
  told : ToldW w4 cs us
  bl : w4.heap[w0.heap.size]? = some (.cells #[v] 116 (0, 0))
  own : OwnElems 2 cE8 119 w4 (w0.heap.size + 2) v cs
  below : Below w0.heap.size w0 w4
theorem WMid.lt {L' : List WR} {cnt' : Nat} (h : WMid w0 m r ws L' cnt' us cs v w4) : w0.heap.size < w4.heap.size := (Array.getElem?_eq_some_iff.1 h.bl).1
theorem WMid.rlt {L' : List WR} {cnt' : Nat} (h : WMid w0 m r ws L' cnt' us cs v w4) : w0.heap.size + 2 ≤ w4.heap.size := by
  obtain ⟨n, D, cs', left, h1, _⟩ := h.rng
  have := h1.lt
  have := h.hr
  omega
theorem WMid.cell {L' : List WR} {cnt' : Nat} (h : WMid w0 m r ws L' cnt' us cs v w4) : w4.cell? ⟨w0.heap.size, 0, none⟩ = some v := by
  have := cell_of_row w4 w0.heap.size 0 _ _ _ h.bl
  simpa using this
theorem WMid.step {L' : List WR} {cnt' : Nat} {w5 : World} (h : WMid w0 m r ws L' cnt' us cs v w4) (hb : Below w4.heap.size w4 w5) : WMid w0 m r ws L' cnt' us cs v w5 :=
  ⟨h.hr, h.rng.below hb, h.told.below hb, (hb.block _ h.lt).trans h.bl, h.own.keep fun b hx => hb.block b (h.own.lt b hx).2, h.below.trans (hb.mono (Nat.le_of_lt h.lt))⟩
theorem WRel.next {L' : List WR} {cnt' : Nat} (h : WRel w0 m r ws L cnt us cs v wr) (hg : wr.grownBy w3 (some r)) (h3 : RngB w3 m r ws L' cnt') : WMid w0 m r ws L' cnt' us cs v w3 := by
  have hr := h.hr
  refine ⟨hr, h3, h.told.keep fun g x hl => hg.block g hl.lt (by intro e; injection e with e; exact h.rng.not_row hl e), ?_, h.own.keep fun b hx => ?_, h.below.grown hg h.below.size (fun k e => by injection e with e; omega)⟩
  · exact (hg.block _ (Array.getElem?_eq_some_iff.1 h.bl).1 (by intro e; injection e with e; omega)).trans h.bl
  · have := h.own.lt b hx
    exact hg.block b this.2 (by intro e; injection e with e; omega)
theorem WMid.done {L' : List WR} {cnt' c : Nat} {k : List Nat} {x : Option Ro} {w5 : World} {v5 : Value} (h : WMid w0 m r ws L' cnt' us cs v w4) (hw : WsOk ws) (hm : m < w0.heap.size) (hp : (us ++ (k, x) :: L').Perm ws) (hc : PtrIs w4 c x) (hn : ∀ q ∈ cs, ∀ g, q.2 = g + 1 → w0.heap.size ≤ g) (hnc : ∀ g, c = g + 1 → w0.heap.size ≤ g)
    (ho : OwnElems 2 cE8 119 w5 (w0.heap.size + 2) v5 (cs ++ [(k, c)])) (hg : w4.grownBy w5 v.ownBlock) : WRel w0 m r ws L' cnt' (us ++ [(k, x)]) (cs ++ [(k, c)]) v5 (w5.setCell ⟨w0.heap.size, 0, none⟩ v5) := by
  have hr := h.hr
  have hfoot : ∀ b, v.ownBlock = some b → w0.heap.size + 2 ≤ b := fun b e => (h.own.lt b (mem_ownFoot.2 e)).1
  have hbl5 : w5.heap[w0.heap.size]? = some (.cells #[v] 116 (0, 0)) := (hg.block _ h.lt (by intro e; have := hfoot _ e.symm; omega)).trans h.bl
  have hrow5 : ∀ g y, Lies w5 g y → some g ≠ some w0.heap.size := fun g y hl e => by
    injection e with e
    unfold Lies at hl
    rw [e, hbl5] at hl
    injection hl with hl
    injection hl with _ e2 _
    exact absurd e2 (by decide)
  have hs := set_grown w5 w0.heap.size v5
  have htold : ToldW w4 (cs ++ [(k, c)]) (us ++ [(k, x)]) := h.told.app hc fun u hu => hw.one (k := k) (hp.mem_iff.1 (List.mem_append_left _ hu)) (hp.mem_iff.1 (List.mem_append_right _ List.mem_cons_self))
  refine ⟨hr, ?_, ?_, ?_, ?_, ?_, ?_, ?_⟩
  · exact (h.rng.grown hg (by intro e; have := hfoot _ e.symm; omega) (by intro e; have := hfoot _ e.symm; omega) (fun g y hl => own_not_row h.own hl)).grown hs (by intro e; injection e with e; omega) (by intro e; injection e with e; omega) hrow5
  · rw [List.append_assoc]; exact hp
  · exact (htold.keep (w' := w5) fun g y hl => hg.block g hl.lt (own_not_row h.own hl)).keep fun g y hl => hs.block g hl.lt (hrow5 g y hl)
  · have := setCell_row hbl5 (i := 0) v5
    simpa using this
  · exact ho.keep fun b hb => by
      have := ho.lt b hb
      exact hs.block b this.2 (by intro e; injection e with e; omega)
  · exact (h.below.grown hg h.below.size (fun b e => by have := hfoot b e; omega)).setCell (p := ⟨w0.heap.size, 0, none⟩) (Nat.le_refl _) _
  · intro q hq g e
    rcases List.mem_append.1 hq with hq | hq
    · exact hn q hq g e
    · rw [List.mem_singleton.1 hq] at e; exact hnc g e
end
end Go.Proofs.YtlnagdodnkhbmaaGreat
