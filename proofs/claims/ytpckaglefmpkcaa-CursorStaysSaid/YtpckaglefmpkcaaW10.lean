/- Two trees side by side; a tree's pairs gathered in a reference's list. -/
import Derived.Test.YtpckaglefmpkcaaW9
namespace Go.Proofs.Ytpckaglefmpkcaa
open Go.RowKit Go.Shelf
set_option maxRecDepth 100000

/-- Two trees; nothing else has turned since W. -/
structure Tw (W w : World) (Pa Pb : Bl) (a b oa ob : Nat) (la lb : List Pr) : Prop where
  ta : TreeAt w a oa la Pa
  tb : TreeAt w b ob lb Pb
  ne : a ≠ b
  ab : ¬ Pa b
  ba : ¬ Pb a
  c : Chg [] W w [a, b]
section
variable {W w w' : World} {Pa Pb : Bl} {a b oa ob : Nat} {la lb l' : List Pr}
theorem Tw.below_ (h : Tw W w Pa Pb a b oa ob la lb) (hb : Below w.heap.size w w') : Tw W w' Pa Pb a b oa ob la lb :=
  ⟨h.ta.below hb, h.tb.below hb, h.ne, h.ab, h.ba, h.c.step_below hb⟩
theorem Tw.since (h : Tw W w Pa Pb a b oa ob la lb) : Below W.heap.size W w := h.c.below (fun _ h => by cases h) (Nat.le_refl _)
theorem Tw.turnA (h : Tw W w Pa Pb a b oa ob la lb) (d : Done Pa w w' a oa l') : Tw W w' (New Pa w w') Pb a b oa ob l' lb := by
  have hbl := h.tb.lt
  refine ⟨d.tree, h.tb.chg d.2 (by simpa using h.ne.symm) (by simpa using h.ba), h.ne, ?_, h.ba, h.c.trans (d.2.wide2 (by simp))⟩
  rintro (hh | hh)
  · exact h.ab hh
  · omega
theorem Tw.turnB (h : Tw W w Pa Pb a b oa ob la lb) (d : Done Pb w w' b ob l') : Tw W w' Pa (New Pb w w') a b oa ob la l' := by
  have hal := h.ta.lt
  refine ⟨h.ta.chg d.2 (by simpa using h.ne) (by simpa using h.ab), d.tree, h.ne, h.ab, ?_, h.c.trans (d.2.wide2 (by simp))⟩
  rintro (hh | hh)
  · exact h.ba hh
  · omega
end
theorem tw_new {W w1 w2 : World} {Pa Pb : Bl} {a b oa ob : Nat} (ta : TreeAt w1 a oa [] Pa) (hb1 : Below W.heap.size W w1) (ha : W.heap.size ≤ a) (tb : TreeAt w2 b ob [] Pb) (hb2 : Below w1.heap.size w1 w2) (hb : w1.heap.size ≤ b) (hPb : ∀ x, Pb x → w1.heap.size ≤ x) : Tw W w2 Pa Pb a b oa ob [] [] := by
  have hal := ta.lt
  refine ⟨ta.below hb2, tb, by omega, fun h => by have := ta.under _ h; omega, fun h => by have := hPb _ h; omega, ?_⟩
  exact (Chg.of_below (F := []) (below_step hb1 hb2)).less fun k hk => by
    simp at hk
    rcases hk with rfl | rfl
    · exact .inr ha
    · exact .inr (Nat.le_trans hb1.size hb)
theorem tree_new_in (w : World) (o : Nat) (h2 : 2 ≤ o) (h16 : o ≤ 16) : Calls Try.prog 17 #[.int .i64 (o : Int)] w fun e w' => ∃ a P, e = .returned (.tuple #[.pointer (some ⟨a, 0, none⟩), .int .i64 0]) ∧ Below w.heap.size w w' ∧ w.heap.size ≤ a ∧ TreeAt w' a o [] P ∧ ∀ x, P x → w.heap.size ≤ x := by
  refine (tree_new w o h2 h16).mono ?_
  rintro e w' ⟨rfl, hb, hs, ht⟩
  exact ⟨_, _, rfl, hb, by omega, ⟨_, _, _, ht⟩, fun x hx => by omega⟩

/-- The pairs gathered so far in the list at block p, whose row is new since w3; nothing else of w3 has turned. -/
def CollI (w3 : World) (p : Nat) (pre : List Pr) (K : Bl) (W : World) : Prop :=
  Chg [p] w3 W [p] ∧ ∃ v, One W p 32 v ∧ OwnElems 2 cP 59 W w3.heap.size v pre ∧ ¬ K p ∧ ∀ b ∈ ownFoot v, ¬ K b
theorem collI_abide {w3 : World} {p : Nat} (hp : p < w3.heap.size) : Abide w3.heap.size (CollI w3 p) := by
  rintro s K A A' row ⟨hc, v, q2, q3, q4, q5⟩ hg hr K' hK'
  have hrow : ∀ r, row = some r → w3.heap.size ≤ r := fun r e => (hr r e).1
  have hB : ∀ x, x < w3.heap.size → A'.heap[x]? = A.heap[x]? := fun x hx => hg.block x (Nat.lt_of_lt_of_le hx hc.size) fun e => by have := hrow x e.symm; omega
  have hnk : ∀ b, ¬ K b → b < A.heap.size → ¬ K' b := fun b hb hl h => by
    rcases hK' b h with h | h
    · exact hb h
    · omega
  exact ⟨⟨hg.os.trans hc.os, hg.tape.trans hc.tape, hg.output.trans hc.output, Nat.le_trans hc.size hg.size, fun k hk hn => (hB k hk).trans (hc.block k hk hn), hc.foot⟩, v, q2.keep (hB p hp), q3.keep fun b hb => hg.block b (q3.lt b hb).2 fun e => q5 b hb (hr b e.symm).2, hnk p q4 q2.lt, fun b hb => hnk b (q5 b hb) (q3.lt b hb).2⟩
theorem info_pair : (Try.prog.info? 59).map (fun i => (i.zero, i.size, i.bytes)) = some (some (.agg #[.string ⟨#[]⟩, .string ⟨#[]⟩]), 2, 32) := by kernel_rfl
section
variable {P : Program} {α : Type} {c : α → List Value}
theorem step_append_rows {w : World} {ops : Array Oper} {o : Oper} {a : Act} {K : Act → World → Prop} {Q : Exit → Act → World → Prop} {E : Prop} (hgd : o.guard = none) (s x : Operand) (t : TypeId)
    (ho : o.op = .call { callee := .builtin .append, args := #[s, x], argTypes := #[t, t] })
    (base : Nat) (e : TypeId) (i : TypeInfo) (z : Value) (size bytes : Nat) (ht : P.underlying t = some (.slice e)) (hi : P.info? e = some i) (hz : i.zero = some z)
    (hsize : i.size = size) (hby : i.bytes = bytes) (hzs : z.cells.size = size) (hsz : 0 < size) (hone : ∀ a, ∀ y ∈ c a, y.oneCell' = true)
    (v : Value) (l : List α) (hs : a.eval s = v) (hown : OwnElems size c e w base v l) (u : Value) (l' : List α) (hx : a.eval x = u) (hu : Elems size c w u l')
    (h63 : l.length + l'.length ≤ maxLen) (hbytes : (l.length + l'.length) * bytes ≤ 140737488355328) (hbase : base ≤ w.heap.size)
    (h : ∀ v' w', OwnElems size c e w' base v' (l ++ l') → w.grownBy w' v.ownBlock → (∀ b ∈ ownFoot v', b ∈ ownFoot v ∨ w.heap.size ≤ b) → K (a.put o.dst v') w') :
    if Region.wanted o (yielded ops a.tmps) = true then Oper.wp P o a w K Q else E := by
  rw [if_pos (by unfold Region.wanted; rw [hgd])]
  obtain ⟨v', w', hrun, h2, h3, h4⟩ := run_append_rows (P := P) w base t o.type e i z size bytes ht hi hz hsize hby hzs hsz hone v l hown u l' hu h63 hbytes hbase
  unfold Oper.wp execOp
  simp only [ho, resolve, invoke, builtin, Sem.run_bind, Sem.run_pure, Result.andThen_ok, List.map_toArray, List.map_cons, List.map_nil, hs, hx, hrun]
  exact h v' w' h2 h3 h4
end
def twoI (x y : Int) : Value := .agg #[.int .i64 x, .int .i64 y]
theorem boxres (w : World) (x y : Int) : ((w.alloc (.cells #[.int .i64 x, .int .i64 y] 54)).alloc (.cells #[.bool false] 4)).cell? ⟨w.heap.size, 0, none⟩ = some (.int .i64 x) ∧
    ((w.alloc (.cells #[.int .i64 x, .int .i64 y] 54)).alloc (.cells #[.bool false] 4)).cell? ⟨w.heap.size, 0 + 1, none⟩ = some (.int .i64 y) ∧
    ((w.alloc (.cells #[.int .i64 x, .int .i64 y] 54)).alloc (.cells #[.bool false] 4)).cell? ⟨w.heap.size + 1, 0, none⟩ = some (.bool false) ∧
    ((w.alloc (.cells #[.int .i64 x, .int .i64 y] 54)).alloc (.cells #[.bool false] 4)).frozen? ⟨w.heap.size + 1, 0, none⟩ = false ∧
    Below w.heap.size w ((w.alloc (.cells #[.int .i64 x, .int .i64 y] 54)).alloc (.cells #[.bool false] 4)) := by
  have h := heap_alloc_new w (.cells #[.int .i64 x, .int .i64 y] 54)
  have hc := cellNew (w.alloc (.cells #[.int .i64 x, .int .i64 y] 54)) (.bool false) 4
  rw [World.size_alloc] at hc
  exact ⟨cellPast _ (cell_of_row _ _ 0 _ _ _ h), cellPast _ (cell_of_row _ _ 1 _ _ _ h), hc.1, hc.2, ((Below.refl _ w).alloc (Nat.le_refl _) _).alloc (by simp) _⟩
theorem orders_bb (w : World) (x y : Int) (v : Value) (hx : x < 2 ∨ 16 < x) (hy : y < 2 ∨ 16 < y) : Calls Try.prog 7 #[twoI x y, v] w (Yes w) := by
  obtain ⟨wB, HW⟩ : ∃ W, Hid (W = (w.alloc (.cells #[.int .i64 x, .int .i64 y] 54)).alloc (.cells #[.bool false] 4)) := ⟨_, rfl⟩
  obtain ⟨x0, x1, c0, f0, b0⟩ := boxres w x y
  rw [← HW.out] at x0 x1 c0 f0 b0
  have X0 := hid x0
  have X1 := hid x1
  have C0 := hid c0
  have F0 := hid f0
  have HB0 := hid b0
  clear x0 x1 c0 f0 b0
  unfold twoI
  go_enter Try.func7, Try.ntmps7
  go_wp2_with fail
  rw [← HW.out]
  have x0 := X0.out
  have x1 := X1.out
  refine (tree_new_no _ x hx).mono ?_
  rintro e w1 ⟨rfl, hb1⟩
  have HB1 := hid hb1
  clear hb1 x0 x1
  have x0 := below_keep HB1.out _ _ X0.out
  have x1 := below_keep HB1.out _ _ X1.out
  go_wp2_with fail
  refine (tree_new_no _ y hy).mono ?_
  rintro e w2 ⟨rfl, hb2⟩
  have HB2 := hid (below_step HB1.out hb2)
  clear hb2 x0 x1
  have x0 := below_keep HB2.out _ _ X0.out
  have x1 := below_keep HB2.out _ _ X1.out
  go_wp2_with fail
  refine (awake_yes _).mono ?_
  rintro e wz ⟨rfl, hbz⟩
  have HBZ := hid (below_step HB2.out hbz)
  have c1 := below_keep HBZ.out _ _ C0.out
  have f1 := (HBZ.out.frozen (p := ⟨w.heap.size + 1, 0, none⟩) (blk_lt C0.out)).trans F0.out
  clear hbz
  go_wp2
  have c2 := World.cell?_setCell_same' wz ⟨w.heap.size + 1, 0, none⟩ (.bool true) (by rw [c1]; rfl)
  refine bodyPost_ret (v := .bool true) (by simp [results, Try.results7, go_sem, c2]) rfl ⟨rfl, (below_step HB0.out HBZ.out).setCell (p := ⟨w.heap.size + 1, 0, none⟩) (by show w.heap.size ≤ w.heap.size + 1; omega) _⟩
theorem orders_bg (w : World) (x : Int) (yo : Nat) (v : Value) (hx : x < 2 ∨ 16 < x) (h22 : 2 ≤ yo) (h162 : yo ≤ 16) : Calls Try.prog 7 #[twoI x (yo : Int), v] w (Yes w) := by
  obtain ⟨y, HY⟩ : ∃ y : Int, Hid (y = (yo : Int)) := ⟨_, rfl⟩
  rw [← HY.out]
  obtain ⟨wB, HW⟩ : ∃ W, Hid (W = (w.alloc (.cells #[.int .i64 x, .int .i64 y] 54)).alloc (.cells #[.bool false] 4)) := ⟨_, rfl⟩
  obtain ⟨x0, x1, c0, f0, b0⟩ := boxres w x y
  rw [← HW.out] at x0 x1 c0 f0 b0
  have X0 := hid x0
  have X1 := hid x1
  have C0 := hid c0
  have F0 := hid f0
  have HB0 := hid b0
  clear x0 x1 c0 f0 b0
  rw [HY.out] at X1 HW ⊢
  unfold twoI
  go_enter Try.func7, Try.ntmps7
  go_wp2_with fail
  rw [← HW.out]
  have x0 := X0.out
  have x1 := X1.out
  refine (tree_new_no _ x hx).mono ?_
  rintro e w1 ⟨rfl, hb1⟩
  have HB1 := hid hb1
  clear hb1 x0 x1
  have x0 := below_keep HB1.out _ _ X0.out
  have x1 := below_keep HB1.out _ _ X1.out
  go_wp2_with fail
  refine (tree_new_in _ yo h22 h162).mono ?_
  rintro e w2 ⟨t2, P2, rfl, hb2, ha2, ht2, hp2⟩
  have HT2 := hid ht2
  have HA2 := hid ha2
  have HP2 := hid hp2
  have HB2 := hid (below_step HB1.out hb2)
  have HC2 := hid hb2
  clear ht2 ha2 hb2 hp2 x0 x1
  have x0 := below_keep HB2.out _ _ X0.out
  have x1 := below_keep HB2.out _ _ X1.out
  go_wp2_with fail
  refine (awake_yes _).mono ?_
  rintro e wz ⟨rfl, hbz⟩
  have HBZ := hid (below_step HB2.out hbz)
  have c1 := below_keep HBZ.out _ _ C0.out
  have f1 := (HBZ.out.frozen (p := ⟨w.heap.size + 1, 0, none⟩) (blk_lt C0.out)).trans F0.out
  clear hbz
  go_wp2
  have c2 := World.cell?_setCell_same' wz ⟨w.heap.size + 1, 0, none⟩ (.bool true) (by rw [c1]; rfl)
  refine bodyPost_ret (v := .bool true) (by simp [results, Try.results7, go_sem, c2]) rfl ⟨rfl, (below_step HB0.out HBZ.out).setCell (p := ⟨w.heap.size + 1, 0, none⟩) (by show w.heap.size ≤ w.heap.size + 1; omega) _⟩
theorem orders_gb (w : World) (xo : Nat) (y : Int) (v : Value) (h21 : 2 ≤ xo) (h161 : xo ≤ 16) (hy : y < 2 ∨ 16 < y) : Calls Try.prog 7 #[twoI (xo : Int) y, v] w (Yes w) := by
  obtain ⟨x, HX⟩ : ∃ x : Int, Hid (x = (xo : Int)) := ⟨_, rfl⟩
  rw [← HX.out]
  obtain ⟨wB, HW⟩ : ∃ W, Hid (W = (w.alloc (.cells #[.int .i64 x, .int .i64 y] 54)).alloc (.cells #[.bool false] 4)) := ⟨_, rfl⟩
  obtain ⟨x0, x1, c0, f0, b0⟩ := boxres w x y
  rw [← HW.out] at x0 x1 c0 f0 b0
  have X0 := hid x0
  have X1 := hid x1
  have C0 := hid c0
  have F0 := hid f0
  have HB0 := hid b0
  clear x0 x1 c0 f0 b0
  rw [HX.out] at X0 HW ⊢
  unfold twoI
  go_enter Try.func7, Try.ntmps7
  go_wp2_with fail
  rw [← HW.out]
  have x0 := X0.out
  have x1 := X1.out
  refine (tree_new_in _ xo h21 h161).mono ?_
  rintro e w1 ⟨t1, P1, rfl, hb1, ha1, ht1, hp1⟩
  have HT1 := hid ht1
  have HA1 := hid ha1
  have HP1 := hid hp1
  have HB1 := hid hb1
  have HC1 := hid hb1
  clear ht1 ha1 hb1 hp1 x0 x1
  have x0 := below_keep HB1.out _ _ X0.out
  have x1 := below_keep HB1.out _ _ X1.out
  go_wp2_with fail
  refine (tree_new_no _ y hy).mono ?_
  rintro e w2 ⟨rfl, hb2⟩
  have HB2 := hid (below_step HB1.out hb2)
  clear hb2 x0 x1
  have x0 := below_keep HB2.out _ _ X0.out
  have x1 := below_keep HB2.out _ _ X1.out
  go_wp2_with fail
  refine (awake_yes _).mono ?_
  rintro e wz ⟨rfl, hbz⟩
  have HBZ := hid (below_step HB2.out hbz)
  have c1 := below_keep HBZ.out _ _ C0.out
  have f1 := (HBZ.out.frozen (p := ⟨w.heap.size + 1, 0, none⟩) (blk_lt C0.out)).trans F0.out
  clear hbz
  go_wp2
  have c2 := World.cell?_setCell_same' wz ⟨w.heap.size + 1, 0, none⟩ (.bool true) (by rw [c1]; rfl)
  refine bodyPost_ret (v := .bool true) (by simp [results, Try.results7, go_sem, c2]) rfl ⟨rfl, (below_step HB0.out HBZ.out).setCell (p := ⟨w.heap.size + 1, 0, none⟩) (by show w.heap.size ≤ w.heap.size + 1; omega) _⟩
theorem orders_many (w : World) (xo yo : Nat) (v : Value) (os : List Cl) (h21 : 2 ≤ xo) (h161 : xo ≤ 16) (h22 : 2 ≤ yo) (h162 : yo ≤ 16) (hv : Elems 3 cO w v os) (hf : fewB os = false) : Calls Try.prog 7 #[twoI (xo : Int) (yo : Int), v] w (Yes w) := by
  obtain ⟨x, HX⟩ : ∃ x : Int, Hid (x = (xo : Int)) := ⟨_, rfl⟩
  obtain ⟨y, HY⟩ : ∃ y : Int, Hid (y = (yo : Int)) := ⟨_, rfl⟩
  rw [← HX.out, ← HY.out]
  obtain ⟨wB, HW⟩ : ∃ W, Hid (W = (w.alloc (.cells #[.int .i64 x, .int .i64 y] 54)).alloc (.cells #[.bool false] 4)) := ⟨_, rfl⟩
  obtain ⟨x0, x1, c0, f0, b0⟩ := boxres w x y
  rw [← HW.out] at x0 x1 c0 f0 b0
  have X0 := hid x0
  have X1 := hid x1
  have C0 := hid c0
  have F0 := hid f0
  have HB0 := hid b0
  clear x0 x1 c0 f0 b0
  rw [HX.out] at X0 HW ⊢
  rw [HY.out] at X1 HW ⊢
  unfold twoI
  go_enter Try.func7, Try.ntmps7
  go_wp2_with fail
  rw [← HW.out]
  have x0 := X0.out
  have x1 := X1.out
  refine (tree_new_in _ xo h21 h161).mono ?_
  rintro e w1 ⟨t1, P1, rfl, hb1, ha1, ht1, hp1⟩
  have HT1 := hid ht1
  have HA1 := hid ha1
  have HP1 := hid hp1
  have HB1 := hid hb1
  have HC1 := hid hb1
  clear ht1 ha1 hb1 hp1 x0 x1
  have x0 := below_keep HB1.out _ _ X0.out
  have x1 := below_keep HB1.out _ _ X1.out
  go_wp2_with fail
  refine (tree_new_in _ yo h22 h162).mono ?_
  rintro e w2 ⟨t2, P2, rfl, hb2, ha2, ht2, hp2⟩
  have HT2 := hid ht2
  have HA2 := hid ha2
  have HP2 := hid hp2
  have HB2 := hid (below_step HB1.out hb2)
  have HC2 := hid hb2
  clear ht2 ha2 hb2 hp2 x0 x1
  have x0 := below_keep HB2.out _ _ X0.out
  have x1 := below_keep HB2.out _ _ X1.out
  go_wp2_with fail
  refine (few_any _ _ os ((hv.below HB0.out).below HB2.out)).mono ?_
  rw [hf]
  rintro e w3 ⟨rfl, rfl⟩
  go_wp2_with fail
  refine (awake_yes _).mono ?_
  rintro e wz ⟨rfl, hbz⟩
  have HBZ := hid (below_step HB2.out hbz)
  have c1 := below_keep HBZ.out _ _ C0.out
  have f1 := (HBZ.out.frozen (p := ⟨w.heap.size + 1, 0, none⟩) (blk_lt C0.out)).trans F0.out
  clear hbz
  go_wp2
  have c2 := World.cell?_setCell_same' wz ⟨w.heap.size + 1, 0, none⟩ (.bool true) (by rw [c1]; rfl)
  refine bodyPost_ret (v := .bool true) (by simp [results, Try.results7, go_sem, c2]) rfl ⟨rfl, (below_step HB0.out HBZ.out).setCell (p := ⟨w.heap.size + 1, 0, none⟩) (by show w.heap.size ≤ w.heap.size + 1; omega) _⟩
end Go.Proofs.Ytpckaglefmpkcaa
