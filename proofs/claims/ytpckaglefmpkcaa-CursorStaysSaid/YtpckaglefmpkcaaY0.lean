/- Cursors: New, Next, Seek. -/
import Derived.Test.YtpckaglefmpkcaaW6
namespace Go.Proofs.Ytpckaglefmpkcaa
open Go.RowKit
set_option maxRecDepth 100000

/-- Block c is a cursor of the tree at block a, from lo to hi, that stands at a text. -/
def CurAt (w : World) (c a : Nat) (lo hi at_ : List Nat) : Prop := w.heap[c]? = some (.cells #[.pointer (some ⟨a, 0, none⟩), .string (str lo), .string (str hi), .string (str at_)] 111 (0, 0))
section
variable {w w' : World} {c a : Nat} {lo hi at_ : List Nat}
theorem CurAt.lt (h : CurAt w c a lo hi at_) : c < w.heap.size := (Array.getElem?_eq_some_iff.1 h).1
theorem CurAt.c0 (h : CurAt w c a lo hi at_) : w.cell? ⟨c, 0, none⟩ = some (.pointer (some ⟨a, 0, none⟩)) := cell_of_row w c 0 _ _ _ h
theorem CurAt.c1 (h : CurAt w c a lo hi at_) : w.cell? ⟨c, 1, none⟩ = some (.string (str lo)) := cell_of_row w c 1 _ _ _ h
theorem CurAt.c2 (h : CurAt w c a lo hi at_) : w.cell? ⟨c, 2, none⟩ = some (.string (str hi)) := cell_of_row w c 2 _ _ _ h
theorem CurAt.c3 (h : CurAt w c a lo hi at_) : w.cell? ⟨c, 3, none⟩ = some (.string (str at_)) := cell_of_row w c 3 _ _ _ h
theorem CurAt.f (h : CurAt w c a lo hi at_) (i : Nat) : w.frozen? ⟨c, i, none⟩ = false := by unfold CurAt at h; simp [World.frozen?, h]
theorem CurAt.keep (h : CurAt w c a lo hi at_) (hk : w'.heap[c]? = w.heap[c]?) : CurAt w' c a lo hi at_ := hk.trans h
theorem CurAt.below (h : CurAt w c a lo hi at_) (hb : Below w.heap.size w w') : CurAt w' c a lo hi at_ := h.keep (hb.block c h.lt)
theorem CurAt.chg {F F' : List Nat} (h : CurAt w c a lo hi at_) (hc : Chg F w w' F') (hF : c ∉ F) : CurAt w' c a lo hi at_ := h.keep (hc.block c h.lt hF)
theorem CurAt.set (h : CurAt w c a lo hi at_) (k : List Nat) : CurAt (w.setCell ⟨c, 3, none⟩ (.string (str k))) c a lo hi k := by
  unfold CurAt at h ⊢
  simp [World.setCell, Array.getElem?_modify, h]
theorem CurAt.set_chg (w : World) (c : Nat) (v : Value) : Chg [c] w (w.setCell ⟨c, 3, none⟩ v) [c] := (Chg.refl [c] w).setCell (p := ⟨c, 3, none⟩) (by simp) v
end
/-- What Next tells. -/
def nxt (l : List Pr) (hi at_ : List Nat) : Option Pr := (l[atN l at_]?).bind fun q => if hi = [] ∨ q.1 < hi then some q else none
theorem beq_nil_str (xs : List Nat) : (str xs).toList = [] ↔ xs = [] := by
  rw [str_toList]
  cases xs <;> simp

theorem next_nil (w : World) : Calls Try.prog 38 #[.pointer none] w fun e w' => e = .returned (.tuple #[.string (str []), .string (str []), .bool false]) ∧ w' = w := by
  rw [← str_nil]
  go_enter Try.func38, Try.ntmps38
  go_wp2
  go_ret3
  exact ⟨rfl, rfl⟩
theorem seek_nil (w : World) (s : ByteArray) : Calls Try.prog 40 #[.pointer none, .string s] w fun e w' => e = .returned (.int .i64 2) ∧ w' = w := by
  go_enter Try.func40, Try.ntmps40
  go_wp2
  go_ret
  exact ⟨rfl, rfl⟩
theorem new_nil (w : World) (s t : ByteArray) : Calls Try.prog 37 #[.pointer none, .string s, .string t] w fun e w' => e = .returned (.tuple #[.pointer none, .int .i64 2]) ∧ w' = w := by
  go_enter Try.func37, Try.ntmps37
  go_wp2
  go_ret2
  exact ⟨rfl, rfl⟩
theorem ne_nil_str {hi : List Nat} (h : hi ≠ []) : ¬ (str hi).toList = [] ∧ (str hi).toList.isEmpty = false := str_ne h
theorem new_bad (w : World) (a : Nat) (lo hi : List Nat) (blo : Byt lo) (bhi : Byt hi) (h0 : hi ≠ []) (h1 : hi < lo) :
    Calls Try.prog 37 #[.pointer (some ⟨a, 0, none⟩), .string (str lo), .string (str hi)] w fun e w' => e = .returned (.tuple #[.pointer none, .int .i64 17]) ∧ w' = w := by
  obtain ⟨e1, e2⟩ := ne_nil_str h0
  have e3 : Op.bytesLess (str hi).toList (str lo).toList = true := by rw [less_str bhi blo, decide_eq_true h1]
  go_enter Try.func37, Try.ntmps37
  go_wp2
  go_ret2
  exact ⟨rfl, rfl⟩
/-- A text that has bytes, copied: the same bytes. -/
theorem stringslite_big (w : World) (s : ByteArray) (h0 : s.size ≠ 0) (hle : s.size ≤ 140737488355328) : Calls Try.prog 59 #[.string s] w fun e w' => e = .returned (.string s) ∧ Below w.heap.size w w' := by
  obtain ⟨i0, hi, hz0, hz1, hz2⟩ := info_parts Try.info5
  have hinfo : (Try.prog.info? 5).map (·.size) = some 1 := by rw [hi]; simp [hz1]
  have hco : Try.prog.cellsOf 5 = 1 := by kernel_rfl
  obtain ⟨M, HM⟩ : ∃ M, Hid (M = madeCells (Value.int .u8 0).cells (((s.size : Nat) : Int).toNat * i0.size)) := ⟨_, rfl⟩
  have hMs : M.size = s.size := by rw [HM.out, size_madeCells, hz1]; simp
  have hmk : ∀ W : World, (Instr.makeSlice 121 (.int .i64 (s.size : Int)) (.int .i64 (s.size : Int))).run Try.prog W = .ok (.slice (some ⟨W.heap.size, 0, none⟩) s.size s.size) (W.alloc (.cells M 5)) := fun W => by
    have h := run_make (P := Try.prog) W 121 5 i0 (.int .u8 0) Try.underlying121 hi hz0 .i64 .i64 (s.size : Int) (s.size : Int) (by omega) (by omega) (by rw [hz2]; omega) (by omega)
    rw [← HM.out] at h
    simpa using h
  have hcp := Lib.run_copy_row_string (P := Try.prog) (w.alloc (.cells M 5)) 121 9 3 5 w.heap.size 0 s.size s.size s M 5 Try.underlying121 hinfo (heap_alloc_new w _) (Nat.le_refl _) (by omega)
  obtain ⟨Y, HY⟩ : ∃ Y, Hid (Y = (M.toList.take 0 ++ Lib.byteCells s.data.toList ++ M.toList.drop (0 + s.size)).toArray) := ⟨_, rfl⟩
  rw [← HY.out] at hcp
  have hYl : Y.toList = Lib.byteCells s.data.toList := by
    rw [HY.out, List.toList_toArray, List.take_zero, List.nil_append, List.drop_of_length_le (by rw [Array.length_toList]; omega), List.append_nil]
  have hYs : Y.size = s.size := by rw [← Array.length_toList, hYl, Lib.byteCells_length, ← Lib.size_eq]
  have hrow : ((w.alloc (.cells M 5)).setRow w.heap.size Y).heap[w.heap.size]? = some (.cells Y 5 (0, 0)) := setRow_heap _ _ M _ 5 (0, 0) (heap_alloc_new w _)
  have hne : s.data.toList ≠ [] := fun e => h0 (by rw [Lib.size_eq, e]; rfl)
  have hus := Lib.run_unsafeString_row (P := Try.prog) ((w.alloc (.cells M 5)).setRow w.heap.size Y) 122 3 9 5 Try.underlying122 hco w.heap.size Y.size (by unfold World.shape?; rw [hrow]) s.data.toList hne (by rw [← Lib.size_eq]; omega) (by rw [← Lib.size_eq]; omega)
    (fun j x hx => Lib.cells_of_row hrow Y.size j _ (by rw [List.take_of_length_le (by rw [Array.length_toList]; exact Nat.le_refl _), hYl]; simp [Lib.byteCells, hx]))
  rw [← Lib.size_eq] at hus
  have HYS := hid hYs
  have HB : Hid (Below w.heap.size w (((w.alloc (.cells M 5)).setRow w.heap.size Y).freeze ⟨w.heap.size, 0, none⟩ s.size)) := by
    have b1 : Below w.heap.size w (w.alloc (.cells M 5)) := (Below.refl _ w).alloc (Nat.le_refl _) _
    have b2 : Below w.heap.size (w.alloc (.cells M 5)) ((w.alloc (.cells M 5)).setRow w.heap.size Y) := ⟨rfl, rfl, rfl, by simp, fun k hk => setRow_other _ _ _ _ (by omega)⟩
    exact Lib.below_freeze (b1.trans b2) (p := ⟨w.heap.size, 0, none⟩) (Nat.le_refl _) _
  clear hYl hrow hne hMs hYs
  go_enter Try.func59, Try.ntmps59
  go_wp2
  go_ret
  exact ⟨rfl, HB.out⟩
theorem clone_big_some (w : World) (s : ByteArray) (h0 : s.size ≠ 0) (hle : s.size ≤ 140737488355328) : Calls Try.prog 49 #[.string s] w fun e w' => e = .returned (.string s) ∧ Below w.heap.size w w' := by
  go_enter Try.func49, Try.ntmps49
  go_wp2_with fail
  refine (stringslite_big w s h0 hle).mono ?_
  rintro e w' ⟨rfl, hb⟩
  go_wp2
  go_ret
  exact ⟨rfl, hb⟩

set_option maxRecDepth 100000 in
theorem clone_big (w : World) (xs : List Nat) (hle : xs.length ≤ 140737488355328) : Calls Try.prog 49 #[.string (str xs)] w fun e w' => e = .returned (.string (str xs)) ∧ Below w.heap.size w w' := by
  by_cases h : xs = []
  · subst h
    have h1 : Calls Try.prog 59 #[.string (str [])] w fun e w' => e = .returned (.string (str [])) ∧ Below w.heap.size w w' := by
      rw [← str_nil]
      go_enter Try.func59, Try.ntmps59
      go_wp2
      go_ret
      exact ⟨rfl, Below.refl _ _⟩
    go_enter Try.func49, Try.ntmps49
    go_wp2_with fail
    refine h1.mono ?_
    rintro e w2 ⟨rfl, hb⟩
    go_wp2
    go_ret
    exact ⟨rfl, hb⟩
  · refine clone_big_some w (str xs) ?_ (by rw [str_size]; exact hle)
    rw [str_size]
    exact fun e => h (List.eq_nil_of_length_eq_zero e)
theorem new_ok (w : World) (a : Nat) (lo hi : List Nat) (blo : Byt lo) (bhi : Byt hi) (hll : lo.length ≤ 140737488355328) (hhl : hi.length ≤ 140737488355328) (h0 : hi = [] ∨ ¬ hi < lo) :
    Calls Try.prog 37 #[.pointer (some ⟨a, 0, none⟩), .string (str lo), .string (str hi)] w fun e w' => ∃ c, e = .returned (.tuple #[.pointer (some ⟨c, 0, none⟩), .int .i64 0]) ∧ Below w.heap.size w w' ∧ w.heap.size ≤ c ∧ CurAt w' c a lo hi lo := by
  have fin : ∀ w2, Below w.heap.size w w2 → Below w.heap.size w (w2.alloc (.cells #[.pointer (some ⟨a, 0, none⟩), .string (str lo), .string (str hi), .string (str lo)] 111)) ∧ w.heap.size ≤ w2.heap.size ∧ CurAt (w2.alloc (.cells #[.pointer (some ⟨a, 0, none⟩), .string (str lo), .string (str hi), .string (str lo)] 111)) w2.heap.size a lo hi lo :=
    fun w2 hb => ⟨hb.alloc hb.size _, hb.size, heap_alloc_new w2 _⟩
  have HFIN := hid fin
  clear fin
  by_cases hn : hi = []
  · subst hn
    have HE := hid str_nil
    rw [← str_nil]
    go_enter Try.func37, Try.ntmps37
    go_wp2_with fail
    refine (clone_big w lo (by omega)).mono ?_
    rintro e w1 ⟨rfl, hb1⟩
    have HB1 := hid hb1
    clear hb1
    go_wp2_with fail
    rw [HE.out]
    refine (clone_big w1 [] (by simp)).mono ?_
    rintro e w2 ⟨rfl, hb2⟩
    have HF := hid (HFIN.out w2 (below_step HB1.out hb2))
    clear hb2
    go_wp2
    go_ret2
    exact ⟨_, rfl, HF.out⟩
  · have hlt := h0.resolve_left hn
    obtain ⟨e1, e2⟩ := ne_nil_str hn
    have e3 : Op.bytesLess (str hi).toList (str lo).toList = false := by rw [less_str bhi blo, decide_eq_false hlt]
    go_enter Try.func37, Try.ntmps37
    go_wp2_with fail
    refine (clone_big w lo (by omega)).mono ?_
    rintro e w1 ⟨rfl, hb1⟩
    have HB1 := hid hb1
    clear hb1
    go_wp2_with fail
    refine (clone_big w1 hi (by omega)).mono ?_
    rintro e w2 ⟨rfl, hb2⟩
    have HF := hid (HFIN.out w2 (below_step HB1.out hb2))
    clear hb2
    go_wp2
    go_ret2
    exact ⟨_, rfl, HF.out⟩
section
variable {w : World} {c a o : Nat} {lo hi at_ : List Nat} {l : List Pr} {P : Bl}
theorem next_some {q : Pr} (hc : CurAt w c a lo hi at_) (ht : TreeAt w a o l P) (hl : l.length ≤ 5000) (hk : Keyed l) (bhi : Byt hi) (bat : Byt at_) (hn : nxt l hi at_ = some q) :
    Calls Try.prog 38 #[.pointer (some ⟨c, 0, none⟩)] w fun e w' => e = .returned (.tuple #[.string (str q.1), .string (str q.2), .bool true]) ∧ CurAt w' c a lo hi (q.1 ++ [0]) ∧ Chg [c] w w' [c] := by
  obtain ⟨hq, hh⟩ : l[atN l at_]? = some q ∧ (hi = [] ∨ q.1 < hi) := by
    unfold nxt at hn
    cases hx : l[atN l at_]? with
    | none => rw [hx] at hn; cases hn
    | some x =>
      rw [hx] at hn
      simp only [Option.bind_some] at hn
      split at hn
      · injection hn with hn; subst hn; exact ⟨rfl, by assumption⟩
      · cases hn
  have hmem := List.mem_of_getElem? hq
  have bq := ht.byt _ hmem
  have h64 := hk _ hmem
  have hq64 : q.1.length ≤ 64 := by unfold key64 at h64; exact (of_decide_eq_true h64).2
  have HCE : Hid (ceilR l at_ = .tuple #[.string (str q.1), .string (str q.2), .int .i64 0]) := by show _ = _; unfold ceilR; rw [hq]
  have HT := hid ht
  have HC := hid hc
  have BAT := hid bat
  have hadd := fun t => run_add0 t q.1 (by omega)
  clear hn hq hmem h64 ht
  obtain ⟨kx, vx⟩ := q
  have fin : ∀ w2, Below w.heap.size w w2 → CurAt (w2.setCell ⟨c, 3, none⟩ (.string (str (kx ++ [0])))) c a lo hi (kx ++ [0]) ∧ Chg [c] w (w2.setCell ⟨c, 3, none⟩ (.string (str (kx ++ [0])))) [c] := fun w2 hb =>
    ⟨(HC.out.below hb).set _, (Chg.of_below (F := [c]) hb).trans (CurAt.set_chg _ _ _)⟩
  have HFIN := hid fin
  clear fin
  have c0 := hc.c0
  have c2 := hc.c2
  have c3 := hc.c3
  clear hc
  rcases hh with hh | hh
  · subst hh
    have HE := hid str_nil
    rw [← str_nil] at c2
    go_enter Try.func38, Try.ntmps38
    go_wp2
    go_region_held3 (fun W' => W'.cell? ⟨c, 0, none⟩ = some (.pointer (some ⟨a, 0, none⟩)) ∧ W'.cell? ⟨c, 3, none⟩ = some (.string (str at_))) (first | exact ⟨c0, c3⟩ | exact ⟨(HC.out.below HB.out).c0, (HC.out.below HB.out).c3⟩)
      (first | (go_at_call 22; ((with_reducible refine ((HT.out.below (Below.refl _ w).drew).ceil hl at_ BAT.out).mono ?_); rw [HCE.out]; rintro e w2 ⟨rfl, hb⟩; have HB : Hid (Below w.heap.size w w2) := below_step (Below.refl _ w).drew hb; clear hb)))
    clear c0 c2 c3
    have c2 := (HC.out.below HB.out).c2
    rw [← str_nil] at c2
    have c3 := (HC.out.below HB.out).c3
    have f3 := (HC.out.below HB.out).f 3
    go_wp2
    go_ret3
    exact ⟨rfl, HFIN.out _ HB.out⟩
  · have hne : hi ≠ [] := fun e => by subst e; exact List.not_lt_nil _ hh
    obtain ⟨e1, e2⟩ := ne_nil_str hne
    have e3 : Op.bytesLess (str kx).toList (str hi).toList = true := by rw [less_str bq.1 bhi, decide_eq_true hh]
    go_enter Try.func38, Try.ntmps38
    go_wp2
    go_region_held3 (fun W' => W'.cell? ⟨c, 0, none⟩ = some (.pointer (some ⟨a, 0, none⟩)) ∧ W'.cell? ⟨c, 3, none⟩ = some (.string (str at_))) (first | exact ⟨c0, c3⟩ | exact ⟨(HC.out.below HB.out).c0, (HC.out.below HB.out).c3⟩)
      (first | (go_at_call 22; ((with_reducible refine ((HT.out.below (Below.refl _ w).drew).ceil hl at_ BAT.out).mono ?_); rw [HCE.out]; rintro e w2 ⟨rfl, hb⟩; have HB : Hid (Below w.heap.size w w2) := below_step (Below.refl _ w).drew hb; clear hb)))
    clear c0 c2 c3
    have c2 := (HC.out.below HB.out).c2
    have c3 := (HC.out.below HB.out).c3
    have f3 := (HC.out.below HB.out).f 3
    go_wp2
    go_ret3
    exact ⟨rfl, HFIN.out _ HB.out⟩
theorem next_none (hc : CurAt w c a lo hi at_) (ht : TreeAt w a o l P) (hl : l.length ≤ 5000) (bhi : Byt hi) (bat : Byt at_) (hn : nxt l hi at_ = none) :
    Calls Try.prog 38 #[.pointer (some ⟨c, 0, none⟩)] w fun e w' => e = .returned (.tuple #[.string (str []), .string (str []), .bool false]) ∧ Below w.heap.size w w' := by
  have HT := hid ht
  have HC := hid hc
  have BAT := hid bat
  have c0 := hc.c0
  have c2 := hc.c2
  have c3 := hc.c3
  have HE := hid str_nil
  cases hx : l[atN l at_]? with
  | none =>
    have HCE : Hid (ceilR l at_ = .tuple #[.string (str []), .string (str []), .int .i64 14]) := by show _ = _; unfold ceilR; rw [hx]
    clear hc ht hn hx
    go_enter Try.func38, Try.ntmps38
    go_wp2
    go_region_held3 (fun W' => W'.cell? ⟨c, 0, none⟩ = some (.pointer (some ⟨a, 0, none⟩)) ∧ W'.cell? ⟨c, 3, none⟩ = some (.string (str at_))) (first | exact ⟨c0, c3⟩ | exact ⟨(HC.out.below HB.out).c0, (HC.out.below HB.out).c3⟩)
      (first | (go_at_call 22; ((with_reducible refine ((HT.out.below (Below.refl _ w).drew).ceil hl at_ BAT.out).mono ?_); rw [HCE.out]; rintro e w2 ⟨rfl, hb⟩; have HB : Hid (Below w.heap.size w w2) := below_step (Below.refl _ w).drew hb; clear hb)))
    go_wp2
    go_ret3
    rw [HE.out]
    exact ⟨rfl, HB.out⟩
  | some q =>
    have hh : ¬ (hi = [] ∨ q.1 < hi) := fun h => by
      unfold nxt at hn
      rw [hx] at hn
      simp only [Option.bind_some, if_pos h] at hn
      cases hn
    have hne : hi ≠ [] := fun e => hh (.inl e)
    have bq := ht.byt _ (List.mem_of_getElem? hx)
    have HCE : Hid (ceilR l at_ = .tuple #[.string (str q.1), .string (str q.2), .int .i64 0]) := by show _ = _; unfold ceilR; rw [hx]
    obtain ⟨kx, vx⟩ := q
    obtain ⟨e1, e2⟩ := ne_nil_str hne
    have e3 : Op.bytesLess (str kx).toList (str hi).toList = false := by rw [less_str bq.1 bhi, decide_eq_false (fun h => hh (.inr h))]
    clear hc ht hn hx hh
    go_enter Try.func38, Try.ntmps38
    go_wp2
    go_region_held3 (fun W' => W'.cell? ⟨c, 0, none⟩ = some (.pointer (some ⟨a, 0, none⟩)) ∧ W'.cell? ⟨c, 3, none⟩ = some (.string (str at_))) (first | exact ⟨c0, c3⟩ | exact ⟨(HC.out.below HB.out).c0, (HC.out.below HB.out).c3⟩)
      (first | (go_at_call 22; ((with_reducible refine ((HT.out.below (Below.refl _ w).drew).ceil hl at_ BAT.out).mono ?_); rw [HCE.out]; rintro e w2 ⟨rfl, hb⟩; have HB : Hid (Below w.heap.size w w2) := below_step (Below.refl _ w).drew hb; clear hb)))
    clear c0 c2 c3
    have c2 := (HC.out.below HB.out).c2
    go_wp2
    go_ret3
    rw [HE.out]
    exact ⟨rfl, HB.out⟩
theorem seek_bad (hc : CurAt w c a lo hi at_) (k : List Nat) (bk : Byt k) (blo : Byt lo) (bhi : Byt hi) (h : k < lo ∨ (¬ k < lo ∧ hi ≠ [] ∧ hi < k)) :
    Calls Try.prog 40 #[.pointer (some ⟨c, 0, none⟩), .string (str k)] w fun e w' => e = .returned (.int .i64 17) ∧ w' = w := by
  have c1 := hc.c1
  have c2 := hc.c2
  clear hc
  rcases h with h | ⟨h1, h2, h3⟩
  · have e3 : Op.bytesLess (str k).toList (str lo).toList = true := by rw [less_str bk blo, decide_eq_true h]
    go_enter Try.func40, Try.ntmps40
    go_wp2
    go_ret
    exact ⟨rfl, rfl⟩
  · have e3 : Op.bytesLess (str k).toList (str lo).toList = false := by rw [less_str bk blo, decide_eq_false h1]
    have e4 : Op.bytesLess (str k).toList (str hi).toList = false := by rw [less_str bk bhi, decide_eq_false (fun h => List.lt_irrefl _ (List.lt_trans h3 h))]
    have e5 : ¬ (str k).toList = (str hi).toList := fun e => by rw [str_toList, str_toList] at e; rw [ofNat_inj bk bhi e] at h3; exact List.lt_irrefl _ h3
    have e6 : ((str k).toList == (str hi).toList) = false := by rw [beq_eq_false_iff_ne]; exact e5
    obtain ⟨e1, e2⟩ := ne_nil_str h2
    go_enter Try.func40, Try.ntmps40
    go_wp2
    go_ret
    exact ⟨rfl, rfl⟩
theorem seek_ok (hc : CurAt w c a lo hi at_) (k : List Nat) (bk : Byt k) (blo : Byt lo) (bhi : Byt hi) (hkl : k.length ≤ 100000) (h1 : ¬ k < lo) (h2 : hi = [] ∨ ¬ hi < k) :
    Calls Try.prog 40 #[.pointer (some ⟨c, 0, none⟩), .string (str k)] w fun e w' => e = .returned (.int .i64 0) ∧ CurAt w' c a lo hi k ∧ Chg [c] w w' [c] := by
  have c1 := hc.c1
  have c2 := hc.c2
  have HC := hid hc
  have e3 : Op.bytesLess (str k).toList (str lo).toList = false := by rw [less_str bk blo, decide_eq_false h1]
  have fin : ∀ w2, Below w.heap.size w w2 → CurAt (w2.setCell ⟨c, 3, none⟩ (.string (str k))) c a lo hi k ∧ Chg [c] w (w2.setCell ⟨c, 3, none⟩ (.string (str k))) [c] := fun w2 hb =>
    ⟨(HC.out.below hb).set _, (Chg.of_below (F := [c]) hb).trans (CurAt.set_chg _ _ _)⟩
  have HFIN := hid fin
  clear fin hc
  by_cases hn : hi = []
  · subst hn
    rw [← str_nil] at c2
    go_enter Try.func40, Try.ntmps40
    go_wp2_with fail
    refine (clone_any _ k (by omega)).mono ?_
    rintro e w2 ⟨rfl, hb⟩
    have HB := hid hb
    clear hb c1 c2
    have c3 := (HC.out.below HB.out).c3
    have f3 := (HC.out.below HB.out).f 3
    go_wp2
    go_ret
    exact ⟨rfl, HFIN.out _ HB.out⟩
  · have hlt := h2.resolve_left hn
    have e6 : (!Op.bytesLess (str k).toList (str hi).toList && !(str k).toList == (str hi).toList) = false := by
      rw [less_str bk bhi]
      by_cases h3 : k < hi
      · rw [decide_eq_true h3]; rfl
      · have e : k = hi := Decidable.byContradiction fun ne => hlt (lt_of_not h3 ne)
        subst e
        simp
    obtain ⟨e1, e2⟩ := ne_nil_str hn
    go_enter Try.func40, Try.ntmps40
    go_wp2_with fail
    refine (clone_any _ k (by omega)).mono ?_
    rintro e w2 ⟨rfl, hb⟩
    have HB := hid hb
    clear hb c1 c2
    have c3 := (HC.out.below HB.out).c3
    have f3 := (HC.out.below HB.out).f 3
    go_wp2
    go_ret
    exact ⟨rfl, HFIN.out _ HB.out⟩
end
end Go.Proofs.Ytpckaglefmpkcaa
