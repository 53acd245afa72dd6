/- Trees and cursors, each at its block; an iterator that hands over pairs. -/
import Derived.Test.YtlnagdodnkhbmaaGreatUD
import Derived.RangeFuncNested
import Derived.Shelf.Abstract
import Derived.Shelf.RegionOpen
import Derived.OwnWalkIn
import Derived.TacticsInMore
import Derived.LoopNIn
import Derived.LoopIn
import Derived.Sort.QuietIn
import Derived.Deep.RegionHeld3
import Derived.Scope
import Derived.WalkMore
namespace Go.Proofs.YtlnagdodnkhbmaaGreat
open Go.RowKit Go.Shelf
attribute [local go_sem] Oper.semAt_some
set_option maxRecDepth 100000
/-- A function value that hands over l, one by one; the blocks of G are its own. -/
structure Walks (w : World) (gf : Nat) (lb : Array Value) (G : Bl) (l : List Pr) : Prop where
  en : ∀ args w, (callFunc gf args).run Tryz.prog w = .ok (.enter gf args) w
  lt : ∀ b, G b → b < w.heap.size
  gives : Gives Tryz.prog gf lb encP l G w
theorem run_eql_nil (gf : Nat) (lb : Array Value) (W : World) : (binOp .eql 143 (.func (.func gf) #[] lb) .nilFunc).run Tryz.prog W = .ok (.bool false) W := by
  have h : (Op.equalIn (9999 + 1) 143 (.func (.func gf) #[] lb) .nilFunc).run Tryz.prog W = .ok false W := by
    unfold Op.equalIn
    simp [run_underlying Tryz.underlying143]
  simp [binOp, Op.equal, Op.maxDepth, h]
theorem keepsDrewN (W : World) (n : Nat) : KeepsOthers W (W.drewN n) := ⟨Nat.le_refl _, fun _ _ h _ => h⟩
theorem cellFar {W : World} {a b : Addr} {v : Value} (h : W.cell? a = some v) (hne : a.block ≠ b.block) (u : Value) : (W.setCell b u).cell? a = some v :=
  (World.cell?_of_block (Below.heap_setCell _ _ _ _ hne)).trans h
theorem cellNew (w : World) (v : Value) (t : TypeId) : (w.alloc (.cells #[v] t)).cell? ⟨w.heap.size, 0, none⟩ = some v ∧ (w.alloc (.cells #[v] t)).frozen? ⟨w.heap.size, 0, none⟩ = false := ⟨(One.new w t v).cell, (One.new w t v).frozen⟩
theorem cellPast {w : World} {a : Addr} {v : Value} (o : Obj) (h : w.cell? a = some v) : (w.alloc o).cell? a = some v := below_keep ((Below.refl _ w).alloc (Nat.le_refl _) o) _ _ h
theorem frozenPast {w : World} {a : Addr} {v : Value} (o : Obj) (h : w.cell? a = some v) (hf : w.frozen? a = false) : (w.alloc o).frozen? a = false := (((Below.refl _ w).alloc (Nat.le_refl _) o).frozen (blk_lt h)).trans hf
/-- Block p is a tree of order o that has the pairs l, on blocks of P. -/
def TreeAt (w : World) (p o : Nat) (l : List Pr) (P : Bl) : Prop := ∃ H g t, TreeIn w p o l P H g t
section
variable {w w' : World} {p o : Nat} {l l' : List Pr} {P : Bl}
theorem TreeAt.lt (h : TreeAt w p o l P) : p < w.heap.size := let ⟨_, _, _, h⟩ := h; h.c.lt
theorem TreeAt.out (h : TreeAt w p o l P) : ¬ P p := let ⟨_, _, _, h⟩ := h; h.out
theorem TreeAt.under (h : TreeAt w p o l P) : Under P w := let ⟨_, _, _, h⟩ := h; h.under
theorem TreeAt.byt (h : TreeAt w p o l P) : PByt l := let ⟨_, _, _, h⟩ := h; h.byt
theorem TreeAt.rise (h : TreeAt w p o l P) : Rising l := let ⟨_, _, _, h⟩ := h; h.rise
theorem TreeAt.keep (h : TreeAt w p o l P) (hp : w'.heap[p]? = w.heap[p]?) (hk : ∀ b, P b → w'.heap[b]? = w.heap[b]?) (hs : w.heap.size ≤ w'.heap.size) : TreeAt w' p o l P :=
  let ⟨H, g, t, h⟩ := h; ⟨H, g, t, h.keep hp hk hs⟩
theorem TreeAt.below (h : TreeAt w p o l P) (hb : Below w.heap.size w w') : TreeAt w' p o l P := let ⟨H, g, t, h⟩ := h; ⟨H, g, t, h.below hb⟩
/-- What turns other blocks leaves a tree as it was. -/
theorem TreeAt.chg {F F' : List Nat} (h : TreeAt w p o l P) (hc : Chg F w w' F') (hp : p ∉ F) (hP : ∀ b ∈ F, ¬ P b) : TreeAt w' p o l P :=
  h.keep (hc.block p h.lt hp) (fun b hb => hc.block b (h.under b hb) fun hF => hP b hF hb) hc.size
theorem Done.tree (h : Done P w w' p o l') : TreeAt w' p o l' (New P w w') := h.1
/-- A list's block is not its row. -/
theorem TreeAt.len (h : TreeAt w p o l P) : Calls Tryz.prog 53 #[.pointer (some ⟨p, 0, none⟩)] w fun e w' => e = .returned (.int .i64 (l.length : Int)) ∧ Below w.heap.size w w' := by
  obtain ⟨H, g, t, h⟩ := h
  refine (tree_len w p o l P H g t h).mono ?_
  rintro e w' ⟨rfl, rfl⟩
  exact ⟨rfl, Below.refl _ _⟩
theorem TreeAt.get (h : TreeAt w p o l P) (hl : l.length ≤ 5000) (k : List Nat) (hkb : Byt k) (hk : k.length ≤ 5000) :
    Calls Tryz.prog 57 #[.pointer (some ⟨p, 0, none⟩), .string (str k)] w fun e w' => e = .returned (.tuple #[.string (str (getV l k)), .int .i64 (getE l k)]) ∧ Below w.heap.size w w' :=
  let ⟨_, _, _, h⟩ := h; tree_get h hl k hkb hk
theorem TreeAt.put (h : TreeAt w p o l P) (hl : l.length ≤ 5000) (k v : List Nat) (hkb : Byt k) (hvb : Byt v) (hk : k.length ≤ 5000) :
    Calls Tryz.prog 81 #[.pointer (some ⟨p, 0, none⟩), .string (str k), .string (str v)] w fun e w' => e = .returned (.tuple #[.string (str (putA l k v)), .bool (putW l k v), .int .i64 (putE k v)]) ∧ Done P w w' p o (putN l k v) :=
  let ⟨_, _, _, h⟩ := h; tree_put h hl k v hkb hvb hk
theorem TreeAt.del (h : TreeAt w p o l P) (hl : l.length ≤ 5000) (k : List Nat) (hkb : Byt k) (hk : k.length ≤ 5000) :
    Calls Tryz.prog 80 #[.pointer (some ⟨p, 0, none⟩), .string (str k)] w fun e w' => e = .returned (.tuple #[.string (str (delA l k)), .int .i64 (getE l k)]) ∧ Done P w w' p o (delN l k) :=
  let ⟨_, _, _, h⟩ := h; tree_del h hl k hkb hk
theorem TreeAt.ceil (h : TreeAt w p o l P) (hl : l.length ≤ 5000) (k : List Nat) (hkb : Byt k) :
    Calls Tryz.prog 96 #[.pointer (some ⟨p, 0, none⟩), .string (str k)] w fun e w' => e = .returned (ceilR l k) ∧ Below w.heap.size w w' :=
  let ⟨_, _, _, h⟩ := h; tree_ceil_ h hl k hkb
theorem TreeAt.all (h : TreeAt w p o l P) : Calls Tryz.prog 77 #[.pointer (some ⟨p, 0, none⟩)] w fun e w' => ∃ gf lb G, e = .returned (.func (.func gf) #[] lb) ∧ Below w.heap.size w w' ∧ Walks w' gf lb G l ∧ ∀ b, G b → P b ∨ w.heap.size ≤ b := by
  obtain ⟨H, g, t, h⟩ := h
  refine (tree_all w p o l P H g t h).mono ?_
  rintro e w' ⟨h1, h2, h3, h4⟩
  refine ⟨_, _, _, h1, h2, ⟨enters_of Tryz.func137 (by kernel_rfl) rfl, fun b hb => ?_, h4⟩, fun b hb => ?_⟩
  · rcases hb with hb | hb
    · omega
    · have := h.under b hb; omega
  · rcases hb with hb | hb
    · exact .inr (by omega)
    · exact .inl hb
end
theorem tree_new_at (w : World) (o : Nat) (h2 : 2 ≤ o) (h16 : o ≤ 16) : Calls Tryz.prog 70 #[.int .i64 (o : Int)] w fun e w' => ∃ a P, e = .returned (.tuple #[.pointer (some ⟨a, 0, none⟩), .int .i64 0]) ∧ Below w.heap.size w w' ∧ w.heap.size ≤ a ∧ TreeAt w' a o [] P := by
  refine (tree_new w o h2 h16).mono ?_
  rintro e w' ⟨rfl, hb, hs, ht⟩
  exact ⟨_, _, rfl, hb, by omega, _, _, _, ht⟩
/-- The same blocks on both sides may be more. -/
theorem Chg.wide2 {F K : List Nat} {w w' : World} (h : Chg F w w' F) (hk : ∀ k ∈ F, k ∈ K) : Chg K w w' K :=
  ⟨h.os, h.tape, h.output, h.size, fun k hl hK => h.block k hl fun hF => hK (hk k hF), fun _ h => .inl h⟩
theorem chg_cell {F F' : List Nat} {w w' : World} (h : Chg F w w' F') {a : Addr} {v : Value} (hc : w.cell? a = some v) (hF : a.block ∉ F) : w'.cell? a = some v :=
  (World.cell?_of_block (h.block _ (blk_lt hc) hF)).trans hc
/-- What stands behind a text is not ahead of it and a byte 0. -/
theorem next_lt : ∀ (y x : List Nat), y < x → ¬ x < y ++ [0]
  | [], x, _, h => by
    cases x with
    | nil => exact absurd ‹[] < []› (List.lt_irrefl _)
    | cons a x =>
      rw [List.nil_append, List.cons_lt_cons_iff] at h
      rcases h with h | ⟨_, h⟩
      · omega
      · exact List.not_lt_nil _ h
  | b :: y, [], h, _ => List.not_lt_nil _ h
  | b :: y, a :: x, h, h' => by
    rw [List.cons_append, List.cons_lt_cons_iff] at h'
    rw [List.cons_lt_cons_iff] at h
    rcases h with h | ⟨h, h2⟩
    · omega
    · subst h
      rcases h' with h' | ⟨_, h'⟩
      · omega
      · exact next_lt y x h2 h'
theorem lt_next (y : List Nat) : y < y ++ [0] := by
  have : y ++ [] < y ++ [0] := app_lt_ y
  rwa [List.append_nil] at this
where app_lt_ : ∀ y : List Nat, y ++ [] < y ++ [0]
  | [] => List.nil_lt_cons _ _
  | b :: y => by rw [List.cons_append, List.cons_append, List.cons_lt_cons_iff]; exact .inr ⟨rfl, app_lt_ y⟩
def SortedL (l : List Pr) : Prop := l.Pairwise fun a b => a.1 < b.1
theorem SortedL.at_ {l : List Pr} (h : SortedL l) {i j : Nat} {x y : Pr} (hij : i < j) (hi : l[i]? = some x) (hj : l[j]? = some y) : x.1 < y.1 := by
  obtain ⟨h1, rfl⟩ := List.getElem?_eq_some_iff.1 hi
  obtain ⟨h2, rfl⟩ := List.getElem?_eq_some_iff.1 hj
  exact List.pairwise_iff_getElem.1 h i j h1 h2 hij
theorem atN_nil (l : List Pr) : atN l [] = 0 := atN_of l [] 0 (Nat.zero_le _) (fun j p h => by omega) (fun p _ => List.not_lt_nil _)
theorem atN_key {l : List Pr} (h : SortedL l) {j : Nat} {x : Pr} (hj : l[j]? = some x) : atN l x.1 = j :=
  atN_of l x.1 j (Nat.le_of_lt (List.getElem?_eq_some_iff.1 hj).1) (fun i p hi hp => h.at_ hi hp hj) (fun p hp => by rw [hj] at hp; injection hp with hp; subst hp; exact List.lt_irrefl _)
theorem atN_next {l : List Pr} (h : SortedL l) {j : Nat} {x : Pr} (hj : l[j]? = some x) : atN l (x.1 ++ [0]) = j + 1 := by
  refine atN_of l _ (j + 1) (List.getElem?_eq_some_iff.1 hj).1 (fun i p hi hp => ?_) (fun p hp => next_lt _ _ (h.at_ (by omega) hj hp))
  rcases Nat.lt_or_ge i j with hij | hij
  · exact List.lt_trans (h.at_ hij hp hj) (lt_next _)
  · obtain rfl : i = j := by omega
    rw [hj] at hp; injection hp with hp; subst hp
    exact lt_next _
theorem getL_key {l : List Pr} (h : SortedL l) {j : Nat} {x : Pr} (hj : l[j]? = some x) : getL l x.1 = some x.2 := by
  unfold getL
  rw [atN_key h hj, hj]
  simp
/-- All keys that there are may be. -/
def Keyed (l : List Pr) : Prop := ∀ q ∈ l, key64 q.1 = true
theorem Keyed.put {l : List Pr} (h : Keyed l) (k v : List Nat) : Keyed (putN l k v) := by
  unfold putN
  rcases putE_cases k v with ⟨h1, h2⟩ | ⟨h1, h2, h3⟩ | ⟨h1, h2, h3⟩
  · rw [h2, if_neg (by decide)]; exact h
  · rw [h3, if_neg (by decide)]; exact h
  · rw [h3, if_pos rfl]
    intro q hq
    unfold putL at hq
    simp only [List.mem_append, List.mem_singleton] at hq
    rcases hq with (hq | rfl) | hq
    · exact h q (List.mem_of_mem_take hq)
    · exact h1
    · exact h q (List.mem_of_mem_drop hq)
theorem Keyed.del {l : List Pr} (h : Keyed l) (k : List Nat) : Keyed (delN l k) := by
  unfold delN
  split
  · intro q hq
    unfold delL at hq
    rcases List.mem_append.1 hq with hq | hq
    · exact h q (List.mem_of_mem_take hq)
    · exact h q (List.mem_of_mem_drop hq)
  · exact h
theorem atN_not : ∀ (l : List Pr) (k : List Nat) (q : Pr), l[atN l k]? = some q → ¬ q.1 < k
  | [], k, q, h => by simp at h
  | p :: l, k, q, h => by
    unfold atN at h
    by_cases hp : p.1 < k
    · rw [if_pos hp] at h
      exact atN_not l k q h
    · rw [if_neg hp] at h
      simp at h
      subst h
      exact hp
theorem zero_str : (⟨#[0]⟩ : ByteArray) = str [0] := by apply ba_ext; rw [str_list]; rfl
theorem run_add0 (t : TypeId) (xs : List Nat) (h : xs.length ≤ 1000) : binOp .add t (.string (str xs)) (.string ⟨#[0]⟩) = pure (.string (str (xs ++ [0]))) := by
  rw [zero_str, binOp_string_add]
  unfold Op.stringOp
  have h1 := str_size xs
  have h2 := str_size [0]
  have hm : IntKind.i64.max = 9223372036854775807 := rfl
  simp only [h1, h2, str_app, hm]
  rw [if_neg (by simp; omega)]
/-- Block c is a cursor of the tree at block a, from lo to hi, that stands at a text. -/
def CurAt (w : World) (c a : Nat) (lo hi at_ : List Nat) : Prop := w.heap[c]? = some (.cells #[.pointer (some ⟨a, 0, none⟩), .string (str lo), .string (str hi), .string (str at_)] 176 (0, 0))
section
variable {w w' : World} {c a : Nat} {lo hi at_ : List Nat}
theorem CurAt.lt (h : CurAt w c a lo hi at_) : c < w.heap.size := (Array.getElem?_eq_some_iff.1 h).1
theorem CurAt.c0 (h : CurAt w c a lo hi at_) : w.cell? ⟨c, 0, none⟩ = some (.pointer (some ⟨a, 0, none⟩)) := cell_of_row w c 0 _ _ _ h
theorem CurAt.c1 (h : CurAt w c a lo hi at_) : w.cell? ⟨c, 1, none⟩ = some (.string (str lo)) := cell_of_row w c 1 _ _ _ h
theorem CurAt.c2 (h : CurAt w c a lo hi at_) : w.cell? ⟨c, 2, none⟩ = some (.string (str hi)) := cell_of_row w c 2 _ _ _ h
theorem CurAt.c3 (h : CurAt w c a lo hi at_) : w.cell? ⟨c, 3, none⟩ = some (.string (str at_)) := cell_of_row w c 3 _ _ _ h
theorem CurAt.f (h : CurAt w c a lo hi at_) (i : Nat) : w.frozen? ⟨c, i, none⟩ = false := by unfold CurAt at h; simp [World.frozen?, h]
theorem CurAt.keep (h : CurAt w c a lo hi at_) (hk : w'.heap[c]? = w.heap[c]?) : CurAt w' c a lo hi at_ := hk.trans h
theorem CurAt.below (h : CurAt w c a lo hi at_) (hb : Below w.heap.size w w') : CurAt w' c a lo hi at_ := h.keep (hb.block c h.lt)
theorem CurAt.chg {F F' : List Nat} (h : CurAt w c a lo hi at_) (hc : Chg F w w' F') (hF : c ∉ F) : CurAt w' c a lo hi at_ := h.keep (hc.block c h.lt hF)
theorem CurAt.set (h : CurAt w c a lo hi at_) (k : List Nat) : CurAt (w.setCell ⟨c, 3, none⟩ (.string (str k))) c a lo hi k := by
  unfold CurAt at h ⊢
  simp [World.setCell, Array.getElem?_modify, h]
theorem CurAt.set_chg (w : World) (c : Nat) (v : Value) : Chg [c] w (w.setCell ⟨c, 3, none⟩ v) [c] := (Chg.refl [c] w).setCell (p := ⟨c, 3, none⟩) (by simp) v
end
/-- What Next tells. -/
def nxt (l : List Pr) (hi at_ : List Nat) : Option Pr := (l[atN l at_]?).bind fun q => if hi = [] ∨ q.1 < hi then some q else none
theorem beq_nil_str (xs : List Nat) : (str xs).toList = [] ↔ xs = [] := by
  rw [str_toList]
  cases xs <;> simp
theorem next_nil (w : World) : Calls Tryz.prog 69 #[.pointer none] w fun e w' => e = .returned (.tuple #[.string (str []), .string (str []), .bool false]) ∧ w' = w := by
  rw [← str_nil]
  go_enter Tryz.func69, Tryz.ntmps69
  go_wp2
  go_ret3
  exact ⟨rfl, rfl⟩
theorem new_nil (w : World) (s t : ByteArray) : Calls Tryz.prog 67 #[.pointer none, .string s, .string t] w fun e w' => e = .returned (.tuple #[.pointer none, .int .i64 2]) ∧ w' = w := by
  go_enter Tryz.func67, Tryz.ntmps67
  go_wp2
  go_ret2
  exact ⟨rfl, rfl⟩
theorem ne_nil_str {hi : List Nat} (h : hi ≠ []) : ¬ (str hi).toList = [] ∧ (str hi).toList.isEmpty = false := str_ne h
theorem new_bad (w : World) (a : Nat) (lo hi : List Nat) (blo : Byt lo) (bhi : Byt hi) (h0 : hi ≠ []) (h1 : hi < lo) :
    Calls Tryz.prog 67 #[.pointer (some ⟨a, 0, none⟩), .string (str lo), .string (str hi)] w fun e w' => e = .returned (.tuple #[.pointer none, .int .i64 17]) ∧ w' = w := by
  obtain ⟨e1, e2⟩ := ne_nil_str h0
  have e3 : Op.bytesLess (str hi).toList (str lo).toList = true := by rw [less_str bhi blo, decide_eq_true h1]
  go_enter Tryz.func67, Tryz.ntmps67
  go_wp2
  go_ret2
  exact ⟨rfl, rfl⟩
/-- A text that has bytes, copied: the same bytes. -/
theorem stringslite_big (w : World) (s : ByteArray) (h0 : s.size ≠ 0) (hle : s.size ≤ 140737488355328) : Calls Tryz.prog 110 #[.string s] w fun e w' => e = .returned (.string s) ∧ Below w.heap.size w w' := by
  obtain ⟨i0, hi, hz0, hz1, hz2⟩ := info_parts Tryz.info5
  have hinfo : (Tryz.prog.info? 5).map (·.size) = some 1 := by rw [hi]; simp [hz1]
  have hco : Tryz.prog.cellsOf 5 = 1 := by kernel_rfl
  obtain ⟨M, HM⟩ : ∃ M, Hid (M = madeCells (Value.int .u8 0).cells (((s.size : Nat) : Int).toNat * i0.size)) := ⟨_, rfl⟩
  have hMs : M.size = s.size := by rw [HM.out, size_madeCells, hz1]; simp
  have hmk : ∀ W : World, (Instr.makeSlice 113 (.int .i64 (s.size : Int)) (.int .i64 (s.size : Int))).run Tryz.prog W = .ok (.slice (some ⟨W.heap.size, 0, none⟩) s.size s.size) (W.alloc (.cells M 5)) := fun W => by
    have h := run_make (P := Tryz.prog) W 113 5 i0 (.int .u8 0) Tryz.underlying113 hi hz0 .i64 .i64 (s.size : Int) (s.size : Int) (by omega) (by omega) (by rw [hz2]; omega) (by omega)
    rw [← HM.out] at h
    simpa using h
  have hcp := Lib.run_copy_row_string (P := Tryz.prog) (w.alloc (.cells M 5)) 113 9 3 5 w.heap.size 0 s.size s.size s M 5 Tryz.underlying113 hinfo (heap_alloc_new w _) (Nat.le_refl _) (by omega)
  obtain ⟨Y, HY⟩ : ∃ Y, Hid (Y = (M.toList.take 0 ++ Lib.byteCells s.data.toList ++ M.toList.drop (0 + s.size)).toArray) := ⟨_, rfl⟩
  rw [← HY.out] at hcp
  have hYl : Y.toList = Lib.byteCells s.data.toList := by
    rw [HY.out, List.toList_toArray, List.take_zero, List.nil_append, List.drop_of_length_le (by rw [Array.length_toList]; omega), List.append_nil]
  have hYs : Y.size = s.size := by rw [← Array.length_toList, hYl, Lib.byteCells_length, ← Lib.size_eq]
  have hrow : ((w.alloc (.cells M 5)).setRow w.heap.size Y).heap[w.heap.size]? = some (.cells Y 5 (0, 0)) := setRow_heap _ _ M _ 5 (0, 0) (heap_alloc_new w _)
  have hne : s.data.toList ≠ [] := fun e => h0 (by rw [Lib.size_eq, e]; rfl)
  have hus := Lib.run_unsafeString_row (P := Tryz.prog) ((w.alloc (.cells M 5)).setRow w.heap.size Y) 223 3 9 5 Tryz.underlying223 hco w.heap.size Y.size (by unfold World.shape?; rw [hrow]) s.data.toList hne (by rw [← Lib.size_eq]; omega) (by rw [← Lib.size_eq]; omega)
    (fun j x hx => Lib.cells_of_row hrow Y.size j _ (by rw [List.take_of_length_le (by rw [Array.length_toList]; exact Nat.le_refl _), hYl]; simp [Lib.byteCells, hx]))
  rw [← Lib.size_eq] at hus
  have HYS := hid hYs
  have HB : Hid (Below w.heap.size w (((w.alloc (.cells M 5)).setRow w.heap.size Y).freeze ⟨w.heap.size, 0, none⟩ s.size)) := by
    have b1 : Below w.heap.size w (w.alloc (.cells M 5)) := (Below.refl _ w).alloc (Nat.le_refl _) _
    have b2 : Below w.heap.size (w.alloc (.cells M 5)) ((w.alloc (.cells M 5)).setRow w.heap.size Y) := ⟨rfl, rfl, rfl, by simp, fun k hk => setRow_other _ _ _ _ (by omega)⟩
    exact Lib.below_freeze (b1.trans b2) (p := ⟨w.heap.size, 0, none⟩) (Nat.le_refl _) _
  clear hYl hrow hne hMs hYs
  go_enter Tryz.func110, Tryz.ntmps110
  go_wp2
  go_ret
  exact ⟨rfl, HB.out⟩
theorem clone_big_some (w : World) (s : ByteArray) (h0 : s.size ≠ 0) (hle : s.size ≤ 140737488355328) : Calls Tryz.prog 79 #[.string s] w fun e w' => e = .returned (.string s) ∧ Below w.heap.size w w' := by
  go_enter Tryz.func79, Tryz.ntmps79
  go_wp2_with fail
  refine (stringslite_big w s h0 hle).mono ?_
  rintro e w' ⟨rfl, hb⟩
  go_wp2
  go_ret
  exact ⟨rfl, hb⟩
set_option maxRecDepth 100000 in
theorem clone_big (w : World) (xs : List Nat) (hle : xs.length ≤ 140737488355328) : Calls Tryz.prog 79 #[.string (str xs)] w fun e w' => e = .returned (.string (str xs)) ∧ Below w.heap.size w w' := by
  by_cases h : xs = []
  · subst h
    have h1 : Calls Tryz.prog 110 #[.string (str [])] w fun e w' => e = .returned (.string (str [])) ∧ Below w.heap.size w w' := by
      rw [← str_nil]
      go_enter Tryz.func110, Tryz.ntmps110
      go_wp2
      go_ret
      exact ⟨rfl, Below.refl _ _⟩
    go_enter Tryz.func79, Tryz.ntmps79
    go_wp2_with fail
    refine h1.mono ?_
    rintro e w2 ⟨rfl, hb⟩
    go_wp2
    go_ret
    exact ⟨rfl, hb⟩
  · refine clone_big_some w (str xs) ?_ (by rw [str_size]; exact hle)
    rw [str_size]
    exact fun e => h (List.eq_nil_of_length_eq_zero e)
theorem new_ok (w : World) (a : Nat) (lo hi : List Nat) (blo : Byt lo) (bhi : Byt hi) (hll : lo.length ≤ 140737488355328) (hhl : hi.length ≤ 140737488355328) (h0 : hi = [] ∨ ¬ hi < lo) :
    Calls Tryz.prog 67 #[.pointer (some ⟨a, 0, none⟩), .string (str lo), .string (str hi)] w fun e w' => ∃ c, e = .returned (.tuple #[.pointer (some ⟨c, 0, none⟩), .int .i64 0]) ∧ Below w.heap.size w w' ∧ w.heap.size ≤ c ∧ CurAt w' c a lo hi lo := by
  have fin : ∀ w2, Below w.heap.size w w2 → Below w.heap.size w (w2.alloc (.cells #[.pointer (some ⟨a, 0, none⟩), .string (str lo), .string (str hi), .string (str lo)] 176)) ∧ w.heap.size ≤ w2.heap.size ∧ CurAt (w2.alloc (.cells #[.pointer (some ⟨a, 0, none⟩), .string (str lo), .string (str hi), .string (str lo)] 176)) w2.heap.size a lo hi lo :=
    fun w2 hb => ⟨hb.alloc hb.size _, hb.size, heap_alloc_new w2 _⟩
  have HFIN := hid fin
  clear fin
  by_cases hn : hi = []
  · subst hn
    have HE := hid str_nil
    rw [← str_nil]
    go_enter Tryz.func67, Tryz.ntmps67
    go_wp2_with fail
    refine (clone_big w lo (by omega)).mono ?_
    rintro e w1 ⟨rfl, hb1⟩
    have HB1 := hid hb1
    clear hb1
    go_wp2_with fail
    rw [HE.out]
    refine (clone_big w1 [] (by simp)).mono ?_
    rintro e w2 ⟨rfl, hb2⟩
    have HF := hid (HFIN.out w2 (below_step HB1.out hb2))
    clear hb2
    go_wp2
    go_ret2
    exact ⟨_, rfl, HF.out⟩
  · have hlt := h0.resolve_left hn
    obtain ⟨e1, e2⟩ := ne_nil_str hn
    have e3 : Op.bytesLess (str hi).toList (str lo).toList = false := by rw [less_str bhi blo, decide_eq_false hlt]
    go_enter Tryz.func67, Tryz.ntmps67
    go_wp2_with fail
    refine (clone_big w lo (by omega)).mono ?_
    rintro e w1 ⟨rfl, hb1⟩
    have HB1 := hid hb1
    clear hb1
    go_wp2_with fail
    refine (clone_big w1 hi (by omega)).mono ?_
    rintro e w2 ⟨rfl, hb2⟩
    have HF := hid (HFIN.out w2 (below_step HB1.out hb2))
    clear hb2
    go_wp2
    go_ret2
    exact ⟨_, rfl, HF.out⟩
section
variable {w : World} {c a o : Nat} {lo hi at_ : List Nat} {l : List Pr} {P : Bl}
theorem next_some {q : Pr} (hc : CurAt w c a lo hi at_) (ht : TreeAt w a o l P) (hl : l.length ≤ 5000) (hk : Keyed l) (bhi : Byt hi) (bat : Byt at_) (hn : nxt l hi at_ = some q) :
    Calls Tryz.prog 69 #[.pointer (some ⟨c, 0, none⟩)] w fun e w' => e = .returned (.tuple #[.string (str q.1), .string (str q.2), .bool true]) ∧ CurAt w' c a lo hi (q.1 ++ [0]) ∧ Chg [c] w w' [c] := by
  obtain ⟨hq, hh⟩ : l[atN l at_]? = some q ∧ (hi = [] ∨ q.1 < hi) := by
    unfold nxt at hn
    cases hx : l[atN l at_]? with
    | none => rw [hx] at hn; cases hn
    | some x =>
      rw [hx] at hn
      simp only [Option.bind_some] at hn
      split at hn
      · injection hn with hn; subst hn; exact ⟨rfl, by assumption⟩
      · cases hn
  have hmem := List.mem_of_getElem? hq
  have bq := ht.byt _ hmem
  have h64 := hk _ hmem
  have hq64 : q.1.length ≤ 64 := by unfold key64 at h64; exact (of_decide_eq_true h64).2
  have HCE : Hid (ceilR l at_ = .tuple #[.string (str q.1), .string (str q.2), .int .i64 0]) := by show _ = _; unfold ceilR; rw [hq]
  have HT := hid ht
  have HC := hid hc
  have BAT := hid bat
  have hadd := fun t => run_add0 t q.1 (by omega)
  clear hn hq hmem h64 ht
  obtain ⟨kx, vx⟩ := q
  have fin : ∀ w2, Below w.heap.size w w2 → CurAt (w2.setCell ⟨c, 3, none⟩ (.string (str (kx ++ [0])))) c a lo hi (kx ++ [0]) ∧ Chg [c] w (w2.setCell ⟨c, 3, none⟩ (.string (str (kx ++ [0])))) [c] := fun w2 hb =>
    ⟨(HC.out.below hb).set _, (Chg.of_below (F := [c]) hb).trans (CurAt.set_chg _ _ _)⟩
  have HFIN := hid fin
  clear fin
  have c0 := hc.c0
  have c2 := hc.c2
  have c3 := hc.c3
  clear hc
  rcases hh with hh | hh
  · subst hh
    have HE := hid str_nil
    rw [← str_nil] at c2
    go_enter Tryz.func69, Tryz.ntmps69
    go_wp2
    go_region_held3 (fun W' => W'.cell? ⟨c, 0, none⟩ = some (.pointer (some ⟨a, 0, none⟩)) ∧ W'.cell? ⟨c, 3, none⟩ = some (.string (str at_))) (first | exact ⟨c0, c3⟩ | exact ⟨(HC.out.below HB.out).c0, (HC.out.below HB.out).c3⟩)
      (first | (go_at_call 96; ((with_reducible refine ((HT.out.below (Below.refl _ w).drew).ceil hl at_ BAT.out).mono ?_); rw [HCE.out]; rintro e w2 ⟨rfl, hb⟩; have HB : Hid (Below w.heap.size w w2) := below_step (Below.refl _ w).drew hb; clear hb)))
    clear c0 c2 c3
    have c2 := (HC.out.below HB.out).c2
    rw [← str_nil] at c2
    have c3 := (HC.out.below HB.out).c3
    have f3 := (HC.out.below HB.out).f 3
    go_wp2
    go_ret3
    exact ⟨rfl, HFIN.out _ HB.out⟩
  · have hne : hi ≠ [] := fun e => by subst e; exact List.not_lt_nil _ hh
    obtain ⟨e1, e2⟩ := ne_nil_str hne
    have e3 : Op.bytesLess (str kx).toList (str hi).toList = true := by rw [less_str bq.1 bhi, decide_eq_true hh]
    go_enter Tryz.func69, Tryz.ntmps69
    go_wp2
    go_region_held3 (fun W' => W'.cell? ⟨c, 0, none⟩ = some (.pointer (some ⟨a, 0, none⟩)) ∧ W'.cell? ⟨c, 3, none⟩ = some (.string (str at_))) (first | exact ⟨c0, c3⟩ | exact ⟨(HC.out.below HB.out).c0, (HC.out.below HB.out).c3⟩)
      (first | (go_at_call 96; ((with_reducible refine ((HT.out.below (Below.refl _ w).drew).ceil hl at_ BAT.out).mono ?_); rw [HCE.out]; rintro e w2 ⟨rfl, hb⟩; have HB : Hid (Below w.heap.size w w2) := below_step (Below.refl _ w).drew hb; clear hb)))
    clear c0 c2 c3
    have c2 := (HC.out.below HB.out).c2
    have c3 := (HC.out.below HB.out).c3
    have f3 := (HC.out.below HB.out).f 3
    go_wp2
    go_ret3
    exact ⟨rfl, HFIN.out _ HB.out⟩
theorem next_none (hc : CurAt w c a lo hi at_) (ht : TreeAt w a o l P) (hl : l.length ≤ 5000) (bhi : Byt hi) (bat : Byt at_) (hn : nxt l hi at_ = none) :
    Calls Tryz.prog 69 #[.pointer (some ⟨c, 0, none⟩)] w fun e w' => e = .returned (.tuple #[.string (str []), .string (str []), .bool false]) ∧ Below w.heap.size w w' := by
  have HT := hid ht
  have HC := hid hc
  have BAT := hid bat
  have c0 := hc.c0
  have c2 := hc.c2
  have c3 := hc.c3
  have HE := hid str_nil
  cases hx : l[atN l at_]? with
  | none =>
    have HCE : Hid (ceilR l at_ = .tuple #[.string (str []), .string (str []), .int .i64 14]) := by show _ = _; unfold ceilR; rw [hx]
    clear hc ht hn hx
    go_enter Tryz.func69, Tryz.ntmps69
    go_wp2
    go_region_held3 (fun W' => W'.cell? ⟨c, 0, none⟩ = some (.pointer (some ⟨a, 0, none⟩)) ∧ W'.cell? ⟨c, 3, none⟩ = some (.string (str at_))) (first | exact ⟨c0, c3⟩ | exact ⟨(HC.out.below HB.out).c0, (HC.out.below HB.out).c3⟩)
      (first | (go_at_call 96; ((with_reducible refine ((HT.out.below (Below.refl _ w).drew).ceil hl at_ BAT.out).mono ?_); rw [HCE.out]; rintro e w2 ⟨rfl, hb⟩; have HB : Hid (Below w.heap.size w w2) := below_step (Below.refl _ w).drew hb; clear hb)))
    go_wp2
    go_ret3
    rw [HE.out]
    exact ⟨rfl, HB.out⟩
  | some q =>
    have hh : ¬ (hi = [] ∨ q.1 < hi) := fun h => by
      unfold nxt at hn
      rw [hx] at hn
      simp only [Option.bind_some, if_pos h] at hn
      cases hn
    have hne : hi ≠ [] := fun e => hh (.inl e)
    have bq := ht.byt _ (List.mem_of_getElem? hx)
    have HCE : Hid (ceilR l at_ = .tuple #[.string (str q.1), .string (str q.2), .int .i64 0]) := by show _ = _; unfold ceilR; rw [hx]
    obtain ⟨kx, vx⟩ := q
    obtain ⟨e1, e2⟩ := ne_nil_str hne
    have e3 : Op.bytesLess (str kx).toList (str hi).toList = false := by rw [less_str bq.1 bhi, decide_eq_false (fun h => hh (.inr h))]
    clear hc ht hn hx hh
    go_enter Tryz.func69, Tryz.ntmps69
    go_wp2
    go_region_held3 (fun W' => W'.cell? ⟨c, 0, none⟩ = some (.pointer (some ⟨a, 0, none⟩)) ∧ W'.cell? ⟨c, 3, none⟩ = some (.string (str at_))) (first | exact ⟨c0, c3⟩ | exact ⟨(HC.out.below HB.out).c0, (HC.out.below HB.out).c3⟩)
      (first | (go_at_call 96; ((with_reducible refine ((HT.out.below (Below.refl _ w).drew).ceil hl at_ BAT.out).mono ?_); rw [HCE.out]; rintro e w2 ⟨rfl, hb⟩; have HB : Hid (Below w.heap.size w w2) := below_step (Below.refl _ w).drew hb; clear hb)))
    clear c0 c2 c3
    have c2 := (HC.out.below HB.out).c2
    go_wp2
    go_ret3
    rw [HE.out]
    exact ⟨rfl, HB.out⟩
end
/-- Where a range ends. -/
def endN (l : List Pr) (hi : List Nat) : Nat := if hi = [] then l.length else atN l hi
theorem endN_le (l : List Pr) (hi : List Nat) : endN l hi ≤ l.length := by
  unfold endN
  split
  · exact Nat.le_refl _
  · exact atN_le _ _
/-- The first pairs of a range from a place on. -/
def seg (l : List Pr) (hi : List Nat) (j most : Nat) : List Pr := ((l.take (endN l hi)).drop j).take most
theorem seg_at {l : List Pr} {hi : List Nat} {j most k : Nat} (hk : k < most) : (seg l hi j most)[k]? = if j + k < endN l hi then l[j + k]? else none := by
  unfold seg
  rw [List.getElem?_take, if_pos hk, List.getElem?_drop, List.getElem?_take]
theorem seg_len (l : List Pr) (hi : List Nat) (j most : Nat) : (seg l hi j most).length = min most (endN l hi - j) := by
  unfold seg
  have := endN_le l hi
  simp
  omega
theorem nxt_at {l : List Pr} (hr : Rising l) (hi at_ : List Nat) : nxt l hi at_ = if atN l at_ < endN l hi then l[atN l at_]? else none := by
  unfold nxt endN
  cases hx : l[atN l at_]? with
  | none =>
    simp
  | some q =>
    have hlt := (List.getElem?_eq_some_iff.1 hx).1
    simp only [Option.bind_some]
    by_cases hn : hi = []
    · rw [if_pos (.inl hn), if_pos hn, if_pos hlt]
    · rw [if_neg hn]
      have := atN_iff (k := hi) hr hx
      by_cases hh : q.1 < hi
      · rw [if_pos (.inr hh), if_pos (this.1 hh)]
      · rw [if_neg (fun h => h.elim hn hh), if_neg (fun h => hh (this.2 h))]
/-- What Next tells, by the place at which the cursor stands. -/
theorem nxt_seg {l : List Pr} (hr : Rising l) {hi at_ : List Nat} {j most k : Nat} (hk : k < most) (hat : atN l at_ = j + k) : nxt l hi at_ = (seg l hi j most)[k]? := by
  rw [nxt_at hr, seg_at hk, hat]
theorem atN_behind {l : List Pr} (hr : Rising l) {hi at_ : List Nat} {q : Pr} (hn : nxt l hi at_ = some q) : atN l (q.1 ++ [0]) = atN l at_ + 1 := by
  rw [nxt_at hr] at hn
  split at hn
  · exact atN_next hr hn
  · cases hn
theorem grown_chg {c : Nat} {w w' : World} (h : Chg [c] w w' [c]) : w.grownBy w' (some c) :=
  ⟨h.os, h.tape, h.output, h.size, fun k hk hn => h.block k hk fun hm => hn (by simp at hm; rw [hm])⟩
theorem hmf (fn : Fn) (first cap : Array Value) (w : World) : (Instr.makeFunc fn first cap).run Tryz.prog w = .ok (.func fn first cap) w := rfl
end Go.Proofs.YtlnagdodnkhbmaaGreat

