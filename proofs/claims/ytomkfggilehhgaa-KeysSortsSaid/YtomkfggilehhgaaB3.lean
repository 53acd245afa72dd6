/- Footprints: which blocks a call may have turned, and which ones a thing lies in. append with the place of what comes. No program is named here. -/
import Derived.Test.YtomkfggilehhgaaB1
import Derived.Maps.AppendAt
import Derived.Lib.AppendStr
namespace Go.Proofs.Ytomkfggilehhgaa
open Go.RowKit

/-- Of the blocks that were there only those of F may have turned; what lies in F' lay in F, or is new. -/
structure Chg (F : List Nat) (w w' : World) (F' : List Nat) : Prop where
  os : w'.os = w.os
  tape : w'.tape = w.tape
  output : w'.output = w.output
  size : w.heap.size ≤ w'.heap.size
  block : ∀ k, k < w.heap.size → k ∉ F → w'.heap[k]? = w.heap[k]?
  foot : ∀ k ∈ F', k ∈ F ∨ w.heap.size ≤ k

def Apart (F G : List Nat) : Prop := ∀ k ∈ F, k ∉ G

section
variable {F G F' G' K : List Nat} {a b c w w' : World}
theorem Chg.refl (F : List Nat) (w : World) : Chg F w w F := ⟨rfl, rfl, rfl, Nat.le_refl _, fun _ _ _ => rfl, fun _ h => .inl h⟩
theorem Chg.trans (h : Chg F a b G) (k : Chg G b c K) : Chg F a c K :=
  ⟨k.os.trans h.os, k.tape.trans h.tape, k.output.trans h.output, Nat.le_trans h.size k.size,
    fun i hi hF => (k.block i (Nat.lt_of_lt_of_le hi h.size) fun hG => by rcases h.foot i hG with hh | hh; exact hF hh; omega).trans (h.block i hi hF),
    fun i hi => by
      rcases k.foot i hi with hG | hG
      · exact h.foot i hG
      · exact .inr (Nat.le_trans h.size hG)⟩
/-- What lies in less, or in new blocks besides. -/
theorem Chg.less (h : Chg F a b G) (hk : ∀ k ∈ K, k ∈ G ∨ a.heap.size ≤ k) : Chg F a b K :=
  ⟨h.os, h.tape, h.output, h.size, h.block, fun k hK => by
    rcases hk k hK with hG | hG
    · exact h.foot k hG
    · exact .inr hG⟩
/-- What may turn may be more. -/
theorem Chg.more (h : Chg F a b G) (hk : ∀ k ∈ F, k ∈ K) : Chg K a b G :=
  ⟨h.os, h.tape, h.output, h.size, fun k hl hK => h.block k hl fun hF => hK (hk k hF), fun k hG => by
    rcases h.foot k hG with hh | hh
    · exact .inl (hk k hh)
    · exact .inr hh⟩
theorem Chg.step_below (h : Chg F a b G) (hb : Below b.heap.size b c) : Chg F a c G :=
  h.trans ⟨hb.os, hb.tape, hb.output, hb.size, fun k hk _ => hb.block k hk, fun _ h => .inl h⟩
theorem Chg.of_below (hb : Below w.heap.size w w') : Chg F w w' F := (Chg.refl F w).step_below hb
theorem Chg.alloc (h : Chg F a b G) (o : Obj) : Chg F a (b.alloc o) G := h.step_below ((Below.refl _ _).alloc (Nat.le_refl _) o)
theorem Chg.drew (h : Chg F a b G) : Chg F a b.drew G := h.step_below ⟨rfl, rfl, rfl, Nat.le_refl _, fun _ _ => rfl⟩
theorem Chg.drewN (h : Chg F a b G) (n : Nat) : Chg F a (b.drewN n) G := h.step_below ⟨rfl, rfl, rfl, Nat.le_refl _, fun _ _ => rfl⟩
theorem Chg.setCell (h : Chg F a b G) {p : Addr} (hp : p.block ∈ G) (u : Value) : Chg F a (b.setCell p u) G :=
  h.trans ⟨rfl, rfl, rfl, by simp [World.setCell], fun k _ hG => Below.heap_setCell _ _ _ _ (fun e => hG (e ▸ hp)), fun _ h => .inl h⟩
theorem Chg.grown {row : Option Nat} (h : Chg F a b G) (hg : b.grownBy c row) (hr : ∀ k, row = some k → k ∈ G) : Chg F a c G :=
  h.trans ⟨hg.os, hg.tape, hg.output, hg.size, fun k hk hG => hg.block k hk fun e => hG (hr k e.symm), fun _ h => .inl h⟩
theorem Chg.below {B : Nat} (h : Chg F a b G) (hF : ∀ k ∈ F, B ≤ k) (hB : B ≤ a.heap.size) : Below B a b :=
  ⟨h.os, h.tape, h.output, h.size, fun k hk => h.block k (by omega) fun hh => by have := hF k hh; omega⟩
theorem Chg.from_ {B : Nat} (h : Chg F a b G) (hF : ∀ k ∈ F, B ≤ k) (hB : B ≤ a.heap.size) : ∀ k ∈ G, B ≤ k := fun k hk => by
  rcases h.foot k hk with hh | hh
  · exact hF k hh
  · omega
/-- What lies apart is as it was. -/
theorem Chg.out (h : Chg F a b G) (hl : ∀ k ∈ K, k < a.heap.size) (hap : Apart F K) : ∀ k ∈ K, b.heap[k]? = a.heap[k]? :=
  fun k hk => h.block k (hl k hk) fun hF => hap k hF hk
/-- .. and stays apart. -/
theorem Apart.chg (hap : Apart F K) (h : Chg F a b G) (hl : ∀ k ∈ K, k < a.heap.size) : Apart G K := fun k hG hK => by
  rcases h.foot k hG with hh | hh
  · exact hap k hh hK
  · have := hl k hK; omega
theorem Apart.symm (h : Apart F G) : Apart G F := fun k hG hF => h k hF hG
theorem Apart.nil (F : List Nat) : Apart F [] := fun _ _ h => by cases h
/-- What is new is apart from what was there. -/
theorem Apart.fresh (hF : ∀ k ∈ F, a.heap.size ≤ k) (hG : ∀ k ∈ G, k < a.heap.size) : Apart F G := fun k h1 h2 => by
  have := hF k h1; have := hG k h2; omega
end

/-- Where a slice value's row lies. -/
def ownFoot (v : Value) : List Nat := v.ownBlock.toList
theorem mem_ownFoot {v : Value} {k : Nat} : k ∈ ownFoot v ↔ v.ownBlock = some k := by
  unfold ownFoot; simp
theorem keepBlocks {F : List Nat} {w w' : World} {row : Option Nat} (hg : w.grownBy w' row) (hl : ∀ k ∈ F, k < w.heap.size) (hr : ∀ k ∈ F, row ≠ some k) : ∀ k ∈ F, w'.heap[k]? = w.heap[k]? :=
  fun k hk => hg.block k (hl k hk) fun e => hr k hk e.symm

section
variable {k : IntKind} {w w' : World} {v : Value} {xs : List Nat} {base : Nat} {e : TypeId}
theorem Own.keep (h : Own k w base e v xs) (hk : ∀ b ∈ ownFoot v, w'.heap[b]? = w.heap[b]?) : Own k w' base e v xs := by
  unfold Own World.ownsRow at h ⊢
  refine ⟨h.1, ?_⟩
  rcases h.2 with hn | ⟨g, cap, cur, rfl, hb, hh, r⟩
  · exact .inl hn
  · exact .inr ⟨g, cap, cur, rfl, hb, (hk g (by simp [mem_ownFoot, Value.ownBlock])).trans hh, r⟩
theorem Own.lt (h : Own k w base e v xs) : ∀ b ∈ ownFoot v, b < w.heap.size := fun b hb => (h.blk b (mem_ownFoot.1 hb)).2
theorem Own.zero (h : Own k w base e v xs) : Own k w 0 e v xs := by
  unfold Own World.ownsRow at h ⊢
  refine ⟨h.1, ?_⟩
  rcases h.2 with hn | ⟨g, cap, cur, rfl, hb, r⟩
  · exact .inl hn
  · exact .inr ⟨g, cap, cur, rfl, Nat.zero_le _, r⟩
theorem Own.at_ {B : Nat} (h : Own k w base e v xs) (hB : ∀ b ∈ ownFoot v, B ≤ b) : Own k w B e v xs := by
  unfold Own World.ownsRow at h ⊢
  refine ⟨h.1, ?_⟩
  rcases h.2 with hn | ⟨g, cap, cur, rfl, hb, r⟩
  · exact .inl hn
  · exact .inr ⟨g, cap, cur, rfl, hB g (by simp [mem_ownFoot, Value.ownBlock]), r⟩
/-- A row's block holds cells of its type alone. -/
theorem Own.ne_ (h : Own k w base e v xs) {g : Nat} {cs : Array Value} {t : TypeId} {fz : Nat × Nat} (hg : w.heap[g]? = some (.cells cs t fz)) (hne : e ≠ t) : g ∉ ownFoot v := by
  intro hm
  rcases h.2 with ⟨rfl, _⟩ | ⟨g', cap, cur, rfl, hb, hh, r⟩
  · simp [ownFoot, Value.ownBlock] at hm
  · simp [ownFoot, Value.ownBlock] at hm
    subst hm
    rw [hg] at hh
    injection hh with hh
    injection hh with _ ht
    exact hne ht.symm
end

/-- A block that is one cell, nowhere frozen. -/
def One (w : World) (g : Nat) (t : TypeId) (v : Value) : Prop := w.heap[g]? = some (.cells #[v] t (0, 0))
section
variable {w w' : World} {g : Nat} {t : TypeId} {v : Value}
theorem One.lt (h : One w g t v) : g < w.heap.size := by
  unfold One at h
  rcases Nat.lt_or_ge g w.heap.size with hl | hl
  · exact hl
  · rw [Array.getElem?_eq_none hl] at h; cases h
theorem One.cell (h : One w g t v) : w.cell? ⟨g, 0, none⟩ = some v := cell_of_row w g 0 #[v] t (0, 0) h
theorem One.frozen (h : One w g t v) : w.frozen? ⟨g, 0, none⟩ = false := by unfold One at h; simp [World.frozen?, h]
theorem One.keep (h : One w g t v) (hk : w'.heap[g]? = w.heap[g]?) : One w' g t v := by unfold One at h ⊢; rw [hk]; exact h
theorem One.alloc (h : One w g t v) (o : Obj) : One (w.alloc o) g t v := h.keep (Below.heap_alloc _ _ _ h.lt)
theorem One.drew (h : One w g t v) : One w.drew g t v := h
theorem One.drewN (h : One w g t v) (n : Nat) : One (w.drewN n) g t v := h
theorem One.set (h : One w g t v) (u : Value) : One (w.setCell ⟨g, 0, none⟩ u) g t u := by
  unfold One at h ⊢
  simp [World.setCell, Array.getElem?_modify, h]
theorem One.far (h : One w g t v) {p : Addr} (hp : g ≠ p.block) (u : Value) : One (w.setCell p u) g t v := h.keep (Below.heap_setCell _ _ _ _ hp)
theorem One.new (w : World) (t : TypeId) (v : Value) : One (w.alloc (.cells #[v] t)) w.heap.size t v := heap_alloc_new w _
end
theorem Own.set_far {k : IntKind} {w : World} {v : Value} {xs : List Nat} {base : Nat} {e : TypeId} (h : Own k w base e v xs) {p : Addr} (hp : p.block ∉ ownFoot v) (u : Value) : Own k (w.setCell p u) base e v xs :=
  h.keep fun b hb => Below.heap_setCell _ _ _ _ (fun e => hp (e ▸ hb))
theorem Sl.set_far {k : IntKind} {w : World} {v : Value} {xs : List Nat} (h : Sl k w v xs) {w' : World} (hk : ∀ a u, w.cell? a = some u → w'.cell? a = some u) : Sl k w' v xs := h.keep hk

/-- append of a slice onto a row of the call's own: the run. -/
theorem run_append_sl {P : Program} (w : World) (t ty e : TypeId) (i : TypeInfo) (z : Value) (bytes : Nat) (ht : P.underlying t = some (.slice e)) (hi : P.info? e = some i) (hz : i.zero = some z)
    (hsize : i.size = 1) (hby : i.bytes = bytes) (hzs : z.cells.size = 1)
    (k : IntKind) (v : Value) (xs : List Nat) (hown : Own k w 0 e v xs) (u : Value) (ys : List Nat) (hu : Sl k w u ys)
    (h63 : xs.length + ys.length ≤ maxLen) (hbytes : (xs.length + ys.length) * bytes ≤ 140737488355328) :
    ∃ v' w', (Builtin.append_ #[t, t] ty #[v, u]).run P w = .ok v' w' ∧ Own k w' 0 e v' (xs ++ ys) ∧ w.grownBy w' v.ownBlock ∧ (∀ b ∈ ownFoot v', b ∈ ownFoot v ∨ w.heap.size ≤ b) := by
  obtain ⟨A, c, rfl, hc, hm, hn, hcell⟩ := hu
  cases A with
  | none =>
    have hy : ys = [] := by
      cases ys with
      | nil => rfl
      | cons y ys =>
        obtain ⟨ad, hA, _⟩ := hcell 0 y rfl
        cases hA
    subst hy
    have hc0 := hn rfl
    subst hc0
    have hrun := run_append_owned_none (P := P) (w := w) 0 t ty e i 1 ht hi v xs.length _ hown
    exact ⟨v, w, hrun, by simpa using hown, World.grownBy.refl w _, fun b hb => .inl hb⟩
  | some ad =>
    obtain ⟨v', w', hr, h2, h3, _, h5⟩ := run_append_own_at (P := P) w 0 t ty e i z 1 bytes ht hi hz hsize hby hzs (by omega) v xs.length _ hown ad ys.length c (ys.map fun (b : Nat) => Value.int k b) (by simp)
      (by
        intro j u hu
        rw [List.getElem?_map] at hu
        cases hj : ys[j]? with
        | none => rw [hj] at hu; cases hu
        | some b =>
          rw [hj] at hu
          obtain ⟨ad', hA, hcc⟩ := hcell j b hj
          injection hA with hA
          subst hA
          rw [hcc, ← hu]; rfl)
      (by
        intro u hu
        simp only [List.mem_map] at hu
        obtain ⟨b, _, rfl⟩ := hu
        rfl) h63 hbytes (Nat.zero_le _)
    refine ⟨v', w', hr, ?_, h3, fun b hb => ?_⟩
    · unfold Own
      rw [List.length_append, List.map_append]
      exact h2
    · rw [mem_ownFoot] at hb
      rw [mem_ownFoot]
      rcases h5 with h5 | h5
      · exact .inl (h5.symm.trans hb)
      · rw [h5] at hb; injection hb with hb; exact .inr (by omega)

theorem wp_append_at {P : Program} (w : World) {o : Oper} {a : Act} {K : Act → World → Prop} {Q : Exit → Act → World → Prop} (s x : Operand) (t : TypeId)
    (ho : o.op = .call { callee := .builtin .append, args := #[s, x], argTypes := #[t, t] })
    (e : TypeId) (i : TypeInfo) (z : Value) (bytes : Nat) (ht : P.underlying t = some (.slice e)) (hi : P.info? e = some i) (hz : i.zero = some z)
    (hsize : i.size = 1) (hby : i.bytes = bytes) (hzs : z.cells.size = 1)
    (k : IntKind) (v : Value) (xs : List Nat) (hs : a.eval s = v) (hown : Own k w 0 e v xs)
    (u : Value) (ys : List Nat) (hx : a.eval x = u) (hu : Sl k w u ys)
    (h63 : xs.length + ys.length ≤ maxLen) (hbytes : (xs.length + ys.length) * bytes ≤ 140737488355328)
    (h : ∀ v' w', Own k w' 0 e v' (xs ++ ys) → w.grownBy w' v.ownBlock → (∀ b ∈ ownFoot v', b ∈ ownFoot v ∨ w.heap.size ≤ b) → K (a.put o.dst v') w') : o.wp P a w K Q := by
  obtain ⟨v', w', hrun, h2, h3, h4⟩ := run_append_sl (P := P) w t o.type e i z bytes ht hi hz hsize hby hzs k v xs hown u ys hu h63 hbytes
  unfold Oper.wp execOp
  simp only [ho, resolve, invoke, builtin, Sem.run_bind, Sem.run_pure, Result.andThen_ok, List.map_toArray, List.map_cons, List.map_nil, hs, hx, hrun]
  exact h v' w' h2 h3 h4

theorem wpList_append_at {P : Program} (w : World) {ops : Array Oper} {rest : List Oper} {o : Oper} {a : Act} {Q : Exit → Act → World → Prop} (hgd : o.guard = none) (s x : Operand) (t : TypeId)
    (ho : o.op = .call { callee := .builtin .append, args := #[s, x], argTypes := #[t, t] })
    (e : TypeId) (i : TypeInfo) (z : Value) (bytes : Nat) (ht : P.underlying t = some (.slice e)) (hi : P.info? e = some i) (hz : i.zero = some z)
    (hsize : i.size = 1) (hby : i.bytes = bytes) (hzs : z.cells.size = 1)
    (k : IntKind) (v : Value) (xs : List Nat) (hs : a.eval s = v) (hown : Own k w 0 e v xs)
    (u : Value) (ys : List Nat) (hx : a.eval x = u) (hu : Sl k w u ys)
    (h63 : xs.length + ys.length ≤ maxLen) (hbytes : (xs.length + ys.length) * bytes ≤ 140737488355328)
    (h : ∀ v' w', Own k w' 0 e v' (xs ++ ys) → w.grownBy w' v.ownBlock → (∀ b ∈ ownFoot v', b ∈ ownFoot v ∨ w.heap.size ≤ b) → wpList P ops Q rest (a.put o.dst v') w') : wpList P ops Q (o :: rest) a w :=
  wpList_plain hgd fun _ hK => wp_append_at w s x t ho e i z bytes ht hi hz hsize hby hzs k v xs hs hown u ys hx hu h63 hbytes fun v' w' h1 h2 h3 => hK _ _ (h v' w' h1 h2 h3)

theorem strCells_str (xs : List Nat) (hb : ∀ b ∈ xs, b < 256) : Lib.strCells (str xs) = xs.map fun (b : Nat) => Value.int .u8 b := by
  unfold Lib.strCells
  rw [str_list, List.map_map]
  apply List.map_congr_left
  intro b h
  have := hb b h
  simp [Nat.mod_eq_of_lt this]

/-- append of a string onto a row of the call's own. -/
theorem run_append_st {P : Program} (w : World) (t u ty e : TypeId) (i : TypeInfo) (ht : P.underlying t = some (.slice e)) (hu : P.underlying u = some .string) (hi : P.info? e = some i) (hz : i.zero = some (.int .u8 0))
    (hsize : i.size = 1) (hby : i.bytes = 1) (v : Value) (xs : List Nat) (hown : Own .u8 w 0 e v xs) (ys : List Nat) (hys : ∀ b ∈ ys, b < 256)
    (h63 : xs.length + ys.length ≤ maxLen) (hbytes : xs.length + ys.length ≤ 140737488355328) :
    ∃ v' w', (Builtin.append_ #[t, u] ty #[v, .string (str ys)]).run P w = .ok v' w' ∧ Own .u8 w' 0 e v' (xs ++ ys) ∧ w.grownBy w' v.ownBlock ∧ (∀ b ∈ ownFoot v', b ∈ ownFoot v ∨ w.heap.size ≤ b) := by
  obtain ⟨v', w', hr, h2, h3, h4⟩ := Lib.run_append_own_string (P := P) w 0 t u ty e i ht hu hi hz hsize hby v xs.length _ hown (str ys) (by rw [str_size]; exact h63) (by rw [str_size]; exact hbytes) (Nat.zero_le _)
  refine ⟨v', w', hr, ?_, h3, ?_⟩
  · unfold Own
    rw [List.length_append, List.map_append]
    rw [str_size, strCells_str ys hys] at h2
    exact h2
  · intro b hb
    rw [mem_ownFoot] at hb
    rcases hown.2 with ⟨rfl, hn⟩ | ⟨g, cap, cur, rfl, hbg, hg, hnc, hcm, hcs, htake⟩
    · by_cases hm : (str ys).size = 0
      · rw [h4.2 ⟨rfl, hm⟩] at hb
        simp [Value.ownBlock] at hb
      · have hr' := run_append_nil_string (P := P) w t u ty e i (.int .u8 0) ht hu hi hz (str ys) (by omega) (by rw [str_size]; unfold maxLen at h63; omega) (by rw [hby, str_size]; omega)
        rw [hr] at hr'
        injection hr' with e1 _
        subst e1
        simp [Value.ownBlock] at hb
        exact .inr (by omega)
    · by_cases hroom : xs.length + (str ys).size ≤ cap
      · have hr' := Lib.run_append_room_string (P := P) w t u ty e i ht hu hi hsize g xs.length cap cur hg (str ys) hroom (by omega)
        rw [hr] at hr'
        injection hr' with e1 _
        subst e1
        exact .inl (mem_ownFoot.2 hb)
      · have hr' := Lib.run_append_grow_string (P := P) w t u ty e i (.int .u8 0) ht hu hi hz ⟨g, 0, none⟩ xs.length cap _ (by rw [hsize]; exact hown.1) (World.ownsRow.cells hown (g := g) rfl) (str ys) (by omega) (by rw [str_size]; unfold maxLen at h63; omega) (by rw [hby]; exact growslice_fits (by omega) (by rw [str_size]; omega))
        rw [hr] at hr'
        injection hr' with e1 _
        subst e1
        simp [Value.ownBlock] at hb
        exact .inr (by omega)

theorem wpList_append_st {P : Program} (w : World) {ops : Array Oper} {rest : List Oper} {o : Oper} {a : Act} {Q : Exit → Act → World → Prop} (hgd : o.guard = none) (s x : Operand) (t u : TypeId)
    (ho : o.op = .call { callee := .builtin .append, args := #[s, x], argTypes := #[t, u] })
    (e : TypeId) (i : TypeInfo) (ht : P.underlying t = some (.slice e)) (hu : P.underlying u = some .string) (hi : P.info? e = some i) (hz : i.zero = some (.int .u8 0))
    (hsize : i.size = 1) (hby : i.bytes = 1)
    (v : Value) (xs : List Nat) (hs : a.eval s = v) (hown : Own .u8 w 0 e v xs) (ys : List Nat) (hx : a.eval x = .string (str ys)) (hys : ∀ b ∈ ys, b < 256)
    (h63 : xs.length + ys.length ≤ maxLen) (hbytes : xs.length + ys.length ≤ 140737488355328)
    (h : ∀ v' w', Own .u8 w' 0 e v' (xs ++ ys) → w.grownBy w' v.ownBlock → (∀ b ∈ ownFoot v', b ∈ ownFoot v ∨ w.heap.size ≤ b) → wpList P ops Q rest (a.put o.dst v') w') : wpList P ops Q (o :: rest) a w := by
  refine wpList_plain hgd fun K hK => ?_
  obtain ⟨v', w', hrun, h2, h3, h4⟩ := run_append_st (P := P) w t u o.type e i ht hu hi hz hsize hby v xs hown ys hys h63 hbytes
  unfold Oper.wp execOp
  simp only [ho, resolve, invoke, builtin, Sem.run_bind, Sem.run_pure, Result.andThen_ok, List.map_toArray, List.map_cons, List.map_nil, hs, hx, hrun]
  exact hK _ _ (h v' w' h2 h3 h4)
end Go.Proofs.Ytomkfggilehhgaa
