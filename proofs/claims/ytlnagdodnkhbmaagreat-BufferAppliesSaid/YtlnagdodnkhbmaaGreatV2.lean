/- A map of rows in memory: what it reads as; a buffer. -/
import Derived.Test.YtlnagdodnkhbmaaGreatV1
import Derived.Maps.RangeWalk
import Derived.Maps.OwnSet
namespace Go.Proofs.YtlnagdodnkhbmaaGreat
open Go.RowKit Go.Maps Go.WideMaps
set_option maxRecDepth 100000

theorem mapLaw : Go.Maps.Keyed Tryz.prog 9 := string_keyed Tryz.underlying9
def kl (k : List Nat) : Lit := .string (str k).data.toList
theorem kl_of {k : List Nat} (h : keyB k = true) : keyOf Tryz.prog 9 (.string (str k)) = some (kl k) := keyOf_string_mk Tryz.underlying9 (by rw [str_size]; have := keyB_yes h; unfold maxLen; omega)
theorem kl_any {k : List Nat} (h : k.length ≤ maxLen) : keyOf Tryz.prog 9 (.string (str k)) = some (kl k) := keyOf_string_mk Tryz.underlying9 (by rw [str_size]; exact h)
theorem kl_inj {k m : List Nat} (hk : Byt k) (hm : Byt m) : kl k = kl m ↔ k = m := by
  constructor
  · intro h
    unfold kl at h
    injection h with h
    rw [str_list, str_list] at h
    refine (str_inj hk hm).1 (ba_ext ?_)
    rw [str_list, str_list, h]
  · rintro rfl; rfl
theorem kl_isKey (k : List Nat) : WideAt.IsKeyLit (kl k) := by unfold kl; trivial
/-- A pointer's number: 0 is nil, the others are one more than a block. -/
def ptrC : Nat → Value
  | 0 => .pointer none
  | g + 1 => .pointer (some ⟨g, 0, none⟩)
def ptrElem : Value → Option (DataW Unit × List MemPlace)
  | .pointer none => some (.lit (.int .i64 0), [])
  | .pointer (some a) => if a = ⟨a.block, 0, none⟩ then some (.lit (.int .i64 (a.block + 1 : Nat)), []) else none
  | _ => none
theorem ptrElem_mk (c : Nat) : ptrElem (ptrC c) = some (.lit (.int .i64 (c : Nat)), []) := by
  cases c with
  | zero => rfl
  | succ g => show (if _ then _ else _) = _; rw [if_pos rfl]
theorem ptrElem_inv {v : Value} {y : DataW Unit × List MemPlace} (h : ptrElem v = some y) : ∃ c : Nat, v = ptrC c ∧ y = (.lit (.int .i64 (c : Nat)), []) := by
  unfold ptrElem at h
  split at h
  · injection h with h; exact ⟨0, rfl, h.symm⟩
  · rename_i a
    split at h
    · rename_i ha
      injection h with h
      exact ⟨a.block + 1, (by show _ = Value.pointer (some ⟨a.block, 0, none⟩); rw [← ha]), h.symm⟩
    · cases h
  · cases h
/-- A pointer tells a row, or none. -/
def PtrIs (w : World) (c : Nat) (v : Option Ro) : Prop := match c with
  | 0 => v = none
  | g + 1 => ∃ r, v = some r ∧ Lies w g r
theorem PtrIs.none_ {w : World} : PtrIs w 0 none := rfl
theorem PtrIs.keep {w w' : World} {c : Nat} {v : Option Ro} (h : PtrIs w c v) (hk : ∀ g r, Lies w g r → w'.heap[g]? = w.heap[g]?) : PtrIs w' c v := by
  cases c with
  | zero => exact h
  | succ g =>
    obtain ⟨r, h1, h2⟩ := h
    exact ⟨r, h1, h2.keep (hk g r h2)⟩
theorem PtrIs.zero {w : World} {c : Nat} (h : PtrIs w c none) : c = 0 := by
  cases c with
  | zero => rfl
  | succ g => obtain ⟨r, h1, _⟩ := h; cases h1
theorem PtrIs.row {w : World} {c : Nat} {r : Ro} (h : PtrIs w c (some r)) : ∃ g, c = g + 1 ∧ Lies w g r := by
  cases c with
  | zero => cases h
  | succ g => obtain ⟨s, h1, h2⟩ := h; injection h1 with h1; subst h1; exact ⟨g, rfl, h2⟩
/-- What a map's datum says: of these keys these pointers' numbers. -/
structure MapIs (D : DataW Unit) (cs : List (List Nat × Nat)) : Prop where
  m : Tidy D
  has : ∀ k, Byt k → (Maps.has D (kl k) = true ↔ ∃ c, (k, c) ∈ cs)
  at_ : ∀ q ∈ cs, ∀ z, D.atKey (kl q.1) z = .lit (.int .i64 (q.2 : Nat))
  size : Maps.size D = cs.length
  keys : ∀ l, Maps.has D l = true → ∃ k, Byt k ∧ l = kl k
  byt : ∀ q ∈ cs, Byt q.1
theorem MapIs.nil : MapIs (.map []) [] := ⟨tidy_empty, fun k _ => by simp [Maps.has], by simp, rfl, fun l h => by simp [Maps.has] at h, by simp⟩
theorem MapIs.put {D : DataW Unit} {cs : List (List Nat × Nat)} (h : MapIs D cs) (hd : cs.Pairwise fun a b => a.1 ≠ b.1) {k : List Nat} (hb : Byt k) (c : Nat) : MapIs (D.put (kl k) (.lit (.int .i64 (c : Nat)))) (insW cs k c) := by
  refine ⟨h.m.put (kl_isKey k) _, fun m hm => ?_, fun q hq z => ?_, ?_, fun l hl => ?_, fun q hq => ?_⟩
  · by_cases e : m = k
    · subst e
      rw [has_put_same h.m.isMap (kl_isKey m)]
      exact ⟨fun _ => ⟨c, mem_insW.2 (.inl rfl)⟩, fun _ => rfl⟩
    · rw [has_put_other (fun e2 => e ((kl_inj hm hb).1 e2)), h.has m hm]
      constructor
      · rintro ⟨u, hu⟩; exact ⟨u, mem_insW.2 (.inr ⟨hu, e⟩)⟩
      · rintro ⟨u, hu⟩
        rcases mem_insW.1 hu with hu | hu
        · exact absurd (congrArg Prod.fst hu) e
        · exact ⟨u, hu.1⟩
  · rcases mem_insW.1 hq with rfl | hq
    · exact atKey_put_same h.m.isMap (kl_isKey k) _ z
    · rw [atKey_put_other (fun e2 => hq.2 ((kl_inj (h.byt q hq.1) hb).1 e2))]
      exact h.at_ q hq.1 z
  · rw [size_put h.m, h.size]
    by_cases e : ∃ v, (k, v) ∈ cs
    · rw [if_pos ((h.has k hb).2 e)]
      obtain ⟨u, hu⟩ := e
      exact (insW_len_was hd hu c).symm
    · rw [if_neg (fun e2 => e ((h.has k hb).1 e2))]
      exact (insW_len_new (fun v hv => e ⟨v, hv⟩) c).symm
  · by_cases e : l = kl k
    · exact ⟨k, hb, e⟩
    · rw [has_put_other e] at hl
      exact h.keys l hl
  · rcases mem_insW.1 hq with rfl | hq
    · exact hb
    · exact h.byt q hq.1
/-- Block m is a map of these writes; nothing else of it is told. -/
def BufM (w : World) (m : Nat) (ws : List WR) : Prop :=
  ∃ n D cs, w.ownsMap Tryz.prog 9 ptrElem m n D ∧ n ≤ ws.length ∧ MapIs D cs ∧ cs.map Prod.fst = ws.map Prod.fst ∧ ∀ k c v, (k, c) ∈ cs → (k, v) ∈ ws → PtrIs w c v
theorem keys_mem {α β : Type} {A : List (List Nat × α)} {B : List (List Nat × β)} (h : A.map Prod.fst = B.map Prod.fst) {k : List Nat} {a : α} (hm : (k, a) ∈ A) : ∃ b, (k, b) ∈ B := by
  have h1 : k ∈ A.map Prod.fst := List.mem_map.2 ⟨_, hm, rfl⟩
  rw [h] at h1
  obtain ⟨q, hq, rfl⟩ := List.mem_map.1 h1
  exact ⟨q.2, hq⟩
theorem keys_diff {α β : Type} {A : List (List Nat × α)} {B : List (List Nat × β)} (h : A.map Prod.fst = B.map Prod.fst) (hB : B.Pairwise fun a b => a.1 ≠ b.1) : A.Pairwise fun a b => a.1 ≠ b.1 := by
  have h1 : (B.map Prod.fst).Pairwise (· ≠ ·) := by rw [List.pairwise_map]; exact hB
  rw [← h, List.pairwise_map] at h1
  exact h1
section
variable {w w' : World} {m : Nat} {ws : List WR}
theorem BufM.made (w : World) : BufM (w.alloc (.map #[] 0)) w.heap.size [] := ⟨0, _, [], World.ownsMap_made w _ _ _, Nat.le_refl _, MapIs.nil, rfl, by simp⟩
theorem BufM.lt (h : BufM w m ws) : m < w.heap.size := by obtain ⟨n, D, cs, h, _⟩ := h; exact h.lt
theorem BufM.grown {row : Option Nat} (h : BufM w m ws) (hg : w.grownBy w' row) (hm : some m ≠ row) (hr : ∀ g r, Lies w g r → w'.heap[g]? = w.heap[g]?) : BufM w' m ws := by
  obtain ⟨n, D, cs, h1, h2, h3, h4, h5⟩ := h
  exact ⟨n, D, cs, h1.kept hg hm, h2, h3, h4, fun k c v hc hv => (h5 k c v hc hv).keep hr⟩
theorem ownsMap_at {P : Program} {k : TypeId} {R : Value → Option (DataW Unit × List MemPlace)} {n : Nat} {D : DataW Unit} (h : w.ownsMap P k R m n D) (hm : w'.heap[m]? = w.heap[m]?) : w'.ownsMap P k R m n D := by
  obtain ⟨es, clock, hb, h2⟩ := h
  exact ⟨es, clock, hm.trans hb, h2⟩
theorem BufM.keep (h : BufM w m ws) (hm : w'.heap[m]? = w.heap[m]?) (hr : ∀ g r, Lies w g r → w'.heap[g]? = w.heap[g]?) : BufM w' m ws := by
  obtain ⟨n, D, cs, h1, h2, h3, h4, h5⟩ := h
  exact ⟨n, D, cs, ownsMap_at h1 hm, h2, h3, h4, fun k c v hc hv => (h5 k c v hc hv).keep hr⟩
theorem BufM.below (h : BufM w m ws) (hb : Below w.heap.size w w') : BufM w' m ws := h.keep (hb.block m h.lt) fun g r hl => hb.block g hl.lt
theorem BufM.chg {F F' : List Nat} (h : BufM w m ws) (hc : Chg F w w' F') (hm : m ∉ F) (hr : ∀ g r, Lies w g r → g ∉ F) : BufM w' m ws := h.keep (hc.block m h.lt hm) fun g r hl => hc.block g hl.lt (hr g r hl)
/-- A map is no row. -/
theorem BufM.not_row (h : BufM w m ws) {g : Nat} {r : Ro} (hl : Lies w g r) : g ≠ m := by
  obtain ⟨n, D, cs, ⟨es, clock, hb, _⟩, _⟩ := h
  rintro rfl
  unfold Lies at hl
  rw [hb] at hl
  cases hl
end
/-- Block B is a buffer over the table at T; its writes lie in the map at m. -/
structure Buf (w : World) (B T m : Nat) (ws : List WR) : Prop where
  c : w.heap[B]? = some (.cells #[.pointer (some ⟨T, 0, none⟩), .map (some m)] 86 (0, 0))
  d : BufM w m ws
  ok : WsOk ws
section
variable {w w' : World} {B T m : Nat} {ws : List WR}
theorem Buf.lt (h : Buf w B T m ws) : B < w.heap.size := (Array.getElem?_eq_some_iff.1 h.c).1
theorem Buf.mlt (h : Buf w B T m ws) : m < w.heap.size := h.d.lt
theorem Buf.below (h : Buf w B T m ws) (hb : Below w.heap.size w w') : Buf w' B T m ws := ⟨(hb.block B h.lt).trans h.c, h.d.below hb, h.ok⟩
theorem Buf.chg {F F' : List Nat} (h : Buf w B T m ws) (hc : Chg F w w' F') (hB : B ∉ F) (hm : m ∉ F) (hr : ∀ g r, Lies w g r → g ∉ F) : Buf w' B T m ws := ⟨(hc.block B h.lt hB).trans h.c, h.d.chg hc hm hr, h.ok⟩
theorem Buf.c0 (h : Buf w B T m ws) : w.cell? ⟨B, 0, none⟩ = some (.pointer (some ⟨T, 0, none⟩)) := cell_of_row w B 0 _ _ _ h.c
theorem Buf.c1 (h : Buf w B T m ws) : w.cell? ⟨B, 1, none⟩ = some (.map (some m)) := cell_of_row w B 1 _ _ _ h.c
theorem Buf.ne (h : Buf w B T m ws) : B ≠ m := by
  rintro rfl
  obtain ⟨n, D, cs, ⟨es, clock, hb, _⟩, _⟩ := h.d
  have := h.c
  rw [hb] at this
  cases this
end
end Go.Proofs.YtlnagdodnkhbmaaGreat
