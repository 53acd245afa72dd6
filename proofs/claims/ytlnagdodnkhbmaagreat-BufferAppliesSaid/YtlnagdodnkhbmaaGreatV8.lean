/- A buffer: slices.SortFunc at what Writes has collected. -/
import Derived.Test.YtlnagdodnkhbmaaGreatV7
namespace Go.Proofs.YtlnagdodnkhbmaaGreat
open Go.RowKit Go.Maps Go.WideMaps Go.Shelf
set_option maxRecDepth 100000

/-! ### The order of texts, byte by byte, as compareBytes tells it -/
def ks (q : CE) : List Nat := nums (str q.1)
theorem cmpB_lt : ∀ a b : List UInt8, Lib.compareBytes a b < 0 ↔ a.map UInt8.toNat < b.map UInt8.toNat
  | [], [] => by simp [Lib.compareBytes]
  | [], _ :: _ => by simp [Lib.compareBytes]
  | _ :: _, [] => by simp [Lib.compareBytes]
  | a :: u, b :: u2 => by
    have ih := cmpB_lt u u2
    simp only [Lib.compareBytes, List.map_cons, List.cons_lt_cons_iff]
    by_cases h : a < b
    · have h' : a.toNat < b.toNat := h
      simp [h, h']
    · have h' : ¬ a.toNat < b.toNat := h
      by_cases h2 : b < a
      · have h2' : b.toNat < a.toNat := h2
        simp only [h, h2, if_true, if_false]
        exact iff_of_false (by omega) (by rintro (h3 | ⟨h3, _⟩) <;> omega)
      · have h2' : ¬ b.toNat < a.toNat := h2
        simp only [h, h2, if_false]
        rw [ih]
        constructor
        · intro h3; exact .inr ⟨by omega, h3⟩
        · rintro (h3 | ⟨_, h3⟩)
          · omega
          · exact h3
theorem lt_cmpW (x y : CE) : ltOf cmpW x y = decide (ks x < ks y) := by
  unfold ltOf cmpW ks nums
  exact decide_eq_decide.2 (cmpB_lt _ _)
theorem swoW : Go.Sort.SWO (ltOf cmpW) where
  irrefl x := by rw [lt_cmpW]; simp only [decide_eq_false_iff_not]; exact List.lt_irrefl _
  trans x y z h1 h2 := by rw [lt_cmpW] at *; simp only [decide_eq_true_eq] at *; exact List.lt_trans h1 h2
  ntrans x y z h1 h2 := by
    rw [lt_cmpW] at *
    simp only [decide_eq_false_iff_not] at *
    intro h3
    rcases lex3 (ks x) (ks y) with h | h | h
    · exact h1 h
    · rw [h] at h3; exact h2 h3
    · exact h2 (List.lt_trans h h3)

/-! ### Rows of k cells: the sort's words and append's -/
section
variable {α : Type} [Inhabited α] {enc : α → List Value} {k : Nat}
theorem flat_cells (hk : ∀ x, (enc x).length = k) (l : List α) : (Go.Sort.flatK enc k l.toArray).toList = cellsBy enc l := by
  apply List.ext_getElem?
  intro t
  rw [Array.getElem?_toList]
  by_cases h : t < l.length * k
  · have k0 : 0 < k := by rcases Nat.eq_zero_or_pos k with e | e; · subst e; simp at h
                          · exact e
    have h1 : t / k < l.length := Nat.div_lt_of_lt_mul (by rwa [Nat.mul_comm] at h)
    have h2 : t % k < k := Nat.mod_lt _ k0
    have ht : t / k * k + t % k = t := by rw [Nat.mul_comm]; exact Nat.div_add_mod t k
    have hc := cellsBy_at hk (l := l) (i := t / k) (j := t % k) (a := l[t / k]) (List.getElem?_eq_getElem h1) h2
    rw [ht] at hc
    rw [hc]
    have hs : t < (Go.Sort.flatK enc k l.toArray).size := by simpa using h
    rw [Array.getElem?_eq_getElem hs, ← getElem!_pos _ t hs, Go.Sort.get_flatK _ _ _ _ (by simpa using h)]
    have h3 : t % k < (enc l[t / k]).length := by rw [hk]; exact h2
    have h4 : l.toArray[t / k]! = l[t / k] := by rw [getElem!_pos _ _ (by simpa using h1)]; simp
    rw [h4, List.getElem?_eq_getElem h3, getElem!_pos (enc l[t / k]) (t % k) h3]
  · rw [Array.getElem?_eq_none (by simpa using h), List.getElem?_eq_none (by rw [cellsBy_len hk]; omega)]
theorem holdsK_own {w : World} {g : Nat} {cur : Array Value} {e : TypeId} {l : List α} (hk : ∀ x, (enc x).length = k) (hb : w.heap[g]? = some (.cells cur e (0, 0))) (ht : cur.toList.take (l.length * k) = cellsBy enc l) : Go.Sort.HoldsK enc k w g 0 l.toArray := by
  intro j hj
  refine ⟨?_, by simp [World.frozen?, hb]⟩
  have hj' : j < l.length * k := by simpa using hj
  have h1 : cur.toList[j]? = (Go.Sort.flatK enc k l.toArray).toList[j]? := by
    rw [flat_cells hk, ← ht, List.getElem?_take_of_lt hj']
  rw [Array.getElem?_toList, Array.getElem?_toList, Array.getElem?_eq_getElem hj, ← getElem!_pos _ j hj] at h1
  simp only [World.cell?, hb, Nat.zero_add]
  simp only [Option.isSome_none, Bool.false_eq_true, if_false]
  exact h1
theorem heap_sortedK {w : World} {g n : Nat} {os : Array Obj} {cur : Array Value} {e : TypeId} {fr : Nat × Nat} (d : Array α) (hb : w.heap[g]? = some (.cells cur e fr)) :
    (sortWorldK enc k w g 0 n d os).heap[g]? = some (.cells (Go.Sort.putCells id 0 (Go.Sort.flatK enc k d) cur) e fr) := by
  have hg : g < w.heap.size := (Array.getElem?_eq_some_iff.1 hb).1
  unfold sortWorldK Go.Sort.putRowK
  rw [Go.Sort.heap_grow_old _ _ (by simpa using hg)]
  simp [Go.Sort.putRow, Go.Sort.mapBlock, Go.Sort.ahead, Array.getElem?_modify, hb, Go.Sort.onCells]
theorem grownBy_sortedK {w : World} {g n : Nat} {os : Array Obj} (d : Array α) : w.grownBy (sortWorldK enc k w g 0 n d os) (some g) := by
  unfold sortWorldK Go.Sort.putRowK
  refine ⟨rfl, rfl, rfl, by simp, fun j hj hne => ?_⟩
  rw [Go.Sort.heap_grow_old _ _ (by simpa using hj)]
  have : g ≠ j := fun e => hne (by rw [e])
  simp [Go.Sort.putRow, Go.Sort.mapBlock, Go.Sort.ahead, Array.getElem?_modify, this]
theorem own_sortedK {w : World} {base g cap n : Nat} {e : TypeId} {os : Array Obj} {cur : Array Value} {l d : List α} (hk : ∀ x, (enc x).length = k) (hl : d.length = l.length) (hbase : base ≤ g) (hb : w.heap[g]? = some (.cells cur e (0, 0)))
    (h1 : l.length ≤ cap) (h2 : cap ≤ maxLen) (h3 : cur.size = cap * k) :
    OwnElems k enc e (sortWorldK enc k w g 0 n d.toArray os) base (.slice (some ⟨g, 0, none⟩) l.length cap) d := by
  refine ⟨cellsBy_len hk d, .inr ⟨g, cap, _, by rw [hl], hbase, heap_sortedK _ hb, by omega, h2, by simp [Go.Sort.putCells, h3], ?_⟩⟩
  apply List.ext_getElem?
  intro j
  have hm : d.length * k ≤ cur.size := by rw [h3]; exact Nat.mul_le_mul_right k (by omega)
  by_cases hj : j < d.length * k
  · rw [List.getElem?_take_of_lt hj, Array.getElem?_toList, ← flat_cells hk, Array.getElem?_toList]
    have hs : j < (Go.Sort.flatK enc k d.toArray).size := by simpa using hj
    rw [Array.getElem?_eq_getElem hs, ← getElem!_pos _ j hs]
    simp [Go.Sort.putCells, hj, show j < cur.size by omega]
  · rw [List.getElem?_take_eq_none (by omega), List.getElem?_eq_none (by rw [cellsBy_len hk]; omega)]
end

/-- **slices.SortFunc AT WRITES**: the same keys and pointers, by keys. -/
theorem sort_w {base : Nat} {v : Value} {l : List CE} {W : World} (ho : OwnElems 2 cE8 119 W base v l) (hb : ∀ q ∈ l, Byt q.1) (hd : l.Pairwise fun a b => a.1 ≠ b.1) (hl : l.length < 4611686018427387904) : Calls Tryz.prog 63 #[v, .func (.func 64) #[] #[]] W fun e w' => e = .returned (.tuple #[]) ∧ ∃ d : List CE, d.Perm l ∧ d.Pairwise (fun a b => a.1 < b.1) ∧ OwnElems 2 cE8 119 w' base v d ∧ W.grownBy w' v.ownBlock := by
  rcases ho with ⟨hlen, ⟨rfl, h0⟩ | ⟨g, cap, cur, rfl, hbase, hg, h1, h2, h3, h4⟩⟩
  · obtain rfl := List.length_eq_zero_iff.1 h0
    have hcon := AnyF.slices_SortFunc_none sh_sortW none 0 (.func (.func 64) #[] #[]) W
    change Calls _ 63 _ _ _ at hcon
    refine hcon.mono ?_
    rintro e w' ⟨rfl, rfl⟩
    exact ⟨rfl, [], .refl _, .nil, OwnElems.nil _ _ _ _ _, ⟨rfl, rfl, rfl, Nat.le_refl _, fun _ _ _ => rfl⟩⟩
  · have hcon := AnyQ.slices_SortFunc sh_sortW 2 Tryz.isAgg119 Tryz.sizeOf119 cE8 cE8_len (fun x v hv => cE8_one x v hv) cmpW swoW 64 #[] g 0 cap l.toArray W enters64 (fun _ _ _ _ x y => compare_w x y _) (holdsK_own cE8_len hg h4) (Array.getElem?_eq_some_iff.1 hg).1 (by simpa using hl)
    change Calls _ 63 _ _ _ at hcon
    rw [show l.toArray.size = l.length by simp] at hcon
    refine hcon.mono ?_
    rintro e w' ⟨rfl, d', n, os, hp, hs, rfl⟩
    obtain ⟨hp1, _, hp2⟩ := hp
    rw [show l.length = l.toArray.size by simp] at hp2
    have hp3 : d'.toList.Perm l := by
      have e1 : d'.extract 0 l.toArray.size = d' := by rw [← hp1]; exact Array.extract_size
      rw [e1, Array.extract_size] at hp2
      simpa using hp2
    have hlen' : d'.toList.length = l.length := hp3.length_eq
    refine ⟨rfl, d'.toList, hp3, ?_, ?_, grownBy_sortedK _⟩
    · have hdis : d'.toList.Pairwise fun a b => a.1 ≠ b.1 := hp3.symm.pairwise hd (fun {a b} h e => h e.symm)
      rw [List.pairwise_iff_getElem] at hdis ⊢
      intro i j hi hj hij
      have hne := hdis i j hi hj hij
      have hst := hs i j (Nat.zero_le _) hij (by rw [← hlen']; exact hj)
      have hj' : j < d'.size := by simpa using hj
      have hi' : i < d'.size := by simpa using hi
      rw [lt_cmpW, getElem!_pos _ j hj', getElem!_pos _ i hi', decide_eq_false_iff_not] at hst
      have hbi : Byt d'[i].1 := hb _ (hp3.mem_iff.1 (by simp))
      have hbj : Byt d'[j].1 := hb _ (hp3.mem_iff.1 (by simp))
      unfold ks at hst
      rw [nums_str hbi, nums_str hbj] at hst
      simp only [Array.getElem_toList] at hne ⊢
      rcases lex3 d'[i].1 d'[j].1 with h | h | h
      · exact h
      · exact absurd h hne
      · exact absurd h hst
    · have := own_sortedK (w := W) (n := n) (os := os) (d := d'.toList) cE8_len hlen' hbase hg h1 h2 h3
      simpa using this
end Go.Proofs.YtlnagdodnkhbmaaGreat
