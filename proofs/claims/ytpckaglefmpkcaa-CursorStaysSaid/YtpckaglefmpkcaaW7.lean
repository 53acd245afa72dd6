/- TreeNil. -/
import Derived.Test.YtpckaglefmpkcaaW3
namespace Go.Proofs.Ytpckaglefmpkcaa
open Go.RowKit Go.Shelf
attribute [local go_sem] Oper.semAt_some

/-- A result that is told in a block of its own, made first: written, and told. -/
theorem new_cell (w : World) (v : Value) (t : TypeId) : (w.alloc (.cells #[v] t)).cell? ⟨w.heap.size, 0, none⟩ = some v ∧ (w.alloc (.cells #[v] t)).frozen? ⟨w.heap.size, 0, none⟩ = false ∧ Below w.heap.size w (w.alloc (.cells #[v] t)) :=
  ⟨(cellNew w v t).1, (cellNew w v t).2, (Below.refl _ w).alloc (Nat.le_refl _) _⟩
theorem treenil_many (w : World) (xs ys : List Nat) (h : 300 < xs.length ∨ (¬ 300 < xs.length ∧ 300 < ys.length)) : Calls Try.prog 8 #[.string (str xs), .string (str ys)] w (Yes w) := by
  have hsx := str_size xs
  have hsy := str_size ys
  obtain ⟨c0, f0, hb0⟩ := new_cell w (.bool false) 4
  have HB0 := hid hb0
  have C0 := hid c0
  have F0 := hid f0
  clear hb0 c0 f0
  rcases h with h | ⟨h1, h2⟩
  · have hi : (300 : Int) < xs.length := by omega
    go_enter Try.func8, Try.ntmps8
    go_wp2_with fail
    refine (awake_yes _).mono ?_
    rintro e w1 ⟨rfl, hb1⟩
    have c1 := below_keep hb1 _ _ C0.out
    have f1 := (hb1.frozen (p := ⟨w.heap.size, 0, none⟩) (by simp)).trans F0.out
    go_wp2
    have c2 := World.cell?_setCell_same' w1 ⟨w.heap.size, 0, none⟩ (.bool true) (by rw [c1]; rfl)
    refine bodyPost_ret (v := .bool true) (by simp [results, Try.results8, go_sem, c2]) rfl ⟨rfl, (below_step HB0.out hb1).setCell (p := ⟨w.heap.size, 0, none⟩) (Nat.le_refl _) _⟩
  · have hi1 : ¬ (300 : Int) < xs.length := by omega
    have hi : (300 : Int) < ys.length := by omega
    go_enter Try.func8, Try.ntmps8
    go_wp2_with fail
    refine (awake_yes _).mono ?_
    rintro e w1 ⟨rfl, hb1⟩
    have c1 := below_keep hb1 _ _ C0.out
    have f1 := (hb1.frozen (p := ⟨w.heap.size, 0, none⟩) (by simp)).trans F0.out
    go_wp2
    have c2 := World.cell?_setCell_same' w1 ⟨w.heap.size, 0, none⟩ (.bool true) (by rw [c1]; rfl)
    refine bodyPost_ret (v := .bool true) (by simp [results, Try.results8, go_sem, c2]) rfl ⟨rfl, (below_step HB0.out hb1).setCell (p := ⟨w.heap.size, 0, none⟩) (Nat.le_refl _) _⟩
/-- A result's cell, through a loop over a function. -/
def ResI (w : World) (_pre : List Pr) (_K : Bl) (W : World) : Prop :=
  W.cell? ⟨w.heap.size, 0, none⟩ = some (.bool false) ∧ W.frozen? ⟨w.heap.size, 0, none⟩ = false ∧ Below w.heap.size w W
theorem resI_abide {w : World} {B : Nat} (hlt : w.heap.size < B) : Abide B (ResI w) := by
  rintro s K A A' row ⟨h1, h1f, hB⟩ hg hr K' hK'
  have hA : Below (w.heap.size + 1) A A' := (Below.refl _ _).grown hg (blk_lt h1) fun k e => by have := (hr k e).1; omega
  exact ⟨(hA.cell (by show w.heap.size < _; omega)).trans h1, (hA.frozen (by show w.heap.size < _; omega)).trans h1f, hB.grown hg hB.size fun k e => by have := (hr k e).1; omega⟩
theorem nil_walks (w : World) : Calls Try.prog 31 #[.pointer none] w fun e w' => ∃ gf lb G, e = .returned (.func (.func gf) #[] lb) ∧ Below w.heap.size w w' ∧ Walks w' gf lb G [] := by
  refine (nil_all w).mono ?_
  rintro e w' ⟨rfl, hb, hs, hg⟩
  exact ⟨_, _, _, rfl, hb, enters_of Try.func63 (by kernel_rfl) rfl, fun b h => by rcases h with rfl | rfl <;> omega, hg⟩
set_option maxRecDepth 100000 in
set_option maxHeartbeats 400000 in
theorem treenil_few (w : World) (xs ys : List Nat) (h1 : ¬ 300 < xs.length) (h2 : ¬ 300 < ys.length) : Calls Try.prog 8 #[.string (str xs), .string (str ys)] w (Yes w) := by
  have hsx := str_size xs
  have hsy := str_size ys
  have hi1 : ¬ (300 : Int) < xs.length := by omega
  have hi2 : ¬ (300 : Int) < ys.length := by omega
  obtain ⟨c0, f0, hb0⟩ := new_cell w (.bool false) 4
  have HB0 := hid hb0
  have HE := hid str_nil
  have hnil := run_eql_nil
  refine (callsIn_wide (n := 3)).1 ?_
  refine callsIn_of_wp_marks Try.func8 rfl trivial ?_ rfl
  simp only [Try.ntmps8, List.size_toArray, List.length_cons, List.length_nil, Nat.reduceAdd, Nat.reduceSub, Array.replicate_succ, Array.replicate_zero, List.push_toArray, List.append_toArray, List.nil_append, List.cons_append]
  gi_wp2_with (refine ⟨trivial, ?_⟩; gi_at_call 31; refine (callsIn_wide.2 (nil_walks _)).mono ?_; rintro e w1 ⟨gf, lb, G, rfl, hb1, hw1⟩)
  have c1 := below_keep hb1 _ _ c0
  have f1 := (hb1.frozen (p := ⟨w.heap.size, 0, none⟩) (by simp)).trans f0
  have hlt : w.heap.size < w1.heap.size := blk_lt c1
  refine range_own (gf := gf) (lb := lb) rfl hw1.en hw1.gives (w0 := w1) (Stay.refl _ _) (fun _ => rfl) (ResI w) (fun _ _ _ _ => False) (resI_abide hlt) (fun _ _ _ _ _ _ h => h.elim) G (fun _ h => h) hw1.lt
    ⟨c1, f1, below_step HB0.out hb1⟩ ?round ?done ?stop
  case round =>
    rintro lq pre x K W m hI hKW hKl hlq hpre
    exact absurd (List.prefix_nil.1 hpre) (by simp)
  case stop =>
    rintro D c pre K W _ h
    exact h.elim
  case done =>
    rintro D Kd W ⟨q1, q2, hB⟩ _ _ hD hK
    have HW := hid hB
    have Q1 := hid q1
    have Q2 := hid q2
    have HK := hid hK
    have HHD := hid hD
    clear q1 q2 hB hK hD hnil
    gi_wp2
    refine ⟨trivial, ?_⟩
    gi_at_call 28
    refine (callsIn_wide.2 (nil_put _ _ _)).mono ?_
    rintro e w2 ⟨rfl, rfl⟩
    gi_wp2
    refine ⟨trivial, ?_⟩
    gi_at_call 29
    refine (callsIn_wide.2 (nil_get _ _)).mono ?_
    rintro e w3 ⟨rfl, rfl⟩
    gi_wp2
    refine ⟨trivial, ?_⟩
    gi_at_call 30
    refine (callsIn_wide.2 (nil_del _ _)).mono ?_
    rintro e w4 ⟨rfl, rfl⟩
    gi_wp2
    refine ⟨trivial, ?_⟩
    gi_at_call 22
    refine (callsIn_wide.2 (nil_ceil _ _)).mono ?_
    rintro e w5 ⟨rfl, hb5⟩
    have H5 := hid hb5
    rw [← HE.out]
    clear hb5
    have hcat : ({ data := #[] } ++ { data := #[] } ++ { data := #[] } ++ { data := #[] } ++ { data := #[] } : ByteArray).toList = [] := by
      rw [HE.out, str_app, str_app, str_app, str_app]
      rw [str_toList]; rfl
    gi_wp2
    refine ⟨trivial, ?_⟩
    gi_at_call 21
    refine (callsIn_wide.2 (nil_len _)).mono ?_
    rintro e w6 ⟨rfl, rfl⟩
    gi_wp2
    refine ⟨trivial, ?_⟩
    gi_at_call 26
    refine (callsIn_wide.2 (nil_shape _)).mono ?_
    rintro e w7 ⟨rfl, rfl⟩
    gi_wp2
    refine ⟨trivial, ?_⟩
    gi_at_call 27
    refine (callsIn_wide.2 (nil_copy _)).mono ?_
    rintro e w8 ⟨rfl, rfl⟩
    gi_wp2
    refine ⟨trivial, ?_⟩
    gi_at_call 18
    refine (callsIn_wide.2 (awake_yes _)).mono ?_
    rintro e w9 ⟨rfl, hb9⟩
    have HB9 : Hid (Below w4.heap.size w4 w9) := below_step H5.out hb9
    have r1 := below_keep HB9.out _ _ Q1.out
    have r2 := (HB9.out.frozen (p := ⟨w.heap.size, 0, none⟩) (blk_lt Q1.out)).trans Q2.out
    clear hb9
    gi_wp2
    have HK' : Hid ((w9.setCell ⟨w.heap.size, 0, none⟩ (.bool true)).heap[D]? = some (.deferred (some []))) := (KeepsOthers.setCell w9 ⟨w.heap.size, 0, none⟩ (.bool true)).same D _ ((HB9.out.block D (Array.getElem?_eq_some_iff.1 HK.out).1).trans HK.out) rfl
    have hc5 := cell_kept (World.cell?_setCell_same' w9 ⟨w.heap.size, 0, none⟩ (.bool true) (by rw [r1]; rfl)) (grownBy_putObj' _ D (.deferred none)) (fun r e => by cases e; exact ⟨_, HK'.out, rfl⟩)
    refine ⟨by simp, .inl ⟨_, _, rfl, run_takeDeferred HK'.out, ?_⟩⟩
    refine ⟨.bool true, ?_, rfl, ?_⟩
    · simp [results, Try.f8, go_sem, hc5]
    · exact ((below_step HW.out HB9.out).setCell (p := ⟨w.heap.size, 0, none⟩) (Nat.le_refl _) _).trans (belowK_b (w := w) (Nat.le_refl _) _ D _ _ (by have := HHD.out; omega) HK'.out rfl rfl)
theorem treenil_any (w : World) (xs ys : List Nat) (_hx : Byt xs) (_hy : Byt ys) : Calls Try.prog 8 #[.string (str xs), .string (str ys)] w (Yes w) := by
  by_cases h1 : 300 < xs.length
  · exact treenil_many w xs ys (.inl h1)
  · by_cases h2 : 300 < ys.length
    · exact treenil_many w xs ys (.inr ⟨h1, h2⟩)
    · exact treenil_few w xs ys h1 h2
end Go.Proofs.Ytpckaglefmpkcaa
