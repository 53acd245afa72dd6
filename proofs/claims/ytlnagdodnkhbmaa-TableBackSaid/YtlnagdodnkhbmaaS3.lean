/- The row whose columns come next, by a method's value. -/
import Derived.Test.YtlnagdodnkhbmaaS2
namespace Go.Proofs.Ytlnagdodnkhbmaa
open Go.RowKit

/-- A row's cells, by a list. -/
def rowl (l : List Int) : Array Value := (l.map fun n => Value.int .i64 n).toArray
theorem rowl_ro (r : Ro) : rowl r.l = rowc r := rfl
theorem rowl_set (l : List Int) (k : Nat) (x : Int) : (rowl l).set! k (.int .i64 x) = rowl (l.set k x) := by
  unfold rowl
  simp [List.map_set]
theorem rowl_at {l : List Int} {k : Nat} {x : Int} (h : l[k]? = some x) : (rowl l)[k]? = some (.int .i64 x) := by
  unfold rowl
  rw [List.getElem?_toArray, List.getElem?_map, h]; rfl
/-- What the row holds behind k columns. -/
def padr (l : List Int) (k : Nat) : List Int := l.take k ++ List.replicate (4 - k) 0
theorem padr_zero (l : List Int) : padr l 0 = [0, 0, 0, 0] := rfl
theorem padr_len {l : List Int} {k : Nat} (h : k ≤ l.length) (h4 : k ≤ 4) : (padr l k).length = 4 := by
  unfold padr; rw [List.length_append, List.length_take, List.length_replicate]; omega
theorem padr_all {l : List Int} (h : l.length = 4) : padr l 4 = l := by
  unfold padr
  rw [List.take_of_length_le (by omega)]
  simp
theorem padr_step {l : List Int} {k : Nat} {x : Int} (h : l[k]? = some x) (h4 : k < 4) : (padr l k).set k x = padr l (k + 1) := by
  have hk : k < l.length := (List.getElem?_eq_some_iff.1 h).1
  unfold padr
  rw [show 4 - k = (4 - (k + 1)) + 1 by omega, List.replicate_succ, List.set_append_right (h := by rw [List.length_take]; omega), List.length_take, Nat.min_eq_left (by omega), Nat.sub_self, List.set_cons_zero, List.take_add_one, h, List.append_assoc]
  rfl

def ReadRel (W : World) (g : Nat) (l : List Int) (rest : List Nat) (k : Nat) (wr : World) : Prop :=
  Rd wr g (enc (l.drop k) ++ rest) ∧ Lies wr W.heap.size ⟨0, 0, 0, 0⟩ ∧ wr.heap[W.heap.size + 1]? = some (.cells (rowl (padr l k)) 33 (0, 0)) ∧ Chg [g] W wr [g, W.heap.size, W.heap.size + 1]

theorem Lies.frozen {w : World} {g : Nat} {r : Ro} (h : Lies w g r) (k : Nat) : w.frozen? ⟨g, k, none⟩ = false := by unfold Lies at h; simp [World.frozen?, h]
/-- A row stored over another one. -/
abbrev put4 (w : World) (g : Nat) (r : Ro) : World := (((w.setCell ⟨g, 0, none⟩ (.int .i64 r.a)).setCell ⟨g, 1, none⟩ (.int .i64 r.b)).setCell ⟨g, 2, none⟩ (.int .i64 r.c)).setCell ⟨g, 3, none⟩ (.int .i64 r.d)
theorem Lies.put {w : World} {g : Nat} {r0 : Ro} (h : Lies w g r0) (r : Ro) : Lies (put4 w g r) g r := by
  have h0 := setCell_row h (i := 0) (.int .i64 r.a)
  have h1 := setCell_row h0 (i := 1) (.int .i64 r.b)
  have h2 := setCell_row h1 (i := 2) (.int .i64 r.c)
  exact setCell_row h2 (i := 3) (.int .i64 r.d)
theorem put4_far {w : World} {g k : Nat} {r : Ro} (h : k ≠ g) : (put4 w g r).heap[k]? = w.heap[k]? := by
  unfold put4
  rw [Below.heap_setCell _ _ _ _ h, Below.heap_setCell _ _ _ _ h, Below.heap_setCell _ _ _ _ h, Below.heap_setCell _ _ _ _ h]
theorem Chg.put4 {F G : List Nat} {a w : World} (h : Chg F a w G) {g : Nat} (hg : g ∈ G) (r : Ro) : Chg F a (put4 w g r) G :=
  (((h.setCell (p := ⟨g, 0, none⟩) hg _).setCell (p := ⟨g, 1, none⟩) hg _).setCell (p := ⟨g, 2, none⟩) hg _).setCell (p := ⟨g, 3, none⟩) hg _
theorem Lies.cells {w : World} {g : Nat} {r : Ro} (h : Lies w g r) : (w.cell? ⟨g, 0, none⟩ = some (.int .i64 r.a) ∧ w.cell? ⟨g, 1, none⟩ = some (.int .i64 r.b) ∧ w.cell? ⟨g, 2, none⟩ = some (.int .i64 r.c) ∧ w.cell? ⟨g, 3, none⟩ = some (.int .i64 r.d)) ∧
    w.frozen? ⟨g, 0, none⟩ = false ∧ w.frozen? ⟨g, 1, none⟩ = false ∧ w.frozen? ⟨g, 2, none⟩ = false ∧ w.frozen? ⟨g, 3, none⟩ = false :=
  ⟨⟨h.cell (k := 0) rfl, h.cell (k := 1) rfl, h.cell (k := 2) rfl, h.cell (k := 3) rfl⟩, h.frozen 0, h.frozen 1, h.frozen 2, h.frozen 3⟩
/-- What a reader of a row leaves: the row, if it is one, and what is behind. -/
def RowRead (w : World) (g : Nat) (v : Value) (c : Int) (rest : List Nat) (e : Ending) (w' : World) : Prop :=
  e = .returned (.tuple #[v, .int .i64 c]) ∧ Rd w' g rest ∧ ∃ G, Chg [g] w w' (g :: G)

set_option maxRecDepth 100000 in
theorem rread (w : World) (g : Nat) (l : List Int) (rest : List Nat) (c : Int) (r : Ro) (hR : Rd w g (enc l ++ rest)) (hb : Byt rest) (hl : ∀ x ∈ l, I64 x)
    (hm : l.length = 4 ∧ r.l = l ∧ c = 0 ∨ l.length < 4 ∧ NoGr rest ∧ r = ⟨0, 0, 0, 0⟩ ∧ c = 11) (hn : rest.length ≤ 1000000) :
    Calls Try.prog 63 #[.func (.func 64) #[.pointer (some ⟨g, 0, none⟩)] #[]] w (RowRead w g (rowv r) c rest) := by
  have hgl := One.lt hR
  obtain ⟨B, HB⟩ : ∃ B, Hid (B = w.heap.size) := ⟨_, rfl⟩
  have hst : ReadRel w g l rest 0 ((w.alloc (.cells (rowc ⟨0, 0, 0, 0⟩) 33)).alloc (.cells (rowc ⟨0, 0, 0, 0⟩) 33)) := by
    have e : (w.alloc (.cells (rowc ⟨0, 0, 0, 0⟩) 33)).heap.size = w.heap.size + 1 := by simp
    refine ⟨One.alloc (One.alloc hR _) _, (Lies.new w _).below ((Below.refl _ _).alloc (Nat.le_refl _) _), ?_, ?_⟩
    · have := Lies.new (w.alloc (.cells (rowc ⟨0, 0, 0, 0⟩) 33)) ⟨0, 0, 0, 0⟩
      rw [e] at this
      exact this
    · have := (((Chg.refl [g] w).alloc (.cells (rowc ⟨0, 0, 0, 0⟩) 33)).alloc (.cells (rowc ⟨0, 0, 0, 0⟩) 33))
      refine this.less fun k hk => ?_
      simp only [List.mem_cons, List.not_mem_nil, or_false] at hk
      rcases hk with rfl | rfl | rfl
      · exact .inl (by simp)
      · exact .inr (Nat.le_refl _)
      · exact .inr (by omega)
  have HST := hid hst
  have HM := hid hm
  have HL := hid hl
  have HBY := hid hb
  have hmle : l.length ≤ 4 := by omega
  obtain ⟨m, HLN⟩ : ∃ m, Hid (m = l.length) := ⟨_, rfl⟩
  rw [← HLN.out] at hmle
  clear hst hR hb hl hm
  go_enter Try.func63, Try.ntmps63
  go_wp2
  go_loopw [8] (fun i wr => ∃ k : Nat, k ≤ m ∧ i = .int .i64 k ∧ ReadRel w g l rest k wr) (fun i _ => 4 - (intOf i).toNat)
  case atStart => exact ⟨0, by omega, rfl, HST.out⟩
  case round =>
    obtain ⟨k, hk, rfl, hR, hZ, hP, hC⟩ := hrel
    have HR := hid hR
    have HZ := hid hZ
    have HP := hid hP
    have HC := hid hC
    clear hR hZ hP hC
    have hbr : Hid (Byt (enc (l.drop (k + 1)) ++ rest)) := (enc_byt _).app HBY.out
    have hnr : Hid ((enc (l.drop (k + 1)) ++ rest).length ≤ 1000000000000) := by
      show _ ≤ _
      rw [List.length_append]
      have := enc_len (l.drop (k + 1)) fun y hy => HL.out y (List.mem_of_mem_drop hy)
      rw [List.length_drop] at this
      have := HLN.out
      omega
    by_cases hlt : k < m
    · obtain ⟨x, hx⟩ : ∃ x, l[k]? = some x := ⟨l[k]'(by have := HLN.out; omega), List.getElem?_eq_getElem _⟩
      have HX := hid hx
      have HI := hid (HL.out x (List.mem_of_getElem? hx))
      have HE : Hid (Rd wr g (gr (zig x) ++ (enc (l.drop (k + 1)) ++ rest))) := by
        have := HR.out
        rw [enc_drop hx, List.append_assoc] at this
        exact this
      have h4 : (k : Int) < 4 := by omega
      clear hx
      go_wp2_with fail
      refine (rint_ok wr g (zig x) _ HE.out hbr.out (zig_lt HI.out.1 HI.out.2) hnr.out).mono ?_
      rintro e w' ⟨rfl, hq, hc⟩
      rw [zag_zig]
      have hP1 : w'.heap[w.heap.size + 1]? = some (.cells (rowl (padr l k)) 33 (0, 0)) := by
        have hlt := (Array.getElem?_eq_some_iff.1 HP.out).1
        rw [hc.block _ hlt (by simp; omega)]
        exact HP.out
      have hZ1 : Hid (Lies w' w.heap.size ⟨0, 0, 0, 0⟩) := HZ.out.keep (hc.block _ HZ.out.lt (by simp; omega))
      have hst := setCell_row hP1 (i := k) (.int .i64 x)
      rw [rowl_set, padr_step HX.out (by omega)] at hst
      have hcell : w'.cell? ⟨w.heap.size + 1, k, none⟩ = some (.int .i64 ((padr l k)[k]'(by rw [padr_len (by have := HLN.out; omega) (by omega)]; omega))) :=
        (cell_of_row w' _ k _ _ _ hP1).trans (rowl_at (List.getElem?_eq_getElem _))
      have hfz : w'.frozen? ⟨w.heap.size + 1, k, none⟩ = false := by simp [World.frozen?, hP1]
      have HRR : Hid (Rd (w'.setCell ⟨w.heap.size + 1, k, none⟩ (.int .i64 x)) g (enc (l.drop (k + 1)) ++ rest)) := One.far hq (by show g ≠ w.heap.size + 1; omega) _
      have HCC : Hid (Chg [g] w (w'.setCell ⟨w.heap.size + 1, k, none⟩ (.int .i64 x)) [g, w.heap.size, w.heap.size + 1]) := by
        have h1 := hc.more (K := [g, w.heap.size, w.heap.size + 1]) (fun k hk => by rw [List.mem_singleton.1 hk]; exact List.mem_cons_self)
        have h2 : Chg [g] w w' [g, w.heap.size, w.heap.size + 1] := (HC.out.trans h1).less fun k hk => by
          simp only [List.mem_cons, List.not_mem_nil, or_false] at hk
          rcases hk with rfl | rfl | rfl
          · exact .inl (by simp)
          · exact .inr (Nat.le_refl _)
          · exact .inr (by omega)
        exact h2.setCell (by simp) _
      have HST := hid hst
      have HZZ : Hid (Lies (w'.setCell ⟨w.heap.size + 1, k, none⟩ (.int .i64 x)) w.heap.size ⟨0, 0, 0, 0⟩) := hZ1.out.keep (Below.heap_setCell _ _ _ _ (by show w.heap.size ≠ w.heap.size + 1; omega))
      clear hq hc hP1 hst
      go_wp2
      go_roundw
      case rel => exact ⟨k + 1, by omega, by go_num, HRR.out, HZZ.out, HST.out, HCC.out⟩
      case measure => simp [intOf]; omega
    · obtain rfl : k = m := by omega
      rcases HM.out with ⟨h4, hrl, hc0⟩ | ⟨h4, hng, hr0, hc0⟩
      · have hk4 : k = 4 := by have := HLN.out; omega
        subst hk4
        have hP := HP.out
        rw [padr_all h4, ← hrl, rowl_ro] at hP
        have hL1 : Hid (Lies wr (w.heap.size + 1) r) := hP
        obtain ⟨⟨c0, c1, c2, c3⟩, _⟩ := hL1.out.cells
        obtain ⟨⟨z0, z1, z2, z3⟩, f0, f1, f2, f3⟩ := HZ.out.cells
        obtain ⟨⟨p0, p1, p2, p3⟩, _⟩ := (HZ.out.put r).cells
        have HPP := hid (And.intro p0 (And.intro p1 (And.intro p2 p3)))
        have HRR : Hid (Rd (put4 wr w.heap.size r) g rest) := by
          have h := HR.out
          rw [List.drop_of_length_le (by omega)] at h
          exact One.keep h (put4_far (by omega))
        have HCC : Hid (Chg [g] w (put4 wr w.heap.size r) [g, w.heap.size, w.heap.size + 1]) := HC.out.put4 (by simp) r
        subst hc0
        clear hP p0 p1 p2 p3
        go_wp2
        obtain ⟨p0, p1, p2, p3⟩ := HPP.out
        exact bodyPost_ret (v := .tuple #[rowv r, .int .i64 0]) (by simp [results, Try.results63, go_sem, p0, p1, p2, p3, rowv, rowc]) rfl ⟨rfl, HRR.out, _, HCC.out⟩
      · subst hr0
        subst hc0
        obtain ⟨⟨z0, z1, z2, z3⟩, f0, f1, f2, f3⟩ := HZ.out.cells
        have HE : Hid (Rd wr g rest) := by
          have h := HR.out
          rw [List.drop_of_length_le (by have := HLN.out; omega)] at h
          exact h
        have h4' : (k : Int) < 4 := by have := HLN.out; omega
        have hn' : Hid (rest.length ≤ 1000000000000) := by show _ ≤ _; omega
        clear z0 z1 z2 z3 f0 f1 f2 f3
        go_wp2_with fail
        refine (rint_form wr g rest HE.out HBY.out hng hn'.out).mono ?_
        rintro e w' ⟨rfl, hq, hc⟩
        have hZ1 : Lies w' w.heap.size ⟨0, 0, 0, 0⟩ := HZ.out.keep (hc.block _ HZ.out.lt (by simp; omega))
        obtain ⟨⟨z0, z1, z2, z3⟩, f0, f1, f2, f3⟩ := hZ1.cells
        obtain ⟨⟨p0, p1, p2, p3⟩, _⟩ := (hZ1.put ⟨0, 0, 0, 0⟩).cells
        have HPP := hid (And.intro p0 (And.intro p1 (And.intro p2 p3)))
        have HRR : Hid (Rd (put4 w' w.heap.size ⟨0, 0, 0, 0⟩) g rest) := One.keep hq (put4_far (by omega))
        have HCC : Hid (Chg [g] w (put4 w' w.heap.size ⟨0, 0, 0, 0⟩) [g, w.heap.size, w.heap.size + 1]) := by
          have h1 := hc.more (K := [g, w.heap.size, w.heap.size + 1]) (fun k hk => by rw [List.mem_singleton.1 hk]; exact List.mem_cons_self)
          have h2 : Chg [g] w w' [g, w.heap.size, w.heap.size + 1] := (HC.out.trans h1).less fun k hk => by
            simp only [List.mem_cons, List.not_mem_nil, or_false] at hk
            rcases hk with rfl | rfl | rfl
            · exact .inl (by simp)
            · exact .inr (Nat.le_refl _)
            · exact .inr (by omega)
          exact h2.put4 (by simp) _
        clear hZ1 p0 p1 p2 p3 hq hc
        go_wp2
        obtain ⟨p0, p1, p2, p3⟩ := HPP.out
        exact bodyPost_ret (v := .tuple #[rowv ⟨0, 0, 0, 0⟩, .int .i64 11]) (by simp [results, Try.results63, go_sem, p0, p1, p2, p3, rowv, rowc]) rfl ⟨rfl, HRR.out, _, HCC.out⟩
end Go.Proofs.Ytlnagdodnkhbmaa

