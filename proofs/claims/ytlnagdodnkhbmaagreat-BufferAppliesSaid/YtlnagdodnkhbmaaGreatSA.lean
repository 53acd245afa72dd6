import Derived.Test.YtlnagdodnkhbmaaGreatFB
import Derived.Test.YtlnagdodnkhbmaaGreatKA
import Derived.Deep.RegionHeld3

/- Rows: four numbers as a value, in memory, as bytes; Encode and the reference's Encode. -/
namespace Go.Proofs.YtlnagdodnkhbmaaGreat
open Go.RowKit

/-- A row's numbers. -/
structure Ro where
  a : Int
  b : Int
  c : Int
  d : Int
def Ro.l (r : Ro) : List Int := [r.a, r.b, r.c, r.d]
def Ro.ok (r : Ro) : Prop := ∀ x ∈ r.l, I64 x
def rowc (r : Ro) : Array Value := #[.int .i64 r.a, .int .i64 r.b, .int .i64 r.c, .int .i64 r.d]
def rowv (r : Ro) : Value := .agg (rowc r)
theorem rowc_at (r : Ro) {k : Nat} {x : Int} (h : r.l[k]? = some x) : (rowc r)[k]? = some (.int .i64 x) := by
  match k with
  | 0 => injection h with h; subst h; rfl
  | 1 => injection h with h; subst h; rfl
  | 2 => injection h with h; subst h; rfl
  | 3 => injection h with h; subst h; rfl
  | k + 4 => simp [Ro.l] at h
theorem Ro.at_ (r : Ro) {k : Nat} (h : k < 4) : ∃ x, r.l[k]? = some x := ⟨r.l[k]'(by show k < 4; exact h), List.getElem?_eq_getElem _⟩
theorem Ro.ext_ {r s : Ro} (h : r.l = s.l) : r = s := by
  cases r; cases s
  simp only [Ro.l, List.cons.injEq] at h
  simp only [Ro.mk.injEq]
  exact ⟨h.1, h.2.1, h.2.2.1, h.2.2.2.1⟩
theorem Ro.of {l : List Int} (h : l.length = 4) : ∃ r : Ro, r.l = l := by
  match l, h with
  | [a, b, c, d], _ => exact ⟨⟨a, b, c, d⟩, rfl⟩
theorem Ro.len (r : Ro) : r.l.length = 4 := rfl

/-- Numbers as Int writes them, one behind the other. -/
def enc (l : List Int) : List Nat := l.flatMap fun n => gr (zig n)
theorem enc_snoc {l : List Int} {k : Nat} {x : Int} (h : l[k]? = some x) : enc (l.take k) ++ gr (zig x) = enc (l.take (k + 1)) := by
  unfold enc
  rw [List.take_add_one, h, List.flatMap_append]
  simp
theorem enc_drop {l : List Int} {k : Nat} {x : Int} (h : l[k]? = some x) : enc (l.drop k) = gr (zig x) ++ enc (l.drop (k + 1)) := by
  have hk : k < l.length := (List.getElem?_eq_some_iff.1 h).1
  rw [List.drop_eq_getElem_cons hk]
  rw [List.getElem?_eq_getElem hk] at h
  injection h with h
  rw [h]; rfl
theorem enc_byt (l : List Int) : Byt (enc l) := by
  intro b hb
  unfold enc at hb
  rw [List.mem_flatMap] at hb
  obtain ⟨n, _, hb⟩ := hb
  exact gr_byt _ b hb
theorem enc_len : ∀ (l : List Int), (∀ x ∈ l, I64 x) → (enc l).length ≤ 10 * l.length
  | [], _ => by simp [enc]
  | x :: l, h => by
    have h1 := enc_len l fun y hy => h y (List.mem_cons_of_mem _ hy)
    have h2 := h x List.mem_cons_self
    have h3 := gr_len10 (zig_lt h2.1 h2.2)
    unfold enc at h1 ⊢
    rw [List.flatMap_cons, List.length_append, List.length_cons]
    omega
theorem enc_inj : ∀ (l m : List Int) (xs ys : List Nat), l.length = m.length → enc l ++ xs = enc m ++ ys → l = m ∧ xs = ys
  | [], [], _, _, _, h => ⟨rfl, by simpa [enc] using h⟩
  | x :: l, y :: m, xs, ys, hl, h => by
    unfold enc at h
    rw [List.flatMap_cons, List.flatMap_cons, List.append_assoc, List.append_assoc] at h
    obtain ⟨h1, h2⟩ := gr_inj _ _ _ _ h
    obtain ⟨h3, h4⟩ := enc_inj l m xs ys (by simpa using hl) h2
    have h5 : x = y := by rw [← zag_zig x, ← zag_zig y, h1]
    exact ⟨by rw [h3, h5], h4⟩

/-- A row in memory. -/
def Lies (w : World) (g : Nat) (r : Ro) : Prop := w.heap[g]? = some (.cells (rowc r) 41 (0, 0))
theorem Lies.cell {w : World} {g : Nat} {r : Ro} (h : Lies w g r) {k : Nat} {x : Int} (hx : r.l[k]? = some x) : w.cell? ⟨g, k, none⟩ = some (.int .i64 x) :=
  (cell_of_row w g k _ _ _ h).trans (rowc_at r hx)
theorem Lies.lt {w : World} {g : Nat} {r : Ro} (h : Lies w g r) : g < w.heap.size := by
  rcases Nat.lt_or_ge g w.heap.size with hl | hl
  · exact hl
  · unfold Lies at h; rw [Array.getElem?_eq_none hl] at h; cases h
theorem Lies.keep {w w' : World} {g : Nat} {r : Ro} (h : Lies w g r) (hk : w'.heap[g]? = w.heap[g]?) : Lies w' g r := hk.trans h
theorem Lies.below {w w' : World} {g : Nat} {r : Ro} (h : Lies w g r) (hb : Below w.heap.size w w') : Lies w' g r := h.keep (hb.block g h.lt)
theorem Lies.new (w : World) (r : Ro) : Lies (w.alloc (.cells (rowc r) 41)) w.heap.size r := heap_alloc_new w _
theorem Wr.not_row {w : World} {F : List Nat} {p : Value} {xs : List Nat} {g : Nat} {r : Ro} (h : Wr w F p xs) (hr : Lies w g r) : g ∉ F := by
  obtain ⟨g', v, rfl, h1, h2, rfl⟩ := h
  intro hm
  rcases List.mem_cons.1 hm with rfl | hm
  · unfold One at h1; unfold Lies at hr; rw [h1] at hr
    injection hr with hr
    injection hr with _ ht
    exact absurd ht (by decide)
  · exact h2.ne_ hr (by decide) hm

def EncRel (W : World) (g : Nat) (r : Ro) (p : Value) (k : Nat) (wr : World) : Prop :=
  ∃ F, Wr wr F p (enc (r.l.take k)) ∧ Chg [] W wr F ∧ Lies wr g r

set_option maxRecDepth 100000 in
theorem rencode (w : World) (r : Ro) (hr : r.ok) : Calls Tryz.prog 82 #[rowv r] w (Fresh w (enc r.l)) := by
  have hst : EncRel w w.heap.size r (.pointer (some ⟨w.heap.size + 1, 0, none⟩)) 0 ((w.alloc (.cells (rowc r) 41)).alloc (.cells #[.slice none 0 0] 198)) :=
    by
    have h := wr_new (w.alloc (.cells (rowc r) 41))
    have e : (w.alloc (.cells (rowc r) 41)).heap.size = w.heap.size + 1 := by simp
    rw [e] at h
    refine ⟨_, h, ?_, (Lies.new w r).below ((Below.refl _ _).alloc (Nat.le_refl _) _)⟩
    have := ((Chg.refl [] w).alloc (.cells (rowc r) 41)).add (.cells #[.slice none 0 0] 198)
    rw [e] at this
    exact this
  have HST := hid hst
  clear hst
  unfold rowv
  go_enter Tryz.func82, Tryz.ntmps82
  go_wp2
  go_loopw [5] (fun i wr => ∃ k : Nat, k ≤ 4 ∧ i = .int .i64 k ∧ EncRel w w.heap.size r (.pointer (some ⟨w.heap.size + 1, 0, none⟩)) k wr) (fun i _ => 4 - (intOf i).toNat)
  case atStart => exact ⟨0, by omega, rfl, HST.out⟩
  case round =>
    obtain ⟨k, hk, rfl, F, hW, hC, hL⟩ := hrel
    have HW := hid hW
    have HC := hid hC
    have HL := hid hL
    by_cases hlt : k < 4
    · obtain ⟨x, hx⟩ := r.at_ hlt
      have hcell := hL.cell hx
      have HX := hid hx
      have hi := hr x (List.mem_of_getElem? hx)
      have hle : (enc (r.l.take k)).length ≤ 1000000000000 := by
        have := enc_len (r.l.take k) fun y hy => hr y (List.mem_of_mem_take hy)
        have h4 := List.length_take_le k r.l
        omega
      have HI := hid hi
      have HLE := hid hle
      clear hx hL hW hC hi hle
      go_wp2_with fail
      refine (wint wr F _ _ x HW.out HI.out.1 HI.out.2 HLE.out).mono ?_
      rintro e w' ⟨rfl, F', hW', hC'⟩
      have HN : Hid (EncRel w w.heap.size r (.pointer (some ⟨w.heap.size + 1, 0, none⟩)) (k + 1) w') :=
        ⟨F', by rw [← enc_snoc HX.out]; exact hW', HC.out.trans hC', HL.out.keep (hC'.block _ HL.out.lt (HW.out.not_row HL.out))⟩
      clear hW' hC'
      go_wp2
      go_roundw
      case rel => exact ⟨k + 1, by omega, by go_num, HN.out⟩
      case measure => simp [intOf]; omega
    · obtain rfl : k = 4 := by omega
      have hle : (enc (r.l.take 4)).length ≤ 100000000000000 := by
        have := enc_len (r.l.take 4) fun y hy => hr y (List.mem_of_mem_take hy)
        have h4 := List.length_take_le 4 r.l
        omega
      clear hL hW hC
      go_wp2_with fail
      refine (wbytes_fresh wr F _ _ HW.out hle).mono ?_
      rintro e w' ⟨u, rfl, hu, hc⟩
      have HU := hid hu
      have HD := hid hc
      clear hu hc
      go_wp2
      go_ret
      refine ⟨u, rfl, HU.out, ?_⟩
      exact HC.out.trans (HD.out.more fun _ h => by cases h)
end Go.Proofs.YtlnagdodnkhbmaaGreat

/- The reference's Encode; the row of four columns that are read, one behind the other. -/
namespace Go.Proofs.YtlnagdodnkhbmaaGreat
open Go.RowKit

def REncRel (W : World) (g : Nat) (r : Ro) (v : Value) (k : Nat) (wr : World) : Prop :=
  Own .u8 wr 0 5 v (enc (r.l.take k)) ∧ Chg [] W wr (ownFoot v) ∧ Lies wr g r

end Go.Proofs.YtlnagdodnkhbmaaGreat

/- The row whose columns come next, by a method's value. -/
namespace Go.Proofs.YtlnagdodnkhbmaaGreat
open Go.RowKit

/-- A row's cells, by a list. -/
def rowl (l : List Int) : Array Value := (l.map fun n => Value.int .i64 n).toArray
theorem rowl_ro (r : Ro) : rowl r.l = rowc r := rfl
theorem rowl_set (l : List Int) (k : Nat) (x : Int) : (rowl l).set! k (.int .i64 x) = rowl (l.set k x) := by
  unfold rowl
  simp [List.map_set]
theorem rowl_at {l : List Int} {k : Nat} {x : Int} (h : l[k]? = some x) : (rowl l)[k]? = some (.int .i64 x) := by
  unfold rowl
  rw [List.getElem?_toArray, List.getElem?_map, h]; rfl
/-- What the row holds behind k columns. -/
def padr (l : List Int) (k : Nat) : List Int := l.take k ++ List.replicate (4 - k) 0
theorem padr_zero (l : List Int) : padr l 0 = [0, 0, 0, 0] := rfl
theorem padr_len {l : List Int} {k : Nat} (h : k ≤ l.length) (h4 : k ≤ 4) : (padr l k).length = 4 := by
  unfold padr; rw [List.length_append, List.length_take, List.length_replicate]; omega
theorem padr_all {l : List Int} (h : l.length = 4) : padr l 4 = l := by
  unfold padr
  rw [List.take_of_length_le (by omega)]
  simp
theorem padr_step {l : List Int} {k : Nat} {x : Int} (h : l[k]? = some x) (h4 : k < 4) : (padr l k).set k x = padr l (k + 1) := by
  have hk : k < l.length := (List.getElem?_eq_some_iff.1 h).1
  unfold padr
  rw [show 4 - k = (4 - (k + 1)) + 1 by omega, List.replicate_succ, List.set_append_right (h := by rw [List.length_take]; omega), List.length_take, Nat.min_eq_left (by omega), Nat.sub_self, List.set_cons_zero, List.take_add_one, h, List.append_assoc]
  rfl

def ReadRel (W : World) (g : Nat) (l : List Int) (rest : List Nat) (k : Nat) (wr : World) : Prop :=
  Rd wr g (enc (l.drop k) ++ rest) ∧ Lies wr W.heap.size ⟨0, 0, 0, 0⟩ ∧ wr.heap[W.heap.size + 1]? = some (.cells (rowl (padr l k)) 41 (0, 0)) ∧ Chg [g] W wr [g, W.heap.size, W.heap.size + 1]

theorem Lies.frozen {w : World} {g : Nat} {r : Ro} (h : Lies w g r) (k : Nat) : w.frozen? ⟨g, k, none⟩ = false := by unfold Lies at h; simp [World.frozen?, h]
/-- A row stored over another one. -/
abbrev put4 (w : World) (g : Nat) (r : Ro) : World := (((w.setCell ⟨g, 0, none⟩ (.int .i64 r.a)).setCell ⟨g, 1, none⟩ (.int .i64 r.b)).setCell ⟨g, 2, none⟩ (.int .i64 r.c)).setCell ⟨g, 3, none⟩ (.int .i64 r.d)
theorem Lies.put {w : World} {g : Nat} {r0 : Ro} (h : Lies w g r0) (r : Ro) : Lies (put4 w g r) g r := by
  have h0 := setCell_row h (i := 0) (.int .i64 r.a)
  have h1 := setCell_row h0 (i := 1) (.int .i64 r.b)
  have h2 := setCell_row h1 (i := 2) (.int .i64 r.c)
  exact setCell_row h2 (i := 3) (.int .i64 r.d)
theorem put4_far {w : World} {g k : Nat} {r : Ro} (h : k ≠ g) : (put4 w g r).heap[k]? = w.heap[k]? := by
  unfold put4
  rw [Below.heap_setCell _ _ _ _ h, Below.heap_setCell _ _ _ _ h, Below.heap_setCell _ _ _ _ h, Below.heap_setCell _ _ _ _ h]
theorem Chg.put4 {F G : List Nat} {a w : World} (h : Chg F a w G) {g : Nat} (hg : g ∈ G) (r : Ro) : Chg F a (put4 w g r) G :=
  (((h.setCell (p := ⟨g, 0, none⟩) hg _).setCell (p := ⟨g, 1, none⟩) hg _).setCell (p := ⟨g, 2, none⟩) hg _).setCell (p := ⟨g, 3, none⟩) hg _
theorem Lies.cells {w : World} {g : Nat} {r : Ro} (h : Lies w g r) : (w.cell? ⟨g, 0, none⟩ = some (.int .i64 r.a) ∧ w.cell? ⟨g, 1, none⟩ = some (.int .i64 r.b) ∧ w.cell? ⟨g, 2, none⟩ = some (.int .i64 r.c) ∧ w.cell? ⟨g, 3, none⟩ = some (.int .i64 r.d)) ∧
    w.frozen? ⟨g, 0, none⟩ = false ∧ w.frozen? ⟨g, 1, none⟩ = false ∧ w.frozen? ⟨g, 2, none⟩ = false ∧ w.frozen? ⟨g, 3, none⟩ = false :=
  ⟨⟨h.cell (k := 0) rfl, h.cell (k := 1) rfl, h.cell (k := 2) rfl, h.cell (k := 3) rfl⟩, h.frozen 0, h.frozen 1, h.frozen 2, h.frozen 3⟩
/-- What a reader of a row leaves: the row, if it is one, and what is behind. -/
def RowRead (w : World) (g : Nat) (v : Value) (c : Int) (rest : List Nat) (e : Ending) (w' : World) : Prop :=
  e = .returned (.tuple #[v, .int .i64 c]) ∧ Rd w' g rest ∧ ∃ G, Chg [g] w w' (g :: G)

set_option maxRecDepth 100000 in
theorem rread (w : World) (g : Nat) (l : List Int) (rest : List Nat) (c : Int) (r : Ro) (hR : Rd w g (enc l ++ rest)) (hb : Byt rest) (hl : ∀ x ∈ l, I64 x)
    (hm : l.length = 4 ∧ r.l = l ∧ c = 0 ∨ l.length < 4 ∧ NoGr rest ∧ r = ⟨0, 0, 0, 0⟩ ∧ c = 11) (hn : rest.length ≤ 1000000) :
    Calls Tryz.prog 88 #[.func (.func 89) #[.pointer (some ⟨g, 0, none⟩)] #[]] w (RowRead w g (rowv r) c rest) := by
  have hgl := One.lt hR
  obtain ⟨B, HB⟩ : ∃ B, Hid (B = w.heap.size) := ⟨_, rfl⟩
  have hst : ReadRel w g l rest 0 ((w.alloc (.cells (rowc ⟨0, 0, 0, 0⟩) 41)).alloc (.cells (rowc ⟨0, 0, 0, 0⟩) 41)) := by
    have e : (w.alloc (.cells (rowc ⟨0, 0, 0, 0⟩) 41)).heap.size = w.heap.size + 1 := by simp
    refine ⟨One.alloc (One.alloc hR _) _, (Lies.new w _).below ((Below.refl _ _).alloc (Nat.le_refl _) _), ?_, ?_⟩
    · have := Lies.new (w.alloc (.cells (rowc ⟨0, 0, 0, 0⟩) 41)) ⟨0, 0, 0, 0⟩
      rw [e] at this
      exact this
    · have := (((Chg.refl [g] w).alloc (.cells (rowc ⟨0, 0, 0, 0⟩) 41)).alloc (.cells (rowc ⟨0, 0, 0, 0⟩) 41))
      refine this.less fun k hk => ?_
      simp only [List.mem_cons, List.not_mem_nil, or_false] at hk
      rcases hk with rfl | rfl | rfl
      · exact .inl (by simp)
      · exact .inr (Nat.le_refl _)
      · exact .inr (by omega)
  have HST := hid hst
  have HM := hid hm
  have HL := hid hl
  have HBY := hid hb
  have hmle : l.length ≤ 4 := by omega
  obtain ⟨m, HLN⟩ : ∃ m, Hid (m = l.length) := ⟨_, rfl⟩
  rw [← HLN.out] at hmle
  clear hst hR hb hl hm
  go_enter Tryz.func88, Tryz.ntmps88
  go_wp2
  go_loopw [8] (fun i wr => ∃ k : Nat, k ≤ m ∧ i = .int .i64 k ∧ ReadRel w g l rest k wr) (fun i _ => 4 - (intOf i).toNat)
  case atStart => exact ⟨0, by omega, rfl, HST.out⟩
  case round =>
    obtain ⟨k, hk, rfl, hR, hZ, hP, hC⟩ := hrel
    have HR := hid hR
    have HZ := hid hZ
    have HP := hid hP
    have HC := hid hC
    clear hR hZ hP hC
    have hbr : Hid (Byt (enc (l.drop (k + 1)) ++ rest)) := (enc_byt _).app HBY.out
    have hnr : Hid ((enc (l.drop (k + 1)) ++ rest).length ≤ 1000000000000) := by
      show _ ≤ _
      rw [List.length_append]
      have := enc_len (l.drop (k + 1)) fun y hy => HL.out y (List.mem_of_mem_drop hy)
      rw [List.length_drop] at this
      have := HLN.out
      omega
    by_cases hlt : k < m
    · obtain ⟨x, hx⟩ : ∃ x, l[k]? = some x := ⟨l[k]'(by have := HLN.out; omega), List.getElem?_eq_getElem _⟩
      have HX := hid hx
      have HI := hid (HL.out x (List.mem_of_getElem? hx))
      have HE : Hid (Rd wr g (gr (zig x) ++ (enc (l.drop (k + 1)) ++ rest))) := by
        have := HR.out
        rw [enc_drop hx, List.append_assoc] at this
        exact this
      have h4 : (k : Int) < 4 := by omega
      clear hx
      go_wp2_with fail
      refine (rint_ok wr g (zig x) _ HE.out hbr.out (zig_lt HI.out.1 HI.out.2) hnr.out).mono ?_
      rintro e w' ⟨rfl, hq, hc⟩
      rw [zag_zig]
      have hP1 : w'.heap[w.heap.size + 1]? = some (.cells (rowl (padr l k)) 41 (0, 0)) := by
        have hlt := (Array.getElem?_eq_some_iff.1 HP.out).1
        rw [hc.block _ hlt (by simp; omega)]
        exact HP.out
      have hZ1 : Hid (Lies w' w.heap.size ⟨0, 0, 0, 0⟩) := HZ.out.keep (hc.block _ HZ.out.lt (by simp; omega))
      have hst := setCell_row hP1 (i := k) (.int .i64 x)
      rw [rowl_set, padr_step HX.out (by omega)] at hst
      have hcell : w'.cell? ⟨w.heap.size + 1, k, none⟩ = some (.int .i64 ((padr l k)[k]'(by rw [padr_len (by have := HLN.out; omega) (by omega)]; omega))) :=
        (cell_of_row w' _ k _ _ _ hP1).trans (rowl_at (List.getElem?_eq_getElem _))
      have hfz : w'.frozen? ⟨w.heap.size + 1, k, none⟩ = false := by simp [World.frozen?, hP1]
      have HRR : Hid (Rd (w'.setCell ⟨w.heap.size + 1, k, none⟩ (.int .i64 x)) g (enc (l.drop (k + 1)) ++ rest)) := One.far hq (by show g ≠ w.heap.size + 1; omega) _
      have HCC : Hid (Chg [g] w (w'.setCell ⟨w.heap.size + 1, k, none⟩ (.int .i64 x)) [g, w.heap.size, w.heap.size + 1]) := by
        have h1 := hc.more (K := [g, w.heap.size, w.heap.size + 1]) (fun k hk => by rw [List.mem_singleton.1 hk]; exact List.mem_cons_self)
        have h2 : Chg [g] w w' [g, w.heap.size, w.heap.size + 1] := (HC.out.trans h1).less fun k hk => by
          simp only [List.mem_cons, List.not_mem_nil, or_false] at hk
          rcases hk with rfl | rfl | rfl
          · exact .inl (by simp)
          · exact .inr (Nat.le_refl _)
          · exact .inr (by omega)
        exact h2.setCell (by simp) _
      have HST := hid hst
      have HZZ : Hid (Lies (w'.setCell ⟨w.heap.size + 1, k, none⟩ (.int .i64 x)) w.heap.size ⟨0, 0, 0, 0⟩) := hZ1.out.keep (Below.heap_setCell _ _ _ _ (by show w.heap.size ≠ w.heap.size + 1; omega))
      clear hq hc hP1 hst
      go_wp2
      go_roundw
      case rel => exact ⟨k + 1, by omega, by go_num, HRR.out, HZZ.out, HST.out, HCC.out⟩
      case measure => simp [intOf]; omega
    · obtain rfl : k = m := by omega
      rcases HM.out with ⟨h4, hrl, hc0⟩ | ⟨h4, hng, hr0, hc0⟩
      · have hk4 : k = 4 := by have := HLN.out; omega
        subst hk4
        have hP := HP.out
        rw [padr_all h4, ← hrl, rowl_ro] at hP
        have hL1 : Hid (Lies wr (w.heap.size + 1) r) := hP
        obtain ⟨⟨c0, c1, c2, c3⟩, _⟩ := hL1.out.cells
        obtain ⟨⟨z0, z1, z2, z3⟩, f0, f1, f2, f3⟩ := HZ.out.cells
        obtain ⟨⟨p0, p1, p2, p3⟩, _⟩ := (HZ.out.put r).cells
        have HPP := hid (And.intro p0 (And.intro p1 (And.intro p2 p3)))
        have HRR : Hid (Rd (put4 wr w.heap.size r) g rest) := by
          have h := HR.out
          rw [List.drop_of_length_le (by omega)] at h
          exact One.keep h (put4_far (by omega))
        have HCC : Hid (Chg [g] w (put4 wr w.heap.size r) [g, w.heap.size, w.heap.size + 1]) := HC.out.put4 (by simp) r
        subst hc0
        clear hP p0 p1 p2 p3
        go_wp2
        obtain ⟨p0, p1, p2, p3⟩ := HPP.out
        exact bodyPost_ret (v := .tuple #[rowv r, .int .i64 0]) (by simp [results, Tryz.results88, go_sem, p0, p1, p2, p3, rowv, rowc]) rfl ⟨rfl, HRR.out, _, HCC.out⟩
      · subst hr0
        subst hc0
        obtain ⟨⟨z0, z1, z2, z3⟩, f0, f1, f2, f3⟩ := HZ.out.cells
        have HE : Hid (Rd wr g rest) := by
          have h := HR.out
          rw [List.drop_of_length_le (by have := HLN.out; omega)] at h
          exact h
        have h4' : (k : Int) < 4 := by have := HLN.out; omega
        have hn' : Hid (rest.length ≤ 1000000000000) := by show _ ≤ _; omega
        clear z0 z1 z2 z3 f0 f1 f2 f3
        go_wp2_with fail
        refine (rint_form wr g rest HE.out HBY.out hng hn'.out).mono ?_
        rintro e w' ⟨rfl, hq, hc⟩
        have hZ1 : Lies w' w.heap.size ⟨0, 0, 0, 0⟩ := HZ.out.keep (hc.block _ HZ.out.lt (by simp; omega))
        obtain ⟨⟨z0, z1, z2, z3⟩, f0, f1, f2, f3⟩ := hZ1.cells
        obtain ⟨⟨p0, p1, p2, p3⟩, _⟩ := (hZ1.put ⟨0, 0, 0, 0⟩).cells
        have HPP := hid (And.intro p0 (And.intro p1 (And.intro p2 p3)))
        have HRR : Hid (Rd (put4 w' w.heap.size ⟨0, 0, 0, 0⟩) g rest) := One.keep hq (put4_far (by omega))
        have HCC : Hid (Chg [g] w (put4 w' w.heap.size ⟨0, 0, 0, 0⟩) [g, w.heap.size, w.heap.size + 1]) := by
          have h1 := hc.more (K := [g, w.heap.size, w.heap.size + 1]) (fun k hk => by rw [List.mem_singleton.1 hk]; exact List.mem_cons_self)
          have h2 : Chg [g] w w' [g, w.heap.size, w.heap.size + 1] := (HC.out.trans h1).less fun k hk => by
            simp only [List.mem_cons, List.not_mem_nil, or_false] at hk
            rcases hk with rfl | rfl | rfl
            · exact .inl (by simp)
            · exact .inr (Nat.le_refl _)
            · exact .inr (by omega)
          exact h2.put4 (by simp) _
        clear hZ1 p0 p1 p2 p3 hq hc
        go_wp2
        obtain ⟨p0, p1, p2, p3⟩ := HPP.out
        exact bodyPost_ret (v := .tuple #[rowv ⟨0, 0, 0, 0⟩, .int .i64 11]) (by simp [results, Tryz.results88, go_sem, p0, p1, p2, p3, rowv, rowc]) rfl ⟨rfl, HRR.out, _, HCC.out⟩
end Go.Proofs.YtlnagdodnkhbmaaGreat

/- Decode. -/
namespace Go.Proofs.YtlnagdodnkhbmaaGreat
open Go.RowKit

theorem zig_all {N : Nat} (h : N < 18446744073709551616) : ∃ x, I64 x ∧ zig x = N := by
  by_cases h1 : N % 2 = 1
  · refine ⟨-1 - ((N / 2 : Nat) : Int), ⟨by omega, by omega⟩, ?_⟩
    rw [zig_neg (by omega)]; omega
  · refine ⟨((N / 2 : Nat) : Int), ⟨by omega, by omega⟩, ?_⟩
    rw [zig_pos (by omega)]; omega
/-- Bytes begin with so many numbers, or with fewer, and then with none. -/
theorem enc_dec : ∀ (n : Nat) (xs : List Nat), (∃ l rest, l.length = n ∧ (∀ x ∈ l, I64 x) ∧ xs = enc l ++ rest) ∨ (∃ l rest, l.length < n ∧ (∀ x ∈ l, I64 x) ∧ xs = enc l ++ rest ∧ NoGr rest)
  | 0, xs => .inl ⟨[], xs, rfl, by simp, rfl⟩
  | n + 1, xs => by
    rcases gr_dec xs with ⟨N, ys, hN, rfl⟩ | h
    · obtain ⟨x, hx, rfl⟩ := zig_all hN
      rcases enc_dec n ys with ⟨l, rest, h1, h2, rfl⟩ | ⟨l, rest, h1, h2, rfl, h3⟩
      · refine .inl ⟨x :: l, rest, by simp [h1], ?_, ?_⟩
        · intro y hy
          rcases List.mem_cons.1 hy with rfl | hy
          · exact hx
          · exact h2 y hy
        · unfold enc; rw [List.flatMap_cons, List.append_assoc]
      · refine .inr ⟨x :: l, rest, by simp; omega, ?_, ?_, h3⟩
        · intro y hy
          rcases List.mem_cons.1 hy with rfl | hy
          · exact hx
          · exact h2 y hy
        · unfold enc; rw [List.flatMap_cons, List.append_assoc]
    · exact .inr ⟨[], xs, by simp, by simp, rfl, h⟩

/-- What Decode, and the reference's, answer: a value, and a number. -/
def Told (w : World) (v u : Value) (e : Ending) (w' : World) : Prop := e = .returned (.tuple #[v, u]) ∧ Below w.heap.size w w'

def zero4 : Ro := ⟨0, 0, 0, 0⟩
theorem chg_below {w a b : World} {g : Nat} {G : List Nat} (h1 : Below w.heap.size w a) (h2 : Chg [g] a b G) (hg : w.heap.size ≤ g) : Below w.heap.size w b :=
  h1.trans (h2.below (fun k hk => by rw [List.mem_singleton.1 hk]; exact hg) h1.size)

theorem below_put4 {w a : World} {B g : Nat} (h : Below B w a) (hg : B ≤ g) (r : Ro) : Below B w (put4 a g r) :=
  (((h.setCell (p := ⟨g, 0, none⟩) hg _).setCell (p := ⟨g, 1, none⟩) hg _).setCell (p := ⟨g, 2, none⟩) hg _).setCell (p := ⟨g, 3, none⟩) hg _

set_option maxRecDepth 100000 in
theorem rdecode (w : World) (v : Value) (l : List Int) (rest : List Nat) (r : Ro) (c : Int) (hs : Sl .u8 w v (enc l ++ rest)) (hb : Byt rest) (hl : ∀ x ∈ l, I64 x)
    (hm : l.length = 4 ∧ rest = [] ∧ r.l = l ∧ c = 0 ∨ l.length = 4 ∧ rest ≠ [] ∧ r = zero4 ∧ c = 11 ∨ l.length < 4 ∧ NoGr rest ∧ r = zero4 ∧ c = 11) (hn : rest.length ≤ 1000000) :
    Calls Tryz.prog 58 #[v] w (Told w (rowv r) (.int .i64 c)) := by
  have hmf := fhmf
  have HS := hid hs
  have HM := hid hm
  have HL := hid hl
  have HB := hid hb
  have HN := hid hn
  obtain ⟨A, n, cp, rfl⟩ : ∃ A n cp, v = .slice A n cp := by obtain ⟨A, cp, h, _⟩ := hs; exact ⟨A, _, cp, h⟩
  clear hs hm hl hb hn
  go_enter Tryz.func58, Tryz.ntmps58
  go_wp2_with fail
  refine (rdnew_any _ _ _ (HS.out.alloc _)).mono ?_
  rintro e w1 ⟨rfl, hw1⟩
  have HW1 := hid hw1
  have hR : Hid (Rd w1 (w.heap.size + 1) (enc l ++ rest)) := by
    show Rd _ _ _
    rw [hw1]
    have := rd_new (w.alloc (.cells (rowc zero4) 41)) (enc l ++ rest)
    rw [show (w.alloc (.cells (rowc zero4) 41)).heap.size = w.heap.size + 1 by simp] at this
    exact this
  have hZ : Hid (Lies w1 w.heap.size zero4) := by
    show Lies _ _ _
    rw [hw1]
    exact (Lies.new w zero4).below ((Below.refl _ _).alloc (Nat.le_refl _) _)
  have hB : Hid (Below w.heap.size w w1) := by
    show Below _ _ _
    rw [hw1]
    exact ((Below.refl _ _).alloc (Nat.le_refl _) _).alloc (by simp) _
  clear hw1
  obtain ⟨r1, c1, H1⟩ : ∃ (r1 : Ro) (c1 : Int), Hid (l.length = 4 ∧ r1.l = l ∧ c1 = 0 ∨ l.length < 4 ∧ NoGr rest ∧ r1 = ⟨0, 0, 0, 0⟩ ∧ c1 = 11) := by
    rcases HM.out with ⟨h, _, h2, _⟩ | ⟨h, _⟩ | ⟨h, h1, _⟩
    · exact ⟨r, 0, .inl ⟨h, h2, rfl⟩⟩
    · obtain ⟨r1, h1⟩ := Ro.of h
      exact ⟨r1, 0, .inl ⟨h, h1, rfl⟩⟩
    · exact ⟨⟨0, 0, 0, 0⟩, 11, .inr ⟨h, h1, rfl, rfl⟩⟩
  go_wp2_with fail
  refine (rread w1 (w.heap.size + 1) l rest c1 r1 hR.out HB.out HL.out H1.out HN.out).mono ?_
  rintro e w2 ⟨rfl, hr2, G, hc2⟩
  have HB2 : Hid (Below w.heap.size w w2) := chg_below hB.out hc2 (by omega)
  have HZ2 : Hid (Lies w2 w.heap.size zero4) := hZ.out.keep (hc2.block _ hZ.out.lt (by simp))
  have HR2 := hid hr2
  clear hr2 hc2
  have HZ3 : Hid (Lies (w2.alloc (.cells (rowc r1) 41)) w.heap.size zero4) := HZ2.out.below ((Below.refl _ _).alloc (Nat.le_refl _) _)
  have HB3 : Hid (Below w.heap.size w (w2.alloc (.cells (rowc r1) 41))) := HB2.out.alloc HB2.out.size _
  have HR3 : Hid (Rd (w2.alloc (.cells (rowc r1) 41)) (w.heap.size + 1) rest) := One.alloc HR2.out _
  have HN3 : Hid (Lies (w2.alloc (.cells (rowc r1) 41)) w2.heap.size r1) := Lies.new _ _
  obtain ⟨⟨z0, z1, z2, z3⟩, f0, f1, f2, f3⟩ := HZ3.out.cells
  dsimp only [rowc, zero4] at z0 z1 z2 z3 f0 f1 f2 f3
  unfold rowv rowc
  rcases H1.out with ⟨h4, hr1, hc1⟩ | ⟨h4, hng, hr1, hc1⟩
  · subst hc1
    have HH := hid (And.intro h4 hr1)
    clear h4 hr1 z0 z1 z2 z3 f0 f1 f2 f3
    go_wp2_with fail
    refine (rleft _ _ _ HR3.out).mono ?_
    rintro e w4 ⟨rfl, hw4⟩
    obtain rfl : w4 = w2.alloc (.cells #[.int .i64 r1.a, .int .i64 r1.b, .int .i64 r1.c, .int .i64 r1.d] 41) := hw4.symm
    clear hw4
    obtain ⟨⟨z0, z1, z2, z3⟩, f0, f1, f2, f3⟩ := HZ3.out.cells
    dsimp only [rowc, zero4] at z0 z1 z2 z3 f0 f1 f2 f3
    cases rest with
    | nil =>
      obtain ⟨⟨c0, c1, c2, c3⟩, _⟩ := HN3.out.cells
      dsimp only [rowc] at c0 c1 c2 c3
      have hfin : r = r1 ∧ c = 0 := by
        rcases HM.out with ⟨_, _, h2, h3⟩ | ⟨_, h, _⟩ | ⟨h, _⟩
        · exact ⟨Ro.ext_ (h2.trans HH.out.2.symm), h3⟩
        · exact absurd rfl h
        · have := HH.out.1; omega
      obtain ⟨rfl, rfl⟩ := hfin
      have HPP := hid (HZ3.out.put r).cells.1
      have HBB : Hid (Below w.heap.size w (put4 (w2.alloc (.cells (rowc r) 41)) w.heap.size r)) := below_put4 HB3.out (Nat.le_refl _) r
      go_wp2
      obtain ⟨p0, p1, p2, p3⟩ := HPP.out
      dsimp only [rowc, zero4] at p0 p1 p2 p3
      exact bodyPost_ret (v := .tuple #[rowv r, .int .i64 0]) (by simp [results, Tryz.results58, go_sem, p0, p1, p2, p3, rowv, rowc]) rfl ⟨rfl, HBB.out⟩
    | cons y ys =>
      have hfin : r = zero4 ∧ c = 11 := by
        rcases HM.out with ⟨_, h, _⟩ | ⟨_, _, h2, h3⟩ | ⟨h, _⟩
        · cases h
        · exact ⟨h2, h3⟩
        · have := HH.out.1; omega
      obtain ⟨rfl, rfl⟩ := hfin
      have HPP := hid (HZ3.out.put zero4).cells.1
      have HBB : Hid (Below w.heap.size w (put4 (w2.alloc (.cells (rowc r1) 41)) w.heap.size zero4)) := below_put4 HB3.out (Nat.le_refl _) zero4
      have hpos : (0 : Int) < ((y :: ys).length : Nat) := by simp only [List.length_cons]; omega
      go_wp2
      obtain ⟨p0, p1, p2, p3⟩ := HPP.out
      dsimp only [rowc, zero4] at p0 p1 p2 p3
      exact bodyPost_ret (v := .tuple #[rowv zero4, .int .i64 11]) (by simp [results, Tryz.results58, go_sem, p0, p1, p2, p3, rowv, rowc, zero4]) rfl ⟨rfl, HBB.out⟩
  · subst hc1
    subst hr1
    have hfin : r = zero4 ∧ c = 11 := by
      rcases HM.out with ⟨h, _⟩ | ⟨h, _⟩ | ⟨_, _, h2, h3⟩
      · omega
      · omega
      · exact ⟨h2, h3⟩
    obtain ⟨rfl, rfl⟩ := hfin
    have HPP := hid (HZ3.out.put zero4).cells.1
    have HBB : Hid (Below w.heap.size w (put4 (w2.alloc (.cells (rowc zero4) 41)) w.heap.size zero4)) := below_put4 HB3.out (Nat.le_refl _) zero4
    clear h4 hng
    go_wp2
    obtain ⟨p0, p1, p2, p3⟩ := HPP.out
    dsimp only [rowc, zero4] at p0 p1 p2 p3
    exact bodyPost_ret (v := .tuple #[rowv zero4, .int .i64 11]) (by simp [results, Tryz.results58, go_sem, p0, p1, p2, p3, rowv, rowc, zero4]) rfl ⟨rfl, HBB.out⟩
end Go.Proofs.YtlnagdodnkhbmaaGreat

/- The reference's Decode. -/
namespace Go.Proofs.YtlnagdodnkhbmaaGreat
open Go.RowKit

theorem felem8 : Tryz.prog.elem 113 = 5 := by kernel_rfl
theorem frun_size8 (W : World) : (sizeOf 5).run Tryz.prog W = .ok 1 W := by kernel_rfl
/-- What is cut off from a to h, whatever the capacity. -/
theorem cut_sl {w : World} {A : Option Addr} {len cap : Nat} {xs : List Nat} (hs : Sl .u8 w (.slice A len cap) xs) {a h : Nat} (ha : a ≤ h) (hh : h ≤ len) :
    Sl .u8 w (sliced A a h cap 1) ((xs.drop a).take (h - a)) := by
  have hl := hs.len
  obtain ⟨A', c', hv, hc, hm, hn, hx⟩ := hs
  injection hv with e1 e2 e3
  subst e1; subst e3
  unfold sliced
  have hlen : ((xs.drop a).take (h - a)).length = h - a := by rw [List.length_take, List.length_drop]; omega
  refine ⟨_, cap - a, by rw [hlen], by rw [hlen]; omega, by omega, fun hA => ?_, fun i b hi => ?_⟩
  · split at hA
    · omega
    · cases A with
      | none => have := hn rfl; omega
      | some ad => cases hA
  · rw [List.getElem?_take] at hi
    split at hi
    · rw [List.getElem?_drop] at hi
      obtain ⟨ad, hA, hcell⟩ := hx _ _ hi
      have hil : a + i < xs.length := (List.getElem?_eq_some_iff.1 hi).1
      rw [if_neg (by omega), hA]
      exact ⟨_, rfl, by rw [Nat.mul_one, add_add']; exact hcell⟩
    · cases hi
theorem run_cut_from (W : World) (A : Option Addr) (len cap a : Nat) (ha : a ≤ len) :
    (Instr.slice 113 (.slice A len cap) (some (.int .i64 (a : Int))) none none).run Tryz.prog W = .ok (sliced A a len cap 1) W := by
  have h := run_slice_l (P := Tryz.prog) (w := W) 113 A len cap (by rw [felem8]; exact Tryz.underlying113) .i64 (a : Int) (by omega) (by omega)
  rw [felem8, frun_size8] at h
  simpa [Result.andThen] using h

theorem enc_cut (l : List Int) (k : Nat) : enc l = enc (l.take k) ++ enc (l.drop k) := by
  unfold enc
  rw [← List.flatMap_append, List.take_append_drop]

def RDecRel (W : World) (l : List Int) (k : Nat) (wr : World) : Prop :=
  Lies wr W.heap.size zero4 ∧ wr.heap[W.heap.size + 1]? = some (.cells (rowl (padr l k)) 41 (0, 0)) ∧ Below W.heap.size W wr

/-- The world behind a number's reading: it lies in a cell of its own, and the column is stored. -/
theorem rdec_step {W w' : World} {l : List Int} {k : Nat} {x : Int} {c : Array Value} {t : TypeId} (hZ : Lies w' W.heap.size zero4) (hP : w'.heap[W.heap.size + 1]? = some (.cells (rowl (padr l k)) 41 (0, 0)))
    (hB : Below W.heap.size W w') (hx : l[k]? = some x) (h4 : k < 4) :
    Hid (RDecRel W l (k + 1) ((w'.alloc (.cells c t)).setCell ⟨W.heap.size + 1, k, none⟩ (.int .i64 x))) ∧
    (∀ y : Value, Hid (RDecRel W l (k + 1) (((w'.alloc (.cells c t)).setCell ⟨W.heap.size + 1, k, none⟩ y).setCell ⟨W.heap.size + 1, k, none⟩ (.int .i64 x)))) ∧
    (∃ u, (w'.alloc (.cells c t)).cell? ⟨W.heap.size + 1, k, none⟩ = some u) ∧ (w'.alloc (.cells c t)).frozen? ⟨W.heap.size + 1, k, none⟩ = false := by
  have hl : W.heap.size + 1 < w'.heap.size := (Array.getElem?_eq_some_iff.1 hP).1
  have hP1 : (w'.alloc (.cells c t)).heap[W.heap.size + 1]? = some (.cells (rowl (padr l k)) 41 (0, 0)) := by
    rw [Below.heap_alloc _ _ _ hl]; exact hP
  have hZ1 : Lies (w'.alloc (.cells c t)) W.heap.size zero4 := hZ.below ((Below.refl _ _).alloc (Nat.le_refl _) _)
  have hB1 : Below W.heap.size W (w'.alloc (.cells c t)) := hB.alloc hB.size _
  have hkl : k < l.length := (List.getElem?_eq_some_iff.1 hx).1
  refine ⟨⟨?_, ?_, hB1.setCell (by show W.heap.size ≤ W.heap.size + 1; omega) _⟩, fun y => ⟨?_, ?_, (hB1.setCell (by show W.heap.size ≤ W.heap.size + 1; omega) _).setCell (by show W.heap.size ≤ W.heap.size + 1; omega) _⟩, ?_, ?_⟩
  · exact hZ1.keep (Below.heap_setCell _ _ _ _ (by show W.heap.size ≠ W.heap.size + 1; omega))
  · have := setCell_row hP1 (i := k) (.int .i64 x)
    rw [rowl_set, padr_step hx h4] at this
    exact this
  · exact (hZ1.keep (Below.heap_setCell _ _ _ _ (by show W.heap.size ≠ W.heap.size + 1; omega))).keep (Below.heap_setCell _ _ _ _ (by show W.heap.size ≠ W.heap.size + 1; omega))
  · have h1 := setCell_row hP1 (i := k) y
    have := setCell_row h1 (i := k) (.int .i64 x)
    rw [show ((rowl (padr l k)).set! k y).set! k (.int .i64 x) = rowl ((padr l k).set k x) by rw [← rowl_set]; simp [Array.set!_eq_setIfInBounds], padr_step hx h4] at this
    exact this
  · exact ⟨_, (cell_of_row _ _ k _ _ _ hP1).trans (rowl_at (List.getElem?_eq_getElem (by rw [padr_len (by omega) (by omega)]; exact h4)))⟩
  · simp [World.frozen?, hP1]

end Go.Proofs.YtlnagdodnkhbmaaGreat

/- Changes: a change's cells; join, change, pointer. -/
namespace Go.Proofs.YtlnagdodnkhbmaaGreat
open Go.RowKit

/-- A change: column, value, whether it comes in. -/
abbrev Cg := Nat × Int × Bool
def cC (key : ByteArray) (c : Cg) : List Value := [.int .i64 (c.1 : Int), .int .i64 c.2.1, .string key, .bool c.2.2]
theorem cC_len (key : ByteArray) (c : Cg) : (cC key c).length = 4 := rfl
theorem cC_one (key : ByteArray) (c : Cg) : ∀ y ∈ cC key c, y.oneCell' = true := by
  intro y hy
  simp [cC] at hy
  rcases hy with rfl | rfl | rfl | rfl <;> rfl
theorem cinfo : (Tryz.prog.info? 153).map (fun i => (i.zero, i.size, i.bytes)) = some (some (.agg #[.int .i64 0, .int .i64 0, .string ⟨#[]⟩, .bool false]), 4, 40) := by kernel_rfl

def J1 (key : ByteArray) (W : World) (l : List Cg) (g : Nat) (p1 p2 : Value) (l2 : List Cg) (v : Value) (w : World) : Prop :=
  OwnElems 4 (cC key) 153 w W.heap.size v l ∧ Below W.heap.size W w ∧ w.heap[g]? = some (.cells #[p1, p2] 149 (0, 0)) ∧ Elems 4 (cC key) w p2 l2 ∧ (∀ b ∈ ownFoot p2, b ∉ ownFoot v ∧ b < w.heap.size)
def J2 (key : ByteArray) (W : World) (l : List Cg) (v : Value) (w : World) : Prop :=
  OwnElems 4 (cC key) 153 w W.heap.size v l ∧ Below W.heap.size W w

theorem OwnElems.ne_ {α : Type} {c : α → List Value} {sz : Nat} {e : TypeId} {w : World} {base : Nat} {v : Value} {l : List α} (h : OwnElems sz c e w base v l) {g : Nat} {cs : Array Value} {t : TypeId} {fz : Nat × Nat} (hg : w.heap[g]? = some (.cells cs t fz)) (hne : e ≠ t) : g ∉ ownFoot v := by
  intro hm
  rcases h.2 with ⟨rfl, _⟩ | ⟨g', cap, cur, rfl, hb, hh, r⟩
  · simp [ownFoot, Value.ownBlock] at hm
  · simp [ownFoot, Value.ownBlock] at hm
    subst hm
    rw [hg] at hh
    injection hh with hh
    injection hh with _ ht
    exact hne ht.symm

/-- What an append onto such a row leaves of what lies elsewhere. -/
theorem j_step {key : ByteArray} {W w w' : World} {l l' : List Cg} {v v' : Value} (hO : OwnElems 4 (cC key) 153 w W.heap.size v l) (hB : Below W.heap.size W w)
    (hO' : OwnElems 4 (cC key) 153 w' W.heap.size v' (l ++ l')) (hg : w.grownBy w' v.ownBlock) : J2 key W (l ++ l') v' w' :=
  ⟨hO', hB.grown hg hB.size fun k hk => (hO.lt k (mem_ownFoot.2 hk)).1⟩

set_option maxRecDepth 100000 in
theorem join_two (key : ByteArray) (W w : World) (v : Value) (l l1 l2 : List Cg) (g : Nat) (p1 p2 : Value) (hO : OwnElems 4 (cC key) 153 w W.heap.size v l) (hB : Below W.heap.size W w)
    (hg : w.heap[g]? = some (.cells #[p1, p2] 149 (0, 0))) (h1 : Elems 4 (cC key) w p1 l1) (h2 : Elems 4 (cC key) w p2 l2)
    (ha2 : ∀ b ∈ ownFoot p2, b ∉ ownFoot v ∧ b < w.heap.size) (hl : l.length + l1.length + l2.length ≤ 100) :
    Calls Tryz.prog 116 #[v, .slice (some ⟨g, 0, none⟩) 2 2] w fun e w' => ∃ u, e = .returned u ∧ J2 key W ((l ++ l1) ++ l2) u w' := by
  obtain ⟨i0, hi, hz0, hz1, hz2⟩ := info_parts cinfo
  have HO := hid hO
  have HB := hid hB
  have HG := hid hg
  have H1 := hid h1
  have H2 := hid h2
  have HA2 := hid ha2
  obtain ⟨A1, n1, c1, rfl⟩ := h1.form
  obtain ⟨A2, n2, c2, rfl⟩ := h2.form
  obtain ⟨Av, nv, cv, rfl⟩ := hO.rows.form
  clear hO hB hg h1 h2 ha2
  go_enter Tryz.func116, Tryz.ntmps116
  go_wp2
  go_loopw [0, 9] (fun x i wr => (i = .int .i64 0 ∧ x = .slice Av nv cv ∧ wr = w) ∨ (i = .int .i64 1 ∧ J1 key W (l ++ l1) g (.slice A1 n1 c1) (.slice A2 n2 c2) l2 x wr) ∨ (i = .int .i64 2 ∧ J2 key W ((l ++ l1) ++ l2) x wr)) (fun _ i _ => 2 - (intOf i).toNat)
  case atStart => exact .inl ⟨rfl, rfl, rfl⟩
  case round =>
    rcases hrel with ⟨rfl, rfl, rfl⟩ | ⟨rfl, hO1, hB1, hg1, h21, ha1⟩ | ⟨rfl, hO1, hB1⟩
    · have q0 := cell_of_row _ g 0 _ _ _ HG.out
      go_wp2_with (at_builtin; refine wpList_append_rows _ rfl (.tmp 13) (.tmp 14) 149 rfl W.heap.size 153 i0 _ 4 40 Tryz.underlying149 hi hz0 hz1 hz2 rfl (by omega) (cC_one key) (.slice Av nv cv) l rfl HO.out (.slice A1 n1 c1) l1 rfl H1.out (by unfold maxLen; omega) (by omega) HB.out.size ?_; intro v' w1 hown1 hgrow1 hf1; have HST := hid (j_step HO.out HB.out hown1 hgrow1); have HGG := hid (And.intro hgrow1 hf1); clear hown1 hgrow1 hf1)
      go_roundw
      case rel =>
        obtain ⟨hgr, hf⟩ := HGG.out
        refine .inr (.inl ⟨rfl, HST.out.1, HST.out.2, ?_, ?_, ?_⟩)
        · rw [hgr.block g (Array.getElem?_eq_some_iff.1 HG.out).1 fun e => HO.out.ne_ HG.out (by decide) (mem_ownFoot.2 e.symm)]
          exact HG.out
        · exact H2.out.keep fun b hb => hgr.block b (HA2.out b hb).2 fun e => (HA2.out b hb).1 (mem_ownFoot.2 e.symm)
        · intro b hb
          obtain ⟨h1, h2⟩ := HA2.out b hb
          refine ⟨fun hm => ?_, Nat.lt_of_lt_of_le h2 hgr.size⟩
          rcases hf b hm with h | h
          · exact h1 h
          · omega
      case measure => simp [intOf]
    · obtain ⟨Aw, nw, cw, rfl⟩ := hO1.rows.form
      have q1 := cell_of_row _ g 1 _ _ _ hg1
      have HO1 := hid hO1
      have HB1 := hid hB1
      have H21 := hid h21
      clear hO1 hB1 hg1 h21 ha1
      go_wp2_with (at_builtin; refine wpList_append_rows _ rfl (.tmp 13) (.tmp 14) 149 rfl W.heap.size 153 i0 _ 4 40 Tryz.underlying149 hi hz0 hz1 hz2 rfl (by omega) (cC_one key) (.slice Aw nw cw) (l ++ l1) rfl HO1.out (.slice A2 n2 c2) l2 rfl H21.out (by unfold maxLen; simp; omega) (by simp; omega) HB1.out.size ?_; intro v' w1 hown1 hgrow1 hf1; have HST := hid (j_step HO1.out HB1.out hown1 hgrow1); clear hown1 hgrow1 hf1)
      go_roundw
      case rel => exact .inr (.inr ⟨rfl, HST.out⟩)
      case measure => simp [intOf]
    · have HJ := hid (show J2 key W ((l ++ l1) ++ l2) _ _ from ⟨hO1, hB1⟩)
      clear hO1 hB1
      go_wp2
      go_ret
      exact ⟨_, rfl, HJ.out⟩

/-- A row that a pointer tells, or none. -/
def PRow (w : World) (p : Value) : Option Ro → Prop
  | none => p = .pointer none
  | some r => ∃ g o, p = .pointer (some ⟨g, o, none⟩) ∧ ∀ k x, r.l[k]? = some x → w.cell? ⟨g, o + k, none⟩ = some (.int .i64 x)
theorem PRow.below {w w' : World} {p : Value} {o : Option Ro} (h : PRow w p o) (hb : Below w.heap.size w w') : PRow w' p o := by
  cases o with
  | none => exact h
  | some r =>
    obtain ⟨g, o, hp, hc⟩ := h
    exact ⟨g, o, hp, fun k x hx => below_keep hb _ _ (hc k x hx)⟩

def one (o : Option Ro) (k : Nat) (a : Bool) : List Cg :=
  match o with
  | none => []
  | some r => match r.l[k]? with
    | none => []
    | some x => [(k, x, a)]
/-- What change leaves: a slice of at most one change, in memory of its own. -/
def Ones (key : ByteArray) (w : World) (l : List Cg) (e : Ending) (w' : World) : Prop :=
  ∃ u, e = .returned u ∧ Elems 4 (cC key) w' u l ∧ Below w.heap.size w w' ∧ ∀ b ∈ ownFoot u, w.heap.size ≤ b ∧ b < w'.heap.size
set_option maxRecDepth 100000 in
theorem change_any (w : World) (key : ByteArray) (p : Value) (o : Option Ro) (k : Nat) (a : Bool) (hp : PRow w p o) (hk : k < 4) :
    Calls Tryz.prog 117 #[.string key, p, .int .i64 (k : Int), .bool a] w (Ones key w (one o k a)) := by
  cases o with
  | none =>
    subst hp
    go_enter Tryz.func117, Tryz.ntmps117
    go_wp2
    go_ret
    exact ⟨_, rfl, Elems.nil _ _ _, Below.refl _ _, by simp [ownFoot, Value.ownBlock]⟩
  | some r =>
    obtain ⟨g, o, rfl, hc⟩ := hp
    obtain ⟨x, hx⟩ := r.at_ hk
    have hcell := hc k x hx
    have h4 : (k : Int) < 4 := by omega
    have e : one (some r) k a = [(k, x, a)] := by unfold one; dsimp only; rw [hx]
    rw [e]
    have HE := hid (rows_new w 4 (cC key) (cC_len key) (k, x, a) 153)
    clear hc hx e
    go_enter Tryz.func117, Tryz.ntmps117
    go_wp2
    go_ret
    exact ⟨_, rfl, HE.out, (Below.refl _ _).alloc (Nat.le_refl _) _, by simp [ownFoot, Value.ownBlock]⟩
end Go.Proofs.YtlnagdodnkhbmaaGreat

/- Changes. -/
namespace Go.Proofs.YtlnagdodnkhbmaaGreat
open Go.RowKit

/-- Have both rows one value in a column? -/
def alikeB (o n : Option Ro) (k : Nat) : Bool :=
  match o, n with
  | some r, some s => decide (r.l[k]? = s.l[k]?)
  | _, _ => false
def chg1 (o n : Option Ro) (k : Nat) : List Cg := if alikeB o n k then [] else one o k false ++ one n k true
/-- What turns, up to a column. -/
def upto (o n : Option Ro) (k : Nat) : List Cg := (List.range k).flatMap (chg1 o n)
theorem upto_succ (o n : Option Ro) (k : Nat) : upto o n (k + 1) = upto o n k ++ chg1 o n k := by
  unfold upto
  rw [List.range_succ, List.flatMap_append]
  simp
theorem one_len (o : Option Ro) (k : Nat) (a : Bool) : (one o k a).length ≤ 1 := by
  unfold one
  cases o with
  | none => simp
  | some r => dsimp only; split <;> simp
theorem chg1_len (o n : Option Ro) (k : Nat) : (chg1 o n k).length ≤ 2 := by
  unfold chg1
  have h1 := one_len o k false
  have h2 := one_len n k true
  split
  · simp
  · rw [List.length_append]; omega
theorem upto_len (o n : Option Ro) : ∀ k, (upto o n k).length ≤ 2 * k
  | 0 => by simp [upto]
  | k + 1 => by
    rw [upto_succ, List.length_append]
    have := upto_len o n k
    have := chg1_len o n k
    omega
theorem upto_same (r : Ro) (k : Nat) : upto (some r) (some r) k = [] := by
  unfold upto
  rw [List.flatMap_eq_nil_iff]
  intro x _
  unfold chg1 alikeB
  simp

/-- What Changes leaves. -/
def Chgd (key : ByteArray) (w : World) (c : Int) (l : List Cg) (e : Ending) (w' : World) : Prop :=
  ∃ u, e = .returned (.tuple #[u, .int .i64 c]) ∧ Elems 4 (cC key) w' u l ∧ Below w.heap.size w w' ∧ ∀ b ∈ ownFoot u, w.heap.size ≤ b

theorem changes_no (w : World) (ks : List Nat) (p q : Value) (hk : keyB ks = false) : Calls Tryz.prog 83 #[.string (str ks), p, q] w (Chgd (str ks) w 13 []) := by
  go_enter Tryz.func83, Tryz.ntmps83
  go_wp2_with fail
  refine (kcheck_any w ks).mono ?_
  rw [show checkE ks = 13 by unfold checkE; rw [hk]; rfl]
  rintro e w' ⟨rfl, rfl⟩
  go_wp2
  go_ret2
  exact ⟨_, rfl, Elems.nil _ _ _, Below.refl _ _, by simp [ownFoot, Value.ownBlock]⟩

theorem c_mid {key : ByteArray} {W w0 w1 w2 : World} {l l1 l2 : List Cg} {v u1 u2 : Value} (hJ : J2 key W l v w0) (h1 : Elems 4 (cC key) w1 u1 l1) (b1 : Below w0.heap.size w0 w1) (h2 : Elems 4 (cC key) w2 u2 l2) (b2 : Below w1.heap.size w1 w2)
    (f2 : ∀ b ∈ ownFoot u2, w1.heap.size ≤ b ∧ b < w2.heap.size) :
    OwnElems 4 (cC key) 153 (w2.alloc (.cells #[u1, u2] 149)) W.heap.size v l ∧ Below W.heap.size W (w2.alloc (.cells #[u1, u2] 149)) ∧
    (w2.alloc (.cells #[u1, u2] 149)).heap[w2.heap.size]? = some (.cells #[u1, u2] 149 (0, 0)) ∧ Elems 4 (cC key) (w2.alloc (.cells #[u1, u2] 149)) u1 l1 ∧ Elems 4 (cC key) (w2.alloc (.cells #[u1, u2] 149)) u2 l2 ∧
    (∀ b ∈ ownFoot u2, b ∉ ownFoot v ∧ b < (w2.alloc (.cells #[u1, u2] 149)).heap.size) := by
  have b3 : Below w2.heap.size w2 (w2.alloc (.cells #[u1, u2] 149)) := (Below.refl _ _).alloc (Nat.le_refl _) _
  have hW := hJ.2
  have b12 := b1.trans (b2.mono b1.size)
  have b123 := b12.trans (b3.mono b12.size)
  refine ⟨hJ.1.keep fun b hb => b123.block b (hJ.1.lt b hb).2, hW.trans (b123.mono hW.size), heap_alloc_new _ _, (h1.below b2).below b3, h2.below b3, fun b hb => ⟨fun hm => ?_, ?_⟩⟩
  · have h3 := (hJ.1.lt b hm).2
    have h4 := (f2 b hb).1
    have h5 := b1.size
    omega
  · have h4 := (f2 b hb).2
    have h5 := b3.size
    omega
theorem Ones.drew {key : ByteArray} {w : World} {l : List Cg} {e : Ending} {w' : World} {n : Nat} (h : Ones key (w.drewN n) l e w') : Ones key w l e w' := by
  obtain ⟨u, h1, h2, h3, h4⟩ := h
  exact ⟨u, h1, h2, ⟨h3.os, h3.tape, h3.output, h3.size, h3.block⟩, h4⟩
theorem PRow.drewN {w : World} {p : Value} {o : Option Ro} (h : PRow w p o) (n : Nat) : PRow (w.drewN n) p o := h.below ⟨rfl, rfl, rfl, Nat.le_refl _, fun _ _ => rfl⟩
theorem J2.drewN {key : ByteArray} {W w : World} {l : List Cg} {v : Value} (h : J2 key W l v w) (n : Nat) : J2 key W l v (w.drewN n) := ⟨h.1.keep fun _ _ => rfl, below_drewN' h.2 n⟩

set_option maxHeartbeats 1000000 in
set_option maxRecDepth 100000 in
theorem changes_one (w : World) (ks : List Nat) (p q : Value) (o n : Option Ro) (hk : keyB ks = true) (hp : PRow w p o) (hq : PRow w q n) (hon : o = none ∨ n = none) :
    Calls Tryz.prog 83 #[.string (str ks), p, q] w (Chgd (str ks) w 0 (upto o n 4)) := by
  have hz := (keyB_yes hk).2
  have hz0 : (str ks).size ≠ 0 := by rw [str_size]; omega
  have hz1 : (str ks).size ≤ 1000000 := by rw [str_size]; omega
  have HZ0 := hid hz0
  have HZ1 := hid hz1
  have hce : checkE ks = 0 := by unfold checkE; rw [hk]; rfl
  have HP := hid hp
  have HQ := hid hq
  have hal : Hid (∀ k, chg1 o n k = one o k false ++ one n k true) := by
    intro k
    unfold chg1 alikeB
    rcases hon with rfl | rfl
    · simp
    · cases o <;> simp
  clear hz hz0 hz1
  cases o with
  | none =>
    obtain rfl : p = .pointer none := hp
    clear hq hon
    go_enter Tryz.func83, Tryz.ntmps83
    go_wp2_with fail
    refine (kcheck_any w ks).mono ?_
    rw [hce]
    rintro e w' ⟨rfl, rfl⟩
    go_wp2
    go_quiet (fail)
    go_wp2_with fail
    refine (kclone_any _ _ HZ0.out HZ1.out).mono ?_
    rintro e w1 ⟨rfl, hb1⟩
    have HB1 : Hid (Below w'.heap.size w' w1) := ⟨hb1.os, hb1.tape, hb1.output, hb1.size, hb1.block⟩
    clear hb1
    go_wp2
    go_loopw [10, 35] (fun v i wr => ∃ k : Nat, k ≤ 4 ∧ i = .int .i64 k ∧ J2 (str ks) w' (upto none n k) v wr) (fun _ i _ => 4 - (intOf i).toNat)
    case atStart => exact ⟨0, by omega, rfl, OwnElems.nil _ _ _ _ _, HB1.out⟩
    case round =>
      obtain ⟨k, hk4, rfl, hJ⟩ := hrel
      have HJ := hid hJ
      clear hJ
      by_cases hlt : k < 4
      · have h4 : (k : Int) < 4 := by omega
        have HPk := hid (HP.out.below HJ.out.2)
        have HQk := hid (HQ.out.below HJ.out.2)
        go_wp2
        go_quiet (fail)
        go_wp2_with fail
        refine (change_any _ (str ks) _ none k false (HPk.out.drewN _) hlt).mono ?_
        rintro e w3 ⟨u1, rfl, e1, b1, f1⟩
        obtain ⟨A1, n1, c1, rfl⟩ := e1.form
        have HE1 := hid e1
        have HBB1 := hid b1
        have HQ3 := hid ((HQk.out.drewN _).below b1)
        clear e1 b1 f1
        go_wp2_with fail
        refine (change_any _ (str ks) _ n k true HQ3.out hlt).mono ?_
        rintro e w4 ⟨u2, rfl, e2, b2, f2⟩
        obtain ⟨A2, n2, c2, rfl⟩ := e2.form
        have HM := hid (c_mid (HJ.out.drewN _) HE1.out HBB1.out e2 b2 f2)
        clear e2 b2 f2
        have hlen : (upto none n k).length + (one none k false).length + (one n k true).length ≤ 100 := by
          have := upto_len none n k
          have := one_len none k false
          have := one_len n k true
          omega
        have HLEN := hid hlen
        clear hlen
        go_wp2_with fail
        refine (join_two (str ks) w' _ _ _ _ _ _ _ _ HM.out.1 HM.out.2.1 HM.out.2.2.1 HM.out.2.2.2.1 HM.out.2.2.2.2.1 HM.out.2.2.2.2.2 HLEN.out).mono ?_
        rintro e w5 ⟨u, rfl, hJ5⟩
        have HJ5 := hid hJ5
        clear hJ5
        go_wp2
        go_roundw
        case rel => exact ⟨k + 1, by omega, by go_num, by rw [upto_succ, hal.out, ← List.append_assoc]; exact HJ5.out⟩
        case measure => simp [intOf]; omega
      · obtain rfl : k = 4 := by omega
        go_wp2
        go_ret2
        exact ⟨_, rfl, HJ.out.1.rows, HJ.out.2, fun b hb => (HJ.out.1.lt b hb).1⟩
  | some r =>
    have hn : n = none := by rcases hon with h | h; cases h; exact h
    subst hn
    obtain rfl : q = .pointer none := hq
    obtain ⟨g, o', rfl, hc⟩ := hp
    clear hc hon
    go_enter Tryz.func83, Tryz.ntmps83
    go_wp2_with fail
    refine (kcheck_any w ks).mono ?_
    rw [hce]
    rintro e w' ⟨rfl, rfl⟩
    go_wp2
    go_quiet (fail)
    go_wp2_with fail
    refine (kclone_any _ _ HZ0.out HZ1.out).mono ?_
    rintro e w1 ⟨rfl, hb1⟩
    have HB1 : Hid (Below w'.heap.size w' w1) := ⟨hb1.os, hb1.tape, hb1.output, hb1.size, hb1.block⟩
    clear hb1
    go_wp2
    go_loopw [10, 35] (fun v i wr => ∃ k : Nat, k ≤ 4 ∧ i = .int .i64 k ∧ J2 (str ks) w' (upto (some r) none k) v wr) (fun _ i _ => 4 - (intOf i).toNat)
    case atStart => exact ⟨0, by omega, rfl, OwnElems.nil _ _ _ _ _, HB1.out⟩
    case round =>
      obtain ⟨k, hk4, rfl, hJ⟩ := hrel
      have HJ := hid hJ
      clear hJ
      by_cases hlt : k < 4
      · have h4 : (k : Int) < 4 := by omega
        have HPk := hid (HP.out.below HJ.out.2)
        have HQk := hid (HQ.out.below HJ.out.2)
        go_wp2
        go_quiet (fail)
        go_wp2_with fail
        refine (change_any _ (str ks) _ (some r) k false (HPk.out.drewN _) hlt).mono ?_
        rintro e w3 ⟨u1, rfl, e1, b1, f1⟩
        obtain ⟨A1, n1, c1, rfl⟩ := e1.form
        have HE1 := hid e1
        have HBB1 := hid b1
        have HQ3 := hid ((HQk.out.drewN _).below b1)
        clear e1 b1 f1
        go_wp2_with fail
        refine (change_any _ (str ks) _ none k true HQ3.out hlt).mono ?_
        rintro e w4 ⟨u2, rfl, e2, b2, f2⟩
        obtain ⟨A2, n2, c2, rfl⟩ := e2.form
        have HM := hid (c_mid (HJ.out.drewN _) HE1.out HBB1.out e2 b2 f2)
        clear e2 b2 f2
        have hlen : (upto (some r) none k).length + (one (some r) k false).length + (one none k true).length ≤ 100 := by
          have := upto_len (some r) none k
          have := one_len (some r) k false
          have := one_len none k true
          omega
        have HLEN := hid hlen
        clear hlen
        go_wp2_with fail
        refine (join_two (str ks) w' _ _ _ _ _ _ _ _ HM.out.1 HM.out.2.1 HM.out.2.2.1 HM.out.2.2.2.1 HM.out.2.2.2.2.1 HM.out.2.2.2.2.2 HLEN.out).mono ?_
        rintro e w5 ⟨u, rfl, hJ5⟩
        have HJ5 := hid hJ5
        clear hJ5
        go_wp2
        go_roundw
        case rel => exact ⟨k + 1, by omega, by go_num, by rw [upto_succ, hal.out, ← List.append_assoc]; exact HJ5.out⟩
        case measure => simp [intOf]; omega
      · obtain rfl : k = 4 := by omega
        go_wp2
        go_ret2
        exact ⟨_, rfl, HJ.out.1.rows, HJ.out.2, fun b hb => (HJ.out.1.lt b hb).1⟩
end Go.Proofs.YtlnagdodnkhbmaaGreat

/- Changes, where both rows are there. -/
namespace Go.Proofs.YtlnagdodnkhbmaaGreat
open Go.RowKit

theorem eq_four (a b c d a' b' c' d' : Int) (w : World) : (Op.equalIn 10000 41 (.agg #[.int .i64 a, .int .i64 b, .int .i64 c, .int .i64 d]) (.agg #[.int .i64 a', .int .i64 b', .int .i64 c', .int .i64 d'])).run Tryz.prog w = .ok (decide (a = a' ∧ b = b' ∧ c = c' ∧ d = d')) w := by
  have u3 := Tryz.underlying3
  have a3 := Tryz.isAgg3
  have z3 := Tryz.sizeOf3
  rw [show (10000 : Nat) = 9999 + 1 from rfl, Op.equalIn]
  simp only [Sem.run_bind, run_underlying Tryz.underlying41, Result.andThen_ok]
  simp only [Std.Legacy.Range.forIn_eq_forIn_range', Std.Legacy.Range.size, Nat.sub_zero, Nat.add_sub_cancel, Nat.div_one, List.range'_succ, List.range'_zero, List.forIn_cons, List.forIn_nil]
  go_simp
  by_cases h1 : a = a' <;> by_cases h2 : b = b' <;> by_cases h3 : c = c' <;> by_cases h4 : d = d' <;> simp [h1, h2, h3, h4]
theorem eq_rows (r s : Ro) (w : World) : (Op.equalIn 10000 41 (.agg #[.int .i64 r.a, .int .i64 r.b, .int .i64 r.c, .int .i64 r.d]) (.agg #[.int .i64 s.a, .int .i64 s.b, .int .i64 s.c, .int .i64 s.d])).run Tryz.prog w = .ok (decide (r.l = s.l)) w := by
  rw [eq_four]
  congr 1
  simp [Ro.l]

theorem chg1_same {r s : Ro} {k : Nat} (h : r.l[k]? = s.l[k]?) : chg1 (some r) (some s) k = [] := by
  unfold chg1; rw [if_pos (by unfold alikeB; simp [h])]
theorem chg1_other {r s : Ro} {k : Nat} (h : r.l[k]? ≠ s.l[k]?) : chg1 (some r) (some s) k = one (some r) k false ++ one (some s) k true := by
  unfold chg1; rw [if_neg (by unfold alikeB; simp [h])]

set_option maxHeartbeats 1000000 in
set_option maxRecDepth 100000 in
theorem changes_both (w : World) (ks : List Nat) (p q : Value) (r s : Ro) (hk : keyB ks = true) (hp : PRow w p (some r)) (hq : PRow w q (some s)) :
    Calls Tryz.prog 83 #[.string (str ks), p, q] w (Chgd (str ks) w 0 (upto (some r) (some s) 4)) := by
  have hz := (keyB_yes hk).2
  have hz0 : (str ks).size ≠ 0 := by rw [str_size]; omega
  have hz1 : (str ks).size ≤ 1000000 := by rw [str_size]; omega
  have HZ0 := hid hz0
  have HZ1 := hid hz1
  have hce : checkE ks = 0 := by unfold checkE; rw [hk]; rfl
  have HP := hid hp
  have HQ := hid hq
  have heq := eq_rows r s
  obtain ⟨g, o, rfl, hc⟩ := hp
  obtain ⟨g', o', rfl, hc'⟩ := hq
  have c0 := hc 0 _ rfl
  have c1 := hc 1 _ rfl
  have c2 := hc 2 _ rfl
  have c3 := hc 3 _ rfl
  have d0 := hc' 0 _ rfl
  have d1 := hc' 1 _ rfl
  have d2 := hc' 2 _ rfl
  have d3 := hc' 3 _ rfl
  rw [Nat.add_zero] at c0 d0
  clear hz hz0 hz1 hc hc'
  by_cases hrs : r.l = s.l
  · obtain rfl := Ro.ext_ hrs
    have heq' : ∀ w, _ := fun w => (heq w).trans (by rw [decide_eq_true rfl])
    clear heq
    go_enter Tryz.func83, Tryz.ntmps83
    go_wp2_with fail
    refine (kcheck_any w ks).mono ?_
    rw [hce]
    rintro e w' ⟨rfl, rfl⟩
    go_wp2
    go_quiet (fail)
    go_wp2
    go_ret2
    exact ⟨_, rfl, by rw [upto_same]; exact Elems.nil _ _ _, below_drewN' (Below.refl _ _) _, fun b hb => absurd hb (by simp [ownFoot, Value.ownBlock])⟩
  · have heq' : ∀ w, _ := fun w => (heq w).trans (by rw [decide_eq_false hrs])
    clear heq
    go_enter Tryz.func83, Tryz.ntmps83
    go_wp2_with fail
    refine (kcheck_any w ks).mono ?_
    rw [hce]
    rintro e w' ⟨rfl, rfl⟩
    go_wp2
    go_quiet (fail)
    go_wp2_with fail
    refine (kclone_any _ _ HZ0.out HZ1.out).mono ?_
    rintro e w1 ⟨rfl, hb1⟩
    have HB1 : Hid (Below w'.heap.size w' w1) := ⟨hb1.os, hb1.tape, hb1.output, hb1.size, hb1.block⟩
    clear hb1 c0 c1 c2 c3 d0 d1 d2 d3 heq'
    go_wp2
    go_loopw [10, 35] (fun v i wr => ∃ k : Nat, k ≤ 4 ∧ i = .int .i64 k ∧ J2 (str ks) w' (upto (some r) (some s) k) v wr) (fun _ i _ => 4 - (intOf i).toNat)
    case atStart => exact ⟨0, by omega, rfl, OwnElems.nil _ _ _ _ _, HB1.out⟩
    case round =>
      obtain ⟨k, hk4, rfl, hJ⟩ := hrel
      have HJ := hid hJ
      clear hJ
      by_cases hlt : k < 4
      · have h4 : (k : Int) < 4 := by omega
        have HPk := hid (HP.out.below HJ.out.2)
        have HQk := hid (HQ.out.below HJ.out.2)
        obtain ⟨x, hx⟩ := r.at_ hlt
        obtain ⟨y, hy⟩ := s.at_ hlt
        obtain ⟨g1, o1, h1, hc1⟩ := HPk.out
        obtain ⟨rfl, rfl⟩ : g1 = g ∧ o1 = o := by injection h1 with h1; injection h1 with h1; injection h1 with h2 h3; exact ⟨h2.symm, h3.symm⟩
        obtain ⟨g2, o2, h2, hc2⟩ := HQk.out
        obtain ⟨rfl, rfl⟩ : g2 = g' ∧ o2 = o' := by injection h2 with h2; injection h2 with h2; injection h2 with h2 h3; exact ⟨h2.symm, h3.symm⟩
        have hcx := hc1 k x hx
        have hcy := hc2 k y hy
        have HXY := hid (And.intro hx hy)
        clear h1 h2 hc1 hc2 hx hy
        by_cases hxy : x = y
        · subst hxy
          have HCK : Hid (chg1 (some r) (some s) k = []) := by
            exact chg1_same (by rw [HXY.out.1, HXY.out.2])
          go_wp2
          go_quiet (fail)
          go_wp2
          go_roundw
          case rel => exact ⟨k + 1, by omega, by go_num, by rw [upto_succ, HCK.out, List.append_nil]; exact HJ.out.drewN _⟩
          case measure => simp [intOf]; omega
        · have HCK : Hid (chg1 (some r) (some s) k = one (some r) k false ++ one (some s) k true) := by
            exact chg1_other (by rw [HXY.out.1, HXY.out.2]; intro e; injection e with e; exact hxy e)
          go_wp2
          go_quiet (fail)
          go_wp2_with fail
          refine (change_any _ (str ks) _ (some r) k false (HPk.out.drewN _) hlt).mono ?_
          rintro e w3 ⟨u1, rfl, e1, b1, f1⟩
          obtain ⟨A1, n1, c1, rfl⟩ := e1.form
          have HE1 := hid e1
          have HBB1 := hid b1
          have HQ3 := hid ((HQk.out.drewN _).below b1)
          clear e1 b1 f1
          go_wp2_with fail
          refine (change_any _ (str ks) _ (some s) k true HQ3.out hlt).mono ?_
          rintro e w4 ⟨u2, rfl, e2, b2, f2⟩
          obtain ⟨A2, n2, c2, rfl⟩ := e2.form
          have HM := hid (c_mid (HJ.out.drewN _) HE1.out HBB1.out e2 b2 f2)
          clear e2 b2 f2
          have hlen : (upto (some r) (some s) k).length + (one (some r) k false).length + (one (some s) k true).length ≤ 100 := by
            have := upto_len (some r) (some s) k
            have := one_len (some r) k false
            have := one_len (some s) k true
            omega
          have HLEN := hid hlen
          clear hlen
          go_wp2_with fail
          refine (join_two (str ks) w' _ _ _ _ _ _ _ _ HM.out.1 HM.out.2.1 HM.out.2.2.1 HM.out.2.2.2.1 HM.out.2.2.2.2.1 HM.out.2.2.2.2.2 HLEN.out).mono ?_
          rintro e w5 ⟨u, rfl, hJ5⟩
          have HJ5 := hid hJ5
          clear hJ5
          go_wp2
          go_roundw
          case rel => exact ⟨k + 1, by omega, by go_num, by rw [upto_succ, HCK.out, ← List.append_assoc]; exact HJ5.out⟩
          case measure => simp [intOf]; omega
      · obtain rfl : k = 4 := by omega
        go_wp2
        go_ret2
        exact ⟨_, rfl, HJ.out.1.rows, HJ.out.2, fun b hb => (HJ.out.1.lt b hb).1⟩
theorem changes_any (w : World) (ks : List Nat) (p q : Value) (o n : Option Ro) (hp : PRow w p o) (hq : PRow w q n) :
    Calls Tryz.prog 83 #[.string (str ks), p, q] w (Chgd (str ks) w (checkE ks) (if keyB ks then upto o n 4 else [])) := by
  cases hk : keyB ks with
  | false =>
    rw [show checkE ks = 13 by unfold checkE; rw [hk]; rfl]
    exact changes_no w ks p q hk
  | true =>
    rw [show checkE ks = 0 by unfold checkE; rw [hk]; rfl]
    cases o with
    | none => exact changes_one w ks p q none n hk hp hq (.inl rfl)
    | some r =>
      cases n with
      | none => exact changes_one w ks p q (some r) none hk hp hq (.inr rfl)
      | some s => exact changes_both w ks p q r s hk hp hq
end Go.Proofs.YtlnagdodnkhbmaaGreat
