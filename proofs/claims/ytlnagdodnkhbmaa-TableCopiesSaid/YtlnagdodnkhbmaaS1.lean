/- Rows: four numbers as a value, in memory, as bytes; Encode and the reference's Encode. -/
import Derived.Test.YtlnagdodnkhbmaaFB
import Derived.Test.YtlnagdodnkhbmaaKA
import Derived.Deep.RegionHeld3
namespace Go.Proofs.Ytlnagdodnkhbmaa
open Go.RowKit

/-- A row's numbers. -/
structure Ro where
  a : Int
  b : Int
  c : Int
  d : Int
def Ro.l (r : Ro) : List Int := [r.a, r.b, r.c, r.d]
def Ro.ok (r : Ro) : Prop := ∀ x ∈ r.l, I64 x
def rowc (r : Ro) : Array Value := #[.int .i64 r.a, .int .i64 r.b, .int .i64 r.c, .int .i64 r.d]
def rowv (r : Ro) : Value := .agg (rowc r)
theorem rowc_at (r : Ro) {k : Nat} {x : Int} (h : r.l[k]? = some x) : (rowc r)[k]? = some (.int .i64 x) := by
  match k with
  | 0 => injection h with h; subst h; rfl
  | 1 => injection h with h; subst h; rfl
  | 2 => injection h with h; subst h; rfl
  | 3 => injection h with h; subst h; rfl
  | k + 4 => simp [Ro.l] at h
theorem Ro.at_ (r : Ro) {k : Nat} (h : k < 4) : ∃ x, r.l[k]? = some x := ⟨r.l[k]'(by show k < 4; exact h), List.getElem?_eq_getElem _⟩
theorem Ro.ext_ {r s : Ro} (h : r.l = s.l) : r = s := by
  cases r; cases s
  simp only [Ro.l, List.cons.injEq] at h
  simp only [Ro.mk.injEq]
  exact ⟨h.1, h.2.1, h.2.2.1, h.2.2.2.1⟩
theorem Ro.of {l : List Int} (h : l.length = 4) : ∃ r : Ro, r.l = l := by
  match l, h with
  | [a, b, c, d], _ => exact ⟨⟨a, b, c, d⟩, rfl⟩
theorem Ro.len (r : Ro) : r.l.length = 4 := rfl

/-- Numbers as Int writes them, one behind the other. -/
def enc (l : List Int) : List Nat := l.flatMap fun n => gr (zig n)
theorem enc_snoc {l : List Int} {k : Nat} {x : Int} (h : l[k]? = some x) : enc (l.take k) ++ gr (zig x) = enc (l.take (k + 1)) := by
  unfold enc
  rw [List.take_add_one, h, List.flatMap_append]
  simp
theorem enc_drop {l : List Int} {k : Nat} {x : Int} (h : l[k]? = some x) : enc (l.drop k) = gr (zig x) ++ enc (l.drop (k + 1)) := by
  have hk : k < l.length := (List.getElem?_eq_some_iff.1 h).1
  rw [List.drop_eq_getElem_cons hk]
  rw [List.getElem?_eq_getElem hk] at h
  injection h with h
  rw [h]; rfl
theorem enc_byt (l : List Int) : Byt (enc l) := by
  intro b hb
  unfold enc at hb
  rw [List.mem_flatMap] at hb
  obtain ⟨n, _, hb⟩ := hb
  exact gr_byt _ b hb
theorem enc_len : ∀ (l : List Int), (∀ x ∈ l, I64 x) → (enc l).length ≤ 10 * l.length
  | [], _ => by simp [enc]
  | x :: l, h => by
    have h1 := enc_len l fun y hy => h y (List.mem_cons_of_mem _ hy)
    have h2 := h x List.mem_cons_self
    have h3 := gr_len10 (zig_lt h2.1 h2.2)
    unfold enc at h1 ⊢
    rw [List.flatMap_cons, List.length_append, List.length_cons]
    omega
theorem enc_inj : ∀ (l m : List Int) (xs ys : List Nat), l.length = m.length → enc l ++ xs = enc m ++ ys → l = m ∧ xs = ys
  | [], [], _, _, _, h => ⟨rfl, by simpa [enc] using h⟩
  | x :: l, y :: m, xs, ys, hl, h => by
    unfold enc at h
    rw [List.flatMap_cons, List.flatMap_cons, List.append_assoc, List.append_assoc] at h
    obtain ⟨h1, h2⟩ := gr_inj _ _ _ _ h
    obtain ⟨h3, h4⟩ := enc_inj l m xs ys (by simpa using hl) h2
    have h5 : x = y := by rw [← zag_zig x, ← zag_zig y, h1]
    exact ⟨by rw [h3, h5], h4⟩

/-- A row in memory. -/
def Lies (w : World) (g : Nat) (r : Ro) : Prop := w.heap[g]? = some (.cells (rowc r) 33 (0, 0))
theorem Lies.cell {w : World} {g : Nat} {r : Ro} (h : Lies w g r) {k : Nat} {x : Int} (hx : r.l[k]? = some x) : w.cell? ⟨g, k, none⟩ = some (.int .i64 x) :=
  (cell_of_row w g k _ _ _ h).trans (rowc_at r hx)
theorem Lies.lt {w : World} {g : Nat} {r : Ro} (h : Lies w g r) : g < w.heap.size := by
  rcases Nat.lt_or_ge g w.heap.size with hl | hl
  · exact hl
  · unfold Lies at h; rw [Array.getElem?_eq_none hl] at h; cases h
theorem Lies.keep {w w' : World} {g : Nat} {r : Ro} (h : Lies w g r) (hk : w'.heap[g]? = w.heap[g]?) : Lies w' g r := hk.trans h
theorem Lies.below {w w' : World} {g : Nat} {r : Ro} (h : Lies w g r) (hb : Below w.heap.size w w') : Lies w' g r := h.keep (hb.block g h.lt)
theorem Lies.new (w : World) (r : Ro) : Lies (w.alloc (.cells (rowc r) 33)) w.heap.size r := heap_alloc_new w _
theorem Wr.not_row {w : World} {F : List Nat} {p : Value} {xs : List Nat} {g : Nat} {r : Ro} (h : Wr w F p xs) (hr : Lies w g r) : g ∉ F := by
  obtain ⟨g', v, rfl, h1, h2, rfl⟩ := h
  intro hm
  rcases List.mem_cons.1 hm with rfl | hm
  · unfold One at h1; unfold Lies at hr; rw [h1] at hr
    injection hr with hr
    injection hr with _ ht
    exact absurd ht (by decide)
  · exact h2.ne_ hr (by decide) hm

def EncRel (W : World) (g : Nat) (r : Ro) (p : Value) (k : Nat) (wr : World) : Prop :=
  ∃ F, Wr wr F p (enc (r.l.take k)) ∧ Chg [] W wr F ∧ Lies wr g r

set_option maxRecDepth 100000 in
theorem rencode (w : World) (r : Ro) (hr : r.ok) : Calls Try.prog 68 #[rowv r] w (Fresh w (enc r.l)) := by
  have hst : EncRel w w.heap.size r (.pointer (some ⟨w.heap.size + 1, 0, none⟩)) 0 ((w.alloc (.cells (rowc r) 33)).alloc (.cells #[.slice none 0 0] 157)) :=
    by
    have h := wr_new (w.alloc (.cells (rowc r) 33))
    have e : (w.alloc (.cells (rowc r) 33)).heap.size = w.heap.size + 1 := by simp
    rw [e] at h
    refine ⟨_, h, ?_, (Lies.new w r).below ((Below.refl _ _).alloc (Nat.le_refl _) _)⟩
    have := ((Chg.refl [] w).alloc (.cells (rowc r) 33)).add (.cells #[.slice none 0 0] 157)
    rw [e] at this
    exact this
  have HST := hid hst
  clear hst
  unfold rowv
  go_enter Try.func68, Try.ntmps68
  go_wp2
  go_loopw [5] (fun i wr => ∃ k : Nat, k ≤ 4 ∧ i = .int .i64 k ∧ EncRel w w.heap.size r (.pointer (some ⟨w.heap.size + 1, 0, none⟩)) k wr) (fun i _ => 4 - (intOf i).toNat)
  case atStart => exact ⟨0, by omega, rfl, HST.out⟩
  case round =>
    obtain ⟨k, hk, rfl, F, hW, hC, hL⟩ := hrel
    have HW := hid hW
    have HC := hid hC
    have HL := hid hL
    by_cases hlt : k < 4
    · obtain ⟨x, hx⟩ := r.at_ hlt
      have hcell := hL.cell hx
      have HX := hid hx
      have hi := hr x (List.mem_of_getElem? hx)
      have hle : (enc (r.l.take k)).length ≤ 1000000000000 := by
        have := enc_len (r.l.take k) fun y hy => hr y (List.mem_of_mem_take hy)
        have h4 := List.length_take_le k r.l
        omega
      have HI := hid hi
      have HLE := hid hle
      clear hx hL hW hC hi hle
      go_wp2_with fail
      refine (wint wr F _ _ x HW.out HI.out.1 HI.out.2 HLE.out).mono ?_
      rintro e w' ⟨rfl, F', hW', hC'⟩
      have HN : Hid (EncRel w w.heap.size r (.pointer (some ⟨w.heap.size + 1, 0, none⟩)) (k + 1) w') :=
        ⟨F', by rw [← enc_snoc HX.out]; exact hW', HC.out.trans hC', HL.out.keep (hC'.block _ HL.out.lt (HW.out.not_row HL.out))⟩
      clear hW' hC'
      go_wp2
      go_roundw
      case rel => exact ⟨k + 1, by omega, by go_num, HN.out⟩
      case measure => simp [intOf]; omega
    · obtain rfl : k = 4 := by omega
      have hle : (enc (r.l.take 4)).length ≤ 100000000000000 := by
        have := enc_len (r.l.take 4) fun y hy => hr y (List.mem_of_mem_take hy)
        have h4 := List.length_take_le 4 r.l
        omega
      clear hL hW hC
      go_wp2_with fail
      refine (wbytes_fresh wr F _ _ HW.out hle).mono ?_
      rintro e w' ⟨u, rfl, hu, hc⟩
      have HU := hid hu
      have HD := hid hc
      clear hu hc
      go_wp2
      go_ret
      refine ⟨u, rfl, HU.out, ?_⟩
      exact HC.out.trans (HD.out.more fun _ h => by cases h)
end Go.Proofs.Ytlnagdodnkhbmaa

