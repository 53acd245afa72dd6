/- A table: what All hands over. -/
import Derived.Test.YtlnagdodnkhbmaaT10
import Derived.Laws.EntriesVeiled
namespace Go.Proofs.Ytlnagdodnkhbmaa
open Go.RowKit Go.Shelf
set_option maxRecDepth 100000

/-- A function value that hands over l's rows, one by one; the blocks of G are its own. -/
structure WalksK (w : World) (gf : Nat) (lb : Array Value) (G : Bl) (l : List KR) : Prop where
  en : ∀ args w, (callFunc gf args).run Try.prog w = .ok (.enter gf args) w
  lt : ∀ b, G b → b < w.heap.size
  gives : Gives Try.prog gf lb encK l G w
theorem WalksK.below {w w' : World} {gf : Nat} {lb : Array Value} {G : Bl} {l : List KR} (h : WalksK w gf lb G l) (hb : Below w.heap.size w w') : WalksK w' gf lb G l :=
  ⟨h.en, fun b hG => Nat.lt_of_lt_of_le (h.lt b hG) hb.size, h.gives.later (Stay.of_below hb h.lt)⟩
theorem nil_walks (w : World) : Calls Try.prog 50 #[.pointer none] w fun e w' => ∃ gf lb G, e = .returned (.func (.func gf) #[] lb) ∧ Below w.heap.size w w' ∧ Walks w' gf lb G [] ∧ ∀ b, G b → w.heap.size ≤ b := by
  refine (nil_all w).mono ?_
  rintro e w' ⟨rfl, hb, hs, hg⟩
  exact ⟨_, _, _, rfl, hb, ⟨enters_of Try.func83 (by kernel_rfl) rfl, fun b h => by rcases h with rfl | rfl <;> omega, hg⟩, fun b h => by rcases h with rfl | rfl <;> omega⟩
/-- What All makes of an iterator over lines. -/
theorem all_wrap {w w1 : World} {gf : Nat} {lb : Array Value} {G : Bl} {l : List KR} (hb : Below w.heap.size w w1) (hw : Walks w1 gf lb G (lines l)) (hl : RowsOk l) :
    Below w.heap.size w (w1.alloc (.cells #[.func (.func gf) #[] lb] 105)) ∧
    WalksK (w1.alloc (.cells #[.func (.func gf) #[] lb] 105)) 51 #[.pointer (some ⟨w1.heap.size, 0, none⟩)] (fun b => b = w1.heap.size ∨ G b) l := by
  have hba : Below w1.heap.size w1 (w1.alloc (.cells #[.func (.func gf) #[] lb] 105)) := (Below.refl _ _).alloc (Nat.le_refl _) _
  refine ⟨hb.alloc hb.size _, enters_of Try.func51 (by kernel_rfl) rfl, fun b h => ?_, tall_gives _ w1.heap.size gf lb G l (cell_of_row _ _ 0 _ _ _ (heap_alloc_new w1 _)) hw.en (hw.gives.later (Stay.of_below hba hw.lt)) hl⟩
  rcases h with rfl | h
  · simp
  · have := hw.lt b h; simp; omega
def AllEnd (w : World) (Q : Bl) (l : List KR) (e : Ending) (w' : World) : Prop :=
  ∃ gf lb G, e = .returned (.func (.func gf) #[] lb) ∧ Below w.heap.size w w' ∧ WalksK w' gf lb G l ∧ ∀ b, G b → Q b ∨ w.heap.size ≤ b
theorem tall {w : World} {T : Nat} {p : Nat → Nat} {Q : Bl} {most o : Nat} {l : List KR} (h : Tab w T p Q most o l) : Calls Try.prog 33 #[.pointer (some ⟨T, 0, none⟩)] w (AllEnd w Q l) := by
  have H := hid h
  obtain ⟨J, hT, hok, _⟩ := h
  have HT4 := hid (hT.t 4 (by omega))
  have HLL : Hid (J 4 = lines l) := hok.lin
  have HRO := hid hok.rows
  have hmf := hmf
  clear hT hok
  go_enter Try.func33, Try.ntmps33
  go_wp2_with fail
  refine (tlines H.out).mono ?_
  rintro e w1 ⟨rfl, rfl⟩
  go_wp2_with fail
  refine HT4.out.all.mono ?_
  rw [HLL.out]
  rintro e w2 ⟨gf, lb, G, rfl, hb, hw, hG⟩
  have HF := hid (all_wrap hb hw HRO.out)
  have HG := hid hG
  have HS := hid hb.size
  clear hb hw hG
  go_wp2
  go_ret
  refine ⟨_, _, _, rfl, HF.out.1, HF.out.2, fun b hb => ?_⟩
  rcases hb with rfl | hb
  · exact .inr HS.out
  · exact HG.out b hb
theorem tall_nil (w : World) : Calls Try.prog 33 #[.pointer none] w (AllEnd w (fun _ => False) []) := by
  have hmf := hmf
  go_enter Try.func33, Try.ntmps33
  go_wp2_with fail
  refine (tlines_nil _).mono ?_
  rintro e w1 ⟨rfl, rfl⟩
  go_wp2_with fail
  refine (nil_walks _).mono ?_
  rintro e w2 ⟨gf, lb, G, rfl, hb, hw, hG⟩
  have HF := hid (all_wrap (l := []) hb hw RowsOk.nil)
  have HG := hid hG
  have HS := hid hb.size
  clear hb hw hG
  go_wp2
  go_ret
  refine ⟨_, _, _, rfl, HF.out.1, HF.out.2, fun b hb => ?_⟩
  rcases hb with rfl | hb
  · exact .inr HS.out
  · exact .inr (HG.out b hb)
end Go.Proofs.Ytlnagdodnkhbmaa
