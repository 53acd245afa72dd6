/- Scan. -/
import Derived.Test.YtpckaglefmpkcaaY7
import Derived.Test.YtpckaglefmpkcaaW7
namespace Go.Proofs.Ytpckaglefmpkcaa
open Go.RowKit Go.Shelf
set_option maxRecDepth 100000
attribute [local go_sem] Oper.semAt_some

theorem info_two : (Try.prog.info? 48).map (fun i => (i.zero, i.size, i.bytes)) = some (some (.agg #[.string ⟨#[]⟩, .string ⟨#[]⟩]), 2, 32) := by kernel_rfl
/-- What pairs answers. -/
theorem pairs_any (w : World) (fn : Fn) (first cap : Array Value) (most : Int) : Calls Try.prog 54 #[.func fn first cap, .int .i64 most] w fun e w' =>
    e = .returned (.func (.func 64) #[] #[.pointer (some ⟨w.heap.size + 1, 0, none⟩), .pointer (some ⟨w.heap.size, 0, none⟩)]) ∧ w' = (w.alloc (.cells #[.func fn first cap] 79)).alloc (.cells #[.int .i64 most] 3) := by
  have hmf := hmf
  go_enter Try.func54, Try.ntmps54
  go_wp2
  go_ret
  simp
theorem scan_bad (w : World) (a : Nat) (lo hi : List Nat) (most : Int) (blo : Byt lo) (bhi : Byt hi) (h0 : hi ≠ []) (h1 : hi < lo) :
    Calls Try.prog 35 #[.pointer (some ⟨a, 0, none⟩), .string (str lo), .string (str hi), .int .i64 most] w fun e w' => e = .returned (.tuple #[.slice none 0 0, .int .i64 17]) ∧ Below w.heap.size w w' := by
  go_enter Try.func35, Try.ntmps35
  go_wp2_with fail
  refine (new_bad w a lo hi blo bhi h0 h1).mono ?_
  rintro e w1 ⟨rfl, rfl⟩
  go_wp2
  go_ret2
  exact ⟨rfl, Below.refl _ _⟩
theorem scan_nil (w : World) (s t : ByteArray) (most : Int) :
    Calls Try.prog 35 #[.pointer none, .string s, .string t, .int .i64 most] w fun e w' => e = .returned (.tuple #[.slice none 0 0, .int .i64 2]) ∧ Below w.heap.size w w' := by
  go_enter Try.func35, Try.ntmps35
  go_wp2_with fail
  refine (new_nil w s t).mono ?_
  rintro e w1 ⟨rfl, rfl⟩
  go_wp2
  go_ret2
  exact ⟨rfl, Below.refl _ _⟩
theorem scan_few (w : World) (a : Nat) (lo hi : List Nat) (most : Int) (blo : Byt lo) (bhi : Byt hi) (hll : lo.length ≤ 100000) (hhl : hi.length ≤ 100000) (h0 : hi = [] ∨ ¬ hi < lo) (hm : most < 0) :
    Calls Try.prog 35 #[.pointer (some ⟨a, 0, none⟩), .string (str lo), .string (str hi), .int .i64 most] w fun e w' => e = .returned (.tuple #[.slice none 0 0, .int .i64 23]) ∧ Below w.heap.size w w' := by
  go_enter Try.func35, Try.ntmps35
  go_wp2_with fail
  refine (new_ok w a lo hi blo bhi (by omega) (by omega) h0).mono ?_
  rintro e w1 ⟨c, rfl, hb, _, _⟩
  have HB := hid hb
  clear hb
  go_wp2
  go_ret2
  exact ⟨rfl, HB.out⟩
/-- What pairs answers of a cursor's Next. -/
theorem pairs_walks (w : World) (c a o most : Nat) (lo hi at_ : List Nat) (l : List Pr) (P : Bl) (hm : most ≤ 9223372036854775807) (hc : CurAt w c a lo hi at_) (ht : TreeAt w a o l P) (hca : c ≠ a) (hcP : ¬ P c) (hl : l.length ≤ 5000) (hk : Keyed l) (bhi : Byt hi) (bat : Byt at_) :
    Calls Try.prog 54 #[.func (.func 38) #[.pointer (some ⟨c, 0, none⟩)] #[], .int .i64 (most : Int)] w fun e w' => ∃ gf lb G, e = .returned (.func (.func gf) #[] lb) ∧ Below w.heap.size w w' ∧
      (∀ args w, (callFunc gf args).run Try.prog w = .ok (.enter gf args) w) ∧ (∀ b, G b → b < w'.heap.size) ∧ G c ∧ (∀ b, G b → b = c ∨ b = a ∨ P b ∨ w.heap.size ≤ b) ∧ GivesM (fun b => b = c) Try.prog gf lb encP (seg l hi (atN l at_) most) G w' := by
  refine (pairs_any w _ _ _ _).mono ?_
  rintro e w' ⟨rfl, rfl⟩
  have hcl := hc.lt
  have hal := ht.lt
  have hb : Below w.heap.size w ((w.alloc (.cells #[.func (.func 38) #[.pointer (some ⟨c, 0, none⟩)] #[]] 79)).alloc (.cells #[.int .i64 (most : Int)] 3)) := ((Below.refl _ w).alloc (Nat.le_refl _) _).alloc (by simp) _
  have h2 := hp_old (o := .cells #[.int .i64 (most : Int)] 3) (heap_alloc_new w (.cells #[.func (.func 38) #[.pointer (some ⟨c, 0, none⟩)] #[]] 79))
  have h3 := heap_alloc_new (w.alloc (.cells #[.func (.func 38) #[.pointer (some ⟨c, 0, none⟩)] #[]] 79)) (.cells #[.int .i64 (most : Int)] 3)
  rw [World.size_alloc] at h3
  refine ⟨_, _, PG w.heap.size (w.heap.size + 1) c a P, rfl, hb, enters_of Try.func64 (by kernel_rfl) rfl, fun b hG => ?_, .inr (.inr (.inl rfl)), fun b hG => ?_, pairs_gives _ w.heap.size (w.heap.size + 1) c a o most lo hi at_ l P hm (cell_of_row _ _ 0 _ _ _ h2) (cell_of_row _ _ 0 _ _ _ h3) (hc.below hb) (ht.below hb) hca hcP (by omega) (by omega) hl hk bhi bat⟩
  · rcases hG with rfl | rfl | rfl | rfl | hG
    · simp
    · simp; omega
    · simp; omega
    · simp; omega
    · have := ht.under b hG; simp; omega
  · rcases hG with rfl | rfl | rfl | rfl | hG
    · exact .inr (.inr (.inr (by omega)))
    · exact .inr (.inr (.inr (Nat.le_refl _)))
    · exact .inl rfl
    · exact .inr (.inl rfl)
    · exact .inr (.inr (.inl hG))
/-- The pairs gathered so far, in the row that the cell at block bl names; of what was there, the cursor's block c alone has turned besides. -/
def CollV (w3 : World) (bl c : Nat) (pre : List Pr) (K : Bl) (W : World) : Prop :=
  Chg [bl, c] w3 W [bl, c] ∧ ∃ v, One W bl 67 v ∧ OwnElems 2 cP 48 W w3.heap.size v pre ∧ ¬ K bl ∧ ∀ b ∈ ownFoot v, ¬ K b
theorem collV_abide {w3 : World} {bl c : Nat} (hp : bl < w3.heap.size) (hne : bl ≠ c) (_hcl : c < w3.heap.size) : AbideM (fun b => b = c) w3.heap.size (CollV w3 bl c) := by
  rintro s K A A' row ⟨hc, v, q2, q3, q4, q5⟩ hg hr K' hK'
  have hB : ∀ x, x < w3.heap.size → x ≠ c → A'.heap[x]? = A.heap[x]? := fun x hx hxc => hg.block x (Nat.lt_of_lt_of_le hx hc.size) fun e => (hr x e.symm).1.elim (fun h => by omega) fun h => hxc h
  have hnk : ∀ b, ¬ K b → b < A.heap.size → ¬ K' b := fun b hb hl h => by
    rcases hK' b h with h | h
    · exact hb h
    · omega
  exact ⟨⟨hg.os.trans hc.os, hg.tape.trans hc.tape, hg.output.trans hc.output, Nat.le_trans hc.size hg.size, fun k hk hn => (hB k hk fun e => hn (by simp [e])).trans (hc.block k hk hn), hc.foot⟩, v, q2.keep (hB bl hp hne), q3.keep fun b hb => hg.block b (q3.lt b hb).2 fun e => q5 b hb (hr b e.symm).2, hnk bl q4 q2.lt, fun b hb => hnk b (q5 b hb) (q3.lt b hb).2⟩
set_option maxHeartbeats 4000000 in
theorem scan_ok (w : World) (a o most : Nat) (lo hi : List Nat) (l : List Pr) (P : Bl) (ht : TreeAt w a o l P) (hl : l.length ≤ 5000) (hk : Keyed l) (blo : Byt lo) (bhi : Byt hi) (hll : lo.length ≤ 140737488355328) (hhl : hi.length ≤ 140737488355328) (h0 : hi = [] ∨ ¬ hi < lo) (hm : most ≤ 9223372036854775807) :
    Calls Try.prog 35 #[.pointer (some ⟨a, 0, none⟩), .string (str lo), .string (str hi), .int .i64 (most : Int)] w fun e w' =>
      ∃ v, e = .returned (.tuple #[v, .int .i64 0]) ∧ OwnElems 2 cP 48 w' w.heap.size v (seg l hi (atN l lo) most) ∧ Below w.heap.size w w' := by
  have HT := hid ht
  have HK := hid hk
  have BLO := hid blo
  have BHI := hid bhi
  have hmi : ¬ (most : Int) < 0 := by omega
  have hal := ht.lt
  have hPl := hid ht.under
  have hmf := hmf
  clear ht hk blo bhi
  refine (callsIn_wide (n := 3)).1 ?_
  refine callsIn_of_wp_marks Try.func35 rfl trivial ?_ rfl
  simp only [Try.ntmps35, List.size_toArray, List.length_cons, List.length_nil, Nat.reduceAdd, Nat.reduceSub, Array.replicate_succ, Array.replicate_zero, List.push_toArray, List.append_toArray, List.nil_append, List.cons_append]
  refine wpIn_wide.2 ?_
  go_wp2_with fail
  refine (new_ok w a lo hi BLO.out BHI.out hll hhl h0).mono ?_
  rintro e w1 ⟨c, rfl, hb1, hc1, hcur⟩
  have HB1 := hid hb1
  have HCUR := hid hcur
  have hcl := hcur.lt
  obtain ⟨w2, HW2⟩ : ∃ W, Hid (W = w1.alloc (.cells #[.slice none 0 0] 67)) := ⟨_, rfl⟩
  clear hb1 hcur
  go_wp2_with fail
  rw [← HW2.out]
  have hsz2 : w2.heap.size = w1.heap.size + 1 := by rw [HW2.out]; simp
  have HB2 : Hid (Below w1.heap.size w1 w2) := by rw [HW2.out]; exact (Below.refl _ _).alloc (Nat.le_refl _) _
  have HONE2 : Hid (One w2 w1.heap.size 67 (.slice none 0 0)) := by rw [HW2.out]; exact One.new w1 _ _
  have hca : c ≠ a := by omega
  have hcP : ¬ P c := fun h => by have := hPl.out c h; omega
  refine (pairs_walks w2 c a o most lo hi lo l P hm (HCUR.out.below HB2.out) ((HT.out.below HB1.out).below HB2.out) hca hcP hl HK.out BHI.out BLO.out).mono ?_
  rintro e w3 ⟨gf, lb, G, rfl, hb3, hen, hGl, hGc, hGw, hgv⟩
  have HB3 := hid hb3
  have HONE3 := hid (HONE2.out.keep (hb3.block _ HONE2.out.lt))
  have hbl3 : w1.heap.size < w3.heap.size := HONE3.out.lt
  have HAB := hid (collV_abide (w3 := w3) (bl := w1.heap.size) (c := c) hbl3 (by omega) (by omega))
  have hnG : ¬ G w1.heap.size := fun h => by
    rcases hGw _ h with h | h | h | h
    · omega
    · have := HB1.out.size; omega
    · have := hPl.out _ h; have := HB1.out.size; omega
    · omega
  clear hb3
  go_wp2
  refine (wpIn_wide (n := 3)).1 ?_
  refine range_ownM (gf := gf) (lb := lb) rfl hen hgv (w0 := w3) (Stay.refl _ _) (fun _ => rfl) (CollV w3 w1.heap.size c) (fun _ _ _ _ => False) (fun b h => h ▸ hGc) HAB.out (fun _ _ _ _ _ _ h => h.elim) G (fun _ h => h) hGl
    ⟨(Chg.refl _ _), _, HONE3.out, OwnElems.nil _ _ _ _ _, hnG, by simp [ownFoot, Value.ownBlock]⟩ ?round ?done ?stop
  case stop =>
    rintro D c pre K W _ h
    exact h.elim
  case round =>
    rintro lq pre x K W m hI hKW hKl hlq hpre
    unfold encP
    gi_wp2
    refine ⟨Stay.refl _ _, fun W2 hg2 => ?_⟩
    obtain ⟨hc2, v, hone, hown, hkp, hkr⟩ := HAB.out pre K W W2 (some lq) hI hg2 (fun r e => by injection e with e; subst e; exact ⟨.inl hlq, hKl⟩) K fun b h => .inl h
    have HW2 : Hid (W.heap.size ≤ W2.heap.size) := hg2.size
    clear hI hg2
    obtain ⟨Av, nv, cv, rfl⟩ := hown.rows.form
    have HONE := hid hone
    have HOWN := hid hown
    have HC2 := hid hc2
    have qp := hone.cell
    have qf := hone.frozen
    clear hc2 hone hown
    obtain ⟨ip, hip, hzp, hsp, hyp⟩ := info_parts info_two
    have hpl : pre.length + 1 ≤ 5000 := by
      have h1 := hpre.length_le
      rw [seg_len] at h1
      have h2 := endN_le l hi
      simp at h1
      omega
    refine wpIn_block ?_
    refine region_in_round_list (by kernel_rfl) (fun _ _ h => h) ?_
    go_wp2_with (at_builtin; refine wpList_append_rows _ rfl (.tmp 35) (.tmp 39) 67 rfl w3.heap.size 48 ip _ 2 32 Try.underlying67 hip hzp hsp hyp rfl (by omega) cP_one _ _ rfl (HOWN.out.alloc _) _ [x] rfl (rows_new _ 2 cP cP_len x _) ?h63 ?hby ?hba ?_; (case h63 => (simp [maxLen]; omega)); (case hby => (simp; omega)); (case hba => (have := HC2.out.size; simp; omega)); intro v2 w4 ho4 hg4 hf4; obtain ⟨A2, n2, cc2, rfl⟩ := ho4.rows.form; have HO4 := hid ho4; have HG4 := hid hg4; have HF4 := hid hf4; have HONE4 : Hid (One w4 w1.heap.size 67 (.slice Av nv cv)) := (One.keep (One.alloc HONE.out _) (hg4.block _ (by have := HONE.out.lt; simp; omega) (fun e => by have := (HOWN.out.lt _ (mem_ownFoot.2 e.symm)).1; omega))); have qp := HONE4.out.cell; have qf := HONE4.out.frozen; clear ho4 hg4 hf4)
    dsimp only [Exit.inBlock, postB]
    have hne : w1.heap.size ∉ ownFoot (.slice A2 n2 cc2) := fun h => by have := (HO4.out.lt _ h).1; omega
    have hW4 := HG4.out.size
    have hbW := HONE.out.lt
    refine ⟨⟨?_, fun b hb => ?_⟩, ?_, _, HONE4.out.set _, HO4.out.keep fun b hb => Below.heap_setCell _ _ _ _ (fun e => hne (by rw [e] at hb; exact hb)), hkp, fun b hb hKb => ?_⟩
    · simp [World.setCell] at hW4 ⊢; omega
    · have hbl : b < W2.heap.size := Nat.lt_of_lt_of_le (hKW b hb) HW2.out
      have h1 : b ≠ w1.heap.size := fun e => hkp (e ▸ hb)
      refine (Below.heap_setCell _ _ _ _ h1).trans ((HG4.out.block b (by simp; omega) fun e => hkr b (mem_ownFoot.2 e.symm) hb).trans (Below.heap_alloc _ _ _ hbl))
    · have hs3 := HC2.out.size
      refine ⟨HG4.out.os.trans HC2.out.os, HG4.out.tape.trans HC2.out.tape, HG4.out.output.trans HC2.out.output, by simp [World.setCell] at hW4 ⊢; omega, fun k hk hn => ?_, fun k hk => .inl hk⟩
      refine (Below.heap_setCell _ _ _ _ (fun e => hn (by rw [e]; simp))).trans ((HG4.out.block k (by simp; omega) fun e => ?_).trans ((Below.heap_alloc _ _ _ (by omega)).trans (HC2.out.block k hk hn)))
      have := (HOWN.out.lt k (mem_ownFoot.2 e.symm)).1
      omega
    · rcases HF4.out b hb with h | h
      · exact hkr b h hKb
      · have h1 := hKW b hKb
        have h2 := HW2.out
        simp at h
        omega
  case done =>
    rintro D Kd W ⟨hcw, v, hone, hown, _, hkr⟩ _ hKD hD hK
    have HCW := hid hcw
    have HOW := hid hown
    have HKR := hid hkr
    have HKD := hid hKD
    have HDD := hid hD
    have HSH := hid hK
    have qp := hone.cell
    clear hcw hown hkr hKD hD hK hone
    go_wp2
    refine ⟨by simp, .inl ⟨_, _, rfl, run_takeDeferred HSH.out, ?_⟩⟩
    have hD' : w.heap.size ≤ D := by have := HDD.out; have := HB1.out.size; have := HB3.out.size; omega
    have hbw : Below w.heap.size w W := by
      have h1 : Chg [] w w3 [w1.heap.size, c] := (Chg.of_below (F := []) (below_step (below_step HB1.out HB2.out) HB3.out)).less fun k hk => by
        simp at hk
        rcases hk with rfl | rfl
        · exact .inr HB1.out.size
        · exact .inr hc1
      exact (h1.trans HCW.out).below (fun _ h => by cases h) (Nat.le_refl _)
    refine ⟨.tuple #[v, .int .i64 0], ?_, v, rfl, ?_, ?_⟩
    · simp [results, Try.f35, go_sem]
    · refine OwnElems.down_ (HOW.out.keep fun b hb => World.putObj_heap_other fun e => HKR.out b hb ?_) (by have := HB1.out.size; have := HB2.out.size; have := HB3.out.size; omega)
      rw [e]; exact HKD.out
    · exact hbw.trans (belowK_b (w := w) (Nat.le_refl _) _ D _ _ hD' HSH.out rfl rfl)
end Go.Proofs.Ytpckaglefmpkcaa
