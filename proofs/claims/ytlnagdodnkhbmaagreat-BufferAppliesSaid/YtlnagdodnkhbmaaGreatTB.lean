import Derived.Test.YtlnagdodnkhbmaaGreatTA
import Derived.Laws.EntriesVeiled

/- A table: All. -/
namespace Go.Proofs.YtlnagdodnkhbmaaGreat
open Go.RowKit Go.Shelf
set_option maxRecDepth 100000
attribute [local go_sem] Oper.semAt_some

def encK (q : KR) : Array Value := #[.string (str q.1), rowv q.2]
/-- Between two rounds of the range over the lines. -/
def IA2 (J : List KR → Bl → World → Prop) (l : List KR) (K0 : Bl) (W2 : World) (s : List Pr) (Kx : Bl) (X : World) : Prop :=
  ∃ Kb : Bl, (∀ b, Kx b → Kb b) ∧ (∀ b, K0 b → Kb b) ∧ (∀ b, Kb b → b < X.heap.size) ∧ J (l.take s.length) Kb X ∧ Stay K0 W2 X
theorem ia2_abide {J : List KR → Bl → World → Prop} {B0 : Nat} (hJ : Abide B0 J) (l : List KR) {K0 : Bl} {W2 : World} (hB : B0 ≤ W2.heap.size) (hlt : ∀ b, K0 b → b < W2.heap.size) : Abide W2.heap.size (IA2 J l K0 W2) := by
  rintro s K A A' row ⟨Kb, h1, h2, h3, h4, h5⟩ hg hr K' hK'
  refine ⟨fun b => Kb b ∨ (A.heap.size ≤ b ∧ b < A'.heap.size), fun b hb => (hK' b hb).imp (h1 b) id, fun b hb => .inl (h2 b hb), fun b hb => ?_, hJ _ _ _ _ row h4 hg (fun r e => ⟨Nat.le_trans hB (hr r e).1, h1 r (hr r e).2⟩) _ (fun b hb => hb), h5.trans (Stay.grown hg (fun b hb => Nat.lt_of_lt_of_le (hlt b hb) h5.1) fun r e hk => ?_)⟩
  · rcases hb with hb | hb
    · exact Nat.lt_of_lt_of_le (h3 b hb) hg.size
    · exact hb.2
  · have h6 := (hr r e).1
    have h7 := hlt r hk
    omega
theorem grown_below {w w' : World} (hb : Below w.heap.size w w') : w.grownBy w' none := ⟨hb.os, hb.tape, hb.output, hb.size, fun k hk _ => hb.block k hk⟩
theorem lines_pre {l : List KR} {pre : List Pr} {x : Pr} (h : pre ++ [x] <+: lines l) : ∃ q, l[pre.length]? = some q ∧ x = line q := by
  obtain ⟨t, ht⟩ := h
  have h1 : (lines l)[pre.length]? = some x := by
    rw [← ht, List.append_assoc, List.getElem?_append_right (Nat.le_refl _)]
    simp
  rw [lines_at] at h1
  cases hq : l[pre.length]? with
  | none => rw [hq] at h1; cases h1
  | some q => rw [hq] at h1; cases h1; exact ⟨q, rfl, rfl⟩

set_option maxHeartbeats 4000000 in
theorem tall_gives (w : World) (Bn gf : Nat) (lb : Array Value) (G : Bl) (l : List KR) (hcell : w.cell? ⟨Bn, 0, none⟩ = some (.func (.func gf) #[] lb)) (hen : ∀ args w, (callFunc gf args).run Tryz.prog w = .ok (.enter gf args) w)
    (hg : Gives Tryz.prog gf lb encP (lines l) G w) (hl : RowsOk l) : Gives Tryz.prog 78 #[.pointer (some ⟨Bn, 0, none⟩)] encK l (fun b => b = Bn ∨ G b) w := by
  intro n ly J Jx K W hW hGK hKW hJ hJx hY h0
  have HCELL : Hid (∀ W', Stay K W W' → W'.cell? ⟨Bn, 0, none⟩ = some (.func (.func gf) #[] lb)) := fun W' hs => by
    have h1 : Stay (fun b => b = Bn ∨ G b) w W' := hW.trans (hs.less hGK)
    exact (h1.cell (a := ⟨Bn, 0, none⟩) (.inl rfl)).trans hcell
  obtain ⟨By, HBY⟩ : ∃ By, Hid (By = W.heap.size) := ⟨_, rfl⟩
  obtain ⟨W1, HW1⟩ : ∃ W1, Hid (W1 = W.alloc (.cells #[.func (.yield ly) #[] #[]] 108)) := ⟨_, rfl⟩
  have HST1 : Hid (Stay K W W1) := by rw [HW1.out]; exact Stay.grown (World.grownBy_alloc W _ none) hKW (fun _ e => by cases e)
  have HY1 : Hid (W1.heap[By]? = some (.cells #[.func (.yield ly) #[] #[]] 108 (0, 0))) := by rw [HW1.out, HBY.out]; exact heap_alloc_new W _
  have HS1 : Hid (W1.heap.size = W.heap.size + 1) := by show _ = _; rw [HW1.out]; simp
  have HY := hid hY
  have HJ := hid hJ
  have HJx := hid hJx
  have HKW := hid hKW
  have HGK := hid hGK
  have HGV := hid hg
  have HGW : Hid (Stay G w W1) := (hW.less fun b hb => .inr hb).trans (HST1.out.less fun b hb => hGK b (.inr hb))
  have HLR := hid hl
  have HJ1 : Hid (J [] (fun b => K b ∨ b = By) W1) := by
    have h := Abide.alloc hJ h0 (.cells #[.func (.yield ly) #[] #[]] 108)
    rw [← HW1.out, ← HBY.out] at h
    exact h
  have HK0 : Hid (∀ b, (K b ∨ b = By) → b < W1.heap.size) := fun b hb => by
    have h1 := HS1.out
    rcases hb with hb | hb
    · have := hKW b hb; omega
    · have := HBY.out; omega
  have HAB := hid (ia2_abide (K0 := fun b => K b ∨ b = By) (W2 := W1) hJ l (by have := HS1.out; omega) HK0.out)
  have HAX := hid (ia2_abide (K0 := fun b => K b ∨ b = By) (W2 := W1) hJx l (by have := HS1.out; omega) HK0.out)
  have c1 := HCELL.out W1 HST1.out
  rw [HW1.out] at c1
  clear hY hJ hJx h0 hKW hg hW hGK hcell hl
  refine callsIn_of_wp_marks Tryz.func78 rfl trivial ?_ rfl
  simp only [Tryz.ntmps78, List.size_toArray, List.length_cons, List.length_nil, Nat.reduceAdd, Nat.reduceSub, Array.replicate_succ, Array.replicate_zero, List.push_toArray, List.append_toArray, List.nil_append, List.cons_append]
  gi_wp2
  rw [← HW1.out, ← HBY.out]
  clear c1
  have HEND : Hid (∀ (D : Nat) (Kb : Bl) (W' : World) (fnn : Func) (tmps : Array Value), fnn = Tryz.f78 → (J l Kb W' ∨ ∃ pre, pre <+: l ∧ Jx pre Kb W') → (∀ b, K b → Kb b) → Kb D → Shut W' D → W.heap.size ≤ D →
      LeavesInM Fence.wide n Tryz.prog fnn tmps (fun e W' => (∃ v, e = .returned v) ∧ (J l K W' ∨ ∃ pre, pre <+: l ∧ Jx pre K W')) [mark D] .returning W') := by
    rintro D Kb W' fnn tmps rfl hpos hmore hKD hsh hD
    refine leaves_keep (fun X => J l Kb X ∨ ∃ pre, pre <+: l ∧ Jx pre Kb X) [D] W' (by simp) (fun E hE => by simp at hE; subst hE; exact hsh) hpos (fun E hE X hX => ?_) fun X hX => ?_
    · simp at hE; subst hE
      rcases hX with hX | ⟨pre, e, hX⟩
      · exact .inl (HJ.out _ _ _ _ (some E) hX (putObj_grown X E _) (fun r e => by injection e with e; subst e; exact ⟨hD, hKD⟩) _ fun b h => .inl h)
      · exact .inr ⟨pre, e, HJx.out _ _ _ _ (some E) hX (putObj_grown X E _) (fun r e => by injection e with e; subst e; exact ⟨hD, hKD⟩) _ fun b h => .inl h⟩
    · refine ⟨_, results_none rfl _ _ _, ⟨_, rfl⟩, ?_⟩
      rcases hX with hX | ⟨pre, e, hX⟩
      · exact .inl (HJ.out.less hX hmore)
      · exact .inr ⟨pre, e, HJx.out.less hX hmore⟩
  refine range_own (gf := gf) (lb := lb) rfl hen HGV.out HGW.out (fun _ => rfl)
    (IA2 J l (fun b => K b ∨ b = By) W1) (fun cd s Kx X => cd = .ret ∧ IA2 Jx l (fun b => K b ∨ b = By) W1 s Kx X) HAB.out (fun cd s K A A' row hi hg hr K' hK' => ⟨hi.1, HAX.out s K A A' row hi.2 hg hr K' hK'⟩)
    (fun b => K b ∨ b = By) (fun b hb => .inl (HGK.out b (.inr hb))) HK0.out ?start2 ?round2 ?done2 ?stop2
  case start2 => exact ⟨fun b => K b ∨ b = By, fun b h => h, fun b h => h, HK0.out, HJ1.out, Stay.refl _ _⟩
  case round2 =>
    intro l2 pre x Kx X mm hi hKX hKl hl2 hpre
    unfold encP
    gi_wp2
    refine ⟨Stay.refl _ _, fun X2 hg2 => ?_⟩
    have hi2 := HAB.out _ _ _ _ _ hi hg2 (fun r e => by injection e with e; subst e; exact ⟨hl2, hKl⟩) Kx fun b hb => .inl hb
    obtain ⟨q, hq, rfl⟩ := lines_pre hpre
    obtain ⟨Kb, z1, z2, z3, z4, z5⟩ := hi2
    have cy := (z5.cell (a := ⟨By, 0, none⟩) (.inr rfl)).trans (cell_of_row _ _ 0 _ _ _ HY1.out)
    simp at cy
    have HTK : Hid (l.take (pre.length + 1) = l.take pre.length ++ [q]) := by show _ = _; rw [List.take_add_one, hq]; rfl
    have hpre2 : l.take pre.length ++ [q] <+: l := by rw [← HTK.out]; exact List.take_prefix _ _
    have hqo := HLR.out.ok q (List.mem_of_getElem? hq)
    have HQO : Hid (∀ x ∈ q.2.l, I64 x) := hqo
    have hel := enc_256 hqo
    have hcv := fun (W : World) => Lib.run_convert_string_bytes (P := Tryz.prog) W 9 113 5 (str (enc q.2.l)) (u := .string) Tryz.underlying9 Tryz.underlying113 Tryz.underlying5
    have HSL := hid (fun (W : World) => bytesWorld_sl W 5 (enc q.2.l) (enc_byt _) (by unfold maxLen; omega))
    obtain ⟨s, HSS⟩ : ∃ s, Hid (s = str (enc q.2.l)) := ⟨_, rfl⟩
    have hsz : Hid (s.size = (enc q.2.l).length) := by show _ = _; rw [HSS.out, str_size]
    rw [← HSS.out] at hcv
    rw [← HSS.out, ← hsz.out] at HSL
    have HZ := hid z1
    have HZ2 := hid z2
    have HZ3 := hid z3
    have HZ4 := hid z4
    have HZ5 := hid z5
    have HCY := hid cy
    have HPRE2 := hid hpre2
    unfold line
    dsimp only
    rw [← HSS.out]
    clear z1 z2 z3 z4 z5 hi hpre hg2 hq hqo hel hpre2 cy
    gi_wp2
    refine ⟨trivial, fun h => (by cases h), ?_⟩
    refine (CallsIn.inRound l2 (callsIn_wide.2 (rdecode _ _ q.2.l [] q.2 0 (by rw [List.append_nil]; exact HSL.out _) Byt.nil HQO.out (.inl ⟨rfl, rfl, rfl, rfl⟩) (by simp)))).mono ?_
    rintro e w3 ⟨rfl, hb3⟩
    obtain ⟨k, r⟩ := q
    unfold rowv rowc
    have HB4 : Hid (Below X2.heap.size X2 (w3.alloc (.cells #[.int .i64 r.a, .int .i64 r.b, .int .i64 r.c, .int .i64 r.d] 41))) := (below_step (bytesWorld_below X2 5 s) hb3).alloc (below_step (bytesWorld_below X2 5 s) hb3).size _
    have cy := below_keep HB4.out _ _ HCY.out
    obtain ⟨p0, p1, p2, p3⟩ := (Lies.new w3 r).four
    dsimp only [rowc] at p0 p1 p2 p3
    obtain ⟨fn, tmps, assign, body, hy, hR⟩ := HY.out (mm - 1) _ (k, r) Kb _ (HJ.out _ Kb X2 _ none HZ4.out (grown_below HB4.out) (fun _ e => by cases e) Kb fun b h => .inl h) (fun b hb => Nat.lt_of_lt_of_le (HZ3.out b hb) HB4.out.size) HPRE2.out
    dsimp only [encK, rowv, rowc] at hy
    have HSX : Hid (Stay Kb X2 (w3.alloc (.cells #[.int .i64 r.a, .int .i64 r.b, .int .i64 r.c, .int .i64 r.d] 41))) := Stay.of_below HB4.out HZ3.out
    clear hb3
    gi_wp2
    refine ⟨fun h => (by cases h), RoundIn.mono (F := Fence.wide.inRound l2) hR ?_⟩
    rintro e W3 (⟨rfl, hJ3, hs3⟩ | ⟨rfl, hJ3, hs3⟩)
    · have HI3 : Hid (Stay Kx X2 W3 ∧ IA2 J l (fun b => K b ∨ b = By) W1 (pre ++ [line (k, r)]) Kx W3) := by
        have hs4 := HSX.out.trans hs3
        refine ⟨hs4.less HZ.out, Kb, HZ.out, HZ2.out, fun b hb => Nat.lt_of_lt_of_le (HZ3.out b hb) hs4.1, by rw [List.length_append, List.length_singleton, HTK.out]; exact hJ3, HZ5.out.trans (hs4.less HZ2.out)⟩
      clear hJ3 hs3
      gi_wp2
      exact HI3.out
    · have HI3 : Hid (Stay Kx X2 W3 ∧ IA2 Jx l (fun b => K b ∨ b = By) W1 (pre ++ [line (k, r)]) Kx W3) := by
        have hs4 := HSX.out.trans hs3
        refine ⟨hs4.less HZ.out, Kb, HZ.out, HZ2.out, fun b hb => Nat.lt_of_lt_of_le (HZ3.out b hb) hs4.1, by rw [List.length_append, List.length_singleton, HTK.out]; exact hJ3, HZ5.out.trans (hs4.less HZ2.out)⟩
      clear hJ3 hs3
      gi_wp2
      exact ⟨HI3.out.1, rfl, HI3.out.2⟩
  case done2 =>
    rintro D Kx Wq ⟨Kd, z1, z2, z3, z4, z5⟩ hK0 hKD hlD hsh
    have HL := hid (fun (tmps : Array Value) => HEND.out D Kd Wq _ tmps rfl (.inl (by rwa [lines_len, List.take_length] at z4)) (fun b hb => z2 b (.inl hb)) (z1 D hKD) hsh (by have := HS1.out; omega))
    gi_wp2
    exact HL.out _
  case stop2 =>
    rintro D cd pre Kx X hpre ⟨rfl, Kb, z1, z2, z3, z4, z5⟩ hK0 hKD hlD hsh
    have HL := hid (fun (tmps : Array Value) => HEND.out D Kb X _ tmps rfl (.inr ⟨_, List.take_prefix _ _, z4⟩) (fun b hb => z2 b (.inl hb)) (z1 D hKD) hsh (by have := HS1.out; omega))
    gi_wp2
    exact HL.out _
end Go.Proofs.YtlnagdodnkhbmaaGreat

/- A table: what All hands over. -/
namespace Go.Proofs.YtlnagdodnkhbmaaGreat
open Go.RowKit Go.Shelf
set_option maxRecDepth 100000

/-- A function value that hands over l's rows, one by one; the blocks of G are its own. -/
structure WalksK (w : World) (gf : Nat) (lb : Array Value) (G : Bl) (l : List KR) : Prop where
  en : ∀ args w, (callFunc gf args).run Tryz.prog w = .ok (.enter gf args) w
  lt : ∀ b, G b → b < w.heap.size
  gives : Gives Tryz.prog gf lb encK l G w
theorem WalksK.below {w w' : World} {gf : Nat} {lb : Array Value} {G : Bl} {l : List KR} (h : WalksK w gf lb G l) (hb : Below w.heap.size w w') : WalksK w' gf lb G l :=
  ⟨h.en, fun b hG => Nat.lt_of_lt_of_le (h.lt b hG) hb.size, h.gives.later (Stay.of_below hb h.lt)⟩
theorem nil_walks (w : World) : Calls Tryz.prog 77 #[.pointer none] w fun e w' => ∃ gf lb G, e = .returned (.func (.func gf) #[] lb) ∧ Below w.heap.size w w' ∧ Walks w' gf lb G [] ∧ ∀ b, G b → w.heap.size ≤ b := by
  refine (nil_all w).mono ?_
  rintro e w' ⟨rfl, hb, hs, hg⟩
  exact ⟨_, _, _, rfl, hb, ⟨enters_of Tryz.func137 (by kernel_rfl) rfl, fun b h => by rcases h with rfl | rfl <;> omega, hg⟩, fun b h => by rcases h with rfl | rfl <;> omega⟩
/-- What All makes of an iterator over lines. -/
theorem all_wrap {w w1 : World} {gf : Nat} {lb : Array Value} {G : Bl} {l : List KR} (hb : Below w.heap.size w w1) (hw : Walks w1 gf lb G (lines l)) (hl : RowsOk l) :
    Below w.heap.size w (w1.alloc (.cells #[.func (.func gf) #[] lb] 143)) ∧
    WalksK (w1.alloc (.cells #[.func (.func gf) #[] lb] 143)) 78 #[.pointer (some ⟨w1.heap.size, 0, none⟩)] (fun b => b = w1.heap.size ∨ G b) l := by
  have hba : Below w1.heap.size w1 (w1.alloc (.cells #[.func (.func gf) #[] lb] 143)) := (Below.refl _ _).alloc (Nat.le_refl _) _
  refine ⟨hb.alloc hb.size _, enters_of Tryz.func78 (by kernel_rfl) rfl, fun b h => ?_, tall_gives _ w1.heap.size gf lb G l (cell_of_row _ _ 0 _ _ _ (heap_alloc_new w1 _)) hw.en (hw.gives.later (Stay.of_below hba hw.lt)) hl⟩
  rcases h with rfl | h
  · simp
  · have := hw.lt b h; simp; omega
def AllEnd (w : World) (Q : Bl) (l : List KR) (e : Ending) (w' : World) : Prop :=
  ∃ gf lb G, e = .returned (.func (.func gf) #[] lb) ∧ Below w.heap.size w w' ∧ WalksK w' gf lb G l ∧ ∀ b, G b → Q b ∨ w.heap.size ≤ b
theorem tall {w : World} {T : Nat} {p : Nat → Nat} {Q : Bl} {most o : Nat} {l : List KR} (h : Tab w T p Q most o l) : Calls Tryz.prog 49 #[.pointer (some ⟨T, 0, none⟩)] w (AllEnd w Q l) := by
  have H := hid h
  obtain ⟨J, hT, hok, _⟩ := h
  have HT4 := hid (hT.t 4 (by omega))
  have HLL : Hid (J 4 = lines l) := hok.lin
  have HRO := hid hok.rows
  have hmf := hmf
  clear hT hok
  go_enter Tryz.func49, Tryz.ntmps49
  go_wp2_with fail
  refine (tlines H.out).mono ?_
  rintro e w1 ⟨rfl, rfl⟩
  go_wp2_with fail
  refine HT4.out.all.mono ?_
  rw [HLL.out]
  rintro e w2 ⟨gf, lb, G, rfl, hb, hw, hG⟩
  have HF := hid (all_wrap hb hw HRO.out)
  have HG := hid hG
  have HS := hid hb.size
  clear hb hw hG
  go_wp2
  go_ret
  refine ⟨_, _, _, rfl, HF.out.1, HF.out.2, fun b hb => ?_⟩
  rcases hb with rfl | hb
  · exact .inr HS.out
  · exact HG.out b hb
theorem tall_nil (w : World) : Calls Tryz.prog 49 #[.pointer none] w (AllEnd w (fun _ => False) []) := by
  have hmf := hmf
  go_enter Tryz.func49, Tryz.ntmps49
  go_wp2_with fail
  refine (tlines_nil _).mono ?_
  rintro e w1 ⟨rfl, rfl⟩
  go_wp2_with fail
  refine (nil_walks _).mono ?_
  rintro e w2 ⟨gf, lb, G, rfl, hb, hw, hG⟩
  have HF := hid (all_wrap (l := []) hb hw RowsOk.nil)
  have HG := hid hG
  have HS := hid hb.size
  clear hb hw hG
  go_wp2
  go_ret
  refine ⟨_, _, _, rfl, HF.out.1, HF.out.2, fun b hb => ?_⟩
  rcases hb with rfl | hb
  · exact .inr HS.out
  · exact .inr (HG.out b hb)
end Go.Proofs.YtlnagdodnkhbmaaGreat

/- A table: New. -/
namespace Go.Proofs.YtlnagdodnkhbmaaGreat
open Go.RowKit
set_option maxRecDepth 100000

/-- A new table's cells, while its trees are made. -/
def padT (most : Int) (T k : Nat) : Array Value := #[.int .i64 most, if 0 < k then ptr (T + 2) else .pointer none, if 1 < k then ptr (T + 4) else .pointer none, if 2 < k then ptr (T + 6) else .pointer none, if 3 < k then ptr (T + 8) else .pointer none, if 4 < k then ptr (T + 10) else .pointer none]
theorem padT_set (most : Int) (T : Nat) {k : Nat} (h : k < 5) : (padT most T k).set! (1 + k) (ptr (T + 2 + 2 * k)) = padT most T (k + 1) := by
  match k with
  | 0 => rfl
  | 1 => rfl
  | 2 => rfl
  | 3 => rfl
  | 4 => rfl
  | k + 5 => omega
theorem padT_at (most : Int) (T : Nat) {k : Nat} (h : k < 5) : (padT most T k)[1 + k]? = some (.pointer none) := by
  match k with
  | 0 => rfl
  | 1 => rfl
  | 2 => rfl
  | 3 => rfl
  | 4 => rfl
  | k + 5 => omega
structure NewRel (w : World) (most : Int) (o k : Nat) (wr : World) : Prop where
  size : wr.heap.size = w.heap.size + 1 + 2 * k
  below : Below w.heap.size w wr
  c : wr.heap[w.heap.size]? = some (.cells (padT most w.heap.size k) 107 (0, 0))
  t : ∀ j, j < k → TreeAt wr (w.heap.size + 2 + 2 * j) o [] (fun b => b = w.heap.size + 1 + 2 * j)
theorem NewRel.start (w : World) (most : Int) (o : Nat) : NewRel w most o 0 (w.alloc (.cells #[.int .i64 most, .pointer none, .pointer none, .pointer none, .pointer none, .pointer none] 107)) :=
  ⟨by simp, (Below.refl _ _).alloc (Nat.le_refl _) _, heap_alloc_new w _, fun j h => by omega⟩
theorem NewRel.step {w wr w' : World} {most : Int} {o k : Nat} {g : Nat} {t : T} (h : NewRel w most o k wr) (hk : k < 5) (hb : Below wr.heap.size wr w') (hs : w'.heap.size = wr.heap.size + 2) (ht : TreeIn w' (wr.heap.size + 1) o [] (fun b => b = wr.heap.size) 0 g t) :
    NewRel w most o (k + 1) (w'.setCell ⟨w.heap.size, 1 + k, none⟩ (.pointer (some ⟨wr.heap.size + 1, 0, none⟩))) := by
  have h1 := h.size
  have hc : w'.heap[w.heap.size]? = some (.cells (padT most w.heap.size k) 107 (0, 0)) := (hb.block _ (by omega)).trans h.c
  have hk1 : ∀ b, b ≠ w.heap.size → (w'.setCell ⟨w.heap.size, 1 + k, none⟩ (.pointer (some ⟨wr.heap.size + 1, 0, none⟩))).heap[b]? = w'.heap[b]? := fun b hne => Below.heap_setCell _ _ _ _ hne
  have hsz : (w'.setCell ⟨w.heap.size, 1 + k, none⟩ (.pointer (some ⟨wr.heap.size + 1, 0, none⟩))).heap.size = w'.heap.size := by simp [World.setCell]
  refine ⟨by rw [hsz]; omega, (h.below.trans (hb.mono h.below.size)).setCell (p := ⟨w.heap.size, 1 + k, none⟩) (Nat.le_refl _) _, ?_, fun j hj => ?_⟩
  · rw [setCell_row hc, ← padT_set most w.heap.size hk]
    rw [show wr.heap.size + 1 = w.heap.size + 2 + 2 * k by omega]; rfl
  · by_cases e : j = k
    · subst e
      have ht2 : TreeAt w' (wr.heap.size + 1) o [] (fun b => b = wr.heap.size) := ⟨_, _, _, ht⟩
      rw [show wr.heap.size + 1 = w.heap.size + 2 + 2 * j by omega, show wr.heap.size = w.heap.size + 1 + 2 * j by omega] at ht2
      exact ht2.keep (hk1 _ (by omega)) (fun b hb => hk1 b (by omega)) (by omega)
    · have h2 := (h.t j (by omega)).below hb
      exact h2.keep (hk1 _ (by omega)) (fun b hb => hk1 b (by omega)) (by omega)
theorem NewRel.tab {w wr : World} {most o : Nat} (h : NewRel w most o 5 wr) (hm : most ≤ 1024) : Tab wr w.heap.size (fun i => w.heap.size + 2 + 2 * i) (fun b => ∃ j, j < 5 ∧ b = w.heap.size + 1 + 2 * j) most o [] := by
  have hs := h.size
  refine ⟨fun _ => [], ⟨h.c, fun i hi => (h.t i hi).mono (fun b hb => ⟨i, hi, hb⟩) (fun b hb => ?_) ?_, fun i j _ _ e => ?_, fun i _ => ?_⟩, TOk.nil, Nat.zero_le _, hm⟩
  · obtain ⟨j, hj, rfl⟩ := hb; omega
  · rintro ⟨j, hj, e⟩; omega
  · have e' : w.heap.size + 2 + 2 * i = w.heap.size + 2 + 2 * j := e
    omega
  · show ¬ (w.heap.size + 2 + 2 * i = w.heap.size)
    omega
theorem tnew_range (w : World) (m : Int) (o : Int) (h : m < 1 ∨ (1 ≤ m ∧ 1024 < m)) : Calls Tryz.prog 41 #[.int .i64 m, .int .i64 o] w fun e w' => e = .returned (.tuple #[.pointer none, .int .i64 23]) ∧ Below w.heap.size w w' := by
  rcases h with h | ⟨h, h'⟩
  · go_enter Tryz.func41, Tryz.ntmps41
    go_wp2
    go_ret2
    exact ⟨rfl, Below.refl _ _⟩
  · have h2 : ¬ m < 1 := by omega
    go_enter Tryz.func41, Tryz.ntmps41
    go_wp2
    go_ret2
    exact ⟨rfl, Below.refl _ _⟩
theorem tnew_order (w : World) (most : Nat) (h1 : 1 ≤ most) (h2 : most ≤ 1024) (o : Int) (ho : o < 2 ∨ 16 < o) : Calls Tryz.prog 41 #[.int .i64 (most : Int), .int .i64 o] w fun e w' => e = .returned (.tuple #[.pointer none, .int .i64 23]) ∧ Below w.heap.size w w' := by
  have hi1 : ¬ (most : Int) < 1 := by omega
  have hi2 : ¬ (1024 : Int) < most := by omega
  have HN := hid (NewRel.start w (most : Int) 2)
  go_enter Tryz.func41, Tryz.ntmps41
  go_wp2
  go_loopw [19] (fun i wr => i = .int .i64 0 ∧ wr = w.alloc (.cells #[.int .i64 (most : Int), .pointer none, .pointer none, .pointer none, .pointer none, .pointer none] 107)) (fun i _ => 0)
  case atStart => exact ⟨rfl, rfl⟩
  case round =>
    obtain ⟨rfl, rfl⟩ := hrel
    go_wp2_with fail
    refine (tree_new_bad _ o ho).mono ?_
    rintro e w' ⟨rfl, rfl⟩
    go_wp2
    go_ret2
    exact ⟨rfl, HN.out.below⟩
def NewEnd (w : World) (most o : Nat) (e : Ending) (w' : World) : Prop :=
  e = .returned (.tuple #[.pointer (some ⟨w.heap.size, 0, none⟩), .int .i64 0]) ∧ Below w.heap.size w w' ∧ ∃ p Q, Tab w' w.heap.size p Q most o [] ∧ (∀ i, i < 5 → w.heap.size < p i) ∧ ∀ b, Q b → w.heap.size < b
theorem tnew (w : World) (most o : Nat) (h1 : 1 ≤ most) (h2 : most ≤ 1024) (ho2 : 2 ≤ o) (ho16 : o ≤ 16) : Calls Tryz.prog 41 #[.int .i64 (most : Int), .int .i64 (o : Int)] w (NewEnd w most o) := by
  have hi1 : ¬ (most : Int) < 1 := by omega
  have hi2 : ¬ (1024 : Int) < most := by omega
  have HN := hid (NewRel.start w (most : Int) o)
  go_enter Tryz.func41, Tryz.ntmps41
  go_wp2
  go_loopw [19] (fun i wr => ∃ k : Nat, k ≤ 5 ∧ i = .int .i64 k ∧ NewRel w (most : Int) o k wr) (fun i _ => 5 - (intOf i).toNat)
  case atStart => exact ⟨0, by omega, rfl, HN.out⟩
  case round =>
    obtain ⟨k, hk, rfl, hrl⟩ := hrel
    have HR := hid hrl
    by_cases hlt : k < 5
    · have hlti : (k : Int) < 5 := by omega
      have hk0 : (0 : Int) ≤ (k : Int) := by omega
      clear hrl
      go_wp2_with fail
      refine (tree_new wr o ho2 ho16).mono ?_
      rintro e w' ⟨rfl, hb, hs, ht⟩
      have hc : w'.heap[w.heap.size]? = some (.cells (padT (most : Int) w.heap.size k) 107 (0, 0)) := (hb.block _ (by have := HR.out.size; omega)).trans HR.out.c
      have q0 : w'.cell? ⟨w.heap.size, 1 + k, none⟩ = some (.pointer none) := (cell_of_row _ _ _ _ _ _ hc).trans (padT_at _ _ hlt)
      have qf : w'.frozen? ⟨w.heap.size, 1 + k, none⟩ = false := by simp [World.frozen?, hc]
      have HS := hid (HR.out.step hlt hb hs ht)
      clear hb hs ht hc
      go_wp2
      go_roundw
      case rel => exact ⟨k + 1, by omega, by go_num, HS.out⟩
      case measure => simp [intOf]; omega
    · obtain rfl : k = 5 := by omega
      go_wp2
      go_ret2
      exact ⟨rfl, HR.out.below, _, _, HR.out.tab h2, fun i _ => by show w.heap.size < w.heap.size + 2 + 2 * i; omega, fun b hb => by obtain ⟨j, _, rfl⟩ := hb; omega⟩
end Go.Proofs.YtlnagdodnkhbmaaGreat

/- Calls, one by one, with a table and with the reference's. -/
namespace Go.Proofs.YtlnagdodnkhbmaaGreat
open Go.RowKit
set_option maxRecDepth 100000

/-- A call: what is asked, a key, a row. -/
structure Op7 where
  k : Int
  key : List Nat
  row : Ro
structure Op7.Ok (o : Op7) : Prop where
  key : Byt o.key
  row : o.row.ok
def cOp (o : Op7) : List Value := [.int .i64 o.k, .string (str o.key), .int .i64 o.row.a, .int .i64 o.row.b, .int .i64 o.row.c, .int .i64 o.row.d]
theorem cOp_len (o : Op7) : (cOp o).length = 6 := rfl
def opV (o : Op7) : Value := .agg #[.int .i64 o.k, .string (str o.key), .int .i64 o.row.a, .int .i64 o.row.b, .int .i64 o.row.c, .int .i64 o.row.d]
def OpAt (w : World) (b : Addr) (o : Op7) : Prop :=
  w.cell? b = some (.int .i64 o.k) ∧ w.cell? { block := b.block, off := b.off + 1, spot := none } = some (.string (str o.key)) ∧ w.cell? { block := b.block, off := b.off + 2, spot := none } = some (.int .i64 o.row.a) ∧
    w.cell? { block := b.block, off := b.off + 3, spot := none } = some (.int .i64 o.row.b) ∧ w.cell? { block := b.block, off := b.off + 4, spot := none } = some (.int .i64 o.row.c) ∧ w.cell? { block := b.block, off := b.off + 5, spot := none } = some (.int .i64 o.row.d)
theorem Elems.opAt {w : World} {A : Option Addr} {n cap i : Nat} {l : List Op7} {o : Op7} (h : Elems 6 cOp w (.slice A n cap) l) (hi : l[i]? = some o) : ∃ ad, A = some ad ∧ OpAt w (ad.add (i * 6)) o := by
  obtain ⟨ad, hA, h0⟩ := h.cell cOp_len hi (j := 0) rfl
  obtain ⟨ad1, hA1, h1⟩ := h.cell cOp_len hi (j := 1) rfl
  obtain ⟨ad2, hA2, h2⟩ := h.cell cOp_len hi (j := 2) rfl
  obtain ⟨ad3, hA3, h3⟩ := h.cell cOp_len hi (j := 3) rfl
  obtain ⟨ad4, hA4, h4⟩ := h.cell cOp_len hi (j := 4) rfl
  obtain ⟨ad5, hA5, h5⟩ := h.cell cOp_len hi (j := 5) rfl
  subst hA
  injection hA1 with hA1; injection hA2 with hA2; injection hA3 with hA3; injection hA4 with hA4; injection hA5 with hA5
  subst hA1; subst hA2; subst hA3; subst hA4; subst hA5
  rw [add_off ad _ 0] at h1
  rw [add_off ad _ 1] at h2
  rw [add_off ad _ 2] at h3
  rw [add_off ad _ 3] at h4
  rw [add_off ad _ 4] at h5
  exact ⟨ad, rfl, h0, h1, h2, h3, h4, h5⟩
theorem OpAt.below {w w' : World} {b : Addr} {o : Op7} (h : OpAt w b o) (hb : Below w.heap.size w w') : OpAt w' b o :=
  ⟨below_keep hb _ _ h.1, below_keep hb _ _ h.2.1, below_keep hb _ _ h.2.2.1, below_keep hb _ _ h.2.2.2.1, below_keep hb _ _ h.2.2.2.2.1, below_keep hb _ _ h.2.2.2.2.2⟩
theorem OpAt.chg {w w' : World} {b : Addr} {o : Op7} {F F' : List Nat} (h : OpAt w b o) (hc : Chg F w w' F') (hF : b.block ∉ F) : OpAt w' b o :=
  ⟨chg_cell hc h.1 hF, chg_cell hc h.2.1 hF, chg_cell hc h.2.2.1 hF, chg_cell hc h.2.2.2.1 hF, chg_cell hc h.2.2.2.2.1 hF, chg_cell hc h.2.2.2.2.2 hF⟩
theorem opAt_new (w : World) (o : Op7) : OpAt (w.alloc (.cells #[.int .i64 o.k, .string (str o.key), .int .i64 o.row.a, .int .i64 o.row.b, .int .i64 o.row.c, .int .i64 o.row.d] 43)) ⟨w.heap.size, 0, none⟩ o :=
  ⟨cell_of_row _ _ 0 _ _ _ (heap_alloc_new w _), cell_of_row _ _ 1 _ _ _ (heap_alloc_new w _), cell_of_row _ _ 2 _ _ _ (heap_alloc_new w _), cell_of_row _ _ 3 _ _ _ (heap_alloc_new w _), cell_of_row _ _ 4 _ _ _ (heap_alloc_new w _), cell_of_row _ _ 5 _ _ _ (heap_alloc_new w _)⟩
def stepK (most : Nat) (l : List KR) (o : Op7) : List KR := if o.k = 0 then kputN most l o.key o.row else if o.k = 1 then kdelN l o.key else l
theorem stepK_ok {l : List KR} (h : RowsOk l) (most : Nat) {o : Op7} (ho : o.Ok) : RowsOk (stepK most l o) := by
  unfold stepK
  split
  · exact h.kput most ho.key ho.row
  · split
    · exact h.kdel _
    · exact h
theorem stepK_len (most : Nat) (l : List KR) (o : Op7) : (stepK most l o).length ≤ l.length + 1 := by
  unfold stepK
  split
  · exact kputN_len _ _ _ _
  · split
    · have := kdelN_len l o.key; omega
    · omega
theorem stepK_most {most : Nat} {l : List KR} (h : l.length ≤ most) (o : Op7) : (stepK most l o).length ≤ most := by
  unfold stepK
  split
  · exact kputN_most h _ _
  · split
    · have := kdelN_len l o.key; omega
    · exact h
def runK (most : Nat) (l : List KR) (os : List Op7) : List KR := os.foldl (stepK most) l
theorem runK_take {os : List Op7} {i : Nat} {o : Op7} (most : Nat) (l : List KR) (h : os[i]? = some o) : runK most l (os.take (i + 1)) = stepK most (runK most l (os.take i)) o := by
  unfold runK
  rw [List.take_add_one, h, List.foldl_append]
  rfl

/-- A table and the reference's beside it: the same rows; nothing else has turned since W, and what turns lies behind W. -/
structure St (W w : World) (T : Nat) (p : Nat → Nat) (Q : Bl) (most o : Nat) (G : List Nat) (rp : Nat) (l : List KR) : Prop where
  t : Tab w T p Q most o l
  r : RTab w G rp most l
  n : ∀ i, i < 5 → p i ∉ G
  m : ¬ Q rp
  nT : rp ≠ T
  c : Chg [] W w (rp :: five p)
section
variable {W w w' : World} {T : Nat} {p : Nat → Nat} {Q : Bl} {most o : Nat} {G : List Nat} {rp : Nat} {l l' : List KR}
theorem St.ne (h : St W w T p Q most o G rp l) {i : Nat} (hi : i < 5) : p i ≠ rp := fun e => h.n i hi (e ▸ h.r.mem)
theorem St.fiveG (h : St W w T p Q most o G rp l) : ∀ b ∈ five p, b ∉ G := fun b hb => by
  obtain ⟨i, hi, rfl⟩ := mem_five.1 hb
  exact h.n i hi
theorem St.since (h : St W w T p Q most o G rp l) : Below W.heap.size W w := h.c.below (fun _ h => by cases h) (Nat.le_refl _)
theorem St.below_ (h : St W w T p Q most o G rp l) (hb : Below w.heap.size w w') : St W w' T p Q most o G rp l :=
  ⟨h.t.below hb, h.r.below hb, h.n, h.m, h.nT, h.c.step_below hb⟩
/-- Both sides were called, one behind the other. -/
theorem St.both {w1 : World} {u : Value} {e : Ending} (h : St W w T p Q most o G rp l) (h1 : Tab w1 T p (New Q w w1) most o l') (c1 : Chg (five p) w w1 (five p)) (h2 : REnd w1 G rp most l' u e w') : ∃ Q' G', St W w' T p Q' most o G' rp l' ∧ ∀ b, Q' b → Q b ∨ w.heap.size ≤ b := by
  obtain ⟨-, G', r2, c2, hG⟩ := h2
  have hrp := h.r.plt
  refine ⟨_, G', ⟨h1.chg c2 (by simp; exact fun e => h.nT e.symm) (fun i hi => by simpa using h.ne hi) (fun b hb => ?_), r2, fun i hi hm => ?_, ?_, h.nT, ?_⟩, fun b hb => hb.imp id fun h => h.1⟩
  · simp at hb; subst hb
    rintro (hh | hh)
    · exact h.m hh
    · omega
  · rcases hG _ hm with hh | hh
    · exact h.n i hi hh
    · have := c1.size; have := h.t.plt hi; omega
  · rintro (hh | hh)
    · exact h.m hh
    · omega
  · have c3 : Chg (rp :: five p) w w1 (rp :: five p) := c1.wide2 fun k hk => List.mem_cons_of_mem _ hk
    have c4 : Chg (rp :: five p) w1 w' (rp :: five p) := c2.wide2 fun k hk => by simp at hk; rw [hk]; exact List.mem_cons_self
    exact (h.c.trans c3).trans c4
theorem tput_raw (h : Tab w T p Q most o l) (k : List Nat) (hb : Byt k) (r : Ro) (hr : r.ok) :
    Calls Tryz.prog 23 #[.pointer (some ⟨T, 0, none⟩), .string (str k), .agg #[.int .i64 r.a, .int .i64 r.b, .int .i64 r.c, .int .i64 r.d]] w (PutEnd w T p Q most o (kputN most l k r) (kgetR l k) (kputW l k) (kputE most l k)) := tput h k hb r hr
theorem rput_raw (hR : RTab w G rp most l) (hl : KByt l) (k : List Nat) (hb : Byt k) (hsz : l.length ≤ 1024) (r : Ro) :
    Calls Tryz.prog 36 #[.pointer (some ⟨rp, 0, none⟩), .string (str k), .agg #[.int .i64 r.a, .int .i64 r.b, .int .i64 r.c, .int .i64 r.d]] w (REnd w G rp most (kputN most l k r) (.tuple #[rowv (kgetR l k), .bool (kputW l k), .int .i64 (kputE most l k)])) := rput hR hl k hb hsz r
theorem rend_from {w0 : World} {u : Value} {e : Ending} (hb : Below w0.heap.size w0 w) (h : REnd w G rp most l u e w') : REnd w0 G rp most l u e w' := by
  obtain ⟨he, F', h1, h2, h3⟩ := h
  refine ⟨he, F', h1, (Chg.of_below hb).trans h2, fun b hm => ?_⟩
  rcases h3 b hm with hh | hh
  · exact .inl hh
  · exact .inr (Nat.le_trans hb.size hh)
/-- Behind a call of both. -/
def Both (W : World) (T : Nat) (p : Nat → Nat) (most o rp : Nat) (l : List KR) (e : Ending) (w' : World) : Prop :=
  e = .returned (.bool true) ∧ ∃ Q' G', St W w' T p Q' most o G' rp l
/-- The same, with where the nodes lie: they lay there, or are new. -/
def BothQ (W w : World) (Q : Bl) (T : Nat) (p : Nat → Nat) (most o rp : Nat) (l : List KR) (e : Ending) (w' : World) : Prop :=
  e = .returned (.bool true) ∧ ∃ Q' G', St W w' T p Q' most o G' rp l ∧ ∀ b, Q' b → Q b ∨ w.heap.size ≤ b
theorem does_put (h : St W w T p Q most o G rp l) (kx : List Nat) (r : Ro) (hkb : Byt kx) (hr : r.ok) :
    Calls Tryz.prog 34 #[.pointer (some ⟨T, 0, none⟩), .pointer (some ⟨rp, 0, none⟩), opV ⟨0, kx, r⟩] w (BothQ W w Q T p most o rp (kputN most l kx r)) := by
  have hba : Below w.heap.size w (w.alloc (.cells #[.int .i64 0, .string (str kx), .int .i64 r.a, .int .i64 r.b, .int .i64 r.c, .int .i64 r.d] 43)) := (Below.refl _ w).alloc (Nat.le_refl _) _
  have HBA := hid hba
  have HST := hid (h.below_ hba)
  have HO := hid (opAt_new w ⟨0, kx, r⟩)
  have HWF : Hid (∀ i, i < 5 → p i < w.heap.size) := fun i hi => h.t.plt hi
  have HBF : Hid (w.heap.size ∉ five p) := fun hm => by have := h.t.flt _ hm; omega
  have HLE : Hid (l.length ≤ 1024) := h.t.le
  have HKB := hid h.t.rows.kbyt
  obtain ⟨A, HA⟩ : ∃ A, Hid (A = kgetR l kx) := ⟨_, rfl⟩
  have heq := eq_rows A A
  rw [decide_eq_true rfl] at heq
  obtain ⟨hc0, hc1, hc2, hc3, hc4, hc5⟩ := HO.out
  dsimp only at hc0 hc1 hc2 hc3 hc4 hc5
  clear hba h
  unfold opV
  go_enter Tryz.func34, Tryz.ntmps34
  obtain ⟨B, HB⟩ : ∃ B, Hid (B = kputW l kx) := ⟨_, rfl⟩
  obtain ⟨E, HE⟩ : ∃ E, Hid (E = kputE most l kx) := ⟨_, rfl⟩
  go_wp2_with fail
  refine (tput_raw HST.out.t kx hkb r hr).mono ?_
  rw [← HA.out, ← HB.out, ← HE.out]
  rintro e w1 ⟨rfl, ht1, cg1⟩
  have HT1 := hid ht1
  have HC1 := hid cg1
  have HR1 := hid (HST.out.r.chg cg1 HST.out.fiveG)
  have HO1 := hid ((HO.out.chg cg1 HBF.out))
  clear hc0 hc1 hc2 hc3 hc4 hc5 ht1 cg1
  have HBB : Hid (Below w1.heap.size w1 (w1.alloc (.cells (rowc A) 41))) := (Below.refl _ _).alloc (Nat.le_refl _) _
  have HL1 := hid (Lies.new w1 A)
  dsimp only [rowv, rowc] at HBB HL1 ⊢
  obtain ⟨hc0, hc1, hc2, hc3, hc4, hc5⟩ := HO1.out.below HBB.out
  dsimp only at hc0 hc1 hc2 hc3 hc4 hc5
  go_wp2_with fail
  refine (rput_raw (HR1.out.below HBB.out) HKB.out kx hkb HLE.out r).mono ?_
  rw [← HA.out, ← HB.out, ← HE.out]
  intro e w2 hr2
  have HR2 := hid hr2
  obtain ⟨rfl, -, -, cg2, -⟩ := hr2
  have HST1 := hid (HST.out.both HT1.out HC1.out (rend_from HBB.out HR2.out))
  have HL2 : Hid (Lies w2 w1.heap.size A) := HL1.out.keep (cg2.block _ HL1.out.lt (by have := HR1.out.plt; simp; omega))
  clear hc0 hc1 hc2 hc3 hc4 hc5 cg2
  dsimp only [rowv, rowc]
  obtain ⟨y0, y1, y2, y3⟩ := (HL2.out.below ((Below.refl _ _).alloc (Nat.le_refl _) (.cells (rowc A) 41))).four
  obtain ⟨z0, z1, z2, z3⟩ := (Lies.new w2 A).four
  dsimp only [rowc] at y0 y1 y2 y3 z0 z1 z2 z3
  go_wp2
  go_ret
  obtain ⟨Q', G', h, hq⟩ := HST1.out
  exact ⟨rfl, Q', G', h.below_ ((Below.refl _ _).alloc (Nat.le_refl _) _), fun b hb => (hq b hb).imp id fun h => by simp at h; omega⟩
theorem does_del (h : St W w T p Q most o G rp l) (kx : List Nat) (r : Ro) (hkb : Byt kx) (_hr : r.ok) :
    Calls Tryz.prog 34 #[.pointer (some ⟨T, 0, none⟩), .pointer (some ⟨rp, 0, none⟩), opV ⟨1, kx, r⟩] w (BothQ W w Q T p most o rp (kdelN l kx)) := by
  have hba : Below w.heap.size w (w.alloc (.cells #[.int .i64 1, .string (str kx), .int .i64 r.a, .int .i64 r.b, .int .i64 r.c, .int .i64 r.d] 43)) := (Below.refl _ w).alloc (Nat.le_refl _) _
  have HBA := hid hba
  have HST := hid (h.below_ hba)
  have HO := hid (opAt_new w ⟨1, kx, r⟩)
  have HWF : Hid (∀ i, i < 5 → p i < w.heap.size) := fun i hi => h.t.plt hi
  have HBF : Hid (w.heap.size ∉ five p) := fun hm => by have := h.t.flt _ hm; omega
  have HLE : Hid (l.length ≤ 1024) := h.t.le
  have HKB := hid h.t.rows.kbyt
  obtain ⟨A, HA⟩ : ∃ A, Hid (A = kgetR l kx) := ⟨_, rfl⟩
  have heq := eq_rows A A
  rw [decide_eq_true rfl] at heq
  obtain ⟨hc0, hc1, hc2, hc3, hc4, hc5⟩ := HO.out
  dsimp only at hc0 hc1 hc2 hc3 hc4 hc5
  clear hba h
  unfold opV
  go_enter Tryz.func34, Tryz.ntmps34
  obtain ⟨E, HE⟩ : ∃ E, Hid (E = kgetE l kx) := ⟨_, rfl⟩
  go_wp2_with fail
  refine (tdel HST.out.t kx hkb).mono ?_
  rw [← HA.out, ← HE.out]
  rintro e w1 ⟨rfl, ht1, cg1⟩
  have HT1 := hid ht1
  have HC1 := hid cg1
  have HR1 := hid (HST.out.r.chg cg1 HST.out.fiveG)
  have HO1 := hid ((HO.out.chg cg1 HBF.out))
  clear hc0 hc1 hc2 hc3 hc4 hc5 ht1 cg1
  have HBB : Hid (Below w1.heap.size w1 (w1.alloc (.cells (rowc A) 41))) := (Below.refl _ _).alloc (Nat.le_refl _) _
  have HL1 := hid (Lies.new w1 A)
  dsimp only [rowv, rowc] at HBB HL1 ⊢
  obtain ⟨hc0, hc1, hc2, hc3, hc4, hc5⟩ := HO1.out.below HBB.out
  dsimp only at hc0 hc1 hc2 hc3 hc4 hc5
  go_wp2_with fail
  refine (rdel (HR1.out.below HBB.out) HKB.out kx hkb HLE.out).mono ?_
  rw [← HA.out, ← HE.out]
  intro e w2 hr2
  have HR2 := hid hr2
  obtain ⟨rfl, -, -, cg2, -⟩ := hr2
  have HST1 := hid (HST.out.both HT1.out HC1.out (rend_from HBB.out HR2.out))
  have HL2 : Hid (Lies w2 w1.heap.size A) := HL1.out.keep (cg2.block _ HL1.out.lt (by have := HR1.out.plt; simp; omega))
  clear hc0 hc1 hc2 hc3 hc4 hc5 cg2
  dsimp only [rowv, rowc]
  obtain ⟨y0, y1, y2, y3⟩ := (HL2.out.below ((Below.refl _ _).alloc (Nat.le_refl _) (.cells (rowc A) 41))).four
  obtain ⟨z0, z1, z2, z3⟩ := (Lies.new w2 A).four
  dsimp only [rowc] at y0 y1 y2 y3 z0 z1 z2 z3
  go_wp2
  go_ret
  obtain ⟨Q', G', h, hq⟩ := HST1.out
  exact ⟨rfl, Q', G', h.below_ ((Below.refl _ _).alloc (Nat.le_refl _) _), fun b hb => (hq b hb).imp id fun h => by simp at h; omega⟩
theorem does_get (h : St W w T p Q most o G rp l) (kk : Int) (h0 : ¬ kk = 0) (h1 : ¬ kk = 1) (kx : List Nat) (r : Ro) (hkb : Byt kx) (_hr : r.ok) :
    Calls Tryz.prog 34 #[.pointer (some ⟨T, 0, none⟩), .pointer (some ⟨rp, 0, none⟩), opV ⟨kk, kx, r⟩] w (BothQ W w Q T p most o rp l) := by
  have hba : Below w.heap.size w (w.alloc (.cells #[.int .i64 kk, .string (str kx), .int .i64 r.a, .int .i64 r.b, .int .i64 r.c, .int .i64 r.d] 43)) := (Below.refl _ w).alloc (Nat.le_refl _) _
  have HBA := hid hba
  have HST := hid (h.below_ hba)
  have HO := hid (opAt_new w ⟨kk, kx, r⟩)
  have HWF : Hid (∀ i, i < 5 → p i < w.heap.size) := fun i hi => h.t.plt hi
  have HBF : Hid (w.heap.size ∉ five p) := fun hm => by have := h.t.flt _ hm; omega
  have HLE : Hid (l.length ≤ 1024) := h.t.le
  have HKB := hid h.t.rows.kbyt
  obtain ⟨A, HA⟩ : ∃ A, Hid (A = kgetR l kx) := ⟨_, rfl⟩
  have heq := eq_rows A A
  rw [decide_eq_true rfl] at heq
  obtain ⟨hc0, hc1, hc2, hc3, hc4, hc5⟩ := HO.out
  dsimp only at hc0 hc1 hc2 hc3 hc4 hc5
  clear hba h
  unfold opV
  go_enter Tryz.func34, Tryz.ntmps34
  obtain ⟨E, HE⟩ : ∃ E, Hid (E = kgetE l kx) := ⟨_, rfl⟩
  go_wp2_with fail
  refine (tget HST.out.t kx hkb).mono ?_
  rw [← HA.out, ← HE.out]
  rintro e w1 ⟨rfl, hb1⟩
  have HB1 := hid hb1
  have HO1 := hid (HO.out.below hb1)
  clear hc0 hc1 hc2 hc3 hc4 hc5 hb1
  have HBB : Hid (Below w1.heap.size w1 (w1.alloc (.cells (rowc A) 41))) := (Below.refl _ _).alloc (Nat.le_refl _) _
  have HL1 := hid (Lies.new w1 A)
  dsimp only [rowv, rowc] at HBB HL1 ⊢
  obtain ⟨hc0, hc1, hc2, hc3, hc4, hc5⟩ := HO1.out.below HBB.out
  dsimp only at hc0 hc1 hc2 hc3 hc4 hc5
  go_wp2_with fail
  refine (rget ((HST.out.r.below HB1.out).below HBB.out) HKB.out kx hkb).mono ?_
  rw [← HA.out, ← HE.out]
  rintro e w2 ⟨rfl, hb2⟩
  have HB2 := hid hb2
  have HL2 := hid (HL1.out.below hb2)
  clear hc0 hc1 hc2 hc3 hc4 hc5 hb2
  dsimp only [rowv, rowc]
  obtain ⟨y0, y1, y2, y3⟩ := (HL2.out.below ((Below.refl _ _).alloc (Nat.le_refl _) (.cells (rowc A) 41))).four
  obtain ⟨z0, z1, z2, z3⟩ := (Lies.new w2 A).four
  dsimp only [rowc] at y0 y1 y2 y3 z0 z1 z2 z3
  go_wp2
  go_ret
  exact ⟨rfl, Q, G, (((HST.out.below_ HB1.out).below_ HBB.out).below_ HB2.out).below_ ((Below.refl _ _).alloc (Nat.le_refl _) _), fun b hb => .inl hb⟩
theorem doesQ_any (h : St W w T p Q most o G rp l) (op : Op7) (ho : op.Ok) :
    Calls Tryz.prog 34 #[.pointer (some ⟨T, 0, none⟩), .pointer (some ⟨rp, 0, none⟩), opV op] w (BothQ W w Q T p most o rp (stepK most l op)) := by
  obtain ⟨kk, kx, r⟩ := op
  unfold stepK
  by_cases h0 : kk = 0
  · rw [if_pos h0]; subst h0; exact does_put h kx r ho.key ho.row
  · rw [if_neg h0]
    by_cases h1 : kk = 1
    · rw [if_pos h1]; subst h1; exact does_del h kx r ho.key ho.row
    · rw [if_neg h1]; exact does_get h kk h0 h1 kx r ho.key ho.row
theorem does_any (h : St W w T p Q most o G rp l) (op : Op7) (ho : op.Ok) :
    Calls Tryz.prog 34 #[.pointer (some ⟨T, 0, none⟩), .pointer (some ⟨rp, 0, none⟩), opV op] w (Both W T p most o rp (stepK most l op)) :=
  (doesQ_any h op ho).mono fun _ _ h => ⟨h.1, let ⟨Q', G', h', _⟩ := h.2; ⟨Q', G', h'⟩⟩
end
end Go.Proofs.YtlnagdodnkhbmaaGreat

/- Right, Few, Made. -/
namespace Go.Proofs.YtlnagdodnkhbmaaGreat
open Go.RowKit
set_option maxRecDepth 100000

def few7 (l : List Op7) : Bool := decide ((∀ o ∈ l, o.key.length ≤ 100) ∧ l.length ≤ 100)
theorem few7_no {l : List Op7} {k : Nat} {o : Op7} (ho : l[k]? = some o) (h : 100 < o.key.length) : few7 l = false := by
  unfold few7
  rw [decide_eq_false_iff_not]
  intro hh
  have := hh.1 o (List.mem_of_getElem? ho)
  omega
theorem few7_end {l : List Op7} {len : Nat} (hl : len = l.length) (h : ∀ j o, j < len → l[j]? = some o → o.key.length ≤ 100) : few7 l = decide ((len : Int) ≤ 100) := by
  unfold few7
  rw [decide_eq_decide]
  constructor
  · intro hh; have := hh.2; omega
  · intro hh
    refine ⟨fun o ho => ?_, by omega⟩
    obtain ⟨i, hi⟩ := List.getElem?_of_mem ho
    exact h i o (by have := (List.getElem?_eq_some_iff.1 hi).1; omega) hi
theorem few7_any (w : World) (v : Value) (l : List Op7) (hr : Elems 6 cOp w v l) : Calls Tryz.prog 33 #[v] w fun e w' => e = .returned (.bool (few7 l)) ∧ w = w' := by
  obtain ⟨A, cap, rfl⟩ := hr.slice
  obtain ⟨len, HL⟩ : ∃ len, Hid (len = l.length) := ⟨_, rfl⟩
  have hcap := hr.cap
  have HR := hid hr
  have hm' : l.length ≤ 9223372036854775807 := by unfold maxLen at hcap; omega
  rw [← HL.out] at hm' HR ⊢
  clear hr hcap
  go_enter Tryz.func33, Tryz.ntmps33
  go_wp2
  go_loop [3] (fun i => ∃ k : Nat, k ≤ len ∧ i = .int .i64 k ∧ Hid (∀ j o, j < k → l[j]? = some o → o.key.length ≤ 100)) (fun i => len - (intOf i).toNat)
  case atStart => exact ⟨0, by omega, rfl, fun j o h => by omega⟩
  case round =>
    obtain ⟨k, hk, rfl, HO⟩ := hrel
    by_cases hlt : k < len
    · have hlti : (k : Int) < len := by omega
      obtain ⟨o, ho⟩ : ∃ b, l[k]? = some b := ⟨l[k]'(by have := HL.out; omega), List.getElem?_eq_getElem _⟩
      obtain ⟨ad, rfl, hc0, hc1, _⟩ := HR.out.opAt ho
      have HO' := hid ho
      have hs1 := str_size o.key
      clear ho
      by_cases h1 : 100 < o.key.length
      · have h1i : (100 : Int) < o.key.length := by omega
        go_wp2
        go_ret
        exact ⟨ret_bool (few7_no HO'.out h1).symm, rfl⟩
      · have h1i : (o.key.length : Int) ≤ 100 := by omega
        have HN : Hid (∀ j o, j < k + 1 → l[j]? = some o → o.key.length ≤ 100) := fun j o' hj ho' => by
          rcases Nat.lt_or_ge j k with h | h
          · exact HO.out j o' h ho'
          · obtain rfl : j = k := by omega
            have := HO'.out
            rw [ho'] at this
            injection this with this
            subst this
            omega
        go_wp2
        go_round
        case rel => exact ⟨k + 1, by omega, by go_num, HN⟩
        case measure => simp [intOf]; omega
    · obtain rfl : k = len := by omega
      go_wp2
      go_ret
      exact ⟨ret_bool (few7_end HL.out HO.out).symm, rfl⟩
theorem few7_yes {os : List Op7} (h : few7 os = true) : (∀ o ∈ os, o.key.length ≤ 100) ∧ os.length ≤ 100 := by
  unfold few7 at h; exact of_decide_eq_true h
def rightB (n : Int) : Bool := decide (1 ≤ n ∧ n ≤ 1024)
theorem right_any (w : World) (n : Int) : Calls Tryz.prog 9 #[.int .i64 n] w fun e w' => e = .returned (.bool (rightB n)) ∧ w' = w := by
  unfold rightB
  by_cases h1 : 1 ≤ n
  · by_cases h2 : n ≤ 1024
    · rw [decide_eq_true ⟨h1, h2⟩]
      go_enter Tryz.func9, Tryz.ntmps9
      go_wp2
      go_ret
      exact ⟨rfl, rfl⟩
    · rw [decide_eq_false (fun h => h2 h.2)]
      go_enter Tryz.func9, Tryz.ntmps9
      go_wp2
      go_ret
      exact ⟨rfl, rfl⟩
  · rw [decide_eq_false (fun h => h1 h.1)]
    go_enter Tryz.func9, Tryz.ntmps9
    go_wp2
    go_ret
    exact ⟨rfl, rfl⟩
structure OpsOk (os : List Op7) : Prop where
  ok : ∀ o ∈ os, o.Ok
/-- A new reference's table beside a new table. -/
theorem st_new {w w1 : World} {p : Nat → Nat} {Q : Bl} {most o : Nat} (ht : Tab w1 w.heap.size p Q most o []) (hb : Below w.heap.size w w1) (hp : ∀ i, i < 5 → w.heap.size < p i) :
    St w (w1.alloc (.cells #[.slice none 0 0, .int .i64 (most : Int)] 47)) w.heap.size p Q most o [w1.heap.size] w1.heap.size [] := by
  have hbn : Below w1.heap.size w1 (w1.alloc (.cells #[.slice none 0 0, .int .i64 (most : Int)] 47)) := (Below.refl _ _).alloc (Nat.le_refl _) _
  have hs := hb.size
  have hT := ht.lt
  refine ⟨ht.below hbn, ⟨.slice none 0 0, heap_alloc_new w1 _, Elems.nil 5 cQ _, by simp [ownFoot, Value.ownBlock], by simp [ownFoot, Value.ownBlock], by simp [ownFoot, Value.ownBlock]⟩, fun i hi hm => ?_, fun hQ => ?_, by omega, ?_⟩
  · simp at hm
    have := ht.plt hi; omega
  · have := ht.under _ hQ; omega
  · exact ((Chg.of_below (F := []) hb).step_below hbn).less fun k hk => by
      rcases List.mem_cons.1 hk with rfl | hk
      · exact .inr hs
      · obtain ⟨i, hi, rfl⟩ := mem_five.1 hk
        exact .inr (Nat.le_of_lt (hp i hi))
def MadeEnd (w : World) (most : Nat) (os : List Op7) (e : Ending) (w' : World) : Prop :=
  ∃ p Q G rp, e = .returned (.tuple #[.pointer (some ⟨w.heap.size, 0, none⟩), .pointer (some ⟨rp, 0, none⟩)]) ∧ St w w' w.heap.size p Q most 2 G rp (runK most [] os)
/-- The same, and its nodes are new. -/
def MadeEndQ (w : World) (most : Nat) (os : List Op7) (e : Ending) (w' : World) : Prop :=
  ∃ p Q G rp, e = .returned (.tuple #[.pointer (some ⟨w.heap.size, 0, none⟩), .pointer (some ⟨rp, 0, none⟩)]) ∧ St w w' w.heap.size p Q most 2 G rp (runK most [] os) ∧ ∀ b, Q b → w.heap.size ≤ b
theorem tnew2 (w : World) (most : Nat) (h1 : 1 ≤ most) (h2 : most ≤ 1024) : Calls Tryz.prog 41 #[.int .i64 (most : Int), .int .i64 2] w (NewEnd w most 2) := tnew w most 2 h1 h2 (by omega) (by omega)
set_option maxHeartbeats 1000000 in
theorem madeQ_any (w : World) (most : Nat) (h1 : 1 ≤ most) (h2 : most ≤ 1024) (v : Value) (os : List Op7) (hv : Elems 6 cOp w v os) (hos : OpsOk os) : Calls Tryz.prog 12 #[.int .i64 (most : Int), v] w (MadeEndQ w most os) := by
  obtain ⟨A, cap, rfl⟩ := hv.slice
  obtain ⟨len, HLEN⟩ : ∃ len, Hid (len = os.length) := ⟨_, rfl⟩
  have hcap := hv.cap
  have hm' : os.length ≤ 9223372036854775807 := by unfold maxLen at hcap; omega
  have HV := hid hv
  have HOS := hid hos
  rw [← HLEN.out] at HV hm' ⊢
  clear hv hos hcap
  go_enter Tryz.func12, Tryz.ntmps12
  go_wp2_with fail
  refine (tnew2 w most h1 h2).mono ?_
  rintro e w1 ⟨rfl, hb1, p, Q, ht, hp, hQ⟩
  have HST := hid (st_new ht hb1 hp)
  obtain ⟨wa, HWA⟩ : ∃ wa, Hid (wa = w1.alloc (.cells #[.slice none 0 0, .int .i64 (most : Int)] 47)) := ⟨_, rfl⟩
  rw [← HWA.out] at HST
  have HQN : Hid (∀ b, Q b → w.heap.size ≤ b) := fun b hb => Nat.le_of_lt (hQ b hb)
  clear hb1 ht hp hQ
  go_wp2
  rw [← HWA.out]
  go_loopw [9] (fun i wr => ∃ k : Nat, k ≤ len ∧ i = .int .i64 k ∧ ∃ Q G, St w wr w.heap.size p Q most 2 G w1.heap.size (runK most [] (os.take k)) ∧ ∀ b, Q b → w.heap.size ≤ b) (fun i _ => len - (intOf i).toNat)
  case atStart => exact ⟨0, by omega, rfl, Q, _, HST.out, HQN.out⟩
  case round =>
    obtain ⟨k, hk, rfl, Q', G', hst, hqn⟩ := hrel
    have HS := hid hst
    have HQ' := hid hqn
    clear hqn
    by_cases hlt : k < len
    · have hlti : (k : Int) < len := by omega
      obtain ⟨op, hop⟩ : ∃ op, os[k]? = some op := ⟨os[k]'(by have := HLEN.out; omega), List.getElem?_eq_getElem _⟩
      obtain ⟨ad, rfl, hat⟩ := (HV.out.below hst.since).opAt hop
      obtain ⟨hc0, hc1, hc2, hc3, hc4, hc5⟩ := hat
      have HN := hid (runK_take most [] hop)
      have HOK := hid (HOS.out.ok op (List.mem_of_getElem? hop))
      clear hst hop
      go_wp2_with fail
      refine (doesQ_any HS.out op HOK.out).mono ?_
      rw [← HN.out]
      rintro e w2 ⟨rfl, Q2, G2, hst2, hq2⟩
      have HST2 := hid hst2
      have HQ2 : Hid (∀ b, Q2 b → w.heap.size ≤ b) := fun b hb => by
        rcases hq2 b hb with h | h
        · exact HQ'.out b h
        · exact Nat.le_trans HS.out.since.size h
      clear hst2 hq2 hc0 hc1 hc2 hc3 hc4 hc5
      go_wp2
      go_roundw
      case rel => exact ⟨k + 1, by omega, by go_num, Q2, G2, HST2.out, HQ2.out⟩
      case measure => simp [intOf]; omega
    · obtain rfl : k = len := by omega
      have hall : os.take k = os := List.take_of_length_le (by have := HLEN.out; omega)
      rw [hall] at HS
      clear hst hall
      go_wp2
      go_ret2
      exact ⟨p, Q', G', _, rfl, HS.out, HQ'.out⟩
theorem made_any (w : World) (most : Nat) (h1 : 1 ≤ most) (h2 : most ≤ 1024) (v : Value) (os : List Op7) (hv : Elems 6 cOp w v os) (hos : OpsOk os) : Calls Tryz.prog 12 #[.int .i64 (most : Int), v] w (MadeEnd w most os) :=
  (madeQ_any w most h1 h2 v os hv hos).mono fun _ _ h => let ⟨p, Q, G, rp, he, hs, _⟩ := h; ⟨p, Q, G, rp, he, hs⟩
end Go.Proofs.YtlnagdodnkhbmaaGreat
