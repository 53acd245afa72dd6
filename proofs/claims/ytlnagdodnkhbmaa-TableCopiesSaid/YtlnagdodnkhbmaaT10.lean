/- A table: All. -/
import Derived.Test.YtlnagdodnkhbmaaT6
namespace Go.Proofs.Ytlnagdodnkhbmaa
open Go.RowKit Go.Shelf
set_option maxRecDepth 100000
attribute [local go_sem] Oper.semAt_some

def encK (q : KR) : Array Value := #[.string (str q.1), rowv q.2]
/-- Between two rounds of the range over the lines. -/
def IA2 (J : List KR → Bl → World → Prop) (l : List KR) (K0 : Bl) (W2 : World) (s : List Pr) (Kx : Bl) (X : World) : Prop :=
  ∃ Kb : Bl, (∀ b, Kx b → Kb b) ∧ (∀ b, K0 b → Kb b) ∧ (∀ b, Kb b → b < X.heap.size) ∧ J (l.take s.length) Kb X ∧ Stay K0 W2 X
theorem ia2_abide {J : List KR → Bl → World → Prop} {B0 : Nat} (hJ : Abide B0 J) (l : List KR) {K0 : Bl} {W2 : World} (hB : B0 ≤ W2.heap.size) (hlt : ∀ b, K0 b → b < W2.heap.size) : Abide W2.heap.size (IA2 J l K0 W2) := by
  rintro s K A A' row ⟨Kb, h1, h2, h3, h4, h5⟩ hg hr K' hK'
  refine ⟨fun b => Kb b ∨ (A.heap.size ≤ b ∧ b < A'.heap.size), fun b hb => (hK' b hb).imp (h1 b) id, fun b hb => .inl (h2 b hb), fun b hb => ?_, hJ _ _ _ _ row h4 hg (fun r e => ⟨Nat.le_trans hB (hr r e).1, h1 r (hr r e).2⟩) _ (fun b hb => hb), h5.trans (Stay.grown hg (fun b hb => Nat.lt_of_lt_of_le (hlt b hb) h5.1) fun r e hk => ?_)⟩
  · rcases hb with hb | hb
    · exact Nat.lt_of_lt_of_le (h3 b hb) hg.size
    · exact hb.2
  · have h6 := (hr r e).1
    have h7 := hlt r hk
    omega
theorem grown_below {w w' : World} (hb : Below w.heap.size w w') : w.grownBy w' none := ⟨hb.os, hb.tape, hb.output, hb.size, fun k hk _ => hb.block k hk⟩
theorem lines_pre {l : List KR} {pre : List Pr} {x : Pr} (h : pre ++ [x] <+: lines l) : ∃ q, l[pre.length]? = some q ∧ x = line q := by
  obtain ⟨t, ht⟩ := h
  have h1 : (lines l)[pre.length]? = some x := by
    rw [← ht, List.append_assoc, List.getElem?_append_right (Nat.le_refl _)]
    simp
  rw [lines_at] at h1
  cases hq : l[pre.length]? with
  | none => rw [hq] at h1; cases h1
  | some q => rw [hq] at h1; cases h1; exact ⟨q, rfl, rfl⟩

set_option maxHeartbeats 4000000 in
theorem tall_gives (w : World) (Bn gf : Nat) (lb : Array Value) (G : Bl) (l : List KR) (hcell : w.cell? ⟨Bn, 0, none⟩ = some (.func (.func gf) #[] lb)) (hen : ∀ args w, (callFunc gf args).run Try.prog w = .ok (.enter gf args) w)
    (hg : Gives Try.prog gf lb encP (lines l) G w) (hl : RowsOk l) : Gives Try.prog 51 #[.pointer (some ⟨Bn, 0, none⟩)] encK l (fun b => b = Bn ∨ G b) w := by
  intro n ly J Jx K W hW hGK hKW hJ hJx hY h0
  have HCELL : Hid (∀ W', Stay K W W' → W'.cell? ⟨Bn, 0, none⟩ = some (.func (.func gf) #[] lb)) := fun W' hs => by
    have h1 : Stay (fun b => b = Bn ∨ G b) w W' := hW.trans (hs.less hGK)
    exact (h1.cell (a := ⟨Bn, 0, none⟩) (.inl rfl)).trans hcell
  obtain ⟨By, HBY⟩ : ∃ By, Hid (By = W.heap.size) := ⟨_, rfl⟩
  obtain ⟨W1, HW1⟩ : ∃ W1, Hid (W1 = W.alloc (.cells #[.func (.yield ly) #[] #[]] 76)) := ⟨_, rfl⟩
  have HST1 : Hid (Stay K W W1) := by rw [HW1.out]; exact Stay.grown (World.grownBy_alloc W _ none) hKW (fun _ e => by cases e)
  have HY1 : Hid (W1.heap[By]? = some (.cells #[.func (.yield ly) #[] #[]] 76 (0, 0))) := by rw [HW1.out, HBY.out]; exact heap_alloc_new W _
  have HS1 : Hid (W1.heap.size = W.heap.size + 1) := by show _ = _; rw [HW1.out]; simp
  have HY := hid hY
  have HJ := hid hJ
  have HJx := hid hJx
  have HKW := hid hKW
  have HGK := hid hGK
  have HGV := hid hg
  have HGW : Hid (Stay G w W1) := (hW.less fun b hb => .inr hb).trans (HST1.out.less fun b hb => hGK b (.inr hb))
  have HLR := hid hl
  have HJ1 : Hid (J [] (fun b => K b ∨ b = By) W1) := by
    have h := Abide.alloc hJ h0 (.cells #[.func (.yield ly) #[] #[]] 76)
    rw [← HW1.out, ← HBY.out] at h
    exact h
  have HK0 : Hid (∀ b, (K b ∨ b = By) → b < W1.heap.size) := fun b hb => by
    have h1 := HS1.out
    rcases hb with hb | hb
    · have := hKW b hb; omega
    · have := HBY.out; omega
  have HAB := hid (ia2_abide (K0 := fun b => K b ∨ b = By) (W2 := W1) hJ l (by have := HS1.out; omega) HK0.out)
  have HAX := hid (ia2_abide (K0 := fun b => K b ∨ b = By) (W2 := W1) hJx l (by have := HS1.out; omega) HK0.out)
  have c1 := HCELL.out W1 HST1.out
  rw [HW1.out] at c1
  clear hY hJ hJx h0 hKW hg hW hGK hcell hl
  refine callsIn_of_wp_marks Try.func51 rfl trivial ?_ rfl
  simp only [Try.ntmps51, List.size_toArray, List.length_cons, List.length_nil, Nat.reduceAdd, Nat.reduceSub, Array.replicate_succ, Array.replicate_zero, List.push_toArray, List.append_toArray, List.nil_append, List.cons_append]
  gi_wp2
  rw [← HW1.out, ← HBY.out]
  clear c1
  have HEND : Hid (∀ (D : Nat) (Kb : Bl) (W' : World) (fnn : Func) (tmps : Array Value), fnn = Try.f51 → (J l Kb W' ∨ ∃ pre, pre <+: l ∧ Jx pre Kb W') → (∀ b, K b → Kb b) → Kb D → Shut W' D → W.heap.size ≤ D →
      LeavesInM Fence.wide n Try.prog fnn tmps (fun e W' => (∃ v, e = .returned v) ∧ (J l K W' ∨ ∃ pre, pre <+: l ∧ Jx pre K W')) [mark D] .returning W') := by
    rintro D Kb W' fnn tmps rfl hpos hmore hKD hsh hD
    refine leaves_keep (fun X => J l Kb X ∨ ∃ pre, pre <+: l ∧ Jx pre Kb X) [D] W' (by simp) (fun E hE => by simp at hE; subst hE; exact hsh) hpos (fun E hE X hX => ?_) fun X hX => ?_
    · simp at hE; subst hE
      rcases hX with hX | ⟨pre, e, hX⟩
      · exact .inl (HJ.out _ _ _ _ (some E) hX (putObj_grown X E _) (fun r e => by injection e with e; subst e; exact ⟨hD, hKD⟩) _ fun b h => .inl h)
      · exact .inr ⟨pre, e, HJx.out _ _ _ _ (some E) hX (putObj_grown X E _) (fun r e => by injection e with e; subst e; exact ⟨hD, hKD⟩) _ fun b h => .inl h⟩
    · refine ⟨_, results_none rfl _ _ _, ⟨_, rfl⟩, ?_⟩
      rcases hX with hX | ⟨pre, e, hX⟩
      · exact .inl (HJ.out.less hX hmore)
      · exact .inr ⟨pre, e, HJx.out.less hX hmore⟩
  refine range_own (gf := gf) (lb := lb) rfl hen HGV.out HGW.out (fun _ => rfl)
    (IA2 J l (fun b => K b ∨ b = By) W1) (fun cd s Kx X => cd = .ret ∧ IA2 Jx l (fun b => K b ∨ b = By) W1 s Kx X) HAB.out (fun cd s K A A' row hi hg hr K' hK' => ⟨hi.1, HAX.out s K A A' row hi.2 hg hr K' hK'⟩)
    (fun b => K b ∨ b = By) (fun b hb => .inl (HGK.out b (.inr hb))) HK0.out ?start2 ?round2 ?done2 ?stop2
  case start2 => exact ⟨fun b => K b ∨ b = By, fun b h => h, fun b h => h, HK0.out, HJ1.out, Stay.refl _ _⟩
  case round2 =>
    intro l2 pre x Kx X mm hi hKX hKl hl2 hpre
    unfold encP
    gi_wp2
    refine ⟨Stay.refl _ _, fun X2 hg2 => ?_⟩
    have hi2 := HAB.out _ _ _ _ _ hi hg2 (fun r e => by injection e with e; subst e; exact ⟨hl2, hKl⟩) Kx fun b hb => .inl hb
    obtain ⟨q, hq, rfl⟩ := lines_pre hpre
    obtain ⟨Kb, z1, z2, z3, z4, z5⟩ := hi2
    have cy := (z5.cell (a := ⟨By, 0, none⟩) (.inr rfl)).trans (cell_of_row _ _ 0 _ _ _ HY1.out)
    simp at cy
    have HTK : Hid (l.take (pre.length + 1) = l.take pre.length ++ [q]) := by show _ = _; rw [List.take_add_one, hq]; rfl
    have hpre2 : l.take pre.length ++ [q] <+: l := by rw [← HTK.out]; exact List.take_prefix _ _
    have hqo := HLR.out.ok q (List.mem_of_getElem? hq)
    have HQO : Hid (∀ x ∈ q.2.l, I64 x) := hqo
    have hel := enc_256 hqo
    have hcv := fun (W : World) => Lib.run_convert_string_bytes (P := Try.prog) W 9 92 5 (str (enc q.2.l)) (u := .string) Try.underlying9 Try.underlying92 Try.underlying5
    have HSL := hid (fun (W : World) => bytesWorld_sl W 5 (enc q.2.l) (enc_byt _) (by unfold maxLen; omega))
    obtain ⟨s, HSS⟩ : ∃ s, Hid (s = str (enc q.2.l)) := ⟨_, rfl⟩
    have hsz : Hid (s.size = (enc q.2.l).length) := by show _ = _; rw [HSS.out, str_size]
    rw [← HSS.out] at hcv
    rw [← HSS.out, ← hsz.out] at HSL
    have HZ := hid z1
    have HZ2 := hid z2
    have HZ3 := hid z3
    have HZ4 := hid z4
    have HZ5 := hid z5
    have HCY := hid cy
    have HPRE2 := hid hpre2
    unfold line
    dsimp only
    rw [← HSS.out]
    clear z1 z2 z3 z4 z5 hi hpre hg2 hq hqo hel hpre2 cy
    gi_wp2
    refine ⟨trivial, fun h => (by cases h), ?_⟩
    refine (CallsIn.inRound l2 (callsIn_wide.2 (rdecode _ _ q.2.l [] q.2 0 (by rw [List.append_nil]; exact HSL.out _) Byt.nil HQO.out (.inl ⟨rfl, rfl, rfl, rfl⟩) (by simp)))).mono ?_
    rintro e w3 ⟨rfl, hb3⟩
    obtain ⟨k, r⟩ := q
    unfold rowv rowc
    have HB4 : Hid (Below X2.heap.size X2 (w3.alloc (.cells #[.int .i64 r.a, .int .i64 r.b, .int .i64 r.c, .int .i64 r.d] 33))) := (below_step (bytesWorld_below X2 5 s) hb3).alloc (below_step (bytesWorld_below X2 5 s) hb3).size _
    have cy := below_keep HB4.out _ _ HCY.out
    obtain ⟨p0, p1, p2, p3⟩ := (Lies.new w3 r).four
    dsimp only [rowc] at p0 p1 p2 p3
    obtain ⟨fn, tmps, assign, body, hy, hR⟩ := HY.out (mm - 1) _ (k, r) Kb _ (HJ.out _ Kb X2 _ none HZ4.out (grown_below HB4.out) (fun _ e => by cases e) Kb fun b h => .inl h) (fun b hb => Nat.lt_of_lt_of_le (HZ3.out b hb) HB4.out.size) HPRE2.out
    dsimp only [encK, rowv, rowc] at hy
    have HSX : Hid (Stay Kb X2 (w3.alloc (.cells #[.int .i64 r.a, .int .i64 r.b, .int .i64 r.c, .int .i64 r.d] 33))) := Stay.of_below HB4.out HZ3.out
    clear hb3
    gi_wp2
    refine ⟨fun h => (by cases h), RoundIn.mono (F := Fence.wide.inRound l2) hR ?_⟩
    rintro e W3 (⟨rfl, hJ3, hs3⟩ | ⟨rfl, hJ3, hs3⟩)
    · have HI3 : Hid (Stay Kx X2 W3 ∧ IA2 J l (fun b => K b ∨ b = By) W1 (pre ++ [line (k, r)]) Kx W3) := by
        have hs4 := HSX.out.trans hs3
        refine ⟨hs4.less HZ.out, Kb, HZ.out, HZ2.out, fun b hb => Nat.lt_of_lt_of_le (HZ3.out b hb) hs4.1, by rw [List.length_append, List.length_singleton, HTK.out]; exact hJ3, HZ5.out.trans (hs4.less HZ2.out)⟩
      clear hJ3 hs3
      gi_wp2
      exact HI3.out
    · have HI3 : Hid (Stay Kx X2 W3 ∧ IA2 Jx l (fun b => K b ∨ b = By) W1 (pre ++ [line (k, r)]) Kx W3) := by
        have hs4 := HSX.out.trans hs3
        refine ⟨hs4.less HZ.out, Kb, HZ.out, HZ2.out, fun b hb => Nat.lt_of_lt_of_le (HZ3.out b hb) hs4.1, by rw [List.length_append, List.length_singleton, HTK.out]; exact hJ3, HZ5.out.trans (hs4.less HZ2.out)⟩
      clear hJ3 hs3
      gi_wp2
      exact ⟨HI3.out.1, rfl, HI3.out.2⟩
  case done2 =>
    rintro D Kx Wq ⟨Kd, z1, z2, z3, z4, z5⟩ hK0 hKD hlD hsh
    have HL := hid (fun (tmps : Array Value) => HEND.out D Kd Wq _ tmps rfl (.inl (by rwa [lines_len, List.take_length] at z4)) (fun b hb => z2 b (.inl hb)) (z1 D hKD) hsh (by have := HS1.out; omega))
    gi_wp2
    exact HL.out _
  case stop2 =>
    rintro D cd pre Kx X hpre ⟨rfl, Kb, z1, z2, z3, z4, z5⟩ hK0 hKD hlD hsh
    have HL := hid (fun (tmps : Array Value) => HEND.out D Kb X _ tmps rfl (.inr ⟨_, List.take_prefix _ _, z4⟩) (fun b hb => z2 b (.inl hb)) (z1 D hKD) hsh (by have := HS1.out; omega))
    gi_wp2
    exact HL.out _
end Go.Proofs.Ytlnagdodnkhbmaa
