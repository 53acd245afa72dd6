/- law04's awake; a tree that may not be. -/
import Derived.Test.YtpckaglefmpkcaaW2
namespace Go.Proofs.Ytpckaglefmpkcaa
open Go.RowKit
set_option maxRecDepth 100000

theorem tree_new_no (w : World) (n : Int) (hn : n < 2 ∨ 16 < n) : Calls Try.prog 17 #[.int .i64 n] w fun e w' => e = .returned (.tuple #[.pointer none, .int .i64 23]) ∧ Below w.heap.size w w' := by
  refine (tree_new_bad w n hn).mono ?_
  rintro e w' ⟨rfl, rfl⟩
  exact ⟨rfl, Below.refl _ _⟩
/-- Put of a new key into a tree of one leaf: which tree is there then. -/
theorem put_leaf (w : World) (p : Nat) (l q : List Pr) (P : Bl) (g : Nat) (k : List Nat) (r : Nat × T) (hT : TreeIn w p 2 l P 0 g (.nd l [])) (hl : l.length ≤ 5000) (hkb : Byt k) (h64 : key64 k = true) (hn : getL l k = none)
    (hr : rootT 2 0 (.nd (spl l (atN l k) (atN l k) [(k, [])]) []) = r) (hq : putL l k [] = q) :
    Calls Try.prog 28 #[.pointer (some ⟨p, 0, none⟩), .string (str k), .string (str [])] w fun e w' => (∃ v, e = .returned v) ∧ (∃ P' g', TreeIn w' p 2 q P' r.1 g' r.2) ∧ Chg [p] w w' [p] := by
  have h3 : k.length ≤ 5000 := by
    unfold key64 at h64
    have := (of_decide_eq_true h64).2
    omega
  have hok : Ok 2 0 0 (2 * 2 - 1) (.nd l []) := hT.ok
  refine (tree_put_new_as w p 2 l P 0 g (.nd l []) k [] hT hl hkb (fun b hb => by cases hb) h3 (by simp) h64 [] (.nd l []) ⟨rfl, trivial, hok, by simp [LLp, RRp, flat], by simp [LLp], by simp [RRp], rfl, fun _ => rfl⟩ hn).mono ?_
  rintro e w' ⟨rfl, ⟨g', h⟩, hc⟩
  subst hr; subst hq
  exact ⟨⟨_, rfl⟩, ⟨_, g', h⟩, hc⟩
theorem byt1 {n : Nat} (h : n < 256) : Byt [n] := fun b hb => by simp at hb; omega
theorem lit_str (n : Nat) (b : UInt8) (h : b = n.toUInt8) : (⟨#[b]⟩ : ByteArray) = str [n] := by subst h; apply ba_ext; rw [str_list]; rfl
theorem shpOwn_chg {w w' : World} {B p : Nat} {v : Value} {s : List (List Nat)} (h : ShpOwn w B v s) (hc : Chg [p] w w' [p]) (hp : p < B) : ShpOwn w' B v s :=
  h.keep fun b hb hl => hc.block b hl fun hm => by simp at hm; omega

set_option maxHeartbeats 4000000 in
theorem awake_yes (w : World) : Calls Try.prog 18 #[] w (Yes w) := by
  have ha := lit_str 97 97 rfl
  have hb := lit_str 98 98 rfl
  have hc := lit_str 99 99 rfl
  have hd := lit_str 100 100 rfl
  have HA := hid ha
  have HB := hid hb
  have HC := hid hc
  have HD := hid hd
  have HE := hid str_nil
  clear ha hb hc hd
  go_enter Try.func18, Try.ntmps18
  go_wp2_with fail
  refine (tree_new w 2 (by omega) (by omega)).mono ?_
  rintro e w1 ⟨rfl, hb1, hs1, ht1⟩
  have HB1 := hid hb1
  have HS1 := hid hs1
  obtain ⟨p, HP⟩ : ∃ p, Hid (p = w.heap.size + 1) := ⟨_, rfl⟩
  rw [← HP.out] at ht1 ⊢
  have HT1 := hid ht1
  clear hb1 hs1 ht1
  go_wp2_with fail
  rw [HA.out, HE.out]
  refine (put_leaf w1 p [] _ _ _ [97] (0, .nd [([97], [])] []) HT1.out (by decide) (byt1 (by decide)) (by decide) (by decide) (by rfl) rfl).mono ?_
  rintro e w2 ⟨⟨v, rfl⟩, ⟨P2, g2, ht2⟩, hc2⟩
  have HT2 := hid ht2
  have HC2 := hid hc2
  clear ht2 hc2
  go_wp2_with fail
  rw [HB.out, HE.out]
  refine (put_leaf w2 p _ _ _ _ [98] (0, .nd [([97], []), ([98], [])] []) HT2.out (by decide) (byt1 (by decide)) (by decide) (by decide) (by rfl) rfl).mono ?_
  rintro e w3 ⟨⟨v, rfl⟩, ⟨P3, g3, ht3⟩, hc3⟩
  have HT3 := hid ht3
  have HC3 := hid hc3
  clear ht3 hc3
  go_wp2_with fail
  rw [HC.out, HE.out]
  refine (put_leaf w3 p _ _ _ _ [99] (0, .nd [([97], []), ([98], []), ([99], [])] []) HT3.out (by decide) (byt1 (by decide)) (by decide) (by decide) (by rfl) rfl).mono ?_
  rintro e w4 ⟨⟨v, rfl⟩, ⟨P4, g4, ht4⟩, hc4⟩
  have HT4 := hid ht4
  have HC4 := hid hc4
  clear ht4 hc4
  go_wp2_with fail
  refine (shape_own w4 p 2 _ _ 0 _ _ HT4.out (by decide)).mono ?_
  rintro e w5 ⟨vx, rfl, hx, hb5⟩
  have HX := hid hx
  have HT5 := hid (HT4.out.below hb5)
  have HB5 := hid hb5
  clear hx hb5
  go_wp2_with fail
  rw [HD.out, HE.out]
  refine (put_leaf w5 p _ _ _ _ [100] (1, .nd [([99], [])] [.nd [([97], []), ([98], [])] [], .nd [([100], [])] []]) HT5.out (by decide) (byt1 (by decide)) (by decide) (by decide) (by rfl) rfl).mono ?_
  rintro e w6 ⟨⟨v, rfl⟩, ⟨P6, g6, ht6⟩, hc6⟩
  have HT6 := hid ht6
  have HC6 := hid hc6
  clear ht6 hc6
  go_wp2_with fail
  refine (shape_own w6 p 2 _ _ 1 _ _ HT6.out (by decide)).mono ?_
  rintro e w7 ⟨vy, rfl, hy, hb7⟩
  have hpl := HT4.out.c.lt
  have hx7 : ShpOwn w7 w4.heap.size vx [[3]] := (shpOwn_chg HX.out HC6.out hpl).keep fun b _ hl => hb7.block b hl
  have hxs : Shp w7 vx [[3]] := hx7.shp
  have hys : Shp w7 vy [[1], [2, 1]] := hy.shp
  obtain ⟨Ax, cx, rfl⟩ : ∃ A c, vx = .slice A 1 c := (let ⟨_, _, hr, _⟩ := hxs; hr.slice)
  obtain ⟨Ay, cy, rfl⟩ : ∃ A c, vy = .slice A 2 c := (let ⟨_, _, hr, _⟩ := hys; hr.slice)
  obtain ⟨adx, B1, c1, rfl, q1, s1⟩ := hxs.at_ (i := 0) rfl
  obtain ⟨ady, B2, c2, rfl, q2, s2⟩ := hys.at_ (i := 0) rfl
  obtain ⟨ady', B3, c3, hA, q3, s3⟩ := hys.at_ (i := 1) rfl
  injection hA with hA
  subst hA
  obtain ⟨z1, rfl, k1⟩ := s1.cell (i := 0) rfl
  obtain ⟨z2, rfl, k2⟩ := s2.cell (i := 0) rfl
  have HW : Hid (Below w.heap.size w w7) := by
    have c0 : Chg [] w w1 [p] := (Chg.of_below (F := []) HB1.out).less fun k hk => .inr (by simp at hk; have := HP.out; omega)
    exact below_step (((((c0.trans HC2.out).trans HC3.out).trans HC4.out).step_below HB5.out).trans HC6.out |>.below (fun _ h => by cases h) (Nat.le_refl _)) hb7
  rw [add_zero'] at q1 q2 k1 k2
  rw [Addr.add_succ' _ 0] at q3
  clear hx7 hxs hys s1 s2 s3 hy hb7 hpl
  go_wp2
  go_ret
  exact ⟨rfl, HW.out⟩
end Go.Proofs.Ytpckaglefmpkcaa
