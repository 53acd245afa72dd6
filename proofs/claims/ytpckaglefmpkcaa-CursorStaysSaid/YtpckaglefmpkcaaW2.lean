/- A tree and a reference's list side by side; what many calls leave. -/
import Derived.Test.YtpckaglefmpkcaaW1
import Derived.Test.YtpckaglefmpkcaaF1
namespace Go.Proofs.Ytpckaglefmpkcaa
open Go.RowKit

/-- Block p is a tree of order o that has the pairs l, on blocks of P. -/
def TreeAt (w : World) (p o : Nat) (l : List Pr) (P : Bl) : Prop := ∃ H g t, TreeIn w p o l P H g t
section
variable {w w' : World} {p o : Nat} {l l' : List Pr} {P : Bl}
theorem TreeAt.lt (h : TreeAt w p o l P) : p < w.heap.size := let ⟨_, _, _, h⟩ := h; h.c.lt
theorem TreeAt.out (h : TreeAt w p o l P) : ¬ P p := let ⟨_, _, _, h⟩ := h; h.out
theorem TreeAt.under (h : TreeAt w p o l P) : Under P w := let ⟨_, _, _, h⟩ := h; h.under
theorem TreeAt.byt (h : TreeAt w p o l P) : PByt l := let ⟨_, _, _, h⟩ := h; h.byt
theorem TreeAt.rise (h : TreeAt w p o l P) : Rising l := let ⟨_, _, _, h⟩ := h; h.rise
theorem TreeAt.keep (h : TreeAt w p o l P) (hp : w'.heap[p]? = w.heap[p]?) (hk : ∀ b, P b → w'.heap[b]? = w.heap[b]?) (hs : w.heap.size ≤ w'.heap.size) : TreeAt w' p o l P :=
  let ⟨H, g, t, h⟩ := h; ⟨H, g, t, h.keep hp hk hs⟩
theorem TreeAt.below (h : TreeAt w p o l P) (hb : Below w.heap.size w w') : TreeAt w' p o l P := let ⟨H, g, t, h⟩ := h; ⟨H, g, t, h.below hb⟩
/-- What turns other blocks leaves a tree as it was. -/
theorem TreeAt.chg {F F' : List Nat} (h : TreeAt w p o l P) (hc : Chg F w w' F') (hp : p ∉ F) (hP : ∀ b ∈ F, ¬ P b) : TreeAt w' p o l P :=
  h.keep (hc.block p h.lt hp) (fun b hb => hc.block b (h.under b hb) fun hF => hP b hF hb) hc.size
theorem RList.chg {G F F' : List Nat} (h : RList w G p l) (hc : Chg F w w' F') (hG : ∀ b ∈ F, b ∉ G) : RList w' G p l :=
  h.keep hc.size (hc.out h.lt hG)
theorem Done.tree (h : Done P w w' p o l') : TreeAt w' p o l' (New P w w') := h.1
/-- A list's block is not its row. -/
theorem TreeAt.len (h : TreeAt w p o l P) : Calls Try.prog 21 #[.pointer (some ⟨p, 0, none⟩)] w fun e w' => e = .returned (.int .i64 (l.length : Int)) ∧ Below w.heap.size w w' := by
  obtain ⟨H, g, t, h⟩ := h
  refine (tree_len w p o l P H g t h).mono ?_
  rintro e w' ⟨rfl, rfl⟩
  exact ⟨rfl, Below.refl _ _⟩
theorem TreeAt.get (h : TreeAt w p o l P) (hl : l.length ≤ 5000) (k : List Nat) (hkb : Byt k) (hk : k.length ≤ 5000) :
    Calls Try.prog 29 #[.pointer (some ⟨p, 0, none⟩), .string (str k)] w fun e w' => e = .returned (.tuple #[.string (str (getV l k)), .int .i64 (getE l k)]) ∧ Below w.heap.size w w' :=
  let ⟨_, _, _, h⟩ := h; tree_get h hl k hkb hk
theorem TreeAt.put (h : TreeAt w p o l P) (hl : l.length ≤ 5000) (k v : List Nat) (hkb : Byt k) (hvb : Byt v) (hk : k.length ≤ 5000) :
    Calls Try.prog 28 #[.pointer (some ⟨p, 0, none⟩), .string (str k), .string (str v)] w fun e w' => e = .returned (.tuple #[.string (str (putA l k v)), .bool (putW l k v), .int .i64 (putE k v)]) ∧ Done P w w' p o (putN l k v) :=
  let ⟨_, _, _, h⟩ := h; tree_put h hl k v hkb hvb hk
theorem TreeAt.del (h : TreeAt w p o l P) (hl : l.length ≤ 5000) (k : List Nat) (hkb : Byt k) (hk : k.length ≤ 5000) :
    Calls Try.prog 30 #[.pointer (some ⟨p, 0, none⟩), .string (str k)] w fun e w' => e = .returned (.tuple #[.string (str (delA l k)), .int .i64 (getE l k)]) ∧ Done P w w' p o (delN l k) :=
  let ⟨_, _, _, h⟩ := h; tree_del h hl k hkb hk
theorem TreeAt.ceil (h : TreeAt w p o l P) (hl : l.length ≤ 5000) (k : List Nat) (hkb : Byt k) :
    Calls Try.prog 22 #[.pointer (some ⟨p, 0, none⟩), .string (str k)] w fun e w' => e = .returned (ceilR l k) ∧ Below w.heap.size w w' :=
  let ⟨_, _, _, h⟩ := h; tree_ceil_ h hl k hkb
theorem TreeAt.copy (h : TreeAt w p o l P) : Calls Try.prog 27 #[.pointer (some ⟨p, 0, none⟩)] w fun e w' => e = .returned (.pointer (some ⟨w.heap.size, 0, none⟩)) ∧ Below w.heap.size w w' ∧ w.heap.size < w'.heap.size ∧ TreeAt w' w.heap.size o l P := by
  obtain ⟨H, g, t, h⟩ := h
  refine (tree_copy w p o l P H g t h).mono ?_
  rintro e w' ⟨h1, h2, h3, h4⟩
  exact ⟨h1, h2, h3, H, g, t, h4⟩
theorem TreeAt.shape (h : TreeAt w p o l P) (hl : l.length ≤ 5000) :
    Calls Try.prog 26 #[.pointer (some ⟨p, 0, none⟩)] w fun e w' => ∃ v s, e = .returned v ∧ Shp w' v s ∧ ShapeOk s o l.length ∧ Below w.heap.size w w' := by
  obtain ⟨H, g, t, h⟩ := h
  refine (shape_any w p o l P H g t h hl).mono ?_
  rintro e w' ⟨v, h1, h2, h3⟩
  exact ⟨v, _, h1, h2, shape_of h.o2 h.ok h.fl, h3⟩
theorem TreeAt.all (h : TreeAt w p o l P) : Calls Try.prog 31 #[.pointer (some ⟨p, 0, none⟩)] w fun e w' => ∃ gf lb G, e = .returned (.func (.func gf) #[] lb) ∧ Below w.heap.size w w' ∧ Walks w' gf lb G l ∧ ∀ b, G b → P b ∨ w.heap.size ≤ b := by
  obtain ⟨H, g, t, h⟩ := h
  refine (tree_all w p o l P H g t h).mono ?_
  rintro e w' ⟨h1, h2, h3, h4⟩
  refine ⟨_, _, _, h1, h2, ⟨enters_of Try.func63 (by kernel_rfl) rfl, fun b hb => ?_, h4⟩, fun b hb => ?_⟩
  · rcases hb with hb | hb
    · omega
    · have := h.under b hb; omega
  · rcases hb with hb | hb
    · exact .inr (by omega)
    · exact .inl hb
end
theorem tree_new_at (w : World) (o : Nat) (h2 : 2 ≤ o) (h16 : o ≤ 16) : Calls Try.prog 17 #[.int .i64 (o : Int)] w fun e w' => ∃ a P, e = .returned (.tuple #[.pointer (some ⟨a, 0, none⟩), .int .i64 0]) ∧ Below w.heap.size w w' ∧ w.heap.size ≤ a ∧ TreeAt w' a o [] P := by
  refine (tree_new w o h2 h16).mono ?_
  rintro e w' ⟨rfl, hb, hs, ht⟩
  exact ⟨_, _, rfl, hb, by omega, _, _, _, ht⟩

/-- The same blocks on both sides may be more. -/
theorem Chg.wide2 {F K : List Nat} {w w' : World} (h : Chg F w w' F) (hk : ∀ k ∈ F, k ∈ K) : Chg K w w' K :=
  ⟨h.os, h.tape, h.output, h.size, fun k hl hK => h.block k hl fun hF => hK (hk k hF), fun _ h => .inl h⟩
/-- A tree and a reference's list beside it: the same pairs; nothing else has turned since W. -/
structure St (W w : World) (P : Bl) (G : List Nat) (a p : Nat) (l : List Pr) (o : Nat) : Prop where
  t : TreeAt w a o l P
  r : RList w G p l
  n : a ∉ G
  m : ¬ P p
  c : Chg [] W w [a, p]
section
variable {W w w' : World} {P P' : Bl} {G G' : List Nat} {a p : Nat} {l l' : List Pr} {o : Nat}
theorem St.ne (h : St W w P G a p l o) : a ≠ p := fun e => h.n (e ▸ h.r.mem)
/-- Both sides were called, one behind the other. -/
theorem St.both {w1 : World} {u : Value} {e : Ending} (h : St W w P G a p l o) (h1 : Done P w w1 a o l') (h2 : Refd w1 G p l' u e w') : ∃ P' G', St W w' P' G' a p l' o := by
  obtain ⟨-, G', r2, c2, hG⟩ := h2
  have c1 := h1.2
  have hal := h.t.lt
  have hpl : p < w.heap.size := h.r.lt p h.r.mem
  have t1 := h1.tree
  have hnp : ∀ b ∈ [p], ¬ New P w w1 b := fun b hb => by
    simp at hb; subst hb
    rintro (hh | hh)
    · exact h.m hh
    · omega
  refine ⟨_, G', t1.chg c2 (by simpa using h.ne) hnp, r2, fun hm => ?_, hnp p (by simp), ?_⟩
  · rcases hG a hm with hh | hh
    · exact h.n hh
    · have := c1.size; omega
  · have c3 : Chg [a, p] w w1 [a, p] := c1.wide2 (by simp)
    have c4 : Chg [a, p] w1 w' [a, p] := c2.wide2 (by simp)
    exact (h.c.trans c3).trans c4
theorem St.below_ (h : St W w P G a p l o) (hb : Below w.heap.size w w') : St W w' P G a p l o :=
  ⟨h.t.below hb, h.r.below hb, h.n, h.m, h.c.step_below hb⟩
theorem St.since (h : St W w P G a p l o) : Below W.heap.size W w := h.c.below (fun _ h => by cases h) (Nat.le_refl _)
end
/-- A call as a value; what it leaves. -/
def opV (o : Cl) : Value := .agg #[.int .i64 o.k, .string (str o.key), .string (str o.val)]
def stepL (l : List Pr) (o : Cl) : List Pr := if o.k = 0 then putN l o.key o.val else if o.k = 1 then delN l o.key else l
/-- Where a call lies. -/
def OpAt (w : World) (b : Addr) (o : Cl) : Prop :=
  w.cell? b = some (.int .i64 o.k) ∧ w.cell? { block := b.block, off := b.off + 1, spot := none } = some (.string (str o.key)) ∧ w.cell? { block := b.block, off := b.off + 2, spot := none } = some (.string (str o.val))
theorem OpAt.below {w w' : World} {b : Addr} {o : Cl} (h : OpAt w b o) (hb : Below w.heap.size w w') : OpAt w' b o :=
  ⟨below_keep hb _ _ h.1, below_keep hb _ _ h.2.1, below_keep hb _ _ h.2.2⟩
theorem opAt_new (w : World) (o : Cl) : OpAt (w.alloc (.cells #[.int .i64 o.k, .string (str o.key), .string (str o.val)] 35)) ⟨w.heap.size, 0, none⟩ o :=
  ⟨cell_of_row _ _ 0 _ _ _ (heap_alloc_new w _), cell_of_row _ _ 1 _ _ _ (heap_alloc_new w _), cell_of_row _ _ 2 _ _ _ (heap_alloc_new w _)⟩
theorem chg_cell {F F' : List Nat} {w w' : World} (h : Chg F w w' F') {a : Addr} {v : Value} (hc : w.cell? a = some v) (hF : a.block ∉ F) : w'.cell? a = some v :=
  (World.cell?_of_block (h.block _ (blk_lt hc) hF)).trans hc
theorem OpAt.chg {F F' : List Nat} {w w' : World} {b : Addr} {o : Cl} (h : OpAt w b o) (hc : Chg F w w' F') (hF : b.block ∉ F) : OpAt w' b o :=
  ⟨chg_cell hc h.1 hF, chg_cell hc h.2.1 hF, chg_cell hc h.2.2 hF⟩

/-- Behind a call of both. -/
def Both (W : World) (a p : Nat) (l : List Pr) (o : Nat) (e : Ending) (w' : World) : Prop :=
  e = .returned (.bool true) ∧ ∃ P' G', St W w' P' G' a p l o

section
variable {W w : World} {P : Bl} {G : List Nat} {a p : Nat} {l : List Pr} {od : Nat}
theorem does_put (h : St W w P G a p l od) (kx vx : List Nat) (hkb : Byt kx) (hvb : Byt vx) (hk : kx.length ≤ 300) (_hv : vx.length ≤ 300) (hl : l.length ≤ 900) :
    Calls Try.prog 20 #[.pointer (some ⟨a, 0, none⟩), .pointer (some ⟨p, 0, none⟩), opV ⟨0, kx, vx⟩] w (Both W a p (putN l kx vx) od) := by
  have hst := h.below_ ((Below.refl _ w).alloc (Nat.le_refl _) (.cells #[.int .i64 0, .string (str kx), .string (str vx)] 35))
  have HO := hid (opAt_new w ⟨0, kx, vx⟩)
  have HBF : Hid (w.heap.size ∉ [a]) := fun hm => by simp at hm; have := h.t.lt; omega
  have HBG : Hid (w.heap.size ∉ G) := fun hm => by have := h.r.lt _ hm; omega
  have HST := hid hst
  have HL := hid h.t.byt
  have HK := hid hkb
  have HV := hid hvb
  obtain ⟨A, HA⟩ : ∃ A, Hid (A = str (putA l kx vx)) := ⟨_, rfl⟩
  obtain ⟨B, HB⟩ : ∃ B, Hid (B = putW l kx vx) := ⟨_, rfl⟩
  obtain ⟨E, HE⟩ : ∃ E, Hid (E = putE kx vx) := ⟨_, rfl⟩
  obtain ⟨hc0, hc1, hc2⟩ := HO.out
  clear hst h
  unfold opV
  go_enter Try.func20, Try.ntmps20
  go_wp2_with fail
  refine (HST.out.t.put (by omega) kx vx HK.out HV.out (by omega)).mono ?_
  rw [← HA.out, ← HB.out, ← HE.out]
  rintro e w1 ⟨rfl, hd1⟩
  have HD1 := hid hd1
  have cg1 := hd1.2
  have HR1 := hid (HST.out.r.chg cg1 (by simpa using HST.out.n))
  clear hc0 hc1 hc2
  obtain ⟨hc0, hc1, hc2⟩ := HO.out.chg cg1 HBF.out
  clear cg1 hd1
  go_wp2_with fail
  refine (refput _ G p l kx vx HR1.out HL.out HK.out (by omega)).mono ?_
  rw [← HA.out, ← HB.out, ← HE.out]
  intro e w2 hr2
  have HR2 := hid hr2
  obtain ⟨rfl, -⟩ := hr2
  go_wp2
  go_ret
  exact ⟨rfl, HST.out.both HD1.out HR2.out⟩
theorem does_del (h : St W w P G a p l od) (kx vx : List Nat) (hkb : Byt kx) (hk : kx.length ≤ 300) (hl : l.length ≤ 900) :
    Calls Try.prog 20 #[.pointer (some ⟨a, 0, none⟩), .pointer (some ⟨p, 0, none⟩), opV ⟨1, kx, vx⟩] w (Both W a p (delN l kx) od) := by
  have hst := h.below_ ((Below.refl _ w).alloc (Nat.le_refl _) (.cells #[.int .i64 1, .string (str kx), .string (str vx)] 35))
  have HO := hid (opAt_new w ⟨1, kx, vx⟩)
  have HBF : Hid (w.heap.size ∉ [a]) := fun hm => by simp at hm; have := h.t.lt; omega
  have HST := hid hst
  have HL := hid h.t.byt
  have HK := hid hkb
  obtain ⟨A, HA⟩ : ∃ A, Hid (A = str (delA l kx)) := ⟨_, rfl⟩
  obtain ⟨E, HE⟩ : ∃ E, Hid (E = getE l kx) := ⟨_, rfl⟩
  obtain ⟨hc0, hc1, hc2⟩ := HO.out
  clear hst h
  unfold opV
  go_enter Try.func20, Try.ntmps20
  go_wp2_with fail
  refine (HST.out.t.del (by omega) kx HK.out (by omega)).mono ?_
  rw [← HA.out, ← HE.out]
  rintro e w1 ⟨rfl, hd1⟩
  have HD1 := hid hd1
  have cg1 := hd1.2
  have HR1 := hid (HST.out.r.chg cg1 (by simpa using HST.out.n))
  clear hc0 hc1 hc2
  obtain ⟨hc0, hc1, hc2⟩ := HO.out.chg cg1 HBF.out
  clear cg1 hd1
  go_wp2_with fail
  refine (refdel _ G p l kx HR1.out HL.out HK.out (by omega)).mono ?_
  rw [← HA.out, ← HE.out]
  intro e w2 hr2
  have HR2 := hid hr2
  obtain ⟨rfl, -⟩ := hr2
  go_wp2
  go_ret
  exact ⟨rfl, HST.out.both HD1.out HR2.out⟩
theorem does_get (h : St W w P G a p l od) (kk : Int) (kx vx : List Nat) (hkb : Byt kx) (hk : kx.length ≤ 300) (hl : l.length ≤ 900) (h0 : ¬ kk = 0) (h1 : ¬ kk = 1) :
    Calls Try.prog 20 #[.pointer (some ⟨a, 0, none⟩), .pointer (some ⟨p, 0, none⟩), opV ⟨kk, kx, vx⟩] w (Both W a p l od) := by
  have hst := h.below_ ((Below.refl _ w).alloc (Nat.le_refl _) (.cells #[.int .i64 kk, .string (str kx), .string (str vx)] 35))
  have HO := hid (opAt_new w ⟨kk, kx, vx⟩)
  have HST := hid hst
  have HL := hid h.t.byt
  have HK := hid hkb
  obtain ⟨A, HA⟩ : ∃ A, Hid (A = str (getV l kx)) := ⟨_, rfl⟩
  obtain ⟨E, HE⟩ : ∃ E, Hid (E = getE l kx) := ⟨_, rfl⟩
  obtain ⟨hc0, hc1, hc2⟩ := HO.out
  clear hst h
  unfold opV
  go_enter Try.func20, Try.ntmps20
  go_wp2_with fail
  refine (HST.out.t.get (by omega) kx HK.out (by omega)).mono ?_
  rw [← HA.out, ← HE.out]
  rintro e w1 ⟨rfl, hb1⟩
  have HB1 := hid hb1
  clear hc0 hc1 hc2
  obtain ⟨hc0, hc1, hc2⟩ := HO.out.below hb1
  clear hb1
  go_wp2_with fail
  refine (refget _ G p l kx (HST.out.r.below HB1.out) HL.out HK.out).mono ?_
  rw [← HA.out, ← HE.out]
  rintro e w2 ⟨rfl, hb2⟩
  go_wp2
  go_ret
  exact ⟨rfl, P, G, (HST.out.below_ HB1.out).below_ hb2⟩
theorem does_any (h : St W w P G a p l od) (o : Cl) (ho : ClOk o) (hk : o.key.length ≤ 300) (hv : o.val.length ≤ 300) (hl : l.length ≤ 900) :
    Calls Try.prog 20 #[.pointer (some ⟨a, 0, none⟩), .pointer (some ⟨p, 0, none⟩), opV o] w (Both W a p (stepL l o) od) := by
  unfold stepL
  obtain ⟨kk, kx, vx⟩ := o
  by_cases h0 : kk = 0
  · rw [if_pos h0]; subst h0; exact does_put h kx vx ho.key ho.val hk hv hl
  · rw [if_neg h0]
    by_cases h1 : kk = 1
    · rw [if_pos h1]; subst h1; exact does_del h kx vx ho.key hk hl
    · rw [if_neg h1]; exact does_get h kk kx vx ho.key hk hl h0 h1
end
theorem stepL_len (l : List Pr) (o : Cl) : (stepL l o).length ≤ l.length + 1 := by
  unfold stepL
  split
  · exact putN_len _ _ _
  · split
    · have := delN_len l o.key; omega
    · omega
/-- What many calls leave. -/
def runL (l : List Pr) (os : List Cl) : List Pr := os.foldl stepL l
theorem runL_len : ∀ (os : List Cl) (l : List Pr), (runL l os).length ≤ l.length + os.length
  | [], l => by simp [runL]
  | o :: os, l => by
    have h1 := runL_len os (stepL l o)
    have h2 := stepL_len l o
    show (runL (stepL l o) os).length ≤ _
    simp; omega
theorem runL_take {os : List Cl} {i : Nat} {o : Cl} (l : List Pr) (h : os[i]? = some o) : runL l (os.take (i + 1)) = stepL (runL l (os.take i)) o := by
  unfold runL
  rw [List.take_add_one, h, List.foldl_append]
  rfl
section
variable {W w : World} {P : Bl} {G : List Nat} {a p : Nat} {l : List Pr} {od : Nat}
theorem same_st (h : St W w P G a p l od) (hl : l.length ≤ 900) :
    Calls Try.prog 24 #[.pointer (some ⟨a, 0, none⟩), .pointer (some ⟨p, 0, none⟩)] w fun e w' => e = .returned (.bool true) ∧ Below w.heap.size w w' := by
  refine same_yes w _ G p l h.r h.t.byt (by omega) (fun w' hb => ?_) (fun w' hb => ?_)
  · refine (h.t.below hb).all.mono ?_
    rintro e w2 ⟨gf, lb, K, rfl, h1, h2, _⟩
    exact ⟨gf, lb, K, rfl, h1, h2⟩
  · refine (h.t.below hb).len.mono ?_
    rintro e w2 ⟨rfl, hb⟩
    exact ⟨rfl, hb⟩
theorem st_len (h : St W w P G a p l od) : ∃ A n c, Hid (n = l.length) ∧ w.cell? ⟨p, 0, none⟩ = some (.slice A n c) := by
  obtain ⟨u, hone, hel, _⟩ := h.r
  obtain ⟨A, c, rfl⟩ := hel.slice
  exact ⟨A, l.length, c, rfl, hone.cell⟩
theorem ceilR_form (l : List Pr) (k : List Nat) : ∃ x y c, ceilR l k = .tuple #[.string x, .string y, .int .i64 c] := by
  unfold ceilR
  cases l[atN l k]? with
  | none => exact ⟨_, _, _, rfl⟩
  | some q => exact ⟨_, _, _, rfl⟩
theorem refceil_ (w : World) (F : List Nat) (p : Nat) (l : List Pr) (k : List Nat) (hR : RList w F p l) (hl : PByt l) (hk : Byt k) :
    Calls Try.prog 23 #[.pointer (some ⟨p, 0, none⟩), .string (str k)] w fun e w' => e = .returned (ceilR l k) ∧ Below w.heap.size w w' := by
  refine (refceil w F p l k hR hl hk).mono ?_
  rintro e w' ⟨rfl, hb⟩
  refine ⟨?_, hb⟩
  unfold ceilR
  cases l[atN l k]? <;> rfl
/-- A new reference's list beside a new tree. -/
theorem st_new {w1 : World} (ht : TreeAt w1 a od [] P) (hb : Below w.heap.size w w1) (ha : w.heap.size ≤ a) : St w (w1.alloc (.cells #[.slice none 0 0] 32)) P [w1.heap.size] a w1.heap.size [] od := by
  have hbn : Below w1.heap.size w1 (w1.alloc (.cells #[.slice none 0 0] 32)) := (Below.refl _ w1).alloc (Nat.le_refl _) _
  have hal := ht.lt
  refine ⟨ht.below hbn, ⟨.slice none 0 0, One.new w1 32 _, Elems.nil 2 cP _, by simp [ownFoot, Value.ownBlock], by simp [ownFoot, Value.ownBlock], by simp [ownFoot, Value.ownBlock]⟩, by simp; omega, fun h => by have := ht.under _ h; omega, ?_⟩
  exact ((Chg.of_below (F := []) hb).step_below hbn).less fun k hk => by
    simp at hk
    rcases hk with rfl | rfl
    · exact .inr ha
    · exact .inr hb.size
end
theorem Elems.opAt {w : World} {A : Option Addr} {n cap i : Nat} {l : List Cl} {o : Cl} (h : Elems 3 cO w (.slice A n cap) l) (hi : l[i]? = some o) : ∃ ad, A = some ad ∧ OpAt w (ad.add (i * 3)) o := by
  obtain ⟨ad, hA, h1, h2, h3⟩ := h.op hi
  exact ⟨ad, hA, h1, h2, h3⟩
theorem fewB_yes {os : List Cl} (h : fewB os = true) : (∀ o ∈ os, o.key.length ≤ 300 ∧ o.val.length ≤ 300) ∧ os.length ≤ 200 := by
  unfold fewB at h; exact of_decide_eq_true h

end Go.Proofs.Ytpckaglefmpkcaa
