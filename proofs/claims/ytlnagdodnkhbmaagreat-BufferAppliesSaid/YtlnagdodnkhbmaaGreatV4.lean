/- A range over a buffer's writes; a store; clear. -/
import Derived.Test.YtlnagdodnkhbmaaGreatV3
namespace Go.Proofs.YtlnagdodnkhbmaaGreat
open Go.RowKit Go.Maps Go.WideMaps Go.MapKept Go.ChangeMaps
set_option maxRecDepth 100000

theorem ownsMap_tight {H : Type} {P : Program} {k : TypeId} {R : Value → Option (DataW H × List MemPlace)} {w : World} {b n : Nat} {D : DataW H} (h : w.ownsMap P k R b n D) : w.ownsMap P k R b (Maps.size D) D := by
  obtain ⟨es, clock, hb, F, hs, rfl⟩ := h
  exact ⟨es, clock, hb, F, by simp [Maps.size, length_sorted], rfl⟩
theorem str_key_inv {key : Value} {l : Lit} (h : keyOf Tryz.prog 9 key = some l) : ∃ x, key = .string x ∧ l = .string x.data.toList := by
  cases key <;> simp [keyOf, Tryz.underlying9, mapKey] at h
  rename_i x
  exact ⟨x, rfl, h.2.symm⟩
theorem kl_str {k : List Nat} {x : ByteArray} (h : kl k = .string x.data.toList) : x = str k := by
  unfold kl at h
  injection h with h
  exact ba_ext h.symm
/-- 'for k, v := range m' under way: the writes L are still to come. -/
def RngB (w : World) (m r : Nat) (ws L : List WR) (cnt : Nat) : Prop :=
  ∃ n D cs left, w.ranges Tryz.prog 9 ptrElem m r n D left cnt ∧ MapIs D cs ∧ cs.map Prod.fst = ws.map Prod.fst ∧ (∀ k c v, (k, c) ∈ cs → (k, v) ∈ ws → PtrIs w c v) ∧ L = ws.filter (fun q => left (kl q.1)) ∧ ∀ l, left l = true → Maps.has D l = true
section
variable {w w' : World} {m r : Nat} {ws L : List WR} {cnt : Nat}
theorem RngB.below (h : RngB w m r ws L cnt) (hb : Below w.heap.size w w') : RngB w' m r ws L cnt := by
  obtain ⟨n, D, cs, left, h1, h2, h3, h4, h5, h6⟩ := h
  exact ⟨n, D, cs, left, h1.kept (grown_below hb) (by simp) (by simp), h2, h3, fun k c v hc hv => (h4 k c v hc hv).keep fun g _ hl => hb.block g hl.lt, h5, h6⟩
theorem RngB.left_eq (h : RngB w m r ws L cnt) : w.rangeLeft m r = cnt := by
  obtain ⟨n, D, cs, left, h1, _⟩ := h
  exact h1.left_eq
theorem perm_strike {ws : List WR} (hw : WsOk ws) {left : Lit → Bool} {k : List Nat} {v : Option Ro} (hb : Byt k) (hm : (k, v) ∈ ws) (hl : left (kl k) = true) :
    (ws.filter fun q => left (kl q.1)).Perm ((k, v) :: ws.filter fun q => left (kl q.1) && !(kl q.1).sameKey (kl k)) := by
  obtain ⟨A, B, rfl⟩ := List.append_of_mem hm
  have hd := hw.diff
  rw [List.pairwise_append] at hd
  obtain ⟨_, d2, d3⟩ := hd
  obtain ⟨d4, _⟩ := List.pairwise_cons.1 d2
  have same : ∀ C : List WR, (∀ q ∈ C, q.1 ≠ k ∧ Byt q.1) → (C.filter fun q => left (kl q.1) && !(kl q.1).sameKey (kl k)) = C.filter fun q => left (kl q.1) := fun C hC => by
    refine List.filter_congr fun q hq => ?_
    rw [sameKey_ne (fun e => (hC q hq).1 ((kl_inj (hC q hq).2 hb).1 e))]
    simp
  rw [List.filter_append, List.filter_cons, if_pos hl, List.filter_append, List.filter_cons, if_neg (by rw [WideAt.sameKey_self (kl_isKey k)]; simp)]
  rw [same A fun q hq => ⟨d3 q hq _ List.mem_cons_self, hw.byt q (List.mem_append_left _ hq)⟩, same B fun q hq => ⟨(d4 q hq).symm, hw.byt q (List.mem_append_right _ (List.mem_cons_of_mem _ hq))⟩]
  exact List.perm_middle
end
section
variable (w : World) {ops : Array Oper} {rest : List Oper} {o : Oper} {a : Act} {Q : Exit → Act → World → Prop}
theorem wpList_range_buf (hg : o.guard = none) (x : Operand) (hop : o.op = Op.range 84 x) (m : Nat) (ws : List WR) (hm : a.eval x = .map (some m)) (h : BufM w m ws) (_hw : WsOk ws)
    (hK : ∀ w' cnt, RngB w' m w.heap.size ws ws cnt → w.grownBy w' none → w'.heap.size = w.heap.size + 1 → wpList Tryz.prog ops Q rest (a.put o.dst (.pointer (some ⟨w.heap.size, 0, none⟩))) w') :
    wpList Tryz.prog ops Q (o :: rest) a w := by
  obtain ⟨n, D, cs, h1, h2, h3, h4, h5⟩ := h
  refine wpList_range_own w hg x 84 hop 9 87 mapLaw Tryz.underlying84 ptrElem m n D hm h1 fun w' hr hgr hs => ?_
  refine hK w' _ ⟨n, D, cs, Maps.has D, hr, h3, h4, fun k c v hc hv => (h5 k c v hc hv).keep fun g _ hl => hgr.block g hl.lt (by simp), ?_, fun l hl => hl⟩ hgr hs
  refine (List.filter_eq_self.2 fun q hq => ?_).symm
  obtain ⟨c, hc⟩ := keys_mem h4.symm (k := q.1) (a := q.2) hq
  exact (h3.has q.1 (h3.byt _ hc)).2 ⟨c, hc⟩
theorem wpList_next_buf (hg : o.guard = none) (it : Operand) (hop : o.op = Op.next it false) (m r : Nat) (ws L : List WR) (cnt : Nat) (hw : WsOk ws) (hit : a.eval it = .pointer (some ⟨r, 0, none⟩)) (h : RngB w m r ws L cnt)
    (hDone : L = [] → wpList Tryz.prog ops Q rest (a.put o.dst (.tuple #[.bool false])) w)
    (hMore : ∀ (k : List Nat) (v : Option Ro) (c : Nat) (w' : World) (L' : List WR) (cnt' : Nat), Byt k → (k, v) ∈ ws → PtrIs w' c v → L.Perm ((k, v) :: L') → RngB w' m r ws L' cnt' → cnt' < cnt → w.grownBy w' (some r) → w'.heap.size = w.heap.size →
      (Instr.entry (.pointer (some ⟨r, 0, none⟩))).run Tryz.prog w' = .ok (.tuple #[.string (str k), ptrC c]) w' → wpList Tryz.prog ops Q rest (a.put o.dst (.tuple #[.bool true, .string (str k), ptrC c])) w') :
    wpList Tryz.prog ops Q (o :: rest) a w := by
  obtain ⟨n, D, cs, left, h1, h2, h3, h4, h5, h6⟩ := h
  refine wpList_next_ranges w hg it hop 9 mapLaw ptrElem Value.string ptrC (fun key l hkey => by obtain ⟨x, rfl, _⟩ := str_key_inv hkey; exact ⟨x, rfl⟩) (fun v y hv => by obtain ⟨c, rfl, _⟩ := ptrElem_inv hv; exact ⟨c, rfl⟩)
    m r n D left cnt hit h1 (fun _ hl => hDone ?_) (fun x c l y w' cnt' hkey hlx hR hat hrg hlt hgr hs hen => ?_)
  · rw [h5]
    refine List.filter_eq_nil_iff.2 fun q _ => ?_
    rw [hl]; simp
  · obtain ⟨x', ex, rfl⟩ := str_key_inv hkey
    cases ex
    obtain ⟨k, hb, hk⟩ := h2.keys _ (h6 _ hlx)
    have hx : x = str k := kl_str hk.symm
    obtain ⟨c2, hc2⟩ := (h2.has k hb).1 (by rw [← hk]; exact h6 _ hlx)
    obtain ⟨v, hv⟩ := keys_mem h3 hc2
    have hcc : c = c2 := by
      obtain ⟨c3, e3, rfl⟩ := ptrElem_inv hR
      have e4 := hat (.lit (.int .i64 0))
      rw [hk, h2.at_ _ hc2] at e4
      dsimp only at e4
      injection e4 with e4
      injection e4 with _ e4
      have e5 : c3 = c := by
        cases c <;> cases c3 <;> simp [ptrC] at e3 <;> omega
      omega
    subst hcc
    subst hx
    have hr2 : ∀ g rr, Lies w g rr → w'.heap[g]? = w.heap[g]? := fun g rr hl => hgr.block g hl.lt (by
      intro e
      injection e with e
      obtain ⟨_, _, _, _, _, _, _, _, _, hit2, _⟩ := h1
      rw [← e] at hit2
      unfold Lies at hl
      rw [hit2] at hl
      cases hl)
    rw [hk] at hlx
    refine hMore k v c w' (ws.filter fun q => left (kl q.1) && !(kl q.1).sameKey (kl k)) cnt' hb hv ((h4 k c v hc2 hv).keep hr2) (by rw [h5]; exact perm_strike hw hb hv hlx) ?_ hlt hgr hs hen
    refine ⟨n, D, cs, fun z => left z && !z.sameKey (kl k), by rw [← hk]; exact hrg, h2, h3, fun k1 c1 v1 hc1 hv1 => (h4 k1 c1 v1 hc1 hv1).keep hr2, rfl, fun l hl => ?_⟩
    rw [Bool.and_eq_true] at hl
    exact h6 l hl.1
end
/-- A store. -/
theorem BufM.store {w : World} {m : Nat} {ws : List WR} (h : BufM w m ws) (hw : WsOk ws) (hlen : ws.length ≤ 1000000) {k : List Nat} (hb : Byt k) (hk : keyB k = true) {c : Nat} {v : Option Ro} (hv : PtrIs w c v) :
    ∃ w', (Instr.mapUpdate 84 (.map (some m)) (.string (str k)) (ptrC c)).run Tryz.prog w = .ok () w' ∧ BufM w' m (insW ws k v) ∧ w.mapTurned w' m := by
  have hrow := fun g r (hl : Lies w g r) => h.not_row hl
  obtain ⟨n, D, cs, h1, h2, h3, h4, h5⟩ := h
  obtain ⟨w', hrun, hown, hturn⟩ := h1.store mapLaw Tryz.underlying84 (by unfold maxLen; omega) (kl_of hk) (ptrElem_mk c)
  have hd := keys_diff h4 hw.diff
  have h3' := h3.put hd hb c
  refine ⟨w', hrun, ⟨_, _, _, ownsMap_tight hown, ?_, h3', insW_keys h4 k c v, fun k1 c1 v1 hc1 hv1 => ?_⟩, hturn⟩
  · rw [h3'.size]
    have := congrArg List.length (insW_keys h4 k c v)
    rw [List.length_map, List.length_map] at this
    omega
  · have hkeep : ∀ g r, Lies w g r → w'.heap[g]? = w.heap[g]? := fun g r hl => hturn.grown.block g hl.lt (by intro e; injection e with e; exact hrow g r hl e)
    rcases mem_insW.1 hc1 with e1 | e1
    · injection e1 with e1 e2
      subst e1; subst e2
      rcases mem_insW.1 hv1 with e3 | e3
      · injection e3 with _ e3
        subst e3
        exact hv.keep hkeep
      · exact absurd rfl e3.2
    · rcases mem_insW.1 hv1 with e3 | e3
      · exact absurd (congrArg Prod.fst e3) e1.2
      · exact (h5 k1 c1 v1 e1.1 e3.1).keep hkeep
theorem turned_chg {w w' : World} {m : Nat} (h : w.mapTurned w' m) : Chg [m] w w' [m] := (Chg.refl [m] w).grown h.grown (fun k e => by injection e with e; simp [e])
/-- 'clear(m)'. -/
theorem BufM.clear_ {w : World} {m : Nat} {ws : List WR} (h : BufM w m ws) (ty : TypeId) : ∃ w', (Builtin.clear_ #[84] ty #[.map (some m)]).run Tryz.prog w = .ok (.tuple #[]) w' ∧ BufM w' m [] ∧ w.mapTurned w' m := by
  obtain ⟨n, D, cs, ⟨es, clock, hb, F, hs, rfl⟩, _⟩ := h
  refine ⟨setBlock w m (.map #[] clock), ?_, ?_, ⟨es, clock, #[], clock, hb, rfl⟩⟩
  · unfold Builtin.clear_
    simp [run_underlying Tryz.underlying84, MapKept.run_getObj_map hb, MapKept.run_setObj_map _ hb, Result.andThen, setBlock]
  · exact ⟨0, .map [], [], ⟨#[], clock, heap_setBlock_same hb _, ⟨by simp, by simp [Stamped], by simp⟩, Nat.le_refl _, rfl⟩, Nat.le_refl _, MapIs.nil, rfl, by simp⟩
end Go.Proofs.YtlnagdodnkhbmaaGreat
