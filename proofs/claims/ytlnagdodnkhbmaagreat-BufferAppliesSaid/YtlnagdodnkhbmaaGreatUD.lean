import Derived.Test.YtlnagdodnkhbmaaGreatUC
import Derived.Test.YtlnagdodnkhbmaaGreatMA
import Derived.Test.YtlnagdodnkhbmaaGreatRA
import Derived.Test.YtlnagdodnkhbmaaGreatUB

/- all: a node's pairs, and those of the nodes below it, in order. -/
namespace Go.Proofs.YtlnagdodnkhbmaaGreat
open Go.RowKit Go.Shelf
set_option maxRecDepth 100000
attribute [local go_sem] Oper.semAt_some

def encP (x : Pr) : Array Value := #[.string (str x.1), .string (str x.2)]
/-- An activation that leaves with marks of loops alone; what shutting them keeps. -/
theorem leaves_keep {n : Nat} {P : Program} {fn : Func} {tmps : Array Value} {R : Ending → World → Prop} (Φ : World → Prop) : ∀ (Ds : List Nat) (w : World), Ds.Nodup → (∀ D ∈ Ds, Shut w D) → Φ w →
    (∀ D ∈ Ds, ∀ W, Φ W → Φ (W.putObj D (.deferred none))) → (∀ w', Φ w' → LeavesIn Fence.wide n P fn tmps R [] .returning w') → LeavesInM Fence.wide n P fn tmps R (Ds.map mark) .returning w
  | [], w, _, _, hw, _, h => h w hw
  | D :: Ds, w, hn, hS, hw, hk, h => by
    have hn' := List.nodup_cons.1 hn
    refine ⟨by simp, .inl ⟨D, _, rfl, run_takeDeferred (hS D List.mem_cons_self), leaves_keep Φ Ds _ hn'.2 (fun E hE => ?_) (hk D List.mem_cons_self _ hw) (fun E hE => hk E (List.mem_cons_of_mem _ hE)) h⟩⟩
    refine (World.putObj_heap_other fun e => hn'.1 ?_).trans (hS E (List.mem_cons_of_mem _ hE))
    rw [← e]; exact hE

theorem all_any (w : World) (g : Nat) : Calls Tryz.prog 109 #[.pointer (some ⟨g, 0, none⟩)] w fun e w' =>
    e = .returned (.func (.func 137) #[] #[.pointer (some ⟨w.heap.size, 0, none⟩)]) ∧ w' = w.alloc (.cells #[.pointer (some ⟨g, 0, none⟩)] 155) := by
  go_enter Tryz.func109, Tryz.ntmps109
  go_wp2
  go_ret
  exact ⟨rfl, rfl⟩

/-- What has been given ahead of the place k. -/
def outL : Nat → T → Nat → List Pr
  | 0, t, k => t.ps.take k
  | h + 1, t, k => if k ≤ t.ps.length then LL h t k else flat (h + 1) t
theorem outL_zero (h : Nat) (t : T) : outL h t 0 = [] := by
  cases h with
  | zero => rfl
  | succ h => show (if 0 ≤ t.ps.length then LL h t 0 else flat (h + 1) t) = []; rw [if_pos (Nat.zero_le _), LL_zero]
theorem outL_end (h : Nat) (t : T) : outL h t (t.ps.length + 1) = flat h t := by
  cases h with
  | zero => show t.ps.take (t.ps.length + 1) = t.ps; exact List.take_of_length_le (by omega)
  | succ h => show (if t.ps.length + 1 ≤ t.ps.length then LL h t (t.ps.length + 1) else flat (h + 1) t) = _; rw [if_neg (by omega)]
/-- Ahead of the pair at the place k. -/
def midL : Nat → T → Nat → List Pr
  | 0, t, k => t.ps.take k
  | h + 1, t, k => LL h t k ++ (match t.ks[k]? with | some c => flat h c | none => [])
theorem mid_pair {h : Nat} {t : T} {k : Nat} {q : Pr} (hf : Full h t) (hq : t.ps[k]? = some q) : outL h t (k + 1) = midL h t k ++ [q] ∧ midL h t k ++ [q] <+: flat h t := by
  have hl := (List.getElem?_eq_some_iff.1 hq).1
  cases h with
  | zero =>
    have e : t.ps.take (k + 1) = t.ps.take k ++ [q] := take_one hq
    exact ⟨e, by show t.ps.take k ++ [q] <+: t.ps; rw [← e]; exact List.take_prefix _ _⟩
  | succ h =>
    obtain ⟨c, hc⟩ : ∃ c, t.ks[k]? = some c := ⟨t.ks[k]'(by have := hf.1; omega), List.getElem?_eq_getElem _⟩
    have e : midL (h + 1) t k = LL h t k ++ flat h c := by show LL h t k ++ (match t.ks[k]? with | some c => flat h c | none => []) = _; rw [hc]
    rw [e]
    refine ⟨?_, ?_⟩
    · show (if k + 1 ≤ t.ps.length then LL h t (k + 1) else flat (h + 1) t) = _
      rw [if_pos (show k + 1 ≤ t.ps.length from hl), LL_succ hc hq, List.append_assoc]
    · rw [flat_at (Nat.le_of_lt hl) hc, RR_some hq]
      exact ⟨_, by simp; rfl⟩
theorem mid_last {h : Nat} {t : T} (hf : Full h t) : midL h t t.ps.length = flat h t := by
  cases h with
  | zero => show t.ps.take t.ps.length = t.ps; exact List.take_length
  | succ h =>
    obtain ⟨c, hc⟩ : ∃ c, t.ks[t.ps.length]? = some c := ⟨t.ks[t.ps.length]'(by have := hf.1; omega), List.getElem?_eq_getElem _⟩
    show LL h t t.ps.length ++ (match t.ks[t.ps.length]? with | some c => flat h c | none => []) = _
    rw [hc, flat_at (Nat.le_refl _) hc, RR_none (Nat.le_refl _) hf.1, List.append_nil]
theorem mid_child {h : Nat} {t c : T} {k : Nat} (hk : k ≤ t.ps.length) (hc : t.ks[k]? = some c) : outL (h + 1) t k ++ flat h c = midL (h + 1) t k ∧ outL (h + 1) t k ++ flat h c <+: flat (h + 1) t := by
  have e1 : outL (h + 1) t k = LL h t k := by show (if k ≤ t.ps.length then LL h t k else flat (h + 1) t) = _; rw [if_pos hk]
  rw [e1]
  refine ⟨?_, ?_⟩
  · show _ = LL h t k ++ (match t.ks[k]? with | some c => flat h c | none => [])
    rw [hc]
  · rw [flat_at hk hc]
    exact List.prefix_append _ _

/-- Between two rounds of all's loop. -/
structure AS (J : List Pr → Bl → World → Prop) (K : Bl) (W0 W1 : World) (By : Nat) (out : List Pr) (Ds : List Nat) (Kc : Bl) (W : World) : Prop where
  pos : J out Kc W
  more : ∀ b, K b → Kc b
  by_ : Kc By
  lt : ∀ b, Kc b → b < W.heap.size
  stay : Stay (fun b => K b ∨ b = By) W1 W
  marks : ∀ D ∈ Ds, Kc D ∧ Shut W D ∧ W0.heap.size ≤ D
  once : Ds.Nodup
theorem AS.step {J : List Pr → Bl → World → Prop} {K Kc : Bl} {W0 W1 W W' : World} {By : Nat} {out out' : List Pr} {Ds : List Nat} (h : AS J K W0 W1 By out Ds Kc W) (hp : J out' Kc W') (hs : Stay Kc W W') : AS J K W0 W1 By out' Ds Kc W' :=
  ⟨hp, h.more, h.by_, fun b hb => Nat.lt_of_lt_of_le (h.lt b hb) hs.1, h.stay.trans (hs.less fun b hb => hb.elim (h.more b) fun e => by rw [e]; exact h.by_), fun D hD => ⟨(h.marks D hD).1, (hs.2 D (h.marks D hD).1).trans (h.marks D hD).2.1, (h.marks D hD).2.2⟩, h.once⟩
/-- Between two rounds of the range over a child. -/
def IA (J : List Pr → Bl → World → Prop) (out : List Pr) (K0 : Bl) (W2 : World) (s : List Pr) (Kx : Bl) (X : World) : Prop :=
  ∃ Kb : Bl, (∀ b, Kx b → Kb b) ∧ (∀ b, K0 b → Kb b) ∧ (∀ b, Kb b → b < X.heap.size) ∧ J (out ++ s) Kb X ∧ Stay K0 W2 X
theorem ia_abide {J : List Pr → Bl → World → Prop} {B0 : Nat} (hJ : Abide B0 J) (out : List Pr) {K0 : Bl} {W2 : World} (hB : B0 ≤ W2.heap.size) (hlt : ∀ b, K0 b → b < W2.heap.size) : Abide W2.heap.size (IA J out K0 W2) := by
  rintro s K A A' row ⟨Kb, h1, h2, h3, h4, h5⟩ hg hr K' hK'
  refine ⟨fun b => Kb b ∨ (A.heap.size ≤ b ∧ b < A'.heap.size), fun b hb => (hK' b hb).imp (h1 b) id, fun b hb => .inl (h2 b hb), fun b hb => ?_, hJ _ _ _ _ row h4 hg (fun r e => ⟨Nat.le_trans hB (hr r e).1, h1 r (hr r e).2⟩) _ (fun b hb => hb), h5.trans (Stay.grown hg (fun b hb => Nat.lt_of_lt_of_le (hlt b hb) h5.1) fun r e hk => ?_)⟩
  · rcases hb with hb | hb
    · exact Nat.lt_of_lt_of_le (h3 b hb) hg.size
    · exact hb.2
  · have h6 := (hr r e).1
    have h7 := hlt r hk
    omega
theorem stay_drew (K : Bl) (W : World) (n : Nat) : Stay K W (W.drewN n) := ⟨Nat.le_refl _, fun _ _ => rfl⟩
theorem grown_drew (W : World) (n : Nat) : W.grownBy (W.drewN n) none := ⟨rfl, rfl, rfl, Nat.le_refl _, fun _ _ _ => rfl⟩
end Go.Proofs.YtlnagdodnkhbmaaGreat

namespace Go.Proofs.YtlnagdodnkhbmaaGreat
open Go.RowKit Go.Shelf
set_option maxRecDepth 100000
attribute [local go_sem] Oper.semAt_some

/-- The contract, of every node of one height. -/
def AllAt (h : Nat) : Prop := ∀ (w : World) (P : Bl) (g Bn : Nat) (t : T), NodeAt P w h g t → Full h t → GoodT h t → Under P w → w.cell? ⟨Bn, 0, none⟩ = some (.pointer (some ⟨g, 0, none⟩)) → Gives Tryz.prog 137 #[.pointer (some ⟨Bn, 0, none⟩)] encP (flat h t) (fun b => b = Bn ∨ P b) w

set_option maxHeartbeats 8000000 in
theorem all_node (h : Nat) (ih : ∀ h', h = h' + 1 → AllAt h') : AllAt h := by
    intro w P g Bn t hn hf hg hu hb n l J Jx K W hW hGK hKW hJ hJx hY h0
    have hq100 := hg.node.2.2
    have HF : Hid (∀ W', Stay K W W' → W'.cell? ⟨Bn, 0, none⟩ = some (.pointer (some ⟨g, 0, none⟩)) ∧ NodeAt P W' h g t) := fun W' hs => by
      have h1 : Stay (fun b => b = Bn ∨ P b) w W' := hW.trans (hs.less hGK)
      exact ⟨(h1.cell (a := ⟨Bn, 0, none⟩) (.inl rfl)).trans hb, NodeAt.keep (fun b hb => h1.2 b (.inr hb)) hn⟩
    obtain ⟨c1, hnW⟩ := HF.out W (Stay.refl _ _)
    obtain ⟨vp, vk, gs, hh, hsd⟩ := nodeAt_iff.1 hnW
    obtain ⟨Ap, capp, rfl⟩ := hh.pairs.slice
    obtain ⟨Ak, capk, rfl⟩ := hh.kids.slice
    obtain ⟨n1, HN1⟩ : ∃ n1, Hid (n1 = t.ps.length) := ⟨_, rfl⟩
    obtain ⟨nk, HNK⟩ : ∃ nk, Hid (nk = gs.length) := ⟨_, rfl⟩
    obtain ⟨By, HBY⟩ : ∃ By, Hid (By = W.heap.size) := ⟨_, rfl⟩
    obtain ⟨W1, HW1⟩ : ∃ W1, Hid (W1 = W.alloc (.cells #[.func (.yield l) #[] #[]] 222)) := ⟨_, rfl⟩
    have HST1 : Hid (Stay K W W1) := by rw [HW1.out]; exact Stay.grown (World.grownBy_alloc W _ none) hKW (fun _ e => by cases e)
    have HY1 : Hid (W1.heap[By]? = some (.cells #[.func (.yield l) #[] #[]] 222 (0, 0))) := by rw [HW1.out, HBY.out]; exact heap_alloc_new W _
    have HCELLS : Hid (∀ W', Stay (fun b => K b ∨ b = By) W1 W' → W'.cell? ⟨Bn, 0, none⟩ = some (.pointer (some ⟨g, 0, none⟩)) ∧ W'.cell? ⟨g, 0, none⟩ = some (.slice Ap n1 capp) ∧ W'.cell? ⟨g, 0 + 1, none⟩ = some (.slice Ak nk capk) ∧ W'.cell? ⟨By, 0, none⟩ = some (.func (.yield l) #[] #[]) ∧ Hd P W' g (.slice Ap t.ps.length capp) (.slice Ak gs.length capk) t.ps gs ∧ Side (Sub P W' h) gs t.ks) := fun W' hs => by
      have h1 : Stay K W W' := HST1.out.trans (hs.less fun b h => .inl h)
      have h2 : ∀ b, P b → W'.heap[b]? = W.heap[b]? := fun b hb => h1.2 b (hGK b (.inr hb))
      have h3 := hh.keep h2
      have c0 := h3.c0
      have c1 := h3.c1'
      rw [← HN1.out] at c0
      rw [← HNK.out] at c1
      exact ⟨(HF.out W' h1).1, c0, c1, cell_of_row _ _ 0 _ _ _ ((hs.2 By (.inr rfl)).trans HY1.out), h3, hsd.imp fun _ _ hn => Sub.keep h2 hn⟩
    have hn1 : n1 ≤ 100 := by rw [HN1.out]; exact hq100
    have HY := hid hY
    have HJ := hid hJ
    have HJx := hid hJx
    have H0 := hid h0
    have HKW := hid hKW
    have HFULL := hid hf
    have HGOOD := hid hg
    have HGK := hid hGK
    have HUN := hid hu
    have HIH := hid ih
    have HWS : Hid (Under P W) := fun b hb => hKW b (hGK b (.inr hb))
    clear hY hJ hJx h0 hKW hn hg hu hb hW hGK hnW hh hsd hf ih c1
    obtain ⟨c1, c0, c2, cy, _, _⟩ := HCELLS.out W1 (Stay.refl _ _)
    rw [HW1.out] at c1 c0 c2 cy
    have hw1 : IntKind.i64.wrap ((n1 : Int) + 1) = (n1 : Int) + 1 := wrap_ok (by omega) (by omega)
    refine callsIn_of_wp_marks Tryz.func137 rfl trivial ?_ rfl
    simp only [Tryz.ntmps137, List.size_toArray, List.length_cons, List.length_nil, Nat.reduceAdd, Nat.reduceSub, Array.replicate_succ, Array.replicate_zero, List.push_toArray, List.append_toArray, List.nil_append, List.cons_append]
    gi_wp2
    rw [← HW1.out, ← HBY.out]
    clear c1 c0 c2 cy
    refine wpIn_loop (fun a Wr => ∃ (k : Nat) (Ds : List Nat) (Kc : Bl), ∃ u3 u4 u5 u6 u7 u8 u9 u10 u12 u13 u14 u15 u16 u17 u18 u19 u20 u21 u22 u23 u24 u25 u26 u27 u28 u29 u30 u31 u32 u33 u34 u35 u36 u37 u38 u39 u40 u41 u42 u43 u44 u45 u46 u47 u48 u49 u50 u51 u52 u53 u54 u55 u56 u57 u58 u59 u60 u61 u62 u63 u64 u65 : Value,  a = { tmps := #[.func (.yield l) #[] #[], .pointer (some ⟨Bn, 0, none⟩), .pointer (some ⟨By, 0, none⟩), u3, u4, u5, u6, u7, u8, u9, u10, .int .i64 ((n1 : Int) + 1), u12, u13, u14, u15, u16, u17, u18, u19, u20, u21, u22, u23, u24, u25, u26, u27, u28, u29, u30, u31, u32, u33, u34, u35, u36, u37, u38, u39, u40, u41, u42, u43, u44, u45, u46, u47, u48, u49, u50, u51, u52, u53, u54, u55, u56, u57, u58, u59, u60, u61, u62, u63, u64, u65], defers := Ds.map mark } ∧ u12 = .int .i64 (k : Int) ∧ k ≤ n1 + 1 ∧ AS J K W W1 By (outL h t k) Ds Kc Wr) (fun a _ => n1 + 1 - (intOf (a.tmps.getD 12 undef)).toNat) ?start ?round
    case start =>
      refine ⟨0, [], fun b => K b ∨ b = By, _, _, _, _, _, _, _, _, _, _, _, _, _, _, _, _, _, _, _, _, _, _, _, _, _, _, _, _, _, _, _, _, _, _, _, _, _, _, _, _, _, _, _, _, _, _, _, _, _, _, _, _, _, _, _, _, _, _, _, _, _, _, rfl, rfl, Nat.zero_le _, ?_, fun b h => .inl h, .inr rfl, fun b h => ?_, Stay.refl _ _, fun D h => by simp at h, List.nodup_nil⟩
      · rw [outL_zero, HBY.out, HW1.out]; exact Abide.alloc HJ.out H0.out _
      · have hs : W1.heap.size = W.heap.size + 1 := by rw [HW1.out]; simp
        rcases h with h | h
        · have := HKW.out b h; omega
        · have := HBY.out; omega
    case round =>
      rintro a Wr ⟨k, Ds, Kc, u3, u4, u5, u6, u7, u8, u9, u10, u12, u13, u14, u15, u16, u17, u18, u19, u20, u21, u22, u23, u24, u25, u26, u27, u28, u29, u30, u31, u32, u33, u34, u35, u36, u37, u38, u39, u40, u41, u42, u43, u44, u45, u46, u47, u48, u49, u50, u51, u52, u53, u54, u55, u56, u57, u58, u59, u60, u61, u62, u63, u64, u65, rfl, rfl, hk, hs⟩
      have HS := hid hs
      clear hs
      obtain ⟨c1, c0, c2, cy, _, _⟩ := HCELLS.out Wr HS.out.stay
      have HEND : Hid (∀ (out : List Pr) (Ds : List Nat) (Kc : Bl) (W' : World) (fnn : Func) (tmps : Array Value), fnn = Tryz.f137 → ((out = flat h t ∧ J out Kc W') ∨ (out <+: flat h t ∧ Jx out Kc W')) → (∀ b, K b → Kc b) → (∀ D ∈ Ds, Kc D ∧ Shut W' D ∧ W.heap.size ≤ D) → Ds.Nodup →
          LeavesInM Fence.wide n Tryz.prog fnn tmps (fun e W' => (∃ v, e = .returned v) ∧ (J (flat h t) K W' ∨ ∃ pre, pre <+: flat h t ∧ Jx pre K W')) (Ds.map mark) .returning W') := by
        rintro out Ds Kc W' fnn tmps rfl hpos hmore hmk honce
        refine leaves_keep (fun X => (out = flat h t ∧ J out Kc X) ∨ (out <+: flat h t ∧ Jx out Kc X)) Ds W' honce (fun D hD => (hmk D hD).2.1) hpos (fun D hD X hX => ?_) fun X hX => ?_
        · rcases hX with ⟨e, hX⟩ | ⟨e, hX⟩
          · exact .inl ⟨e, HJ.out _ _ _ _ (some D) hX (putObj_grown X D _) (fun r e => by injection e with e; subst e; exact ⟨(hmk D hD).2.2, (hmk D hD).1⟩) _ fun b h => .inl h⟩
          · exact .inr ⟨e, HJx.out _ _ _ _ (some D) hX (putObj_grown X D _) (fun r e => by injection e with e; subst e; exact ⟨(hmk D hD).2.2, (hmk D hD).1⟩) _ fun b h => .inl h⟩
        · refine ⟨_, results_none rfl _ _ _, ⟨_, rfl⟩, ?_⟩
          rcases hX with ⟨e, hX⟩ | ⟨e, hX⟩
          · rw [e] at hX; exact .inl (HJ.out.less hX hmore)
          · exact .inr ⟨out, e, HJx.out.less hX hmore⟩
      rcases Nat.lt_or_ge n1 k with hge | hle
      · -- all have been given
        obtain rfl : k = n1 + 1 := by omega
        have hki : ¬ ((n1 + 1 : Nat) : Int) < (n1 : Int) + 1 := by omega
        have hki2 : ¬ (n1 : Int) + 1 < (n1 : Int) + 1 := by omega
        gi_wp2
        have hpos := HS.out.pos
        rw [HN1.out, outL_end] at hpos
        exact HEND.out _ Ds Kc _ _ _ rfl (.inl ⟨rfl, hpos⟩) HS.out.more (fun D hD => HS.out.marks D hD) HS.out.once
      · have hki : (k : Int) < (n1 : Int) + 1 := by omega
        cases h with
        | zero =>
          have hnk : nk = 0 := by
            obtain ⟨_, _, _, _, _, hsd⟩ := HCELLS.out Wr HS.out.stay
            rw [HNK.out, hsd.1, show t.ks = [] from HFULL.out]; rfl
          subst hnk
          have hk0 : ¬ (k : Int) < 0 := by omega
          gi_wp2
          clear c1 c0 c2 cy
          obtain ⟨Wq, rfl⟩ : ∃ Wq, Wq = Wr := ⟨_, rfl⟩
          have HS2 : Hid (AS J K W W1 By (midL 0 t k) Ds Kc Wq) := HS.out
          have hkw : IntKind.i64.wrap ((k : Int) + 1) = (k : Int) + 1 := wrap_ok (by omega) (by omega)
          rcases Nat.lt_or_ge k n1 with hlt | hge
          · have hki2 : (k : Int) < n1 := by omega
            obtain ⟨q, hq⟩ : ∃ q, t.ps[k]? = some q := ⟨t.ps[k]'(by have := HN1.out; omega), List.getElem?_eq_getElem _⟩
            obtain ⟨c1, c0, c2, cy, hhq, _⟩ := HCELLS.out Wq HS2.out.stay
            obtain ⟨adp, rfl, p0, p1⟩ := hhq.pairs.pcell hq
            obtain ⟨m1, m2⟩ := mid_pair HFULL.out hq
            have HM1 := hid m1
            have HM2 := hid m2
            clear hhq hq m1 m2
            refine region_tail 25 (by kernel_rfl) (by kernel_rfl) (by kernel_rfl) ?_
            simp only [List.take_succ_cons, List.take_zero, List.drop_succ_cons, List.drop_zero]
            repeat (gi_big_quiet_step (fail))
            refine wpQuietIn_nil ?_
            intro _ hw'
            obtain ⟨nq, hw''⟩ := hw'
            subst hw''
            obtain ⟨fn, tmps, assign, body, hy, hR⟩ := HY.out (n - 1) _ q Kc (Wq.drewN nq) (HJ.out _ _ _ _ none HS2.out.pos (grown_drew Wq nq) (fun _ e => by cases e) Kc fun b h => .inl h) HS2.out.lt HM2.out
            dsimp only [encP] at hy
            gi_wp2
            refine ⟨fun h => (by cases h), hR.mono ?_⟩
            rintro e W3 (⟨rfl, hJ3, hs3⟩ | ⟨rfl, hJ3, hs3⟩)
            · have HJ3 := hid hJ3
              clear hJ3
              gi_wp2
              refine ⟨⟨k + 1, Ds, Kc, _, _, _, _, _, _, _, _, _, _, _, _, _, _, _, _, _, _, _, _, _, _, _, _, _, _, _, _, _, _, _, _, _, _, _, _, _, _, _, _, _, _, _, _, _, _, _, _, _, _, _, _, _, _, _, _, _, _, _, _, _, _, rfl, by go_num, by omega, ?_⟩, ?_⟩
              · rw [HM1.out]
                exact HS2.out.step HJ3.out ((stay_drew Kc Wq nq).trans hs3)
              · simp [intOf]; omega
            · have HJ3 := hid hJ3
              clear hJ3
              gi_wp2
              have hs4 := (stay_drew Kc Wq nq).trans hs3
              exact HEND.out _ Ds Kc _ _ _ rfl (.inr ⟨HM2.out, HJ3.out⟩) HS2.out.more (fun D hD => ⟨(HS2.out.marks D hD).1, (hs4.2 D (HS2.out.marks D hD).1).trans (HS2.out.marks D hD).2.1, (HS2.out.marks D hD).2.2⟩) HS2.out.once
          · have hkn : k = n1 := by omega
            have HKN := hid hkn
            clear hkn
            have hki2 : ¬ (k : Int) < (n1 : Int) := by omega
            have hki3 : decide (k < n1) = false := by simp; omega
            have hki4 : decide ((k : Int) < (n1 : Int)) = false := by simp; omega
            obtain ⟨c1, c0, c2, cy, _, _⟩ := HCELLS.out Wq HS2.out.stay
            refine region_tail 25 (by kernel_rfl) (by kernel_rfl) (by kernel_rfl) ?_
            simp only [List.take_succ_cons, List.take_zero, List.drop_succ_cons, List.drop_zero]
            repeat (gi_big_quiet_step (fail))
            refine wpQuietIn_nil ?_
            intro _ hw'
            obtain ⟨nq, hw''⟩ := hw'
            subst hw''
            gi_wp2
            refine ⟨fun _ _ => trivial, ?_⟩
            gi_wp2
            refine ⟨⟨k + 1, Ds, Kc, _, _, _, _, _, _, _, _, _, _, _, _, _, _, _, _, _, _, _, _, _, _, _, _, _, _, _, _, _, _, _, _, _, _, _, _, _, _, _, _, _, _, _, _, _, _, _, _, _, _, _, _, _, _, _, _, _, _, _, _, _, _, rfl, by go_num, by omega, ?_⟩, ?_⟩
            · rw [show outL 0 t (k + 1) = midL 0 t k by rw [HKN.out, HN1.out, outL_end, mid_last HFULL.out]]
              exact HS2.out.step (HJ.out _ _ _ _ none HS2.out.pos (grown_drew Wq nq) (fun _ e => by cases e) Kc fun b h => .inl h) (stay_drew Kc Wq nq)
            · simp [intOf]; omega
        | succ h =>
          have hnk : nk = n1 + 1 := by
            obtain ⟨_, _, _, _, _, hsd⟩ := HCELLS.out Wr HS.out.stay
            rw [HNK.out, hsd.1, HFULL.out.1, HN1.out]
          have hkk : (k : Int) < nk := by omega
          obtain ⟨c, hc⟩ : ∃ c, t.ks[k]? = some c := ⟨t.ks[k]'(by have := HFULL.out.1; have := HN1.out; omega), List.getElem?_eq_getElem _⟩
          obtain ⟨_, _, _, _, hhr, hsr⟩ := HCELLS.out Wr HS.out.stay
          obtain ⟨gc, hgc, hnc⟩ := hsr.at_ hc
          obtain ⟨adk, rfl, k0⟩ := hhr.kids.kcell hgc
          obtain ⟨mc1, mc2⟩ := mid_child (h := h) (by have := HN1.out; omega) hc
          have HMC1 := hid mc1
          have HMC2 := hid mc2
          have HNC : Hid (NodeAt P Wr h gc c) := hnc
          have HFC := hid (HFULL.out.2 c (List.mem_of_getElem? hc))
          have HGC := hid (HGOOD.out.2 c (List.mem_of_getElem? hc))
          clear hhr hsr hc hgc hnc mc1 mc2 hnk
          obtain ⟨W2, HW2⟩ : ∃ W2, Hid (W2 = Wr.alloc (.cells #[.pointer (some ⟨gc, 0, none⟩)] 155)) := ⟨_, rfl⟩
          gi_wp2_with (refine ⟨trivial, fun h => (by cases h), ?_⟩; gi_at_call 109; refine (callsIn_wide.2 (all_any Wr gc)).mono ?_; rintro e w2 ⟨rfl, rfl⟩)
          rw [← HW2.out]
          have hs2 : W2.heap.size = Wr.heap.size + 1 := by rw [HW2.out]; simp
          have HK0 : Hid (∀ b, (Kc b ∨ b = Wr.heap.size) → b < W2.heap.size) := fun b hb => by
            rcases hb with hb | hb
            · have := HS.out.lt b hb; omega
            · omega
          have hwr : W.heap.size ≤ Wr.heap.size := by
            have h1 := HS.out.lt By HS.out.by_
            have h2 := HBY.out
            omega
          have HST2 : Hid (Stay Kc Wr W2) := by rw [HW2.out]; exact Stay.grown (World.grownBy_alloc Wr _ none) HS.out.lt (fun _ e => by cases e)
          have hkp : ∀ b, P b → Kc b := fun b hb => HS.out.more b (HGK.out b (.inr hb))
          have hgv : Gives Tryz.prog 137 #[.pointer (some ⟨Wr.heap.size, 0, none⟩)] encP (flat h c) (fun b => b = Wr.heap.size ∨ P b) W2 := HIH.out h rfl W2 P gc Wr.heap.size c (NodeAt.keep (fun b hb => HST2.out.2 b (hkp b hb)) HNC.out) HFC.out HGC.out (fun b hb => Nat.lt_of_lt_of_le (HS.out.lt b (hkp b hb)) HST2.out.1) (by rw [HW2.out]; exact cell_of_row _ _ 0 _ _ _ (heap_alloc_new Wr _))
          have hAb := ia_abide (J := J) (K0 := fun b => Kc b ∨ b = Wr.heap.size) (W2 := W2) HJ.out (outL (h + 1) t k) (by omega) HK0.out
          have hAx := ia_abide (J := Jx) (K0 := fun b => Kc b ∨ b = Wr.heap.size) (W2 := W2) HJx.out (outL (h + 1) t k) (by omega) HK0.out
          have HAB := hid hAb
          refine range_own (gf := 137) (lb := #[.pointer (some ⟨Wr.heap.size, 0, none⟩)]) rfl (enters_of Tryz.func137 (by kernel_rfl) rfl) hgv (Stay.refl _ _) (fun _ => rfl)
            (IA J (outL (h + 1) t k) (fun b => Kc b ∨ b = Wr.heap.size) W2) (fun cd s Kx X => cd = .ret ∧ IA Jx (outL (h + 1) t k) (fun b => Kc b ∨ b = Wr.heap.size) W2 s Kx X) hAb (fun cd s K A A' row hi hg hr K' hK' => ⟨hi.1, hAx s K A A' row hi.2 hg hr K' hK'⟩)
            (fun b => Kc b ∨ b = Wr.heap.size) (fun b hb => hb.elim .inr fun h => .inl (hkp b h)) HK0.out ?start2 ?round2 ?done2 ?stop2
          case start2 =>
            refine ⟨fun b => Kc b ∨ b = Wr.heap.size, fun b h => h, fun b h => h, HK0.out, ?_, Stay.refl _ _⟩
            rw [List.append_nil, HW2.out]
            exact Abide.alloc HJ.out HS.out.pos _
          case round2 =>
            intro l2 pre x Kx X mm hi hKX hKl hl2 hpre
            unfold encP
            gi_wp2
            refine ⟨Stay.refl _ _, fun X2 hg2 => ?_⟩
            have hi2 := HAB.out _ _ _ _ _ hi hg2 (fun r e => by injection e with e; subst e; exact ⟨hl2, hKl⟩) Kx fun b hb => .inl hb
            obtain ⟨Kb, z1, z2, z3, z4, z5⟩ := hi2
            have hcyy : W2.cell? ⟨By, 0, none⟩ = some (.func (.yield l) #[] #[]) := (HST2.out.cell (a := ⟨By, 0, none⟩) HS.out.by_).trans (HCELLS.out Wr HS.out.stay).2.2.2.1
            have cy := (z5.cell (a := ⟨By, 0, none⟩) (.inl HS.out.by_)).trans hcyy
            have hpre2 : (outL (h + 1) t k ++ pre) ++ [x] <+: flat (h + 1) t := by
              rw [List.append_assoc]
              exact ((List.prefix_append_right_inj _).2 hpre).trans HMC2.out
            obtain ⟨fn, tmps, assign, body, hy, hR⟩ := HY.out (mm - 1) _ x Kb X2 z4 z3 hpre2
            dsimp only [encP] at hy
            have HZ := hid z1
            have HZ2 := hid z2
            have HZ3 := hid z3
            have HZ5 := hid z5
            clear z1 z2 z3 z4 z5 hcyy hi hpre hAb hAx hpre2 hgv hg2
            gi_wp2
            refine ⟨fun h => (by cases h), RoundIn.mono (F := Fence.wide.inRound l2) hR ?_⟩
            rintro e W3 (⟨rfl, hJ3, hs3⟩ | ⟨rfl, hJ3, hs3⟩)
            · have HI3 : Hid (Stay Kx X2 W3 ∧ IA J (outL (h + 1) t k) (fun b => Kc b ∨ b = Wr.heap.size) W2 (pre ++ [x]) Kx W3) := by
                refine ⟨hs3.less HZ.out, Kb, HZ.out, HZ2.out, fun b hb => Nat.lt_of_lt_of_le (HZ3.out b hb) hs3.1, by rw [← List.append_assoc]; exact hJ3, HZ5.out.trans (hs3.less HZ2.out)⟩
              clear hJ3 hs3
              gi_wp2
              exact HI3.out
            · have HI3 : Hid (Stay Kx X2 W3 ∧ IA Jx (outL (h + 1) t k) (fun b => Kc b ∨ b = Wr.heap.size) W2 (pre ++ [x]) Kx W3) := by
                refine ⟨hs3.less HZ.out, Kb, HZ.out, HZ2.out, fun b hb => Nat.lt_of_lt_of_le (HZ3.out b hb) hs3.1, by rw [← List.append_assoc]; exact hJ3, HZ5.out.trans (hs3.less HZ2.out)⟩
              clear hJ3 hs3
              gi_wp2
              exact ⟨HI3.out.1, rfl, HI3.out.2⟩
          case done2 =>
            intro D Kx Wq hi hK0 hKD hlD hsh
            obtain ⟨Kd, z1, z2, z3, z4, z5⟩ := hi
            obtain ⟨Es, HES⟩ : ∃ Es, Es = D :: Ds := ⟨_, rfl⟩
            have HS2 : Hid (AS J K W W1 By (midL (h + 1) t k) Es Kd Wq) := by
              rw [HMC1.out] at z4
              have hsw : Stay Kc Wr Wq := HST2.out.trans (z5.less fun b hb => .inl hb)
              rw [HES]
              refine ⟨z4, fun b hb => z2 b (.inl (HS.out.more b hb)), z2 By (.inl HS.out.by_), z3, HS.out.stay.trans (hsw.less fun b hb => hb.elim (HS.out.more b) fun e => by rw [e]; exact HS.out.by_), fun E hE => ?_, ?_⟩
              · rcases List.mem_cons.1 hE with e | hE
                · subst e
                  exact ⟨z1 E hKD, hsh, by omega⟩
                · obtain ⟨y1, y2, y3⟩ := HS.out.marks E hE
                  exact ⟨z2 E (.inl y1), (hsw.2 E y1).trans y2, y3⟩
              · refine List.nodup_cons.2 ⟨fun hm => ?_, HS.out.once⟩
                have := HS.out.lt D (HS.out.marks D hm).1
                omega
            have hdm : mark D :: Ds.map mark = Es.map mark := by rw [HES]; rfl
            clear z1 z2 z3 z4 z5 hAb hAx hgv HES hK0 hsh hKD
            rw [hdm]
            clear hdm
            gi_wp2
            have hkw : IntKind.i64.wrap ((k : Int) + 1) = (k : Int) + 1 := wrap_ok (by omega) (by omega)
            rcases Nat.lt_or_ge k n1 with hlt | hge
            · have hki2 : (k : Int) < n1 := by omega
              obtain ⟨q, hq⟩ : ∃ q, t.ps[k]? = some q := ⟨t.ps[k]'(by have := HN1.out; omega), List.getElem?_eq_getElem _⟩
              obtain ⟨c1, c0, c2, cy, hhq, _⟩ := HCELLS.out Wq HS2.out.stay
              obtain ⟨adp, rfl, p0, p1⟩ := hhq.pairs.pcell hq
              obtain ⟨m1, m2⟩ := mid_pair HFULL.out hq
              have HM1 := hid m1
              have HM2 := hid m2
              clear hhq hq m1 m2
              refine region_tail 25 (by kernel_rfl) (by kernel_rfl) (by kernel_rfl) ?_
              simp only [List.take_succ_cons, List.take_zero, List.drop_succ_cons, List.drop_zero]
              repeat (gi_big_quiet_step (fail))
              refine wpQuietIn_nil ?_
              intro _ hw'
              obtain ⟨nq, hw''⟩ := hw'
              subst hw''
              obtain ⟨fn, tmps, assign, body, hy, hR⟩ := HY.out (n - 1) _ q Kd (Wq.drewN nq) (HJ.out _ _ _ _ none HS2.out.pos (grown_drew Wq nq) (fun _ e => by cases e) Kd fun b h => .inl h) HS2.out.lt HM2.out
              dsimp only [encP] at hy
              gi_wp2
              refine ⟨fun h => (by cases h), hR.mono ?_⟩
              rintro e W3 (⟨rfl, hJ3, hs3⟩ | ⟨rfl, hJ3, hs3⟩)
              · have HJ3 := hid hJ3
                clear hJ3
                gi_wp2
                refine ⟨⟨k + 1, Es, Kd, _, _, _, _, _, _, _, _, _, _, _, _, _, _, _, _, _, _, _, _, _, _, _, _, _, _, _, _, _, _, _, _, _, _, _, _, _, _, _, _, _, _, _, _, _, _, _, _, _, _, _, _, _, _, _, _, _, _, _, _, _, _, rfl, by go_num, by omega, ?_⟩, ?_⟩
                · rw [HM1.out]
                  exact HS2.out.step HJ3.out ((stay_drew Kd Wq nq).trans hs3)
                · simp [intOf]; omega
              · have HJ3 := hid hJ3
                clear hJ3
                gi_wp2
                have hs4 := (stay_drew Kd Wq nq).trans hs3
                exact HEND.out _ Es Kd _ _ _ rfl (.inr ⟨HM2.out, HJ3.out⟩) HS2.out.more (fun D hD => ⟨(HS2.out.marks D hD).1, (hs4.2 D (HS2.out.marks D hD).1).trans (HS2.out.marks D hD).2.1, (HS2.out.marks D hD).2.2⟩) HS2.out.once
            · have hkn : k = n1 := by omega
              have HKN := hid hkn
              clear hkn
              have hki2 : ¬ (k : Int) < (n1 : Int) := by omega
              have hki3 : decide (k < n1) = false := by simp; omega
              have hki4 : decide ((k : Int) < (n1 : Int)) = false := by simp; omega
              obtain ⟨c1, c0, c2, cy, _, _⟩ := HCELLS.out Wq HS2.out.stay
              refine region_tail 25 (by kernel_rfl) (by kernel_rfl) (by kernel_rfl) ?_
              simp only [List.take_succ_cons, List.take_zero, List.drop_succ_cons, List.drop_zero]
              repeat (gi_big_quiet_step (fail))
              refine wpQuietIn_nil ?_
              intro _ hw'
              obtain ⟨nq, hw''⟩ := hw'
              subst hw''
              gi_wp2
              refine ⟨fun _ _ => trivial, ?_⟩
              gi_wp2
              refine ⟨⟨k + 1, Es, Kd, _, _, _, _, _, _, _, _, _, _, _, _, _, _, _, _, _, _, _, _, _, _, _, _, _, _, _, _, _, _, _, _, _, _, _, _, _, _, _, _, _, _, _, _, _, _, _, _, _, _, _, _, _, _, _, _, _, _, _, _, _, _, rfl, by go_num, by omega, ?_⟩, ?_⟩
              · rw [show outL (h + 1) t (k + 1) = midL (h + 1) t k by rw [HKN.out, HN1.out, outL_end, mid_last HFULL.out]]
                exact HS2.out.step (HJ.out _ _ _ _ none HS2.out.pos (grown_drew Wq nq) (fun _ e => by cases e) Kd fun b h => .inl h) (stay_drew Kd Wq nq)
              · simp [intOf]; omega
          case stop2 =>
            rintro D cd pre Kx X hpre ⟨rfl, hi⟩ hK0 hKD hlD hsh
            obtain ⟨Kb, z1, z2, z3, z4, z5⟩ := hi
            have hsw : Stay Kc Wr X := HST2.out.trans (z5.less fun b hb => .inl hb)
            have hout : outL (h + 1) t k ++ pre <+: flat (h + 1) t := ((List.prefix_append_right_inj _).2 hpre).trans HMC2.out
            have HL := hid (fun (tmps : Array Value) => HEND.out _ (D :: Ds) Kb X _ tmps rfl (.inr ⟨hout, z4⟩) (fun b hb => z2 b (.inl (HS.out.more b hb))) (fun E hE => by
              rcases List.mem_cons.1 hE with e | hE
              · subst e
                exact ⟨z1 E hKD, hsh, by omega⟩
              · obtain ⟨y1, y2, y3⟩ := HS.out.marks E hE
                exact ⟨z2 E (.inl y1), (hsw.2 E y1).trans y2, y3⟩) (List.nodup_cons.2 ⟨fun hm => by have := HS.out.lt D (HS.out.marks D hm).1; omega, HS.out.once⟩))
            gi_wp2
            exact HL.out _
end Go.Proofs.YtlnagdodnkhbmaaGreat

namespace Go.Proofs.YtlnagdodnkhbmaaGreat
open Go.RowKit
set_option maxRecDepth 100000

theorem all_at : ∀ h, AllAt h
  | 0 => all_node 0 fun h' e => by cases e
  | h + 1 => all_node (h + 1) fun h' e => by
    injection e with e
    subst e
    exact all_at h
theorem tree_all (w : World) (p o : Nat) (l : List Pr) (P : Bl) (H g : Nat) (t : T) (hT : TreeIn w p o l P H g t) : Calls Tryz.prog 77 #[.pointer (some ⟨p, 0, none⟩)] w fun e w' =>
    e = .returned (.func (.func 137) #[] #[.pointer (some ⟨w.heap.size, 0, none⟩)]) ∧ Below w.heap.size w w' ∧ w'.heap.size = w.heap.size + 1 ∧ Gives Tryz.prog 137 #[.pointer (some ⟨w.heap.size, 0, none⟩)] encP l (fun b => b = w.heap.size ∨ P b) w' := by
  have c2 := hT.c.c2'
  have HT := hid hT
  clear hT
  go_enter Tryz.func77, Tryz.ntmps77
  go_wp2_with fail
  refine (all_any w g).mono ?_
  rintro e w' ⟨rfl, rfl⟩
  go_wp2
  go_ret
  have hb : Below w.heap.size w (w.alloc (.cells #[.pointer (some ⟨g, 0, none⟩)] 155)) := (Below.refl _ _).alloc (Nat.le_refl _) _
  have h := HT.out.below hb
  refine ⟨rfl, hb, by simp, ?_⟩
  rw [← h.fl]
  exact all_at H _ P g w.heap.size t h.node h.full h.good h.under (cell_of_row _ _ 0 _ _ _ (heap_alloc_new w _))
end Go.Proofs.YtlnagdodnkhbmaaGreat

/- The least key that is not ahead of one: where a way, from behind, first has a pair at its place. -/
namespace Go.Proofs.YtlnagdodnkhbmaaGreat
open Go.RowKit
set_option maxRecDepth 100000

def lastFit : List (T × Nat) → Option Pr
  | [] => none
  | x :: r => (lastFit r).or (x.1.ps[x.2]?)
theorem lastFit_app : ∀ p q : List (T × Nat), lastFit (p ++ q) = (lastFit q).or (lastFit p)
  | [], q => by show lastFit q = (lastFit q).or none; cases lastFit q <;> rfl
  | x :: p, q => by
    show (lastFit (p ++ q)).or _ = (lastFit q).or ((lastFit p).or _)
    rw [lastFit_app p q, Option.or_assoc]
theorem lastFit_drop {p : List (T × Nat)} {j : Nat} {q : Pr} (h : lastFit (p.drop j) = some q) : lastFit p = some q := by
  have := lastFit_app (p.take j) (p.drop j)
  rw [List.take_append_drop, h] at this
  exact this
theorem lastFit_at {p : List (T × Nat)} {j : Nat} {x : T × Nat} (h : p[j]? = some x) : lastFit (p.drop j) = (lastFit (p.drop (j + 1))).or (x.1.ps[x.2]?) := by
  have hl := (List.getElem?_eq_some_iff.1 h).1
  rw [List.drop_eq_getElem_cons hl, (List.getElem?_eq_some_iff.1 h).2]
  rfl
theorem RRp_head {o : Nat} : ∀ {p : List (T × Nat)} {H lo : Nat}, POk o H lo p → (RRp H p).head? = lastFit p
  | [], H, _, _ => by rw [RRp_nil]; rfl
  | x :: p, 0, _, h => h.elim
  | x :: p, H + 1, lo, h => by
    show (RRp H p ++ RR H x.1 x.2).head? = (lastFit p).or (x.1.ps[x.2]?)
    rw [List.head?_append, RRp_head h.2.2]
    congr 1
    rcases Nat.lt_or_ge x.2 x.1.ps.length with hl | hl
    · have e : x.1.ps[x.2]? = some (x.1.ps[x.2]'hl) := List.getElem?_eq_getElem hl
      rw [RR_some e, e]; rfl
    · rw [RR_none hl h.1.2.1, List.getElem?_eq_none hl]; rfl
theorem get_len {X Z : List Pr} : (X ++ Z)[X.length]? = Z.head? := by
  rw [List.getElem?_append_right (Nat.le_refl _), Nat.sub_self]
  cases Z <;> rfl
theorem ceil_of {o H lo : Nat} {t : T} {k : List Nat} {init : List (T × Nat)} {tl : T} (q : WayOf o H lo t k init tl) (hr : Rising (flat H t)) : (flat H t)[atN (flat H t) k]? = lastFit (init ++ [(tl, atN tl.ps k)]) := by
  have e : lastFit (init ++ [(tl, atN tl.ps k)]) = (tl.ps[atN tl.ps k]?).or (lastFit init) := by
    rw [lastFit_app]
    rfl
  rw [e]
  cases hg : getL tl.ps k with
  | some v =>
    obtain ⟨v2, hv⟩ := find_lt (t := tl) (k := k) (by rw [hg]; rfl)
    obtain ⟨X, Z, h1, h2, _, _⟩ := q.split hr hv
    rw [hv, h1, (at_found h2).1, get_len]
    rfl
  | none =>
    obtain ⟨X, Z, h1, h2, h3, h4, h5⟩ := q.gap hr hg
    rw [h1, (at_none h2 h3).1, get_len, h5, List.head?_append, RRp_head q.pok]
    congr 1
    rw [List.head?_drop]
end Go.Proofs.YtlnagdodnkhbmaaGreat

namespace Go.Proofs.YtlnagdodnkhbmaaGreat
open Go.RowKit Go.Shelf
set_option maxRecDepth 100000
attribute [local go_sem] Oper.semAt_some

/-- The three results' blocks. -/
structure Three (n : Nat) (x y : Value) (c : Int) (X : World) : Prop where
  k : X.heap[n]? = some (.cells #[x] 9 (0, 0))
  v : X.heap[n + 1]? = some (.cells #[y] 9 (0, 0))
  e : X.heap[n + 2]? = some (.cells #[.int .i64 c] 34 (0, 0))
def ceilV (r : Option Pr) : Value := match r with
  | some q => .tuple #[.string (str q.1), .string (str q.2), .int .i64 0]
  | none => .tuple #[.string (str []), .string (str []), .int .i64 14]
/-- Between two rounds of Ceil's loop. -/
def CI (w : World) (B m : Nat) (path : List (T × Nat)) (pre : List (Nat × (Nat × Nat))) (K : Bl) (W : World) : Prop :=
  Below w.heap.size w W ∧ B ≤ W.heap.size ∧ lastFit (path.drop (m - pre.length)) = none ∧ Three w.heap.size (.string (str [])) (.string (str [])) 0 W ∧ ∀ b, K b → b < W.heap.size ∧ b ≠ w.heap.size ∧ b ≠ w.heap.size + 1 ∧ b ≠ w.heap.size + 2
def CX (w : World) (B : Nat) (path : List (T × Nat)) (c : Code) (_pre : List (Nat × (Nat × Nat))) (_K : Bl) (W : World) : Prop :=
  c = .ret ∧ Below w.heap.size w W ∧ B ≤ W.heap.size ∧ ∃ q, lastFit path = some q ∧ Three w.heap.size (.string (str q.1)) (.string (str q.2)) 0 W
theorem Three.keep {n : Nat} {x y : Value} {c : Int} {A A' : World} (h : Three n x y c A) {row : Option Nat} (hg : A.grownBy A' row) (hr : ∀ r, row = some r → n + 3 ≤ r) : Three n x y c A' :=
  ⟨(hg.block _ (Array.getElem?_eq_some_iff.1 h.k).1 fun e => by have := hr _ e.symm; omega).trans h.k, (hg.block _ (Array.getElem?_eq_some_iff.1 h.v).1 fun e => by have := hr _ e.symm; omega).trans h.v, (hg.block _ (Array.getElem?_eq_some_iff.1 h.e).1 fun e => by have := hr _ e.symm; omega).trans h.e⟩
theorem ci_abide (w : World) (B m : Nat) (path : List (T × Nat)) (hB : w.heap.size + 3 ≤ B) : Abide B (CI w B m path) := by
  rintro s K A A' row ⟨h1, h2, h3, h4, h5⟩ hg hr K' hK'
  refine ⟨h1.grown hg h1.size (fun r e => by have := (hr r e).1; omega), Nat.le_trans h2 hg.size, h3, h4.keep hg (fun r e => by have := (hr r e).1; omega), fun b hb => ?_⟩
  rcases hK' b hb with h | h
  · obtain ⟨q1, q2⟩ := h5 b h
    exact ⟨Nat.lt_of_lt_of_le q1 hg.size, q2⟩
  · exact ⟨h.2, by omega, by omega, by omega⟩
theorem cx_abide (w : World) (B : Nat) (path : List (T × Nat)) (c : Code) (hB : w.heap.size + 3 ≤ B) : Abide B (CX w B path c) := by
  rintro s K A A' row ⟨h0, h1, h2, q, h3, h4⟩ hg hr K' hK'
  exact ⟨h0, h1.grown hg h1.size (fun r e => by have := (hr r e).1; omega), Nat.le_trans h2 hg.size, q, h3, h4.keep hg (fun r e => by have := (hr r e).1; omega)⟩

/-- As the results are written, in whatever order. -/
structure CG (w W2 : World) (B : Nat) (K : Bl) (x y : Value) (c : Int) (X : World) : Prop where
  three : Three w.heap.size x y c X
  base : Below w.heap.size w X
  low : B ≤ X.heap.size
  stay : Stay K W2 X
section
variable {w W2 X : World} {B : Nat} {K : Bl} {x y x' : Value} {c c' : Int}
theorem setCell_size (X : World) (p : Addr) (u : Value) : (X.setCell p u).heap.size = X.heap.size := by simp [World.setCell]
theorem CG.s0 (hK : ∀ b, K b → b ≠ w.heap.size ∧ b ≠ w.heap.size + 1 ∧ b ≠ w.heap.size + 2) (h : CG w W2 B K x y c X) : CG w W2 B K x' y c (X.setCell ⟨w.heap.size, 0, none⟩ x') := by
  have hf : ∀ b, b ≠ w.heap.size → (X.setCell ⟨w.heap.size, 0, none⟩ x').heap[b]? = X.heap[b]? := fun b hb => Below.heap_setCell _ _ _ _ hb
  exact ⟨⟨by have := h.three.k; simp [World.setCell, Array.getElem?_modify, this], (hf _ (by omega)).trans h.three.v, (hf _ (by omega)).trans h.three.e⟩, h.base.setCell (p := ⟨w.heap.size, 0, none⟩) (Nat.le_refl _) _, by rw [setCell_size]; exact h.low, ⟨by rw [setCell_size]; exact h.stay.1, fun b hb => (hf b (hK b hb).1).trans (h.stay.2 b hb)⟩⟩
theorem CG.s1 (hK : ∀ b, K b → b ≠ w.heap.size ∧ b ≠ w.heap.size + 1 ∧ b ≠ w.heap.size + 2) (h : CG w W2 B K x y c X) : CG w W2 B K x x' c (X.setCell ⟨w.heap.size + 1, 0, none⟩ x') := by
  have hf : ∀ b, b ≠ w.heap.size + 1 → (X.setCell ⟨w.heap.size + 1, 0, none⟩ x').heap[b]? = X.heap[b]? := fun b hb => Below.heap_setCell _ _ _ _ hb
  exact ⟨⟨(hf _ (by omega)).trans h.three.k, by have := h.three.v; simp [World.setCell, Array.getElem?_modify, this], (hf _ (by omega)).trans h.three.e⟩, h.base.setCell (p := ⟨w.heap.size + 1, 0, none⟩) (by show _ ≤ _ + 1; omega) _, by rw [setCell_size]; exact h.low, ⟨by rw [setCell_size]; exact h.stay.1, fun b hb => (hf b (hK b hb).2.1).trans (h.stay.2 b hb)⟩⟩
theorem CG.s2 (hK : ∀ b, K b → b ≠ w.heap.size ∧ b ≠ w.heap.size + 1 ∧ b ≠ w.heap.size + 2) (h : CG w W2 B K x y c X) : CG w W2 B K x y c' (X.setCell ⟨w.heap.size + 1 + 1, 0, none⟩ (.int .i64 c')) := by
  have hf : ∀ b, b ≠ w.heap.size + 2 → (X.setCell ⟨w.heap.size + 1 + 1, 0, none⟩ (.int .i64 c')).heap[b]? = X.heap[b]? := fun b hb => Below.heap_setCell _ _ _ _ hb
  exact ⟨⟨(hf _ (by omega)).trans h.three.k, (hf _ (by omega)).trans h.three.v, by have := h.three.e; simp [World.setCell, Array.getElem?_modify, this]⟩, h.base.setCell (p := ⟨w.heap.size + 1 + 1, 0, none⟩) (by show _ ≤ _ + 1 + 1; omega) _, by rw [setCell_size]; exact h.low, ⟨by rw [setCell_size]; exact h.stay.1, fun b hb => (hf b (hK b hb).2.2).trans (h.stay.2 b hb)⟩⟩
theorem CG.drew_ (h : CG w W2 B K x y c X) : CG w W2 B K x y c X.drew := ⟨⟨h.three.k, h.three.v, h.three.e⟩, ⟨h.base.os, h.base.tape, h.base.output, h.base.size, h.base.block⟩, h.low, ⟨h.stay.1, h.stay.2⟩⟩
theorem CG.undrew (h : CG w W2 B K x y c X.drew) : CG w W2 B K x y c X := ⟨⟨h.three.k, h.three.v, h.three.e⟩, ⟨h.base.os, h.base.tape, h.base.output, h.base.size, h.base.block⟩, h.low, ⟨h.stay.1, h.stay.2⟩⟩
/-- What the stores and loads of the last region ask. -/
def S8 (n m : Nat) (q : Pr) (X : World) : Prop := X.cell? ⟨m, 0, none⟩ = some (.string (str q.1)) ∧ X.cell? ⟨m, 1, none⟩ = some (.string (str q.2)) ∧ X.frozen? ⟨n, 0, none⟩ = false ∧ X.frozen? ⟨n + 1, 0, none⟩ = false ∧ X.frozen? ⟨n + 1 + 1, 0, none⟩ = false
theorem frozen_set (X : World) (p a : Addr) (u : Value) : (X.setCell p u).frozen? a = X.frozen? a := by
  by_cases e : p.block = a.block
  · simp only [World.frozen?, World.setCell, Array.getElem?_modify, if_pos e]
    cases X.heap[a.block]? with
    | none => rfl
    | some o => cases o <;> rfl
  · unfold World.frozen?
    rw [Below.heap_setCell X p u a.block (Ne.symm e)]
theorem S8.set {n m : Nat} {q : Pr} {X : World} {a : Addr} {u : Value} (ha : a.block ≠ m) (h : S8 n m q X) : S8 n m q (X.setCell a u) :=
  ⟨(World.cell?_of_block (Below.heap_setCell X a u m (Ne.symm ha))).trans h.1, (World.cell?_of_block (Below.heap_setCell X a u m (Ne.symm ha))).trans h.2.1, (frozen_set _ _ _ _).trans h.2.2.1, (frozen_set _ _ _ _).trans h.2.2.2.1, (frozen_set _ _ _ _).trans h.2.2.2.2⟩
end

set_option maxHeartbeats 8000000 in
theorem tree_ceil (w : World) (p o : Nat) (l : List Pr) (P : Bl) (H g : Nat) (t : T) (k : List Nat) (hT : TreeIn w p o l P H g t) (hl : l.length ≤ 5000) (hkb : Byt k) :
    Calls Tryz.prog 96 #[.pointer (some ⟨p, 0, none⟩), .string (str k)] w fun e w' => e = .returned (ceilV (lastFit (pathT H t k))) ∧ Below w.heap.size w w' := by
  have HT := hid hT
  have HDEEP := hid (hT.deep hl)
  have HD := hid (fun (W : World) (hb : Below w.heap.size w W) => down_any W P H g t k (NodeAt.keep (hT.under.stay hb) hT.node) (hT.under.later hb.size) hT.good hT.full hkb (hT.deep hl))
  obtain ⟨W0, HW0⟩ : ∃ W0, Hid (W0 = ((w.alloc (.cells #[.string { data := #[] }] 9)).alloc (.cells #[.string { data := #[] }] 9)).alloc (.cells #[.int .i64 0] 34)) := ⟨_, rfl⟩
  have HB0 : Hid (Below w.heap.size w W0) := by rw [HW0.out]; exact (((Below.refl _ w).alloc (Nat.le_refl _) _).alloc (by simp) _).alloc (by simp; omega) _
  have HS0 : Hid (W0.heap.size = w.heap.size + 3) := by show _ = _; rw [HW0.out]; simp
  have HTH0 : Hid (Three w.heap.size (.string (str [])) (.string (str [])) 0 W0) := by
    rw [HW0.out, str_nil]
    refine ⟨hp_old (hp_old (heap_alloc_new w _)), hp_old (hp_new (by simp)), hp_new (by simp)⟩
  have c2 := (HT.out.below HB0.out).c.c2'
  rw [HW0.out] at c2
  clear hT
  refine (callsIn_wide (n := 3)).1 ?_
  refine callsIn_of_wp_marks Tryz.func96 rfl trivial ?_ rfl
  simp only [Tryz.ntmps96, List.size_toArray, List.length_cons, List.length_nil, Nat.reduceAdd, Nat.reduceSub, Array.replicate_succ, Array.replicate_zero, List.push_toArray, List.append_toArray, List.nil_append, List.cons_append]
  gi_wp2_with fail
  rw [← HW0.out]
  refine ⟨trivial, ?_⟩
  refine (callsIn_wide.2 (HD.out W0 HB0.out)).mono ?_
  rintro e w1 ⟨vw, ss, rfl, hb, hmid, hw⟩
  obtain ⟨Aw, nw, cw, rfl⟩ := hmid.rows.form
  obtain ⟨path, HPATH⟩ : ∃ path, Hid (path = pathT H t k) := ⟨_, rfl⟩
  have HB1 : Hid (Below W0.heap.size W0 w1) := hb
  have HEL := hid hmid.rows
  have HNW : Hid (nw = ss.length) := hmid.rows.cap.1
  have HFOOT : Hid (∀ b ∈ ownFoot (.slice Aw nw cw), W0.heap.size ≤ b ∧ b < w1.heap.size) := fun b hb => (hmid.foot b hb).elim (fun h => by cases h) id
  have HWAY : Hid (WayAt P w H ss path) := by
    rw [HPATH.out]
    exact hw.keep fun b hb => (HB0.out.block b (HT.out.under b hb)).symm
  have hnw : nw ≤ 5001 := by have := HWAY.out.deep; have := HDEEP.out; have := HNW.out; omega
  clear hb hmid hw c2
  gi_wp2_with fail
  refine ⟨trivial, ?_⟩
  refine (callsIn_wide.2 (backward_any w1 Aw nw cw)).mono ?_
  rintro e w2 ⟨rfl, rfl⟩
  gi_wp2
  obtain ⟨wL, HWL⟩ : ∃ wL, Hid (wL = w1.alloc (.cells #[.slice Aw nw cw] 158)) := ⟨_, rfl⟩
  rw [← HWL.out]
  have HB1L : Hid (Below w1.heap.size w1 wL) := by rw [HWL.out]; exact (Below.refl _ _).alloc (Nat.le_refl _) _
  have HBL : Hid (Below w.heap.size w wL) := below_step HB0.out (below_step HB1.out HB1L.out)
  have HSL : Hid (wL.heap.size = w1.heap.size + 1 ∧ w.heap.size + 3 ≤ w1.heap.size) := by
    refine ⟨by rw [HWL.out]; simp, ?_⟩
    have := HB1.out.size
    have := HS0.out
    omega
  have hbx : wL.cell? ⟨w1.heap.size, 0, none⟩ = some (.slice Aw nw cw) := by rw [HWL.out]; exact cell_of_row _ _ 0 _ _ _ (heap_alloc_new w1 _)
  have hel := HEL.out.below HB1L.out
  have HAB := hid (ci_abide w wL.heap.size nw path (by have := HSL.out; omega))
  rw [HNW.out] at hbx hel
  refine range_own (gf := 150) (lb := #[.pointer (some ⟨w1.heap.size, 0, none⟩)]) rfl (enters_of Tryz.func150 (by kernel_rfl) rfl)
    (backward_gives wL Aw cw w1.heap.size ss hel hbx (by have := HNW.out; omega)) (Stay.refl _ _) (fun _ => rfl)
    (CI w wL.heap.size nw path) (CX w wL.heap.size path) HAB.out (fun c => cx_abide w wL.heap.size path c (by have := HSL.out; omega)) _ (fun _ h => h) ?lt ?start ?round ?done ?stop
  case lt =>
    intro b hb
    rcases hb with rfl | hb
    · have := HSL.out; omega
    · rw [← HNW.out] at hb
      exact Nat.lt_of_lt_of_le (HFOOT.out b hb).2 HB1L.out.size
  case start =>
    refine ⟨HBL.out, Nat.le_refl _, ?_, ?_, fun b hb => ?_⟩
    · rw [List.length_nil, Nat.sub_zero, List.drop_of_length_le (by have := HWAY.out.len; have := HNW.out; omega)]; rfl
    · have hx := (HTH0.out)
      exact ⟨((below_step HB1.out HB1L.out).block _ (Array.getElem?_eq_some_iff.1 hx.k).1).trans hx.k, ((below_step HB1.out HB1L.out).block _ (Array.getElem?_eq_some_iff.1 hx.v).1).trans hx.v, ((below_step HB1.out HB1L.out).block _ (Array.getElem?_eq_some_iff.1 hx.e).1).trans hx.e⟩
    · have h1 := HSL.out
      have h2 := HS0.out
      have h4 := HB1.out.size
      rcases hb with rfl | hb
      · exact ⟨by omega, by omega, by omega, by omega⟩
      · rw [← HNW.out] at hb
        have h3 := HFOOT.out b hb
        exact ⟨by omega, by omega, by omega, by omega⟩
  case round =>
    intro l2 pre x K W mm hci hKW hKl hl2 hpre
    obtain ⟨j, ⟨sg, sa⟩, hj, hs, rfl⟩ := bwd_get hpre
    unfold encB
    gi_wp2
    have hg1 : W.grownBy (W.alloc (.cells #[.pointer (some ⟨sg, 0, none⟩), .int .i64 (sa : Int)] 162)) none := World.grownBy_alloc W _ none
    refine ⟨Stay.grown hg1 hKW (fun _ e => by cases e), fun W2 hg2 => ?_⟩
    have hlW := hKW l2 hKl
    have hci2 : CI w wL.heap.size nw path pre K W2 := HAB.out _ _ _ _ _ (HAB.out _ _ _ _ _ hci hg1 (fun _ e => by cases e) K fun b hb => .inl hb) hg2 (fun r e => by injection e with e; subst e; exact ⟨hl2, hKl⟩) K fun b hb => .inl hb
    have hsx : W.heap.size < W2.heap.size := by have := hg2.size; simp at this; omega
    have d0 : W2.cell? ⟨W.heap.size, 0, none⟩ = some (.pointer (some ⟨sg, 0, none⟩)) := (World.cell?_of_block (hg2.block _ (by simp) (by simp; omega))).trans (cell_of_row _ _ 0 _ _ _ (heap_alloc_new W _))
    have d1 : W2.cell? ⟨W.heap.size, 0 + 1, none⟩ = some (.int .i64 (sa : Int)) := (World.cell?_of_block (hg2.block _ (by simp) (by simp; omega))).trans (cell_of_row _ _ 1 _ _ _ (heap_alloc_new W _))
    have d1' : W2.cell? ⟨W.heap.size, 1, none⟩ = some (.int .i64 (sa : Int)) := d1
    obtain ⟨xp, hxp⟩ : ∃ x, path[j]? = some x := ⟨path[j]'(by have := HWAY.out.len; have := HNW.out; omega), List.getElem?_eq_getElem _⟩
    obtain ⟨x1, x2⟩ := HWAY.out.node j _ xp hs hxp
    obtain ⟨vp, vk, gs, hh, _⟩ := nodeAt_iff.1 (NodeAt.keep (HT.out.under.stay hci2.1) x2)
    obtain ⟨Ap, capp, rfl⟩ := hh.pairs.slice
    have c0 := hh.c0
    obtain ⟨n1, HN1⟩ : ∃ n1, Hid (n1 = xp.1.ps.length) := ⟨_, rfl⟩
    rw [← HN1.out] at c0
    have HX1 : Hid (sa = xp.2) := x1
    have HXP := hid hxp
    have HHD := hid hh
    have HJ : Hid (j + 1 + pre.length = nw) := by show _ = _; rw [HNW.out]; exact hj
    have HCI := hid hci2
    clear hs x1 x2 hh hxp hj hci2 hci hg1 hg2 hlW hpre hel hbx
    gi_wp2
    refine region_round (by kernel_rfl) (by kernel_rfl) (by kernel_rfl) ?_
    repeat (gi_big_quiet_step (fail))
    refine wpQuietIn_nil ?_
    intro _ hw'
    obtain ⟨nq, hw''⟩ := hw'
    subst hw''
    by_cases hfit : sa < n1
    · have hfi : (sa : Int) < n1 := by omega
      have hfd : decide (sa < n1) = true := by simp; omega
      obtain ⟨q, hq⟩ : ∃ q, xp.1.ps[sa]? = some q := ⟨xp.1.ps[sa]'(by have := HN1.out; omega), List.getElem?_eq_getElem _⟩
      obtain ⟨adp, rfl, p0, p1⟩ := HHD.out.pairs.pcell hq
      have HQ := hid hq
      clear hq
      gi_wp2
      obtain ⟨Wn, HWN⟩ : ∃ Wn, Hid (Wn = W2.drewN nq) := ⟨_, rfl⟩
      rw [← HWN.out]
      have HSN : Hid (∀ X, Below Wn.heap.size Wn X → X.cell? ⟨W.heap.size, 0, none⟩ = some (.pointer (some ⟨sg, 0, none⟩)) ∧ X.cell? ⟨W.heap.size, 1, none⟩ = some (.int .i64 (sa : Int)) ∧ X.cell? ⟨sg, 0, none⟩ = some (.slice (some adp) n1 capp) ∧ X.cell? (adp.add (sa * 2)) = some (.string (str q.1)) ∧ X.cell? { block := (adp.add (sa * 2)).block, off := (adp.add (sa * 2)).off + 1, spot := none } = some (.string (str q.2))) := fun X hb => by
        rw [HWN.out] at hb
        exact ⟨below_keep hb _ _ d0, below_keep hb _ _ d1, below_keep hb _ _ c0, below_keep hb _ _ p0, below_keep hb _ _ p1⟩
      clear d0 d1 d1' c0 p0 p1
      refine region_in_round 11 (fun X => X.cell? ⟨W.heap.size, 0, none⟩ = some (.pointer (some ⟨sg, 0, none⟩)) ∧ X.cell? ⟨W.heap.size, 1, none⟩ = some (.int .i64 (sa : Int)) ∧ X.cell? ⟨sg, 0, none⟩ = some (.slice (some adp) n1 capp) ∧ X.cell? (adp.add (sa * 2)) = some (.string (str q.1)) ∧ X.cell? { block := (adp.add (sa * 2)).block, off := (adp.add (sa * 2)).off + 1, spot := none } = some (.string (str q.2)))
        rfl (by kernel_rfl) (by kernel_rfl) (fun _ _ h => h) (HSN.out _ (below_drew1 (Below.refl _ _))) fun hS => ?_
      refine wpAnyH_take (i := 0) (v := ?_) rfl (by kernel_rfl) (by kernel_rfl) (by kernel_rfl) (fun _ _ _ h => h) (Or.inl ⟨by rfl, ?hy0⟩) (by assumption) ?rs0
      case hy0 => (intro X hSX; (try dsimp only at hSX); go_simp <;> with_reducible rfl)
      try simp only [Act.put, List.setIfInBounds_toArray]
      refine wpAnyH_take (i := 1) (v := ?_) rfl (by kernel_rfl) (by kernel_rfl) (by kernel_rfl) (fun _ _ _ h => h) (Or.inl ⟨by rfl, ?hy1⟩) (by assumption) ?rs1
      case hy1 => (intro X hSX; (try dsimp only at hSX); go_simp <;> with_reducible rfl)
      try simp only [Act.put]
      refine wpAnyH_take (i := 2) (v := ?_) rfl (by kernel_rfl) (by kernel_rfl) (by kernel_rfl) (fun _ _ _ h => h) (Or.inl ⟨by rfl, ?hy2⟩) (by assumption) ?rs2
      case hy2 => (intro X hSX; (try dsimp only at hSX); go_simp <;> with_reducible rfl)
      try simp only [Act.put]
      refine wpAnyH_take (i := 3) (v := ?_) rfl (by kernel_rfl) (by kernel_rfl) (by kernel_rfl) (fun _ _ _ h => h) (Or.inl ⟨by rfl, ?hy3⟩) (by assumption) ?rs3
      case hy3 => (intro X hSX; (try dsimp only at hSX); go_simp <;> with_reducible rfl)
      try simp only [Act.put]
      refine wpAnyH_take (i := 4) (v := ?_) rfl (by kernel_rfl) (by kernel_rfl) (by kernel_rfl) (fun _ _ _ h => h) (Or.inl ⟨by rfl, ?hy4⟩) (by assumption) ?rs4
      case hy4 => (intro X hSX; (try dsimp only at hSX); go_simp <;> with_reducible rfl)
      try simp only [Act.put]
      refine wpAnyH_take (i := 5) (v := ?_) rfl (by kernel_rfl) (by kernel_rfl) (by kernel_rfl) (fun _ _ _ h => h) (Or.inl ⟨by rfl, ?hy5⟩) (by assumption) ?rs5
      case hy5 => (intro X hSX; (try dsimp only at hSX); go_simp <;> with_reducible rfl)
      try simp only [Act.put]
      refine wpAnyH_take (i := 6) (v := ?_) rfl (by kernel_rfl) (by kernel_rfl) (by kernel_rfl) (fun _ _ _ h => h) (Or.inl ⟨by rfl, ?hy6⟩) (by assumption) ?rs6
      case hy6 => (intro X hSX; (try dsimp only at hSX); go_simp <;> with_reducible rfl)
      try simp only [Act.put]
      refine wpAnyH_take (i := 7) (v := ?_) rfl (by kernel_rfl) (by kernel_rfl) (by kernel_rfl) (fun _ _ _ h => h) (Or.inl ⟨by rfl, ?hy7⟩) (by assumption) ?rs7
      case hy7 => (intro X hSX; (try dsimp only at hSX); go_simp <;> with_reducible rfl)
      try simp only [Act.put]
      refine wpAnyH_take (i := 8) (v := ?_) rfl (by kernel_rfl) (by kernel_rfl) (by kernel_rfl) (fun _ _ _ h => h) (Or.inl ⟨by rfl, ?hy8⟩) (by assumption) ?rs8
      case hy8 => (intro X hSX; (try dsimp only at hSX); go_simp <;> with_reducible rfl)
      try simp only [Act.put]
      refine wpAnyH_ready (rs := [9]) (by kernel_rfl) (by simp) ?_
      refine AllReadyH.cons rfl (fun KK hKK => ?_) AllReadyH.nil
      go_simp
      refine hKK.out _ _ (HSN.out _ (by repeat (with_reducible (first | assumption | exact Below.refl _ _ | refine below_drew1 ?_ | refine below_drewN_ ?_ | refine below_alloc' ?_ _)))) (fun hH => ?_)
      clear hKK KK
      refine wpAnyH_ready (rs := [10]) (by kernel_rfl) (by simp) ?_
      refine AllReadyH.cons rfl (fun KK hKK => ?_) AllReadyH.nil
      go_simp
      refine hKK.out _ _ (HSN.out _ (by repeat (with_reducible (first | assumption | exact Below.refl _ _ | refine below_drew1 ?_ | refine below_drewN_ ?_ | refine below_alloc' ?_ _)))) (fun hH2 => ?_)
      clear hKK KK hH hH2
      refine wpAnyH_done (by kernel_rfl) ?_ _
      gi_wp2
      clear hS
      obtain ⟨Wp, HWP⟩ : ∃ Wp, Hid (Wp = (Wn.alloc (.cells #[.string (str q.1), .string (str q.2)] 164)).drew) := ⟨_, rfl⟩
      rw [← HWP.out]
      have hsz : w.heap.size + 3 ≤ Wn.heap.size := by
        have h1 := HCI.out.2.1
        have h2 := HSL.out
        rw [HWN.out]
        show _ ≤ W2.heap.size
        omega
      have HKN : Hid (∀ b, K b → b ≠ w.heap.size ∧ b ≠ w.heap.size + 1 ∧ b ≠ w.heap.size + 2) := fun b hb => (HCI.out.2.2.2.2 b hb).2
      have hgp : W2.grownBy Wp.drew none := by rw [HWP.out, HWN.out]; exact ⟨rfl, rfl, rfl, by show W2.heap.size ≤ (Array.push _ _).size; simp, fun b hb _ => Below.heap_alloc (W2.drewN nq) _ b hb⟩
      have HG0 : Hid (CG w W2 wL.heap.size K (.string (str [])) (.string (str [])) 0 Wp.drew) := by
        have h1 := HAB.out _ _ _ _ _ HCI.out hgp (fun _ e => by cases e) K fun b h => .inl h
        exact ⟨h1.2.2.2.1, h1.1, h1.2.1, Stay.grown hgp (fun b hb => (HCI.out.2.2.2.2 b hb).1) fun _ e => by cases e⟩
      have HS8 : Hid (S8 w.heap.size Wn.heap.size q Wp.drew) := by
        have hpr : Wp.drew.heap[Wn.heap.size]? = some (.cells #[.string (str q.1), .string (str q.2)] 164 (0, 0)) := by rw [HWP.out]; exact heap_alloc_new Wn _
        have h3 := HG0.out.three
        refine ⟨cell_of_row _ _ 0 _ _ _ hpr, cell_of_row _ _ 1 _ _ _ hpr, ?_, ?_, ?_⟩
        · simp [World.frozen?, h3.k]
        · simp [World.frozen?, h3.v]
        · have := h3.e; simp [World.frozen?, this]
      have HFIN : Hid (∀ X, CG w W2 wL.heap.size K (.string (str q.1)) (.string (str q.2)) 0 X → Stay K W2 X ∧ CX w wL.heap.size path .ret (pre ++ [(j, sg, sa)]) K X) := fun X h => by
        refine ⟨h.stay, rfl, h.base, h.low, q, ?_, h.three⟩
        have hj := HJ.out
        refine lastFit_drop (j := j) ?_
        rw [lastFit_at HXP.out, show j + 1 = nw - pre.length by omega, HCI.out.2.2.1, ← HX1.out, HQ.out]
        rfl
      clear hgp
      refine region_in_round 7 (fun X => X.cell? ⟨Wn.heap.size, 0, none⟩ = some (.string (str q.1)) ∧ X.cell? ⟨Wn.heap.size, 1, none⟩ = some (.string (str q.2)) ∧ X.frozen? ⟨w.heap.size, 0, none⟩ = false ∧ X.frozen? ⟨w.heap.size + 1, 0, none⟩ = false ∧ X.frozen? ⟨w.heap.size + 1 + 1, 0, none⟩ = false)
        rfl (by kernel_rfl) (by kernel_rfl) (fun _ _ h => h) HS8.out fun hS => ?_
      refine wpAnyH_take (i := 0) (v := ?_) rfl (by kernel_rfl) (by kernel_rfl) (by kernel_rfl) (fun _ _ _ h => h) (Or.inl ⟨by rfl, ?hz0⟩) (by assumption) ?rz0
      case hz0 => (intro X hSX; (try dsimp only at hSX); go_simp <;> with_reducible rfl)
      try simp only [Act.put, List.setIfInBounds_toArray]
      refine wpAnyH_take (i := 1) (v := ?_) rfl (by kernel_rfl) (by kernel_rfl) (by kernel_rfl) (fun _ _ _ h => h) (Or.inl ⟨by rfl, ?hz1⟩) (by assumption) ?rz1
      case hz1 => (intro X hSX; (try dsimp only at hSX); go_simp <;> with_reducible rfl)
      try simp only [Act.put]
      refine wpAnyH_take (i := 2) (v := ?_) rfl (by kernel_rfl) (by kernel_rfl) (by kernel_rfl) (fun _ _ _ h => h) (Or.inl ⟨by rfl, ?hz2⟩) (by assumption) ?rz2
      case hz2 => (intro X hSX; (try dsimp only at hSX); go_simp <;> with_reducible rfl)
      try simp only [Act.put]
      refine wpAnyH_take (i := 3) (v := ?_) rfl (by kernel_rfl) (by kernel_rfl) (by kernel_rfl) (fun _ _ _ h => h) (Or.inl ⟨by rfl, ?hz3⟩) (by assumption) ?rz3
      case hz3 => (intro X hSX; (try dsimp only at hSX); go_simp <;> with_reducible rfl)
      try simp only [Act.put]
      have HGp : Hid (CG w W2 wL.heap.size K (.string (str [])) (.string (str [])) 0 Wp) := HG0.out.undrew
      have HGa := hid (CG.s0 (x' := .string (str q.1)) HKN.out HGp.out)
      have HGb := hid (CG.s1 (x' := .string (str q.2)) HKN.out HGa.out)
      have HGc := hid (CG.s2 (c' := 0) HKN.out HGb.out)
      have hx0 := cell_of_row _ _ 0 _ _ _ HGp.out.three.k
      have hx1 := cell_of_row _ _ 0 _ _ _ HGa.out.three.v
      have hx2 : (((Wp.setCell ⟨w.heap.size, 0, none⟩ (.string (str q.1))).setCell ⟨w.heap.size + 1, 0, none⟩ (.string (str q.2)))).cell? ⟨w.heap.size + 1 + 1, 0, none⟩ = some (.int .i64 0) := cell_of_row _ _ 0 _ _ _ HGb.out.three.e
      have HSp : Hid (S8 w.heap.size Wn.heap.size q Wp) := HS8.out
      have HSa := hid (S8.set (a := ⟨w.heap.size, 0, none⟩) (u := .string (str q.1)) (by show w.heap.size ≠ _; omega) HSp.out)
      have HSb := hid (S8.set (a := ⟨w.heap.size + 1, 0, none⟩) (u := .string (str q.2)) (by show w.heap.size + 1 ≠ _; omega) HSa.out)
      have HSc := hid (S8.set (a := ⟨w.heap.size + 1 + 1, 0, none⟩) (u := .int .i64 0) (by show w.heap.size + 1 + 1 ≠ _; omega) HSb.out)
      have hf0 := HSp.out.2.2.1
      have hf1 := HSa.out.2.2.2.1
      have hf2 := HSb.out.2.2.2.2
      clear hS
      refine wpAnyH_ready (rs := [4]) (by kernel_rfl) (by simp) ?_
      refine AllReadyH.cons rfl (fun KK hKK => ?_) AllReadyH.nil
      go_simp
      refine hKK.out _ _ (show S8 w.heap.size Wn.heap.size q _ from HSa.out) (fun hH => ?_)
      clear hKK KK hH
      refine wpAnyH_ready (rs := [5]) (by kernel_rfl) (by simp) ?_
      refine AllReadyH.cons rfl (fun KK hKK => ?_) AllReadyH.nil
      go_simp
      refine hKK.out _ _ (show S8 w.heap.size Wn.heap.size q _ from HSb.out) (fun hH => ?_)
      clear hKK KK hH
      refine wpAnyH_ready (rs := [6]) (by kernel_rfl) (by simp) ?_
      refine AllReadyH.cons rfl (fun KK hKK => ?_) AllReadyH.nil
      go_simp
      refine hKK.out _ _ (show S8 w.heap.size Wn.heap.size q _ from HSc.out) (fun hH => ?_)
      clear hKK KK hH
      refine wpAnyH_done (by kernel_rfl) ?_ _
      gi_wp2
      exact HFIN.out _ HGc.out.drew_
    · have hfi : ¬ (sa : Int) < n1 := by omega
      have hfd : decide (sa < n1) = false := by simp; omega
      gi_wp2
      show Stay K W2 _ ∧ CI w wL.heap.size nw path (pre ++ [(j, sg, sa)]) K _
      have h1 := HAB.out _ _ _ _ _ HCI.out (grown_drew W2 nq) (fun _ e => by cases e) K fun b h => .inl h
      refine ⟨stay_drew K W2 nq, h1.1, h1.2.1, ?_, h1.2.2.2⟩
      have hj := HJ.out
      rw [show nw - (pre ++ [(j, sg, sa)]).length = j by simp; omega, lastFit_at HXP.out, show j + 1 = nw - pre.length by omega, h1.2.2.1, ← HX1.out, List.getElem?_eq_none (by have := HN1.out; omega)]
      rfl
  case done =>
    intro D Kx Wd hci hK0 hKD hlD hsh
    have hDn : w.heap.size + 3 ≤ D := by have := HSL.out; omega
    have HLF : Hid (lastFit path = none) := by
      have h := hci.2.2.1
      rw [bwd_len, ← HNW.out, Nat.sub_self, List.drop_zero] at h
      exact h
    have HG0 : Hid (CG w Wd wL.heap.size (fun _ => False) (.string (str [])) (.string (str [])) 0 Wd) := ⟨hci.2.2.2.1, hci.1, hci.2.1, Stay.refl _ _⟩
    have hKF : ∀ b, (fun _ : Nat => False) b → b ≠ w.heap.size ∧ b ≠ w.heap.size + 1 ∧ b ≠ w.heap.size + 2 := fun b h => h.elim
    have HGa := hid (CG.s0 (x' := .string { data := #[] }) hKF HG0.out)
    have HGb := hid (CG.s1 (x' := .string { data := #[] }) hKF HGa.out)
    have HGc := hid (CG.s2 (c' := 14) hKF HGb.out)
    have hx0 := cell_of_row _ _ 0 _ _ _ HG0.out.three.k
    have hx1 := cell_of_row _ _ 0 _ _ _ HGa.out.three.v
    have hx2 : (((Wd.setCell ⟨w.heap.size, 0, none⟩ (.string { data := #[] })).setCell ⟨w.heap.size + 1, 0, none⟩ (.string { data := #[] }))).cell? ⟨w.heap.size + 1 + 1, 0, none⟩ = some (.int .i64 0) := cell_of_row _ _ 0 _ _ _ HGb.out.three.e
    have hf0 : Wd.frozen? ⟨w.heap.size, 0, none⟩ = false := by have := HG0.out.three.k; simp [World.frozen?, this]
    have hf1 : (Wd.setCell ⟨w.heap.size, 0, none⟩ (.string { data := #[] })).frozen? ⟨w.heap.size + 1, 0, none⟩ = false := by have := HGa.out.three.v; simp [World.frozen?, this]
    have hf2 : (((Wd.setCell ⟨w.heap.size, 0, none⟩ (.string { data := #[] })).setCell ⟨w.heap.size + 1, 0, none⟩ (.string { data := #[] }))).frozen? ⟨w.heap.size + 1 + 1, 0, none⟩ = false := by have := HGb.out.three.e; simp [World.frozen?, this]
    have HTH := hid HGc.out.three
    have HBB := hid HGc.out.base
    have HSH : Hid (Shut (((Wd.setCell ⟨w.heap.size, 0, none⟩ (.string { data := #[] })).setCell ⟨w.heap.size + 1, 0, none⟩ (.string { data := #[] })).setCell ⟨w.heap.size + 1 + 1, 0, none⟩ (.int .i64 14)) D) :=
      (Below.heap_setCell _ ⟨w.heap.size + 1 + 1, 0, none⟩ _ D (by show D ≠ w.heap.size + 1 + 1; omega)).trans ((Below.heap_setCell _ ⟨w.heap.size + 1, 0, none⟩ _ D (by show D ≠ w.heap.size + 1; omega)).trans ((Below.heap_setCell _ ⟨w.heap.size, 0, none⟩ _ D (by show D ≠ w.heap.size; omega)).trans hsh))
    clear hci hK0 hsh hKF
    gi_wp2
    refine leaves_marks [D] _ (by simp) (fun E hE => ?_) fun w' hk hsz ho hta hou => ?_
    · simp at hE
      subst hE
      exact HSH.out
    · have hD : ∀ b, b < w.heap.size + 3 → b ∉ [D] := fun b hb => by simp; omega
      have p0 := cell_of_row _ _ 0 _ _ _ ((hk w.heap.size (hD _ (by omega))).trans HTH.out.k)
      have p1 := cell_of_row _ _ 0 _ _ _ ((hk (w.heap.size + 1) (hD _ (by omega))).trans HTH.out.v)
      have p2 : w'.cell? ⟨w.heap.size + 1 + 1, 0, none⟩ = some (.int .i64 14) := cell_of_row _ _ 0 _ _ _ ((hk (w.heap.size + 2) (hD _ (by omega))).trans HTH.out.e)
      refine ⟨.tuple #[.string { data := #[] }, .string { data := #[] }, .int .i64 14], (by simp [results, Tryz.results96, go_sem, p0, p1, p2]), ?_, ?_⟩
      · rw [← HPATH.out, HLF.out]; show _ = Ending.returned (.tuple #[.string (str []), .string (str []), .int .i64 14]); rw [str_nil]
      · exact ⟨ho.trans HBB.out.os, hta.trans HBB.out.tape, hou.trans HBB.out.output, by rw [hsz]; exact HBB.out.size, fun b hb => (hk b (hD b (by omega))).trans (HBB.out.block b hb)⟩
  case stop =>
    rintro D cd pre Kx Wd hpre ⟨rfl, hb, hlow, q, hq, hth⟩ hK0 hKD hlD hsh
    have hDn : w.heap.size + 3 ≤ D := by have := HSL.out; omega
    have HLF : Hid (lastFit path = some q) := hq
    have HTH := hid hth
    have HBB := hid hb
    have HSH := hid hsh
    clear hb hq hth hK0 hsh
    gi_wp2
    refine leaves_marks [D] _ (by simp) (fun E hE => ?_) fun w' hk hsz ho hta hou => ?_
    · simp at hE
      subst hE
      exact HSH.out
    · have hD : ∀ b, b < w.heap.size + 3 → b ∉ [D] := fun b hb => by simp; omega
      have p0 := cell_of_row _ _ 0 _ _ _ ((hk w.heap.size (hD _ (by omega))).trans HTH.out.k)
      have p1 := cell_of_row _ _ 0 _ _ _ ((hk (w.heap.size + 1) (hD _ (by omega))).trans HTH.out.v)
      have p2 : w'.cell? ⟨w.heap.size + 1 + 1, 0, none⟩ = some (.int .i64 0) := cell_of_row _ _ 0 _ _ _ ((hk (w.heap.size + 2) (hD _ (by omega))).trans HTH.out.e)
      refine ⟨.tuple #[.string (str q.1), .string (str q.2), .int .i64 0], (by simp [results, Tryz.results96, go_sem, p0, p1, p2]), ?_, ?_⟩
      · rw [← HPATH.out, HLF.out]; rfl
      · exact ⟨ho.trans HBB.out.os, hta.trans HBB.out.tape, hou.trans HBB.out.output, by rw [hsz]; exact HBB.out.size, fun b hb => (hk b (hD b (by omega))).trans (HBB.out.block b hb)⟩
end Go.Proofs.YtlnagdodnkhbmaaGreat

namespace Go.Proofs.YtlnagdodnkhbmaaGreat
open Go.RowKit

/-! What the calls answer, and leave, of a list of pairs. -/
def putE (k v : List Nat) : Int := if key64 k = true then (if v.length ≤ 256 then 0 else 23) else 13
def putA (l : List Pr) (k v : List Nat) : List Nat := if putE k v = 0 then oldL l k else []
def putW (l : List Pr) (k v : List Nat) : Bool := if putE k v = 0 then (getL l k).isSome else false
def putN (l : List Pr) (k v : List Nat) : List Pr := if putE k v = 0 then putL l k v else l
def delN (l : List Pr) (k : List Nat) : List Pr := if getE l k = 0 then delL l k else l
def delA (l : List Pr) (k : List Nat) : List Nat := if getE l k = 0 then getV l k else []
def ceilR (l : List Pr) (k : List Nat) : Value := match l[atN l k]? with
  | some q => .tuple #[.string (str q.1), .string (str q.2), .int .i64 0]
  | none => .tuple #[.string (str []), .string (str []), .int .i64 14]
theorem putE_cases (k v : List Nat) : (key64 k = false ∧ putE k v = 13) ∨ (key64 k = true ∧ 256 < v.length ∧ putE k v = 23) ∨ (key64 k = true ∧ v.length ≤ 256 ∧ putE k v = 0) := by
  unfold putE
  cases h : key64 k with
  | false => exact .inl ⟨rfl, rfl⟩
  | true =>
    by_cases hv : v.length ≤ 256
    · exact .inr (.inr ⟨rfl, hv, by simp [hv]⟩)
    · exact .inr (.inl ⟨rfl, by omega, by simp [hv]⟩)
theorem getE_zero {l : List Pr} {k : List Nat} (h : getE l k = 0) : key64 k = true ∧ ∃ v, getL l k = some v := by
  unfold getE at h
  cases hk : key64 k with
  | false => rw [hk] at h; simp at h
  | true =>
    rw [hk] at h
    cases hg : getL l k with
    | none => rw [hg] at h; simp at h
    | some v => exact ⟨rfl, v, rfl⟩
theorem PByt.at_ {l : List Pr} (h : PByt l) (i : Nat) {q : Pr} (hi : l[i]? = some q) : Byt q.1 ∧ Byt q.2 := h q (List.mem_of_getElem? hi)
theorem PByt.put {l : List Pr} (h : PByt l) {k v : List Nat} (hk : Byt k) (hv : Byt v) : PByt (putN l k v) := by
  unfold putN
  split
  · unfold putL
    intro q hq
    simp only [List.mem_append, List.mem_singleton] at hq
    rcases hq with (hq | rfl) | hq
    · exact h q (List.mem_of_mem_take hq)
    · exact ⟨hk, hv⟩
    · exact h q (List.mem_of_mem_drop hq)
  · exact h
theorem PByt.del {l : List Pr} (h : PByt l) (k : List Nat) : PByt (delN l k) := by
  unfold delN
  split
  · unfold delL
    intro q hq
    rcases List.mem_append.1 hq with hq | hq
    · exact h q (List.mem_of_mem_take hq)
    · exact h q (List.mem_of_mem_drop hq)
  · exact h
theorem putN_len (l : List Pr) (k v : List Nat) : (putN l k v).length ≤ l.length + 1 := by
  unfold putN
  split
  · unfold putL
    have := atN_le l k
    split <;> simp <;> omega
  · omega
theorem delN_len (l : List Pr) (k : List Nat) : (delN l k).length ≤ l.length := by
  unfold delN
  split
  · unfold delL
    simp; omega
  · omega

/-! The tree's calls, of a tree as it stands. -/
section
variable {w : World} {p o : Nat} {l : List Pr} {P : Bl} {H g : Nat} {t : T}
theorem Done.same (hT : TreeIn w p o l P H g t) {w' : World} (hb : Below w.heap.size w w') : Done P w w' p o l :=
  ⟨⟨H, g, t, ⟨(hT.below hb).c, NodeAt.mono (fun _ h => .inl h) (hT.below hb).node, hT.under.new hb.size, fun h => h.elim hT.out fun h => by have := hT.c.lt; omega, hT.ok, hT.fl, hT.rise, hT.byt, hT.o2, hT.o16⟩⟩, Chg.of_below hb⟩
theorem tree_get (hT : TreeIn w p o l P H g t) (hl : l.length ≤ 5000) (k : List Nat) (hkb : Byt k) (hk : k.length ≤ 5000) :
    Calls Tryz.prog 57 #[.pointer (some ⟨p, 0, none⟩), .string (str k)] w fun e w' => e = .returned (.tuple #[.string (str (getV l k)), .int .i64 (getE l k)]) ∧ Below w.heap.size w w' := by
  unfold getV getE
  cases h64 : key64 k with
  | false => exact tree_get_bad w p k hk h64
  | true =>
    obtain ⟨init, tl, q⟩ := hT.way k
    have hr : Rising (flat H t) := by rw [hT.fl]; exact hT.rise
    cases hg : getL tl.ps k with
    | none =>
      have h1 := q.none_ hr hg
      rw [hT.fl] at h1
      rw [h1]
      exact tree_get_none w p o l P H g t k hT hl hkb hk h64 (by rw [q.found, hg]; rfl)
    | some v =>
      obtain ⟨v2, hv⟩ := find_lt (t := tl) (k := k) (by rw [hg]; rfl)
      have h1 := q.get hr hv
      rw [hT.fl] at h1
      rw [h1]
      exact tree_get_some w p o l P H g t k v2 hT hl hkb hk h64 init tl q hv
theorem tree_put (hT : TreeIn w p o l P H g t) (hl : l.length ≤ 5000) (k v : List Nat) (hkb : Byt k) (hvb : Byt v) (hk : k.length ≤ 5000) :
    Calls Tryz.prog 81 #[.pointer (some ⟨p, 0, none⟩), .string (str k), .string (str v)] w fun e w' => e = .returned (.tuple #[.string (str (putA l k v)), .bool (putW l k v), .int .i64 (putE k v)]) ∧ Done P w w' p o (putN l k v) := by
  unfold putA putW putN
  rcases putE_cases k v with ⟨h1, h2⟩ | ⟨h1, h2, h3⟩ | ⟨h1, h2, h3⟩
  · rw [h2, if_neg (by decide), if_neg (by decide), if_neg (by decide)]
    exact (tree_put_bad w p k v hk h1).mono fun e w' h => ⟨h.1, Done.same hT h.2⟩
  · rw [h3, if_neg (by decide), if_neg (by decide), if_neg (by decide)]
    exact (tree_put_size w p k v hk h1 h2).mono fun e w' h => ⟨h.1, Done.same hT h.2⟩
  · rw [h3, if_pos rfl, if_pos rfl, if_pos rfl]
    obtain ⟨init, tl, q⟩ := hT.way k
    have hr : Rising (flat H t) := by rw [hT.fl]; exact hT.rise
    unfold oldL
    cases hg : getL tl.ps k with
    | none =>
      have h4 := q.none_ hr hg
      rw [hT.fl] at h4
      rw [h4]
      exact tree_put_new w p o l P H g t k v hT hl hkb hvb hk h2 h1 init tl q hg
    | some v' =>
      obtain ⟨v2, hv⟩ := find_lt (t := tl) (k := k) (by rw [hg]; rfl)
      have h4 := q.get hr hv
      rw [hT.fl] at h4
      rw [h4]
      exact tree_put_some w p o l P H g t k v hT hl hkb hvb hk h2 h1 init tl q v2 hv
theorem tree_del (hT : TreeIn w p o l P H g t) (hl : l.length ≤ 5000) (k : List Nat) (hkb : Byt k) (hk : k.length ≤ 5000) :
    Calls Tryz.prog 80 #[.pointer (some ⟨p, 0, none⟩), .string (str k)] w fun e w' => e = .returned (.tuple #[.string (str (delA l k)), .int .i64 (getE l k)]) ∧ Done P w w' p o (delN l k) := by
  unfold delA delN getV getE
  cases h64 : key64 k with
  | false => exact (tree_del_bad w p k hk h64).mono fun e w' h => ⟨h.1, Done.same hT h.2⟩
  | true =>
    obtain ⟨init, tl, q⟩ := hT.way k
    have hr : Rising (flat H t) := by rw [hT.fl]; exact hT.rise
    cases hg : getL tl.ps k with
    | none =>
      have h1 := q.none_ hr hg
      rw [hT.fl] at h1
      rw [h1]
      exact (tree_del_none w p o l P H g t k hT hl hkb hk h64 (by rw [q.found, hg]; rfl)).mono fun e w' h => ⟨h.1, Done.same hT h.2⟩
    | some v =>
      obtain ⟨v2, hv⟩ := find_lt (t := tl) (k := k) (by rw [hg]; rfl)
      have h1 := q.get hr hv
      rw [hT.fl] at h1
      rw [h1]
      cases hh : H - init.length with
      | zero => exact tree_del_leaf w p o l P H g t k v2 hT hl hkb hk h64 init tl q hv hh
      | succ h => exact tree_del_inner w p o l P H g t k v2 hT hl hkb hk h64 init tl q hv h hh
theorem tree_ceil_ (hT : TreeIn w p o l P H g t) (hl : l.length ≤ 5000) (k : List Nat) (hkb : Byt k) :
    Calls Tryz.prog 96 #[.pointer (some ⟨p, 0, none⟩), .string (str k)] w fun e w' => e = .returned (ceilR l k) ∧ Below w.heap.size w w' := by
  have h := tree_ceil w p o l P H g t k hT hl hkb
  obtain ⟨init, tl, q⟩ := hT.way k
  rw [q.path, ← ceil_of q (by rw [hT.fl]; exact hT.rise), hT.fl] at h
  exact h
end
end Go.Proofs.YtlnagdodnkhbmaaGreat

/- The calls of a nil tree. -/
namespace Go.Proofs.YtlnagdodnkhbmaaGreat
open Go.RowKit
set_option maxRecDepth 100000

theorem check_nil (w : World) (s : ByteArray) : Calls Tryz.prog 85 #[.pointer none, .string s] w fun e w' => e = .returned (.int .i64 2) ∧ w' = w := by
  go_enter Tryz.func85, Tryz.ntmps85
  go_wp2
  go_ret
  exact ⟨rfl, rfl⟩
theorem nil_get (w : World) (s : ByteArray) : Calls Tryz.prog 57 #[.pointer none, .string s] w fun e w' => e = .returned (.tuple #[.string (str []), .int .i64 2]) ∧ w' = w := by
  rw [← str_nil]
  go_enter Tryz.func57, Tryz.ntmps57
  go_wp2_with fail
  refine (check_nil w s).mono ?_
  rintro e w' ⟨rfl, rfl⟩
  go_wp2
  go_ret2
  exact ⟨rfl, rfl⟩
theorem nil_put (w : World) (s v : ByteArray) : Calls Tryz.prog 81 #[.pointer none, .string s, .string v] w fun e w' => e = .returned (.tuple #[.string (str []), .bool false, .int .i64 2]) ∧ w' = w := by
  rw [← str_nil]
  go_enter Tryz.func81, Tryz.ntmps81
  go_wp2_with fail
  refine (check_nil w s).mono ?_
  rintro e w' ⟨rfl, rfl⟩
  go_wp2
  go_ret3
  exact ⟨rfl, rfl⟩
theorem nil_del (w : World) (s : ByteArray) : Calls Tryz.prog 80 #[.pointer none, .string s] w fun e w' => e = .returned (.tuple #[.string (str []), .int .i64 2]) ∧ w' = w := by
  rw [← str_nil]
  go_enter Tryz.func80, Tryz.ntmps80
  go_wp2_with fail
  refine (check_nil w s).mono ?_
  rintro e w' ⟨rfl, rfl⟩
  go_wp2
  go_ret2
  exact ⟨rfl, rfl⟩
theorem nil_len (w : World) : Calls Tryz.prog 53 #[.pointer none] w fun e w' => e = .returned (.int .i64 0) ∧ w' = w := by
  go_enter Tryz.func53, Tryz.ntmps53
  go_wp2
  go_ret
  exact ⟨rfl, rfl⟩
theorem nil_all (w : World) : Calls Tryz.prog 77 #[.pointer none] w fun e w' =>
    e = .returned (.func (.func 137) #[] #[.pointer (some ⟨w.heap.size + 1, 0, none⟩)]) ∧ Below w.heap.size w w' ∧ w'.heap.size = w.heap.size + 2 ∧ Gives Tryz.prog 137 #[.pointer (some ⟨w.heap.size + 1, 0, none⟩)] encP [] (fun b => b = w.heap.size + 1 ∨ b = w.heap.size) w' := by
  go_enter Tryz.func77, Tryz.ntmps77
  go_wp2_with fail
  refine (all_any _ w.heap.size).mono ?_
  rintro e w' ⟨rfl, rfl⟩
  go_wp2
  go_ret
  refine ⟨by simp, ((Below.refl _ w).alloc (Nat.le_refl _) _).alloc (by simp) _, by simp, ?_⟩
  have hn := hp_old (o := .cells #[.pointer (some ⟨w.heap.size, 0, none⟩)] 155) (heap_alloc_new w (.cells #[.slice none 0 0, .slice none 0 0] 168))
  have hc := cell_of_row _ _ 0 _ _ _ (heap_alloc_new (w.alloc (.cells #[.slice none 0 0, .slice none 0 0] 168)) (.cells #[.pointer (some ⟨w.heap.size, 0, none⟩)] 155))
  rw [World.size_alloc] at hc
  exact all_at 0 _ (fun b => b = w.heap.size) w.heap.size (w.heap.size + 1) (.nd [] []) ⟨.slice none 0 0, .slice none 0 0, [], ⟨hn, rfl, Lay.nil _ _ _ _, Lay.nil _ _ _ _⟩, Side.nil _⟩ rfl ⟨List.Pairwise.nil, fun q hq => (List.not_mem_nil hq).elim, Nat.zero_le _⟩ (fun b hb => by subst hb; simp; omega) hc
theorem nil_ceil (w : World) (s : ByteArray) : Calls Tryz.prog 96 #[.pointer none, .string s] w fun e w' => e = .returned (.tuple #[.string (str []), .string (str []), .int .i64 2]) ∧ Below w.heap.size w w' := by
  rw [← str_nil]
  go_enter Tryz.func96, Tryz.ntmps96
  go_wp2
  obtain ⟨W0, HW0⟩ : ∃ W0, W0 = ((w.alloc (.cells #[.string { data := #[] }] 9)).alloc (.cells #[.string { data := #[] }] 9)).alloc (.cells #[.int .i64 2] 34) := ⟨_, rfl⟩
  have HB0 : Below w.heap.size w W0 := by rw [HW0]; exact (((Below.refl _ w).alloc (Nat.le_refl _) _).alloc (by simp) _).alloc (by simp; omega) _
  have HTH0 : Three w.heap.size (.string { data := #[] }) (.string { data := #[] }) 2 W0 := by
    rw [HW0]
    exact ⟨hp_old (hp_old (heap_alloc_new w _)), hp_old (hp_new (by simp)), hp_new (by simp)⟩
  have q0 := cell_of_row _ _ 0 _ _ _ HTH0.k
  have q1 := cell_of_row _ _ 0 _ _ _ HTH0.v
  have q2 : W0.cell? ⟨w.heap.size + 1 + 1, 0, none⟩ = some (.int .i64 2) := cell_of_row _ _ 0 _ _ _ HTH0.e
  rw [← HW0]
  clear HW0
  refine bodyPost_ret (v := .tuple #[.string { data := #[] }, .string { data := #[] }, .int .i64 2]) (by simp [results, Tryz.results96, go_sem, q0, q1, q2]) rfl ⟨rfl, HB0⟩
end Go.Proofs.YtlnagdodnkhbmaaGreat

