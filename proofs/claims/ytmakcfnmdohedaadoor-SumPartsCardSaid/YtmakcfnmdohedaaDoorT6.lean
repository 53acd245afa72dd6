import Derived.Test.YtmakcfnmdohedaaDoorT5
namespace Go.Proofs.YtmakcfnmdohedaaDoor
open Go.RowKit

theorem map_byte_inj : ∀ {xs ys : List Nat}, Crc.Byt xs → Crc.Byt ys → xs.map UInt8.ofNat = ys.map UInt8.ofNat → xs = ys
  | [], [], _, _, _ => rfl
  | x :: xs, y :: ys, hx, hy, h => by
    simp only [List.map_cons, List.cons.injEq] at h
    have h1 := hx.head
    have h2 := hy.head
    have e : x = y := by
      have := congrArg UInt8.toNat h.1
      simpa [Nat.mod_eq_of_lt h1, Nat.mod_eq_of_lt h2] using this
    rw [e, map_byte_inj hx.tail hy.tail h.2]
  | [], _ :: _, _, _, h => by simp at h
  | _ :: _, [], _, _, h => by simp at h
theorem str_eq {xs ys : List Nat} (hx : Crc.Byt xs) (hy : Crc.Byt ys) : ((str xs).toList == (str ys).toList) = eqB xs ys := by
  rw [ByteArray.toList_eq, ByteArray.toList_eq, str_list, str_list]
  unfold eqB
  rw [Bool.eq_iff_iff]
  simp only [beq_iff_eq, decide_eq_true_eq]
  exact ⟨map_byte_inj hx hy, fun h => by rw [h]⟩

theorem equal_any (w : World) (u v : Value) (xs ys : List Nat) (hs : Sl .u8 w u xs) (ht : Sl .u8 w v ys) (hb : Crc.Byt xs) (hc : Crc.Byt ys) :
    Calls Tryd.prog 20 #[u, v] w fun e w' => e = .returned (.bool (eqB xs ys)) ∧ w = w' := by
  have h1 := hs.str (P := Tryd.prog) 22 5 9 Tryd.underlying22 Tryd.underlying5 Tryd.underlying9
  have h2 := ht.str (P := Tryd.prog) 22 5 9 Tryd.underlying22 Tryd.underlying5 Tryd.underlying9
  have HE := hid (str_eq hb hc)
  generalize str xs = S at h1 HE
  generalize str ys = T at h2 HE
  go_enter Tryd.func20, Tryd.ntmps20
  go_wp2
  go_ret
  exact ⟨ret_bool HE.out, rfl⟩

theorem sealed_byt {xs : List Nat} (h : Crc.Byt xs) : Crc.Byt (sealed xs) := by
  intro b hb
  unfold sealed at hb
  rcases List.mem_append.1 hb with hb | hb
  · exact h b hb
  · exact four_byt _ b hb
theorem sealed_len (xs : List Nat) : (sealed xs).length = xs.length + 4 := by simp [sealed, four]
theorem take_byt {xs : List Nat} (h : Crc.Byt xs) (n : Nat) : Crc.Byt (xs.take n) := fun b hb => h b (List.mem_of_mem_take hb)

theorem open_short (w : World) (v : Value) (xs : List Nat) (hs : Sl .u8 w v xs) (hl : xs.length < 4) :
    Calls Tryd.prog 17 #[v] w fun e w' => e = .returned (.tuple #[.slice none 0 0, .int .i64 11]) ∧ w = w' := by
  obtain ⟨A, cap, rfl, hlc, hm, _, hc⟩ := hs
  clear hc
  generalize xs.length = len at *
  go_enter Tryd.func17, Tryd.ntmps17
  go_wp2
  go_ret2
  exact ⟨rfl, rfl⟩

/-- What Open answers of four bytes and more. -/
def OpenPost (xs ys : List Nat) (w : World) (e : Ending) (w' : World) : Prop :=
  (∃ v', e = .returned (.tuple (if eqB (sealed ys) xs then #[v', .int .i64 0] else #[.slice none 0 0, .int .i64 12])) ∧ Sl .u8 w' v' ys) ∧ Below w.heap.size w w'
theorem open_long (w : World) (v : Value) (xs : List Nat) (n : Nat) (hs : Sl .u8 w v xs) (hb : Crc.Byt xs) (ht : Tab w) (hn : xs.length = n + 4) (hl : n ≤ 1000000000000) :
    Calls Tryd.prog 17 #[v] w (OpenPost xs (xs.take n) w) := by
  have HS := hid hs
  obtain ⟨A, cap, rfl, hlc, hm, HK⟩ := hs.take (n := n) (by omega)
  have HK := hid HK
  have HB := hid hb
  have HL : Hid ((xs.take n).length = n) := by show _ = _; rw [List.length_take]; omega
  have hyb : Crc.Byt (xs.take n) := take_byt hb n
  generalize xs.take n = ys at HK HL hyb
  rw [hn] at HS hlc ⊢
  have hn' := hid hn
  clear hn hb
  go_enter Tryd.func17, Tryd.ntmps17
  go_wp2_with fail
  refine (sealed_any w _ ys HK.out hyb ht (by rw [HL.out]; omega)).mono ?_
  rintro e w1 ⟨v1, rfl, hv1, hb1⟩
  have HV := hid hv1
  obtain ⟨A', c', rfl, hc', hm', HT⟩ := hv1.take (n := n) (by rw [sealed_len, HL.out]; omega)
  have HT := hid HT
  rw [sealed_len, HL.out] at HV hc' ⊢
  have HZ : Hid ((sealed ys).take n = ys) := by show _ = _; unfold sealed; rw [List.take_append_of_le_length (by rw [HL.out]; omega), List.take_of_length_le (by rw [HL.out]; omega)]
  rw [HZ.out] at HT
  go_wp2_with fail
  refine (equal_any w1 _ _ (sealed ys) xs HV.out (HS.out.below hb1) (sealed_byt hyb) HB.out).mono ?_
  rintro e w' ⟨rfl, rfl⟩
  by_cases heq : eqB (sealed ys) xs = true
  · rw [heq]
    go_wp2
    go_ret2
    refine ⟨⟨_, by rw [heq]; rfl, HT.out⟩, hb1⟩
  · have heq : eqB (sealed ys) xs = false := by simpa using heq
    rw [heq]
    go_wp2
    go_ret2
    refine ⟨⟨_, by rw [heq]; rfl, HT.out⟩, hb1⟩
end Go.Proofs.YtmakcfnmdohedaaDoor
