import Derived.Test.YtjhgebfabjbbjaaT14
namespace Go.Proofs.Ytjhgebfabjbbjaa
open Go.RowKit

theorem Chg.far {F G G' : List Nat} {a b c : World} (h : Chg [] a b F) (hc : Chg G b c G') (hG : ∀ k ∈ G, a.heap.size ≤ k) : Chg [] a c F :=
  ⟨hc.os.trans h.os, hc.tape.trans h.tape, hc.output.trans h.output, Nat.le_trans h.size hc.size,
    fun k hk hF => (hc.block k (Nat.lt_of_lt_of_le hk h.size) fun hg => by have := hG k hg; omega).trans (h.block k hk hF), h.foot⟩

/-- Three writers, and nothing else has turned since W. -/
structure Three (W w : World) (Fx Fy Fz : List Nat) (px py pz : Value) (X Y Z : List Nat) : Prop where
  x : Wr w Fx px X
  y : Wr w Fy py Y
  z : Wr w Fz pz Z
  c : Chg [] W w (Fx ++ (Fy ++ Fz))
  xy : Apart Fx Fy
  xz : Apart Fx Fz
  yz : Apart Fy Fz
section
variable {W w w' : World} {Fx Fy Fz F' G G' : List Nat} {px py pz : Value} {X Y Z X' : List Nat}
theorem Three.setX (h : Three W w Fx Fy Fz px py pz X Y Z) (hw : Wr w' F' px X') (hc : Chg Fx w w' F') : Three W w' F' Fy Fz px py pz X' Y Z :=
  ⟨hw, h.y.out hc h.xy, h.z.out hc h.xz, h.c.trans (hc.wide _), h.xy.chg hc h.y.lt, h.xz.chg hc h.z.lt, h.yz⟩
theorem Three.setY (h : Three W w Fx Fy Fz px py pz X Y Z) (hw : Wr w' F' py X') (hc : Chg Fy w w' F') : Three W w' Fx F' Fz px py pz X X' Z :=
  ⟨h.x.out hc h.xy.symm, hw, h.z.out hc h.yz, h.c.trans ((hc.wide _).wideL _), (h.xy.symm.chg hc h.x.lt).symm, h.xz, h.yz.chg hc h.z.lt⟩
theorem Three.setZ (h : Three W w Fx Fy Fz px py pz X Y Z) (hw : Wr w' F' pz X') (hc : Chg Fz w w' F') : Three W w' Fx Fy F' px py pz X Y X' :=
  ⟨h.x.out hc h.xz.symm, h.y.out hc h.yz.symm, hw, h.c.trans ((hc.wideL _).wideL _), h.xy, (h.xz.symm.chg hc h.x.lt).symm, (h.yz.symm.chg hc h.y.lt).symm⟩
theorem Three.far (h : Three W w Fx Fy Fz px py pz X Y Z) (hc : Chg G w w' G') (hG : ∀ k ∈ G, W.heap.size ≤ k) (hx : Apart G Fx) (hy : Apart G Fy) (hz : Apart G Fz) : Three W w' Fx Fy Fz px py pz X Y Z :=
  ⟨h.x.out hc hx, h.y.out hc hy, h.z.out hc hz, h.c.far hc hG, h.xy, h.xz, h.yz⟩
theorem Three.new_ (h : Three W w Fx Fy Fz px py pz X Y Z) (hc : Chg [] w w' G') : Three W w' Fx Fy Fz px py pz X Y Z :=
  h.far hc (fun _ h => by cases h) (Apart.nilL _) (Apart.nilL _) (Apart.nilL _)
end
theorem three_new (W : World) : Three W (((W.alloc (.cells #[.slice none 0 0] 28)).alloc (.cells #[.slice none 0 0] 28)).alloc (.cells #[.slice none 0 0] 28)) [W.heap.size] [W.heap.size + 1] [W.heap.size + 1 + 1]
    (.pointer (some ⟨W.heap.size, 0, none⟩)) (.pointer (some ⟨W.heap.size + 1, 0, none⟩)) (.pointer (some ⟨W.heap.size + 1 + 1, 0, none⟩)) [] [] [] := by
  have h1 := wr_new W
  have h2 := wr_new (W.alloc (.cells #[.slice none 0 0] 28))
  have h3 := wr_new ((W.alloc (.cells #[.slice none 0 0] 28)).alloc (.cells #[.slice none 0 0] 28))
  have s1 : (W.alloc (.cells #[.slice none 0 0] 28)).heap.size = W.heap.size + 1 := by simp
  have s2 : ((W.alloc (.cells #[.slice none 0 0] 28)).alloc (.cells #[.slice none 0 0] 28)).heap.size = W.heap.size + 1 + 1 := by simp
  rw [s1] at h2
  rw [s2] at h3
  have a1 : ∀ w : World, Chg [] w (w.alloc (.cells #[.slice none 0 0] 28)) [] := fun w => (Chg.refl [] w).alloc _
  refine ⟨(h1.out (a1 _) (Apart.nilL _)).out (a1 _) (Apart.nilL _), h2.out (a1 _) (Apart.nilL _), h3, ?_, ?_, ?_, ?_⟩
  · refine ((((Chg.refl [] W).alloc _).alloc _).alloc _).less fun k hk => .inr ?_
    simp at hk; omega
  all_goals intro k h1 h2; simp at h1 h2; omega

/-- What Uint does, whatever the number. -/
def ucode (n : Int) : Int := if n < 0 then 10 else 0
def uenc (n : Int) : List Nat := if n < 0 then [] else gr n.toNat
theorem wuint_any (w : World) (F : List Nat) (p : Value) (xs : List Nat) (n : Int) (hW : Wr w F p xs) (hn : n ≤ 9223372036854775807) (hl : xs.length ≤ 1000000000000) :
    Calls Try.prog 11 #[p, .int .i64 n] w (Wrote w F p (xs ++ uenc n) (ucode n)) := by
  unfold ucode uenc
  by_cases h : n < 0
  · rw [if_pos h, if_pos h, List.append_nil]
    obtain ⟨g, rfl⟩ := hW.ptr
    refine (wuint_neg w g n h).mono fun e w' ⟨he, hw⟩ => ⟨he, F, ?_, ?_⟩
    · rw [← hw]; exact hW
    · rw [← hw]; exact Chg.refl _ _
  · rw [if_neg h, if_neg h]
    obtain ⟨m, rfl⟩ : ∃ m : Nat, n = (m : Int) := ⟨n.toNat, by omega⟩
    exact wuint w F p xs m hW (by omega) hl
theorem uenc_byt (n : Int) : Byt (uenc n) := by
  unfold uenc; split
  · exact Byt.nil
  · exact gr_byt _
theorem uenc_len {n : Int} (h : n ≤ 9223372036854775807) : (uenc n).length ≤ 9 := by
  unfold uenc; split
  · simp
  · exact gr_len9 (by omega)

/-- A string's bytes as numbers. -/
def nums (s : ByteArray) : List Nat := s.data.toList.map UInt8.toNat
theorem nums_byt (s : ByteArray) : Byt (nums s) := by
  intro b hb
  unfold nums at hb
  rw [List.mem_map] at hb
  obtain ⟨x, _, rfl⟩ := hb
  exact x.toNat_lt
theorem str_nums (s : ByteArray) : str (nums s) = s := by
  apply ba_ext
  rw [str_list]
  unfold nums
  rw [List.map_map]
  have : (UInt8.ofNat ∘ UInt8.toNat) = id := by funext x; simp
  rw [this, List.map_id]
theorem nums_len (s : ByteArray) : (nums s).length = s.size := by unfold nums; rw [List.length_map]; simp
end Go.Proofs.Ytjhgebfabjbbjaa
