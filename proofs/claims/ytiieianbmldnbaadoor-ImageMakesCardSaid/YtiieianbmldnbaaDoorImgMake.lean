/-
  An image of a body.
-/
import Derived.Test.YtiieianbmldnbaaDoorImgRead
namespace Go.Proofs.YtiieianbmldnbaaDoor
open Go.RowKit
set_option maxRecDepth 100000
set_option maxRecDepth 100000
def makeOf (nm : List UInt8) (v : Int) (l : List UInt8) : List UInt8 := headOf v (l.length : Int) nm (shaOf l) ++ l
theorem named_le {l : List UInt8} (h : named l = true) : l.length ≤ 16 := by
  unfold named at h
  simp only [Bool.and_eq_true, decide_eq_true_eq] at h
  exact h.1.2
theorem makeOf_length {nm : List UInt8} {v : Int} {l : List UInt8} (h : named nm = true) : (makeOf nm v l).length = 64 + l.length := by
  unfold makeOf; rw [List.length_append, headOf_length (named_le h) (shaOf_length l)]
/-- One slice of bytes, as a list of slices in a new block. -/
theorem pc_one (w : World) (B : Nat) (A : Option Addr) (n c : Nat) (l : List UInt8) (t : TypeId) (h : Bs w B A n l) (hB : B ≤ w.heap.size) (hc : n ≤ c) :
    Pc (w.alloc (.cells #[.slice A n c] t)) (w.heap.size + 1) (some ⟨w.heap.size, 0, none⟩) 1 [l] :=
  ⟨rfl, fun _ => ⟨w.heap.size, 0, rfl, by omega, fun k x hk => by
    match k, hk with
    | 0, hk =>
      obtain rfl := Option.some.inj hk
      refine ⟨A, n, c, ?_, hc, (h.alloc hB _).more (by omega)⟩
      rw [Nat.zero_add, cell_of_row _ _ _ _ _ _ (heap_alloc_new w _)]; rfl⟩⟩
theorem make_no (w : World) (nm : ByteArray) (v : Int) (A : Option Addr) (n c : Nat) (h : named nm.data.toList = false) :
    Calls Tryd.prog 17 #[.string nm, .int .u32 v, .slice A n c] w fun e w' => e = .returned (.tuple #[.slice none 0 0, .int .i64 1]) ∧ Below w.heap.size w w' := by
  have hnm := isName_any w nm
  rw [h] at hnm
  go_enter Tryd.func17, Tryd.ntmps17
  go_wp2_with fail
  refine hnm.mono ?_
  rintro e w2 ⟨rfl, hb2⟩
  go_wp2
  go_ret2
  exact ⟨rfl, hb2⟩
set_option maxHeartbeats 1600000 in
theorem make_yes (w : World) (nm : ByteArray) (v : Int) (A : Option Addr) (n c : Nat) (l : List UInt8) (B : Nat) (hbs : Bs w B A n l) (hB : B ≤ w.heap.size) (hc : n ≤ c) (hn : (n : Int) ≤ 65536) (h : named nm.data.toList = true) (hv0 : 0 ≤ v) (hv1 : v < 4294967296)
    (hg : 1 < w.heap.size) (hK : w.rangeAt 1 0 (W32 KS)) :
    Calls Tryd.prog 17 #[.string nm, .int .u32 v, .slice A n c] w fun e w' => ∃ x, e = .returned (.tuple #[x, .int .i64 0]) ∧ w'.ownsRow w.heap.size 5 1 x (64 + n) (U8 (makeOf nm.data.toList v l)) ∧ Below w.heap.size w w' := by
  have hnm := isName_any w nm
  rw [h] at hnm
  obtain ⟨i0, hi0, hzz, hz2, hz3⟩ := info_parts info_u8
  have hlen := Lib.hid hbs.len
  have hl20 : ¬ (1048576 : Int) < n := by omega
  have hr : rightH (n : Int) nm = true := by
    unfold rightH
    rw [h, decide_eq_true (by omega), decide_eq_true (by omega)]; rfl
  clear h
  go_enter Tryd.func17, Tryd.ntmps17
  go_wp2_with fail
  refine hnm.mono ?_
  rintro e w2 ⟨rfl, hb2⟩
  have hs2 := hb2.size
  have hbs2 := hbs.below' hb2 hB
  have hK2 := range_below hK hb2 hg
  clear hnm hK
  go_wp2_with fail
  refine (shasum_any (some ⟨w2.heap.size, 0, none⟩) 1 1 [l] _ _ (pc_one w2 B A n c l _ hbs2 (by omega) hc) (by rw [alloc_size]; exact Nat.le_refl _) (by rw [alloc_size]; omega) (range_below hK2 (alloc_below w2 _) (by omega)) (by omega) (by have := hlen.out; simp; omega)).mono ?_
  rintro e w3 ⟨rfl, hb3⟩
  rw [show [l].flatten = l by simp]
  have hb3' : Below w2.heap.size w2 w3 := (alloc_below w2 _).trans (hb3.mono (by rw [alloc_size]; omega))
  have hbs3 := hbs2.below' hb3' (by omega)
  have hB3 := hb2.trans (hb3'.mono hs2)
  have hs3 := hB3.size
  have hd := shaOf_length l
  have Hmk : Hid (makeOf nm.data.toList v l = headOf v (n : Int) nm.data.toList (shaOf l) ++ l) := by
    show makeOf _ _ _ = _
    unfold makeOf; rw [hlen.out]
  generalize shaOf l = D at *
  clear hb3 hb3' hbs2 hK2 hbs
  go_wp2_with (refine wpList_build_is rfl 25 _ rfl (Hv v n nm D).toArray (by simp only [List.map_toArray, List.map_cons, List.map_nil]; exact built_hd v n nm D hd) ?_)
  refine (write_yes w3 v n nm D hd hv0 hv1 hr).mono ?_
  rintro e w4 ⟨x4, rfl, ho4, hb4⟩
  have hbs4 := hbs3.below' hb4 (by omega)
  have hB4 := hB3.trans (hb4.mono hs3)
  have hs4 := hb4.size
  clear hb4 hbs3
  go_wp2_with (at_builtin; refine wpList_append_bs _ rfl (.tmp 28) (.tmp 29) 26 rfl w3.heap.size 5 i0 Tryd.underlying26 hi0 hzz hz2 hz3 x4 64 _ rfl ho4 B A n c l rfl hbs4 (by omega) hs4 ?_; intro x5 w5 ho5 hg5)
  go_ret2
  rw [← U8_append, ← Hmk.out] at ho5
  exact ⟨x5, rfl, ho5.mono hs3, hB4.grown hg5 (by omega) (fun k hk => by have := own_ge ho4 k hk; omega)⟩
/-- What stands behind the head. -/
theorem body_few (A : Option Addr) (n c : Nat) (w : World) (hn : (n : Int) < 64) : Calls Tryd.prog 21 #[.slice A n c] w fun e w' => e = .returned (.slice none 0 0) ∧ w' = w := by
  go_enter Tryd.func21, Tryd.ntmps21
  go_wp2
  go_ret
  exact ⟨rfl, rfl⟩
theorem body_yes (A : Option Addr) (n c : Nat) (l : List UInt8) (w : World) (B : Nat) (hbs : Bs w B A n l) (hB : B ≤ w.heap.size) (hc : n ≤ c) (hn : 64 ≤ (n : Int)) (hn2 : (n : Int) ≤ 65536) : Calls Tryd.prog 21 #[.slice A n c] w (RetOwn 5 (l.drop 64) w) := by
  obtain ⟨b, off, rfl, _, _⟩ := hbs.place (by omega)
  have h64 : ¬ (n : Int) < 64 := by omega
  have hcc : (n : Int) ≤ c := by omega
  by_cases hc64 : c = 64
  · subst hc64
    obtain rfl : n = 64 := by omega
    have hl : l.drop 64 = [] := by rw [List.drop_eq_nil_of_le]; have := hbs.len; omega
    rw [hl]
    go_enter Tryd.func21, Tryd.ntmps21
    go_wp2_with fail
    refine (clone_any b off 0 0 [] w B (Bs.empty _ _ _) hB (by omega)).mono ?_
    rintro e w2 ⟨v, rfl, h1, h2⟩
    go_wp2
    go_ret
    exact ⟨v, rfl, h1, h2⟩
  · have hcc' : 64 ≤ (c : Int) := by omega
    go_enter Tryd.func21, Tryd.ntmps21
    go_wp2_with fail
    refine (clone_any b (off + 64) (n - 64) (c - 64) (l.drop 64) w B (hbs.drop_ 64) hB (by omega)).mono ?_
    rintro e w2 ⟨v, rfl, h1, h2⟩
    go_wp2
    go_ret
    exact ⟨v, rfl, h1, h2⟩
end Go.Proofs.YtiieianbmldnbaaDoor
