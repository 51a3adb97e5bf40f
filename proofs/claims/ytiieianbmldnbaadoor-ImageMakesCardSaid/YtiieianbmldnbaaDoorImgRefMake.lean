/-
  The document's image of a body.
-/
import Derived.Test.YtiieianbmldnbaaDoorImgHeadsLaw
import Derived.Test.YtiieianbmldnbaaDoorShaRefSum
import Derived.Test.YtiieianbmldnbaaDoorShaJoin
namespace Go.Proofs.YtiieianbmldnbaaDoor
open Go.RowKit
set_option maxRecDepth 100000
set_option linter.unusedVariables false
set_option maxRecDepth 100000
theorem ps_two (w : World) (B : Nat) (A1 : Option Addr) (n1 c1 : Nat) (l1 : List UInt8) (A2 : Option Addr) (n2 c2 : Nat) (l2 : List UInt8) (t : TypeId) (h1 : Bs w B A1 n1 l1) (h2 : Bs w B A2 n2 l2) (hB : B ≤ w.heap.size) :
    Ps (w.alloc (.cells #[.slice A1 n1 c1, .slice A2 n2 c2] t)) (w.heap.size + 1) (some ⟨w.heap.size, 0, none⟩) 2 [l1, l2] :=
  ⟨rfl, fun _ => ⟨w.heap.size, 0, rfl, by omega, fun k x hk => by
    match k, hk with
    | 0, hk =>
      obtain rfl := Option.some.inj hk
      refine ⟨A1, n1, c1, ?_, (h1.alloc hB _).more (by omega)⟩
      rw [Nat.zero_add, cell_of_row _ _ _ _ _ _ (heap_alloc_new w _)]; rfl
    | 1, hk =>
      obtain rfl := Option.some.inj hk
      refine ⟨A2, n2, c2, ?_, (h2.alloc hB _).more (by omega)⟩
      rw [Nat.zero_add, cell_of_row _ _ _ _ _ _ (heap_alloc_new w _)]; rfl⟩⟩
theorem rmake_no (w : World) (nm : ByteArray) (v : Int) (A : Option Addr) (n c : Nat) (h : named nm.data.toList = false) :
    Calls Tryd.prog 18 #[.string nm, .int .u32 v, .slice A n c] w fun e w' => e = .returned (.tuple #[.slice none 0 0, .int .i64 1]) ∧ Below w.heap.size w w' := by
  have hnm := rnamed_any w nm
  rw [h] at hnm
  go_enter Tryd.func18, Tryd.ntmps18
  go_wp2_with fail
  refine hnm.mono ?_
  rintro e w2 ⟨rfl, hw⟩
  obtain rfl := hw.symm
  go_wp2
  go_ret2
  exact ⟨rfl, Below.refl _ _⟩
set_option maxHeartbeats 1600000 in
theorem rmake_yes (w : World) (nm : ByteArray) (v : Int) (A : Option Addr) (n c : Nat) (l : List UInt8) (hbs : Bs w w.heap.size A n l) (hc : n ≤ c) (hn : (n : Int) ≤ 2000) (h : named nm.data.toList = true) (hv0 : 0 ≤ v) (hv1 : v < 4294967296)
    (hg : 1 < w.heap.size) (hW : w.rangeAt 0 0 (W32 KS)) :
    Calls Tryd.prog 18 #[.string nm, .int .u32 v, .slice A n c] w fun e w' => ∃ x, e = .returned (.tuple #[x, .int .i64 0]) ∧ w'.ownsRow w.heap.size 5 1 x (makeOf nm.data.toList v l).length (U8 (makeOf nm.data.toList v l)) ∧ Below w.heap.size w w' := by
  have hnm := rnamed_any w nm
  rw [h] at hnm
  have hlen := Lib.hid hbs.len
  have hl20 : ¬ (1048576 : Int) < n := by omega
  have hr : rightH (n : Int) nm = true := by
    unfold rightH
    rw [h, decide_eq_true (by omega), decide_eq_true (by omega)]; rfl
  have Hml := Lib.hid (makeOf_length (v := v) (l := l) h)
  clear h
  go_enter Tryd.func18, Tryd.ntmps18
  go_wp2_with fail
  refine hnm.mono ?_
  rintro e w2 ⟨rfl, hw⟩
  obtain rfl := hw.symm
  clear hnm
  go_wp2_with fail
  refine (refsum_any A n c l w hbs (by omega) hg hW).mono ?_
  rintro e w3 ⟨rfl, hb3⟩
  have hbs3 := hbs.below' hb3 (Nat.le_refl _)
  have hs3 := hb3.size
  have hd := shaOf_length l
  have Hmk : Hid (makeOf nm.data.toList v l = headOf v (n : Int) nm.data.toList (shaOf l) ++ l) := by
    show makeOf _ _ _ = _
    unfold makeOf; rw [hlen.out]
  generalize shaOf l = D at *
  clear hW hbs
  go_wp2_with (refine wpList_build_is rfl 33 _ rfl (Hv v n nm D).toArray (by simp only [List.map_toArray, List.map_cons, List.map_nil]; exact built33 v n nm D hd) ?_)
  refine (rwrite_yes w3 v n nm D hd hv0 hv1 hr).mono ?_
  rintro e w4 ⟨x4, rfl, ho4, hb4⟩
  have hbs4 := hbs3.below' hb4 hs3
  have hB4 := hb3.trans (hb4.mono hs3)
  have hs4 := hb4.size
  obtain ⟨A4, c4, rfl, hc4, hy4⟩ := Bs.of_own ho4
  clear hb4 hbs3 hb3 ho4
  go_wp2_with fail
  have hps := ps_two w4 w4.heap.size A4 64 c4 _ A n c l 26 hy4 (hbs4.more (by omega)) (Nat.le_refl _)
  have hfl : [headOf v (n : Int) nm.data.toList D, l].flatten = makeOf nm.data.toList v l := by rw [Hmk.out]; simp
  have hll := hlen.out
  have hml := Hml.out
  refine (join_any _ 2 2 _ _ _ hps (by rw [alloc_size]; exact Nat.le_refl _) (by omega) (by rw [hfl, hml]; omega)).mono ?_
  rintro e w5 ⟨x5, rfl, ho5, hb5⟩
  rw [hfl] at ho5
  rw [alloc_size] at ho5 hb5
  clear hll hml hfl hps
  go_wp2
  go_ret2
  exact ⟨x5, rfl, ho5.mono (by omega), hB4.trans (((alloc_below w4 _).trans (hb5.mono (by omega))).mono (by omega))⟩
end Go.Proofs.YtiieianbmldnbaaDoor
