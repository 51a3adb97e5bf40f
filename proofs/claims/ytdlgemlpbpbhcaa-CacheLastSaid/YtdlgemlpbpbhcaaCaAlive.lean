/-
  The document's example of layer 11.
-/
import Derived.Test.YtdlgemlpbpbhcaaCaKept
import Derived.Test.YtdlgemlpbpbhcaaCaLen
import Derived.Lib.SlBytesConst
namespace Go.Proofs.Ytdlgemlpbpbhcaa
open Go.RowKit
set_option linter.unusedVariables false
theorem KpT.toBelow {cb B : Nat} {w w' : World} (h : KpT cb w w') (hB : B ≤ cb) : Below B w w' := ⟨h.os, h.tape, h.output, h.size, fun k hk => h.low k (by omega)⟩
theorem ca_1 : keepQ [] 1 7 10 [97] = [⟨1, 7, 10, [97]⟩] := rfl
theorem ca_2 : findQ [⟨1, 7, 10, [97]⟩] 1 7 256 = some [97] := rfl
theorem ca_3 : findQ [⟨1, 7, 10, [97]⟩] 1 7 257 = none := rfl
theorem ca_4 : findQ [⟨1, 7, 10, [97]⟩] 2 7 10 = none := rfl
theorem ca_5 : cntQ 10 [⟨1, 7, 10, [97]⟩] = 1 := rfl
theorem ca_6 : cntQ 10 [] = 0 := rfl
theorem bs_typ {cb g n : Nat} {w W : World} {l : List UInt8} {fr : Nat × Nat} (h : w.heap[g]? = some (.cells (U8 l).toArray 5 fr)) (hn : n = l.length) (hk : KpT cb w W) : Bs W W.heap.size (some ⟨g, 0, none⟩) n l := by
  have hg := (hk.typ g _ _ _ h (by decide) (by decide)).trans h
  refine ⟨hn.symm, fun _ => ⟨g, 0, rfl, (Array.getElem?_eq_some_iff.1 hg).1, fun j x hx => ?_⟩⟩
  rw [cell_of_row _ _ _ _ _ _ hg, Nat.zero_add, ← Array.getElem?_toList]
  show (U8 l)[j]? = _
  rw [U8_get, hx]; rfl
set_option maxHeartbeats 8000000 in
theorem caalive_any (w : World) : Calls Try.prog 6 #[] w fun e w' => e = .returned (.bool true) ∧ Below w.heap.size w w' := by
  have kc := fun (w : World) (C : Array Value) (n c : Nat) => Lib.run_convert_bytes_const (P := Try.prog) w 28 5 C n c Try.underlying28 Try.underlying5
  go_enter Try.func6, Try.ntmps6
  go_wp2_with fail
  refine (canew_f w).mono ?_
  rintro e w1 ⟨rfl, hca, b1, s1⟩
  have H1 := Lib.hid (And.intro hca (And.intro b1 s1))
  clear hca b1 s1
  go_wp2_with fail
  refine calls_at_world (F := fun W => Below w1.heap.size w1 W ∧ ∃ fr, W.heap[w1.heap.size]? = some (.cells (U8 [97]).toArray 5 fr)) ⟨alloc_below w1 _, _, heap_alloc_new w1 _⟩ fun w2 ⟨b2, fr, x2⟩ => ?_
  have hk := cakeep_f w.heap.size _ _ _ w2 (H1.out.1.below b2) 1 7 10 (some ⟨w1.heap.size, 0, none⟩) 1 1 [97] (fun W hW => bs_typ x2 rfl hW) (by omega)
  rw [ca_1] at hk
  have H2 := Lib.hid b2
  clear b2 x2 kc
  refine hk.mono ?_
  rintro e w3 ⟨rfl, ⟨v3, vs3, hca⟩, kp⟩
  have H3 := Lib.hid (And.intro hca (H1.out.2.1.trans ((H2.out.mono H1.out.2.1.size).trans (kp.toBelow (Nat.le_refl _)))))
  clear hk hca kp
  go_wp2_with fail
  have h4 := cafind_f w.heap.size _ _ _ w3 H3.out.1 1 7 256
  rw [ca_2] at h4
  refine h4.mono ?_
  rintro e w4 ⟨A4, n4, c4, rfl, hc4, hn4, hb4, hf4, b4⟩
  obtain rfl : n4 = 1 := hn4.out
  have H4 := Lib.hid (And.intro (H3.out.1.below b4) (And.intro hb4 (And.intro hf4 (H3.out.2.trans (b4.mono H3.out.2.size)))))
  clear h4 hn4 hb4 hf4 b4
  try dsimp only
  go_wp2_with fail
  have h5 := cafind_f w.heap.size _ _ _ w4 H4.out.1 1 7 257
  rw [ca_3] at h5
  refine h5.mono ?_
  rintro e w5 ⟨A5, n5, c5, rfl, hc5, hn5, hb5, hf5, b5⟩
  have H5 := Lib.hid (And.intro (H4.out.1.below b5) (And.intro ((H4.out.2.1.below b5).more b5.size) (H4.out.2.2.2.trans (b5.mono H4.out.2.2.2.size))))
  clear h5 hn5 hb5 hf5 b5 hc5
  try dsimp only
  go_wp2_with fail
  have h6 := cafind_f w.heap.size _ _ _ w5 H5.out.1 2 7 10
  rw [ca_4] at h6
  refine h6.mono ?_
  rintro e w6 ⟨A6, n6, c6, rfl, hc6, hn6, hb6, hf6, b6⟩
  have H6 := Lib.hid (And.intro (H5.out.1.below b6) (And.intro ((H5.out.2.1.below b6).more b6.size) (H5.out.2.2.trans (b6.mono H5.out.2.2.size))))
  clear h6 hn6 hb6 hf6 b6 hc6
  try dsimp only
  go_wp2_with fail
  have h7 := calen_f w.heap.size _ _ _ w6 H6.out.1 10
  rw [ca_5] at h7
  refine h7.mono ?_
  rintro e w7 ⟨rfl, b7⟩
  have H7 := Lib.hid (And.intro (H6.out.1.below b7) (And.intro ((H6.out.2.1.below b7).more b7.size) (H6.out.2.2.trans (b7.mono H6.out.2.2.size))))
  clear h7 b7
  go_wp2_with fail
  refine (caclear_f w.heap.size _ _ _ w7 H7.out.1).mono ?_
  rintro e w8 ⟨rfl, hca, ho⟩
  have hb8 : Bs w8 w7.heap.size A4 1 [97] := H7.out.2.1.keepOff (fun a e hg => by
    have h1 := H4.out.2.2.1 a e
    have h2 := H3.out.1.lt
    omega) (fun p hp hg => ho.cell hp hg)
  have s8 : (convert 28 9 (.slice A4 1 c4)).run Try.prog w8 = .ok (.string ⟨#[97]⟩) w8 := run_string_bs (P := Try.prog) hb8 28 9 5 c4 Try.underlying28 Try.underlying5 Try.underlying9
  have H8 := Lib.hid (And.intro hca (H7.out.2.2.trans (ho.toBelow H7.out.2.2.size (Nat.le_refl _))))
  clear hca ho hb8
  have h9 := calen_f w.heap.size _ _ _ w8 H8.out.1 10
  rw [ca_6] at h9
  go_wp2_with (go_at_call 15; refine h9.mono ?_; rintro e w9 ⟨rfl, b9⟩)
  go_ret
  exact ⟨rfl, H8.out.2.trans (b9.mono H8.out.2.size)⟩
end Go.Proofs.Ytdlgemlpbpbhcaa
