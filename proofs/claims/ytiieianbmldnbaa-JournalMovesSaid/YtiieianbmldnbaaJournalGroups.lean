/-
  The law's groups: a flash and its two parts.
-/
import Derived.Test.YtiieianbmldnbaaJournalPure
namespace Go.Proofs.Ytiieianbmldnbaa
open Go.RowKit Go.Maps Go.Shelf
set_option maxRecDepth 100000
set_option linter.unusedVariables false
set_option maxRecDepth 100000
def QG (g bb wb pa pb m : Nat) : PQ := ⟨g, bb, wb, fun i => if i = 0 then pa else pb, fun i => 2 * i, fun _ => 2, fun i => 2 * m * i, fun _ => 2 * m⟩
theorem qg_at {w : World} {g bb wb pa pb m b0 s0 b1 s1 : Nat} (hf : FlashAt w g bb wb (fresh 4 m)) (p0 : PartAt w pa g 0 2 b0 s0) (k0 : PartOk (fresh 4 m) 0 2 b0 s0) (p1 : PartAt w pb g 2 2 b1 s1) (k1 : PartOk (fresh 4 m) 2 2 b1 s1)
    (ha : pa ≠ g ∧ pa ≠ bb ∧ pa ≠ wb) (hb : pb ≠ g ∧ pb ≠ bb ∧ pb ≠ wb) : PQAt w (QG g bb wb pa pb m) (fresh 4 m) := by
  have e0 : b0 = 2 * m * 0 := by rw [k0.be]; simp
  have e1 : s0 = 2 * m := k0.si
  have e2 : b1 = 2 * m * 1 := by rw [k1.be]; simp; rfl
  have e3 : s1 = 2 * m := k1.si
  subst e0 e1 e2 e3
  refine ⟨fun i hi => ?_, fun i hi => ?_, hf, (fun e => by cases e), fun i hi => ?_⟩
  · match i, hi with
    | 0, _ => exact p0
    | 1, _ => exact p1
  · match i, hi with
    | 0, _ => exact k0
    | 1, _ => exact k1
  · match i, hi with
    | 0, _ => exact ha
    | 1, _ => exact hb
set_option maxHeartbeats 1600000 in
theorem groups_f (w : World) (b : Int) (m : Nat) (hm : min (max b 16) 4096 = (m : Int)) :
    Calls Try.prog 9 #[.int .i64 b] w fun e w' => ∃ g bb wb pa pb, e = .returned (.tuple #[.pointer (some ⟨g, 0, none⟩), .pointer (some ⟨pa, 0, none⟩), .pointer (some ⟨pb, 0, none⟩)]) ∧ PQAt w' (QG g bb wb pa pb m) (fresh 4 m) ∧ Below w.heap.size w w' ∧ w.heap.size ≤ g ∧ w.heap.size ≤ bb ∧ w.heap.size ≤ wb ∧ w.heap.size ≤ pa ∧ w.heap.size ≤ pb := by
  have kn := new_f w 4 b 4 m (by decide) hm
  clear hm
  go_enter Try.func9, Try.ntmps9
  go_wp2_with fail
  refine kn.mono ?_
  rintro e w1 ⟨g, bb, wb, rfl, hf, b1, hg, hbb, hwb⟩
  have H1 : Aside _ := And.intro hf (And.intro b1 (And.intro hg (And.intro hbb hwb)))
  have k0 := pnew_yes w1 g bb wb (fresh 4 m) 0 2 hf (by omega) (by simp [fresh])
  clear kn hf b1 hg hbb hwb
  go_wp2_with fail
  refine k0.mono ?_
  rintro e w2 ⟨pa, b0, s0, rfl, p0, o0, b2, h2⟩
  have H2 : Aside _ := And.intro p0 (And.intro o0 (And.intro b2 h2))
  have k1 := pnew_yes w2 g bb wb (fresh 4 m) 2 2 (H1.out.1.below b2) (by omega) (by simp [fresh])
  clear k0 p0 o0 b2 h2
  go_wp2_with fail
  refine k1.mono ?_
  rintro e w3 ⟨pb, b1, s1, rfl, p1, o1, b3, h3⟩
  have H3 : Aside _ := And.intro p1 (And.intro o1 (And.intro b3 h3))
  clear k1 p1 o1 b3 h3
  go_wp2
  go_ret3
  obtain ⟨hf, b1, hg, hbb, hwb⟩ := H1.out
  obtain ⟨p0, o0, b2, h2⟩ := H2.out
  obtain ⟨p1, o1, b3, h3⟩ := H3.out
  have hl := hf.lt
  have hs := b2.size
  have hs1 := b1.size
  exact ⟨g, bb, wb, pa, pb, rfl, qg_at ((hf.below b2).below b3) (p0.below b3) o0 p1 o1 (by omega) (by omega), b1.trans ((b2.trans (b3.mono hs)).mono hs1), hg, hbb, hwb, by omega, by omega⟩
end Go.Proofs.Ytiieianbmldnbaa
