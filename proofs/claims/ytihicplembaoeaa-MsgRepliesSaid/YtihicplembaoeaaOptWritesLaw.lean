/-
  OptWrites: all options have the bytes, or the error, that the document says.
-/
import Derived.Test.YtihicplembaoeaaOptAlive
import Derived.Test.YtihicplembaoeaaOptRWrite
namespace Go.Proofs.Ytihicplembaoeaa
open Go.RowKit
set_option maxRecDepth 100000
set_option linter.unusedVariables false
theorem wrP_len (ps : List (Int × List UInt8)) : (wrP ps).1.length ≤ 7320 := by
  unfold wrP
  split
  · rename_i h
    unfold errP at h
    split at h
    · cases h
    · rename_i h24
      split at h
      · cases h
      · split at h
        · cases h
        · rename_i hl
          have hs : ∀ x ∈ sortP ps, x.2.length ≤ 300 := fun x hx => by
            have hx' := sortP_mem ps x hx
            by_cases e : x.2.length ≤ 300
            · exact e
            · exact absurd (List.any_eq_true.2 ⟨x, hx', decide_eq_true (by omega)⟩) hl
          have := wrF_len (ps := sortP ps) hs
          have h2 := sortP_len ps
          show (wrF (sortP ps)).1.length ≤ 7320
          omega
  · exact Nat.zero_le _
set_option maxHeartbeats 2000000 in
theorem writes_law (A : Option Addr) (n c : Nat) (vs : List Sv) (ps : List (Int × List UInt8)) (w : World) (hos : Os w w.heap.size A n vs ps) (hcm : n ≤ maxLen) :
    Calls Try.prog 3 #[.slice A n c] w fun e w' => e = .returned (.bool true) ∧ Below w.heap.size w w' := by
  have hA := oalive_any w
  have hnI : (n : Int) ≤ 9223372036854775807 := by simp only [maxLen] at hcm; omega
  have hfew := fun W (b : Below w.heap.size w W) => few_f A n c vs ps W _ (hos.below b) hnI
  have h1 := fun W (b : Below w.heap.size w W) => writep_f A n c vs ps W _ (hos.below b) b.size hnI
  have h2 := fun W (b : Below w.heap.size w W) => rwrite_f A n c vs ps W ((hos.below b).more b.size) hnI
  have hlen := wrP_len ps
  obtain ⟨⟨l, er⟩, hr⟩ : ∃ r, wrP ps = r := ⟨_, rfl⟩
  obtain ⟨q, hq⟩ : ∃ q, fewB ps = q := ⟨_, rfl⟩
  rw [hq] at hfew
  rw [hr] at h1 h2 hlen
  dsimp only at hlen
  have HH := Lib.hid (And.intro hA (And.intro hfew (And.intro h1 (And.intro h2 hlen))))
  clear hA hfew h1 h2 hlen hr hq hos hcm
  cases q with
  | false =>
    go_enter Try.func3, Try.ntmps3
    go_wp2_with (first
      | (go_at_call 14; refine HH.out.1.mono ?_; rintro e w1 ⟨rfl, b1⟩; have H1 := Lib.hid b1; clear b1)
      | (go_at_call 15; refine (HH.out.2.1 w1 H1.out).mono ?_; rintro e w2 ⟨rfl, hw⟩; obtain rfl := hw.symm))
    go_ret
    exact ⟨rfl, H1.out⟩
  | true =>
    have hee : (er == er) = true := beq_self_eq_true _
    go_enter Try.func3, Try.ntmps3
    go_wp2_with (first
      | (go_at_call 14; refine HH.out.1.mono ?_; rintro e w1 ⟨rfl, b1⟩; have H1 := Lib.hid b1; clear b1)
      | (go_at_call 15; refine (HH.out.2.1 w1 H1.out).mono ?_; rintro e w2 ⟨rfl, hw⟩; obtain rfl := hw.symm)
      | (go_at_call 16; refine (HH.out.2.2.1 w1 H1.out).mono ?_; rintro e w3 ⟨A3, n3, c3, rfl, hc3, hn3, hb3, b3⟩; have H3 := Lib.hid (And.intro hb3 (And.intro hn3.out (H1.out.trans (b3.mono H1.out.size)))); clear hc3 hn3 hb3 b3))
    refine (HH.out.2.2.2.1 w3 H3.out.2.2).mono ?_
    rintro e w4 ⟨A4, n4, c4, rfl, hc4, hn4, hb4, b4⟩
    have hlen := HH.out.2.2.2.2
    have hs := same_any A3 A4 n3 c3 n4 c4 l l w4 _ _ (H3.out.1.below b4) hb4 (by have := H3.out.2.1; (try dsimp only at this); omega) (by have := hn4.out; (try dsimp only at this); omega)
    rw [decide_eq_true rfl] at hs
    have H4 := Lib.hid (And.intro hs (H3.out.2.2.trans (b4.mono H3.out.2.2.size)))
    clear hc4 hn4 hb4 b4 hs hlen
    go_wp2_with fail
    refine H4.out.1.mono ?_
    rintro e w5 ⟨rfl, mm, hw5⟩
    have H5 : Hid (Below w4.heap.size w4 w5) := Lib.hid (hw5 ▸ drewN_below _ _ mm)
    clear hw5
    go_wp2
    go_ret
    exact ⟨rfl, H4.out.2.trans (H5.out.mono H4.out.2.size)⟩
end Go.Proofs.Ytihicplembaoeaa
