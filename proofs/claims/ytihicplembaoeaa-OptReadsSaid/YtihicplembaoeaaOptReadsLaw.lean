/-
  OptReads: all bytes are the options that the document says.
-/
import Derived.Test.YtihicplembaoeaaOptAlive
import Derived.Test.YtihicplembaoeaaOptRRead
namespace Go.Proofs.Ytihicplembaoeaa
open Go.RowKit
set_option maxRecDepth 100000
set_option linter.unusedVariables false
theorem rdGo_len (l : List UInt8) : ∀ (fuel at_ num : Nat) (acc : List (Int × List UInt8)), acc.length ≤ 24 → (∀ x ∈ acc, x.2.length ≤ 300) → (rdGo l fuel at_ num acc).1.length ≤ 24 ∧ ∀ x ∈ (rdGo l fuel at_ num acc).1, x.2.length ≤ 300
  | 0, at_, num, acc, h1, h2 => ⟨h1, h2⟩
  | fuel + 1, at_, num, acc, h1, h2 => by
    rw [rdGo]
    cases l[at_]? with
    | none => exact ⟨h1, h2⟩
    | some x =>
      simp only
      split
      · exact ⟨h1, h2⟩
      · cases bg (l.drop at_) with
        | none => exact ⟨Nat.zero_le _, fun x hx => by cases hx⟩
        | some p =>
          obtain ⟨d, s, k⟩ := p
          simp only
          split
          · exact ⟨Nat.zero_le _, fun x hx => by cases hx⟩
          · split
            · exact ⟨Nat.zero_le _, fun x hx => by cases hx⟩
            · split
              · exact ⟨Nat.zero_le _, fun x hx => by cases hx⟩
              · split
                · exact ⟨Nat.zero_le _, fun x hx => by cases hx⟩
                · refine rdGo_len l fuel _ _ _ (by rw [List.length_append]; show acc.length + 1 ≤ 24; omega) (fun x hx => ?_)
                  rcases List.mem_append.1 hx with h | h
                  · exact h2 x h
                  · obtain rfl := List.mem_singleton.1 h
                    show ((l.drop (at_ + k)).take s).length ≤ 300
                    rw [List.length_take]; omega
set_option maxHeartbeats 4000000 in
theorem reads_law (A : Option Addr) (n c : Nat) (l : List UInt8) (w : World) (hb : Bs w w.heap.size A n l) (hc : n ≤ c) (hm : c ≤ maxLen) :
    Calls Try.prog 4 #[.slice A n c] w fun e w' => e = .returned (.bool true) ∧ Below w.heap.size w w' := by
  have hcI : (c : Int) ≤ 9223372036854775807 := by simp only [maxLen] at hm; omega
  have hA := oalive_any w
  by_cases hn : (4000 : Int) < n
  · clear hm
    go_enter Try.func4, Try.ntmps4
    go_wp2_with (go_at_call 14; refine hA.mono ?_; rintro e w1 ⟨rfl, b1⟩)
    go_ret
    exact ⟨rfl, b1⟩
  · have h1 := fun W (b : Below w.heap.size w W) => read_f A n c l W _ (hb.below b) b.size hc hcI (by omega)
    have h2 := fun W (b : Below w.heap.size w W) => rread_f A n c l W _ (hb.below b) b.size hc hcI (by omega)
    have hlen := rdGo_len l (l.length + 1) 0 0 [] (Nat.zero_le _) (fun x hx => by cases hx)
    obtain ⟨⟨ps, at_, er⟩, hr⟩ : ∃ r, rdO l = r := ⟨_, rfl⟩
    have hlen' : (rdO l).1.length ≤ 24 ∧ ∀ x ∈ (rdO l).1, x.2.length ≤ 300 := hlen
    rw [hr] at h1 h2 hlen'
    dsimp only at hlen'
    have HH := Lib.hid (And.intro h1 (And.intro h2 (And.intro hlen' hA)))
    obtain ⟨N, hN⟩ : ∃ N, ps.length = N := ⟨_, rfl⟩
    have HN := Lib.hid hN
    have hN24 : (N : Int) ≤ 24 := by have := hlen'.1; omega
    clear h1 h2 hlen hlen' hA hb hr hm hN
    go_enter Try.func4, Try.ntmps4
    go_wp2_with (first
      | (go_at_call 14; refine HH.out.2.2.2.mono ?_; rintro e w1 ⟨rfl, b1⟩; have H1 := Lib.hid b1; clear b1)
      | (go_at_call 19; refine (HH.out.1 w1 H1.out).mono ?_; rintro e w2 ⟨A2, n2, c2, us2, rfl, hc2, hm2, hn2, hos2, b2⟩; obtain rfl : n2 = N := hn2.out.trans HN.out; have H2 := Lib.hid (And.intro hos2 (H1.out.trans (b2.mono H1.out.size))); clear hn2 hos2 b2 hc2 hm2)
      | (go_at_call 20; refine (HH.out.2.1 w2 H2.out.2).mono ?_; rintro e w3 ⟨A3, n3, c3, us3, rfl, hc3, hm3, hn3, hos3, b3⟩; obtain rfl : n3 = n2 := hn3.out.trans HN.out; have H3 := Lib.hid (And.intro hos3 (And.intro ((H2.out.1.below b3).more b3.size) (H2.out.2.trans (b3.mono H2.out.2.size)))); clear hn3 hos3 b3 hc3 hm3)
      | (go_at_call 21; refine (osame_yes w3 A2 A3 n3 c2 c3 us2 us3 ps H3.out.2.1 H3.out.1 (by omega) (fun x hx => Nat.le_trans (HH.out.2.2.1.2 x hx) (by omega))).mono ?_; rintro e w4 ⟨rfl, b4⟩; have H4 := Lib.hid b4; clear b4))
    go_ret
    exact ⟨rfl, H3.out.2.2.trans (H4.out.mono H3.out.2.2.size)⟩
end Go.Proofs.Ytihicplembaoeaa
