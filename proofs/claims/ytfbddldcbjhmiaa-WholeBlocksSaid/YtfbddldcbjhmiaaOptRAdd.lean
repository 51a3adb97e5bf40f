/-
  The document's adding and sorting of options.
-/
import Derived.Test.YtfbddldcbjhmiaaOptAll
import Derived.Test.YtfbddldcbjhmiaaOptPairs
import Derived.Test.YtfbddldcbjhmiaaOptRef
namespace Go.Proofs.Ytfbddldcbjhmiaa
open Go.RowKit
set_option maxRecDepth 100000
set_option linter.unusedVariables false
def fewB (ps : List (Int × List UInt8)) : Bool := decide (ps.length ≤ 40) && ps.all fun x => decide (x.2.length ≤ 400)
theorem fewB_iff (ps : List (Int × List UInt8)) : fewB ps = true ↔ ps.length ≤ 40 ∧ ∀ x ∈ ps, x.2.length ≤ 400 := by
  unfold fewB
  rw [Bool.and_eq_true, decide_eq_true_iff, List.all_eq_true]
  constructor
  · rintro ⟨a, b⟩; exact ⟨a, fun x hx => of_decide_eq_true (b x hx)⟩
  · rintro ⟨a, b⟩; exact ⟨a, fun x hx => decide_eq_true (b x hx)⟩
set_option maxHeartbeats 2000000 in
theorem few_f (A : Option Addr) (n c : Nat) (vs : List Sv) (ps : List (Int × List UInt8)) (w : World) (B : Nat) (hos : Os w B A n vs ps) (hn : (n : Int) ≤ 9223372036854775807) :
    Calls Try.prog 49 #[.slice A n c] w fun e w' => e = .returned (.bool (fewB ps)) ∧ w' = w := by
  have hpl := hos.plen
  by_cases h40 : (40 : Int) < n
  · have hr : fewB ps = false := by unfold fewB; rw [decide_eq_false (by omega)]; rfl
    have HR := Lib.hid hr
    clear hr hos hpl
    go_enter Try.func49, Try.ntmps49
    go_wp2
    go_ret
    exact ⟨retB HR.out.symm, rfl⟩
  · have HO := Lib.hid (And.intro hos hpl)
    clear hos hpl
    go_enter Try.func49, Try.ntmps49
    go_wp2
    go_loop [3] (fun i => ∃ k : Nat, k ≤ n ∧ i = .int .i64 k ∧ Hid (∀ x ∈ ps.take k, x.2.length ≤ 400)) (fun i => n - (intOf i).toNat)
    case atStart => exact ⟨0, by omega, rfl, fun x hx => by simp at hx⟩
    case round =>
      obtain ⟨k, hk, rfl, hall⟩ := hrel
      by_cases hlt : k < n
      · obtain ⟨b, off, rfl, hb, hc⟩ := HO.out.1.sh.place (by omega)
        obtain ⟨s, hs⟩ := sv_get HO.out.1.sh hlt
        obtain ⟨l, hl, hbs⟩ := HO.out.1.get hs
        have c1 := (hc k s hs).2
        have hsl := hbs.len
        obtain ⟨sk, sA, sn, sc⟩ := s
        dsimp only at c1 hsl hl
        have hltI : (k : Int) < n := by omega
        by_cases h4 : (400 : Int) < sn
        · have hr : fewB ps = false := by
            have : ¬ fewB ps = true := fun e => by
              have := ((fewB_iff ps).1 e).2 _ (List.mem_of_getElem? hl)
              simp only at this
              omega
            cases e : fewB ps with
            | true => exact absurd e this
            | false => rfl
          have HR := Lib.hid hr
          clear hr hc hs hl hbs hsl
          go_wp2
          go_ret
          exact ⟨retB HR.out.symm, rfl⟩
        · have HS : Hid (∀ x ∈ ps.take (k + 1), x.2.length ≤ 400) := Lib.hid (fun x hx => by
            rw [List.take_add_one, hl] at hx
            rcases List.mem_append.1 hx with h | h
            · exact hall.out x h
            · obtain rfl := List.mem_singleton.1 h
              show l.length ≤ 400
              omega)
          clear hc hs hl hbs hsl
          go_wp2
          go_round
          case rel => exact ⟨k + 1, by omega, by go_num, HS⟩
          case measure => simp [intOf]; omega
      · obtain rfl : k = n := by omega
        have hr : fewB ps = true := (fewB_iff ps).2 ⟨by have := HO.out.2; omega, fun x hx => hall.out x (by rw [List.take_of_length_le (by have := HO.out.2; omega)]; exact hx)⟩
        have HR := Lib.hid hr
        clear hr
        go_wp2
        go_ret
        exact ⟨retB HR.out.symm, rfl⟩
/-- A row of options under way. -/
def Ost (w wr : World) (v : Value) (us : List Sv) (acc : List (Int × List UInt8)) : Prop :=
  wr.ownsRow w.heap.size 36 2 v acc.length (svs us) ∧ Mx wr w.heap.size us acc ∧ Below w.heap.size w wr
theorem Ost.push {w wr w5 w6 : World} {v v6 : Value} {us : List Sv} {acc : List (Int × List UInt8)} {s : Sv} {x : Int × List UInt8} {o : Obj} (h : Ost w wr v us acc) (hb : Below wr.heap.size wr w5)
    (ho : w6.ownsRow w.heap.size 36 2 v6 (acc.length + 1) (svs (us ++ [s]))) (hg : (w5.alloc o).grownBy w6 v.ownBlock) (hk : s.k = x.1) (hi : InS (w5.alloc o) w.heap.size s x.2) : Ost w w6 v6 (us ++ [s]) (acc ++ [x]) := by
  obtain ⟨hrow, hmx, hbr⟩ := h
  have hsz := hbr.size
  have ha : Below wr.heap.size wr (w5.alloc o) := hb.alloc hb.size o
  refine ⟨by rw [List.length_append]; exact ho, ?_, (hbr.trans (ha.mono hsz)).grown hg (by have := ha.size; omega) (own_ge hrow)⟩
  exact ((hmx.below ha hsz).push hk hi).grown (row_below hrow ha) hg (by have := ha.size; omega)
theorem addO_none {num : Int} {l : List UInt8} : ∀ {P : List (Int × List UInt8)}, (∀ x ∈ P, ¬ num < x.1) → addO num l P = P ++ [(num, l)]
  | [], _ => rfl
  | x :: r, h => by
    rw [addO, if_neg (h x List.mem_cons_self), addO_none (fun y hy => h y (List.mem_cons_of_mem _ hy))]; rfl
theorem addO_snoc {num : Int} {l : List UInt8} {y : Int × List UInt8} : ∀ {P : List (Int × List UInt8)}, (∃ x ∈ P, num < x.1) → addO num l (P ++ [y]) = addO num l P ++ [y]
  | [], h => by obtain ⟨x, hx, _⟩ := h; cases hx
  | x :: r, h => by
    rw [List.cons_append, addO, addO]
    by_cases hx : num < x.1
    · rw [if_pos hx, if_pos hx]; rfl
    · rw [if_neg hx, if_neg hx, addO_snoc]
      · rfl
      · obtain ⟨z, hz, hlt⟩ := h
        rcases List.mem_cons.1 hz with rfl | hz
        · exact absurd hlt hx
        · exact ⟨z, hz, hlt⟩
theorem addO_here {num : Int} {l : List UInt8} {y : Int × List UInt8} (hy : num < y.1) : ∀ {P : List (Int × List UInt8)}, (∀ x ∈ P, ¬ num < x.1) → addO num l (P ++ [y]) = P ++ [(num, l)] ++ [y]
  | [], _ => by rw [List.nil_append, addO, if_pos hy]; rfl
  | x :: r, h => by
    rw [List.cons_append, addO, if_neg (h x List.mem_cons_self), addO_here hy (fun z hz => h z (List.mem_cons_of_mem _ hz))]; rfl
def addAcc (num : Int) (l : List UInt8) (dn : Bool) (P : List (Int × List UInt8)) : List (Int × List UInt8) := if dn = true then addO num l P else P
def AddOk (num : Int) (dn : Bool) (P : List (Int × List UInt8)) : Prop := (dn = false → ∀ x ∈ P, ¬ num < x.1) ∧ (dn = true → ∃ x ∈ P, num < x.1)
theorem addAcc_len (num : Int) (l : List UInt8) (dn : Bool) (P : List (Int × List UInt8)) : (addAcc num l dn P).length ≤ P.length + 1 := by
  unfold addAcc
  split
  · rw [addO_len]; omega
  · omega
end Go.Proofs.Ytfbddldcbjhmiaa
