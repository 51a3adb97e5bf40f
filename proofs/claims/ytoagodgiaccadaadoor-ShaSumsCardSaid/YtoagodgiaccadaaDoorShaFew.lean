/-
  Few parts of few bytes.
-/
import Derived.Test.YtoagodgiaccadaaDoorShaParts
namespace Go.Proofs.YtoagodgiaccadaaDoor
open Go.RowKit
theorem few_any (A : Option Addr) (n c : Nat) (ls : List (List UInt8)) (w : World) (B : Nat) (hps : Pc w B A n ls) :
    Calls Tryd.prog 6 #[.slice A n c, .int .i64 8, .int .i64 2000] w fun e w' => e = .returned (.bool (decide (n ≤ 8 ∧ ls.flatten.length ≤ 2000))) ∧ w' = w := by
  have hlen := Lib.hid hps.len
  by_cases h8 : (n : Int) ≤ 8
  · have hgt : ¬ ((8 : Int) < n) := by omega
    go_enter Tryd.func6, Tryd.ntmps6
    go_wp2
    go_loopw [7, 8] (fun v i wr => ∃ k m : Nat, k ≤ n ∧ i = .int .i64 k ∧ v = .int .i64 m ∧ Hid (m = (ls.take k).flatten.length) ∧ (m : Int) ≤ 2000 ∧ wr = w) (fun _ i _ => n - (intOf i).toNat)
    case atStart => exact ⟨0, 0, by omega, rfl, rfl, rfl, by omega, rfl⟩
    case round =>
      obtain ⟨k, m, hk, rfl, rfl, hm, hm2, rfl⟩ := hrel
      by_cases hlt : k < n
      · obtain ⟨b, off, rfl, hb, hc⟩ := hps.place (by omega)
        obtain ⟨l, hl⟩ := partc_get (ls := ls) (k := k) (by rw [hlen.out]; omega)
        obtain ⟨A', n', c', hck, hcap, hbs⟩ := hc k l hl
        clear hc
        have Htf := Lib.hid (takec_flat hl)
        have Hfl := Lib.hid (flatc_le hl)
        have Hll := Lib.hid hbs.len
        clear hl hbs hcap
        by_cases hfit : (2000 : Int) - m < n'
        · go_wp2
          go_ret
          refine ⟨?_, rfl⟩
          rw [decide_eq_false (fun hh => by have := Hfl.out; have := Hll.out; have := hm.out; omega)]; rfl
        · have hfit2 : (m : Int) + n' ≤ 2000 := by omega
          go_wp2
          go_roundw
          case rel => exact ⟨k + 1, m + n', by omega, by go_num, by go_num, by show m + n' = _; rw [Htf.out, List.length_append, ← hm.out, Hll.out], by omega, trivial⟩
          case measure => simp [intOf]; omega
      · go_wp2
        go_ret
        refine ⟨?_, rfl⟩
        obtain rfl : k = n := by omega
        have := hm.out
        rw [List.take_of_length_le (by rw [hlen.out]; omega)] at this
        rw [decide_eq_true ⟨by omega, by omega⟩]; rfl
  · have hgt : (8 : Int) < n := by omega
    go_enter Tryd.func6, Tryd.ntmps6
    go_wp2
    go_ret
    refine ⟨?_, rfl⟩
    rw [decide_eq_false (fun hh => by omega)]; rfl
end Go.Proofs.YtoagodgiaccadaaDoor
