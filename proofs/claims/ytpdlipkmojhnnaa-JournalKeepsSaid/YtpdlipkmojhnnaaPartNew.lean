/-
  A part made.
-/
import Derived.Test.YtpdlipkmojhnnaaPartClear
namespace Go.Proofs.Ytpdlipkmojhnnaa
open Go.RowKit
set_option maxRecDepth 100000
theorem part_made (w : World) (g fi co be si : Nat) (t : TypeId) : PartAt (w.alloc (.cells #[.pointer (some ⟨g, 0, none⟩), .int .i64 (fi : Int), .int .i64 (co : Int), .int .i64 (be : Int), .int .i64 (si : Int)] t)) w.heap.size g fi co be si := by
  have hg := heap_alloc_new w (.cells #[.pointer (some ⟨g, 0, none⟩), .int .i64 (fi : Int), .int .i64 (co : Int), .int .i64 (be : Int), .int .i64 (si : Int)] t)
  have cg : ∀ (j : Nat) (v : Value), (#[.pointer (some ⟨g, 0, none⟩), .int .i64 (fi : Int), .int .i64 (co : Int), .int .i64 (be : Int), .int .i64 (si : Int)] : Array Value)[j]? = some v → (w.alloc (.cells #[.pointer (some ⟨g, 0, none⟩), .int .i64 (fi : Int), .int .i64 (co : Int), .int .i64 (be : Int), .int .i64 (si : Int)] t)).cell? ⟨w.heap.size, j, none⟩ = some v := fun j v h => by rw [cell_of_row _ _ _ _ _ _ hg]; exact h
  exact ⟨cg 0 _ rfl, cg 1 _ rfl, cg 2 _ rfl, cg 3 _ rfl, cg 4 _ rfl, by rw [alloc_size]; omega⟩
theorem pnew_no (w : World) (g bb wb : Nat) (F : Fl) (fi co : Int) (hf : FlashAt w g bb wb F) (h1 : -9223372036854775808 ≤ fi) (h2 : fi ≤ 9223372036854775807) (hno : ¬ (0 ≤ fi ∧ 1 ≤ co ∧ fi + co ≤ F.wear.length)) :
    Calls Try.prog 22 #[.pointer (some ⟨g, 0, none⟩), .int .i64 fi, .int .i64 co] w fun e w' => e = .returned (.tuple #[.pointer none, .int .i64 1]) ∧ w' = w := by
  have hs := sectors_f w g bb wb F hf
  have hl := hf.ok.wear
  obtain ⟨n, hn⟩ : ∃ n, F.wear.length = n := ⟨_, rfl⟩
  rw [hn] at hs hl hno
  clear hn
  obtain ⟨d, hd⟩ : ∃ d, IntKind.i64.wrap ((n : Int) - fi) = d := ⟨_, rfl⟩
  by_cases f0 : 0 ≤ fi
  · by_cases c1 : 1 ≤ co
    · have hdv : d = (n : Int) - fi := by rw [← hd, IntKind.wrap_i64]; omega
      have hco : d < co := by omega
      clear hno hdv h1 h2 hl
      go_enter Try.func22, Try.ntmps22
      go_wp2_with fail
      refine hs.mono ?_
      rintro e w' ⟨rfl, hw⟩
      obtain rfl := hw.symm
      go_wp2
      go_ret2
      exact ⟨rfl, rfl⟩
    · clear hno h1 h2 hl
      go_enter Try.func22, Try.ntmps22
      go_wp2
      go_ret2
      exact ⟨rfl, rfl⟩
  · clear hno h1 h2 hl
    go_enter Try.func22, Try.ntmps22
    go_wp2
    go_ret2
    exact ⟨rfl, rfl⟩
theorem pnew_yes (w : World) (g bb wb : Nat) (F : Fl) (fi co : Nat) (hf : FlashAt w g bb wb F) (c1 : 1 ≤ co) (hin : fi + co ≤ F.wear.length) :
    Calls Try.prog 22 #[.pointer (some ⟨g, 0, none⟩), .int .i64 (fi : Int), .int .i64 (co : Int)] w fun e w' => ∃ pp be si, e = .returned (.tuple #[.pointer (some ⟨pp, 0, none⟩), .int .i64 0]) ∧ PartAt w' pp g fi co be si ∧ PartOk F fi co be si ∧ Below w.heap.size w w' ∧ w.heap.size ≤ pp := by
  have hs := sectors_f w g bb wb F hf
  have hsec := sector_f w g bb wb F hf
  have hl := hf.ok.wear
  have hse := hf.ok.sec
  have c1i : (1 : Int) ≤ (co : Int) := by omega
  obtain ⟨n, hn⟩ : ∃ n, F.wear.length = n := ⟨_, rfl⟩
  rw [hn] at hs hl hin
  have hdi : IntKind.i64.wrap ((n : Int) - (fi : Int)) = (n : Int) - (fi : Int) := by rw [IntKind.wrap_i64]; omega
  have hci : (co : Int) ≤ (n : Int) - (fi : Int) := by omega
  obtain ⟨m, hm⟩ : ∃ m, F.sec = m := ⟨_, rfl⟩
  rw [hm] at hsec hse
  have HN := Lib.hid hn
  have HI := Lib.hid hin
  have HL := Lib.hid hl
  have HM := Lib.hid hm
  have HSE := Lib.hid hse
  clear hn hin hl hm hse
  go_enter Try.func22, Try.ntmps22
  go_wp2_with fail
  refine hs.mono ?_
  rintro e w' ⟨rfl, hw⟩
  obtain rfl := hw.symm
  obtain ⟨be, hbe⟩ : ∃ be, fi * m = be := ⟨_, rfl⟩
  obtain ⟨si, hsi⟩ : ∃ si, co * m = si := ⟨_, rfl⟩
  have hfi : fi ≤ 64 := by have := HI.out; have := HL.out; omega
  have hco : co ≤ 64 := by have := HI.out; have := HL.out; omega
  have hm4 := HSE.out
  have b1 : be ≤ 262144 := by rw [← hbe]; exact Nat.le_trans (Nat.mul_le_mul hfi hm4.2) (by decide)
  have b2 : si ≤ 262144 := by rw [← hsi]; exact Nat.le_trans (Nat.mul_le_mul hco hm4.2) (by decide)
  have e1 : (fi : Int) * (m : Int) = (be : Int) := by rw [← hbe]; push_cast; rfl
  have e2 : (co : Int) * (m : Int) = (si : Int) := by rw [← hsi]; push_cast; rfl
  have w1 : IntKind.i64.wrap (be : Int) = (be : Int) := by rw [IntKind.wrap_i64]; omega
  have w2 : IntKind.i64.wrap (si : Int) = (si : Int) := by rw [IntKind.wrap_i64]; omega
  have HBE := Lib.hid hbe
  have HSI := Lib.hid hsi
  clear hbe hsi hfi hco hm4 b1 b2
  go_wp2_with fail
  refine hsec.mono ?_
  rintro e w' ⟨rfl, hw⟩
  obtain rfl := hw.symm
  go_wp2_with fail
  refine hsec.mono ?_
  rintro e w' ⟨rfl, hw⟩
  obtain rfl := hw.symm
  go_wp2
  go_ret2
  exact ⟨w.heap.size, be, si, rfl, part_made w g fi co be si 75, ⟨c1, by rw [HN.out]; exact HI.out, by rw [HM.out]; exact HBE.out.symm, by rw [HM.out]; exact HSI.out.symm⟩, alloc_below w _, Nat.le_refl _⟩
end Go.Proofs.Ytpdlipkmojhnnaa
