/-
  The law ValueNumbers.
-/
import Derived.Test.YtoelmkcgdoabeaaDoorVaAlive
import Derived.Test.YtoelmkcgdoabeaaDoorVaPure
namespace Go.Proofs.YtoelmkcgdoabeaaDoor
open Go.RowKit
set_option maxRecDepth 100000
set_option linter.unusedVariables false
theorem ofE_num (n : Int) (q : Nat) : ofE 1 n (ByteArray.size ⟨#[]⟩) q 0 0 0 = 0 := by
  have z : ByteArray.size ⟨#[]⟩ = 0 := rfl
  unfold ofE
  rw [if_neg (by omega), if_pos (show rightB 1 n (ByteArray.size ⟨#[]⟩) q 0 0 0 = true from decide_eq_true (by omega))]
theorem unwE_num {n : Int} {z : Nat} (h : widthQ n = z) : unwE 1 (bytesQ n z) = 0 := by
  unfold unwE
  rw [if_pos (.inl rfl), ← h, widthB_q, if_pos rfl]
theorem unwN_num {n : Int} {z : Nat} (h : widthQ n = z) (h0 : -9223372036854775808 ≤ n) (h1 : n ≤ 9223372036854775807) : unwN 1 (bytesQ n z) = n := by
  show (if (1 : Int) = 1 ∨ (1 : Int) = 5 then signedQ (bytesQ n z) else _) = _
  rw [if_pos (.inl rfl), ← h, signed_bytes n h0 h1]
theorem wireQ_num {n : Int} {z : Nat} (h : widthQ n = z) : wireQ 1 n ⟨#[]⟩ [] 0 0 = bytesQ n z := by
  unfold wireQ
  rw [if_pos (.inl rfl), h]
set_option maxHeartbeats 8000000 in
theorem vnumbers_law (n : Int) (w : World) (hn : I64 n) (hT : Tabs w) : Calls Tryd.prog 13 #[.int .i64 n] w fun e w' => e = .returned (.bool true) ∧ Below w.heap.size w w' := by
  have cA := alive14 w hT
  have cO := fun W (hb : Below w.heap.size w W) => of_f 1 n ⟨#[]⟩ none 0 0 0 0 [] W 0 (Bs.empty _ _ _) (Nat.zero_le _) (by decide) (by decide) (hT.below hb hT.size)
  rw [ofE_num] at cO
  have hw4 := width_in n
  have hwq : ∃ z, widthQ n = z := ⟨_, rfl⟩
  obtain ⟨z, hz⟩ := hwq
  rw [hz] at hw4
  have wA := fun W => wire_l (Vl.num n).val 1 n ⟨#[]⟩ none 0 0 0 0 [] W (Vl.num n).flatOf hn ⟨by decide, by decide⟩ ⟨by decide, by decide⟩ 0 (Bs.empty _ _ _) (Nat.zero_le _) (by decide)
  rw [wireQ_num hz] at wA
  have cU := fun W A (c : Nat) (h : Bs W W.heap.size A z (bytesQ n z)) (hc : z ≤ c) (hb : Below w.heap.size w W) => unwire_f 1 A z c (bytesQ n z) W _ h (Nat.le_refl _) (by omega) hc (hT.below hb hT.size)
  rw [unwE_num hz, unwN_num hz hn.1 hn.2, show unwS 1 (bytesQ n z) = ⟨#[]⟩ from rfl, show unwL 1 (bytesQ n z) = [] from rfl, show unwO 1 (bytesQ n z) = 0 from rfl, show unwI 1 (bytesQ n z) = 0 from rfl] at cU
  have nA : ∀ W, Calls Tryd.prog 28 #[(Vl.num n).val] W fun e w' => e = .returned (.tuple #[.int .i64 n, .bool true]) ∧ Below W.heap.size W w' := fun W => number_f (.num n) W
  have qA := vl_nilq (.num n) (show (1 : Int) ≠ 0 by decide)
  have gA := vl_guard (.num n) (show (1 : Int) ≠ 0 by decide)
  have ISA := Lib.hid (fun (x : Vl) (W : World) (b : Nat) (h : x.Is 1 n ⟨#[]⟩ [] 0 0 b W) => congrArg Vl.val (Vl.is_num h))
  generalize hvA : (Vl.num n).val = vA at *
  have hbl := bytesQ_len n z
  have hnn : (n == n) = true := beq_self_eq_true n
  have HZ := Lib.hid (And.intro hz (And.intro hbl hT))
  have CU := Lib.hid cU
  clear hvA hT hz hbl cU
  obtain ⟨l, hl⟩ : ∃ l, bytesQ n z = l := ⟨_, rfl⟩
  rw [hl] at wA CU HZ
  clear hl
  go_enter Tryd.func13, Tryd.ntmps13
  go_wp2_with fail
  refine cA.mono ?_
  rintro e w0 ⟨rfl, b0⟩
  go_wp2_with fail
  refine (cO _ b0).mono ?_
  intro e w1 h1
  obtain ⟨x, rfl, hx, b1⟩ := h1.val
  rw [ISA.out x w1 _ hx]
  clear h1 hx cO
  have b1 := b0.trans (b1.mono b0.size)
  go_wp2_with fail
  refine (wA _).mono ?_
  rintro e w2 ⟨A3, n3, c3, rfl, hc3, hn3, hN, b2⟩
  have b2 := b1.trans (b2.mono b1.size)
  obtain rfl : n3 = z := by rw [hn3, HZ.out.2.1]
  have c2 := CU.out w2 A3 c3 hN.bs hc3 b2
  clear hN hn3 hc3
  go_wp2_with fail
  refine c2.mono ?_
  intro e w3 h3
  obtain ⟨y, rfl, hy, b3⟩ := h3.val
  rw [ISA.out y w3 _ hy]
  clear h3 hy
  have b3 := b2.trans (b3.mono b2.size)
  go_wp2_with fail
  refine (nA _).mono ?_
  rintro e w4 ⟨rfl, b4⟩
  have b4 := b3.trans (b4.mono b3.size)
  clear c2 cA wA nA qA gA
  have hzq := HZ.out.1
  unfold widthQ at hzq
  by_cases d1 : n3 = 1
  · subst d1
    clear hzq hw4
    go_wp2
    go_ret
    exact ⟨rfl, b4⟩
  by_cases d2 : n3 = 2
  · subst d2
    have hnf : ¬ (-128 ≤ n ∧ n < 128) := by
      intro h
      revert hzq
      (repeat' split) <;> intro hzq <;> omega
    by_cases k1 : n < -128
    · have t1 : ¬ -128 ≤ n := by omega
      have t3 : decide (-128 ≤ n) = false := decide_eq_false t1
      clear hnf k1
      clear hzq hw4
      go_wp2
      go_ret
      exact ⟨rfl, b4⟩
    have t1 : -128 ≤ n := by omega
    have t2 : ¬ n < 128 := by omega
    have t3 : decide (n < 128) = false := decide_eq_false t2
    clear hnf k1
    clear hzq hw4
    go_wp2
    go_ret
    exact ⟨rfl, b4⟩
  by_cases d4 : n3 = 4
  · subst d4
    have hnf : ¬ (-32768 ≤ n ∧ n < 32768) := by
      intro h
      revert hzq
      (repeat' split) <;> intro hzq <;> omega
    by_cases k1 : n < -32768
    · have t1 : ¬ -32768 ≤ n := by omega
      have t3 : decide (-32768 ≤ n) = false := decide_eq_false t1
      clear hnf k1
      clear hzq hw4
      go_wp2
      go_ret
      exact ⟨rfl, b4⟩
    have t1 : -32768 ≤ n := by omega
    have t2 : ¬ n < 32768 := by omega
    have t3 : decide (n < 32768) = false := decide_eq_false t2
    clear hnf k1
    clear hzq hw4
    go_wp2
    go_ret
    exact ⟨rfl, b4⟩
  obtain rfl : n3 = 8 := by omega
  have hnf : ¬ (-2147483648 ≤ n ∧ n < 2147483648) := by
    intro h
    revert hzq
    (repeat' split) <;> intro hzq <;> omega
  by_cases k1 : n < -2147483648
  · have t1 : ¬ -2147483648 ≤ n := by omega
    have t3 : decide (-2147483648 ≤ n) = false := decide_eq_false t1
    clear hnf k1
    clear hzq hw4
    go_wp2
    go_ret
    exact ⟨rfl, b4⟩
  have t1 : -2147483648 ≤ n := by omega
  have t2 : ¬ n < 2147483648 := by omega
  have t3 : decide (n < 2147483648) = false := decide_eq_false t2
  clear hnf k1
  clear hzq hw4
  go_wp2
  go_ret
  exact ⟨rfl, b4⟩
end Go.Proofs.YtoelmkcgdoabeaaDoor
