/-
  The document's examples of layer 14.
-/
import Derived.Test.YtkacgdhcacclcaaDoorVaMust
import Derived.Test.YtkacgdhcacclcaaDoorVaFits
import Derived.Test.YtkacgdhcacclcaaDoorVaUnw2
import Derived.Test.YtkacgdhcacclcaaDoorVaVal
namespace Go.Proofs.YtkacgdhcacclcaaDoor
open Go.RowKit
set_option maxRecDepth 100000
set_option maxRecDepth 100000
set_option linter.unusedVariables false
theorem OfRet.fails {k n : Int} {s : ByteArray} {l : List UInt8} {o i er : Int} {w w' : World} {e : Ending} (h : OfRet k n s l o i er w e w') (he : er ≠ 0) : e = .returned (.tuple #[.nilIface, .int .i64 er]) ∧ Below w.heap.size w w' := by
  rcases h.2 with ⟨_, h2⟩ | ⟨h2, _⟩
  · exact ⟨h2, h.1⟩
  · exact absurd h2 he
theorem OfRet.val {k n : Int} {s : ByteArray} {l : List UInt8} {o i : Int} {w w' : World} {e : Ending} (h : OfRet k n s l o i 0 w e w') : ∃ x : Vl, e = .returned (.tuple #[x.val, .int .i64 0]) ∧ x.Is k n s l o i w.heap.size w' ∧ Below w.heap.size w w' := by
  rcases h.2 with ⟨h2, _⟩ | ⟨_, x, h2, h3⟩
  · exact absurd rfl h2
  · exact ⟨x, h2, h3, h.1⟩
theorem Vl.is_num {x : Vl} {n : Int} {s : ByteArray} {l : List UInt8} {o i : Int} {b : Nat} {w : World} (h : x.Is 1 n s l o i b w) : x = .num n := by
  have hk := h.k
  have hn := h.n
  cases x <;> first | (rw [show n = _ from hn.symm]; rfl) | (simp [Vl.k] at hk)
theorem Vl.is_text {x : Vl} {n : Int} {s : ByteArray} {l : List UInt8} {o i : Int} {b : Nat} {w : World} (h : x.Is 3 n s l o i b w) : x = .text s := by
  have hk := h.k
  have hs := h.s
  cases x <;> first | (rw [show s = _ from hs.symm]; rfl) | (simp [Vl.k] at hk)
theorem vl_nilq (v : Vl) (h : v.k ≠ 0) (w : World) : (binOp .eql 47 v.val .nilIface).run Tryd.prog w = .ok (.bool false) w := by
  cases v <;> first | exact absurd rfl h | exact eql_if_nil _ _ w
theorem vl_guard (v : Vl) (h : v.k ≠ 0) (x y : Operand) (w : World) : (eqGuard .eql 47 x y v.val .nilIface).run Tryd.prog w = .ok () w := by
  cases v <;> first | exact absurd rfl h | rfl
theorem field_n (a : Value) (b : Int) (c : ByteArray) (d : Option Addr) (e f : Nat) (g h : Int) (w : World) : (Instr.field 24 (.agg #[a, .int .i64 b, .string c, .slice d e f, .int .i64 g, .int .i64 h]) 1).run Tryd.prog w = .ok (.int .i64 b) w := by kernel_rfl
set_option maxHeartbeats 8000000 in
theorem alive14 (w : World) (hT : Tabs w) : Calls Tryd.prog 21 #[] w fun e w' => e = .returned (.bool true) ∧ Below w.heap.size w w' := by
  have cO1 := fun W (hb : Below w.heap.size w W) => of_f 1 128 ⟨#[]⟩ none 0 0 0 0 [] W 0 (Bs.empty _ _ _) (Nat.zero_le _) (by decide) (by decide) (hT.below hb hT.size)
  have cO2 := fun W (hb : Below w.heap.size w W) => of_f 3 0 ⟨#[120]⟩ none 0 0 0 0 [] W 0 (Bs.empty _ _ _) (Nat.zero_le _) (by decide) (by decide) (hT.below hb hT.size)
  have cO3 := fun W (hb : Below w.heap.size w W) => of_f 9 0 ⟨#[]⟩ none 0 0 0 0 [] W 0 (Bs.empty _ _ _) (Nat.zero_le _) (by decide) (by decide) (hT.below hb hT.size)
  rw [show ofE 1 128 (ByteArray.size ⟨#[]⟩) (okN (runesQ (ByteArray.data ⟨#[]⟩).toList)) 0 0 0 = 0 by decide +kernel] at cO1
  rw [show ofE 3 0 (ByteArray.size ⟨#[120]⟩) (okN (runesQ (ByteArray.data ⟨#[120]⟩).toList)) 0 0 0 = 0 by decide +kernel] at cO2
  rw [show ofE 9 0 (ByteArray.size ⟨#[]⟩) (okN (runesQ (ByteArray.data ⟨#[]⟩).toList)) 0 0 0 = 70 by decide +kernel] at cO3
  have nA : ∀ W, Calls Tryd.prog 24 #[(Vl.num 128).val] W fun e w' => e = .returned (.tuple #[.int .i64 128, .bool true]) ∧ Below W.heap.size W w' := fun W => number_f (.num 128) W
  have wA := fun W => wire_l (Vl.num 128).val 1 128 ⟨#[]⟩ none 0 0 0 0 [] W (Vl.num 128).flatOf ⟨by decide, by decide⟩ ⟨by decide, by decide⟩ ⟨by decide, by decide⟩ 0 (Bs.empty _ _ _) (Nat.zero_le _) (by decide)
  rw [show wireQ 1 128 ⟨#[]⟩ [] 0 0 = [0, 128] by decide +kernel] at wA
  have sAA := fun W => same_f (.num 128) (.num 128) [] [] W 0 0 (Bs.empty _ _ _) (Bs.empty _ _ _) rfl
  have sAB := fun W => same_f (.num 128) (.text ⟨#[120]⟩) [] [] W 0 0 (Bs.empty _ _ _) (Bs.empty _ _ _) rfl
  have sNA := fun W => same_f .nil (.num 128) [] [] W 0 0 (Bs.empty _ _ _) (Bs.empty _ _ _) rfl
  have fA1 := fun W => fits_f (.num 128) 0 1 0 200 false false false false W
  have fA2 := fun W => fits_f (.num 128) 0 1 0 100 false false false false W
  have fA3 := fun W => fits_f (.num 128) 0 2 0 0 false false false false W
  have nB : ∀ W, Calls Tryd.prog 24 #[(Vl.text ⟨#[120]⟩).val] W fun e w' => e = .returned (.tuple #[.int .i64 0, .bool false]) ∧ Below W.heap.size W w' := fun W => number_f (.text ⟨#[120]⟩) W
  rw [show vlSame (.num 128) (.num 128) [] [] = true by decide +kernel] at sAA
  rw [show vlSame (.num 128) (.text ⟨#[120]⟩) [] [] = false by decide +kernel] at sAB
  rw [show vlSame .nil (.num 128) [] [] = false by decide +kernel] at sNA
  rw [show fitsE 1 0 200 (Vl.num 128).k (Vl.num 128).n (Vl.num 128).s.size (Vl.num 128).l = 0 by decide +kernel] at fA1
  rw [show fitsE 1 0 100 (Vl.num 128).k (Vl.num 128).n (Vl.num 128).s.size (Vl.num 128).l = 1 by decide +kernel] at fA2
  rw [show fitsE 2 0 0 (Vl.num 128).k (Vl.num 128).n (Vl.num 128).s.size (Vl.num 128).l = 70 by decide +kernel] at fA3
  have wB := fun W => words_l (Vl.text ⟨#[120]⟩).val 3 0 ⟨#[120]⟩ none 0 0 0 0 W (Vl.text ⟨#[120]⟩).flatOf (by decide)
  have mB := fun W => must_no (.text ⟨#[120]⟩) W rfl
  have qA := vl_nilq (.num 128) (by decide)
  have qB := vl_nilq (.text ⟨#[120]⟩) (show (3 : Int) ≠ 0 by decide)
  have gA := vl_guard (.num 128) (by decide)
  have gB := vl_guard (.text ⟨#[120]⟩) (show (3 : Int) ≠ 0 by decide)
  have eB := fun W A (h : Bs W W.heap.size A 2 [255, 127]) (hb : Below w.heap.size w W) => unwire_f 1 A 2 2 [255, 127] W _ h (Nat.le_refl _) (by decide) (by decide) (hT.below hb hT.size)
  rw [show unwE 1 [255, 127] = 0 by decide +kernel, show unwN 1 [255, 127] = -129 by decide +kernel, show unwS 1 [255, 127] = ⟨#[]⟩ from rfl, show unwL 1 [255, 127] = [] from rfl, show unwO 1 [255, 127] = 0 from rfl, show unwI 1 [255, 127] = 0 from rfl] at eB
  have vC := fun W => val_l (Vl.num (-129)).val 1 (-129) ⟨#[]⟩ none 0 0 0 0 [] W (Vl.num (-129)).flatOf (by decide) 0 (Bs.empty _ _ _) (Nat.zero_le _) (by decide)
  have qC := vl_nilq (.num (-129)) (by decide)
  have gC := vl_guard (.num (-129)) (by decide)
  rw [show (Vl.nil).val = .nilIface from rfl] at sNA
  have isA := fun (x : Vl) (W W' : World) (b : Nat) (h : x.Is 1 128 ⟨#[]⟩ [] 0 0 b W) => congrArg Vl.val (Vl.is_num h)
  have isB := fun (x : Vl) (W W' : World) (b : Nat) (h : x.Is 3 0 ⟨#[120]⟩ [] 0 0 b W) => congrArg Vl.val (Vl.is_text h)
  have isC := fun (x : Vl) (W W' : World) (b : Nat) (h : x.Is 1 (-129) ⟨#[]⟩ [] 0 0 b W) => congrArg Vl.val (Vl.is_num h)
  generalize hvA : (Vl.num 128).val = vA at *
  generalize hvB : (Vl.text ⟨#[120]⟩).val = vB at *
  generalize hvC : (Vl.num (-129)).val = vC' at *
  have ISA := Lib.hid isA
  have ISB := Lib.hid isB
  have ISC := Lib.hid isC
  have EB := Lib.hid eB
  clear hvA hvB hvC hT isA isB isC eB
  go_enter Tryd.func21, Tryd.ntmps21
  go_wp2_with fail
  refine (cO1 _ (Below.refl _ _)).mono ?_
  intro e w1 h1
  obtain ⟨x, rfl, hx, b1⟩ := h1.val
  rw [ISA.out x w1 w1 _ hx]
  clear h1 hx
  go_wp2_with fail
  refine (cO2 _ b1).mono ?_
  intro e w2 h2
  obtain ⟨y, rfl, hy, b2⟩ := h2.val
  rw [ISB.out y w2 w2 _ hy]
  clear h2 hy
  have b2 := b1.trans (b2.mono b1.size)
  go_wp2_with fail
  refine (cO3 _ b2).mono ?_
  intro e w3 h3
  obtain ⟨rfl, b3⟩ := h3.fails (by decide)
  clear h3
  have b3 := b2.trans (b3.mono b2.size)
  go_wp2_with fail
  refine (nA _).mono ?_
  rintro e w4 ⟨rfl, b4⟩
  have b4 := b3.trans (b4.mono b3.size)
  go_wp2_with fail
  refine (wB _).mono ?_
  rintro e w5 ⟨rfl, b5⟩
  have b5 := b4.trans (b5.mono b4.size)
  go_wp2_with fail
  refine (nB _).mono ?_
  rintro e w6 ⟨rfl, b6⟩
  have b6 := b5.trans (b6.mono b5.size)
  go_wp2_with fail
  refine (mB _).mono ?_
  rintro e w7 ⟨rfl, b7⟩
  have b7 := b6.trans (b7.mono b6.size)
  have b7a := b7.alloc b7.size (.cells #[.int .u8 255, .int .u8 127] 5)
  have e7 := EB.out (w7.alloc (.cells #[.int .u8 255, .int .u8 127] 5)) (some ⟨w7.heap.size, 0, none⟩) (by rw [alloc_size]; exact Bs.lit_ w7 5 _ _ [255, 127] rfl) b7a
  go_wp2_with fail
  refine e7.mono ?_
  intro e w8 h8
  obtain ⟨z, rfl, hz, b8⟩ := h8.val
  rw [ISC.out z w8 w8 _ hz]
  clear h8 hz e7
  have b8 := b7a.trans (b8.mono b7a.size)
  go_wp2_with fail
  refine (wA _).mono ?_
  rintro e w9 ⟨A3, n3, c3, rfl, hc3, rfl, hN, b9⟩
  have b9 := b8.trans (b9.mono b8.size)
  have hcv : (convert 22 9 (.slice A3 2 c3)).run Tryd.prog w9 = .ok (.string ⟨#[0, 128]⟩) w9 := run_string_bs (P := Tryd.prog) hN.bs 22 9 5 c3 Tryd.underlying22 Tryd.underlying5 Tryd.underlying9
  clear hN hc3
  go_wp2_with fail
  have hfn := field_n (.int .i64 1) (-129) ⟨#[]⟩
  refine (vC _).mono ?_
  rintro e w10 ⟨A4, c4, rfl, hc4, hN4, b10⟩
  have b10 := b9.trans (b10.mono b9.size)
  clear hN4 hc4
  go_wp2_with fail
  refine (sAA _).mono ?_
  rintro e w11 ⟨rfl, b11⟩
  have b11 := b10.trans (b11.mono b10.size)
  go_wp2_with fail
  refine (sAB _).mono ?_
  rintro e w12 ⟨rfl, b12⟩
  have b12 := b11.trans (b12.mono b11.size)
  go_wp2_with fail
  refine (sNA _).mono ?_
  rintro e w13 ⟨rfl, b13⟩
  have b13 := b12.trans (b13.mono b12.size)
  go_wp2_with fail
  refine (fA1 _).mono ?_
  rintro e w14 ⟨rfl, b14⟩
  have b14 := b13.trans (b14.mono b13.size)
  go_wp2_with fail
  refine (fA2 _).mono ?_
  rintro e w15 ⟨rfl, b15⟩
  have b15 := b14.trans (b15.mono b14.size)
  go_wp2_with fail
  refine (fA3 _).mono ?_
  rintro e w16 ⟨rfl, b16⟩
  have b16 := b15.trans (b16.mono b15.size)
  go_wp2
  go_ret
  exact ⟨rfl, b16⟩
end Go.Proofs.YtkacgdhcacclcaaDoor
