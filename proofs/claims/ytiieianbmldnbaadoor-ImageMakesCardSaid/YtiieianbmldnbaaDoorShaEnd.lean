/-
  What ends the bytes of a digest.
-/
import Derived.Test.YtiieianbmldnbaaDoorShaHash
namespace Go.Proofs.YtiieianbmldnbaaDoor
open Go.RowKit
set_option maxRecDepth 100000
theorem info_u8 : (Tryd.prog.info? 5).map (fun i => (i.zero, i.size, i.bytes)) = some (some (.int .u8 0), 1, 1) := by kernel_rfl
theorem take_snoc_U8 {l : List UInt8} {k : Nat} {u : UInt8} (h : l[k]? = some u) : U8 (l.take k) ++ U8 [u] = U8 (l.take (k + 1)) := by
  rw [← U8_append, List.take_add_one, h]; rfl
/-- How many zeros lie between the sign and the length. -/
def zerosOf (n : Nat) : Nat := (128 - (n % 64 + 9)) % 64
/-- A number in eight bytes, the great end first. -/
def be8 (c : Nat) : List UInt8 := (List.range 8).map fun k => UInt8.ofNat (c / 2 ^ (8 * (7 - k)))
def endOf (n : Nat) : List UInt8 := (128 :: List.replicate (zerosOf n) 0) ++ be8 (8 * n)
theorem endOf_length (n : Nat) : (endOf n).length = zerosOf n + 9 := by simp [endOf, be8]
theorem be8_get (c k : Nat) (h : k < 8) : (be8 c)[k]? = some (UInt8.ofNat (c / 2 ^ (8 * (7 - k)))) := by simp [be8, h]
theorem made_zero (l c : Nat) (h : l ≤ c) : (madeCells (Value.int .u8 0).cells (c * 1)).toList.take l = U8 (List.replicate l 0) := by
  have : (madeCells (Value.int .u8 0).cells (c * 1)) = (Array.range c).map fun _ => Value.int .u8 0 := by
    unfold madeCells
    rw [Nat.mul_one]
    congr 1
    funext x
    show #[Value.int .u8 0][x % 1]! = _
    rw [Nat.mod_one]; rfl
  rw [this]
  refine List.ext_getElem? fun i => ?_
  rw [List.getElem?_take, U8_get]
  by_cases hi : i < l
  · rw [if_pos hi, List.getElem?_replicate, if_pos hi]
    simp [show i < c by omega]
  · rw [if_neg hi, List.getElem?_replicate, if_neg hi]; rfl
section
variable {P : Program} (w : World)
theorem wpList_make_part {ops : Array Oper} {rest : List Oper} {o : Oper} {a : Act} {Q : Exit → Act → World → Prop}
    (hg : o.guard = none) (x y : Operand) (t : TypeId) (hop : o.op = Op.makeSlice t x y)
    (base : Nat) (e : TypeId) (i : TypeInfo) (h1 : P.underlying t = some (.slice e)) (h2 : P.info? e = some i) (h3 : i.zero = some (.int .u8 0)) (h4 : i.size = 1) (h5 : i.bytes = 1)
    (kl kc : IntKind) (L C : Int) (l c : Nat) (hl : a.eval x = .int kl L) (hc : a.eval y = .int kc C) (hL : L = (l : Int)) (hC : C = (c : Int)) (hlc : l ≤ c) (hm : (c : Int) ≤ 1000000) (hb : base ≤ w.heap.size)
    (hK : ∀ w', w'.ownsRow base e 1 (.slice (some ⟨w.heap.size, 0, none⟩) l c) l (U8 (List.replicate l 0)) → w.grownBy w' none → wpList P ops Q rest (a.put o.dst (.slice (some ⟨w.heap.size, 0, none⟩) l c)) w') :
    wpList P ops Q (o :: rest) a w := by
  subst hL hC
  refine wpList_plain hg fun K hK' => ?_
  have hrun := run_make (P := P) w t e i (.int .u8 0) h1 h2 h3 kl kc l c (by omega) (by omega) (by rw [h5]; omega) (by omega)
  simp only [Int.toNat_natCast, h4] at hrun
  unfold Oper.wp
  simp only [execOp, hop, hl, hc, hrun, Result.andThen, Sem.run_bind, Sem.run_pure]
  refine hK' _ _ (hK _ ⟨by rw [U8_length, List.length_replicate, Nat.mul_one], .inr ⟨w.heap.size, c, _, rfl, hb, heap_alloc_new w _, hlc, by simp only [maxLen]; omega, size_madeCells _ _, ?_⟩⟩ (World.grownBy_alloc w _ none))
  rw [Nat.mul_one l]
  exact made_zero l c hlc
end
theorem set_head (z : Nat) : (U8 (List.replicate (1 + z) 0)).set 0 (.int .u8 128) = U8 (128 :: List.replicate z 0) := by
  rw [show 1 + z = z + 1 by omega, List.replicate_succ]; rfl
theorem be_byte (n k : Nat) : ((n : Int) * 8 / 2 ^ (8 * (7 - k)) % 256) = ((UInt8.ofNat (8 * n / 2 ^ (8 * (7 - k)))).toNat : Int) := by
  generalize he : 8 * (7 - k) = e
  rw [UInt8.toNat_ofNat', Nat.mul_comm 8 n, show (2 : Nat) ^ 8 = 256 from rfl, Int.natCast_emod, Int.natCast_ediv, Int.natCast_mul, Int.natCast_pow]
  rfl
set_option maxRecDepth 100000 in
set_option maxHeartbeats 800000 in
theorem ending_any (w : World) (n : Nat) (hn : (n : Int) ≤ 1000000) : Calls Tryd.prog 58 #[.int .i64 (n : Int)] w fun e w' => ∃ v, e = .returned v ∧ w'.ownsRow w.heap.size 5 1 v (endOf n).length (U8 (endOf n)) ∧ Below w.heap.size w w' := by
  obtain ⟨i0, hi0, hz0, hz1, hz2⟩ := info_parts info_u8
  obtain ⟨z, hz⟩ : ∃ z, z = zerosOf n := ⟨_, rfl⟩
  have hz63 : (z : Int) ≤ 63 := by rw [hz]; unfold zerosOf; omega
  have hzi : (128 - ((n : Int) % 64 + 1 + 8)) % 64 = (z : Int) := by rw [hz]; unfold zerosOf; omega
  have Hz := Lib.hid hz; clear hz
  go_enter Tryd.func58, Tryd.ntmps58
  go_wp2_with (refine wpList_make_part _ rfl (.tmp 16) (.tmp 19) 26 rfl w.heap.size 5 i0 Tryd.underlying26 hi0 hz0 hz1 hz2 .i64 .i64 _ _ (1 + z) (1 + z + 8) rfl rfl (by omega) (by omega) (by omega) (by omega) (Nat.le_refl _) ?_; intro w1 hown hgr; clear hzi; have hc0 : w1.cell? ⟨w.heap.size, 0, none⟩ = some (.int .u8 0) := (hown.cellAt 0 (by omega)).trans (by rw [U8_get, List.getElem?_replicate, if_pos (by omega)]; rfl); have hf0 := hown.frozenAt 0)
  have hown0 := (hown.stored 0 (.int .u8 128)).1
  rw [set_head] at hown0
  have hb0 : Below w.heap.size w (w1.setCell ⟨w.heap.size, 0, none⟩ (.int .u8 128)) := (((Below.refl _ w).grown hgr (Nat.le_refl _) (fun _ h => by cases h))).setCell (p := ⟨w.heap.size, 0, none⟩) (Nat.le_refl _) _
  go_loopw [5, 26] (fun v i w' => ∃ k : Nat, (k : Int) ≤ 8 ∧ i = .int .i64 k ∧ w'.ownsRow w.heap.size 5 1 v (1 + z + k) (U8 ((128 :: List.replicate z 0) ++ (be8 (8 * n)).take k)) ∧ Below w.heap.size w w') (fun _ i _ => 8 - (intOf i).toNat)
  case atStart => exact ⟨0, by omega, rfl, by simpa using hown0, hb0⟩
  case round =>
    clear hc0 hf0 hown hown0 hb0 hgr
    obtain ⟨k, hk, rfl, hown, hbel⟩ := hrel
    have hsz := hbel.size
    by_cases hlt : (k : Int) < 8
    · have Hu := Lib.hid (be8_get (8 * n) k (by omega))
      go_wp2_with (at_builtin; refine wpList_append_bs _ rfl (.tmp 29) (.tmp 36) 26 rfl w.heap.size 5 i0 Tryd.underlying26 hi0 hz0 hz1 hz2 _ (1 + z + k) _ rfl (hown.alloc _) (wr.heap.size + 1) (some ⟨wr.heap.size, 0, none⟩) 1 1 [UInt8.ofNat (8 * n / 2 ^ (8 * (7 - k)))] rfl (Bs.lit_ wr 5 _ (0, 0) [_] (by show [Value.int .u8 _] = _; rw [be_byte]; rfl)) (by omega) (by simp; omega) ?_; intro v' w2 hown3 hgrow)
      go_roundw
      case rel => exact ⟨k + 1, by omega, by go_num, by rw [U8_append, List.append_assoc, take_snoc_U8 Hu.out, ← U8_append] at hown3; exact hown3, (hbel.alloc hsz _).grown hgrow (by simp; omega) (own_ge hown)⟩
      case measure => simp [intOf]; omega
    · go_wp2
      go_ret
      obtain rfl : k = 8 := by omega
      refine ⟨_, rfl, ?_, hbel⟩
      rw [endOf_length, ← Hz.out]
      unfold endOf
      rw [← Hz.out]
      rw [show zerosOf n = z from Hz.out.symm] at *
      have h8 : (be8 (8 * n)).take 8 = be8 (8 * n) := List.take_of_length_le (by simp [be8])
      rw [h8] at hown
      rw [show z + 9 = 1 + z + 8 by omega]
      exact hown
end Go.Proofs.YtiieianbmldnbaaDoor
