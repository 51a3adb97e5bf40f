/-
  The examples that every statement of layer 1 asks first.
-/
import Derived.Test.YtoagodgiaccadaaDoorRel
import Derived.Test.YtoagodgiaccadaaDoorShaParts
import Derived.Test.YtoagodgiaccadaaDoorShaHex
import Derived.Test.YtoagodgiaccadaaDoorShaBack
import Derived.Test.YtoagodgiaccadaaDoorShaEq
namespace Go.Proofs.YtoagodgiaccadaaDoor
open Go.RowKit
/-- The rounds' words are there. -/
def Ks (w : World) : Prop := 1 < w.heap.size ∧ w.rangeAt 1 0 (W32 KS)
theorem Ks.below {w w' : World} {B : Nat} (h : Ks w) (hb : Below B w w') (hB : 1 < B) : Ks w' := ⟨Nat.lt_of_lt_of_le h.1 hb.size, range_below h.2 hb hB⟩
theorem Ks.only {w w' : World} {B g : Nat} (h : Ks w) (hb : Only B g w w') (hB : 1 < B) (hg : 1 ≠ g) : Ks w' := ⟨Nat.lt_of_lt_of_le h.1 hb.size, hb.range h.2 hB hg⟩
theorem hash_only {B g g' : Nat} {w w' : World} {l : List UInt8} (h : HashAt w g l) (ho : Only B g' w w') (hg : g < B) (hne : g ≠ g') : HashAt w' g l :=
  ⟨ho.range h.words hg hne, ho.range h.rest hg hne, (ho.cell (p := ⟨g, 72, none⟩) hg hne).trans h.len, ho.there h.there.1 hg hne, fun i hi => by
    obtain ⟨u, hu⟩ := h.there.2 i hi
    exact ⟨u, (ho.cell (p := ⟨g, 8 + i, none⟩) hg hne).trans hu⟩⟩
theorem alloc_below (w : World) (o : Obj) : Below w.heap.size w (w.alloc o) := (Below.refl _ w).alloc (Nat.le_refl _) o
theorem alloc_size (w : World) (o : Obj) : (w.alloc o).heap.size = w.heap.size + 1 := Array.size_push ..
theorem Only.from {B g : Nat} {a b c : World} (h : Below B a b) (k : Only B g b c) : Only B g a c :=
  ⟨k.os.trans h.os, k.tape.trans h.tape, k.output.trans h.output, Nat.le_trans h.size k.size, fun i hi hg => (k.block i hi hg).trans (h.block i hi)⟩
theorem Only.less {B B' g : Nat} {a b : World} (h : Only B g a b) (hB : B' ≤ B) : Only B' g a b := ⟨h.os, h.tape, h.output, h.size, fun i hi hg => h.block i (by omega) hg⟩
/-- Bytes that stand in the text are written. -/
theorem write_lit (g n b : Nat) (l bts : List UInt8) (w : World) (cs : Array Value) (fr : Nat × Nat) (hcs : cs.toList = U8 bts) (hn : bts.length = n) (hh : HashAt w g l) (hg : g < w.heap.size) (hg1 : g ≠ 1) (hK : Ks w) (hl : n ≤ 1000000) (hN : l.length ≤ 1000000) (hb : w.heap.size = b) :
    Calls Tryd.prog 10 #[.pointer (some ⟨g, 0, none⟩), .slice (some ⟨b, 0, none⟩) n n] (w.alloc (.cells cs 5 fr)) fun e w' => e = .returned (.tuple #[]) ∧ HashAt w' g (l ++ bts) ∧ Only w.heap.size g w w' := by
  subst hn
  subst hb
  refine (write_any g l bts _ _ _ (w.alloc (.cells cs 5 fr)) (w.heap.size + 1) (hash_below hh (alloc_below w _) hg) (Bs.lit_ w 5 cs fr bts hcs) (fun _ a ha => ?_) ?_ (Nat.le_refl _) hg1 ?_ ?_ (hK.below (alloc_below w _) hK.1).2 hl hN).mono ?_
  · injection ha with ha; subst ha; show w.heap.size ≠ g; omega
  · rw [alloc_size]; exact Nat.le_refl _
  · rw [alloc_size]; omega
  · rw [alloc_size]; have := hK.1; omega
  · rintro e w' ⟨rfl, h1, h2⟩
    exact ⟨rfl, h1, Only.from (alloc_below w _) (h2.less (by rw [alloc_size]; omega))⟩
def abBytes : List UInt8 := [97, 98]
def cBytes : List UInt8 := [99]
def abcBytes : List UInt8 := [97, 98, 99]
def aBytes : List UInt8 := [97]
def bcBytes : List UInt8 := [98, 99]
theorem ab_cells : (#[Value.int .u8 97, Value.int .u8 98] : Array Value).toList = U8 abBytes := rfl
theorem c_cells : (#[Value.int .u8 99] : Array Value).toList = U8 cBytes := rfl
theorem abc_cells : (#[Value.int .u8 97, Value.int .u8 98, Value.int .u8 99] : Array Value).toList = U8 abcBytes := rfl
theorem a_cells : (#[Value.int .u8 97] : Array Value).toList = U8 aBytes := rfl
theorem bc_cells : (#[Value.int .u8 98, Value.int .u8 99] : Array Value).toList = U8 bcBytes := rfl
theorem hsum_D (D : List UInt8) (w : World) (g : Nat) (l : List UInt8) (hD : Hid (D = shaOf l)) (hh : HashAt w g l) (hgs : g < w.heap.size) (hK : Ks w) (hN : l.length ≤ 900000) :
    Calls Tryd.prog 12 #[.pointer (some ⟨g, 0, none⟩)] w fun e w' => e = .returned (.agg (U8 D).toArray) ∧ Below w.heap.size w w' := by
  rw [hD.out]; exact hsum_any w g l hh hgs hK.1 hK.2 hN
theorem hexparse (w : World) (D : List UInt8) (hD : D.length = 32) : Calls Tryd.prog 15 #[.string ⟨(hexOf D).toArray⟩] w fun e w' => e = .returned (.tuple #[.agg (U8 D).toArray, .int .i64 0]) ∧ Below w.heap.size w w' := by
  have := parse_any w ⟨(hexOf D).toArray⟩
  rw [show ((⟨(hexOf D).toArray⟩ : ByteArray).data.toList) = hexOf D from rfl, parseOf_hexOf _ hD] at this
  exact this
theorem size_U8 {D : List UInt8} {n : Nat} (h : D.length = n) : (U8 D).toArray.size = n := by rw [List.size_toArray, U8_length, h]
def lit0 : ByteArray := ⟨List.toArray (101 :: 51 :: 98 :: 48 :: 99 :: 52 :: 52 :: 50 :: 57 :: 56 :: 102 :: 99 :: 49 :: 99 :: 49 :: 52 :: 57 :: 97 :: 102 :: 98 :: 102 :: 52 :: 99 :: 56 :: 57 :: 57 :: 54 :: 102 :: 98 :: 57 :: 50 :: 52 :: 50 :: 55 :: 97 :: 101 :: 52 :: 49 :: 101 :: 52 :: 54 :: 52 :: 57 :: 98 :: 57 :: 51 :: 52 :: 99 :: 97 :: 52 :: 57 :: 53 :: 57 :: 57 :: 49 :: 98 :: 55 :: 56 :: 53 :: 50 :: 98 :: 56 :: 53 :: 53 :: [])⟩
def litabc : ByteArray := ⟨List.toArray (98 :: 97 :: 55 :: 56 :: 49 :: 54 :: 98 :: 102 :: 56 :: 102 :: 48 :: 49 :: 99 :: 102 :: 101 :: 97 :: 52 :: 49 :: 52 :: 49 :: 52 :: 48 :: 100 :: 101 :: 53 :: 100 :: 97 :: 101 :: 50 :: 50 :: 50 :: 51 :: 98 :: 48 :: 48 :: 51 :: 54 :: 49 :: 97 :: 51 :: 57 :: 54 :: 49 :: 55 :: 55 :: 97 :: 57 :: 99 :: 98 :: 52 :: 49 :: 48 :: 102 :: 102 :: 54 :: 49 :: 102 :: 50 :: 48 :: 48 :: 49 :: 53 :: 97 :: 100 :: [])⟩
theorem hex0_is : (hexOf (shaOf [])).toArray = lit0.data := by decide +kernel
theorem hexabc_is : (hexOf (shaOf abcBytes)).toArray = litabc.data := by decide +kernel
theorem run_eq0 (D0 : List UInt8) (h : Hid (D0 = shaOf [])) (w : World) : (binOp .eql 9 (.string ⟨(hexOf D0).toArray⟩) (.string ⟨List.toArray (101 :: 51 :: 98 :: 48 :: 99 :: 52 :: 52 :: 50 :: 57 :: 56 :: 102 :: 99 :: 49 :: 99 :: 49 :: 52 :: 57 :: 97 :: 102 :: 98 :: 102 :: 52 :: 99 :: 56 :: 57 :: 57 :: 54 :: 102 :: 98 :: 57 :: 50 :: 52 :: 50 :: 55 :: 97 :: 101 :: 52 :: 49 :: 101 :: 52 :: 54 :: 52 :: 57 :: 98 :: 57 :: 51 :: 52 :: 99 :: 97 :: 52 :: 57 :: 53 :: 57 :: 57 :: 49 :: 98 :: 55 :: 56 :: 53 :: 50 :: 98 :: 56 :: 53 :: 53 :: [])⟩)).run Tryd.prog w = .ok (.bool true) w := by
  have e : (⟨(hexOf D0).toArray⟩ : ByteArray) = lit0 := by rw [h.out, hex0_is]
  rw [e]
  simp only [lit0, binOp_string_eql, beq_self_eq_true, Sem.run_pure]
theorem run_eqabc (D : List UInt8) (h : Hid (D = shaOf abcBytes)) (w : World) : (binOp .eql 9 (.string ⟨(hexOf D).toArray⟩) (.string ⟨List.toArray (98 :: 97 :: 55 :: 56 :: 49 :: 54 :: 98 :: 102 :: 56 :: 102 :: 48 :: 49 :: 99 :: 102 :: 101 :: 97 :: 52 :: 49 :: 52 :: 49 :: 52 :: 48 :: 100 :: 101 :: 53 :: 100 :: 97 :: 101 :: 50 :: 50 :: 50 :: 51 :: 98 :: 48 :: 48 :: 51 :: 54 :: 49 :: 97 :: 51 :: 57 :: 54 :: 49 :: 55 :: 55 :: 97 :: 57 :: 99 :: 98 :: 52 :: 49 :: 48 :: 102 :: 102 :: 54 :: 49 :: 102 :: 50 :: 48 :: 48 :: 49 :: 53 :: 97 :: 100 :: [])⟩)).run Tryd.prog w = .ok (.bool true) w := by
  have e : (⟨(hexOf D).toArray⟩ : ByteArray) = litabc := by rw [h.out, hexabc_is]
  rw [e]
  simp only [litabc, binOp_string_eql, beq_self_eq_true, Sem.run_pure]
theorem list_eq0 (D0 : List UInt8) (h : Hid (D0 = shaOf [])) : (hexOf D0 == (101 :: 51 :: 98 :: 48 :: 99 :: 52 :: 52 :: 50 :: 57 :: 56 :: 102 :: 99 :: 49 :: 99 :: 49 :: 52 :: 57 :: 97 :: 102 :: 98 :: 102 :: 52 :: 99 :: 56 :: 57 :: 57 :: 54 :: 102 :: 98 :: 57 :: 50 :: 52 :: 50 :: 55 :: 97 :: 101 :: 52 :: 49 :: 101 :: 52 :: 54 :: 52 :: 57 :: 98 :: 57 :: 51 :: 52 :: 99 :: 97 :: 52 :: 57 :: 53 :: 57 :: 57 :: 49 :: 98 :: 55 :: 56 :: 53 :: 50 :: 98 :: 56 :: 53 :: 53 :: [])) = true := by
  have e : hexOf (shaOf []) = lit0.data.toList := congrArg Array.toList hex0_is
  rw [h.out, e]
  simp only [lit0, beq_self_eq_true]
theorem list_eqabc (D : List UInt8) (h : Hid (D = shaOf abcBytes)) : (hexOf D == (98 :: 97 :: 55 :: 56 :: 49 :: 54 :: 98 :: 102 :: 56 :: 102 :: 48 :: 49 :: 99 :: 102 :: 101 :: 97 :: 52 :: 49 :: 52 :: 49 :: 52 :: 48 :: 100 :: 101 :: 53 :: 100 :: 97 :: 101 :: 50 :: 50 :: 50 :: 51 :: 98 :: 48 :: 48 :: 51 :: 54 :: 49 :: 97 :: 51 :: 57 :: 54 :: 49 :: 55 :: 55 :: 97 :: 57 :: 99 :: 98 :: 52 :: 49 :: 48 :: 102 :: 102 :: 54 :: 49 :: 102 :: 50 :: 48 :: 48 :: 49 :: 53 :: 97 :: 100 :: [])) = true := by
  have e : hexOf (shaOf abcBytes) = litabc.data.toList := congrArg Array.toList hexabc_is
  rw [h.out, e]
  simp only [litabc, beq_self_eq_true]
theorem sum_nil (D0 : List UInt8) (h : Hid (D0 = shaOf [])) (w : World) (hK : Ks w) : Calls Tryd.prog 11 #[.slice none 0 0] w fun e w' => e = .returned (.agg (U8 D0).toArray) ∧ Below w.heap.size w w' := by
  rw [h.out]; exact sum_any none 0 0 [] w w.heap.size (Pc.none _ _ _) (Nat.le_refl _) hK.1 hK.2 (by decide) (by decide)
theorem pc_two (w : World) (A1 A2 : Option Addr) (n1 c1 n2 c2 : Nat) (l1 l2 : List UInt8) (h1 : Bs w w.heap.size A1 n1 l1) (h2 : Bs w w.heap.size A2 n2 l2) (k1 : n1 ≤ c1) (k2 : n2 ≤ c2) (t : TypeId) (fr : Nat × Nat) :
    Pc (w.alloc (.cells #[.slice A1 n1 c1, .slice A2 n2 c2] t fr)) (w.heap.size + 1) (some ⟨w.heap.size, 0, none⟩) 2 [l1, l2] := by
  refine ⟨rfl, fun _ => ⟨w.heap.size, 0, rfl, Nat.lt_succ_self _, fun k l hl => ?_⟩⟩
  have hc : ∀ k v, (#[.slice A1 n1 c1, .slice A2 n2 c2] : Array Value)[k]? = some v → (w.alloc (.cells #[.slice A1 n1 c1, .slice A2 n2 c2] t fr)).cell? ⟨w.heap.size, 0 + k, none⟩ = some v := fun k v hv => by
    rw [Nat.zero_add, cell_of_row _ _ _ _ _ _ (heap_alloc_new w _)]; exact hv
  match k, hl with
  | 0, hl => obtain rfl : l1 = l := by simpa using hl
             exact ⟨A1, n1, c1, hc 0 _ rfl, k1, (h1.alloc (Nat.le_refl _) _).more (Nat.le_succ _)⟩
  | 1, hl => obtain rfl : l2 = l := by simpa using hl
             exact ⟨A2, n2, c2, hc 1 _ rfl, k2, (h2.alloc (Nat.le_refl _) _).more (Nat.le_succ _)⟩
  | k + 2, hl => simp at hl
theorem pc_one (w : World) (A1 : Option Addr) (n1 c1 : Nat) (l1 : List UInt8) (h1 : Bs w w.heap.size A1 n1 l1) (k1 : n1 ≤ c1) (t : TypeId) (fr : Nat × Nat) :
    Pc (w.alloc (.cells #[.slice A1 n1 c1] t fr)) (w.heap.size + 1) (some ⟨w.heap.size, 0, none⟩) 1 [l1] := by
  refine ⟨rfl, fun _ => ⟨w.heap.size, 0, rfl, Nat.lt_succ_self _, fun k l hl => ?_⟩⟩
  have hc : ∀ k v, (#[.slice A1 n1 c1] : Array Value)[k]? = some v → (w.alloc (.cells #[.slice A1 n1 c1] t fr)).cell? ⟨w.heap.size, 0 + k, none⟩ = some v := fun k v hv => by
    rw [Nat.zero_add, cell_of_row _ _ _ _ _ _ (heap_alloc_new w _)]; exact hv
  match k, hl with
  | 0, hl => obtain rfl : l1 = l := by simpa using hl
             exact ⟨A1, n1, c1, hc 0 _ rfl, k1, (h1.alloc (Nat.le_refl _) _).more (Nat.le_succ _)⟩
  | k + 1, hl => simp at hl
/-- What was there is as it was, but for the marks of rows. -/
structure Grow (w w' : World) : Prop where
  size : w.heap.size ≤ w'.heap.size
  cell : ∀ p : Addr, p.block < w.heap.size → w'.cell? p = w.cell? p
  row : ∀ (b : Nat) (cs : Array Value) (e : TypeId) (fr : Nat × Nat), w.heap[b]? = some (Obj.cells cs e fr) → ∃ fr' : Nat × Nat, w'.heap[b]? = some (Obj.cells cs e fr')
theorem Grow.below {w w' : World} (h : Below w.heap.size w w') : Grow w w' :=
  ⟨h.size, fun p hp => h.cell hp, fun b cs e fr hb => ⟨fr, by
    have hlt : b < w.heap.size := (Array.getElem?_eq_some_iff.1 hb).1
    rw [h.block b hlt]; exact hb⟩⟩
theorem Grow.refl (w : World) : Grow w w := ⟨Nat.le_refl _, fun _ _ => rfl, fun _ _ _ fr h => ⟨fr, h⟩⟩
/-- A row of the call's own, from block N on. -/
def Lit (N n : Nat) (cs : Array Value) (w : World) (v : Value) : Prop := ∃ (b : Nat) (fr : Nat × Nat), N ≤ b ∧ v = .slice (some ⟨b, 0, none⟩) n n ∧ w.heap[b]? = some (Obj.cells cs 5 fr)
theorem Lit.grow {N n : Nat} {cs : Array Value} {w w' : World} {v : Value} (h : Lit N n cs w v) (hg : Grow w w') : Lit N n cs w' v := by
  obtain ⟨b, fr, h1, h2, h3⟩ := h
  obtain ⟨fr', h4⟩ := hg.row b cs 5 fr h3
  exact ⟨b, fr', h1, h2, h4⟩
def Lits (n : Nat) (ls : List (List UInt8)) (w : World) (v : Value) : Prop := ∃ b, v = .slice (some ⟨b, 0, none⟩) n n ∧ Pc w w.heap.size (some ⟨b, 0, none⟩) n ls
theorem Bs.more' {w : World} {B B' n : Nat} {A : Option Addr} {l : List UInt8} (h : Bs w B A n l) (hB : B ≤ B') : Bs w B' A n l := h.more hB
theorem Pc.more {w : World} {B B' n : Nat} {A : Option Addr} {ls : List (List UInt8)} (h : Pc w B A n ls) (hB : B ≤ B') : Pc w B' A n ls :=
  ⟨h.len, fun hn => by
    obtain ⟨b, off, e, hb, hc⟩ := h.place hn
    refine ⟨b, off, e, by omega, fun k l hl => ?_⟩
    obtain ⟨A', n', c', h1, hcap, h2⟩ := hc k l hl
    exact ⟨A', n', c', h1, hcap, h2.more hB⟩⟩
theorem Lits.grow {n : Nat} {ls : List (List UInt8)} {w w' : World} {v : Value} (h : Lits n ls w v) (hg : Grow w w') : Lits n ls w' v := by
  obtain ⟨b, h1, h2⟩ := h
  exact ⟨b, h1, (h2.keep hg.cell).more hg.size⟩
theorem conv_lit (w : World) (b n : Nat) (C : Array Value) (fr : Nat × Nat) (h : w.heap[b]? = some (Obj.cells C 5 fr)) :
    (convert 27 27 (.slice (some ⟨b, 0, none⟩) n n)).run Tryd.prog w = .ok (.slice (some ⟨b, 0, none⟩) n n) (w.freeze ⟨b, C.size, none⟩ 1) := by
  have hsh : w.shape? b = some (5, C.size) := by
    unfold World.shape?
    rw [h]
  simp [convert, run_underlying Tryd.underlying27, run_underlying Tryd.underlying5, markStringish, hsh]
theorem heap_freeze (w : World) (b k i : Nat) (hi : i ≠ b) : (w.freeze ⟨b, k, none⟩ 1).heap[i]? = w.heap[i]? := by
  unfold World.freeze
  rw [if_neg (by decide)]
  show (w.heap.modify b _)[i]? = _
  rw [Array.getElem?_modify, if_neg (Ne.symm hi)]
theorem heap_freeze_same (w : World) (b k : Nat) (C : Array Value) (e : TypeId) (fr : Nat × Nat) (h : w.heap[b]? = some (Obj.cells C e fr)) : ∃ fr', (w.freeze ⟨b, k, none⟩ 1).heap[b]? = some (Obj.cells C e fr') := by
  unfold World.freeze
  rw [if_neg (by decide)]
  show ∃ fr', (w.heap.modify b _)[b]? = _
  rw [Array.getElem?_modify, if_pos rfl, h]
  exact ⟨_, rfl⟩
theorem freeze_below (w : World) (N b k : Nat) (hN : N ≤ b) : Below N w (w.freeze ⟨b, k, none⟩ 1) :=
  ⟨by unfold World.freeze; rw [if_neg (by decide)], by unfold World.freeze; rw [if_neg (by decide)], by unfold World.freeze; rw [if_neg (by decide)], by unfold World.freeze; rw [if_neg (by decide)]; simp, fun i hi => heap_freeze w b k i (by omega)⟩
theorem freeze_grow (w : World) (b k : Nat) (C : Array Value) (e : TypeId) (fr : Nat × Nat) (h : w.heap[b]? = some (Obj.cells C e fr)) : Grow w (w.freeze ⟨b, k, none⟩ 1) := by
  obtain ⟨fr', h'⟩ := heap_freeze_same w b k C e fr h
  refine ⟨(freeze_below w 0 b k (Nat.zero_le _)).size, fun p _ => ?_, fun i cs e' fr0 hi => ?_⟩
  · by_cases hp : p.block = b
    · unfold World.cell?
      rw [hp, h', h]
    · exact World.cell?_of_block (w := w) (heap_freeze w b k p.block hp)
  · by_cases hib : i = b
    · subst hib
      rw [h] at hi
      injection hi with hi
      injection hi with e1 e2 e3
      subst e1; subst e2
      exact ⟨fr', h'⟩
    · exact ⟨fr0, by rw [heap_freeze w b k i hib]; exact hi⟩
theorem Lit.bs {N n : Nat} {cs : Array Value} {w : World} {v : Value} {l : List UInt8} (h : Lit N n cs w v) (hcs : cs.toList = U8 l) (hl : l.length = n) : ∃ b, v = .slice (some ⟨b, 0, none⟩) n n ∧ Bs w w.heap.size (some ⟨b, 0, none⟩) n l := by
  obtain ⟨b, fr, _, h2, h3⟩ := h
  refine ⟨b, h2, hl, fun _ => ⟨b, 0, rfl, (Array.getElem?_eq_some_iff.1 h3).1, fun k u hu => ?_⟩⟩
  rw [Nat.zero_add, cell_of_row _ _ _ _ _ _ h3, ← Array.getElem?_toList, hcs, U8_get, hu]; rfl
theorem lit_new (w : World) (N n : Nat) (cs : Array Value) (fr : Nat × Nat) (hN : N ≤ w.heap.size) : Lit N n cs (w.alloc (.cells cs 5 fr)) (.slice (some ⟨w.heap.size, 0, none⟩) n n) := ⟨w.heap.size, fr, hN, rfl, heap_alloc_new w _⟩
/-- What the last line of the examples leans on. -/
def AS (G C E N : Nat) (D : List UInt8) (u w : World) : Prop := HashAt w G abcBytes ∧ HashAt w C abBytes ∧ Ks w ∧ w.rangeAt E 0 (U8 D) ∧ Below N u w ∧ N ≤ w.heap.size
theorem AS.below {G C E N : Nat} {D : List UInt8} {u w w' : World} (h : AS G C E N D u w) (hb : Below N w w') (hG : G < N) (hC : C < N) (hE : E < N) (h1 : 1 < N) : AS G C E N D u w' :=
  ⟨hash_below h.1 hb hG, hash_below h.2.1 hb hC, h.2.2.1.below hb h1, range_below h.2.2.2.1 hb hE, h.2.2.2.2.1.trans hb, Nat.le_trans h.2.2.2.2.2 hb.size⟩
theorem AS.step {G C E N : Nat} {D : List UInt8} {u w w' : World} (h : AS G C E N D u w) (hb : Below w.heap.size w w') (hG : G < N) (hC : C < N) (hE : E < N) (h1 : 1 < N) : AS G C E N D u w' := h.below (hb.mono h.2.2.2.2.2) hG hC hE h1
/-- What each operation of that line leaves. -/
def AR (G C N : Nat) (D0 D : List UInt8) (i : Nat) (w : World) (v : Value) : Prop :=
  match i with
  | 0 => v = .agg (U8 D0).toArray
  | 1 => v = .string ⟨(hexOf D0).toArray⟩
  | 4 => Lit N 1 #[.int .u8 97] w v
  | 5 => Lit N 1 #[.int .u8 97] w v
  | 6 => Lit N 2 #[.int .u8 98, .int .u8 99] w v
  | 7 => Lit N 2 #[.int .u8 98, .int .u8 99] w v
  | 8 => Lits 2 [aBytes, bcBytes] w v
  | 9 => v = .agg (U8 D).toArray
  | 10 => v = .string ⟨(hexOf D).toArray⟩
  | 14 => v = .pointer (some ⟨G, 0, none⟩)
  | 15 => v = .agg (U8 D).toArray
  | 16 => Lit N 3 #[.int .u8 97, .int .u8 98, .int .u8 99] w v
  | 17 => Lit N 3 #[.int .u8 97, .int .u8 98, .int .u8 99] w v
  | 18 => Lits 1 [abcBytes] w v
  | 19 => v = .agg (U8 D).toArray
  | 23 => v = .pointer (some ⟨G, 0, none⟩)
  | 24 => v = .int .i64 3
  | 28 => v = .pointer (some ⟨C, 0, none⟩)
  | 29 => v = .int .i64 2
  | 33 => v = .int .i64 0
  | 37 => v = .agg (U8 D).toArray
  | 38 => v = .pointer (some ⟨G, 0, none⟩)
  | 39 => v = .agg (U8 D).toArray
  | 43 => v = .int .i64 20
  | _ => v = .bool true
theorem AR.grow {G C N : Nat} {D0 D : List UInt8} (i : Nat) (w w' : World) (v : Value) (hg : Grow w w') (h : AR G C N D0 D i w v) : AR G C N D0 D i w' v := by
  unfold AR at *
  split at h <;> first | exact h | exact Lit.grow h hg | exact Lits.grow h hg
theorem wp_at_world {P : Program} {c : Code} {Q : Exit → Act → World → Prop} {a : Act} {w0 : World} {F : World → Prop} (h0 : F w0) (h : ∀ W, F W → c.wp P Q a W) : c.wp P Q a w0 := h w0 h0
theorem drew_below (w : World) (B : Nat) : Below B w w.drew := Below.drew (Below.refl _ _)
theorem sum_parts (D : List UInt8) (hD : Hid (D = shaOf abcBytes)) (A : Option Addr) (n c : Nat) (w : World) (ls : List (List UInt8)) (hp : Pc w w.heap.size A n ls) (hf : ls.flatten = abcBytes) (hK : Ks w) (hn : (n : Int) ≤ 65536) :
    Calls Tryd.prog 11 #[.slice A n c] w fun e w' => e = .returned (.agg (U8 D).toArray) ∧ Below w.heap.size w w' := by
  rw [hD.out, ← hf]
  exact sum_any A n c ls w w.heap.size hp (Nat.le_refl _) hK.1 hK.2 hn (by rw [hf]; decide)
set_option maxRecDepth 100000 in
set_option maxHeartbeats 4000000 in
theorem alive_any (w : World) (hK : Ks w) : Calls Tryd.prog 5 #[] w fun e w' => e = .returned (.bool true) ∧ Below w.heap.size w w' := by
  have hw1 := hK.1
  obtain ⟨D0, hD0, hD0l⟩ : ∃ D0, Hid (D0 = shaOf []) ∧ D0.length = 32 := ⟨_, Lib.hid rfl, shaOf_length _⟩
  obtain ⟨D, hD, hDl⟩ : ∃ D, Hid (D = shaOf abcBytes) ∧ D.length = 32 := ⟨_, Lib.hid rfl, shaOf_length _⟩
  have kc := fun (w : World) (C : Array Value) (n c : Nat) => Lib.run_convert_bytes_const (P := Tryd.prog) w 27 5 C n c Tryd.underlying27 Tryd.underlying5
  go_enter Tryd.func5, Tryd.ntmps5
  go_wp2_with fail
  refine (new_any w).mono ?_
  rintro e w1 ⟨rfl, H1, B1, s1⟩
  replace s1 := Nat.le_of_eq s1.symm
  generalize hG : w.heap.size = G at *
  have K1 := hK.below B1 (by omega)
  go_wp2_with fail
  refine (write_lit G 2 _ [] abBytes w1 _ _ ab_cells rfl H1 (by omega) (by omega) K1 (by decide) (by decide) rfl).mono ?_
  rintro e w2 ⟨rfl, H2, O2⟩
  replace H2 : HashAt w2 G abBytes := H2
  have K2 := K1.only O2 (by omega) (by omega)
  have B2 : Below G w w2 := B1.trans (O2.toBelow (by omega) (by omega))
  have s2 := O2.size
  clear H1 B1 K1 O2
  go_wp2_with fail
  refine (clone_any w2 G _ H2).mono ?_
  rintro e w3 ⟨rfl, C3, b3, s3⟩
  replace s3 := Nat.le_of_eq s3.symm
  have H3 := hash_below H2 b3 (by omega)
  have K3 := K2.below b3 (by omega)
  have B3 : Below G w w3 := B2.trans (b3.mono (by omega))
  clear b3
  generalize hC : w2.heap.size = C at *
  clear H2 B2 K2
  go_wp2_with fail
  refine (write_lit G 1 _ _ cBytes w3 _ _ c_cells rfl H3 (by omega) (by omega) K3 (by decide) (by decide) rfl).mono ?_
  rintro e w4 ⟨rfl, H4, O4⟩
  replace H4 : HashAt w4 G abcBytes := H4
  have C4 := hash_only C3 O4 (by omega) (by omega)
  have K4 := K3.only O4 (by omega) (by omega)
  have B4 : Below G w w4 := B3.trans (O4.toBelow (by omega) (by omega))
  have s4 := O4.size
  clear H3 B3 K3 O4 C3
  go_wp2_with fail
  refine (hsum_D D w4 G abcBytes hD H4 (by omega) K4 (by decide)).mono ?_
  rintro e w5 ⟨rfl, hb⟩
  have H5 := hash_below H4 hb (by omega)
  have C5 := hash_below C4 hb (by omega)
  have K5 := K4.below hb (by omega)
  have B5 : Below G w w5 := B4.trans (hb.mono (by omega))
  have s5 := hb.size
  clear H4 C4 K4 B4 hb
  go_wp2_with fail
  refine (hex_any w5 D hDl).mono ?_
  rintro e w6 ⟨rfl, hb⟩
  have H6 := hash_below H5 hb (by omega)
  have C6 := hash_below C5 hb (by omega)
  have K6 := K5.below hb (by omega)
  have B6 : Below G w w6 := B5.trans (hb.mono (by omega))
  have s6 := hb.size
  clear H5 C5 K5 B5 hb
  go_wp2_with fail
  refine (hexparse w6 D hDl).mono ?_
  rintro e w7 ⟨rfl, hb⟩
  have H7 := hash_below H6 hb (by omega)
  have C7 := hash_below C6 hb (by omega)
  have K7 := K6.below hb (by omega)
  have B7 : Below G w w7 := B6.trans (hb.mono (by omega))
  have s7 := hb.size
  clear H6 C6 K6 B6 hb
  have t7 : ∀ z : Array Value, z.size = 32 → (w7.alloc (.cells z 25)).there w7.heap.size 0 32 := fun z hz => there_new w7 z 25 hz
  have hDz := size_U8 hDl
  go_wp2_with (refine wpList_store_mid rfl 25 (.tmp 3) (.tmp 23) rfl w7.heap.size 0 (U8 D).toArray rfl rfl (by rw [hDz]; exact t7 _ rfl) (by rw [size25, hDz]) (all_oneCell_toArray (U8_one _)) ?_)
  have w8 : ∀ W : World, (∃ z : Array Value, z.size = 32 ∧ W = (w7.alloc (.cells z 25)).setCells w7.heap.size 0 (U8 D)) → HashAt W G abcBytes ∧ HashAt W C abBytes ∧ Ks W ∧ W.rangeAt w7.heap.size 0 (U8 D) ∧ Below w7.heap.size w7 W ∧ w7.heap.size + 1 ≤ W.heap.size := fun W ⟨z, hz, hW⟩ => by
    subst hW
    have b1 : Below w7.heap.size w7 ((w7.alloc (.cells z 25)).setCells w7.heap.size 0 (U8 D)) := below_setCells (alloc_below w7 _) (Nat.le_refl _) _ _
    refine ⟨hash_below H7 b1 (by omega), hash_below C7 b1 (by omega), K7.below b1 (by omega), World.rangeAt_setCells_same _ _ _ _ (by rw [U8_length, hDl]; exact t7 z hz), b1, ?_⟩
    rw [size_setCells_, alloc_size]; exact Nat.le_refl _
  go_wp2_with fail
  refine (parse_any _ _).mono ?_
  rw [parseOf_len (by decide)]
  rintro e w9 ⟨rfl, hb⟩
  obtain ⟨H8, C8, K8, R8, B8, s8⟩ := (fun W (_ : Below W.heap.size W w9) => w8 W) _ hb ⟨_, by rfl, rfl⟩
  have H9 := hash_below H8 hb (by omega)
  have C9 := hash_below C8 hb (by omega)
  have K9 := K8.below hb (by omega)
  have R9 := range_below R8 hb (by omega)
  have B9 : Below G w w9 := B7.trans ((B8.mono (by omega)).trans (hb.mono (by omega)))
  have s9 := hb.size
  clear H7 C7 K7 B7 H8 C8 K8 R8 B8 hb t7 w8
  generalize hE : w7.heap.size = E at *
  obtain ⟨Z, hZ, hZl⟩ : ∃ Z : List UInt8, List.replicate 32 0 = Z ∧ Z.length = 32 := ⟨_, rfl, rfl⟩
  rw [hZ]
  have t9 : ∀ z : Array Value, z.size = 32 → (w9.alloc (.cells z 25)).there w9.heap.size 0 32 := fun z hz => there_new w9 z 25 hz
  have hZz := size_U8 hZl
  go_wp2_with (refine wpList_store_mid rfl 25 (.tmp 5) (.tmp 27) rfl w9.heap.size 0 (U8 Z).toArray rfl rfl (by rw [hZz]; exact t9 _ rfl) (by rw [size25, hZz]) (all_oneCell_toArray (U8_one _)) ?_)
  have w10 : ∀ W : World, (∃ z : Array Value, z.size = 32 ∧ W = (w9.alloc (.cells z 25)).setCells w9.heap.size 0 (U8 Z)) → HashAt W G abcBytes ∧ HashAt W C abBytes ∧ Ks W ∧ W.rangeAt E 0 (U8 D) ∧ Below G w W ∧ w9.heap.size + 1 ≤ W.heap.size := fun W ⟨z, hz, hW⟩ => by
    subst hW
    have b1 : Below w9.heap.size w9 ((w9.alloc (.cells z 25)).setCells w9.heap.size 0 (U8 Z)) := below_setCells (alloc_below w9 _) (Nat.le_refl _) _ _
    refine ⟨hash_below H9 b1 (by omega), hash_below C9 b1 (by omega), K9.below b1 (by omega), range_below R9 b1 (by omega), B9.trans (b1.mono (by omega)), ?_⟩
    rw [size_setCells_, alloc_size]; exact Nat.le_refl _
  go_wp2_with fail
  refine wp_at_world (F := fun W => HashAt W G abcBytes ∧ HashAt W C abBytes ∧ Ks W ∧ W.rangeAt E 0 (U8 D) ∧ Below G w W ∧ w9.heap.size + 1 ≤ W.heap.size) (w10 _ ⟨_, by rfl, rfl⟩) fun W ⟨HW, CW, KW, RW, BW, sW⟩ => ?_
  clear w10 H9 C9 K9 R9 B9 t9
  have hGN : G < W.heap.size := by omega
  have hCN : C < W.heap.size := by omega
  have hEN : E < W.heap.size := by omega
  have h1N : 1 < W.heap.size := by omega
  clear sW s9 s8 s7 s6 s5 s4 s3 s2 s1
  generalize hN : W.heap.size = N at *
  have hG1 : 1 < G := hw1
  clear hC hE hw1
  refine wp_region_rel (AS G C E N D W) Grow (AR G C N D0 D) [(1, .pointer (some ⟨G, 0, none⟩)), (2, .pointer (some ⟨C, 0, none⟩)), (3, .pointer (some ⟨E, 0, none⟩)), (4, .int .i64 0), (6, .int .i64 20)] (by kernel_rfl) (by kernel_rfl) (by kernel_rfl) ?base ⟨hash_below HW (drew_below W N) hGN, hash_below CW (drew_below W N) hCN, KW.below (drew_below W N) h1N, range_below RW (drew_below W N) hEN, drew_below W N, Nat.le_of_eq hN.symm⟩ AR.grow ?steps ?fin
  case base =>
    intro p hp
    simp only [List.mem_cons, List.not_mem_nil, or_false] at hp
    rcases hp with rfl | rfl | rfl | rfl | rfl <;> exact ⟨rfl, rfl⟩
  case steps =>
    clear hN HW CW KW RW
    refine steps_cons ?_ (steps_cons ?_ (steps_cons ?_ (steps_cons ?_ (steps_cons ?_ (steps_cons ?_ (steps_cons ?_ (steps_cons ?_ (steps_cons ?_ (steps_cons ?_ (steps_cons ?_ (steps_cons ?_ (steps_cons ?_ (steps_cons ?_ (steps_cons ?_ (steps_cons ?_ (steps_cons ?_ (steps_cons ?_ (steps_cons ?_ (steps_cons ?_ (steps_cons ?_ (steps_cons ?_ (steps_cons ?_ (steps_cons ?_ (steps_cons ?_ (steps_cons ?_ (steps_cons ?_ (steps_cons ?_ (steps_cons ?_ (steps_cons ?_ (steps_cons ?_ (steps_cons ?_ (steps_cons ?_ (steps_cons ?_ (steps_cons ?_ (steps_cons ?_ (steps_cons ?_ (steps_cons ?_ (steps_cons ?_ (steps_cons ?_ (steps_cons ?_ (steps_cons ?_ (steps_cons ?_ (steps_cons ?_ (steps_cons ?_ (steps_cons ?_ (steps_cons ?_ steps_nil))))))))))))))))))))))))))))))))))))))))))))))
    · intro a w K hS hB hR hK
      rw [if_pos (wanted_none rfl)]
      go_simp
      refine (sum_nil D0 hD0 w hS.2.2.1).mono ?_
      rintro e w' ⟨rfl, hb⟩
      exact hK _ _ (hS.step hb hGN hCN hEN h1N) (Grow.below hb) rfl
    · intro a w K hS hB hR hK
      rw [if_pos (wanted_none rfl)]
      have h0 := tmp_is hR.1
      go_simp
      refine (hex_any w D0 hD0l).mono ?_
      rintro e w' ⟨rfl, hb⟩
      exact hK _ _ (hS.step hb hGN hCN hEN h1N) (Grow.below hb) rfl
    · intro a w K hS hB hR hK
      rw [if_pos (wanted_none rfl)]
      have h1 := tmp_is hR.1
      have hq := list_eq0 D0 hD0
      go_simp
      exact hK (.bool true) w hS (Grow.refl w) rfl
    · intro a w K hS hB hR hK
      rw [if_pos (wanted_none rfl)]
      have h2 := tmp_is hR.1
      go_simp
      exact hK (.bool true) w hS (Grow.refl w) rfl
    · intro a w K hS hB hR hK
      rw [if_pos (wanted_some rfl (hR.1))]
      go_simp
      exact hK (.slice (some ⟨w.heap.size, 0, none⟩) 1 1) _ (hS.step (alloc_below w _) hGN hCN hEN h1N) (Grow.below (alloc_below w _)) (lit_new w N 1 _ _ hS.2.2.2.2.2)
    · intro a w K hS hB hR hK
      rw [if_pos (wanted_some rfl (hR.2.1))]
      obtain ⟨b, fr, hbN, hv, hr⟩ := hR.1
      have hc := conv_lit w b 1 _ fr hr
      have hv := tmp_is hv
      go_simp
      exact hK _ _ (hS.below (freeze_below w N b _ hbN) hGN hCN hEN h1N) (freeze_grow w b _ _ _ fr hr) (Lit.grow ⟨b, fr, hbN, rfl, hr⟩ (freeze_grow w b _ _ _ fr hr))
    · intro a w K hS hB hR hK
      rw [if_pos (wanted_some rfl (hR.1))]
      go_simp
      exact hK (.slice (some ⟨w.heap.size, 0, none⟩) 2 2) _ (hS.step (alloc_below w _) hGN hCN hEN h1N) (Grow.below (alloc_below w _)) (lit_new w N 2 _ _ hS.2.2.2.2.2)
    · intro a w K hS hB hR hK
      rw [if_pos (wanted_some rfl (hR.2.1))]
      obtain ⟨b, fr, hbN, hv, hr⟩ := hR.1
      have hc := conv_lit w b 2 _ fr hr
      have hv := tmp_is hv
      go_simp
      exact hK _ _ (hS.below (freeze_below w N b _ hbN) hGN hCN hEN h1N) (freeze_grow w b _ _ _ fr hr) (Lit.grow ⟨b, fr, hbN, rfl, hr⟩ (freeze_grow w b _ _ _ fr hr))
    · intro a w K hS hB hR hK
      rw [if_pos (wanted_some rfl (hR.2.2.1))]
      obtain ⟨b1, e1, hb1⟩ := Lit.bs (l := aBytes) (hR.1) a_cells rfl
      obtain ⟨b2, e2, hb2⟩ := Lit.bs (l := bcBytes) (hR.2.1) bc_cells rfl
      have e1 := tmp_is e1
      have e2 := tmp_is e2
      go_simp
      exact hK (.slice (some ⟨w.heap.size, 0, none⟩) 2 2) _ (hS.step (alloc_below w _) hGN hCN hEN h1N) (Grow.below (alloc_below w _)) ⟨w.heap.size, rfl, by rw [alloc_size]; exact pc_two w _ _ 1 1 2 2 _ _ hb1 hb2 (by decide) (by decide) _ _⟩
    · intro a w K hS hB hR hK
      rw [if_pos (wanted_some rfl (hR.2.1))]
      obtain ⟨b, e1, hb1⟩ := hR.1
      have e1 := tmp_is e1
      go_simp
      refine (sum_parts D hD _ _ _ w [aBytes, bcBytes] hb1 rfl hS.2.2.1 (by decide)).mono ?_
      rintro e w' ⟨rfl, hb⟩
      exact hK _ _ (hS.step hb hGN hCN hEN h1N) (Grow.below hb) rfl
    · intro a w K hS hB hR hK
      rw [if_pos (wanted_some rfl (hR.2.2.1))]
      have h0 := tmp_is hR.1
      go_simp
      refine (hex_any w D hDl).mono ?_
      rintro e w' ⟨rfl, hb⟩
      exact hK _ _ (hS.step hb hGN hCN hEN h1N) (Grow.below hb) rfl
    · intro a w K hS hB hR hK
      rw [if_pos (wanted_some rfl (hR.2.1))]
      have h1 := tmp_is hR.1
      have hq := list_eqabc D hD
      go_simp
      exact hK (.bool true) w hS (Grow.refl w) rfl
    · intro a w K hS hB hR hK
      rw [if_pos (wanted_none rfl)]
      have h1 := tmp_is hR.1
      have h2 := tmp_is hR.2.1
      go_simp
      exact hK (.bool true) w hS (Grow.refl w) rfl
    · intro a w K hS hB hR hK
      rw [if_pos (wanted_none rfl)]
      have h1 := tmp_is hR.1
      go_simp
      exact hK (.bool true) w hS (Grow.refl w) rfl
    · intro a w K hS hB hR hK
      rw [if_pos (wanted_some rfl (hR.1))]
      have h1 := tmp_is hB.1
      go_simp
      exact hK (.pointer (some ⟨G, 0, none⟩)) w hS (Grow.refl w) rfl
    · intro a w K hS hB hR hK
      rw [if_pos (wanted_some rfl (hR.2.1))]
      have h1 := tmp_is hR.1
      go_simp
      refine (hsum_D D w G abcBytes hD hS.1 (Nat.lt_of_lt_of_le hGN hS.2.2.2.2.2) hS.2.2.1 (by decide)).mono ?_
      rintro e w' ⟨rfl, hb⟩
      exact hK _ _ (hS.step hb hGN hCN hEN h1N) (Grow.below hb) rfl
    · intro a w K hS hB hR hK
      rw [if_pos (wanted_some rfl (hR.1))]
      go_simp
      exact hK (.slice (some ⟨w.heap.size, 0, none⟩) 3 3) _ (hS.step (alloc_below w _) hGN hCN hEN h1N) (Grow.below (alloc_below w _)) (lit_new w N 3 _ _ hS.2.2.2.2.2)
    · intro a w K hS hB hR hK
      rw [if_pos (wanted_some rfl (hR.2.1))]
      obtain ⟨b, fr, hbN, hv, hr⟩ := hR.1
      have hc := conv_lit w b 3 _ fr hr
      have hv := tmp_is hv
      go_simp
      exact hK _ _ (hS.below (freeze_below w N b _ hbN) hGN hCN hEN h1N) (freeze_grow w b _ _ _ fr hr) (Lit.grow ⟨b, fr, hbN, rfl, hr⟩ (freeze_grow w b _ _ _ fr hr))
    · intro a w K hS hB hR hK
      rw [if_pos (wanted_some rfl (hR.2.1))]
      obtain ⟨b1, e1, hb1⟩ := Lit.bs (l := abcBytes) (hR.1) abc_cells rfl
      have e1 := tmp_is e1
      go_simp
      exact hK (.slice (some ⟨w.heap.size, 0, none⟩) 1 1) _ (hS.step (alloc_below w _) hGN hCN hEN h1N) (Grow.below (alloc_below w _)) ⟨w.heap.size, rfl, by rw [alloc_size]; exact pc_one w _ 3 3 _ hb1 (by decide) _ _⟩
    · intro a w K hS hB hR hK
      rw [if_pos (wanted_some rfl (hR.2.2.1))]
      obtain ⟨b, e1, hb1⟩ := hR.1
      have e1 := tmp_is e1
      go_simp
      refine (sum_parts D hD _ _ _ w [abcBytes] hb1 rfl hS.2.2.1 (by decide)).mono ?_
      rintro e w' ⟨rfl, hb⟩
      exact hK _ _ (hS.step hb hGN hCN hEN h1N) (Grow.below hb) rfl
    · intro a w K hS hB hR hK
      rw [if_pos (wanted_some rfl (hR.2.2.1))]
      have h1 := tmp_is hR.1
      have h2 := tmp_is hR.2.1
      have hq := run_eq32 w D D hDl hDl
      have hg := guard32
      go_simp
      exact hK (.bool true) w hS (Grow.refl w) rfl
    · intro a w K hS hB hR hK
      rw [if_pos (wanted_none rfl)]
      have h1 := tmp_is hR.1
      have h2 := tmp_is hR.2.1
      go_simp
      exact hK (.bool true) w hS (Grow.refl w) rfl
    · intro a w K hS hB hR hK
      rw [if_pos (wanted_none rfl)]
      have h1 := tmp_is hR.1
      go_simp
      exact hK (.bool true) w hS (Grow.refl w) rfl
    · intro a w K hS hB hR hK
      rw [if_pos (wanted_some rfl (hR.1))]
      have h1 := tmp_is hB.1
      go_simp
      exact hK (.pointer (some ⟨G, 0, none⟩)) w hS (Grow.refl w) rfl
    · intro a w K hS hB hR hK
      rw [if_pos (wanted_some rfl (hR.2.1))]
      have h1 := tmp_is hR.1
      go_simp
      refine (len_any w G abcBytes hS.1).mono ?_
      rintro e w' ⟨rfl, rfl⟩
      exact hK (.int .i64 3) w hS (Grow.refl w) rfl
    · intro a w K hS hB hR hK
      rw [if_pos (wanted_some rfl (hR.2.1))]
      have h1 := tmp_is hR.1
      go_simp
      exact hK (.bool true) w hS (Grow.refl w) rfl
    · intro a w K hS hB hR hK
      rw [if_pos (wanted_none rfl)]
      have h1 := tmp_is hR.1
      have h2 := tmp_is hR.2.1
      go_simp
      exact hK (.bool true) w hS (Grow.refl w) rfl
    · intro a w K hS hB hR hK
      rw [if_pos (wanted_none rfl)]
      have h1 := tmp_is hR.1
      go_simp
      exact hK (.bool true) w hS (Grow.refl w) rfl
    · intro a w K hS hB hR hK
      rw [if_pos (wanted_some rfl (hR.1))]
      have h1 := tmp_is hB.2.1
      go_simp
      exact hK (.pointer (some ⟨C, 0, none⟩)) w hS (Grow.refl w) rfl
    · intro a w K hS hB hR hK
      rw [if_pos (wanted_some rfl (hR.2.1))]
      have h1 := tmp_is hR.1
      go_simp
      refine (len_any w C abBytes hS.2.1).mono ?_
      rintro e w' ⟨rfl, rfl⟩
      exact hK (.int .i64 2) w hS (Grow.refl w) rfl
    · intro a w K hS hB hR hK
      rw [if_pos (wanted_some rfl (hR.2.1))]
      have h1 := tmp_is hR.1
      go_simp
      exact hK (.bool true) w hS (Grow.refl w) rfl
    · intro a w K hS hB hR hK
      rw [if_pos (wanted_none rfl)]
      have h1 := tmp_is hR.1
      have h2 := tmp_is hR.2.1
      go_simp
      exact hK (.bool true) w hS (Grow.refl w) rfl
    · intro a w K hS hB hR hK
      rw [if_pos (wanted_none rfl)]
      have h1 := tmp_is hR.1
      go_simp
      exact hK (.bool true) w hS (Grow.refl w) rfl
    · intro a w K hS hB hR hK
      rw [if_pos (wanted_some rfl (hR.1))]
      have h1 := tmp_is hB.2.2.2.1
      go_simp
      exact hK (.int .i64 0) w hS (Grow.refl w) rfl
    · intro a w K hS hB hR hK
      rw [if_pos (wanted_some rfl (hR.2.1))]
      have h1 := tmp_is hR.1
      go_simp
      exact hK (.bool true) w hS (Grow.refl w) rfl
    · intro a w K hS hB hR hK
      rw [if_pos (wanted_none rfl)]
      have h1 := tmp_is hR.1
      have h2 := tmp_is hR.2.1
      go_simp
      exact hK (.bool true) w hS (Grow.refl w) rfl
    · intro a w K hS hB hR hK
      rw [if_pos (wanted_none rfl)]
      have h1 := tmp_is hR.1
      go_simp
      exact hK (.bool true) w hS (Grow.refl w) rfl
    · intro a w K hS hB hR hK
      rw [if_pos (wanted_some rfl (hR.1))]
      refine wp_load_mid _ _ rfl _ _ hB.2.2.1 (U8 D) _ hS.2.2.2.1 Tryd.underlying25 rfl (by rw [size25, U8_length, hDl]) ?_
      exact hK (.agg (U8 D).toArray) w hS (Grow.refl w) rfl
    · intro a w K hS hB hR hK
      rw [if_pos (wanted_some rfl (hR.1))]
      have h1 := tmp_is hB.1
      go_simp
      exact hK (.pointer (some ⟨G, 0, none⟩)) w hS (Grow.refl w) rfl
    · intro a w K hS hB hR hK
      rw [if_pos (wanted_some rfl (hR.2.1))]
      have h1 := tmp_is hR.1
      go_simp
      refine (hsum_D D w G abcBytes hD hS.1 (Nat.lt_of_lt_of_le hGN hS.2.2.2.2.2) hS.2.2.1 (by decide)).mono ?_
      rintro e w' ⟨rfl, hb⟩
      exact hK _ _ (hS.step hb hGN hCN hEN h1N) (Grow.below hb) rfl
    · intro a w K hS hB hR hK
      rw [if_pos (wanted_some rfl (hR.2.2.1))]
      have h1 := tmp_is hR.1
      have h2 := tmp_is hR.2.1
      have hq := run_eq32 w D D hDl hDl
      have hg := guard32
      go_simp
      exact hK (.bool true) w hS (Grow.refl w) rfl
    · intro a w K hS hB hR hK
      rw [if_pos (wanted_none rfl)]
      have h1 := tmp_is hR.1
      have h2 := tmp_is hR.2.1
      go_simp
      exact hK (.bool true) w hS (Grow.refl w) rfl
    · intro a w K hS hB hR hK
      rw [if_pos (wanted_none rfl)]
      have h1 := tmp_is hR.1
      go_simp
      exact hK (.bool true) w hS (Grow.refl w) rfl
    · intro a w K hS hB hR hK
      rw [if_pos (wanted_some rfl (hR.1))]
      have h1 := tmp_is hB.2.2.2.2.1
      go_simp
      exact hK (.int .i64 20) w hS (Grow.refl w) rfl
    · intro a w K hS hB hR hK
      rw [if_pos (wanted_some rfl (hR.2.1))]
      have h1 := tmp_is hR.1
      go_simp
      exact hK (.bool true) w hS (Grow.refl w) rfl
    · intro a w K hS hB hR hK
      rw [if_pos (wanted_none rfl)]
      have h1 := tmp_is hR.1
      have h2 := tmp_is hR.2.1
      go_simp
      exact hK (.bool true) w hS (Grow.refl w) rfl
    · intro a w K hS hB hR hK
      rw [if_pos (wanted_none rfl)]
      have h1 := tmp_is hR.1
      go_simp
      exact hK (.bool true) w hS (Grow.refl w) rfl
  case fin =>
    intro a w HS ha hR
    have h0 : a.eval (.tmp 0) = .bool true := deps_mem _ hR 46 (by decide)
    have hbel : Below N W w := HS.2.2.2.2.1
    clear hR HS
    simp only [pin] at ha
    rw [ha]
    simp only [List.setIfInBounds_toArray, List.set_cons_zero, List.set_cons_succ, h0]
    go_wp2

    go_ret
    refine ⟨rfl, ?_⟩
    rw [hG]
    exact BW.trans (hbel.mono (by omega))
end Go.Proofs.YtoagodgiaccadaaDoor
