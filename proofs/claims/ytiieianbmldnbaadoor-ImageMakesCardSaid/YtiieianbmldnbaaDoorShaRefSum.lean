/-
  The document's digest of bytes.
-/
import Derived.Test.YtiieianbmldnbaaDoorShaSum
import Derived.Laws.Tables
namespace Go.Proofs.YtiieianbmldnbaaDoor
open Go.RowKit
set_option maxRecDepth 100000
theorem zeros_lt (n : Nat) : zerosOf n ≤ 63 := by unfold zerosOf; omega
theorem zeros_at (n j : Nat) (h : j ≤ zerosOf n) : ((n + 1 + j) % 64 = 56 ↔ j = zerosOf n) := by unfold zerosOf at *; omega
theorem w8_ofNat (u : UInt8) : w8 u = BitVec.ofNat 32 u.toNat := rfl
theorem be32_nat (a b c d : UInt8) : (be32 a b c d).toNat = a.toNat * 16777216 + b.toNat * 65536 + c.toNat * 256 + d.toNat := by
  have ha := a.toNat_lt
  have hb := b.toNat_lt
  have hc := c.toNat_lt
  have hd := d.toNat_lt
  unfold be32
  rw [BitVec.toNat_or, BitVec.toNat_or, BitVec.toNat_or, BitVec.toNat_shiftLeft, BitVec.toNat_shiftLeft, BitVec.toNat_shiftLeft, w8_toNat, w8_toNat, w8_toNat, w8_toNat]
  have e1 : a.toNat <<< 24 % 2 ^ 32 = a.toNat <<< 24 := Nat.mod_eq_of_lt (by rw [Nat.shiftLeft_eq]; omega)
  have e2 : b.toNat <<< 16 % 2 ^ 32 = b.toNat <<< 16 := Nat.mod_eq_of_lt (by rw [Nat.shiftLeft_eq]; omega)
  have e3 : c.toNat <<< 8 % 2 ^ 32 = c.toNat <<< 8 := Nat.mod_eq_of_lt (by rw [Nat.shiftLeft_eq]; omega)
  rw [e1, e2, e3]
  rw [Nat.or_assoc, Nat.or_assoc]
  have f3 : c.toNat <<< 8 ||| d.toNat = c.toNat * 256 + d.toNat := by
    rw [← Nat.shiftLeft_add_eq_or_of_lt (by omega), Nat.shiftLeft_eq]
  rw [f3]
  have f2 : b.toNat <<< 16 ||| (c.toNat * 256 + d.toNat) = b.toNat * 65536 + (c.toNat * 256 + d.toNat) := by
    rw [← Nat.shiftLeft_add_eq_or_of_lt (by omega), Nat.shiftLeft_eq]
  rw [f2]
  rw [← Nat.shiftLeft_add_eq_or_of_lt (by omega), Nat.shiftLeft_eq]
  omega
theorem be32_add (a b c d : UInt8) : ((a.toNat : Int) * 16777216 + (b.toNat : Int) * 65536 + (c.toNat : Int) * 256 + (d.toNat : Int)) = ((be32 a b c d).toNat : Int) := by
  rw [be32_nat]; omega
theorem be_byte' (n q : Nat) : ((n : Int) * 8 / 2 ^ (8 * q) % 256) = ((UInt8.ofNat (8 * n / 2 ^ (8 * q))).toNat : Int) := by
  generalize he : 8 * q = e
  rw [UInt8.toNat_ofNat', Nat.mul_comm 8 n, show (2 : Nat) ^ 8 = 256 from rfl, Int.natCast_emod, Int.natCast_ediv, Int.natCast_mul, Int.natCast_pow]
  rfl
theorem take_snoc8 {l : List UInt8} {k : Nat} {u : UInt8} (h : l[k]? = some u) : l.take (k + 1) = l.take k ++ [u] := by
  rw [List.take_add_one, h]; rfl
theorem alloc_size' (w : World) (o : Obj) : (w.alloc o).heap.size = w.heap.size + 1 := Array.size_push ..
theorem there_grown {w w' : World} {b o n base : Nat} {row : Option Nat} (h : w.there b o n) (hg : w.grownBy w' row) (hb : b < w.heap.size) (hr : ∀ g, row = some g → base ≤ g) (hlt : b < base := by omega) : w'.there b o n := fun j hj => by
  have hk := hg.block b hb (fun e => by have := hr _ e.symm; omega)
  rw [World.cell?_of_block (w := w) (w' := w') (a := ⟨b, o + j, none⟩) hk, World.frozen?_of_block (w := w) (w' := w') (a := ⟨b, o + j, none⟩) hk]
  exact h j hj
def h0lit : Array Value := #[Value.int .u32 1779033703, Value.int .u32 3144134277, Value.int .u32 1013904242, Value.int .u32 2773480762, Value.int .u32 1359893119, Value.int .u32 2600822924, Value.int .u32 528734635, Value.int .u32 1541459225]
theorem h0_lit : h0lit.toList = W32 H0.list := by kernel_rfl
theorem alloc_below' (w : World) (o : Obj) : Below w.heap.size w (w.alloc o) := (Below.refl _ w).alloc (Nat.le_refl _) o
theorem h0_size : h0lit.size = 8 := by kernel_rfl
theorem range_new_ (w : World) (cs : Array Value) (t : TypeId) {vs : List Value} (h : cs.toList = vs) : (w.alloc (.cells cs t)).rangeAt w.heap.size 0 vs := by
  intro j v hj
  subst h
  rw [Nat.zero_add, cell_of_row _ _ _ _ _ _ (heap_alloc_new w _), ← Array.getElem?_toList]; exact hj
def zz64 : Array Value := (W32 (List.replicate 64 0#32)).toArray
theorem zz_built (f : Nat × Operand → Nat × Value) : ((Tryd.prog.built 79 (Array.map f #[]).toList).getD #[]) = zz64 := by kernel_rfl
theorem zz_size : zz64.size = 64 := by unfold zz64; rw [List.size_toArray, W32_length, List.length_replicate]
theorem zz_one : zz64.all (·.oneCell') = true := all_oneCell_toArray (W32_one _)
theorem Bs.at_ {w : World} {B g o n : Nat} {l : List UInt8} (h : Bs w B (some ⟨g, o, none⟩) n l) (k : Nat) (u : UInt8) (hu : l[k]? = some u) : w.cell? ⟨g, o + k, none⟩ = some (.int .u8 (u.toNat : Int)) := by
  have hk := (List.getElem?_eq_some_iff.1 hu).1
  obtain ⟨b, off, e, _, hc⟩ := h.place (by have := h.len; omega)
  injection e with e
  injection e with e1 e2 _
  subst e1 e2
  exact hc k u hu
theorem rturn_q (x : BitVec 32) (n : Int) (h1 : 1 ≤ n) (h2 : n ≤ 31) (w : World) : Calls Tryd.prog 52 #[.int .u32 (x.toNat : Int), .int .i64 n] w fun e w' => e = .returned (.int .u32 ((rotr x n.toNat).toNat : Int)) ∧ ∃ m, w' = w.drewN m := by
  obtain ⟨m, rfl⟩ := Int.eq_ofNat_of_zero_le (show 0 ≤ n by omega)
  exact rturn_any x m h1 h2 w
theorem sum_walk (a b c d : UInt8) : ((a.toNat : Int) % 4294967296 * 16777216 + (b.toNat : Int) % 4294967296 * 65536 + (c.toNat : Int) % 4294967296 * 256 + (d.toNat : Int)) % 4294967296 = ((be32 a b c d).toNat : Int) := by
  have ha := a.toNat_lt
  have hb := b.toNat_lt
  have hc := c.toNat_lt
  have hd := d.toNat_lt
  rw [be32_nat]; omega
theorem drew_below' (w : World) (B : Nat) : Below B w w.drew := Below.drew (Below.refl _ _)
theorem ch_walk' (e f g : BitVec 32) : bits .xor .u32 (bits .and .u32 (e.toNat : Int) (f.toNat : Int)) (bits .and .u32 (bits .xor .u32 IntKind.u32.max (e.toNat : Int)) (g.toNat : Int)) = ((ch e f g).toNat : Int) := ch_walk e f g
theorem t2_walk (r : S8) : (bits .xor .u32 (bits .xor .u32 ((rotr r.a 2).toNat : Int) ((rotr r.a 13).toNat : Int)) ((rotr r.a 22).toNat : Int) + bits .xor .u32 (bits .xor .u32 (bits .and .u32 (r.a.toNat : Int) (r.b.toNat : Int)) (bits .and .u32 (r.a.toNat : Int) (r.c.toNat : Int))) (bits .and .u32 (r.b.toNat : Int) (r.c.toNat : Int))) % 4294967296 = ((t2 r).toNat : Int) := by
  rw [bs0_walk, maj_walk, add32]; rfl
def zz32 : Array Value := (U8 (List.replicate 32 0)).toArray
theorem zz32_built (f : Nat × Operand → Nat × Value) : ((Tryd.prog.built 23 (Array.map f #[]).toList).getD #[]) = zz32 := by kernel_rfl
theorem zz32_size : zz32.size = 32 := by unfold zz32; rw [List.size_toArray, U8_length, List.length_replicate]
theorem zz32_one : zz32.all (·.oneCell') = true := all_oneCell_toArray (U8_one _)
theorem dig_get (s : S8) (k : Nat) (hk : k < 32) : ∃ x, s.list[k / 4]? = some x ∧ (dig s)[k]? = some (UInt8.ofNat (x.toNat / 2 ^ (24 - 8 * (k % 4)))) := by
  obtain ⟨x, hx⟩ : ∃ x, s.list[k / 4]? = some x := ⟨_, List.getElem?_eq_getElem (by rw [S8.list_length]; omega)⟩
  refine ⟨x, hx, ?_⟩
  have h1 := dig_take s (k / 4) x hx
  have hl : ((dig s).take (4 * (k / 4))).length = 4 * (k / 4) := by rw [List.length_take, dig_length]; omega
  have h2 : (dig s)[k]? = ((dig s).take (4 * (k / 4 + 1)))[k]? := by rw [List.getElem?_take, if_pos (by omega)]
  rw [h2, h1, List.getElem?_append_right (by omega), hl]
  have h4 : k - 4 * (k / 4) = k % 4 := by omega
  rw [h4]
  have hm : k % 4 < 4 := Nat.mod_lt _ (by decide)
  generalize k % 4 = m at hm
  match m, hm with
  | 0, _ => rfl
  | 1, _ => rfl
  | 2, _ => rfl
  | 3, _ => show some (UInt8.ofNat x.toNat) = some (UInt8.ofNat (x.toNat / 2 ^ 0)); rw [Nat.pow_zero, Nat.div_one]
theorem add3 (a b c : BitVec 32) : ((a.toNat : Int) + ((b.toNat : Int) + (c.toNat : Int))) % 4294967296 = ((a + (b + c)).toNat : Int) := by
  rw [BitVec.toNat_add, BitVec.toNat_add]; omega
theorem byte_pow (x : BitVec 32) (e : Nat) : ((x.toNat : Int) / 2 ^ e % 256) = ((UInt8.ofNat (x.toNat / 2 ^ e)).toNat : Int) := by
  have := byte_walk x.toNat (2 ^ e)
  rw [Int.natCast_pow] at this
  exact this
theorem own_at {w : World} {base n : Nat} {v : Value} {l : List UInt8} (h : w.ownsRow base 5 1 v n (U8 l)) (hn : 0 < n) :
    ∃ g c, v = .slice (some ⟨g, 0, none⟩) n c ∧ n ≤ c ∧ base ≤ g ∧ g < w.heap.size ∧ Bs w w.heap.size (some ⟨g, 0, none⟩) n l := by
  obtain ⟨A, c, rfl, hc, hb⟩ := Bs.of_own h
  obtain ⟨b, off, rfl, hlt, _⟩ := hb.place hn
  rcases h.2 with ⟨h', rfl⟩ | ⟨g, cap, cur, h', hbg, hg, _⟩
  · omega
  · simp only [Value.slice.injEq, Option.some.injEq, Addr.mk.injEq, and_true, true_and] at h'
    obtain ⟨⟨rfl, rfl⟩, rfl⟩ := h'
    exact ⟨b, c, rfl, hc, hbg, hlt, hb⟩
/-- What stands while the blocks are mixed in. -/
structure RS (w wr : World) (a0 H T : Nat) (all : List UInt8) (hl : List (BitVec 32)) : Prop where
  al : Bs wr wr.heap.size (some ⟨a0, 0, none⟩) T all
  hh : wr.rangeAt H 0 (W32 hl)
  ht : wr.there H 0 8
  rt : wr.there w.heap.size 0 32
  ks : wr.rangeAt 0 0 (W32 KS)
  be : Below w.heap.size w wr
  lt : a0 < H ∧ H < wr.heap.size
  ge : w.heap.size + 1 ≤ a0
  one : 1 < w.heap.size
section
variable {w wr w' : World} {a0 H T G : Nat} {all : List UInt8} {hl : List (BitVec 32)}
theorem RS.below (h : RS w wr a0 H T all hl) (hb : Below wr.heap.size wr w') : RS w w' a0 H T all hl :=
  ⟨(h.al.below hb).more hb.size, range_below h.hh hb h.lt.2, there_below h.ht hb h.lt.2, there_below h.rt hb (by have := h.lt; have := h.ge; omega), range_below h.ks hb (by have := h.lt; omega), h.be.trans (hb.mono h.be.size), ⟨h.lt.1, Nat.lt_of_lt_of_le h.lt.2 hb.size⟩, h.ge, h.one⟩
theorem RS.seth (h : RS w wr a0 H T all hl) (k : Nat) (x : BitVec 32) (hk : k < hl.length) (h8 : hl.length = 8) : RS w (wr.setCell ⟨H, k, none⟩ (.int .u32 (x.toNat : Int))) a0 H T all (hl.set k x) := by
  have h1 := h.lt
  have h2 := h.ge
  have h3 := h.one
  have ho : Only wr.heap.size H wr (wr.setCell ⟨H, k, none⟩ (.int .u32 (x.toNat : Int))) := (Only.refl _ H wr).setCell k _
  have hset := range_set h.hh (by rw [W32_length, h8]; exact h.ht) k (by rw [W32_length]; exact hk) (.int .u32 (x.toNat : Int))
  rw [Nat.zero_add] at hset
  refine ⟨?_, by rw [W32_set]; exact hset, there_set h.ht _ _, ho.there h.rt (by omega) (by omega), ho.range h.ks (by omega) (by omega), h.be.setCell (p := ⟨H, k, none⟩) (by show w.heap.size ≤ H; omega) _, ⟨h1.1, Nat.lt_of_lt_of_le h1.2 ho.size⟩, h2, h3⟩
  refine ⟨h.al.len, fun hn => ?_⟩
  obtain ⟨b, o, e, hlt, hc⟩ := h.al.place hn
  injection e with e
  injection e with e1 e2 _
  subst e1 e2
  exact ⟨_, _, rfl, Nat.lt_of_lt_of_le hlt ho.size, fun k u hu => (ho.cell (p := ⟨a0, 0 + k, none⟩) hlt (by show a0 ≠ H; omega)).trans (hc k u hu)⟩
theorem RS.set (h : RS w wr a0 H T all hl) (G k : Nat) (v : Value) (hG : H < G) : RS w (wr.setCell ⟨G, k, none⟩ v) a0 H T all hl := by
  have ho : Only wr.heap.size G wr (wr.setCell ⟨G, k, none⟩ v) := (Only.refl _ G wr).setCell k v
  have h1 := h.lt
  have h2 := h.ge
  have h3 := h.one
  refine ⟨?_, ho.range h.hh h1.2 (by omega), ho.there h.ht h1.2 (by omega), ho.there h.rt (by omega) (by omega), ho.range h.ks (by omega) (by omega), h.be.setCell (p := ⟨G, k, none⟩) (by show w.heap.size ≤ G; omega) _, ⟨h1.1, Nat.lt_of_lt_of_le h1.2 ho.size⟩, h2, h3⟩
  refine ⟨h.al.len, fun hn => ?_⟩
  obtain ⟨b, o, e, hlt, hc⟩ := h.al.place hn
  injection e with e
  injection e with e1 e2 _
  subst e1 e2
  exact ⟨_, _, rfl, Nat.lt_of_lt_of_le hlt ho.size, fun k u hu => (ho.cell (p := ⟨a0, 0 + k, none⟩) hlt (by show a0 ≠ G; omega)).trans (hc k u hu)⟩
theorem RS.only (h : RS w wr a0 H T all hl) (ho : Only wr.heap.size G wr w') (hG : H < G) : RS w w' a0 H T all hl := by
  have h1 := h.lt
  have h2 := h.ge
  have h3 := h.one
  refine ⟨?_, ho.range h.hh h1.2 (by omega), ho.there h.ht h1.2 (by omega), ho.there h.rt (by omega) (by omega), ho.range h.ks (by omega) (by omega), h.be.trans (ho.toBelow h.be.size (by omega)), ⟨h1.1, Nat.lt_of_lt_of_le h1.2 ho.size⟩, h2, h3⟩
  refine ⟨h.al.len, fun hn => ?_⟩
  obtain ⟨b, o, e, hlt, hc⟩ := h.al.place hn
  injection e with e
  injection e with e1 e2 _
  subst e1 e2
  exact ⟨_, _, rfl, Nat.lt_of_lt_of_le hlt ho.size, fun k u hu => (ho.cell (p := ⟨a0, 0 + k, none⟩) hlt (by show a0 ≠ G; omega)).trans (hc k u hu)⟩
end
set_option maxRecDepth 100000 in
set_option maxHeartbeats 80000000 in
theorem refsum_any (A : Option Addr) (n c : Nat) (l : List UInt8) (w : World) (hbs : Bs w w.heap.size A n l) (hn : (n : Int) ≤ 65536) (h0 : 1 < w.heap.size) (hK : w.rangeAt 0 0 (W32 KS)) :
    Calls Tryd.prog 37 #[.slice A n c] w fun e w' => e = .returned (.agg (U8 (shaOf l)).toArray) ∧ Below w.heap.size w w' := by
  obtain ⟨i0, hi0, hz0, hz1, hz2⟩ := info_parts info_u8
  have hlen := Lib.hid hbs.len
  obtain ⟨z, hz⟩ : ∃ z, zerosOf n = z := ⟨_, rfl⟩
  have hz63 : (z : Int) ≤ 63 := by have := zeros_lt n; omega
  have HZ := Lib.hid (fun j (h : j ≤ z) => by have := zeros_at n j (by omega); rw [hz] at this; exact this)
  have HZZ := Lib.hid hz
  clear hz
  go_enter Tryd.func37, Tryd.ntmps37
  go_wp2
  go_loopw [3, 4] (fun v i wr => ∃ k : Nat, (k : Int) ≤ n ∧ i = .int .i64 k ∧ wr.ownsRow (w.heap.size + 1) 5 1 v k (U8 (l.take k)) ∧ wr.there w.heap.size 0 32 ∧ Below w.heap.size w wr ∧ w.heap.size + 1 ≤ wr.heap.size) (fun _ i _ => n - (intOf i).toNat)
  case atStart =>
    refine ⟨0, by omega, rfl, ?_, there_new0 _ _ _ _ rfl, ((Below.refl _ _).alloc (Nat.le_refl _) _).alloc (by simp) _, by simp⟩
    have := World.ownsRow_lit (base := w.heap.size + 1) (e := 5) (size := 1) (w.alloc (.cells (List.replicate 32 (Value.int .u8 0)).toArray 23)) #[] 0 (by rw [alloc_size']; exact Nat.le_refl _) (by simp [maxLen]) rfl
    rw [alloc_size'] at this
    exact this
  case round =>
    obtain ⟨k, hk, rfl, hown, hR, hbel, hsz1⟩ := hrel
    have hsz := hbel.size
    have hbs1 := hbs.below' hbel (Nat.le_refl _)
    by_cases hlt : (k : Int) < n
    · obtain ⟨b, off, rfl, hb, hc⟩ := hbs1.place (by omega)
      obtain ⟨u, hu⟩ := byte_get (l := l) (k := k) (by rw [hlen.out]; omega)
      have hck := hc k u hu
      clear hc
      have Hu := Lib.hid hu; clear hu
      go_wp2_with (at_builtin; refine wpList_append_bs _ rfl (.tmp 27) (.tmp 32) 26 rfl (w.heap.size + 1) 5 i0 Tryd.underlying26 hi0 hz0 hz1 hz2 _ k _ rfl (hown.alloc _) (wr.heap.size + 1) (some ⟨wr.heap.size, 0, none⟩) 1 _ [u] rfl (Bs.new_ wr 5 [u] (0, 0)) (by omega) (by simp; omega) ?_; intro v' w1 hown1 hgrow)
      go_roundw
      case rel => exact ⟨k + 1, by omega, by go_num, by rw [take_snoc_U8 Hu.out] at hown1; exact hown1, there_grown (World.there_alloc hR _) hgrow (by simp; omega) (own_ge hown), (hbel.alloc hsz _).grown hgrow (by simp; omega) (fun g hg => by have := own_ge hown g hg; omega), by have := hgrow.size; simp at this; omega⟩
      case measure => simp [intOf]; omega
    · obtain rfl : k = n := by omega
      rw [List.take_of_length_le (by rw [hlen.out]; omega)] at hown
      go_wp2_with (at_builtin; refine wpList_append_bs _ rfl (.tmp 34) (.tmp 35) 26 rfl (w.heap.size + 1) 5 i0 Tryd.underlying26 hi0 hz0 hz1 hz2 _ k _ rfl (hown.alloc _) (wr.heap.size + 1) (some ⟨wr.heap.size, 0, none⟩) 1 _ [128] rfl (Bs.new_ wr 5 [128] (0, 0)) (by omega) (by simp; omega) ?_; intro v' w1 hown1 hgrow)
      have hR1 := there_grown (World.there_alloc hR (.cells (U8 [128]).toArray 5 (0, 0))) hgrow (by simp; omega) (own_ge hown)
      have hbel1 := (hbel.alloc hsz (.cells (U8 [128]).toArray 5 (0, 0))).grown hgrow (by simp; omega) (fun g hg => by have := own_ge hown g hg; omega)
      have hsz2 : w.heap.size + 1 ≤ w1.heap.size := by have := hgrow.size; simp at this; omega
      rw [← U8_append] at hown1
      clear hown hR hbel hgrow hbs1
      go_loopw [3] (fun v wr => ∃ j : Nat, j ≤ z ∧ (wr.ownsRow (w.heap.size + 1) 5 1 v (k + 1 + j) (U8 (l ++ [128] ++ List.replicate j 0)) ∧ slLen v = k + 1 + j ∧ ∃ A c, v = .slice A (k + 1 + j) c) ∧ wr.there w.heap.size 0 32 ∧ Below w.heap.size w wr ∧ w.heap.size + 1 ≤ wr.heap.size) (fun v _ => k + 65 - slLen v)
      case atStart =>
        obtain ⟨A', c', rfl, _, _⟩ := Bs.of_own hown1
        exact ⟨0, by omega, ⟨by simpa using hown1, rfl, _, _, rfl⟩, hR1, hbel1, hsz2⟩
      case round =>
        clear hown1 hR1 hbel1 hsz2
        obtain ⟨j, hj, ⟨hown, hsl, A', c', rfl⟩, hR, hbel, hsz1⟩ := hrel
        have hsz := hbel.size
        have hzj := HZ.out j hj
        by_cases hlt : j = z
        · subst hlt
          have hm56 := Lib.hid (hzj.2 rfl)
          have hm : (((k : Int) + 1 + (j : Int)) % 64 != 56) = false := by
            have := hm56.out
            rw [show ((k : Int) + 1 + (j : Int)) % 64 = 56 by omega]; rfl
          have hKp := HZZ.out
          have ku : IntKind.u64.wrap ((k : Int) * 8) = (k : Int) * 8 := by rw [IntKind.wrap_u64]; omega
          clear hzj
          go_wp2
          clear hm
          have HMZ := Lib.hid (show k + 1 + j ≤ 65536 + 64 by omega)
          generalize hM : k + 1 + j = M at *
          have HME := Lib.hid hM
          clear hM
          go_loopw [3, 6] (fun v i wr => ∃ t : Nat, (t : Int) ≤ 8 ∧ i = .int .i64 (7 - (t : Int)) ∧ wr.ownsRow (w.heap.size + 1) 5 1 v (M + t) (U8 (l ++ [128] ++ List.replicate j 0 ++ (be8 (8 * k)).take t)) ∧ wr.there w.heap.size 0 32 ∧ Below w.heap.size w wr ∧ w.heap.size + 1 ≤ wr.heap.size) (fun _ i _ => (intOf i + 1).toNat)
          case atStart => exact ⟨0, by omega, rfl, by simpa using hown, hR, hbel, hsz1⟩
          case round =>
            clear hown hR hbel hsz1 hsz
            obtain ⟨t, ht, rfl, hown, hR, hbel, hsz1⟩ := hrel
            have hsz := hbel.size
            by_cases hlt : (t : Int) < 8
            · obtain ⟨q, hq⟩ : ∃ q : Nat, 7 - (t : Int) = (q : Int) := ⟨7 - t, by omega⟩
              have hq1 : (8 * (q : Int)).toNat = 8 * q := by omega
              have hq2 : IntKind.i64.wrap (8 * (q : Int)) = 8 * (q : Int) := by rw [IntKind.wrap_i64]; omega
              have hq3 : (0 : Int) ≤ 8 * (q : Int) := by omega
              have Hu := Lib.hid (be8_get (8 * k) t (by omega))
              have HQ := Lib.hid hq
              rw [hq]
              clear hq
              have hq4 : min (8 * q) 64 = 8 * q := by have := HQ.out; omega
              have hq5 : 7 - t = q := by have := HQ.out; omega
              rw [hq5] at Hu
              clear hq5
              go_wp2_with (at_builtin; refine wpList_append_bs _ rfl (.tmp 52) (.tmp 58) 26 rfl (w.heap.size + 1) 5 i0 Tryd.underlying26 hi0 hz0 hz1 hz2 _ (M + t) _ rfl (hown.alloc _) (wr.heap.size + 1) (some ⟨wr.heap.size, 0, none⟩) 1 1 [UInt8.ofNat (8 * k / 2 ^ (8 * q))] rfl (Bs.lit_ wr 5 _ (0, 0) [_] (by show [Value.int .u8 _] = _; rw [be_byte']; rfl)) (by have := HMZ.out; omega) (by simp; omega) ?_; intro v' w1 hown1 hgrow)
              rw [← U8_append, List.append_assoc, ← take_snoc8 Hu.out] at hown1
              go_roundw
              case rel => exact ⟨t + 1, by omega, by have := HQ.out; exact intEq (by omega), hown1, there_grown (World.there_alloc hR _) hgrow (by simp; omega) (own_ge hown), (hbel.alloc hsz _).grown hgrow (by simp; omega) (fun g hg => by have := own_ge hown g hg; omega), by have := hgrow.size; simp at this; omega⟩
              case measure => simp [intOf]
            · obtain rfl : t = 8 := by omega
              rw [show (7 - ((8 : Nat) : Int)) = -1 from rfl]
              rw [List.take_of_length_le (by simp [be8])] at hown
              obtain ⟨all, hall⟩ : ∃ all, l ++ [128] ++ List.replicate j 0 ++ be8 (8 * k) = all := ⟨_, rfl⟩
              rw [hall] at hown
              have hal : all.length = M + 8 := by rw [← hall]; have := HMZ.out; have := HME.out; have := hlen.out; simp [be8]; omega
              have hae : all = l ++ endOf l.length := by rw [← hall, hlen.out]; unfold endOf; rw [HZZ.out]; simp
              have h64 : (M + 8) % 64 = 0 := by have := hm56.out; have := HME.out; omega
              obtain ⟨Q, hQ⟩ : ∃ Q, M + 8 = 64 * Q := ⟨(M + 8) / 64, by omega⟩
              have HA := Lib.hid (And.intro hal (And.intro hae hQ))
              have hQi : (Q : Int) ≤ 2000 := by have := HMZ.out; omega
              rw [hQ] at hown
              obtain ⟨T, hT⟩ : ∃ T, 64 * Q = T := ⟨_, rfl⟩
              rw [hT] at hown
              have HT := Lib.hid hT
              have hTi : (T : Int) ≤ 128000 := by omega
              clear hT
              clear hall hal hae h64 hQ
              go_wp2
              obtain ⟨a0, cap, rfl, hcap, ha0, ha1, hal⟩ := own_at hown (by have := HA.out.2.2; have := HT.out; omega)
              have rs : RS w (wr.alloc (.cells h0lit 78)) a0 wr.heap.size T all H0.list := by
                have hx := alloc_below' wr (.cells h0lit 78)
                refine ⟨(hal.below hx).more hx.size, range_new_ wr _ _ h0_lit, there_new _ _ _ h0_size, there_below hR hx (by omega), range_below hK (hbel.trans (hx.mono hbel.size)) (by omega), hbel.trans (hx.mono hbel.size), ⟨ha1, by rw [alloc_size']; omega⟩, ha0, h0⟩
              clear hown hal hbel hR hsz1 hsz hsl hK
              generalize hH : wr.heap.size = H at *
              unfold h0lit at rs
              refine gen_world (F := fun W => Code.wp Tryd.prog _ _ _ W) (fun W => RS w W a0 H T all H0.list) rs ?_
              clear rs
              intro W rs
              go_loopw [8] (fun i wr => ∃ q f : Nat, Hid (f = 64 * q ∧ q ≤ Q) ∧ f ≤ T ∧ i = .int .i64 (f : Int) ∧ RS w wr a0 H T all (compN q H0 all).list) (fun i _ => T - (intOf i).toNat)
              case atStart => exact ⟨0, 0, ⟨by omega, by omega⟩, by omega, rfl, rs⟩
              case round =>
                clear rs
                obtain ⟨q, f, HF, hfT, rfl, rs⟩ := hrel
                by_cases hlt : (f : Int) < (T : Int)
                · have hf64 : f + 64 ≤ T := by have := HF.out; have := HT.out; omega
                  have hW := alloc_size' wr
                  go_wp2_with (first
                    | (refine wpList_build rfl 79 #[] rfl (by kernel_rfl) ?_; rw [zz_built])
                    | (refine wpList_store_mid rfl 79 (.tmp 9) (.tmp 67) rfl wr.heap.size 0 zz64 rfl rfl (by rw [zz_size]; exact there_new _ _ _ rfl) (by rw [size64, zz_size]) zz_one ?_))
                  refine gen_world (F := fun W => Code.wp Tryd.prog _ _ _ W) (fun W => RS w W a0 H T all (compN q H0 all).list ∧ H < wr.heap.size ∧ wr.heap.size < W.heap.size ∧ W.rangeAt wr.heap.size 0 (W32 (wl ((all.drop f).take 64) 0)) ∧ W.there wr.heap.size 0 64) ⟨?_, ?_, ?_, ?_, ?_⟩ ?_
                  · exact rs.below (below_setCells (alloc_below' wr _) (Nat.le_refl _) _ 0)
                  · exact rs.lt.2
                  · rw [size_setCells_, alloc_size']; omega
                  · exact World.rangeAt_setCells_same _ _ _ _ (by rw [show zz64.toList.length = 64 from zz_size]; exact there_new _ _ _ rfl)
                  · exact World.there_setCells (there_new _ _ _ rfl) _ _ _
                  clear rs hW
                  generalize hV : wr.heap.size = V at *
                  rintro W ⟨rs, hHV, hVW, hwr, hwt⟩
                  obtain ⟨st, hst⟩ : ∃ st, compN q H0 all = st := ⟨_, rfl⟩
                  obtain ⟨blk, hblk⟩ : ∃ blk, (all.drop f).take 64 = blk := ⟨_, rfl⟩
                  rw [hst] at rs
                  rw [hblk] at hwr
                  have HST := Lib.hid (And.intro hst hblk)
                  have HBT : Hid (∀ t : Nat, t < 64 → blk[t]? = all[f + t]?) := fun t ht => by
                    rw [← hblk, List.getElem?_take, if_pos ht, List.getElem?_drop]
                  clear hst hblk
                  go_loopw [10] (fun i wr => ∃ k : Nat, (k : Int) ≤ 64 ∧ i = .int .i64 k ∧ RS w wr a0 H T all st.list ∧ V < wr.heap.size ∧ wr.rangeAt V 0 (W32 (wl blk k)) ∧ wr.there V 0 64) (fun i _ => 64 - (intOf i).toNat)
                  case atStart => exact ⟨0, by omega, rfl, rs, hVW, hwr, hwt⟩
                  case round =>
                    clear rs hVW hwr hwt
                    obtain ⟨k, hk, rfl, rs, hVW, hwr, hwt⟩ := hrel
                    by_cases h64 : (k : Int) < 64
                    · by_cases h16 : (k : Int) < 16
                      · have hal := rs.al.len
                        obtain ⟨u0, hu0⟩ := byte_get (l := all) (k := f + 4 * k) (by omega)
                        obtain ⟨u1, hu1⟩ := byte_get (l := all) (k := f + 4 * k + 1) (by omega)
                        obtain ⟨u2, hu2⟩ := byte_get (l := all) (k := f + 4 * k + 2) (by omega)
                        obtain ⟨u3, hu3⟩ := byte_get (l := all) (k := f + 4 * k + 3) (by omega)
                        have hk0 := rs.al.at_ _ _ hu0
                        have hk1 := rs.al.at_ _ _ hu1
                        have hk2 := rs.al.at_ _ _ hu2
                        have hk3 := rs.al.at_ _ _ hu3
                        rw [Nat.zero_add] at hk0 hk1 hk2 hk3
                        have Hm := Lib.hid (show mw blk k = be32 u0 u1 u2 u3 by
                          unfold mw
                          simp only [List.getD_eq_getElem?_getD]
                          rw [HBT.out _ (by omega), HBT.out _ (by omega), HBT.out _ (by omega), HBT.out _ (by omega), ← Nat.add_assoc, ← Nat.add_assoc, ← Nat.add_assoc, hu0, hu1, hu2, hu3]
                          rfl)
                        obtain ⟨hc0, hf0⟩ := hwt k (by omega)
                        obtain ⟨v0, hv0⟩ := Option.isSome_iff_exists.1 hc0
                        rw [Nat.zero_add] at hv0 hf0
                        have e0 : IntKind.i64.wrap (4 * (k : Int)) = 4 * (k : Int) := IntWalk.i64_in _ (by omega)
                        have e1 : IntKind.i64.wrap ((f : Int) + 4 * (k : Int)) = (f : Int) + 4 * (k : Int) := IntWalk.i64_in _ (by omega)
                        have e2 : IntKind.i64.wrap ((f : Int) + 4 * (k : Int) + 1) = (f : Int) + 4 * (k : Int) + 1 := IntWalk.i64_in _ (by omega)
                        have e3 : IntKind.i64.wrap ((f : Int) + 4 * (k : Int) + 2) = (f : Int) + 4 * (k : Int) + 2 := IntWalk.i64_in _ (by omega)
                        have e4 : IntKind.i64.wrap ((f : Int) + 4 * (k : Int) + 3) = (f : Int) + 4 * (k : Int) + 3 := IntWalk.i64_in _ (by omega)
                        have f0 : ((f : Int) + 4 * (k : Int)).toNat = f + 4 * k := by omega
                        have f1 : ((f : Int) + 4 * (k : Int) + 1).toNat = f + 4 * k + 1 := by omega
                        have f2 : ((f : Int) + 4 * (k : Int) + 2).toNat = f + 4 * k + 2 := by omega
                        have f3 : ((f : Int) + 4 * (k : Int) + 3).toNat = f + 4 * k + 3 := by omega
                        have g0 : (f : Int) + 4 * (k : Int) < (T : Int) := by omega
                        have g1 : (f : Int) + 4 * (k : Int) + 1 < (T : Int) := by omega
                        have g2 : (f : Int) + 4 * (k : Int) + 2 < (T : Int) := by omega
                        have g3 : (f : Int) + 4 * (k : Int) + 3 < (T : Int) := by omega
                        have p0 : 0 ≤ (f : Int) + 4 * (k : Int) := by omega
                        have p1 : 0 ≤ (f : Int) + 4 * (k : Int) + 1 := by omega
                        have p2 : 0 ≤ (f : Int) + 4 * (k : Int) + 2 := by omega
                        have p3 : 0 ≤ (f : Int) + 4 * (k : Int) + 3 := by omega
                        clear hu0 hu1 hu2 hu3 hc0 hal
                        as_aux_lemma =>
                          go_wp2
                          go_still_tail 43, (by kernel_rfl)
                          have hck2 : World.cell? { heap := wr.heap, tape := wr.tape, drawn := wr.drawn + 1, os := wr.os, output := wr.output } ⟨V, k, none⟩ = some v0 := hv0
                          have hfr2 : World.frozen? { heap := wr.heap, tape := wr.tape, drawn := wr.drawn + 1, os := wr.os, output := wr.output } ⟨V, k, none⟩ = false := hf0
                          go_wp2
                          rw [sum_walk]
                          go_roundw
                          case rel =>
                            have hset := range_set hwr (by rw [W32_length, wl_length]; exact hwt) k (by rw [W32_length, wl_length]; omega) (.int .u32 ((be32 u0 u1 u2 u3).toNat : Int))
                            rw [Nat.zero_add] at hset
                            refine ⟨k + 1, by omega, by go_num, (rs.set V k _ hHV).below (drew_below' _ _), by simpa [World.setCell, World.drew] using hVW, ?_, there_set hwt _ _⟩
                            rw [wl, if_pos (by omega), Hm.out, W32_set]
                            exact hset
                          case measure => simp [intOf]; omega
                      · have word : ∀ j, j < 64 → wr.cell? ⟨V, j, none⟩ = some (.int .u32 (((wl blk k).getD j 0).toNat : Int)) := by
                          intro j hj
                          have := hwr j (.int .u32 (((wl blk k).getD j 0).toNat : Int)) (by rw [W32_get, List.getD_eq_getElem?_getD, List.getElem?_eq_getElem (by rw [wl_length]; exact hj)]; rfl)
                          rwa [Nat.zero_add] at this
                        have c16 := word (k - 16) (by omega)
                        have c15 := word (k - 15) (by omega)
                        have c7 := word (k - 7) (by omega)
                        have c2 := word (k - 2) (by omega)
                        have ck := word k (by omega)
                        have hfk := (hwt k (by omega)).2
                        rw [Nat.zero_add] at hfk
                        clear word
                        have Hn := Lib.hid (show nx (wl blk k) k = (wl blk k).getD (k - 16) 0 + sg0 ((wl blk k).getD (k - 15) 0) + (wl blk k).getD (k - 7) 0 + sg1 ((wl blk k).getD (k - 2) 0) from rfl)
                        generalize (wl blk k).getD (k - 16) 0 = x16 at *
                        generalize (wl blk k).getD (k - 15) 0 = x15 at *
                        generalize (wl blk k).getD (k - 7) 0 = x7 at *
                        generalize (wl blk k).getD (k - 2) 0 = x2 at *
                        generalize (wl blk k).getD k 0 = xk at *
                        have e16 : IntKind.i64.wrap ((k : Int) - 16) = (k : Int) - 16 := IntWalk.i64_in _ (by omega)
                        have e15 : IntKind.i64.wrap ((k : Int) - 15) = (k : Int) - 15 := IntWalk.i64_in _ (by omega)
                        have e7 : IntKind.i64.wrap ((k : Int) - 7) = (k : Int) - 7 := IntWalk.i64_in _ (by omega)
                        have e2 : IntKind.i64.wrap ((k : Int) - 2) = (k : Int) - 2 := IntWalk.i64_in _ (by omega)
                        have f16 : ((k : Int) - 16).toNat = k - 16 := by omega
                        have f15 : ((k : Int) - 15).toNat = k - 15 := by omega
                        have f7 : ((k : Int) - 7).toNat = k - 7 := by omega
                        have f2 : ((k : Int) - 2).toNat = k - 2 := by omega
                        have p16 : 0 ≤ (k : Int) - 16 := by omega
                        have p15 : 0 ≤ (k : Int) - 15 := by omega
                        have p7 : 0 ≤ (k : Int) - 7 := by omega
                        have p2 : 0 ≤ (k : Int) - 2 := by omega
                        have r16 : 16 ≤ (k : Int) := by omega
                        have r15 : 15 ≤ (k : Int) := by omega
                        have r7 : 7 ≤ (k : Int) := by omega
                        have r2 : 2 ≤ (k : Int) := by omega
                        have q16 : (k : Int) - 16 < 64 := by omega
                        have q15 : (k : Int) - 15 < 64 := by omega
                        have q7 : (k : Int) - 7 < 64 := by omega
                        have q2 : (k : Int) - 2 < 64 := by omega
                        have qk : (k : Int) < 64 := by omega
                        as_aux_lemma =>
                          go_wp2
                          go_quiet ((go_at_call 52; exact Calls.quiet_of (rturn_q _ _ (by decide) (by decide) _)))
                          obtain ⟨n1, rfl⟩ : ∃ n1 : Nat, n1 = nq := ⟨_, rfl⟩
                          go_wp2
                          rw [sg0_walk]
                          generalize hwq : wr.drewN n1 = wq
                          replace c16 : wq.cell? ⟨V, k - 16, none⟩ = some (.int .u32 (x16.toNat : Int)) := by rw [← hwq]; exact c16
                          replace c7 : wq.cell? ⟨V, k - 7, none⟩ = some (.int .u32 (x7.toNat : Int)) := by rw [← hwq]; exact c7
                          replace c2 : wq.cell? ⟨V, k - 2, none⟩ = some (.int .u32 (x2.toNat : Int)) := by rw [← hwq]; exact c2
                          replace ck : wq.cell? ⟨V, k, none⟩ = some (.int .u32 (xk.toNat : Int)) := by rw [← hwq]; exact ck
                          replace hfk : wq.frozen? ⟨V, k, none⟩ = false := by rw [← hwq]; exact hfk
                          replace hwr : wq.rangeAt V 0 (W32 (wl blk k)) := by rw [← hwq]; exact hwr
                          replace hwt : wq.there V 0 64 := by rw [← hwq]; exact hwt
                          replace rs : RS w wq a0 H T all st.list := by rw [← hwq]; exact rs.below (drewN_below _ _ _)
                          replace hVW : V < wq.heap.size := by rw [← hwq]; exact hVW
                          clear c15 hwq
                          go_quiet ((go_at_call 52; exact Calls.quiet_of (rturn_q _ _ (by decide) (by decide) _)))
                          go_wp2
                          rw [sg1_walk]
                          generalize hwq : wq.drewN nq = wz
                          replace c16 : wz.cell? ⟨V, k - 16, none⟩ = some (.int .u32 (x16.toNat : Int)) := by rw [← hwq]; exact c16
                          replace c7 : wz.cell? ⟨V, k - 7, none⟩ = some (.int .u32 (x7.toNat : Int)) := by rw [← hwq]; exact c7
                          replace ck : wz.cell? ⟨V, k, none⟩ = some (.int .u32 (xk.toNat : Int)) := by rw [← hwq]; exact ck
                          replace hfk : wz.frozen? ⟨V, k, none⟩ = false := by rw [← hwq]; exact hfk
                          replace hwr : wz.rangeAt V 0 (W32 (wl blk k)) := by rw [← hwq]; exact hwr
                          replace hwt : wz.there V 0 64 := by rw [← hwq]; exact hwt
                          replace rs : RS w wz a0 H T all st.list := by rw [← hwq]; exact rs.below (drewN_below _ _ _)
                          replace hVW : V < wz.heap.size := by rw [← hwq]; exact hVW
                          clear c2 hwq
                          go_still_tail 15, (by kernel_rfl)
                          have hck2 : World.cell? { heap := wz.heap, tape := wz.tape, drawn := wz.drawn + 1, os := wz.os, output := wz.output } ⟨V, k, none⟩ = some (.int .u32 (xk.toNat : Int)) := ck
                          have hfr2 : World.frozen? { heap := wz.heap, tape := wz.tape, drawn := wz.drawn + 1, os := wz.os, output := wz.output } ⟨V, k, none⟩ = false := hfk
                          go_wp2
                          rw [nx_walk]
                          go_roundw
                          case rel =>
                            have hset := range_set hwr (by rw [W32_length, wl_length]; exact hwt) k (by rw [W32_length, wl_length]; omega) (.int .u32 ((x16 + sg0 x15 + x7 + sg1 x2).toNat : Int))
                            rw [Nat.zero_add] at hset
                            refine ⟨k + 1, by omega, by go_num, (rs.set V k _ hHV).below (drew_below' _ _), by simpa [World.setCell, World.drew] using hVW, ?_, there_set hwt _ _⟩
                            rw [wl, if_neg (by omega), Hn.out, W32_set]
                            exact hset
                          case measure => simp [intOf]; omega
                    · obtain rfl : k = 64 := by omega
                      rw [show (((64 : Nat) : Int)) = 64 from rfl]
                      obtain ⟨ws, hws⟩ : ∃ ws, wl blk 64 = ws := ⟨_, rfl⟩
                      have hwl : ws.length = 64 := by rw [← hws, wl_length]
                      rw [hws] at hwr
                      have HWS := Lib.hid (And.intro hws hwl)
                      clear hws hwl hwt
                      have hW := alloc_size' wr
                      go_wp2_with (first
                        | (refine wpList_load_mid rfl 78 (.tmp 7) rfl H 0 rfl (W32 st.list) _ rs.hh Tryd.underlying78 rfl (by rw [size8, W32_length, S8.list_length]) ?_)
                        | (refine wpList_store_mid rfl 78 (.tmp 13) (.tmp 166) rfl wr.heap.size 0 (W32 st.list).toArray rfl rfl (by rw [show (W32 st.list).toArray.size = 8 from rfl]; exact there_new _ _ _ rfl) (by rw [size8]; rfl) (all_oneCell_toArray (W32_one _)) ?_))
                      refine gen_world (F := fun W => Code.wp Tryd.prog _ _ _ W) (fun W => RS w W a0 H T all st.list ∧ V < wr.heap.size ∧ wr.heap.size < W.heap.size ∧ W.rangeAt V 0 (W32 ws) ∧ W.rangeAt wr.heap.size 0 (W32 st.list) ∧ W.there wr.heap.size 0 8) ⟨?_, ?_, ?_, ?_, ?_, ?_⟩ ?_
                      · exact rs.below (below_setCells (alloc_below' wr _) (Nat.le_refl _) _ 0)
                      · exact hVW
                      · rw [size_setCells_, alloc_size']; omega
                      · exact range_below hwr (below_setCells (alloc_below' wr _) (Nat.le_refl _) _ 0) hVW
                      · exact World.rangeAt_setCells_same _ _ _ _ (there_new _ _ _ rfl)
                      · exact World.there_setCells (there_new _ _ _ rfl) _ _ _
                      clear rs hW hwr hVW
                      generalize hS : wr.heap.size = S at *
                      rintro W ⟨rs, hVS, hSW, hwr, hsr, hst⟩
                      go_loopw [14] (fun i wr => ∃ k : Nat, (k : Int) ≤ 64 ∧ i = .int .i64 k ∧ (∃ r : S8, Hid (r = rn ws st k) ∧ wr.rangeAt S 0 (W32 r.list)) ∧ RS w wr a0 H T all st.list ∧ S < wr.heap.size ∧ wr.rangeAt V 0 (W32 ws) ∧ wr.there S 0 8) (fun i _ => 64 - (intOf i).toNat)
                      case atStart => exact ⟨0, by omega, rfl, ⟨st, rfl, hsr⟩, rs, hSW, hwr, hst⟩
                      case round =>
                        clear rs hSW hwr hst hsr
                        obtain ⟨k, hk, rfl, ⟨r, hr, hsr⟩, rs, hSW, hwr, hst⟩ := hrel
                        by_cases h64 : (k : Int) < 64
                        · obtain ⟨xk, hxk⟩ : ∃ x, x = KS.getD k 0 := ⟨_, rfl⟩
                          obtain ⟨xw, hxw⟩ : ∃ x, x = ws.getD k 0 := ⟨_, rfl⟩
                          have ck : wr.cell? ⟨0, k, none⟩ = some (.int .u32 (xk.toNat : Int)) := by
                            have := rs.ks k (.int .u32 (xk.toNat : Int)) (by rw [W32_get, hxk, List.getD_eq_getElem?_getD, List.getElem?_eq_getElem (by rw [KS_length]; omega)]; rfl)
                            rwa [Nat.zero_add] at this
                          have cw : wr.cell? ⟨V, k, none⟩ = some (.int .u32 (xw.toNat : Int)) := by
                            have := hwr k (.int .u32 (xw.toNat : Int)) (by rw [W32_get, hxw, List.getD_eq_getElem?_getD, List.getElem?_eq_getElem (by rw [HWS.out.2]; omega)]; rfl)
                            rwa [Nat.zero_add] at this
                          have Hst : Hid (rstep r xk xw = rn ws st (k + 1)) := by
                            show rstep r xk xw = _
                            rw [rn, hr.out, hxk, hxw]
                          clear hxk hxw
                          obtain ⟨s0, s1, s2, s3, s4, s5, s6, s7⟩ := eight hsr
                          go_wp2
                          go_quiet ((go_at_call 52; exact Calls.quiet_of (rturn_q _ _ (by decide) (by decide) _)))
                          obtain ⟨n1, rfl⟩ : ∃ n1 : Nat, n1 = nq := ⟨_, rfl⟩
                          go_wp2
                          rw [bs1_walk, ch_walk', sum5, show r.h + bs1 r.e + ch r.e r.f r.g + xk + xw = t1 r xk xw from rfl]
                          generalize hwq : wr.drewN n1 = wq
                          replace hsr : wq.rangeAt S 0 (W32 r.list) := by rw [← hwq]; exact hsr
                          replace hwr : wq.rangeAt V 0 (W32 ws) := by rw [← hwq]; exact hwr
                          replace hst : wq.there S 0 8 := by rw [← hwq]; exact hst
                          replace rs : RS w wq a0 H T all st.list := by rw [← hwq]; exact rs.below (drewN_below _ _ _)
                          replace hSW : S < wq.heap.size := by rw [← hwq]; exact hSW
                          clear s0 s1 s2 s3 s4 s5 s6 s7 ck cw hwq
                          obtain ⟨s0, s1, s2, s3, s4, s5, s6, s7⟩ := eight hsr
                          go_quiet ((go_at_call 52; exact Calls.quiet_of (rturn_q _ _ (by decide) (by decide) _)))
                          generalize hwq : wq.drewN nq = wz
                          replace hsr : wz.rangeAt S 0 (W32 r.list) := by rw [← hwq]; exact hsr
                          replace hwr : wz.rangeAt V 0 (W32 ws) := by rw [← hwq]; exact hwr
                          replace hst : wz.there S 0 8 := by rw [← hwq]; exact hst
                          replace rs : RS w wz a0 H T all st.list := by rw [← hwq]; exact rs.below (drewN_below _ _ _)
                          replace hSW : S < wz.heap.size := by rw [← hwq]; exact hSW
                          clear s0 s1 s2 s3 s4 s5 s6 s7 hwq
                          obtain ⟨s0, s1, s2, s3, s4, s5, s6, s7⟩ := eight hsr
                          have hff : ∀ j, j < 8 → wz.frozen? ⟨S, j, none⟩ = false := fun j hj => by
                            have := (hst j hj).2
                            rwa [Nat.zero_add] at this
                          have f0 := hff 0 (by decide)
                          have f1 := hff 1 (by decide)
                          have f2 := hff 2 (by decide)
                          have f3 := hff 3 (by decide)
                          have f4 := hff 4 (by decide)
                          have f5 := hff 5 (by decide)
                          have f6 := hff 6 (by decide)
                          have f7 := hff 7 (by decide)
                          clear hff
                          have hO : Only wz.heap.size S wz (wz.setCells S 0 (W32 (rstep r xk xw).list)) := (Only.refl _ S wz).setCells _ 0
                          have key := Lib.hid (show ∀ W' : World, W' = wz.setCells S 0 (W32 (rstep r xk xw).list) → (∃ r' : S8, Hid (r' = rn ws st (k + 1)) ∧ W'.rangeAt S 0 (W32 r'.list)) ∧ RS w W' a0 H T all st.list ∧ S < W'.heap.size ∧ W'.rangeAt V 0 (W32 ws) ∧ W'.there S 0 8 by
                            rintro _ rfl
                            exact ⟨⟨rstep r xk xw, Hst, World.rangeAt_setCells_same _ _ _ _ hst⟩, rs.only hO (by omega), by rw [size_setCells_]; exact hSW, hO.range hwr (by omega) (by omega), World.there_setCells hst _ _ _⟩)
                          clear hO hsr hwr hst rs hSW
                          go_wp2
                          rw [bs0_walk, maj_walk, add3, add32]
                          go_roundw
                          case rel => exact ⟨k + 1, by omega, by go_num, key.out _ rfl⟩
                          case measure => simp [intOf]; omega
                        · obtain rfl : k = 64 := by omega
                          rw [show (((64 : Nat) : Int)) = 64 from rfl]
                          clear hst
                          as_aux_lemma =>
                            go_wp2
                            go_loopw [17] (fun i wr => ∃ k : Nat, (k : Int) ≤ 8 ∧ i = .int .i64 k ∧ RS w wr a0 H T all (addTo st.list r.list k) ∧ S < wr.heap.size ∧ wr.rangeAt S 0 (W32 r.list)) (fun i _ => 8 - (intOf i).toNat)
                            case atStart => exact ⟨0, by omega, rfl, rs, hSW, hsr⟩
                            case round =>
                              clear rs hSW hsr hwr
                              obtain ⟨k, hk, rfl, rs, hSW, hsr⟩ := hrel
                              by_cases h8 : (k : Int) < 8
                              · obtain ⟨x, hx⟩ : ∃ x, st.list[k]? = some x := ⟨_, List.getElem?_eq_getElem (by rw [S8.list_length]; omega)⟩
                                obtain ⟨y, hy⟩ : ∃ y, r.list[k]? = some y := ⟨_, List.getElem?_eq_getElem (by rw [S8.list_length]; omega)⟩
                                have ck : wr.cell? ⟨H, k, none⟩ = some (.int .u32 (x.toNat : Int)) := by
                                  have := rs.hh k (.int .u32 (x.toNat : Int)) (by rw [W32_get, addTo_get _ _ _ _ (Nat.le_refl _), hx]; rfl)
                                  rwa [Nat.zero_add] at this
                                have cs : wr.cell? ⟨S, k, none⟩ = some (.int .u32 (y.toNat : Int)) := by
                                  have := hsr k (.int .u32 (y.toNat : Int)) (by rw [W32_get, hy]; rfl)
                                  rwa [Nat.zero_add] at this
                                have hfk := (rs.ht k (by omega)).2
                                rw [Nat.zero_add] at hfk
                                have Hset : Hid (addTo st.list r.list (k + 1) = (addTo st.list r.list k).set k (x + y)) := by
                                  show addTo st.list r.list (k + 1) = _
                                  rw [addTo, List.getD_eq_getElem?_getD, List.getD_eq_getElem?_getD, hx, hy]; rfl
                                clear hx hy
                                go_wp2
                                go_still_tail 9, (by kernel_rfl)
                                have hck2 : World.cell? { heap := wr.heap, tape := wr.tape, drawn := wr.drawn + 1, os := wr.os, output := wr.output } ⟨H, k, none⟩ = some (.int .u32 (x.toNat : Int)) := ck
                                have hfr2 : World.frozen? { heap := wr.heap, tape := wr.tape, drawn := wr.drawn + 1, os := wr.os, output := wr.output } ⟨H, k, none⟩ = false := hfk
                                go_wp2
                                rw [add32]
                                go_roundw
                                case rel => exact ⟨k + 1, by omega, by go_num, by rw [Hset.out]; exact (rs.seth k (x + y) (by rw [addTo_length, S8.list_length]; omega) (by rw [addTo_length, S8.list_length])).below (drew_below' _ _), by simpa [World.setCell, World.drew] using hSW, fun j v hj => (World.cell?_setCell_other _ _ _ _ (by intro e; injection e; have := rs.lt; omega)).trans (hsr j v hj)⟩
                                case measure => simp [intOf]; omega
                              · obtain rfl : k = 8 := by omega
                                have hmx : addTo st.list r.list 8 = (mixed st blk).list := by
                                  rw [add8, hr.out, ← HWS.out.1]; rfl
                                rw [hmx] at rs
                                clear hmx
                                have hfw : IntKind.i64.wrap ((f : Int) + 64) = ((f + 64 : Nat) : Int) := by rw [IntKind.wrap_i64]; omega
                                go_wp2
                                go_roundw
                                case rel => exact ⟨q + 1, f + 64, ⟨by have := HF.out; omega, by have := HF.out; have := HT.out; omega⟩, by omega, by go_num, by
                                  rw [compN_snoc, HST.out.1, ← HF.out.1, HST.out.2]; exact rs⟩
                                case measure => simp [intOf]; omega
                · obtain rfl : f = T := by omega
                  have hqQ : q = Q := by have := HF.out; have := HT.out; omega
                  subst hqQ
                  have hso : compN q H0 all = stOf (l ++ endOf l.length) := by
                    rw [← HA.out.2.1]
                    unfold stOf
                    rw [HA.out.1, HA.out.2.2, Nat.mul_div_cancel_left _ (by decide)]
                  rw [hso] at rs
                  have Hs : Hid (shaOf l = dig (stOf (l ++ endOf l.length))) := rfl
                  clear hso
                  generalize hstt : stOf (l ++ endOf l.length) = st at Hs rs
                  clear hstt
                  as_aux_lemma =>
                    have hW := alloc_size' wr
                    go_wp2_with (first
                      | (refine wpList_build rfl 23 #[] rfl (by kernel_rfl) ?_; rw [zz32_built])
                      | (refine wpList_store_mid rfl 23 (.tmp 18) (.tmp 268) rfl wr.heap.size 0 zz32 rfl rfl (by rw [zz32_size]; exact there_new _ _ _ rfl) (by rw [size25, zz32_size]) zz32_one ?_))
                    refine gen_world (F := fun W => Code.wp Tryd.prog _ _ _ W) (fun W => RS w W a0 H f all st.list ∧ H < wr.heap.size ∧ wr.heap.size < W.heap.size ∧ W.there wr.heap.size 0 32) ⟨?_, ?_, ?_, ?_⟩ ?_
                    · exact rs.below (below_setCells (alloc_below' wr _) (Nat.le_refl _) _ 0)
                    · exact rs.lt.2
                    · rw [size_setCells_, alloc_size']; omega
                    · exact World.there_setCells (there_new _ _ _ rfl) _ _ _
                    clear rs hW
                    generalize hO : wr.heap.size = O at *
                    rintro W ⟨rs, hHO, hOW, hot⟩
                    go_loopw [19] (fun i wr => ∃ k : Nat, (k : Int) ≤ 32 ∧ i = .int .i64 k ∧ RS w wr a0 H f all st.list ∧ O < wr.heap.size ∧ wr.rangeAt O 0 (U8 ((dig st).take k)) ∧ wr.there O 0 32) (fun i _ => 32 - (intOf i).toNat)
                    case atStart => exact ⟨0, by omega, rfl, rs, hOW, (fun j v hj => by simp [U8] at hj), hot⟩
                    case round =>
                      clear rs hOW hot
                      obtain ⟨k, hk, rfl, rs, hOW, hor, hot⟩ := hrel
                      by_cases h32 : (k : Int) < 32
                      · obtain ⟨x, hx, hd⟩ := dig_get st k (by omega)
                        obtain ⟨d, hd4⟩ : ∃ d : Nat, k / 4 = d := ⟨_, rfl⟩
                        obtain ⟨e, he4⟩ : ∃ e : Nat, 24 - 8 * (k % 4) = e := ⟨_, rfl⟩
                        rw [hd4] at hx
                        rw [he4] at hd
                        have ck : wr.cell? ⟨H, d, none⟩ = some (.int .u32 (x.toNat : Int)) := by
                          have := rs.hh d (.int .u32 (x.toNat : Int)) (by rw [W32_get, hx]; rfl)
                          rwa [Nat.zero_add] at this
                        obtain ⟨hc0, hf0⟩ := hot k (by omega)
                        obtain ⟨v0, hv0⟩ := Option.isSome_iff_exists.1 hc0
                        rw [Nat.zero_add] at hv0 hf0
                        have q1 : (k : Int) / 4 = (d : Int) := by omega
                        have q2 : (k : Int).tdiv 4 = (d : Int) := by rw [← hd4]; rfl
                        have q3 : 24 - 8 * ((k : Int) % 4) = (e : Int) := by omega
                        have q5 : (d : Int) < 8 := by omega
                        have HD := Lib.hid hd
                        clear hd hx hc0 hd4 he4
                        go_wp2
                        rw [byte_pow]
                        go_roundw
                        case rel =>
                          refine ⟨k + 1, by omega, by go_num, rs.set O k _ hHO, by simpa [World.setCell] using hOW, ?_, there_set hot _ _⟩
                          rw [take_snoc8 HD.out, U8_append]
                          refine range_append (fun j u hj => (World.cell?_setCell_other _ _ _ _ (by
                            intro e
                            injection e
                            have := (List.getElem?_eq_some_iff.1 hj).1
                            rw [U8_length, List.length_take] at this
                            omega)).trans (hor j u hj)) ?_
                          rw [U8_length, List.length_take, dig_length, Nat.min_eq_left (by omega), Nat.zero_add]
                          intro j u hj
                          match j, hj with
                          | 0, hj =>
                            obtain rfl := Option.some.inj hj
                            exact World.cell?_setCell_same _ _ _ hv0
                        case measure => simp [intOf]; omega
                      · obtain rfl : k = 32 := by omega
                        rw [List.take_of_length_le (by rw [dig_length]; decide), ← Hs.out] at hor
                        have hRt := rs.rt
                        go_wp2_with (first
                          | (refine wpList_load_mid rfl 23 (.tmp 18) rfl O 0 rfl (U8 (shaOf l)) _ hor Tryd.underlying23 rfl (by rw [size25, U8_length, shaOf_length]) ?_)
                          | (refine wpList_store_mid rfl 23 (.tmp 2) (.tmp 285) rfl w.heap.size 0 (U8 (shaOf l)).toArray rfl rfl (by simpa [U8_length, shaOf_length] using hRt) (by rw [size25]; simp [U8_length, shaOf_length]) (all_oneCell_toArray (U8_one _)) ?_))
                        refine bodyPost_ret (results_cell_mid Tryd.results37 _ _ w.heap.size 0 (U8 (shaOf l)) _ rfl ?_ Tryd.underlying23 rfl (by rw [size25, U8_length, shaOf_length])) rfl ?_
                        · exact World.rangeAt_setCells_same _ _ _ _ (by simpa [U8_length, shaOf_length] using hRt)
                        · exact ⟨rfl, below_setCells rs.be (Nat.le_refl _) _ 0⟩
        · have hm : ((((k + 1 + j : Nat) : Int) % 64) != 56) = true := by
            have : ¬ (k + 1 + j) % 64 = 56 := fun e => hlt (hzj.1 e)
            rw [bne_iff_ne]
            omega
          have hjz : j + 1 ≤ z := by omega
          clear hzj
          go_wp2_with (at_builtin; refine wpList_append_bs _ rfl (.tmp 41) (.tmp 42) 26 rfl (w.heap.size + 1) 5 i0 Tryd.underlying26 hi0 hz0 hz1 hz2 _ (k + 1 + j) _ rfl (hown.alloc _) (wr.heap.size + 1) (some ⟨wr.heap.size, 0, none⟩) 1 _ [0] rfl (Bs.new_ wr 5 [0] (0, 0)) (by omega) (by simp; omega) ?_; intro v' w1 hown1 hgrow)
          rw [← U8_append, List.append_assoc, ← List.replicate_succ'] at hown1
          obtain ⟨A2, c2, rfl, _, _⟩ := Bs.of_own hown1
          go_roundw
          case rel => exact ⟨j + 1, hjz, ⟨hown1, rfl, _, _, rfl⟩, there_grown (World.there_alloc hR _) hgrow (by simp; omega) (own_ge hown), (hbel.alloc hsz _).grown hgrow (by simp; omega) (fun g hg => by have := own_ge hown g hg; omega), by have := hgrow.size; simp at this; omega⟩
          case measure =>
            show k + 65 - (k + 1 + j + 1) < k + 65 - (k + 1 + j)
            omega
end Go.Proofs.YtiieianbmldnbaaDoor
