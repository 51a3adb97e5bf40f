/-
  The digest of what was written.
-/
import Derived.Test.YtiieianbmldnbaaDoorShaWrite
import Derived.Test.YtiieianbmldnbaaDoorShaMade
import Derived.Test.YtiieianbmldnbaaDoorShaEnd
namespace Go.Proofs.YtiieianbmldnbaaDoor
open Go.RowKit
set_option maxRecDepth 100000
/-- A word in four bytes, the great end first. -/
def be4 (x : BitVec 32) : List UInt8 := [UInt8.ofNat (x.toNat / 16777216), UInt8.ofNat (x.toNat / 65536), UInt8.ofNat (x.toNat / 256), UInt8.ofNat x.toNat]
/-- Eight words as bytes. -/
def dig (s : S8) : List UInt8 := s.list.flatMap be4
/-- The digest of bytes. -/
def shaOf (l : List UInt8) : List UInt8 := dig (stOf (l ++ endOf l.length))
theorem dig_length (s : S8) : (dig s).length = 32 := rfl
theorem shaOf_length (l : List UInt8) : (shaOf l).length = 32 := rfl
theorem flat4_take : ∀ (L : List (BitVec 32)) (k : Nat) (x : BitVec 32), L[k]? = some x → (L.flatMap be4).take (4 * (k + 1)) = (L.flatMap be4).take (4 * k) ++ be4 x
  | [], k, x, h => by simp at h
  | y :: L, 0, x, h => by
    obtain rfl : y = x := by simpa using h
    rfl
  | y :: L, k + 1, x, h => by
    have ih := flat4_take L k x (by simpa using h)
    have h4 : (be4 y).length = 4 := rfl
    have e : ∀ m, (be4 y ++ L.flatMap be4).take (4 * (m + 1)) = be4 y ++ (L.flatMap be4).take (4 * m) := fun m => by
      rw [show 4 * (m + 1) = (be4 y).length + 4 * m by rw [h4]; omega]
      exact List.take_length_add_append ..
    rw [List.flatMap_cons, e, e, ih, List.append_assoc]
theorem dig_take (s : S8) (k : Nat) (x : BitVec 32) (h : s.list[k]? = some x) : (dig s).take (4 * (k + 1)) = (dig s).take (4 * k) ++ be4 x := flat4_take _ _ _ h
theorem byte_walk (n d : Nat) : (n : Int) / (d : Int) % 256 = ((UInt8.ofNat (n / d)).toNat : Int) := by
  rw [UInt8.toNat_ofNat', show (2 : Nat) ^ 8 = 256 from rfl, Int.natCast_emod, Int.natCast_ediv]; rfl
theorem be4_walk (x : BitVec 32) : U8 (be4 x) = [.int .u8 ((x.toNat : Int) / 16777216), .int .u8 ((x.toNat : Int) / 65536 % 256), .int .u8 ((x.toNat : Int) / 256 % 256), .int .u8 ((x.toNat : Int) % 256)] := by
  have h1 := byte_walk x.toNat 16777216
  have h2 := byte_walk x.toNat 65536
  have h3 := byte_walk x.toNat 256
  have h4 : ((x.toNat : Int) % 256) = ((UInt8.ofNat x.toNat).toNat : Int) := by
    rw [UInt8.toNat_ofNat', show (2 : Nat) ^ 8 = 256 from rfl, Int.natCast_emod]; rfl
  rw [show ((16777216 : Nat) : Int) = 16777216 from rfl] at h1
  rw [show ((65536 : Nat) : Int) = 65536 from rfl] at h2
  rw [show ((256 : Nat) : Int) = 256 from rfl] at h3
  rw [show (x.toNat : Int) / 16777216 = (x.toNat : Int) / 16777216 % 256 by have := x.isLt; omega, h1, h2, h3, h4]; rfl
theorem size25 : (Tryd.prog.info? 23).map (·.size) = some 32 := by kernel_rfl
theorem hash_below {B g : Nat} {w w' : World} {l : List UInt8} (h : HashAt w g l) (hb : Below B w w') (hg : g < B) : HashAt w' g l :=
  ⟨range_below h.words hb hg, range_below h.rest hb hg, (hb.cell (p := ⟨g, 72, none⟩) hg).trans h.len, t73_below h.there hb hg⟩
theorem off_of_own {w : World} {base n c g : Nat} {e : TypeId} {xs : List Value} {A : Option Addr} (h : w.ownsRow base e 1 (.slice A n c) n xs) (hg : g < base) : Off g A := fun a ha => by
  subst ha
  have := own_ge h a.block rfl
  omega
theorem Only.there {B g b o n : Nat} {w w' : World} (h : Only B g w w') (ht : w.there b o n) (hb : b < B) (hg : b ≠ g) : w'.there b o n :=
  fun j hj => by
    obtain ⟨h1, h2⟩ := ht j hj
    exact ⟨by rw [h.cell (p := ⟨b, o + j, none⟩) hb hg]; exact h1, by rw [World.frozen?_of_block (w := w) (a := ⟨b, o + j, none⟩) (h.block b hb hg)]; exact h2⟩
theorem Only.toBelow {B B' g : Nat} {w w' : World} (h : Only B g w w') (hB : B' ≤ B) (hg : B' ≤ g) : Below B' w w' :=
  ⟨h.os, h.tape, h.output, h.size, fun k hk => h.block k (by omega) (by omega)⟩
set_option maxRecDepth 100000 in
set_option maxHeartbeats 1600000 in
theorem hsum_any (w : World) (g : Nat) (l : List UInt8) (hh : HashAt w g l) (hgs : g < w.heap.size) (h1 : 1 < w.heap.size) (hK : w.rangeAt 1 0 (W32 KS)) (hN : l.length ≤ 900000) :
    Calls Tryd.prog 51 #[.pointer (some ⟨g, 0, none⟩)] w fun e w' => e = .returned (.agg (U8 (shaOf l)).toArray) ∧ Below w.heap.size w w' := by
  have hlen := hh.len
  obtain ⟨R, x, hR, hx, hr⟩ := row_of_hash hh
  generalize hrow : row73 l R = row at hr
  have hl : row.length = 73 := by rw [← hrow]; exact row73_length l R hR
  have ho1 : ∀ v ∈ row, v.oneCell' = true := by rw [← hrow]; exact row73_one l R
  have hl2 : row.toArray.size = 73 := by simp [hl]
  have Hrow := Lib.hid hrow
  clear hrow hh
  go_enter Tryd.func51, Tryd.ntmps51
  go_wp2_with (first
    | (refine wpList_load_mid rfl 88 (.tmp 8) rfl g 0 rfl row _ (range_below hr ((Below.refl _ w).alloc (Nat.le_refl _) _) hgs) Tryd.underlying88 rfl (by rw [size57, hl]) ?_)
    | (refine wpList_store_mid rfl 88 (.tmp 3) (.tmp 9) rfl (w.heap.size + 1) 0 row.toArray rfl rfl (by rw [hl2]; exact there_new1 _ _ _ _ (by kernel_rfl)) (by rw [size57, hl2]) (all_oneCell_toArray ho1) ?_
       refine gen_world (F := fun W => wpList Tryd.prog _ _ _ _ W) (fun W => HashAt W (w.heap.size + 1) l ∧ W.there w.heap.size 0 32 ∧ Below w.heap.size w W ∧ W.heap.size = w.heap.size + 2) ⟨by
           refine hash_of_row R x hR hx ?_ (World.there_setCells (there_new1 _ _ _ _ (by kernel_rfl)) _ _ _)
           rw [Hrow.out]
           exact World.rangeAt_setCells_same _ _ _ _ (by rw [hl]; exact there_new1 _ _ _ _ (by kernel_rfl)),
         World.there_setCells (there_new0 _ _ _ _ rfl) _ _ _, below_setCells (((Below.refl _ w).alloc (Nat.le_refl _) _).alloc (by simp) _) (by omega) _ _, by rw [size_setCells_]; simp⟩ ?_
       rintro wA ⟨hhA, htA, hbA, hsA⟩
       have hK2 := range_below hK hbA h1
       have hlenA := (hbA.cell (p := ⟨g, 72, none⟩) hgs).trans hlen
       clear hr)
    | (go_at_call 58; refine (ending_any wA l.length (by omega)).mono ?_; rintro e wB ⟨v, rfl, hown, hbB⟩; obtain ⟨A, c, rfl, hc, hbs⟩ := Bs.of_own hown; clear hlenA)
    | (go_at_call 50; refine (write_any (w.heap.size + 1) l (endOf l.length) A _ c wB wB.heap.size (hash_below hhA hbB (by omega)) hbs (fun _ => off_of_own hown (by omega)) (Nat.le_refl _) hc (by omega) (by have := hbB.size; omega) (by have := hbB.size; omega) (range_below hK2 hbB (by omega)) (by rw [endOf_length]; unfold zerosOf; omega) (by omega)).mono ?_; rintro e wC ⟨rfl, hhC, hoC⟩)
    | refine wpList_load_mid rfl 78 (.tmp 16) rfl (w.heap.size + 1) 0 rfl (W32 (stOf (l ++ endOf l.length)).list) _ (range_below hhC.words ((Below.refl _ wC).alloc (Nat.le_refl _) _) (by have := hoC.size; have := hbB.size; omega)) Tryd.underlying78 rfl (by rw [size8, W32_length, S8.list_length]) ?_)
  have hsB := hbB.size
  have hsC := hoC.size
  have htC : wC.there w.heap.size 0 32 := hoC.there (there_below htA hbB (by omega)) (by omega) (by omega)
  have hbC : Below w.heap.size w wC := (hbA.trans (hbB.mono (by omega))).trans (hoC.toBelow (by omega) (by omega))
  have Hs : Hid (shaOf l = dig (stOf (l ++ endOf l.length))) := rfl
  clear hK hK2 hlen hhA htA hbA hhC hoC hbs hown hbB hc hl ho1 hl2 Hrow
  generalize hst : stOf (l ++ endOf l.length) = s at Hs ⊢
  clear hst
  rw [show (W32 s.list).toArray = #[.int .u32 (s.a.toNat : Int), .int .u32 (s.b.toNat : Int), .int .u32 (s.c.toNat : Int), .int .u32 (s.d.toNat : Int), .int .u32 (s.e.toNat : Int), .int .u32 (s.f.toNat : Int), .int .u32 (s.g.toNat : Int), .int .u32 (s.h.toNat : Int)] from rfl]
  go_loopw [18] (fun i wr => ∃ k : Nat, (k : Int) ≤ 8 ∧ i = .int .i64 k ∧ wr.rangeAt wC.heap.size 0 (U8 ((dig s).take (4 * k))) ∧ wr.there wC.heap.size 0 32 ∧ wr.there w.heap.size 0 32 ∧ Below w.heap.size w wr) (fun i _ => 8 - (intOf i).toNat)
  case atStart => exact ⟨0, by omega, rfl, (fun j v hj => by simp [U8] at hj), there_new _ _ _ rfl, there_below htC ((Below.refl _ wC).alloc (Nat.le_refl _) _) (by omega), hbC.alloc (by omega) _⟩
  case round =>
    clear htC hbC
    obtain ⟨k, hk, rfl, hD, hDt, hRt, hbel⟩ := hrel
    by_cases hlt : (k : Int) < 8
    · obtain ⟨x, hx⟩ : ∃ x, s.list[k]? = some x := ⟨_, List.getElem?_eq_getElem (by rw [S8.list_length]; omega)⟩
      obtain ⟨i0, hi0, _, hi1, _⟩ := info_parts info_u32
      have hix := fun w => run_index_arr (P := Tryd.prog) w 78 22 8 (W32 s.list).toArray i0 .u32 k (.int .u32 (x.toNat : Int)) Tryd.underlying78 (by omega) hi0 hi1 Tryd.underlying22 (by rw [List.getElem?_toArray, W32_get, hx]; rfl)
      rw [show (W32 s.list).toArray = #[.int .u32 (s.a.toNat : Int), .int .u32 (s.b.toNat : Int), .int .u32 (s.c.toNat : Int), .int .u32 (s.d.toNat : Int), .int .u32 (s.e.toNat : Int), .int .u32 (s.f.toNat : Int), .int .u32 (s.g.toNat : Int), .int .u32 (s.h.toNat : Int)] from rfl] at hix
      have Hx := Lib.hid hx
      clear hx hi0 hi1
      have cells : ∀ j, j < 32 → (∃ v, wr.cell? ⟨wC.heap.size, j, none⟩ = some v) ∧ wr.frozen? ⟨wC.heap.size, j, none⟩ = false := fun j hj => by
        have := hDt j hj
        rw [Nat.zero_add] at this
        exact ⟨Option.isSome_iff_exists.1 this.1, this.2⟩
      obtain ⟨⟨v0, c0⟩, f0⟩ := cells (4 * k) (by omega)
      obtain ⟨⟨v1, c1⟩, f1⟩ := cells (4 * k + 1) (by omega)
      obtain ⟨⟨v2, c2⟩, f2⟩ := cells (4 * k + 2) (by omega)
      obtain ⟨⟨v3, c3⟩, f3⟩ := cells (4 * k + 3) (by omega)
      clear cells
      have q0 : 4 * (k : Int) < 32 := by omega
      have q1 : 4 * (k : Int) + 1 < 32 := by omega
      have q2 : 4 * (k : Int) + 2 < 32 := by omega
      have q3 : 4 * (k : Int) + 3 < 32 := by omega
      go_wp2
      go_roundw
      case rel =>
        have hlen4 : ((dig s).take (4 * k)).length = 4 * k := by rw [List.length_take, dig_length]; omega
        have key : (wr.setCells wC.heap.size (4 * k) (U8 (be4 x))).rangeAt wC.heap.size 0 (U8 ((dig s).take (4 * (k + 1)))) := by
          rw [dig_take s k x Hx.out, U8_append]
          refine range_append (World.rangeAt_setCells_apart hD _ _ _ (Or.inr (Or.inl (by rw [U8_length, hlen4]; omega)))) ?_
          rw [U8_length, hlen4, Nat.zero_add]
          exact World.rangeAt_setCells_same _ _ _ _ (fun j hj => by
            rw [show 4 * k + j = 0 + (4 * k + j) by omega]; exact hDt (4 * k + j) (by rw [U8_length] at hj; have : (be4 x).length = 4 := rfl; omega))
        have kt : (wr.setCells wC.heap.size (4 * k) (U8 (be4 x))).there wC.heap.size 0 32 := World.there_setCells hDt _ _ _
        have kr : (wr.setCells wC.heap.size (4 * k) (U8 (be4 x))).there w.heap.size 0 32 := World.there_setCells hRt _ _ _
        have kb : Below w.heap.size w (wr.setCells wC.heap.size (4 * k) (U8 (be4 x))) := below_setCells hbel (by omega) _ _
        rw [be4_walk] at key kt kr kb
        exact ⟨k + 1, by omega, by go_num, key, kt, kr, kb⟩
      case measure => simp [intOf]; omega
    · obtain rfl : k = 8 := by omega
      rw [List.take_of_length_le (by rw [dig_length]; decide), ← Hs.out] at hD
      go_wp2_with (first
        | (refine wpList_load_mid rfl 23 (.tmp 4) rfl wC.heap.size 0 rfl (U8 (shaOf l)) _ hD Tryd.underlying23 rfl (by rw [size25, U8_length, shaOf_length]) ?_)
        | (refine wpList_store_mid rfl 23 (.tmp 2) (.tmp 49) rfl w.heap.size 0 (U8 (shaOf l)).toArray rfl rfl (by simpa [U8_length, shaOf_length] using hRt) (by rw [size25]; simp [U8_length, shaOf_length]) (all_oneCell_toArray (U8_one _)) ?_))
      refine bodyPost_ret (results_cell_mid Tryd.results51 _ _ w.heap.size 0 (U8 (shaOf l)) _ rfl ?_ Tryd.underlying23 rfl (by rw [size25, U8_length, shaOf_length])) rfl ?_
      · exact World.rangeAt_setCells_same _ _ _ _ (by simpa [U8_length, shaOf_length] using hRt)
      · exact ⟨rfl, below_setCells hbel (by omega) _ 0⟩
end Go.Proofs.YtiieianbmldnbaaDoor
