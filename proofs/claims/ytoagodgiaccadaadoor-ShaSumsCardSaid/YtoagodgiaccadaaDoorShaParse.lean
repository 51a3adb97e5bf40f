/-
  The digest of digits.
-/
import Derived.Lib.OthersKept
import Derived.Laws.RangeAny
import Derived.Laws.ResultCell
import Derived.Test.YtoagodgiaccadaaDoorShaSum
import Derived.Test.YtoagodgiaccadaaDoorShaDigit
namespace Go.Proofs.YtoagodgiaccadaaDoor
open Go.RowKit
/-- The number of the sign at i. -/
def nib (l : List UInt8) (i : Nat) : Nat := (dig? (l.getD i 0).toNat).getD 0
/-- The byte j behind k signs. -/
def stB (l : List UInt8) (k j : Nat) : UInt8 := UInt8.ofNat (if 2 * j + 2 ≤ k then 16 * nib l (2 * j) + nib l (2 * j + 1) else if 2 * j + 1 ≤ k then nib l (2 * j) else 0)
/-- The bytes behind k signs. -/
def stP (l : List UInt8) (k : Nat) : List UInt8 := (List.range 32).map (stB l k)
theorem stP_length (l : List UInt8) (k : Nat) : (stP l k).length = 32 := by simp [stP]
theorem stP_get (l : List UInt8) (k j : Nat) (h : j < 32) : (stP l k)[j]? = some (stB l k j) := by simp [stP, h]
theorem dig_lt {r n : Nat} (h : dig? r = some n) : n < 16 := by
  unfold dig? at h
  split at h
  · injection h with h; omega
  · split at h
    · injection h with h; omega
    · split at h
      · injection h with h; omega
      · cases h
theorem nib_lt (l : List UInt8) (i : Nat) : nib l i < 16 := by
  unfold nib
  cases h : dig? (l.getD i 0).toNat with
  | none => decide
  | some n => exact dig_lt h
theorem nib_of {l : List UInt8} {k n : Nat} {u : UInt8} (hu : l[k]? = some u) (h : dig? u.toNat = some n) : nib l k = n := by
  unfold nib
  rw [List.getD_eq_getElem?_getD, hu, Option.getD_some, h, Option.getD_some]
/-- One sign more. -/
theorem stP_step (l : List UInt8) (k : Nat) : stP l (k + 1) = (stP l k).set (k / 2) (UInt8.ofNat ((stB l k (k / 2)).toNat * 16 % 256 + nib l k)) := by
  refine List.ext_getElem? fun j => ?_
  by_cases hj : j < 32
  · rw [stP_get _ _ _ hj, List.getElem?_set]
    by_cases e : k / 2 = j
    · subst e
      rw [if_pos rfl, if_pos (by rw [stP_length]; exact hj)]
      congr 1
      have h0 := nib_lt l k
      by_cases hp : k % 2 = 0
      · have e1 : stB l k (k / 2) = 0 := by
          unfold stB; rw [if_neg (by omega), if_neg (by omega)]; rfl
        rw [e1]
        unfold stB
        rw [if_neg (by omega), if_pos (by omega), show 2 * (k / 2) = k by omega]
        simp
      · have h1 := nib_lt l (2 * (k / 2))
        have e1 : (stB l k (k / 2)).toNat = nib l (2 * (k / 2)) := by
          unfold stB; rw [if_neg (by omega), if_pos (by omega), UInt8.toNat_ofNat']; omega
        rw [e1]
        unfold stB
        rw [if_pos (by omega), show 2 * (k / 2) + 1 = k by omega]
        congr 1
        omega
    · rw [if_neg e, stP_get _ _ _ hj]
      congr 1
      unfold stB
      congr 1
      by_cases h1 : 2 * j + 2 ≤ k
      · rw [if_pos h1, if_pos (by omega)]
      · rw [if_neg h1, if_neg (by omega)]
        by_cases h2 : 2 * j + 1 ≤ k
        · rw [if_pos h2, if_pos (by omega)]
        · rw [if_neg h2, if_neg (by omega)]
  · rw [List.getElem?_eq_none (by rw [stP_length]; omega), List.getElem?_eq_none (by rw [List.length_set, stP_length]; omega)]
theorem stP_zero (l : List UInt8) : stP l 0 = List.replicate 32 0 := rfl
theorem results_cell_tmp_mid {P : Program} {fn : Func} {p u : Tmp} {ty : TypeId} (h : fn.results = #[.cell p ty, .tmp u]) (tmps : Array Value) (w : World) (b o : Nat) (cs : List Value) (d : TypeDesc)
    (hp : tmps.getD p undef = .pointer (some ⟨b, o, none⟩)) (hc : w.rangeAt b o cs) (hu : P.underlying ty = some d) (hd : d.isRow = true) (hi : (P.info? ty).map (·.size) = some cs.length) :
    (results fn tmps).run P w = .ok (.tuple #[.agg cs.toArray, tmps.getD u undef]) w := by
  rw [results_cell_tmp h, hp]
  simp only [asAddr, Sem.run_pure, Result.andThen_ok, run_loadVar_mid w b o ty cs d hc hu hd hi]
def parseOf (l : List UInt8) : List UInt8 × Nat := if l.length = 64 ∧ (l.all fun u => (dig? u.toNat).isSome) = true then (stP l 64, 0) else (List.replicate 32 0, 20)
theorem parseOf_len {l : List UInt8} (h : l.length ≠ 64) : parseOf l = (List.replicate 32 0, 20) := by unfold parseOf; rw [if_neg (fun hh => h hh.1)]
set_option maxRecDepth 100000 in
set_option maxHeartbeats 1600000 in
theorem parse_len (w : World) (s : ByteArray) (h : s.size ≠ 64) : Calls Tryd.prog 15 #[.string s] w fun e w' => e = .returned (.tuple #[.agg (U8 (List.replicate 32 0)).toArray, .int .i64 20]) ∧ Below w.heap.size w w' := by
  have hne : ¬ ((s.size : Int) = 64) := by omega
  go_enter Tryd.func15, Tryd.ntmps15
  go_wp2_with (first
    | (refine wpList_load_mid rfl 25 (.tmp 4) rfl (w.heap.size + 1) 0 rfl (U8 (List.replicate 32 0)) _ (range_new1 _ _ _ _ rfl) Tryd.underlying25 rfl (by rw [size25, U8_length, List.length_replicate]) ?_)
    | (refine wpList_store_mid rfl 25 (.tmp 2) (.tmp 12) rfl w.heap.size 0 (U8 (List.replicate 32 0)).toArray rfl rfl (by show World.there _ _ _ 32; exact there_new0 _ _ _ _ rfl) (by rw [size25]; rfl) (all_oneCell_toArray (U8_one _)) ?_))
  refine bodyPost_ret (results_cell_tmp_mid rfl _ _ w.heap.size 0 (U8 (List.replicate 32 0)) _ rfl ?_ Tryd.underlying25 rfl (by rw [size25, U8_length, List.length_replicate])) rfl ?_
  · exact World.rangeAt_setCells_same _ _ _ _ (by show World.there _ _ _ 32; exact there_new0 _ _ _ _ rfl)
  · exact ⟨rfl, below_setCells (((Below.refl _ w).alloc (Nat.le_refl _) _).alloc (by simp) _) (by omega) _ 0⟩
theorem iterAt_other (w : World) (k : Nat) (s : ByteArray) (pos : Nat) (j : Nat) (h : j ≠ k) : (w.iterAt k s pos).heap[j]? = w.heap[j]? := by
  simp [World.iterAt, Ne.symm h]
theorem iterAt_range {w : World} {k b o : Nat} {s : ByteArray} {pos : Nat} {vs : List Value} (h : w.rangeAt b o vs) (hb : b ≠ k) : (w.iterAt k s pos).rangeAt b o vs :=
  fun j v hj => (World.cell?_of_block (w := w) (a := ⟨b, o + j, none⟩) (iterAt_other w k s pos b hb)).trans (h j v hj)
theorem iterAt_there {w : World} {k b o n : Nat} {s : ByteArray} {pos : Nat} (h : w.there b o n) (hb : b ≠ k) : (w.iterAt k s pos).there b o n :=
  fun j hj => ⟨by rw [World.cell?_of_block (w := w) (a := ⟨b, o + j, none⟩) (iterAt_other w k s pos b hb)]; exact (h j hj).1, by rw [World.frozen?_of_block (w := w) (a := ⟨b, o + j, none⟩) (iterAt_other w k s pos b hb)]; exact (h j hj).2⟩
theorem iterAt_below {w0 w : World} {B k : Nat} {s : ByteArray} {pos : Nat} (h : Below B w0 w) (hk : B ≤ k) : Below B w0 (w.iterAt k s pos) :=
  ⟨h.os, h.tape, h.output, Nat.le_trans h.size (by simp [World.iterAt]), fun j hj => (iterAt_other w k s pos j (by omega)).trans (h.block j hj)⟩
theorem start3 (w : World) (cs ds : Array Value) (t : TypeId) (s : ByteArray) (l : List UInt8) (hc : cs.size = 32) (hd : ds.toList = U8 (List.replicate 32 0)) :
    (((w.alloc (.cells cs t)).alloc (.cells ds t)).iter s 0).heap[w.heap.size + 2]? = some (.stringIter s 0) ∧ (((w.alloc (.cells cs t)).alloc (.cells ds t)).iter s 0).rangeAt (w.heap.size + 1) 0 (U8 (stP l 0)) ∧
    (((w.alloc (.cells cs t)).alloc (.cells ds t)).iter s 0).there (w.heap.size + 1) 0 32 ∧ (((w.alloc (.cells cs t)).alloc (.cells ds t)).iter s 0).there w.heap.size 0 32 ∧ Below w.heap.size w (((w.alloc (.cells cs t)).alloc (.cells ds t)).iter s 0) := by
  have h2 : ((w.alloc (.cells cs t)).alloc (.cells ds t)).heap.size = w.heap.size + 2 := by simp
  have hb : Below (w.heap.size + 2) ((w.alloc (.cells cs t)).alloc (.cells ds t)) (((w.alloc (.cells cs t)).alloc (.cells ds t)).iter s 0) := (Below.refl _ _).alloc (by rw [h2]; exact Nat.le_refl _) _
  have hds : ds.size = 32 := by rw [← Array.length_toList, hd]; rfl
  refine ⟨?_, range_below (range_new1 w _ ds t (by rw [hd, stP_zero])) hb (by omega), there_below (there_new1 w _ ds t hds) hb (by omega), there_below (there_new0 w cs t _ hc) hb (by omega), (((Below.refl _ w).alloc (Nat.le_refl _) _).alloc (by simp) _).alloc (by rw [h2]; omega) _⟩
  rw [← h2]; exact World.iter_heap _ s 0
theorem or16 : ∀ a : Nat, a < 256 → ∀ n : Nat, n < 16 → bits .or .u8 ((a : Int) * 16 % 256) (n : Int) = ((UInt8.ofNat (a * 16 % 256 + n)).toNat : Int) := by decide +kernel
theorem U8_set (l : List UInt8) (k : Nat) (x : UInt8) : U8 (l.set k x) = (U8 l).set k (.int .u8 (x.toNat : Int)) := by unfold U8; rw [List.map_set]
theorem dig_high {r : Nat} (h : 128 ≤ r) : dig? r = none := by
  unfold dig?; rw [if_neg (by omega), if_neg (by omega), if_neg (by omega)]
theorem parseOf_bad {l : List UInt8} {k : Nat} {u : UInt8} (hu : l[k]? = some u) (h : dig? u.toNat = none) : parseOf l = (List.replicate 32 0, 20) := by
  unfold parseOf
  refine if_neg (fun hh => ?_)
  have := List.all_eq_true.1 hh.2 u (List.mem_of_getElem? hu)
  rw [h] at this
  cases this
theorem parseOf_good {l : List UInt8} (hl : l.length = 64) (h : ∀ i u, i < 64 → l[i]? = some u → (dig? u.toNat).isSome = true) : parseOf l = (stP l 64, 0) := by
  unfold parseOf
  refine if_pos ⟨hl, List.all_eq_true.2 fun u hu => ?_⟩
  obtain ⟨i, hi, rfl⟩ := List.mem_iff_getElem.1 hu
  exact h i _ (by omega) (List.getElem?_eq_getElem hi)
theorem getD_at (s : ByteArray) (k : Nat) (h : k < s.size) : s.data.toList[k]? = some (s[k]'h) := by
  rw [Array.getElem?_toList]
  exact Array.getElem?_eq_getElem h
set_option maxRecDepth 100000 in
set_option maxHeartbeats 1600000 in
theorem parse_64 (w : World) (s : ByteArray) (h : s.size = 64) : Calls Tryd.prog 15 #[.string s] w fun e w' => e = .returned (.tuple #[.agg (U8 (parseOf s.data.toList).1).toArray, .int .i64 ((parseOf s.data.toList).2 : Int)]) ∧ Below w.heap.size w w' := by
  have he : ((s.size : Int) = 64) := by omega
  go_enter Tryd.func15, Tryd.ntmps15
  go_wp2
  refine gen_world (F := fun W => Code.wp Tryd.prog _ _ _ W) (fun W => W.heap[w.heap.size + 2]? = some (.stringIter s 0) ∧ W.rangeAt (w.heap.size + 1) 0 (U8 (stP s.data.toList 0)) ∧ W.there (w.heap.size + 1) 0 32 ∧ W.there w.heap.size 0 32 ∧ Below w.heap.size w W) (start3 w _ _ _ s _ rfl rfl) ?_
  rintro wA ⟨hI, hD, hDt, hRt, hb⟩
  rw [show w.heap.size + 1 + 1 = w.heap.size + 2 from rfl]
  generalize hl : s.data.toList = l at hD ⊢
  have Hl := Lib.hid hl
  clear hl
  go_loopw [] (fun wr => ∃ k : Nat, (k : Int) ≤ 64 ∧ wr.heap[w.heap.size + 2]? = some (.stringIter s k) ∧ wr.rangeAt (w.heap.size + 1) 0 (U8 (stP l k)) ∧ wr.there (w.heap.size + 1) 0 32 ∧ wr.there w.heap.size 0 32 ∧ Below w.heap.size w wr ∧ Hid (∀ i u, i < k → l[i]? = some u → (dig? u.toNat).isSome = true)) (fun wr => 64 - wr.iterPos (w.heap.size + 2))
  case atStart => exact ⟨0, by omega, hI, hD, hDt, hRt, hb, fun i u hi => absurd hi (by omega)⟩
  case round =>
    clear hI hD hDt hRt hb
    obtain ⟨k, hk, hI, hD, hDt, hRt, hb, hall⟩ := hrel
    by_cases hlt : (k : Int) < 64
    · have hu := getD_at s k (by omega)
      rw [Hl.out] at hu
      by_cases hbad : dig? (s[k]'(by omega)).toNat = none
      · obtain ⟨r, p', hnx, hr⟩ : ∃ r p', (∀ ty, (Instr.next (.pointer (some ⟨w.heap.size + 2, 0, none⟩)) true ty).run Tryd.prog wr = .ok (.tuple #[.bool true, .int .i64 k, .int .i32 (r : Nat)]) (wr.iterAt (w.heap.size + 2) s p')) ∧ dig? r = none := by
          by_cases ha : (s[k]'(by omega)).toNat < 128
          · exact ⟨_, _, fun ty => Lib.run_next_ascii_at (P := Tryd.prog) wr (w.heap.size + 2) s k ty hI (by omega) ha, hbad⟩
          · exact ⟨_, _, fun ty => Lib.run_next_any_at (P := Tryd.prog) wr (w.heap.size + 2) s k ty hI (by omega), dig_high (decode_high s k (by omega) (by omega)).1⟩
        have hRt' := iterAt_there (k := w.heap.size + 2) (s := s) (pos := p') hRt (by omega)
        have hb' := iterAt_below (k := w.heap.size + 2) (s := s) (pos := p') hb (by omega)
        have Hp := Lib.hid (parseOf_bad hu hbad)
        have hcall := fun w => digit_no w r hr
        clear hu hbad hr hD hDt hRt hb hall
        go_wp2_with (first
          | (go_at_call 20; refine (hcall _).mono ?_; rintro e w2 ⟨rfl, rfl⟩)
          | (refine wpList_store_mid rfl 25 (.tmp 2) (.tmp 26) rfl w.heap.size 0 (U8 (List.replicate 32 0)).toArray rfl rfl (by show World.there _ _ _ 32; exact hRt') (by rw [size25]; rfl) (all_oneCell_toArray (U8_one _)) ?_))
        refine bodyPost_ret (results_cell_tmp_mid rfl _ _ w.heap.size 0 (U8 (List.replicate 32 0)) _ rfl ?_ Tryd.underlying25 rfl (by rw [size25, U8_length, List.length_replicate])) rfl ?_
        · exact World.rangeAt_setCells_same _ _ _ _ (by show World.there _ _ _ 32; exact hRt')
        · rw [Hl.out, Hp.out]
          exact ⟨rfl, below_setCells hb' (Nat.le_refl _) _ 0⟩
      · obtain ⟨n, hd⟩ := Option.ne_none_iff_exists'.1 hbad
        have ha : (s[k]'(by omega)).toNat < 128 := by
          by_cases ha : (s[k]'(by omega)).toNat < 128
          · exact ha
          · exact absurd (dig_high (by omega)) hbad
        clear hbad
        have hnx := fun ty => Lib.run_next_ascii_at (P := Tryd.prog) wr (w.heap.size + 2) s k ty hI (by omega) ha
        have hI' := Lib.iterAt_heap wr (w.heap.size + 2) s k (k + 1) hI
        have hD' := iterAt_range (k := w.heap.size + 2) (s := s) (pos := k + 1) hD (by omega)
        have hDt' := iterAt_there (k := w.heap.size + 2) (s := s) (pos := k + 1) hDt (by omega)
        have hRt' := iterAt_there (k := w.heap.size + 2) (s := s) (pos := k + 1) hRt (by omega)
        have hb' := iterAt_below (k := w.heap.size + 2) (s := s) (pos := k + 1) hb (by omega)
        have hn := dig_lt hd
        have hni : (n : Int) < 16 := by omega
        have hb0 := hD' (k / 2) (.int .u8 ((stB l k (k / 2)).toNat : Int)) (by rw [U8_get, stP_get _ _ _ (by omega)]; rfl)
        have hf0 := (hDt' (k / 2) (by omega)).2
        rw [Nat.zero_add] at hb0 hf0
        have q0 : (k : Int) / 2 < 32 := by omega
        have hcall := fun w => digit_yes w (s[k]'(by omega)).toNat n hd
        have Hd := Lib.hid hd
        have Hu := Lib.hid hu
        generalize hg : (s[k]'(by omega)).toNat = r at *
        clear hd hu ha
        go_wp2_with (go_at_call 20; refine (hcall _).mono ?_; rintro e w2 ⟨rfl, rfl⟩)
        have Hset : Hid (stP l (k + 1) = (stP l k).set (k / 2) (UInt8.ofNat ((stB l k (k / 2)).toNat * 16 % 256 + n))) := by
          show stP l (k + 1) = _
          rw [stP_step, nib_of Hu.out (by rw [hg]; exact Hd.out)]
        have hor := or16 (stB l k (k / 2)).toNat (UInt8.toNat_lt _) n hn
        have hset := range_set hD' (by rw [U8_length, stP_length]; exact hDt') (k / 2) (by rw [U8_length, stP_length]; omega) (.int .u8 ((UInt8.ofNat ((stB l k (k / 2)).toNat * 16 % 256 + n)).toNat : Int))
        rw [Nat.zero_add, ← U8_set, ← Hset.out, ← hor] at hset
        have hI2 := (Below.heap_setCell (wr.iterAt (w.heap.size + 2) s (k + 1)) ⟨w.heap.size + 1, k / 2, none⟩ (.int .u8 (bits .or .u8 (((stB l k (k / 2)).toNat : Int) * 16 % 256) (n : Int))) (w.heap.size + 2) (by show w.heap.size + 2 ≠ w.heap.size + 1; omega)).trans hI'
        go_roundw
        case rel =>
          refine ⟨k + 1, by omega, hI2, hset, there_set hDt' _ _, there_set hRt' _ _, hb'.setCell (by show w.heap.size ≤ w.heap.size + 1; omega) _, fun i u hi hiu => ?_⟩
          by_cases e : i = k
          · subst e
            rw [Hu.out] at hiu
            injection hiu with hiu
            rw [← hiu, hg, Hd.out]; rfl
          · exact hall i u (by omega) hiu
        case measure =>
          simp only [World.iterPos, hI2, hI]
          omega
    · obtain rfl : k = 64 := by omega
      have hnx := fun ty => Lib.run_next_end_at (P := Tryd.prog) wr (w.heap.size + 2) s 64 ty hI (by omega)
      have Hp := Lib.hid (parseOf_good (l := l) (by rw [← Hl.out, Array.length_toList]; exact h) hall)
      have hz : (U8 (stP l 64)).toArray.size = 32 := by simp [U8_length, stP_length]
      clear hall
      go_wp2_with (first
        | (refine wpList_load_mid rfl 25 (.tmp 4) rfl (w.heap.size + 1) 0 rfl (U8 (stP l 64)) _ hD Tryd.underlying25 rfl (by rw [size25, U8_length, stP_length]) ?_)
        | (refine wpList_store_mid rfl 25 (.tmp 2) (.tmp 37) rfl w.heap.size 0 (U8 (stP l 64)).toArray rfl rfl (by rw [hz]; exact hRt) (by rw [size25, hz]) (all_oneCell_toArray (U8_one _)) ?_))
      refine bodyPost_ret (results_cell_tmp_mid rfl _ _ w.heap.size 0 (U8 (stP l 64)) _ rfl ?_ Tryd.underlying25 rfl (by rw [size25, U8_length, stP_length])) rfl ?_
      · exact World.rangeAt_setCells_same _ _ _ _ (by rw [Array.length_toList, hz]; exact hRt)
      · rw [Hl.out, Hp.out]
        exact ⟨rfl, below_setCells hb (Nat.le_refl _) _ 0⟩
/-- Whatever text. -/
theorem parse_any (w : World) (s : ByteArray) : Calls Tryd.prog 15 #[.string s] w fun e w' => e = .returned (.tuple #[.agg (U8 (parseOf s.data.toList).1).toArray, .int .i64 ((parseOf s.data.toList).2 : Int)]) ∧ Below w.heap.size w w' := by
  by_cases h : s.size = 64
  · exact parse_64 w s h
  · rw [parseOf_len (l := s.data.toList) (by rw [Array.length_toList]; exact h)]
    exact parse_len w s h
end Go.Proofs.YtoagodgiaccadaaDoor
