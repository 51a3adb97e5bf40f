/-
  Bytes written to a digest that is being made.
-/
import Derived.Test.YtiieianbmldnbaaDoorShaHash
import Derived.Deep.RegionWith
namespace Go.Proofs.YtiieianbmldnbaaDoor
open Go.RowKit
set_option maxRecDepth 100000
theorem mix_lit (s : S8) (b off : Nat) (n c : Nat) (blk : List UInt8) (w : World) (B : Nat) (hbs : Bs w B (some ⟨b, off, none⟩) n blk) (hn : 64 ≤ n) (hB : B ≤ w.heap.size) (hK : w.rangeAt 1 0 (W32 KS)) (h1 : 1 < w.heap.size) :
    Calls Tryd.prog 57 #[.agg #[.int .u32 (s.a.toNat : Int), .int .u32 (s.b.toNat : Int), .int .u32 (s.c.toNat : Int), .int .u32 (s.d.toNat : Int), .int .u32 (s.e.toNat : Int), .int .u32 (s.f.toNat : Int), .int .u32 (s.g.toNat : Int), .int .u32 (s.h.toNat : Int)], .slice (some ⟨b, off, none⟩) n c] w fun e w' =>
      ∃ m : S8, Hid (m = mixed s blk) ∧ e = .returned (.agg #[.int .u32 (m.a.toNat : Int), .int .u32 (m.b.toNat : Int), .int .u32 (m.c.toNat : Int), .int .u32 (m.d.toNat : Int), .int .u32 (m.e.toNat : Int), .int .u32 (m.f.toNat : Int), .int .u32 (m.g.toNat : Int), .int .u32 (m.h.toNat : Int)]) ∧ Below w.heap.size w w' :=
  (mix_any s b off n c blk w B hbs hn hB hK h1).mono fun _ _ ⟨he, hw⟩ => ⟨_, rfl, he, hw⟩
/-- The eight cells of a row of words. -/
theorem eight {w : World} {g : Nat} {s : S8} (h : w.rangeAt g 0 (W32 s.list)) :
    w.cell? ⟨g, 0, none⟩ = some (.int .u32 (s.a.toNat : Int)) ∧ w.cell? ⟨g, 1, none⟩ = some (.int .u32 (s.b.toNat : Int)) ∧ w.cell? ⟨g, 2, none⟩ = some (.int .u32 (s.c.toNat : Int)) ∧ w.cell? ⟨g, 3, none⟩ = some (.int .u32 (s.d.toNat : Int)) ∧
    w.cell? ⟨g, 4, none⟩ = some (.int .u32 (s.e.toNat : Int)) ∧ w.cell? ⟨g, 5, none⟩ = some (.int .u32 (s.f.toNat : Int)) ∧ w.cell? ⟨g, 6, none⟩ = some (.int .u32 (s.g.toNat : Int)) ∧ w.cell? ⟨g, 7, none⟩ = some (.int .u32 (s.h.toNat : Int)) :=
  ⟨h 0 _ rfl, h 1 _ rfl, h 2 _ rfl, h 3 _ rfl, h 4 _ rfl, h 5 _ rfl, h 6 _ rfl, h 7 _ rfl⟩
theorem size5 : (Tryd.prog.info? 5).map (·.size) = some 1 := by kernel_rfl
theorem tail_even (l bts : List UInt8) (j : Nat) (h : l.length % 64 = 0) (hj : bts.length < 64 + 64 * j ∧ 64 * j ≤ bts.length) : stOf (l ++ bts) = compN j (stOf l) bts ∧ tailOf (l ++ bts) = bts.drop (64 * j) := by
  have hq : (l ++ bts).length / 64 = l.length / 64 + j := by rw [List.length_append]; omega
  have hl : 64 * (l.length / 64) = l.length := by omega
  unfold stOf tailOf
  rw [hq]
  refine ⟨?_, ?_⟩
  · rw [compN_add, compN_take _ _ _ _ (by omega), hl, List.drop_left]
  · rw [Nat.mul_add, ← List.drop_drop, hl, List.drop_left]
theorem tail_part (l bts : List UInt8) (h : l.length % 64 + bts.length < 64) : stOf (l ++ bts) = stOf l ∧ tailOf (l ++ bts) = tailOf l ++ bts := by
  have hq : (l ++ bts).length / 64 = l.length / 64 := by rw [List.length_append]; omega
  unfold stOf tailOf
  rw [hq]
  exact ⟨compN_take _ _ _ _ (by omega), List.drop_append_of_le_length (by omega)⟩
theorem range_append {w : World} {b o : Nat} {xs ys : List Value} (h1 : w.rangeAt b o xs) (h2 : w.rangeAt b (o + xs.length) ys) : w.rangeAt b o (xs ++ ys) := by
  intro j v hj
  by_cases h : j < xs.length
  · rw [List.getElem?_append_left h] at hj; exact h1 j v hj
  · rw [List.getElem?_append_right (by omega)] at hj
    have := h2 _ v hj
    rwa [show o + xs.length + (j - xs.length) = o + j by omega] at this
theorem range_app2 {w : World} {b o : Nat} {xs ys : List Value} (h1 : w.rangeAt b o xs) (h2 : w.rangeAt b (o + xs.length) ys) : w.rangeAt b o (xs ++ ys) := range_append h1 h2
theorem bs_range {w : World} {g o : Nat} {l : List UInt8} (h : w.rangeAt g o (U8 l)) : Bs w (g + 1) (some ⟨g, o, none⟩) l.length l :=
  ⟨rfl, fun _ => ⟨g, o, rfl, by omega, fun k u hu => h k _ (by rw [U8_get, hu]; rfl)⟩⟩
theorem full_block (l x : List UInt8) (h : l.length % 64 + x.length = 64) : stOf (l ++ x) = mixed (stOf l) (tailOf l ++ x) ∧ (l ++ x).length % 64 = 0 := by
  have hq : (l ++ x).length / 64 = l.length / 64 + 1 := by rw [List.length_append]; omega
  have hl : 64 * (l.length / 64) ≤ l.length := by omega
  refine ⟨?_, by rw [List.length_append]; omega⟩
  unfold stOf
  rw [hq, compN_snoc, compN_take _ _ _ _ hl, List.drop_append_of_le_length hl]
  rw [List.take_of_length_le (by rw [List.length_append, List.length_drop]; omega)]
  rfl
theorem Bs.keepOff2 {w w' : World} {B n g : Nat} {A : Option Addr} {l : List UInt8} (h : Bs w B A n l) (ho : 0 < n → Off g A) (hk : ∀ p : Addr, p.block < B → p.block ≠ g → w'.cell? p = w.cell? p) : Bs w' B A n l :=
  ⟨h.len, fun hn => (h.keepOff (ho hn) hk).place hn⟩
def slLen : Value → Nat
  | .slice _ n _ => n
  | _ => 0
set_option maxRecDepth 100000 in
set_option maxHeartbeats 1600000 in
theorem write_even (g : Nat) (l bts : List UInt8) (A : Option Addr) (n c : Nat) (w : World) (B : Nat) (hh : HashAt w g l) (hbs : Bs w B A n bts) (hoff : 0 < n → Off g A) (hB : B ≤ w.heap.size) (hc : n ≤ c) (hg1 : g ≠ 1) (hgs : g < w.heap.size) (h1 : 1 < w.heap.size)
    (hK : w.rangeAt 1 0 (W32 KS)) (hn : (n : Int) ≤ 1000000) (N : Nat) (hN : Hid (N = l.length)) (hNb : (N : Int) ≤ 1000000) (h0 : N % 64 = 0) :
    Calls Tryd.prog 50 #[.pointer (some ⟨g, 0, none⟩), .slice A n c] w fun e w' => e = .returned (.tuple #[]) ∧ HashAt w' g (l ++ bts) ∧ Only w.heap.size g w w' := by
  have hlen : w.cell? ⟨g, 72, none⟩ = some (.int .i64 (N : Int)) := by rw [hN.out]; exact hh.len
  have hfl : w.frozen? ⟨g, 72, none⟩ = false := (hh.there.1 72 (by omega)).2
  have hr : (N : Int) % 64 = 0 := by omega
  have Hh := Lib.hid hh; clear hh
  have h0' := Lib.hid h0; clear h0
  go_enter Tryd.func50, Tryd.ntmps50
  go_wp2
  clear hr
  go_loopw [1] (fun v wr => ∃ j : Nat, (∃ A' n' c', v = .slice A' n' c' ∧ Hid (n' + 64 * j = n) ∧ n' ≤ c' ∧ (n' : Int) ≤ 1000000 ∧ Bs wr B A' n' (bts.drop (64 * j)) ∧ (0 < n' → Off g A')) ∧ (∃ s : S8, Hid (s = compN j (stOf l) bts) ∧ wr.rangeAt g 0 (W32 s.list)) ∧
    wr.cell? ⟨g, 72, none⟩ = some (.int .i64 ((N : Int) + (n : Int))) ∧ T73 wr g ∧ wr.rangeAt 1 0 (W32 KS) ∧ Only w.heap.size g w wr) (fun v _ => slLen v)
  case atStart =>
    refine ⟨0, ⟨A, n, c, rfl, rfl, hc, hn, ?_, hoff⟩, ⟨stOf l, rfl, ?_⟩, ?_, ?_, ?_, ?_⟩
    · rw [Nat.mul_zero, List.drop_zero]
      exact hbs.keepOff2 hoff (fun p _ hp => World.cell?_setCell_other _ _ _ _ (fun e => hp (by rw [← e])))
    · exact World.rangeAt_setCells_apart Hh.out.words g 72 [_] (Or.inr (Or.inl (by rw [W32_length, S8.list_length]; omega)))
    · exact World.cell?_setCell_same _ _ _ hlen
    · exact t73_len Hh.out.there _
    · exact World.rangeAt_setCells_apart hK g 72 [_] (Or.inl (Ne.symm hg1))
    · exact (Only.refl _ _ _).setCell 72 _
  case round =>
    obtain ⟨j, ⟨A', n', c', rfl, hj, hc', hn', hbs', hoff'⟩, ⟨s, hs, hrs⟩, h72, hth, hKr, honly⟩ := hrel
    have hsz := honly.size
    by_cases h64 : 64 ≤ n'
    · obtain ⟨b', o', rfl, hb', _⟩ := hbs'.place (by omega)
      obtain ⟨q0, q1, q2, q3, q4, q5, q6, q7⟩ := eight hrs
      have hq : (64 : Int) ≤ (n' : Int) := by omega
      have hblk := hbs'.take_ 64 h64
      go_wp2
      go_region_with (first
        | (go_at_call 57; refine (mix_lit s b' o' 64 c' ((bts.drop (64 * j)).take 64) _ B ?_ (by omega) ?_ ?_ ?_).mono ?_; exact hblk.drew; (simp; omega); exact hKr; (simp; omega); rintro e w1 ⟨m, hm, rfl, hw1⟩; have z0 := (hw1.cell (p := ⟨g, 0, none⟩) (by simp; omega)).trans q0; have y0 := (hw1.frozen (p := ⟨g, 0, none⟩) (by simp; omega)).trans (hth.1 0 (by omega)).2; have z1 := (hw1.cell (p := ⟨g, 1, none⟩) (by simp; omega)).trans q1; have y1 := (hw1.frozen (p := ⟨g, 1, none⟩) (by simp; omega)).trans (hth.1 1 (by omega)).2; have z2 := (hw1.cell (p := ⟨g, 2, none⟩) (by simp; omega)).trans q2; have y2 := (hw1.frozen (p := ⟨g, 2, none⟩) (by simp; omega)).trans (hth.1 2 (by omega)).2; have z3 := (hw1.cell (p := ⟨g, 3, none⟩) (by simp; omega)).trans q3; have y3 := (hw1.frozen (p := ⟨g, 3, none⟩) (by simp; omega)).trans (hth.1 3 (by omega)).2; have z4 := (hw1.cell (p := ⟨g, 4, none⟩) (by simp; omega)).trans q4; have y4 := (hw1.frozen (p := ⟨g, 4, none⟩) (by simp; omega)).trans (hth.1 4 (by omega)).2; have z5 := (hw1.cell (p := ⟨g, 5, none⟩) (by simp; omega)).trans q5; have y5 := (hw1.frozen (p := ⟨g, 5, none⟩) (by simp; omega)).trans (hth.1 5 (by omega)).2; have z6 := (hw1.cell (p := ⟨g, 6, none⟩) (by simp; omega)).trans q6; have y6 := (hw1.frozen (p := ⟨g, 6, none⟩) (by simp; omega)).trans (hth.1 6 (by omega)).2; have z7 := (hw1.cell (p := ⟨g, 7, none⟩) (by simp; omega)).trans q7; have y7 := (hw1.frozen (p := ⟨g, 7, none⟩) (by simp; omega)).trans (hth.1 7 (by omega)).2))
      all_goals
        have hw2 : Below wr.heap.size wr w1 := ((Below.refl _ _).drew).trans hw1
        have ht8 : w1.there g 0 8 := fun j hj => there_below hth.1 hw2 (by omega) j (by omega)
        have hrm : (w1.setCells g 0 (W32 m.list)).rangeAt g 0 (W32 m.list) := World.rangeAt_setCells_same w1 g 0 _ ht8
        have hc72 : (w1.setCells g 0 (W32 m.list)).cell? ⟨g, 72, none⟩ = some (.int .i64 ((N : Int) + (n : Int))) := by
          rw [World.cell?_setCells_out _ _ _ _ _ (fun _ _ => Or.inr (by rw [W32_length, S8.list_length]; show 0 + 8 ≤ 72; omega))]
          exact (hw2.cell (p := ⟨g, 72, none⟩) (by simp; omega)).trans h72
        have hth' : T73 (w1.setCells g 0 (W32 m.list)) g := t73_words (t73_below hth hw2 (by omega)) m
        have hK' : (w1.setCells g 0 (W32 m.list)).rangeAt 1 0 (W32 KS) := World.rangeAt_setCells_apart (range_below hKr hw2 (by omega)) g 0 _ (Or.inl (Ne.symm hg1))
        have ho' : Only w.heap.size g w (w1.setCells g 0 (W32 m.list)) := (honly.below (hw2.mono hsz)).setCells _ 0
        have hb'' : Bs (w1.setCells g 0 (W32 m.list)) B (some ⟨b', o', none⟩) n' (bts.drop (64 * j)) :=
          (hbs'.below (hw2.mono (by omega))).keepOff2 hoff' (fun p _ hp => World.cell?_setCells_out _ _ _ _ _ (fun e _ => absurd e hp))
        have Hm : Hid (m = compN (j + 1) (stOf l) bts) := by
          show m = _
          rw [compN_snoc, hm.out, hs.out]
        refine gen_world (W0 := w1.setCells g 0 (W32 m.list)) (F := fun W => Exit.then _ _ Exit.normal _ W) (fun W => W.rangeAt g 0 (W32 m.list) ∧ W.cell? ⟨g, 72, none⟩ = some (.int .i64 ((N : Int) + (n : Int))) ∧ T73 W g ∧ W.rangeAt 1 0 (W32 KS) ∧ Only w.heap.size g w W ∧ Bs W B (some ⟨b', o', none⟩) n' (bts.drop (64 * j))) ⟨hrm, hc72, hth', hK', ho', hb''⟩ ?_
        clear hrm hc72 hth' hK' ho' hb'' ht8 hw2 hw1 hbs' honly hKr hth h72 hrs hs hm hsz hblk q0 q1 q2 q3 q4 q5 q6 q7 z0 z1 z2 z3 z4 z5 z6 z7 y0 y1 y2 y3 y4 y5 y6 y7
        rintro W ⟨hrm, hc72, hth', hK', ho', hb''⟩
        by_cases hcap : c' = 64
        · subst hcap
          obtain rfl : 64 = n' := by omega
          go_wp2
          go_roundw
          case rel =>
            refine ⟨j + 1, ⟨_, 0, 0, rfl, ?_, Nat.le_refl _, by decide, ?_, fun h => absurd h (by omega)⟩, ⟨m, Hm, hrm⟩, hc72, hth', hK', ho'⟩
            · show _ = _
              have := hj.out
              omega
            · rw [List.drop_eq_nil_of_le (by rw [hbs.len]; have := hj.out; omega)]
              exact Bs.empty _ _ _
          case measure => simp [slLen]
        · have hcap' : ¬ (c' = 64) := hcap
          go_wp2
          go_roundw
          case rel =>
            refine ⟨j + 1, ⟨_, _, _, rfl, ?_, by omega, by omega, ?_, ?_⟩, ⟨m, Hm, hrm⟩, hc72, hth', hK', ho'⟩
            · show _ = _
              have := hj.out
              omega
            · rw [show bts.drop (64 * (j + 1)) = (bts.drop (64 * j)).drop 64 by rw [List.drop_drop]; congr 1]
              exact hb''.drop_ 64
            · intro _ a ha
              injection ha with ha
              subst ha
              exact hoff' (by omega) ⟨b', o', none⟩ rfl
          case measure =>
            simp [slLen]; omega
    · have Htail := Lib.hid (tail_even l bts j (by rw [← hN.out]; exact h0'.out) (by have := hj.out; have := hbs.len; omega))
      have hlt : (n' : Int) < 64 := by omega
      go_wp2_with (refine wpList_copy_bs wr rfl (.tmp 66) (.tmp 67) 26 26 rfl 5 Tryd.underlying26 size5 g 8 64 64 rfl B A' n' c' (bts.drop (64 * j)) rfl hbs' (fun i hi => by rw [show 8 + i = 0 + (8 + i) by omega]; exact hth.1 (8 + i) (by omega)) ?_)
      go_end0
      refine ⟨rfl, ⟨?_, ?_, ?_, ?_⟩, honly.setCells _ 8⟩
      · rw [Htail.out.1, ← hs.out]
        exact World.rangeAt_setCells_apart hrs g 8 _ (Or.inr (Or.inl (by rw [W32_length, S8.list_length]; omega)))
      · rw [Htail.out.2]
        have := World.rangeAt_setCells_same wr g 8 (U8 ((bts.drop (64 * j)).take (min n' 64))) (fun i hi => by rw [show 8 + i = 0 + (8 + i) by omega]; exact hth.1 (8 + i) (by rw [U8_length, List.length_take] at hi; omega))
        rw [List.take_of_length_le (by rw [hbs'.len]; omega)] at this
        rw [List.take_of_length_le (by rw [hbs'.len]; omega)]
        exact this
      · rw [World.cell?_setCells_out _ _ _ _ _ (fun _ _ => Or.inr (by rw [U8_length, List.length_take]; show 8 + _ ≤ 72; omega)), h72, List.length_append, ← hN.out, hbs.len]
        rfl
      · exact t73_bytes hth 8 (Nat.le_refl _) _ (by rw [List.length_take]; omega)
set_option maxRecDepth 100000 in
set_option maxHeartbeats 1600000 in
theorem write_part (g : Nat) (l bts : List UInt8) (A : Option Addr) (n c : Nat) (w : World) (B : Nat) (hh : HashAt w g l) (hbs : Bs w B A n bts) (hoff : 0 < n → Off g A) (_hB : B ≤ w.heap.size) (_hc : n ≤ c) (_hg1 : g ≠ 1) (_hgs : g < w.heap.size) (_h1 : 1 < w.heap.size)
    (hn : (n : Int) ≤ 1000000) (N r : Nat) (hN : Hid (N = l.length)) (hNb : (N : Int) ≤ 1000000) (h0 : Hid (N % 64 = r)) (hr : (N : Int) % 64 = (r : Int)) (hr0 : 0 < (r : Int)) (hrn : (r : Int) + (n : Int) < 64) :
    Calls Tryd.prog 50 #[.pointer (some ⟨g, 0, none⟩), .slice A n c] w fun e w' => e = .returned (.tuple #[]) ∧ HashAt w' g (l ++ bts) ∧ Only w.heap.size g w w' := by
  have hlen : w.cell? ⟨g, 72, none⟩ = some (.int .i64 (N : Int)) := by rw [hN.out]; exact hh.len
  have hfl : w.frozen? ⟨g, 72, none⟩ = false := (hh.there.1 72 (by omega)).2
  have Hh := Lib.hid hh; clear hh
  have hr64 : (r : Int) ≤ 64 := by omega
  have hr64' : r ≤ 64 := by omega
  have hr65 : r < 64 := by omega
  go_enter Tryd.func50, Tryd.ntmps50
  have Ht := Lib.hid (tail_part l bts (by rw [← hN.out, h0.out, hbs.len]; omega))
  have hmin : min n (64 - r) = n := by omega
  have hbw : Bs (w.setCell ⟨g, 72, none⟩ (.int .i64 ((N : Int) + (n : Int)))) B A n bts := hbs.keepOff2 hoff (fun p _ hp => World.cell?_setCell_other _ _ _ _ (fun e => hp (by rw [← e])))
  have htw : T73 (w.setCell ⟨g, 72, none⟩ (.int .i64 ((N : Int) + (n : Int)))) g := t73_len Hh.out.there _
  go_wp2_with (refine wpList_copy_bs _ rfl (.tmp 26) (.tmp 27) 26 26 rfl 5 Tryd.underlying26 size5 g (8 + r) (64 - r) (64 - r) rfl B A n c bts rfl hbw (fun i hi => by rw [show 8 + r + i = 0 + (8 + r + i) by omega]; exact htw.1 (8 + r + i) (by omega)) ?_)
  refine bodyPost_ret (results_none rfl _ _ _) rfl ?_
  refine ⟨rfl, ⟨?_, ?_, ?_, ?_⟩, ((Only.refl _ _ _).setCell 72 _).setCells _ _⟩
  · rw [Ht.out.1]
    exact World.rangeAt_setCells_apart (World.rangeAt_setCells_apart Hh.out.words g 72 [_] (Or.inr (Or.inl (by rw [W32_length, S8.list_length]; omega)))) g (8 + r) _ (Or.inr (Or.inl (by rw [W32_length, S8.list_length]; omega)))
  · rw [Ht.out.2, U8_append]
    refine range_append ?_ ?_
    · exact World.rangeAt_setCells_apart (World.rangeAt_setCells_apart Hh.out.rest g 72 [_] (Or.inr (Or.inl (by rw [U8_length, tail_length, ← hN.out, h0.out]; omega)))) g (8 + r) _ (Or.inr (Or.inl (by rw [U8_length, tail_length, ← hN.out, h0.out]; omega)))
    · rw [U8_length, tail_length, ← hN.out, h0.out]
      have := World.rangeAt_setCells_same (w.setCell ⟨g, 72, none⟩ (.int .i64 ((N : Int) + (n : Int)))) g (8 + r) (U8 (bts.take (min n (64 - r)))) (fun i hi => by rw [show 8 + r + i = 0 + (8 + r + i) by omega]; exact htw.1 (8 + r + i) (by rw [U8_length, List.length_take] at hi; omega))
      have e : bts.take n = bts := List.take_of_length_le (Nat.le_of_eq hbs.len)
      rw [hmin, e] at this
      rw [e]
      exact this
  · rw [World.cell?_setCells_out _ _ _ _ _ (fun _ _ => Or.inr (by rw [U8_length, List.length_take]; show 8 + r + _ ≤ 72; omega)), World.cell?_setCell_same _ _ _ hlen, List.length_append, ← hN.out, hbs.len]
    rfl
  · exact t73_bytes htw (8 + r) (by omega) _ (by rw [List.length_take]; omega)
set_option maxRecDepth 100000 in
set_option maxHeartbeats 1600000 in
theorem write_full (g : Nat) (l bts : List UInt8) (A : Option Addr) (n c : Nat) (w : World) (B : Nat) (hh : HashAt w g l) (hbs : Bs w B A n bts) (hoff : Off g A) (hB : B ≤ w.heap.size) (hc : n ≤ c) (hg1 : g ≠ 1) (hgs : g < w.heap.size) (h1 : 1 < w.heap.size)
    (hK : w.rangeAt 1 0 (W32 KS)) (hn : (n : Int) ≤ 1000000) (N r t : Nat) (hN : Hid (N = l.length)) (hNb : (N : Int) ≤ 1000000) (h0 : Hid (N % 64 = r)) (hr : (N : Int) % 64 = (r : Int)) (hr0 : 0 < (r : Int)) (ht : 64 - r = t) (ht1 : 64 ≤ (r : Int) + (t : Int)) (ht2 : (r : Int) + (t : Int) ≤ 64) (htn : t ≤ n) (_ht0 : 0 < t) :
    Calls Tryd.prog 50 #[.pointer (some ⟨g, 0, none⟩), .slice A n c] w fun e w' => e = .returned (.tuple #[]) ∧ HashAt w' g (l ++ bts) ∧ Only w.heap.size g w w' := by
  have hlen : w.cell? ⟨g, 72, none⟩ = some (.int .i64 (N : Int)) := by rw [hN.out]; exact hh.len
  have hfl : w.frozen? ⟨g, 72, none⟩ = false := (hh.there.1 72 (by omega)).2
  have Hh := Lib.hid hh; clear hh
  have hr64 : (r : Int) ≤ 64 := by omega
  have hr64' : r ≤ 64 := by omega
  have hmin : min n t = t := by omega
  obtain ⟨b0, o0, rfl, hb0, _⟩ := hbs.place (by omega)
  have hbw : Bs (w.setCell ⟨g, 72, none⟩ (.int .i64 ((N : Int) + (n : Int)))) B (some ⟨b0, o0, none⟩) n bts := hbs.keepOff hoff (fun p _ hp => World.cell?_setCell_other _ _ _ _ (fun e => hp (by rw [← e])))
  have htw : T73 (w.setCell ⟨g, 72, none⟩ (.int .i64 ((N : Int) + (n : Int)))) g := t73_len Hh.out.there _
  go_enter Tryd.func50, Tryd.ntmps50
  go_wp2_with (refine wpList_copy_bs _ rfl (.tmp 26) (.tmp 27) 26 26 rfl 5 Tryd.underlying26 size5 g (8 + r) t t rfl B (some ⟨b0, o0, none⟩) n c bts rfl hbw (fun i hi => by rw [show 8 + r + i = 0 + (8 + r + i) by omega]; exact htw.1 (8 + r + i) (by omega)) ?_)
  refine gen_world (F := fun W => Code.wp Tryd.prog _ _ _ W) (fun W => W.rangeAt g 0 (W32 (stOf l).list) ∧ W.cell? ⟨g, 72, none⟩ = some (.int .i64 ((N : Int) + (n : Int))) ∧ T73 W g ∧ W.rangeAt 1 0 (W32 KS) ∧ Only w.heap.size g w W ∧ Bs W B (some ⟨b0, o0, none⟩) n bts ∧ W.rangeAt g 8 (U8 (tailOf l ++ bts.take t))) ⟨?_, ?_, ?_, ?_, ?_, ?_, ?_⟩ ?_
  · exact World.rangeAt_setCells_apart (World.rangeAt_setCells_apart Hh.out.words g 72 [_] (Or.inr (Or.inl (by rw [W32_length, S8.list_length]; omega)))) g (8 + r) _ (Or.inr (Or.inl (by rw [W32_length, S8.list_length]; omega)))
  · rw [World.cell?_setCells_out _ _ _ _ _ (fun _ _ => Or.inr (by rw [U8_length, List.length_take]; show 8 + r + _ ≤ 72; omega))]
    exact World.cell?_setCell_same _ _ _ hlen
  · exact t73_bytes htw (8 + r) (by omega) _ (by rw [List.length_take]; omega)
  · exact World.rangeAt_setCells_apart (World.rangeAt_setCells_apart hK g 72 [_] (Or.inl (Ne.symm hg1))) g (8 + r) _ (Or.inl (Ne.symm hg1))
  · exact ((Only.refl _ _ _).setCell 72 _).setCells _ _
  · exact hbw.keepOff hoff (fun p _ hp => World.cell?_setCells_out _ _ _ _ _ (fun e _ => absurd e hp))
  · rw [U8_append]
    refine range_append ?_ ?_
    · exact World.rangeAt_setCells_apart (World.rangeAt_setCells_apart Hh.out.rest g 72 [_] (Or.inr (Or.inl (by rw [U8_length, tail_length, ← hN.out, h0.out]; omega)))) g (8 + r) _ (Or.inr (Or.inl (by rw [U8_length, tail_length, ← hN.out, h0.out]; omega)))
    · rw [U8_length, tail_length, ← hN.out, h0.out]
      have := World.rangeAt_setCells_same (w.setCell ⟨g, 72, none⟩ (.int .i64 ((N : Int) + (n : Int)))) g (8 + r) (U8 (bts.take (min n t))) (fun i hi => by rw [show 8 + r + i = 0 + (8 + r + i) by omega]; exact htw.1 (8 + r + i) (by rw [U8_length, List.length_take] at hi; omega))
      rw [hmin] at this
      exact this
  have Hfull := Lib.hid (full_block l (bts.take t) (by rw [← hN.out, h0.out, List.length_take, hbs.len]; omega))
  have hblen := Lib.hid hbs.len
  have Hk64 : Hid ((tailOf l ++ bts.take t).length = 64) := by
    show _ = _
    rw [List.length_append, tail_length, ← hN.out, h0.out, List.length_take, hbs.len]; omega
  clear hbw htw hK hbs hlen hfl
  rintro wr ⟨hrs, h72, hth, hKr, honly, hbs', hblk8⟩
  have hsz := honly.size
  have hblk := bs_range hblk8
  rw [Hk64.out] at hblk
  generalize hse : stOf l = s at *
  have Hs := Lib.hid hse; clear hse
  obtain ⟨q0, q1, q2, q3, q4, q5, q6, q7⟩ := eight hrs
  go_region_with (first
    | (go_at_call 57; refine (mix_lit s g 8 64 64 (tailOf l ++ bts.take t) _ (g + 1) ?_ (by omega) ?_ ?_ ?_).mono ?_; exact hblk.drew; (simp; omega); exact hKr; (simp; omega); rintro e w1 ⟨m, hm, rfl, hw1⟩; have z0 := (hw1.cell (p := ⟨g, 0, none⟩) (by simp; omega)).trans q0; have y0 := (hw1.frozen (p := ⟨g, 0, none⟩) (by simp; omega)).trans (hth.1 0 (by omega)).2; have z1 := (hw1.cell (p := ⟨g, 1, none⟩) (by simp; omega)).trans q1; have y1 := (hw1.frozen (p := ⟨g, 1, none⟩) (by simp; omega)).trans (hth.1 1 (by omega)).2; have z2 := (hw1.cell (p := ⟨g, 2, none⟩) (by simp; omega)).trans q2; have y2 := (hw1.frozen (p := ⟨g, 2, none⟩) (by simp; omega)).trans (hth.1 2 (by omega)).2; have z3 := (hw1.cell (p := ⟨g, 3, none⟩) (by simp; omega)).trans q3; have y3 := (hw1.frozen (p := ⟨g, 3, none⟩) (by simp; omega)).trans (hth.1 3 (by omega)).2; have z4 := (hw1.cell (p := ⟨g, 4, none⟩) (by simp; omega)).trans q4; have y4 := (hw1.frozen (p := ⟨g, 4, none⟩) (by simp; omega)).trans (hth.1 4 (by omega)).2; have z5 := (hw1.cell (p := ⟨g, 5, none⟩) (by simp; omega)).trans q5; have y5 := (hw1.frozen (p := ⟨g, 5, none⟩) (by simp; omega)).trans (hth.1 5 (by omega)).2; have z6 := (hw1.cell (p := ⟨g, 6, none⟩) (by simp; omega)).trans q6; have y6 := (hw1.frozen (p := ⟨g, 6, none⟩) (by simp; omega)).trans (hth.1 6 (by omega)).2; have z7 := (hw1.cell (p := ⟨g, 7, none⟩) (by simp; omega)).trans q7; have y7 := (hw1.frozen (p := ⟨g, 7, none⟩) (by simp; omega)).trans (hth.1 7 (by omega)).2))
  all_goals
    have hw2 : Below wr.heap.size wr w1 := ((Below.refl _ _).drew).trans hw1
    have ht8 : w1.there g 0 8 := fun j hj => there_below hth.1 hw2 (by omega) j (by omega)
    have hrm : (w1.setCells g 0 (W32 m.list)).rangeAt g 0 (W32 m.list) := World.rangeAt_setCells_same w1 g 0 _ ht8
    have hc72 : (w1.setCells g 0 (W32 m.list)).cell? ⟨g, 72, none⟩ = some (.int .i64 ((N : Int) + (n : Int))) := by
      rw [World.cell?_setCells_out _ _ _ _ _ (fun _ _ => Or.inr (by rw [W32_length, S8.list_length]; show 0 + 8 ≤ 72; omega))]
      exact (hw2.cell (p := ⟨g, 72, none⟩) (by simp; omega)).trans h72
    have hth' : T73 (w1.setCells g 0 (W32 m.list)) g := t73_words (t73_below hth hw2 (by omega)) m
    have hK' : (w1.setCells g 0 (W32 m.list)).rangeAt 1 0 (W32 KS) := World.rangeAt_setCells_apart (range_below hKr hw2 (by omega)) g 0 _ (Or.inl (Ne.symm hg1))
    have ho' : Only w.heap.size g w (w1.setCells g 0 (W32 m.list)) := (honly.below (hw2.mono hsz)).setCells _ 0
    have hb'' : Bs (w1.setCells g 0 (W32 m.list)) B (some ⟨b0, o0, none⟩) n bts :=
      (hbs'.below (hw2.mono (by omega))).keepOff hoff (fun p _ hp => World.cell?_setCells_out _ _ _ _ _ (fun e _ => absurd e hp))
    have hs1 : Hid (m = compN 0 (stOf (l ++ bts.take t)) (bts.drop t)) := by
      show m = _
      rw [hm.out]; exact Hfull.out.1.symm
    refine gen_world (W0 := w1.setCells g 0 (W32 m.list)) (F := fun W => Exit.then _ _ Exit.normal _ W) (fun W => W.rangeAt g 0 (W32 m.list) ∧ W.cell? ⟨g, 72, none⟩ = some (.int .i64 ((N : Int) + (n : Int))) ∧ T73 W g ∧ W.rangeAt 1 0 (W32 KS) ∧ Only w.heap.size g w W ∧ Bs W B (some ⟨b0, o0, none⟩) n bts) ⟨hrm, hc72, hth', hK', ho', hb''⟩ ?_
    clear hrm hc72 hth' hK' ho' hb'' ht8 hw2 hw1 hbs' honly hKr hth h72 hrs hm hsz hblk hblk8 q0 q1 q2 q3 q4 q5 q6 q7 z0 z1 z2 z3 z4 z5 z6 z7 y0 y1 y2 y3 y4 y5 y6 y7
    rintro W ⟨hrm, hc72, hth', hK', ho', hb''⟩
    have hmod : Hid ((l ++ bts.take t).length % 64 = 0) := Hfull.out.2
    have Hcat : Hid ((l ++ bts.take t) ++ bts.drop t = l ++ bts) := by
      show _ = _
      rw [List.append_assoc, List.take_append_drop]
    clear Hfull
    by_cases hcap : c = t
    · have hbA1 : Bs W B (some ⟨b0, o0, none⟩) 0 (bts.drop t) := by
        rw [List.drop_eq_nil_of_le (by rw [hblen.out]; omega)]
        exact Bs.empty _ _ _
      have hlen1 : Hid ((bts.drop t).length = 0) := by
        show _ = _
        rw [List.length_drop, hblen.out]; omega
      have hcn1 : 0 ≤ 0 := Nat.le_refl _
      have hn1 : ((0 : Nat) : Int) ≤ 1000000 := by decide
      have hoff1 : Off g (some ⟨b0, o0, none⟩) := hoff
      have hnt : n - t = 0 := by omega
      have hct : c - t = 0 := by omega
      clear hb''
      generalize bts.drop t = bt at hs1 Hcat hbA1 hlen1
      generalize l ++ bts.take t = l1 at hs1 hmod Hcat
      go_wp2
      clear hr ht hmin ht1 ht2 hr64 hr64' hr0 hnt hct hcap
      go_loopw [1] (fun v wr => ∃ j : Nat, (∃ A' n' c', v = .slice A' n' c' ∧ Hid (n' + 64 * j = 0) ∧ n' ≤ c' ∧ (n' : Int) ≤ 1000000 ∧ Bs wr B A' n' (bt.drop (64 * j)) ∧ Off g A') ∧ (∃ s : S8, Hid (s = compN j (stOf l1) bt) ∧ wr.rangeAt g 0 (W32 s.list)) ∧
        wr.cell? ⟨g, 72, none⟩ = some (.int .i64 ((N : Int) + (n : Int))) ∧ T73 wr g ∧ wr.rangeAt 1 0 (W32 KS) ∧ Only w.heap.size g w wr) (fun v _ => slLen v)
      case atStart =>
        refine ⟨0, ⟨(some ⟨b0, o0, none⟩), 0, 0, rfl, rfl, hcn1, hn1, ?_, hoff1⟩, ⟨m, hs1, hrm⟩, hc72, hth', hK', ho'⟩
        rw [Nat.mul_zero, List.drop_zero]
        exact hbA1
      case round =>
        clear hrm hc72 hth' hK' ho' hbA1
        obtain ⟨j, ⟨A', n', c', rfl, hj, hc', hn', hbs', hoff'⟩, ⟨s, hs, hrs⟩, h72, hth, hKr, honly⟩ := hrel
        have hsz := honly.size
        by_cases h64 : 64 ≤ n'
        · obtain ⟨b', o', rfl, hb', _⟩ := hbs'.place (by omega)
          obtain ⟨q0, q1, q2, q3, q4, q5, q6, q7⟩ := eight hrs
          have hq : (64 : Int) ≤ (n' : Int) := by omega
          have hblk := hbs'.take_ 64 h64
          go_wp2
          go_region_with (first
            | (go_at_call 57; refine (mix_lit s b' o' 64 c' ((bt.drop (64 * j)).take 64) _ B ?_ (by omega) ?_ ?_ ?_).mono ?_; exact hblk.drew; (simp; omega); exact hKr; (simp; omega); rintro e w1 ⟨m, hm, rfl, hw1⟩; have z0 := (hw1.cell (p := ⟨g, 0, none⟩) (by simp; omega)).trans q0; have y0 := (hw1.frozen (p := ⟨g, 0, none⟩) (by simp; omega)).trans (hth.1 0 (by omega)).2; have z1 := (hw1.cell (p := ⟨g, 1, none⟩) (by simp; omega)).trans q1; have y1 := (hw1.frozen (p := ⟨g, 1, none⟩) (by simp; omega)).trans (hth.1 1 (by omega)).2; have z2 := (hw1.cell (p := ⟨g, 2, none⟩) (by simp; omega)).trans q2; have y2 := (hw1.frozen (p := ⟨g, 2, none⟩) (by simp; omega)).trans (hth.1 2 (by omega)).2; have z3 := (hw1.cell (p := ⟨g, 3, none⟩) (by simp; omega)).trans q3; have y3 := (hw1.frozen (p := ⟨g, 3, none⟩) (by simp; omega)).trans (hth.1 3 (by omega)).2; have z4 := (hw1.cell (p := ⟨g, 4, none⟩) (by simp; omega)).trans q4; have y4 := (hw1.frozen (p := ⟨g, 4, none⟩) (by simp; omega)).trans (hth.1 4 (by omega)).2; have z5 := (hw1.cell (p := ⟨g, 5, none⟩) (by simp; omega)).trans q5; have y5 := (hw1.frozen (p := ⟨g, 5, none⟩) (by simp; omega)).trans (hth.1 5 (by omega)).2; have z6 := (hw1.cell (p := ⟨g, 6, none⟩) (by simp; omega)).trans q6; have y6 := (hw1.frozen (p := ⟨g, 6, none⟩) (by simp; omega)).trans (hth.1 6 (by omega)).2; have z7 := (hw1.cell (p := ⟨g, 7, none⟩) (by simp; omega)).trans q7; have y7 := (hw1.frozen (p := ⟨g, 7, none⟩) (by simp; omega)).trans (hth.1 7 (by omega)).2))
          all_goals
            have hw2 : Below wr.heap.size wr w1 := ((Below.refl _ _).drew).trans hw1
            have ht8 : w1.there g 0 8 := fun j hj => there_below hth.1 hw2 (by omega) j (by omega)
            have hrm : (w1.setCells g 0 (W32 m.list)).rangeAt g 0 (W32 m.list) := World.rangeAt_setCells_same w1 g 0 _ ht8
            have hc72 : (w1.setCells g 0 (W32 m.list)).cell? ⟨g, 72, none⟩ = some (.int .i64 ((N : Int) + (n : Int))) := by
              rw [World.cell?_setCells_out _ _ _ _ _ (fun _ _ => Or.inr (by rw [W32_length, S8.list_length]; show 0 + 8 ≤ 72; omega))]
              exact (hw2.cell (p := ⟨g, 72, none⟩) (by simp; omega)).trans h72
            have hth' : T73 (w1.setCells g 0 (W32 m.list)) g := t73_words (t73_below hth hw2 (by omega)) m
            have hK' : (w1.setCells g 0 (W32 m.list)).rangeAt 1 0 (W32 KS) := World.rangeAt_setCells_apart (range_below hKr hw2 (by omega)) g 0 _ (Or.inl (Ne.symm hg1))
            have ho' : Only w.heap.size g w (w1.setCells g 0 (W32 m.list)) := (honly.below (hw2.mono hsz)).setCells _ 0
            have hb'' : Bs (w1.setCells g 0 (W32 m.list)) B (some ⟨b', o', none⟩) n' (bt.drop (64 * j)) :=
              (hbs'.below (hw2.mono (by omega))).keepOff hoff' (fun p _ hp => World.cell?_setCells_out _ _ _ _ _ (fun e _ => absurd e hp))
            have Hm : Hid (m = compN (j + 1) (stOf l1) bt) := by
              show m = _
              rw [compN_snoc, hm.out, hs.out]
            refine gen_world (W0 := w1.setCells g 0 (W32 m.list)) (F := fun W => Exit.then _ _ Exit.normal _ W) (fun W => W.rangeAt g 0 (W32 m.list) ∧ W.cell? ⟨g, 72, none⟩ = some (.int .i64 ((N : Int) + (n : Int))) ∧ T73 W g ∧ W.rangeAt 1 0 (W32 KS) ∧ Only w.heap.size g w W ∧ Bs W B (some ⟨b', o', none⟩) n' (bt.drop (64 * j))) ⟨hrm, hc72, hth', hK', ho', hb''⟩ ?_
            clear hrm hc72 hth' hK' ho' hb'' ht8 hw2 hw1 hbs' honly hKr hth h72 hrs hs hm hsz hblk q0 q1 q2 q3 q4 q5 q6 q7 z0 z1 z2 z3 z4 z5 z6 z7 y0 y1 y2 y3 y4 y5 y6 y7
            rintro W ⟨hrm, hc72, hth', hK', ho', hb''⟩
            by_cases hcap : c' = 64
            · subst hcap
              obtain rfl : 64 = n' := by omega
              go_wp2
              go_roundw
              case rel =>
                refine ⟨j + 1, ⟨_, 0, 0, rfl, ?_, Nat.le_refl _, by decide, ?_, hoff'⟩, ⟨m, Hm, hrm⟩, hc72, hth', hK', ho'⟩
                · show _ = _
                  have := hj.out
                  omega
                · rw [List.drop_eq_nil_of_le (by rw [hlen1.out]; have := hj.out; omega)]
                  exact Bs.empty _ _ _
              case measure => simp [slLen]
            · have hcap' : ¬ (c' = 64) := hcap
              go_wp2
              go_roundw
              case rel =>
                refine ⟨j + 1, ⟨_, _, _, rfl, ?_, by omega, by omega, ?_, ?_⟩, ⟨m, Hm, hrm⟩, hc72, hth', hK', ho'⟩
                · show _ = _
                  have := hj.out
                  omega
                · rw [show bt.drop (64 * (j + 1)) = (bt.drop (64 * j)).drop 64 by rw [List.drop_drop]; congr 1]
                  exact hb''.drop_ 64
                · intro a ha
                  injection ha with ha
                  subst ha
                  exact hoff' ⟨b', o', none⟩ rfl
              case measure =>
                simp [slLen]; omega
        · have Htail := Lib.hid (tail_even l1 bt j hmod.out (by have := hj.out; have := hlen1.out; omega))
          have hlt : (n' : Int) < 64 := by omega
          go_wp2_with (refine wpList_copy_bs wr rfl (.tmp 66) (.tmp 67) 26 26 rfl 5 Tryd.underlying26 size5 g 8 64 64 rfl B A' n' c' (bt.drop (64 * j)) rfl hbs' (fun i hi => by rw [show 8 + i = 0 + (8 + i) by omega]; exact hth.1 (8 + i) (by omega)) ?_)
          go_end0
          rw [← Hcat.out]
          refine ⟨rfl, ⟨?_, ?_, ?_, ?_⟩, honly.setCells _ 8⟩
          · rw [Htail.out.1, ← hs.out]
            exact World.rangeAt_setCells_apart hrs g 8 _ (Or.inr (Or.inl (by rw [W32_length, S8.list_length]; omega)))
          · rw [Htail.out.2]
            have := World.rangeAt_setCells_same wr g 8 (U8 ((bt.drop (64 * j)).take (min n' 64))) (fun i hi => by rw [show 8 + i = 0 + (8 + i) by omega]; exact hth.1 (8 + i) (by rw [U8_length, List.length_take] at hi; omega))
            rw [List.take_of_length_le (by rw [hbs'.len]; omega)] at this
            rw [List.take_of_length_le (by rw [hbs'.len]; omega)]
            exact this
          · rw [World.cell?_setCells_out _ _ _ _ _ (fun _ _ => Or.inr (by rw [U8_length, List.length_take]; show 8 + _ ≤ 72; omega)), h72, Hcat.out, List.length_append, ← hN.out, hblen.out]
            rfl
          · exact t73_bytes hth 8 (Nat.le_refl _) _ (by rw [List.length_take]; omega)
    · have hbA1 : Bs W B (some ⟨b0, o0 + t, none⟩) (n - t) (bts.drop t) := hb''.drop_ t
      have hlen1 : Hid ((bts.drop t).length = n - t) := by
        show _ = _
        rw [List.length_drop, hblen.out]
      have hcn1 : n - t ≤ c - t := by omega
      have hn1 : ((n - t : Nat) : Int) ≤ 1000000 := by omega
      have hoff1 : Off g (some ⟨b0, o0 + t, none⟩) := by
        intro a ha
        injection ha with ha
        subst ha
        exact hoff ⟨b0, o0, none⟩ rfl
      have hcap' : ¬ (c = t) := hcap
      clear hb''
      generalize bts.drop t = bt at hs1 Hcat hbA1 hlen1
      generalize l ++ bts.take t = l1 at hs1 hmod Hcat
      go_wp2
      clear hr ht hmin ht1 ht2 hr64 hr64' hr0 hcap hcap'
      go_loopw [1] (fun v wr => ∃ j : Nat, (∃ A' n' c', v = .slice A' n' c' ∧ Hid (n' + 64 * j = (n - t)) ∧ n' ≤ c' ∧ (n' : Int) ≤ 1000000 ∧ Bs wr B A' n' (bt.drop (64 * j)) ∧ Off g A') ∧ (∃ s : S8, Hid (s = compN j (stOf l1) bt) ∧ wr.rangeAt g 0 (W32 s.list)) ∧
        wr.cell? ⟨g, 72, none⟩ = some (.int .i64 ((N : Int) + (n : Int))) ∧ T73 wr g ∧ wr.rangeAt 1 0 (W32 KS) ∧ Only w.heap.size g w wr) (fun v _ => slLen v)
      case atStart =>
        refine ⟨0, ⟨(some ⟨b0, o0 + t, none⟩), (n - t), (c - t), rfl, rfl, hcn1, hn1, ?_, hoff1⟩, ⟨m, hs1, hrm⟩, hc72, hth', hK', ho'⟩
        rw [Nat.mul_zero, List.drop_zero]
        exact hbA1
      case round =>
        clear hrm hc72 hth' hK' ho' hbA1
        obtain ⟨j, ⟨A', n', c', rfl, hj, hc', hn', hbs', hoff'⟩, ⟨s, hs, hrs⟩, h72, hth, hKr, honly⟩ := hrel
        have hsz := honly.size
        by_cases h64 : 64 ≤ n'
        · obtain ⟨b', o', rfl, hb', _⟩ := hbs'.place (by omega)
          obtain ⟨q0, q1, q2, q3, q4, q5, q6, q7⟩ := eight hrs
          have hq : (64 : Int) ≤ (n' : Int) := by omega
          have hblk := hbs'.take_ 64 h64
          go_wp2
          go_region_with (first
            | (go_at_call 57; refine (mix_lit s b' o' 64 c' ((bt.drop (64 * j)).take 64) _ B ?_ (by omega) ?_ ?_ ?_).mono ?_; exact hblk.drew; (simp; omega); exact hKr; (simp; omega); rintro e w1 ⟨m, hm, rfl, hw1⟩; have z0 := (hw1.cell (p := ⟨g, 0, none⟩) (by simp; omega)).trans q0; have y0 := (hw1.frozen (p := ⟨g, 0, none⟩) (by simp; omega)).trans (hth.1 0 (by omega)).2; have z1 := (hw1.cell (p := ⟨g, 1, none⟩) (by simp; omega)).trans q1; have y1 := (hw1.frozen (p := ⟨g, 1, none⟩) (by simp; omega)).trans (hth.1 1 (by omega)).2; have z2 := (hw1.cell (p := ⟨g, 2, none⟩) (by simp; omega)).trans q2; have y2 := (hw1.frozen (p := ⟨g, 2, none⟩) (by simp; omega)).trans (hth.1 2 (by omega)).2; have z3 := (hw1.cell (p := ⟨g, 3, none⟩) (by simp; omega)).trans q3; have y3 := (hw1.frozen (p := ⟨g, 3, none⟩) (by simp; omega)).trans (hth.1 3 (by omega)).2; have z4 := (hw1.cell (p := ⟨g, 4, none⟩) (by simp; omega)).trans q4; have y4 := (hw1.frozen (p := ⟨g, 4, none⟩) (by simp; omega)).trans (hth.1 4 (by omega)).2; have z5 := (hw1.cell (p := ⟨g, 5, none⟩) (by simp; omega)).trans q5; have y5 := (hw1.frozen (p := ⟨g, 5, none⟩) (by simp; omega)).trans (hth.1 5 (by omega)).2; have z6 := (hw1.cell (p := ⟨g, 6, none⟩) (by simp; omega)).trans q6; have y6 := (hw1.frozen (p := ⟨g, 6, none⟩) (by simp; omega)).trans (hth.1 6 (by omega)).2; have z7 := (hw1.cell (p := ⟨g, 7, none⟩) (by simp; omega)).trans q7; have y7 := (hw1.frozen (p := ⟨g, 7, none⟩) (by simp; omega)).trans (hth.1 7 (by omega)).2))
          all_goals
            have hw2 : Below wr.heap.size wr w1 := ((Below.refl _ _).drew).trans hw1
            have ht8 : w1.there g 0 8 := fun j hj => there_below hth.1 hw2 (by omega) j (by omega)
            have hrm : (w1.setCells g 0 (W32 m.list)).rangeAt g 0 (W32 m.list) := World.rangeAt_setCells_same w1 g 0 _ ht8
            have hc72 : (w1.setCells g 0 (W32 m.list)).cell? ⟨g, 72, none⟩ = some (.int .i64 ((N : Int) + (n : Int))) := by
              rw [World.cell?_setCells_out _ _ _ _ _ (fun _ _ => Or.inr (by rw [W32_length, S8.list_length]; show 0 + 8 ≤ 72; omega))]
              exact (hw2.cell (p := ⟨g, 72, none⟩) (by simp; omega)).trans h72
            have hth' : T73 (w1.setCells g 0 (W32 m.list)) g := t73_words (t73_below hth hw2 (by omega)) m
            have hK' : (w1.setCells g 0 (W32 m.list)).rangeAt 1 0 (W32 KS) := World.rangeAt_setCells_apart (range_below hKr hw2 (by omega)) g 0 _ (Or.inl (Ne.symm hg1))
            have ho' : Only w.heap.size g w (w1.setCells g 0 (W32 m.list)) := (honly.below (hw2.mono hsz)).setCells _ 0
            have hb'' : Bs (w1.setCells g 0 (W32 m.list)) B (some ⟨b', o', none⟩) n' (bt.drop (64 * j)) :=
              (hbs'.below (hw2.mono (by omega))).keepOff hoff' (fun p _ hp => World.cell?_setCells_out _ _ _ _ _ (fun e _ => absurd e hp))
            have Hm : Hid (m = compN (j + 1) (stOf l1) bt) := by
              show m = _
              rw [compN_snoc, hm.out, hs.out]
            refine gen_world (W0 := w1.setCells g 0 (W32 m.list)) (F := fun W => Exit.then _ _ Exit.normal _ W) (fun W => W.rangeAt g 0 (W32 m.list) ∧ W.cell? ⟨g, 72, none⟩ = some (.int .i64 ((N : Int) + (n : Int))) ∧ T73 W g ∧ W.rangeAt 1 0 (W32 KS) ∧ Only w.heap.size g w W ∧ Bs W B (some ⟨b', o', none⟩) n' (bt.drop (64 * j))) ⟨hrm, hc72, hth', hK', ho', hb''⟩ ?_
            clear hrm hc72 hth' hK' ho' hb'' ht8 hw2 hw1 hbs' honly hKr hth h72 hrs hs hm hsz hblk q0 q1 q2 q3 q4 q5 q6 q7 z0 z1 z2 z3 z4 z5 z6 z7 y0 y1 y2 y3 y4 y5 y6 y7
            rintro W ⟨hrm, hc72, hth', hK', ho', hb''⟩
            by_cases hcap : c' = 64
            · subst hcap
              obtain rfl : 64 = n' := by omega
              go_wp2
              go_roundw
              case rel =>
                refine ⟨j + 1, ⟨_, 0, 0, rfl, ?_, Nat.le_refl _, by decide, ?_, hoff'⟩, ⟨m, Hm, hrm⟩, hc72, hth', hK', ho'⟩
                · show _ = _
                  have := hj.out
                  omega
                · rw [List.drop_eq_nil_of_le (by rw [hlen1.out]; have := hj.out; omega)]
                  exact Bs.empty _ _ _
              case measure => simp [slLen]
            · have hcap' : ¬ (c' = 64) := hcap
              go_wp2
              go_roundw
              case rel =>
                refine ⟨j + 1, ⟨_, _, _, rfl, ?_, by omega, by omega, ?_, ?_⟩, ⟨m, Hm, hrm⟩, hc72, hth', hK', ho'⟩
                · show _ = _
                  have := hj.out
                  omega
                · rw [show bt.drop (64 * (j + 1)) = (bt.drop (64 * j)).drop 64 by rw [List.drop_drop]; congr 1]
                  exact hb''.drop_ 64
                · intro a ha
                  injection ha with ha
                  subst ha
                  exact hoff' ⟨b', o', none⟩ rfl
              case measure =>
                simp [slLen]; omega
        · have Htail := Lib.hid (tail_even l1 bt j hmod.out (by have := hj.out; have := hlen1.out; omega))
          have hlt : (n' : Int) < 64 := by omega
          go_wp2_with (refine wpList_copy_bs wr rfl (.tmp 66) (.tmp 67) 26 26 rfl 5 Tryd.underlying26 size5 g 8 64 64 rfl B A' n' c' (bt.drop (64 * j)) rfl hbs' (fun i hi => by rw [show 8 + i = 0 + (8 + i) by omega]; exact hth.1 (8 + i) (by omega)) ?_)
          go_end0
          rw [← Hcat.out]
          refine ⟨rfl, ⟨?_, ?_, ?_, ?_⟩, honly.setCells _ 8⟩
          · rw [Htail.out.1, ← hs.out]
            exact World.rangeAt_setCells_apart hrs g 8 _ (Or.inr (Or.inl (by rw [W32_length, S8.list_length]; omega)))
          · rw [Htail.out.2]
            have := World.rangeAt_setCells_same wr g 8 (U8 ((bt.drop (64 * j)).take (min n' 64))) (fun i hi => by rw [show 8 + i = 0 + (8 + i) by omega]; exact hth.1 (8 + i) (by rw [U8_length, List.length_take] at hi; omega))
            rw [List.take_of_length_le (by rw [hbs'.len]; omega)] at this
            rw [List.take_of_length_le (by rw [hbs'.len]; omega)]
            exact this
          · rw [World.cell?_setCells_out _ _ _ _ _ (fun _ _ => Or.inr (by rw [U8_length, List.length_take]; show 8 + _ ≤ 72; omega)), h72, Hcat.out, List.length_append, ← hN.out, hblen.out]
            rfl
          · exact t73_bytes hth 8 (Nat.le_refl _) _ (by rw [List.length_take]; omega)
/-- Bytes written to a digest that is being made are behind those that were there. -/
theorem write_any (g : Nat) (l bts : List UInt8) (A : Option Addr) (n c : Nat) (w : World) (B : Nat) (hh : HashAt w g l) (hbs : Bs w B A n bts) (hoff : 0 < n → Off g A) (hB : B ≤ w.heap.size) (hc : n ≤ c) (hg1 : g ≠ 1) (hgs : g < w.heap.size) (h1 : 1 < w.heap.size)
    (hK : w.rangeAt 1 0 (W32 KS)) (hn : n ≤ 1000000) (hN : l.length ≤ 1000000) :
    Calls Tryd.prog 50 #[.pointer (some ⟨g, 0, none⟩), .slice A n c] w fun e w' => e = .returned (.tuple #[]) ∧ HashAt w' g (l ++ bts) ∧ Only w.heap.size g w w' := by
  by_cases h0 : l.length % 64 = 0
  · exact write_even g l bts A n c w B hh hbs hoff hB hc hg1 hgs h1 hK (by omega) l.length rfl (by omega) h0
  · by_cases hs : l.length % 64 + n < 64
    · exact write_part g l bts A n c w B hh hbs hoff hB hc hg1 hgs h1 (by omega) l.length (l.length % 64) rfl (by omega) rfl (by omega) (by omega) (by omega)
    · exact write_full g l bts A n c w B hh hbs (hoff (by omega)) hB hc hg1 hgs h1 hK (by omega) l.length (l.length % 64) (64 - l.length % 64) rfl (by omega) rfl (by omega) (by omega) rfl (by omega) (by omega) (by omega) (by omega)
end Go.Proofs.YtiieianbmldnbaaDoor
