/-
  The struct of a value, its text and bytes new: Val.
-/
import Derived.Test.YtkacgdhcacclcaaDoorVaGet
import Derived.Deep.RegionWith
namespace Go.Proofs.YtkacgdhcacclcaaDoor
open Go.RowKit
set_option maxRecDepth 100000
set_option maxRecDepth 100000
set_option linter.unusedVariables false
theorem one6 {k n : Int} {s : ByteArray} {A : Option Addr} {l c : Nat} {o i : Int} : ∀ v ∈ [Value.int .i64 k, .int .i64 n, .string s, .slice A l c, .int .i64 o, .int .i64 i], v.oneCell' = true := by
  intro v hv
  simp only [List.mem_cons, List.not_mem_nil, or_false] at hv
  rcases hv with rfl | rfl | rfl | rfl | rfl | rfl <;> rfl
def ValRet (k n : Int) (s : ByteArray) (l : List UInt8) (o i : Int) (w : World) (e : Ending) (w' : World) : Prop :=
  ∃ A2 c2, e = .returned (.agg #[.int .i64 k, .int .i64 n, .string s, .slice A2 l.length c2, .int .i64 o, .int .i64 i]) ∧ l.length ≤ c2 ∧ Bs w' w'.heap.size A2 l.length l ∧ Below w.heap.size w w'
set_option maxHeartbeats 4000000 in
theorem val_l (V : Value) (k n : Int) (s : ByteArray) (A : Option Addr) (m c : Nat) (o i : Int) (l : List UInt8) (w : World) (h : FlatOf V k n s A m c o i) (hs : s.size ≤ 1000000) (B : Nat) (hbs : Bs w B A m l) (hB : B ≤ w.heap.size) (hm : m ≤ 1000000) :
    Calls Tryd.prog 27 #[V] w (ValRet k n s l o i w) := by
  have H := Lib.hid h
  have cS := fun W => sclone_f s W hs
  have cC := fun W (hb : Below w.heap.size w W) => clone_f A m c l W B (hbs.below' hb hB) (by have := hb.size; omega) (by omega)
  clear h hs hbs hB hm
  go_enter Tryd.func27, Tryd.ntmps27
  go_wp2_with (go_at_call 50; refine (H.out _).mono ?_; rintro e w1 ⟨rfl, hb⟩)
  have hb0 := (alloc_below w _).trans (hb.mono (by rw [alloc_size]; omega))
  have hz1 : w.heap.size < w1.heap.size := by have := hb.size; rw [alloc_size] at this; omega
  have hr0 : (w1.alloc (.cells #[.int .i64 k, .int .i64 n, .string s, .slice A m c, .int .i64 o, .int .i64 i] 24)).rangeAt w.heap.size 0 [.int .i64 0, .int .i64 0, .string ⟨#[]⟩, .slice none 0 0, .int .i64 0, .int .i64 0] :=
    range_below (range_below (range_newB w _ 24 rfl) hb (by rw [alloc_size]; exact Nat.lt_succ_self _)) (alloc_below w1 _) hz1
  have ht0 : (w1.alloc (.cells #[.int .i64 k, .int .i64 n, .string s, .slice A m c, .int .i64 o, .int .i64 i] 24)).there w.heap.size 0 6 :=
    there_below (there_below (there_new w _ 24 rfl) hb (by rw [alloc_size]; exact Nat.lt_succ_self _)) (alloc_below w1 _) hz1
  have ht1 : (w1.alloc (.cells #[.int .i64 k, .int .i64 n, .string s, .slice A m c, .int .i64 o, .int .i64 i] 24)).there w1.heap.size 0 6 := there_new w1 _ 24 rfl
  refine wp_at_world (F := fun W2 => W2.rangeAt w1.heap.size 0 [.int .i64 k, .int .i64 n, .string s, .slice A m c, .int .i64 o, .int .i64 i] ∧ W2.there w1.heap.size 0 6 ∧ W2.rangeAt w.heap.size 0 [.int .i64 0, .int .i64 0, .string ⟨#[]⟩, .slice none 0 0, .int .i64 0, .int .i64 0] ∧ W2.there w.heap.size 0 6 ∧ Below w.heap.size w W2 ∧ w1.heap.size < W2.heap.size) ⟨range_newB w1 _ _ rfl, ht1, hr0, ht0, hb0.alloc hb0.size _, by rw [alloc_size]; exact Nat.lt_succ_self _⟩ ?_
  clear hr0 ht0 ht1
  rintro W2 ⟨hr2, ht2, hr0, ht0, hb2, hz2⟩
  generalize hG : w1.heap.size = G at *
  clear hb H hb0
  have q2 : W2.cell? ⟨G, 2, none⟩ = some (.string s) := hr2 2 _ rfl
  have q3 : W2.cell? ⟨G, 3, none⟩ = some (.slice A m c) := hr2 3 _ rfl
  go_region_with ((first | (go_at_call 30; refine (cS _).mono ?_; rintro e w3 ⟨rfl, hb3⟩; have hbw3 := hb2.drew.trans (hb3.mono hb2.size); have hbW3 := (drew_below W2 W2.heap.size).trans hb3; have p2 : w3.cell? ⟨G, 2, none⟩ = some (.string s) := (hb3.cell (p := ⟨G, 2, none⟩) hz2).trans q2; have p3 : w3.cell? ⟨G, 3, none⟩ = some (.slice A m c) := (hb3.cell (p := ⟨G, 3, none⟩) hz2).trans q3) | (go_at_call 49; refine (cC _ hbw3).mono ?_; intro e w4 hr4; obtain ⟨A2, c2, rfl, hc2, hf2, hbs2, hb4⟩ := hr4.fresh_; clear hr4; obtain ⟨N, hN⟩ : ∃ N, l.length = N := ⟨_, rfl⟩; rw [hN] at hc2 hbs2; simp only [hN]; have HN := Lib.hid hN; clear hN; have hbW4 := hbW3.trans (hb4.mono hbW3.size); have r4 := range_below hr2 hbW4 hz2; have t4 := there_below ht2 hbW4 hz2; have r5 := range_below hr0 hbW4 (Nat.lt_of_le_of_lt (Nat.le_of_lt hz1) hz2); have t5 := there_below ht0 hbW4 (Nat.lt_of_le_of_lt (Nat.le_of_lt hz1) hz2); have e2 : w4.cell? ⟨G, 2, none⟩ = some (.string s) := r4 2 _ rfl; have e3 : w4.cell? ⟨G, 3, none⟩ = some (.slice A m c) := r4 3 _ rfl; have hS4 := hbw3.trans (hb4.mono hbw3.size); have hS5 := hS4.setCell (p := ⟨G, 2, none⟩) (Nat.le_of_lt hz1) (.string s); have hS6 := hS5.setCell (p := ⟨G, 3, none⟩) (Nat.le_of_lt hz1) (.slice A2 N c2); have f2 : w4.frozen? ⟨G, 2, none⟩ = false := (t4 2 (by decide)).2; have f3 : w4.frozen? ⟨G, 3, none⟩ = false := (t4 3 (by decide)).2)))
  all_goals
    have hrx : ((w4.setCell ⟨G, 2, none⟩ (.string s)).setCell ⟨G, 3, none⟩ (.slice A2 N c2)).rangeAt G 0 [.int .i64 k, .int .i64 n, .string s, .slice A2 N c2, .int .i64 o, .int .i64 i] := by
      have := range_set (range_set r4 t4 2 (show 2 < 6 by decide) (.string s)) (there_set t4 _ _) 3 (show 3 < 6 by decide) (.slice A2 N c2)
      rw [Nat.zero_add, Nat.zero_add] at this
      exact this
    have hry : ((w4.setCell ⟨G, 2, none⟩ (.string s)).setCell ⟨G, 3, none⟩ (.slice A2 N c2)).there w.heap.size 0 6 := there_set (there_set t5 _ _) _ _
    have hG3 : G < w3.heap.size := Nat.lt_of_lt_of_le hz2 hbW3.size
    have hbs5 : Bs ((w4.setCell ⟨G, 2, none⟩ (.string s)).setCell ⟨G, 3, none⟩ (.slice A2 N c2)) w4.heap.size A2 N l := by
      refine hbs2.keepOff (g := G) ?_ ?_
      · intro ad e
        have := hf2 ad e
        omega
      · intro p hp hg
        rw [World.cell?_setCell_other _ _ _ _ (fun e => hg (by rw [← e])), World.cell?_setCell_other _ _ _ _ (fun e => hg (by rw [← e]))]
    have hof : Off w.heap.size A2 := fun ad e => by
      have := hf2 ad e
      omega
    have hsz5 : ((w4.setCell ⟨G, 2, none⟩ (.string s)).setCell ⟨G, 3, none⟩ (.slice A2 N c2)).heap.size = w4.heap.size := by rw [World.size_setCell, World.size_setCell]
    clear hS4 hS5 r4 t4 r5 t5 e2 e3 f2 f3 hbs2 hb4 hbW4 p2 p3 hbw3 hbW3 hb3 q2 q3 hr2 ht2 hr0 ht0 hb2 cS cC hf2
    generalize (w4.setCell ⟨G, 2, none⟩ (.string s)).setCell ⟨G, 3, none⟩ (.slice A2 N c2) = w5 at *
    obtain ⟨d, hd, hr⟩ := valInfo
    go_wp2_with (first
      | (refine wpList_load_mid rfl 24 (.tmp 3) rfl G 0 rfl [.int .i64 k, .int .i64 n, .string s, .slice A2 N c2, .int .i64 o, .int .i64 i] d hrx hd hr size_val ?_)
      | (refine wpList_store_mid rfl 24 (.tmp 2) (.tmp 14) rfl w.heap.size 0 (List.toArray [.int .i64 k, .int .i64 n, .string s, .slice A2 N c2, .int .i64 o, .int .i64 i]) rfl rfl hry size_val (all_oneCell_toArray one6) ?_))
    refine bodyPost_ret (results_cell_mid rfl _ _ w.heap.size 0 [.int .i64 k, .int .i64 n, .string s, .slice A2 N c2, .int .i64 o, .int .i64 i] d rfl (World.rangeAt_setCells_same _ _ _ _ hry) hd hr size_val) rfl ?_
    have hln := HN.out
    subst hln
    refine ⟨A2, c2, rfl, hc2, ?_, below_setCells hS6 (Nat.le_refl _) _ _⟩
    refine ((hbs5.keepOff hof fun p hp hg => ?_).more (by rw [size_setCells_, hsz5]; exact Nat.le_refl _))
    exact World.cell?_setCells_out w.heap.size _ 0 w5 p (fun e _ => absurd e hg)
end Go.Proofs.YtkacgdhcacclcaaDoor
