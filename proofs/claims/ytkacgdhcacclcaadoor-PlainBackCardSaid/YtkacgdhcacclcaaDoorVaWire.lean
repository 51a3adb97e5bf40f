/-
  A value as bytes: Wire.
-/
import Derived.Test.YtkacgdhcacclcaaDoorVaNum
import Derived.Test.YtkacgdhcacclcaaDoorVaGet
import Derived.Deep.RegionWith
import Derived.Laws.IdiomStrings
namespace Go.Proofs.YtkacgdhcacclcaaDoor
open Go.RowKit
set_option maxRecDepth 100000
set_option maxRecDepth 100000
set_option linter.unusedVariables false
/-- New bytes: none of them below block b, and they may be written. -/
structure NewB (w : World) (b : Nat) (A : Option Addr) (n : Nat) (l : List UInt8) : Prop where
  bs : Bs w w.heap.size A n l
  fresh : ∀ ad, A = some ad → b ≤ ad.block
  there : ∀ g o, A = some ⟨g, o, none⟩ → 0 < n → w.there g o n
theorem NewB.of_own {w : World} {base n c : Nat} {A : Option Addr} {l : List UInt8} (h : w.ownsRow base 5 1 (.slice A n c) n (U8 l)) : n ≤ c ∧ NewB w base A n l := by
  have hge := own_ge h
  obtain ⟨A', c', e, hc, hb, hm⟩ := own_open h
  cases e
  refine ⟨hc, hb, fun ad e => hge _ (by subst e; rfl), fun g o e hn => ?_⟩
  obtain ⟨g', e', _, _, hmi⟩ := hm hn
  rw [e] at e'
  cases e'
  exact hmi.1
theorem NewB.less {w : World} {b b' n : Nat} {A : Option Addr} {l : List UInt8} (h : NewB w b A n l) (hb : b' ≤ b) : NewB w b' A n l := ⟨h.bs, fun ad e => Nat.le_trans hb (h.fresh ad e), h.there⟩
def WireRet (l : List UInt8) (w : World) (e : Ending) (w' : World) : Prop :=
  ∃ A n c, e = .returned (.slice A n c) ∧ n ≤ c ∧ n = l.length ∧ NewB w' w.heap.size A n l ∧ Below w.heap.size w w'
theorem WireRet.of_own {l : List UInt8} {w w' : World} {e : Ending} {w0 : World} (h : RetOwn 5 l w e w') (hb : Below w0.heap.size w0 w) : WireRet l w0 e w' := by
  obtain ⟨v, rfl, h1, h2⟩ := h
  obtain ⟨A, c, rfl, hc⟩ := own_slice h1
  exact ⟨A, _, c, rfl, hc, rfl, (NewB.of_own h1).2.less hb.size, hb.trans (h2.mono hb.size)⟩
theorem PutRet.wire {n : Int} {size base : Nat} {w w' w0 : World} {e : Ending} (h : PutRet n size base 0 [] w e w') (hb : Below w0.heap.size w0 w) (hB : w0.heap.size ≤ base) : WireRet (bytesQ n size) w0 e w' := by
  obtain ⟨A, c, rfl, hc, ho, hbe⟩ := h
  rw [List.nil_append] at ho
  refine ⟨A, _, c, rfl, hc, by rw [bytesQ_len, Nat.zero_add], (NewB.of_own ho).2.less hB, hb.trans (hbe.mono hB)⟩
theorem conv_row (w : World) (s : ByteArray) : ∃ c w', (convert 9 22 (.string s)).run Tryd.prog w = .ok (.slice (some ⟨w.heap.size, 0, none⟩) s.size c) w' ∧ s.size ≤ c ∧ NewB w' w.heap.size (some ⟨w.heap.size, 0, none⟩) s.size s.data.toList ∧ Below w.heap.size w w' := by
  have h := run_bytes_of_string (P := Tryd.prog) w 9 22 5 s Tryd.underlying9 Tryd.underlying22 Tryd.underlying5
  have hln : s.data.toList.length = s.size := Array.length_toList
  generalize hc : grownCap w s.size 0 5 = c at h
  have hge : s.size ≤ c := by rw [← hc]; exact grownCap_ge ..
  have hrow : ∀ j, j < s.size → (bytesRow s c)[j]? = (U8 s.data.toList)[j]? := fun j hj => by
    rw [bytesRow_at _ _ j hj, U8_get, List.getElem?_eq_getElem (by rw [hln]; exact hj)]
    simp
  have hbz : s.size ≤ (bytesRow s c).size := by unfold bytesRow; simp
  have hcell : ∀ j, (w.drew.alloc (.cells (bytesRow s c) 5 ((bytesRow s c).size, (bytesRow s c).size + 1))).cell? ⟨w.heap.size, j, none⟩ = (bytesRow s c)[j]? := fun j => cell_of_row _ _ _ _ _ _ (heap_alloc_new w.drew _)
  have hsz : (w.drew.alloc (.cells (bytesRow s c) 5 ((bytesRow s c).size, (bytesRow s c).size + 1))).heap.size = w.heap.size + 1 := alloc_size w.drew _
  refine ⟨c, _, h, hge, ⟨⟨hln, fun hn => ⟨w.heap.size, 0, rfl, by rw [hsz]; exact Nat.lt_succ_self _, fun j u hu => ?_⟩⟩, fun ad e => by cases e; exact Nat.le_refl _, fun g o e hn => ?_⟩, (Below.refl _ w).drew.alloc (Nat.le_refl _) _⟩
  · have hlt := (List.getElem?_eq_some_iff.1 hu).1
    rw [Nat.zero_add, hcell, hrow j (by omega), U8_get, hu]
    rfl
  · cases e
    intro j hj
    rw [Nat.zero_add, hcell, hrow j hj]
    obtain ⟨u, hu⟩ := byte_get (l := s.data.toList) (k := j) (by omega)
    refine ⟨by rw [U8_get, hu]; rfl, ?_⟩
    unfold World.frozen?
    rw [show (w.drew.alloc _).heap[w.heap.size]? = _ from heap_alloc_new w.drew _]
    simp
    omega
def wireQ (k n : Int) (s : ByteArray) (l : List UInt8) (o i : Int) : List UInt8 :=
  if k = 1 ∨ k = 5 then bytesQ n (widthQ n) else if k = 2 then bytesQ n 1 else if k = 3 then s.data.toList else if k = 4 then l else if k = 6 then bytesQ o 2 ++ bytesQ i 2 else []
theorem width_in (n : Int) : widthQ n = 1 ∨ widthQ n = 2 ∨ widthQ n = 4 ∨ widthQ n = 8 := by unfold widthQ; (repeat' split) <;> omega
def I64 (n : Int) : Prop := -9223372036854775808 ≤ n ∧ n ≤ 9223372036854775807
set_option maxHeartbeats 8000000 in
theorem wire_l (V : Value) (k n : Int) (s : ByteArray) (A : Option Addr) (m c : Nat) (o i : Int) (l : List UInt8) (w : World) (h : FlatOf V k n s A m c o i) (hn : I64 n) (ho : I64 o) (hi : I64 i) (B : Nat) (hbs : Bs w B A m l) (hB : B ≤ w.heap.size) (hm : m ≤ 1000000) :
    Calls Tryd.prog 28 #[V] w (WireRet (wireQ k n s l o i) w) := by
  have H := Lib.hid h
  have hnil : ∀ W : World, W.ownsRow W.heap.size 5 1 (.slice none 0 0) 0 (U8 []) := fun W => World.ownsRow_nil _ _ _ _
  clear h
  unfold wireQ
  by_cases k1 : k = 1
  · subst k1
    rw [if_pos (by decide)]
    have cW := fun W => width_f n W hn.1 hn.2
    have hw4 := width_in n
    obtain ⟨z, hz⟩ : ∃ z, widthQ n = z := ⟨_, rfl⟩
    rw [hz] at cW hw4 ⊢
    have cP := fun W => put_f n z W.heap.size 0 none 0 [] W hw4 (hnil W) (Nat.le_refl _) (by omega) hn.1 hn.2
    clear hz hw4 hbs hB hm hnil hn ho hi
    go_enter Tryd.func28, Tryd.ntmps28
    go_wp2_with (go_at_call 50; refine (H.out _).mono ?_; rintro e w1 ⟨rfl, hb⟩)
    refine wp_at_world (F := fun W2 => W2.rangeAt w1.heap.size 0 [.int .i64 1, .int .i64 n, .string s, .slice A m c, .int .i64 o, .int .i64 i] ∧ Below w.heap.size w W2 ∧ w1.heap.size < W2.heap.size) ⟨range_newB w1 _ _ rfl, hb.alloc hb.size _, by rw [alloc_size]; exact Nat.lt_succ_self _⟩ ?_
    rintro W2 ⟨hr2, hb2, hz2⟩
    generalize w1.heap.size = G at *
    clear hb H
    have q1 : W2.cell? ⟨G, 1, none⟩ = some (.int .i64 n) := hr2 1 _ rfl
    clear hr2
    go_region_with ((first | (go_at_call 54; refine (cW _).mono ?_; rintro e w' ⟨rfl, rfl⟩) | (go_at_call 53; refine (cP _).mono ?_; intro e w3 hp; have hp2 := hp.wire (w0 := w) hb2.drew hb2.size; clear hp; obtain ⟨A3, n3, c3, rfl, hw3⟩ := hp2; have HW := Lib.hid hw3; clear hw3)))
    all_goals
      go_wp2
      go_ret
      exact ⟨A3, n3, c3, rfl, HW.out⟩
  by_cases k5 : k = 5
  · subst k5
    rw [if_pos (by decide)]
    have cW := fun W => width_f n W hn.1 hn.2
    have hw4 := width_in n
    obtain ⟨z, hz⟩ : ∃ z, widthQ n = z := ⟨_, rfl⟩
    rw [hz] at cW hw4 ⊢
    have cP := fun W => put_f n z W.heap.size 0 none 0 [] W hw4 (hnil W) (Nat.le_refl _) (by omega) hn.1 hn.2
    clear hz hw4 hbs hB hm hnil hn ho hi
    go_enter Tryd.func28, Tryd.ntmps28
    go_wp2_with (go_at_call 50; refine (H.out _).mono ?_; rintro e w1 ⟨rfl, hb⟩)
    refine wp_at_world (F := fun W2 => W2.rangeAt w1.heap.size 0 [.int .i64 5, .int .i64 n, .string s, .slice A m c, .int .i64 o, .int .i64 i] ∧ Below w.heap.size w W2 ∧ w1.heap.size < W2.heap.size) ⟨range_newB w1 _ _ rfl, hb.alloc hb.size _, by rw [alloc_size]; exact Nat.lt_succ_self _⟩ ?_
    rintro W2 ⟨hr2, hb2, hz2⟩
    generalize w1.heap.size = G at *
    clear hb H
    have q1 : W2.cell? ⟨G, 1, none⟩ = some (.int .i64 n) := hr2 1 _ rfl
    clear hr2
    go_region_with ((first | (go_at_call 54; refine (cW _).mono ?_; rintro e w' ⟨rfl, rfl⟩) | (go_at_call 53; refine (cP _).mono ?_; intro e w3 hp; have hp2 := hp.wire (w0 := w) hb2.drew hb2.size; clear hp; obtain ⟨A3, n3, c3, rfl, hw3⟩ := hp2; have HW := Lib.hid hw3; clear hw3)))
    all_goals
      go_wp2
      go_ret
      exact ⟨A3, n3, c3, rfl, HW.out⟩
  rw [if_neg (by omega)]
  have f1 : (k == 1) = false := beq_eq_false_iff_ne.2 k1
  have f5 : (k == 5) = false := beq_eq_false_iff_ne.2 k5
  by_cases k2 : k = 2
  · subst k2
    rw [if_pos rfl]
    have cP := fun W => put_f n 1 W.heap.size 0 none 0 [] W (.inl rfl) (hnil W) (Nat.le_refl _) (by omega) hn.1 hn.2
    rw [show ((1 : Nat) : Int) = 1 from rfl] at cP
    clear hbs hB hm hnil hn ho hi f1 f5 k1 k5
    go_enter Tryd.func28, Tryd.ntmps28
    go_wp2_with (go_at_call 50; refine (H.out _).mono ?_; rintro e w1 ⟨rfl, hb⟩)
    have hb2 := hb.alloc hb.size (.cells #[.int .i64 2, .int .i64 n, .string s, .slice A m c, .int .i64 o, .int .i64 i] 24)
    go_wp2_with (go_at_call 53; refine (cP _).mono ?_; intro e w3 hp; have hp2 := hp.wire (w0 := w) hb2 hb2.size; clear hp; obtain ⟨A3, n3, c3, rfl, hw3⟩ := hp2; have HW := Lib.hid hw3; clear hw3)
    go_ret
    exact ⟨A3, n3, c3, rfl, HW.out⟩
  have f2 : (k == 2) = false := beq_eq_false_iff_ne.2 k2
  rw [if_neg k2]
  by_cases k3 : k = 3
  · subst k3
    rw [if_pos rfl]
    clear hbs hB hm hnil hn ho hi f1 f5 f2 k1 k5 k2
    go_enter Tryd.func28, Tryd.ntmps28
    go_wp2_with fail
    refine (H.out _).mono ?_
    rintro e w1 ⟨rfl, hb⟩
    have hb2 := hb.alloc hb.size (.cells #[.int .i64 3, .int .i64 n, .string s, .slice A m c, .int .i64 o, .int .i64 i] 24)
    obtain ⟨c3, w3, hcv, hc3, hN3, hb3⟩ := conv_row (w1.alloc (.cells #[.int .i64 3, .int .i64 n, .string s, .slice A m c, .int .i64 o, .int .i64 i] 24)) s
    have hz3 := hb2.size
    rw [alloc_size] at hcv hN3 hb3 hz3
    have HW : Hid (s.size ≤ c3 ∧ s.size = s.data.toList.length ∧ NewB w3 w.heap.size (some ⟨w1.heap.size + 1, 0, none⟩) s.size s.data.toList ∧ Below w.heap.size w w3) := ⟨hc3, Array.length_toList.symm, hN3.less hz3, hb2.trans (hb3.mono hz3)⟩
    clear hc3 hN3 hb3 H hb hz3 hb2
    go_wp2
    go_ret
    exact ⟨_, _, c3, rfl, HW⟩
  have f3 : (k == 3) = false := beq_eq_false_iff_ne.2 k3
  rw [if_neg k3]
  by_cases k4 : k = 4
  · subst k4
    rw [if_pos rfl]
    have cC := fun W (hb : Below w.heap.size w W) => clone_f A m c l W B (hbs.below' hb hB) (by have := hb.size; omega) (by omega)
    clear hbs hB hm hnil hn ho hi f1 f5 f2 f3 k1 k5 k2 k3
    go_enter Tryd.func28, Tryd.ntmps28
    go_wp2_with (go_at_call 50; refine (H.out _).mono ?_; rintro e w1 ⟨rfl, hb⟩)
    have hb2 := hb.alloc hb.size (.cells #[.int .i64 4, .int .i64 n, .string s, .slice A m c, .int .i64 o, .int .i64 i] 24)
    have cC4 := cC _ hb2
    go_wp2_with fail
    refine cC4.mono ?_
    intro e w3 hp
    have hp2 := WireRet.of_own hp hb2
    clear hp
    obtain ⟨A3, n3, c3, rfl, hw3⟩ := hp2
    have HW := Lib.hid hw3
    clear hw3
    go_wp2
    go_ret
    exact ⟨A3, n3, c3, rfl, HW.out⟩
  have f4 : (k == 4) = false := beq_eq_false_iff_ne.2 k4
  rw [if_neg k4]
  by_cases k6 : k = 6
  · subst k6
    rw [if_pos rfl]
    have cP := fun W => put_f o 2 W.heap.size 0 none 0 [] W (.inr (.inl rfl)) (hnil W) (Nat.le_refl _) (by omega) ho.1 ho.2
    have cQ := fun W base A3 c3 (hown : W.ownsRow base 5 1 (.slice A3 (0 + 2) c3) (0 + 2) (U8 ([] ++ bytesQ o 2))) (hB : base ≤ W.heap.size) => put_f i 2 base (0 + 2) A3 c3 ([] ++ bytesQ o 2) W (.inr (.inl rfl)) hown hB (by omega) hi.1 hi.2
    rw [show ((2 : Nat) : Int) = 2 from rfl] at cP cQ
    rw [show 0 + 2 = 2 from rfl, List.nil_append] at cQ
    clear hbs hB hm hnil hn ho hi f1 f5 f2 f3 f4 k1 k5 k2 k3 k4
    go_enter Tryd.func28, Tryd.ntmps28
    go_wp2_with (go_at_call 50; refine (H.out _).mono ?_; rintro e w1 ⟨rfl, hb⟩)
    refine wp_at_world (F := fun W2 => W2.rangeAt w1.heap.size 0 [.int .i64 6, .int .i64 n, .string s, .slice A m c, .int .i64 o, .int .i64 i] ∧ Below w.heap.size w W2 ∧ w1.heap.size < W2.heap.size) ⟨range_newB w1 _ _ rfl, hb.alloc hb.size _, by rw [alloc_size]; exact Nat.lt_succ_self _⟩ ?_
    rintro W2 ⟨hr2, hb2, hz2⟩
    generalize w1.heap.size = G at *
    clear hb H
    have q4 : W2.cell? ⟨G, 4, none⟩ = some (.int .i64 o) := hr2 4 _ rfl
    have q5 : W2.cell? ⟨G, 5, none⟩ = some (.int .i64 i) := hr2 5 _ rfl
    have q0 : W2.cell? ⟨G, 0, none⟩ = some (.int .i64 6) := hr2 0 _ rfl
    clear hr2
    have cP2 := cP W2.drew
    go_region_with ((first | (go_at_call 53; refine cQ3.mono ?_; rintro e w5 ⟨A5, c5, rfl, hc5, ho5, hb5⟩) | (go_at_call 53; refine cP2.mono ?_; rintro e w3 ⟨A3, c3, rfl, hc3, ho3, hb3⟩; rw [List.nil_append, show 0 + 2 = 2 from rfl] at ho3; have p5 : w3.cell? ⟨G, 5, none⟩ = some (.int .i64 i) := (hb3.cell (p := ⟨G, 5, none⟩) hz2).trans q5; have hb4 := hb2.drew.trans (hb3.mono hb2.size); have cQ3 := cQ w3 _ A3 c3 ho3 hb3.size; clear ho3)))
    all_goals
      have HW : Hid (2 + 2 ≤ c5 ∧ 2 + 2 = (bytesQ o 2 ++ bytesQ i 2).length ∧ NewB w5 w.heap.size A5 (2 + 2) (bytesQ o 2 ++ bytesQ i 2) ∧ Below w.heap.size w w5) := ⟨hc5, by rw [List.length_append, bytesQ_len, bytesQ_len], (NewB.of_own ho5).2.less hb2.size, hb4.trans (hb5.mono hb2.size)⟩
      clear hc5 ho5 hb5 cQ3 hb4 p5 hb3 hc3 cP2 q0 q4 q5 cP cQ
      go_wp2
      go_ret
      exact ⟨A5, _, c5, rfl, HW⟩
  have f6 : (k == 6) = false := beq_eq_false_iff_ne.2 k6
  rw [if_neg k6]
  clear hbs hB hm hnil hn ho hi k1 k5 k2 k3 k4 k6
  have HW := fun (w1 : World) (hb : Below w.heap.size w w1) => (⟨none, 0, 0, rfl, Nat.le_refl _, rfl, ⟨Bs.empty _ _ _, (fun ad e => by cases e), (fun g o e => by cases e)⟩, hb⟩ : WireRet [] w (.returned (.slice none 0 0)) w1)
  go_enter Tryd.func28, Tryd.ntmps28
  go_wp2_with (go_at_call 50; refine (H.out _).mono ?_; rintro e w1 ⟨rfl, hb⟩)
  go_ret
  exact HW _ (hb.alloc hb.size _)
end Go.Proofs.YtkacgdhcacclcaaDoor
