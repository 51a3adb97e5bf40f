/-
  The law ValueWires.
-/
import Derived.Test.YtoelmkcgdoabeaaDoorVaAlive
import Derived.Test.YtoelmkcgdoabeaaDoorVaRUnw
import Derived.Test.YtoelmkcgdoabeaaDoorVaSame13
import Derived.Test.YtoelmkcgdoabeaaDoorVaUnw2
import Derived.Test.YtoelmkcgdoabeaaDoorRel
namespace Go.Proofs.YtoelmkcgdoabeaaDoor
open Go.RowKit
set_option maxRecDepth 100000
set_option linter.unusedVariables false
theorem RUnwRet.fails {k : Int} {A : Option Addr} {m c : Nat} {l : List UInt8} {w w' : World} {e : Ending} (h : RUnwRet k A m c l w e w') (he : unwE k l ≠ 0) : e = .returned (.tuple #[.agg #[.int .i64 0, .int .i64 0, .string ⟨#[]⟩, .slice none 0 0, .int .i64 0, .int .i64 0], .int .i64 (unwE k l)]) ∧ Below w.heap.size w w' := by
  have h2 := h.2
  rw [if_neg he] at h2
  exact ⟨h2, h.1⟩
theorem RUnwRet.val {k : Int} {A : Option Addr} {m c : Nat} {l : List UInt8} {w w' : World} {e : Ending} (h : RUnwRet k A m c l w e w') (he : unwE k l = 0) : e = .returned (.tuple #[.agg #[.int .i64 k, .int .i64 (unwN k l), .string (unwS k l), .slice (if k = 4 then A else none) (if k = 4 then m else 0) (if k = 4 then c else 0), .int .i64 (unwO k l), .int .i64 (unwI k l)], .int .i64 0]) ∧ Below w.heap.size w w' := by
  have h2 := h.2
  rw [if_pos he] at h2
  exact ⟨h2, h.1⟩
theorem not_wanted {ops : Array Oper} {o : Oper} {a : Act} {g : Nat} (h : o.guard = some (g, true)) (hg : left ops a g = .bool false) : ¬ Region.wanted o (yielded ops a.tmps) = true := by
  unfold Region.wanted
  rw [h]
  unfold left at hg
  unfold yielded
  cases hx : (ops[g]?).bind (·.dst) with
  | none => rw [hx] at hg; cases hg
  | some t =>
    rw [hx] at hg
    simp only [Act.eval] at hg
    cases ht : a.tmps[t]? with
    | none => simp [ht, undef] at hg
    | some v =>
      simp [ht] at hg
      subst hg
      simp [hx, ht]
/-- What each operation of the round's line leaves. -/
def VwR (vx : Value) (k n : Int) (s : ByteArray) (o i : Int) (A2 : Option Addr) (n2 c2 n1 : Nat) (L : List UInt8) (j : Nat) (w : World) (v : Value) : Prop :=
  match j with
  | 0 | 1 | 4 | 12 => v = .int .i64 0
  | 7 | 8 => True
  | 13 | 14 | 21 => v = .bool true
  | 15 | 18 => v = vx
  | 19 => ∃ A c, v = .agg #[.int .i64 k, .int .i64 n, .string s, .slice A n1 c, .int .i64 o, .int .i64 i] ∧ Bs w w.heap.size A n1 L
  | 20 => v = .agg #[.int .i64 k, .int .i64 n, .string s, .slice A2 n2 c2, .int .i64 o, .int .i64 i]
  | _ => v = .bool false
theorem VwR.grow {vx : Value} {k n : Int} {s : ByteArray} {o i : Int} {A2 : Option Addr} {n2 c2 n1 : Nat} {L : List UInt8} (j : Nat) (w w' : World) (v : Value) (hb : Below w.heap.size w w') (h : VwR vx k n s o i A2 n2 c2 n1 L j w v) : VwR vx k n s o i A2 n2 c2 n1 L j w' v := by
  unfold VwR at h ⊢
  split at h
  all_goals first | exact h | (obtain ⟨A, c, h1, h2⟩ := h; exact ⟨A, c, h1, (h2.below hb).more hb.size⟩)
set_option maxHeartbeats 8000000 in
theorem vwires_law (K : Int) (A : Option Addr) (m c : Nat) (l : List UInt8) (w : World) (hbs : Bs w w.heap.size A m l) (hm : (m : Int) ≤ 9223372036854775807) (hc : m ≤ c) (hT : Tabs w) : Calls Tryd.prog 10 #[.int .i64 K, .slice A m c] w fun e w' => e = .returned (.bool true) ∧ Below w.heap.size w w' := by
  have cA := alive14 w hT
  by_cases hb : m ≤ 1000
  · have HT := Lib.hid (And.intro hT (And.intro hbs hc))
    clear hT hbs hc hm
    go_enter Tryd.func10, Tryd.ntmps10
    go_wp2_with fail
    refine cA.mono ?_
    rintro e w0 ⟨rfl, b0⟩
    go_wp2_with fail
    obtain ⟨G, hG⟩ : ∃ G, w0.heap.size = G := ⟨_, rfl⟩
    have hwG : w.heap.size ≤ G := by rw [← hG]; exact b0.size
    obtain ⟨W1, hW1⟩ : ∃ x, x = w0.alloc (.cells #[.int .i64 K, .int .i64 1, .int .i64 2, .int .i64 3, .int .i64 4, .int .i64 5, .int .i64 6] 3) := ⟨_, rfl⟩
    have hGW : G < W1.heap.size := by rw [hW1, alloc_size, hG]; exact Nat.lt_succ_self _
    have b1 : Below w.heap.size w W1 := by rw [hW1]; exact b0.alloc b0.size _
    have hcell : Hid (∀ (j : Nat), j < 7 → ∃ κ : Int, ∀ W, Below W1.heap.size W1 W → W.cell? ⟨G, j, none⟩ = some (.int .i64 κ)) := by
      intro j hj
      have hr := range_newB w0 #[.int .i64 K, .int .i64 1, .int .i64 2, .int .i64 3, .int .i64 4, .int .i64 5, .int .i64 6] 3 rfl
      rw [← hW1, hG] at hr
      have : ∀ κ : Int, (#[Value.int .i64 K, .int .i64 1, .int .i64 2, .int .i64 3, .int .i64 4, .int .i64 5, .int .i64 6] : Array Value).toList[j]? = some (.int .i64 κ) → ∀ W, Below W1.heap.size W1 W → W.cell? ⟨G, j, none⟩ = some (.int .i64 κ) := by
        intro κ h W hW
        have hx := (range_below hr hW hGW) j _ h
        rwa [Nat.zero_add] at hx
      rcases j with _ | _ | _ | _ | _ | _ | _ | j
      · exact ⟨K, this _ rfl⟩
      · exact ⟨1, this _ rfl⟩
      · exact ⟨2, this _ rfl⟩
      · exact ⟨3, this _ rfl⟩
      · exact ⟨4, this _ rfl⟩
      · exact ⟨5, this _ rfl⟩
      · exact ⟨6, this _ rfl⟩
      · omega
    have H1 := Lib.hid (And.intro b1 (And.intro hGW hwG))
    simp only [hG]
    rw [← hW1]
    clear hW1 hG cA b0 hwG b1 hGW
    go_loopw [19] (fun iv wr => ∃ k : Nat, k ≤ 7 ∧ iv = .int .i64 (k : Int) ∧ Aside (Below W1.heap.size W1 wr)) (fun iv _ => 7 - (intOf iv).toNat)
    case atStart => exact ⟨0, by omega, rfl, Below.refl _ _⟩
    case round =>
      obtain ⟨k, hk, rfl, hrel⟩ := hrel
      by_cases hlt : k < 7
      · have hbr := hrel.out
        obtain ⟨κ, hκ⟩ := hcell.out k hlt
        have hcr := hκ wr hbr
        clear hκ hcell hrel
        have hbw : Below w.heap.size w wr := H1.out.1.trans (hbr.mono H1.out.1.size)
        have cU := unwire_f κ A m c l wr w.heap.size (HT.out.2.1.below' hbw (Nat.le_refl _)) hbw.size (by omega) HT.out.2.2 (HT.out.1.below hbw HT.out.1.size)
        have cR := fun W (hb : Below wr.heap.size wr W) => runwire_f κ A m c l W w.heap.size (HT.out.2.1.below' (hbw.trans (hb.mono hbw.size)) (Nat.le_refl _)) (Nat.le_trans hbw.size hb.size) (by omega)
        have Hr := Lib.hid (And.intro hbr hbw)
        clear hbr hbw
        have hkI : (k : Int) < 7 := by omega
        by_cases he : unwE κ l = 0
        · have hk0 : κ ≠ 0 := by
            rintro rfl
            simp [unwE] at he
          have hl := HT.out.2.1.len
          rw [he] at cU
          have cU2 := cU.mono fun e w' h => OfRet.val h
          have cR2 := fun W hb => (cR W hb).mono fun e w' h => RUnwRet.val h he
          have hS : (unwS κ l).size ≤ 1000000 := by
            unfold unwS
            split
            · show l.toArray.size ≤ _
              rw [List.size_toArray, hl]
              omega
            · exact Nat.zero_le _
          have hLs : ∀ W, Below w.heap.size w W → Bs W w.heap.size (if κ = 4 then A else none) (if κ = 4 then m else 0) (unwL κ l) := by
            intro W hW
            unfold unwL
            by_cases h4 : κ = 4
            · rw [if_pos h4, if_pos h4, if_pos h4]
              exact HT.out.2.1.below' hW (Nat.le_refl _)
            · rw [if_neg h4, if_neg h4, if_neg h4]
              exact Bs.empty _ _ _
          have hLm : (unwL κ l).length ≤ 1000000 := by
            unfold unwL
            split
            · omega
            · exact Nat.zero_le _
          generalize unwN κ l = N at *
          generalize unwS κ l = S at *
          generalize unwL κ l = L at *
          generalize unwO κ l = O at *
          generalize unwI κ l = I at *
          generalize (if κ = 4 then A else none) = A2 at *
          generalize (if κ = 4 then m else 0) = n2 at *
          generalize (if κ = 4 then c else 0) = c2 at *
          have HL := Lib.hid (And.intro hLs (And.intro hLm (And.intro hS hk0)))
          clear hLs hLm hS hk0 cU cR hl he
          go_wp2_with fail
          refine cU2.mono ?_
          intro e w2 h2
          obtain ⟨x, rfl, hx, b2⟩ := h2
          have cR3 := cR2 w2 b2
          clear cU2 cR2 hcr
          have qA := vl_nilq x (by rw [hx.k]; exact HL.out.2.2.2)
          have gA := vl_guard x (by rw [hx.k]; exact HL.out.2.2.2)
          have fA : FlatOf x.val κ N S x.a x.l x.c O I := by
            have := x.flatOf
            rwa [hx.k, hx.n, hx.s, hx.o, hx.i] at this
          have FA := Lib.hid (And.intro fA hx.bs)
          clear fA hx
          generalize x.val = vx at *
          go_wp2_with fail
          refine cR3.mono ?_
          rintro e w3 ⟨rfl, b3⟩
          go_wp2_with fail
          have hw4 : Below wr.heap.size wr (w3.alloc (.cells #[.int .i64 κ, .int .i64 N, .string S, .slice A2 n2 c2, .int .i64 O, .int .i64 I] 24)) := by
            have q3 := b2.trans (b3.mono b2.size)
            exact q3.alloc q3.size _
          have hr4 := range_newB w3 #[.int .i64 κ, .int .i64 N, .string S, .slice A2 n2 c2, .int .i64 O, .int .i64 I] 24 rfl
          have hz4 : w3.heap.size < (w3.alloc (.cells #[.int .i64 κ, .int .i64 N, .string S, .slice A2 n2 c2, .int .i64 O, .int .i64 I] 24)).heap.size := by rw [alloc_size]; exact Nat.lt_succ_self _
          have hb24 : Below w2.heap.size w2 (w3.alloc (.cells #[.int .i64 κ, .int .i64 N, .string S, .slice A2 n2 c2, .int .i64 O, .int .i64 I] 24)) := b3.alloc b3.size _
          clear b2 b3 cR3
          generalize w3.alloc (.cells #[.int .i64 κ, .int .i64 N, .string S, .slice A2 n2 c2, .int .i64 O, .int .i64 I] 24) = w4 at *
          generalize w3.heap.size = g at *
          have hbx := (FA.out.2.below hb24).more hb24.size
          have cV := fun W (hW : Below w4.heap.size w4 W) => val_l vx κ N S x.a x.l x.c O I L W FA.out.1 HL.out.2.2.1 w4.heap.size (hbx.below' hW (Nat.le_refl _)) hW.size (by have := hbx.len; have := HL.out.2.1; omega)
          have hbw4 : Below w.heap.size w w4 := Hr.out.2.trans (hw4.mono Hr.out.2.size)
          have cS := fun W A1 c1 (hW : Below w4.heap.size w4 W) (h1 : Bs W W.heap.size A1 L.length L) => rsame13_yes κ N S O I L A1 A2 L.length c1 n2 c2 W W.heap.size w.heap.size h1 (HL.out.1 W (hbw4.trans (hW.mono hbw4.size))) (Nat.le_refl _) (Nat.le_trans hbw4.size hW.size) HL.out.2.1
          have hall : ∀ W, Below w4.heap.size w4 W → Below W1.heap.size W1 W := fun W hW => Hr.out.1.trans ((hw4.trans (hW.mono hw4.size)).mono Hr.out.1.size)
          have hcl : ∀ W, Below w4.heap.size w4 W → W.rangeAt g 0 [.int .i64 κ, .int .i64 N, .string S, .slice A2 n2 c2, .int .i64 O, .int .i64 I] := fun W hW => range_below hr4 hW hz4
          clear hr4 hz4 hb24 hbx hbw4 FA HL hw4
          refine wp_region_rel (fun w' => Below w4.heap.size w4 w') (fun w w' => Below w.heap.size w w') (VwR vx κ N S O I A2 n2 c2 L.length L) [(7, vx), (8, .int .i64 0), (9, .pointer (some ⟨g, 0, none⟩)), (10, .int .i64 0)] (by kernel_rfl) (by kernel_rfl) (by kernel_rfl) ?base (Below.drew (Below.refl _ _)) (fun i w w' v hb h => VwR.grow i w w' v hb h) ?steps ?fin
          case base =>
            intro x hx
            simp only [List.mem_cons, List.not_mem_nil, or_false] at hx
            rcases hx with rfl | rfl | rfl | rfl <;> exact ⟨rfl, rfl⟩
          case steps =>
            refine steps_cons ?_ (steps_cons ?_ (steps_cons ?_ (steps_cons ?_ (steps_cons ?_ (steps_cons ?_ (steps_cons ?_ (steps_cons ?_ (steps_cons ?_ (steps_cons ?_ (steps_cons ?_ (steps_cons ?_ (steps_cons ?_ (steps_cons ?_ (steps_cons ?_ (steps_cons ?_ (steps_cons ?_ (steps_cons ?_ (steps_cons ?_ (steps_cons ?_ (steps_cons ?_ (steps_cons ?_ (steps_cons ?_ (steps_cons ?_ (steps_cons ?_ (steps_cons ?_ steps_nil)))))))))))))))))))))))))
            · intro a w K hS hB hR hK
              rw [if_pos (wanted_none rfl)]
              have h8 := tmp_is (hB.2.1)
              go_simp
              exact hK (.int .i64 0) w hS (Below.refl _ w) rfl
            · intro a w K hS hB hR hK
              rw [if_pos (wanted_none rfl)]
              have h10 := tmp_is (hB.2.2.2.1)
              go_simp
              exact hK (.int .i64 0) w hS (Below.refl _ w) rfl
            · intro a w K hS hB hR hK
              rw [if_pos (wanted_none rfl)]
              have h35 := tmp_is (hR.1)
              have h36 := tmp_is (hR.2.1)
              go_simp
              exact hK (.bool false) w hS (Below.refl _ w) rfl
            · intro a w K hS hB hR hK
              rw [if_pos (wanted_none rfl)]
              have h37 := tmp_is (hR.1)
              go_simp
              exact hK (.bool false) w hS (Below.refl _ w) rfl
            · intro a w K hS hB hR hK
              rw [if_pos (wanted_some rfl (hR.1))]
              have h8 := tmp_is (hB.2.1)
              go_simp
              exact hK (.int .i64 0) w hS (Below.refl _ w) rfl
            · intro a w K hS hB hR hK
              rw [if_pos (wanted_some rfl (hR.2.1))]
              have h39 := tmp_is (hR.1)
              go_simp
              exact hK (.bool false) w hS (Below.refl _ w) rfl
            · intro a w K hS hB hR hK
              rw [if_pos (wanted_some rfl (hR.2.1))]
              have h40 := tmp_is (hR.1)
              go_simp
              exact hK (.bool false) w hS (Below.refl _ w) rfl
            · intro a w K hS hB hR hK
              rw [if_neg (not_wanted rfl (hR.1))]
              exact hK undef w hS (Below.refl _ w) trivial
            · intro a w K hS hB hR hK
              rw [if_neg (not_wanted rfl (hR.2.1))]
              exact hK undef w hS (Below.refl _ w) trivial
            · intro a w K hS hB hR hK
              rw [if_pos (wanted_some rfl (hR.2.2.1))]
              have h41 := tmp_is (hR.1)
              go_simp
              exact hK (.bool false) w hS (Below.refl _ w) rfl
            · intro a w K hS hB hR hK
              rw [if_pos (wanted_none rfl)]
              have h38 := tmp_is (hR.1)
              have h44 := tmp_is (hR.2.1)
              go_simp
              exact hK (.bool false) w hS (Below.refl _ w) rfl
            · intro a w K hS hB hR hK
              rw [if_pos (wanted_none rfl)]
              have h45 := tmp_is (hR.1)
              go_simp
              exact hK (.bool false) w hS (Below.refl _ w) rfl
            · intro a w K hS hB hR hK
              rw [if_pos (wanted_some rfl (hR.1))]
              have h8 := tmp_is (hB.2.1)
              go_simp
              exact hK (.int .i64 0) w hS (Below.refl _ w) rfl
            · intro a w K hS hB hR hK
              rw [if_pos (wanted_some rfl (hR.2.1))]
              have h47 := tmp_is (hR.1)
              go_simp
              exact hK (.bool true) w hS (Below.refl _ w) rfl
            · intro a w K hS hB hR hK
              rw [if_pos (wanted_some rfl (hR.2.1))]
              have h48 := tmp_is (hR.1)
              go_simp
              exact hK (.bool true) w hS (Below.refl _ w) rfl
            · intro a w K hS hB hR hK
              rw [if_pos (wanted_some rfl (hR.1))]
              have h7 := tmp_is (hB.1)
              go_simp
              exact hK vx w hS (Below.refl _ w) rfl
            · intro a w K hS hB hR hK
              rw [if_pos (wanted_some rfl (hR.2.1))]
              have h50 := tmp_is (hR.1)
              go_simp
              exact hK (.bool false) w hS (Below.refl _ w) rfl
            · intro a w K hS hB hR hK
              rw [if_pos (wanted_some rfl (hR.2.1))]
              have h51 := tmp_is (hR.1)
              go_simp
              exact hK (.bool false) w hS (Below.refl _ w) rfl
            · intro a w K hS hB hR hK
              rw [if_pos (wanted_some rfl (hR.1))]
              have h7 := tmp_is (hB.1)
              go_simp
              exact hK vx w hS (Below.refl _ w) rfl
            · intro a w K hS hB hR hK
              rw [if_pos (wanted_some rfl (hR.2.1))]
              have h53 := tmp_is (hR.1)
              go_simp
              refine (cV _ hS).mono ?_
              rintro e w' ⟨A5, c5, rfl, _, hB5, hb⟩
              exact hK _ _ (hS.trans (hb.mono hS.size)) hb ⟨A5, c5, rfl, hB5⟩
            · intro a w K hS hB hR hK
              rw [if_pos (wanted_some rfl (hR.1))]
              have h9 := tmp_is (hB.2.2.1)
              have h5 := hcl w hS
              have r0 := h5 0 _ rfl
              have r1 := h5 1 _ rfl
              have r2 := h5 2 _ rfl
              have r3 := h5 3 _ rfl
              have r4 := h5 4 _ rfl
              have r5 := h5 5 _ rfl
              go_simp
              exact hK (.agg #[.int .i64 κ, .int .i64 N, .string S, .slice A2 n2 c2, .int .i64 O, .int .i64 I]) w hS (Below.refl _ w) rfl
            · intro a w K hS hB hR hK
              rw [if_pos (wanted_some rfl (hR.2.2.2.1))]
              have h55 := tmp_is (hR.2.1)
              obtain ⟨A5, c5, hv, hB5⟩ := hR.1
              have h54 := tmp_is hv
              go_simp
              refine (cS w A5 c5 hS hB5).mono ?_
              rintro e w' ⟨rfl, hb⟩
              exact hK _ _ (hS.trans (hb.mono hS.size)) hb rfl
            · intro a w K hS hB hR hK
              rw [if_pos (wanted_some rfl (hR.2.1))]
              have h56 := tmp_is (hR.1)
              go_simp
              exact hK (.bool false) w hS (Below.refl _ w) rfl
            · intro a w K hS hB hR hK
              rw [if_pos (wanted_some rfl (hR.2.2.1))]
              have h52 := tmp_is (hR.1)
              have h57 := tmp_is (hR.2.1)
              go_simp
              exact hK (.bool false) w hS (Below.refl _ w) rfl
            · intro a w K hS hB hR hK
              rw [if_pos (wanted_some rfl (hR.2.2.1))]
              have h49 := tmp_is (hR.1)
              have h58 := tmp_is (hR.2.1)
              go_simp
              exact hK (.bool false) w hS (Below.refl _ w) rfl
            · intro a w K hS hB hR hK
              rw [if_pos (wanted_none rfl)]
              have h46 := tmp_is (hR.1)
              have h59 := tmp_is (hR.2.1)
              go_simp
              exact hK (.bool false) w hS (Below.refl _ w) rfl
          case fin =>
            intro a w8 hS8 ha hR
            have h60 : a.eval (.tmp 60) = .bool false := deps_mem _ hR 25 (by decide)
            have hbx := hall w8 hS8
            clear hR hS8 cV cS hcl hall
            simp only [pin] at ha
            rw [ha]
            simp only [List.setIfInBounds_toArray, List.set_cons_zero, List.set_cons_succ, h60]
            clear ha h60
            go_wp2
            go_roundw
            case rel => exact ⟨k + 1, by omega, by go_num, (show Aside _ from hbx)⟩
            case measure => simp [intOf]; omega
        · have cU2 := cU.mono fun e w' h => OfRet.fails h he
          have cR2 := fun W hb => (cR W hb).mono fun e w' h => RUnwRet.fails h he
          clear cU cR
          go_wp2_with fail
          refine cU2.mono ?_
          rintro e w2 ⟨rfl, b2⟩
          have cR3 := cR2 w2 b2
          clear cU2 cR2 hcr
          go_wp2_with fail
          refine cR3.mono ?_
          rintro e w3 ⟨rfl, b3⟩
          go_wp2_with fail
          have hbx : Below W1.heap.size W1 (w3.alloc (.cells #[.int .i64 0, .int .i64 0, .string ⟨#[]⟩, .slice none 0 0, .int .i64 0, .int .i64 0] 24)) := by
            have q2 := Hr.out.1.trans (b2.mono Hr.out.1.size)
            have q3 := q2.trans (b3.mono q2.size)
            exact q3.alloc q3.size _
          clear b2 b3
          generalize w3.alloc (.cells #[.int .i64 0, .int .i64 0, .string ⟨#[]⟩, .slice none 0 0, .int .i64 0, .int .i64 0] 24) = w4 at *
          generalize unwE κ l = er at *
          have f1 : (er != er) = false := by simp
          have f2 : (er != 0) = true := by simpa using he
          have f3 : (er == 0) = false := by simpa using he
          clear he
          go_quiet (fail)
          go_wp2
          go_roundw
          case rel => exact ⟨k + 1, by omega, by go_num, (show Aside _ from hbx.trans (drewN_below _ _ _))⟩
          case measure => simp [intOf]; omega
      · obtain rfl : k = 7 := by omega
        have hbr := hrel.out
        have hkI : ¬ ((7 : Nat) : Int) < 7 := by omega
        have hbw := H1.out.1.trans (hbr.mono H1.out.1.size)
        clear hrel hbr hcell H1 HT
        go_wp2
        go_ret
        exact ⟨rfl, hbw⟩
  · have hgt : (1000 : Int) < m := by omega
    go_enter Tryd.func10, Tryd.ntmps10
    go_wp2_with fail
    refine cA.mono ?_
    rintro e w0 ⟨rfl, b0⟩
    go_wp2_with fail
    go_ret
    exact ⟨rfl, b0⟩
end Go.Proofs.YtoelmkcgdoabeaaDoor
