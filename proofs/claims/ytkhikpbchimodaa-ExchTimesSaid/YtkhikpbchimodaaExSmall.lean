/-
  Rows of steps of exchanges: few ones; what is sent, as the document's; the same lists.
-/
import Derived.Test.YtkhikpbchimodaaExPass
import Derived.Test.YtkhikpbchimodaaExRef
import Derived.Test.YtkhikpbchimodaaExArgs
namespace Go.Proofs.Ytkhikpbchimodaa
open Go.RowKit
set_option maxRecDepth 100000
set_option maxRecDepth 100000
set_option linter.unusedVariables false
theorem size_opx : (Try.prog.info? 32).map (·.size) = some 6 := by kernel_rfl
/-- Are steps few, of few bytes? -/
def smallOx (os : List Opx) : Bool := os.all (fun o => decide (o.n ≤ 200)) && decide (os.length ≤ 60)
theorem smallOx_is {os : List Opx} (h : smallOx os = true) : os.length ≤ 60 ∧ ∀ o ∈ os, o.n ≤ 200 := by
  unfold smallOx at h
  rw [Bool.and_eq_true_iff] at h
  exact ⟨of_decide_eq_true h.2, fun o ho => of_decide_eq_true (List.all_eq_true.1 h.1 o ho)⟩
set_option maxHeartbeats 4000000 in
theorem small12_f (A : Option Addr) (n c : Nat) (os : List Opx) (w : World) (B : Nat) (h : Opxs w B A n os) (hB : B ≤ w.heap.size) (hc : n ≤ c) (hm : c ≤ maxLen) :
    Calls Try.prog 8 #[.slice A n c] w fun e w' => e = .returned (.bool (smallOx os)) ∧ Below w.heap.size w w' := by
  have hcI : (c : Int) ≤ 9223372036854775807 := by simp only [maxLen] at hm; omega
  have HS := Lib.hid h.len
  go_enter Try.func8, Try.ntmps8
  go_wp2
  go_loopw [7] (fun iv wr => ∃ k : Nat, k ≤ n ∧ iv = .int .i64 (k : Int) ∧ Aside (Below w.heap.size w wr ∧ ∀ (j : Nat) (o : Opx), j < k → os[j]? = some o → o.n ≤ 200)) (fun iv _ => n - (intOf iv).toNat)
  case atStart => exact ⟨0, Nat.zero_le _, rfl, Below.refl _ _, fun j o hj => absurd hj (Nat.not_lt_zero _)⟩
  case round =>
    obtain ⟨k, hk, rfl, hrel⟩ := hrel
    by_cases hlt : k < n
    · obtain ⟨s, hs⟩ := opx_get (os := os) (k := k) (by rw [HS.out]; exact hlt)
      obtain ⟨b, off, rfl, hb, hat⟩ := h.place (by omega)
      have hbel := hrel.out.1
      have hop := (hat k s hs).keep hb (fun p hp => hbel.cell (p := p) (by omega))
      have hrg := hop.range
      simp only [Opx.vals] at hrg
      have HR := Lib.hid (And.intro hrel.out hs)
      have hmx : (s.n : Int) ≤ 9223372036854775807 := by have := hop.cap; have := hop.max; simp only [maxLen] at this; omega
      clear hrel hs hat hop
      by_cases hbig : (200 : Int) < s.n
      · go_wp2_with (refine wpList_load_mid rfl 32 (.tmp 9) rfl b (off + k * 6) rfl [.int .i64 s.k, .int .i64 s.a, .int .i64 s.b, .slice s.A s.n s.c, .int .i64 s.t, .int .i64 s.r] _ hrg Try.underlying32 rfl size_opx ?_)
        go_ret
        refine ⟨?_, hbel.trans ((alloc_below wr _).mono hbel.size)⟩
        have : smallOx os = false := by
          unfold smallOx
          rw [Bool.and_eq_false_iff]
          left
          rw [List.all_eq_false]
          exact ⟨s, List.mem_of_getElem? HR.out.2, by simp; omega⟩
        rw [this]; rfl
      · go_wp2_with (refine wpList_load_mid rfl 32 (.tmp 9) rfl b (off + k * 6) rfl [.int .i64 s.k, .int .i64 s.a, .int .i64 s.b, .slice s.A s.n s.c, .int .i64 s.t, .int .i64 s.r] _ hrg Try.underlying32 rfl size_opx ?_)
        go_roundw
        case rel =>
          refine ⟨k + 1, by omega, by go_num, (show Aside _ from ⟨hbel.trans ((alloc_below wr _).mono hbel.size), fun j o hj ho => ?_⟩)⟩
          by_cases e : j = k
          · subst e
            rw [HR.out.2] at ho
            obtain rfl := Option.some.inj ho
            omega
          · exact HR.out.1.2 j o (by omega) ho
        case measure => simp [intOf]; omega
    · obtain rfl : k = n := by omega
      have hall : os.all (fun o => decide (o.n ≤ 200)) = true := by
        rw [List.all_eq_true]
        intro o ho
        obtain ⟨j, hj⟩ := List.mem_iff_getElem?.1 ho
        have hjl := (List.getElem?_eq_some_iff.1 hj).1
        rw [HS.out] at hjl
        exact decide_eq_true (hrel.out.2 j o hjl hj)
      have hfin : smallOx os = decide ((k : Int) ≤ 60) := by
        unfold smallOx
        rw [hall, Bool.true_and, HS.out]
        exact decide_eq_decide.2 (by omega)
      have HF := Lib.hid (And.intro hfin hrel.out.1)
      clear hfin hall hrel
      go_wp2
      go_ret
      exact ⟨by rw [HF.out.1]; rfl, HF.out.2⟩
theorem take_snoc_S {ss : List Sr} {k : Nat} {s : Sr} (h : ss[k]? = some s) : ss.take (k + 1) = ss.take k ++ [s] := by rw [List.take_add_one, h]; rfl
/-- 'as': the same, as the document's. -/
def AsPost (w : World) (B : Nat) (ss : List Sr) (e : Ending) (w' : World) : Prop :=
  ∃ A c, e = .returned (.slice A (List.length ss) c) ∧ SsAt w' B 73 (.slice A (List.length ss) c) ss ∧ Below w.heap.size w w'
set_option maxHeartbeats 4000000 in
theorem as12_f (A : Option Addr) (n c : Nat) (ss : List Sr) (w : World) (B : Nat) (h : SsAt w B 55 (.slice A n c) ss) (hB : B ≤ w.heap.size) (hn : List.length ss ≤ 1000) :
    Calls Try.prog 17 #[.slice A n c] w (AsPost w B ss) := by
  obtain ⟨i0, hi0, hz0, hz1, hz2⟩ := info_parts info_rs
  obtain ⟨A', c', hv, hnc, hcm, hat, _⟩ := RowK.At.of_own h.row
  injection hv with e1 e2 e3
  subst e1 e3
  obtain ⟨n, hl⟩ : ∃ n, List.length ss = n := ⟨_, rfl⟩
  have HS := Lib.hid (And.intro h hl)
  rw [hl] at hat hnc e2 hn
  subst e2
  have htk : ∀ k, k ≤ n → List.length (ss.take k) = k := fun k hk => by rw [List.length_take, HS.out.2]; omega
  have HT := Lib.hid htk
  have hcI : (c : Int) ≤ 9223372036854775807 := by simp only [maxLen] at hcm; omega
  have hncI : (n : Int) ≤ c := by omega
  clear h hl htk
  go_enter Try.func17, Try.ntmps17
  go_upto_region 3 with fail
  refine wp_at_world (F := fun W => Below w.heap.size w W ∧ W.ownsRow w.heap.size 73 4 (.slice (some ⟨w.heap.size, 0, none⟩) 0 0) 0 []) ⟨alloc_below _ _, rk_empty w _ (Nat.le_refl _) _ _⟩ fun w1 ⟨b1, o1⟩ => ?_
  have H1 := Lib.hid (And.intro b1 o1)
  clear b1 o1
  go_loopw [3, 9] (fun v3 iv wr => ∃ (k : Nat) (A3 : Option Addr) (c3 : Nat), k ≤ n ∧ iv = .int .i64 (k : Int) ∧ v3 = .slice A3 k c3 ∧ Aside (wr.ownsRow w.heap.size 73 4 v3 k (srK.all (ss.take k)) ∧ Below w.heap.size w wr)) (fun _ iv _ => n - (intOf iv).toNat)
  case atStart => exact ⟨0, _, _, Nat.zero_le _, rfl, rfl, H1.out.2, H1.out.1⟩
  case round =>
    obtain ⟨k, A3, c3, hk, rfl, rfl, hrel⟩ := hrel
    by_cases hlt : k < n
    · have hwr := hat.below hrel.out.2
      obtain ⟨s, hs⟩ := hat.get hlt
      obtain ⟨b, off, rfl, hb, _⟩ := hat.place (by omega)
      have hrg := hwr.range hs
      have hnx := take_snoc_S hs
      have hkI : (k : Int) < n := by omega
      have hkc : (k : Int) < c := by omega
      obtain ⟨⟨st, si, sl, so⟩, sA, sn, sc⟩ := s
      simp only [srK, Sr.vals] at hrg
      have HR := Lib.hid (And.intro hrel.out hnx)
      have hsz := hrel.out.2.size
      clear hrel hnx hwr hs
      go_upto_region 5 with (refine wpList_load_mid rfl 55 (.tmp 11) rfl b (off + k * 4) rfl [.int .i64 st, .int .i64 si, .slice sA sn sc, .bool so] _ hrg Try.underlying55 rfl size_sent ?_)
      refine wp_at_world (F := fun W => Below wr.heap.size wr W ∧ W.heap[wr.heap.size]? = some (.cells #[.int .i64 st, .int .i64 si, .slice sA sn sc, .bool so] 55)) ⟨alloc_below _ _, heap_alloc_new _ _⟩ fun w2 ⟨b2, x2⟩ => ?_
      have hrv := range_here [.int .i64 st, .int .i64 si, .slice sA sn sc, .bool so] x2 rfl
      have e0 := hrv 0 _ rfl
      have e1 := hrv 1 _ rfl
      have e2 := hrv 2 _ rfl
      have e3 := hrv 3 _ rfl
      have hb2 : Below w.heap.size w w2 := HR.out.1.2.trans (b2.mono hsz)
      have hrow2 := rk_below HR.out.1.1 b2
      have H2 := Lib.hid (And.intro hb2 hrow2)
      have hsz2 : w.heap.size ≤ w2.heap.size := hb2.size
      clear b2 x2 hb2 hrow2 hrg hrv
      go_wp2_with (at_builtin; go_loud ((refine srK.append_one w2 rfl (.tmp 13) (.tmp 23) 42 rfl w.heap.size 73 i0 _ 48 Try.underlying42 hi0 hz0 hz1 hz2 rfl (.slice A3 k c3) k _ rfl H2.out.2 ⟨⟨st, si, sl, so⟩, sA, sn, sc⟩ _ rfl _ rfl (by omega) (by unfold maxLen; omega) hsz2 ?_; intro A' c' w' hown hgr; have HW := Lib.hid (And.intro hown (rk_in' (H2.out.1.trans (Below.mono (alloc_below w2 _) hsz2)) (H2.out.2.alloc _) hgr (by rw [alloc_size]; omega))); clear hown hgr)))
      go_roundw
      case rel => exact ⟨k + 1, A', c', by omega, by go_num, rfl, (show Aside _ from by rw [HR.out.2]; exact HW.out)⟩
      case measure => simp [intOf]; omega
    · obtain rfl : k = n := by omega
      have hkI : ¬ (k : Int) < k := by omega
      have hr0 := hrel.out
      rw [List.take_of_length_le (by rw [HS.out.2]; exact Nat.le_refl _)] at hr0
      have HF := Lib.hid hr0
      clear hrel hr0
      go_wp2
      go_ret
      refine ⟨A3, c3, ?_, ⟨?_, fun s hs => (HS.out.1.each s hs).below HF.out.2⟩, HF.out.2⟩
      · rw [HS.out.2]; rfl
      · rw [HS.out.2]; exact rk_mono HF.out.1 hB
end Go.Proofs.Ytkhikpbchimodaa
