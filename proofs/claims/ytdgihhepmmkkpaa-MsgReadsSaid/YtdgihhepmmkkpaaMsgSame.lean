/-
  The same options, the same messages: what the program and the document answer of any two.
-/
import Derived.Test.YtdgihhepmmkkpaaMsg
import Derived.Test.YtdgihhepmmkkpaaOptRef
namespace Go.Proofs.Ytdgihhepmmkkpaa
open Go.RowKit
set_option maxRecDepth 100000
set_option linter.unusedVariables false
theorem str_list (l : List UInt8) : (⟨l.toArray⟩ : ByteArray).toList = l := by rw [ByteArray.toList_eq]
theorem str_beq (l1 l2 : List UInt8) : ((⟨l1.toArray⟩ : ByteArray).toList == (⟨l2.toArray⟩ : ByteArray).toList) = decide (l1 = l2) := by
  rw [str_list, str_list, Bool.eq_iff_iff, beq_iff_eq, decide_eq_true_eq]
theorem equal_any (A1 A2 : Option Addr) (n1 c1 n2 c2 : Nat) (l1 l2 : List UInt8) (w : World) (B1 B2 : Nat) (h1 : Bs w B1 A1 n1 l1) (h2 : Bs w B2 A2 n2 l2) :
    Calls Try.prog 58 #[.slice A1 n1 c1, .slice A2 n2 c2] w fun e w' => e = .returned (.bool (decide (l1 = l2))) ∧ w' = w := by
  have q1 := run_string_bs (P := Try.prog) h1 22 9 5 c1 Try.underlying22 Try.underlying5 Try.underlying9
  have q2 := run_string_bs (P := Try.prog) h2 22 9 5 c2 Try.underlying22 Try.underlying5 Try.underlying9
  rw [← str_beq]
  generalize (⟨l1.toArray⟩ : ByteArray) = s1 at *
  generalize (⟨l2.toArray⟩ : ByteArray) = s2 at *
  go_enter Try.func58, Try.ntmps58
  go_wp2
  go_ret
  exact ⟨rfl, rfl⟩
theorem msame1_f (k1 k2 : Int) (A1 A2 : Option Addr) (n1 c1 n2 c2 : Nat) (l1 l2 : List UInt8) (w : World) (h1 : Bs w w.heap.size A1 n1 l1) (h2 : Bs w w.heap.size A2 n2 l2) :
    Calls Try.prog 57 #[.agg #[.int .i64 k1, .slice A1 n1 c1], .agg #[.int .i64 k2, .slice A2 n2 c2]] w fun e w' => e = .returned (.bool (decide ((k1, l1) = (k2, l2)))) ∧ Below w.heap.size w w' := by
  have heq : decide ((k1, l1) = (k2, l2)) = (k1 == k2 && decide (l1 = l2)) := by
    rw [Bool.eq_iff_iff]; simp
  rw [heq]
  obtain ⟨W, hW⟩ : ∃ W, (w.alloc (.cells #[.int .i64 k1, .slice A1 n1 c1] 70)).alloc (.cells #[.int .i64 k2, .slice A2 n2 c2] 70) = W := ⟨_, rfl⟩
  have hb : Below w.heap.size w W := by
    rw [← hW]; exact ((Below.refl _ _).alloc (Nat.le_refl _) _).alloc (by rw [alloc_size]; omega) _
  have he := equal_any A1 A2 n1 c1 n2 c2 l1 l2 W _ _ (h1.below hb) (h2.below hb)
  obtain ⟨q, hq⟩ : ∃ q, decide (l1 = l2) = q := ⟨_, rfl⟩
  rw [hq] at he ⊢
  have HH := Lib.hid (And.intro he hb)
  have HW := Lib.hid hW
  clear he hb hq heq h1 h2 hW
  by_cases hk : k1 = k2
  · subst hk
    have hkk : (k1 == k1) = true := beq_self_eq_true _
    go_enter Try.func57, Try.ntmps57
    go_wp2_with (go_at_call 58; rw [HW.out]; refine HH.out.1.mono ?_; rintro e w' ⟨rfl, hw⟩; obtain rfl := hw.symm)
    go_ret
    exact ⟨retB (by simp), HH.out.2⟩
  · have hkk : (k1 == k2) = false := by simpa using hk
    go_enter Try.func57, Try.ntmps57
    go_wp2
    go_ret
    exact ⟨retB (by rw [hkk]; rfl), HW.out ▸ HH.out.2⟩
theorem fn_same1 : Fn 57 := enters_of Try.func57 (by kernel_rfl) rfl
theorem take_eq_of {α : Type} {a b : List α} {n : Nat} (ha : a.length = n) (hb : b.length = n) (h : ∀ j, j < n → a[j]? = b[j]?) : a = b := by
  apply List.ext_getElem?
  intro j
  by_cases hj : j < n
  · exact h j hj
  · rw [List.getElem?_eq_none (by omega), List.getElem?_eq_none (by omega)]
set_option maxHeartbeats 2000000 in
theorem eqf_any (w : World) (A1 A2 : Option Addr) (n1 n2 c1 c2 : Nat) (us1 us2 : List Sv) (ps1 ps2 : List (Int × List UInt8)) (h1 : Os w w.heap.size A1 n1 us1 ps1) (h2 : Os w w.heap.size A2 n2 us2 ps2) (hn1 : (n1 : Int) ≤ 9223372036854775807) (hn2 : (n2 : Int) ≤ 9223372036854775807) :
    Calls Try.prog 59 #[.slice A1 n1 c1, .slice A2 n2 c2, .func (.func 57) #[] #[]] w fun e w' => e = .returned (.bool (decide (ps1 = ps2))) ∧ Below w.heap.size w w' := by
  have p1 := h1.plen
  have p2 := h2.plen
  by_cases hnn : n1 = n2
  · subst hnn
    have eg := fn_same1
    unfold Fn at eg
    have HS : Aside _ := And.intro h1 (And.intro h2 (And.intro p1 p2))
    have hneq : ((n1 : Int) != (n1 : Int)) = false := bne_self_eq_false _
    clear h1 h2 p1 p2
    go_enter Try.func59, Try.ntmps59
    go_wp2
    go_loopg [7, 17] n1 (fun gg _ s17 wr => ∃ kk : Nat, kk ≤ n1 ∧ n1 - kk ≤ gg ∧ s17 = .int .i64 kk ∧ Aside (Below w.heap.size w wr) ∧ Aside (∀ j, j < kk → ps1[j]? = ps2[j]?))
    case atStart => exact ⟨0, Nat.zero_le _, by omega, rfl, Below.refl _ w, fun j hj => absurd hj (Nat.not_lt_zero _)⟩
    case round =>
      obtain ⟨kk, hkk, hg, rfl, BW, HA⟩ := hrel
      by_cases hlt : kk < n1
      · have hltz : (kk : Int) < (n1 : Int) := by omega
        have hs1 := HS.out.1.sh.below BW.out
        have hs2 := HS.out.2.1.sh.below BW.out
        obtain ⟨b1, off1, rfl, hb1, _⟩ := hs1.place (by omega)
        obtain ⟨b2, off2, rfl, hb2, _⟩ := hs2.place (by omega)
        obtain ⟨s1, hg1⟩ := sv_get hs1 hlt
        obtain ⟨s2, hg2⟩ := sv_get hs2 hlt
        have hr1 := hs1.range hg1
        have hr2 := (hs2.range hg2)
        have hr2' := fun o => range_below hr2 (alloc_below wr o) (Nat.lt_of_lt_of_le hb2 BW.out.size)
        obtain ⟨l1, q1, z1⟩ := HS.out.1.get hg1
        obtain ⟨l2, q2, z2⟩ := HS.out.2.1.get hg2
        obtain ⟨WW, hWW⟩ : ∃ WW, (wr.alloc (.cells #[.int .i64 s1.k, .slice s1.A s1.n s1.c] 70)).alloc (.cells #[.int .i64 s2.k, .slice s2.A s2.n s2.c] 70) = WW := ⟨_, rfl⟩
        have hbw : Below wr.heap.size wr WW := by rw [← hWW]; exact ((Below.refl _ _).alloc (Nat.le_refl _) _).alloc (by rw [alloc_size]; omega) _
        have hbW : Below w.heap.size w WW := BW.out.trans (hbw.mono BW.out.size)
        have hcall := msame1_f s1.k s2.k s1.A s2.A s1.n s1.c s2.n s2.c l1 l2 WW ((z1.below hbW).more hbW.size) ((z2.below hbW).more hbW.size)
        have HQ : Aside _ := And.intro q1 q2
        have HB : Aside _ := hbW
        have HW := Lib.hid hWW
        clear hs1 hs2 hg1 hg2 z1 z2 hbw hbW hWW
        obtain ⟨q, hq⟩ : ∃ q, decide ((s1.k, l1) = (s2.k, l2)) = q := ⟨_, rfl⟩
        rw [hq] at hcall
        have HD := Lib.hid hq
        clear hq q1 q2
        cases q with
        | true =>
          go_wp2_with (first
            | (refine wpList_load_mid rfl 70 (.tmp 20) rfl b1 (off1 + kk * 2) rfl [.int .i64 s1.k, .slice s1.A s1.n s1.c] _ hr1 Try.underlying70 rfl size_opt1 ?_)
            | (refine wpList_load_mid rfl 70 (.tmp 24) rfl b2 (off2 + kk * 2) rfl [.int .i64 s2.k, .slice s2.A s2.n s2.c] _ (hr2' _) Try.underlying70 rfl size_opt1 ?_))
          rw [HW.out]
          refine hcall.mono ?_
          rintro e w' ⟨rfl, hb'⟩
          go_wp2
          go_roundg (n1 - (kk + 1))
          case measure => omega
          case rel =>
            refine ⟨kk + 1, by omega, by omega, by go_num, HB.out.trans (hb'.mono HB.out.size), (show Aside _ from fun j hj => ?_)⟩
            by_cases e : j = kk
            · subst e
              have e2 := of_decide_eq_true HD.out
              rw [HQ.out.1, HQ.out.2, e2]
            · exact HA.out j (by omega)
        | false =>
          go_wp2_with (first
            | (refine wpList_load_mid rfl 70 (.tmp 20) rfl b1 (off1 + kk * 2) rfl [.int .i64 s1.k, .slice s1.A s1.n s1.c] _ hr1 Try.underlying70 rfl size_opt1 ?_)
            | (refine wpList_load_mid rfl 70 (.tmp 24) rfl b2 (off2 + kk * 2) rfl [.int .i64 s2.k, .slice s2.A s2.n s2.c] _ (hr2' _) Try.underlying70 rfl size_opt1 ?_))
          rw [HW.out]
          refine hcall.mono ?_
          rintro e w' ⟨rfl, hb'⟩
          go_wp2
          go_ret
          refine ⟨retB ?_, HB.out.trans (hb'.mono HB.out.size)⟩
          symm
          refine decide_eq_false fun e => of_decide_eq_false HD.out ?_
          have e1 := HQ.out.1
          rw [e, HQ.out.2] at e1
          exact (Option.some.inj e1).symm
      · have hltz : ¬ (kk : Int) < (n1 : Int) := by omega
        have : kk = n1 := by omega
        subst this
        go_wp2
        go_ret
        exact ⟨retB (decide_eq_true (take_eq_of HS.out.2.2.1 HS.out.2.2.2 HA.out)).symm, BW.out⟩
  · have hneq : ((n1 : Int) != (n2 : Int)) = true := bne_iff_ne.2 (by omega)
    have hd : decide (ps1 = ps2) = false := decide_eq_false fun e => hnn (by rw [← p1, ← p2, e])
    rw [hd]
    clear h1 h2 p1 p2 hnn hd
    go_enter Try.func59, Try.ntmps59
    go_wp2
    go_ret
    exact ⟨rfl, Below.refl _ _⟩
end Go.Proofs.Ytdgihhepmmkkpaa
