/-
  OptAdds: a value that is added is the last one of its number, all others stay.
-/
import Derived.Test.YtihicplembaoeaaOptAlive
import Derived.Test.YtihicplembaoeaaOptRSorted
namespace Go.Proofs.Ytihicplembaoeaa
open Go.RowKit
set_option maxRecDepth 100000
set_option linter.unusedVariables false
theorem allO_cons (num : Int) (y : Int × List UInt8) (r : List (Int × List UInt8)) : allO num (y :: r) = (if (y.1 == num) = true then [y.2] else []) ++ allO num r := by
  unfold allO
  rw [List.filter_cons]
  split <;> simp
theorem allO_none {num : Int} : ∀ {P : List (Int × List UInt8)}, (∀ x ∈ P, num < x.1) → allO num P = []
  | [], _ => rfl
  | y :: r, h => by
    rw [allO_cons, allO_none (fun x hx => h x (List.mem_cons_of_mem _ hx)), if_neg]
    · rfl
    · intro e
      have := h y List.mem_cons_self
      have e2 : y.1 = num := by simpa using e
      omega
theorem addO_all {num : Int} {l : List UInt8} : ∀ {P : List (Int × List UInt8)}, Upp P → allO num (addO num l P) = allO num P ++ [l]
  | [], _ => by
    rw [addO, allO_cons, if_pos (by simp)]; rfl
  | y :: r, h => by
    unfold Upp at h
    rw [List.pairwise_cons] at h
    rw [addO]
    split
    · rename_i hlt
      have h0 : allO num (y :: r) = [] := allO_none fun x hx => by
        rcases List.mem_cons.1 hx with rfl | hx
        · exact hlt
        · have := h.1 x hx; omega
      rw [allO_cons, h0, if_pos (by simp)]; rfl
    · rw [allO_cons, allO_cons, addO_all h.2, List.append_assoc]
theorem addO_wo (num : Int) (l : List UInt8) : ∀ P : List (Int × List UInt8), (addO num l P).filter (fun x => !(x.1 == num)) = P.filter fun x => !(x.1 == num)
  | [] => by rw [addO, List.filter_cons]; simp
  | y :: r => by
    rw [addO]
    split
    · rw [List.filter_cons]; simp
    · rw [List.filter_cons, addO_wo num l r, List.filter_cons]
theorem Pc.more {w : World} {B B' n : Nat} {A : Option Addr} {ls : List (List UInt8)} (h : Pc w B A n ls) (hB : B ≤ B') : Pc w B' A n ls :=
  ⟨h.len, fun hn => by
    obtain ⟨b, off, e, hb, hc⟩ := h.place hn
    refine ⟨b, off, e, by omega, fun k l hl => ?_⟩
    obtain ⟨A', n', c', h1, hcap, h2⟩ := hc k l hl
    exact ⟨A', n', c', h1, hcap, h2.more hB⟩⟩
set_option maxHeartbeats 4000000 in
theorem adds_law (num : Int) (A2 : Option Addr) (n2 c2 : Nat) (l2 : List UInt8) (A : Option Addr) (n c : Nat) (vs : List Sv) (ps : List (Int × List UInt8)) (w : World) (hos : Os w w.heap.size A n vs ps) (hc : n ≤ c) (hcm : c ≤ maxLen)
    (hb2 : Bs w w.heap.size A2 n2 l2) (hc2 : n2 ≤ c2) (hm2 : c2 ≤ maxLen) :
    Calls Try.prog 7 #[.slice A n c, .int .i64 num, .slice A2 n2 c2] w fun e w' => e = .returned (.bool true) ∧ Below w.heap.size w w' := by
  have hA := oalive_any w
  have hnI : (n : Int) ≤ 9223372036854775807 := by simp only [maxLen] at hcm; omega
  have hn2I : (n2 : Int) ≤ 9223372036854775807 := by simp only [maxLen] at hm2; omega
  have hfew := fun W (b : Below w.heap.size w W) => few_f A n c vs ps W _ (hos.below b) hnI
  obtain ⟨q, hq⟩ : ∃ q, fewB ps = q := ⟨_, rfl⟩
  rw [hq] at hfew
  cases q with
  | false =>
    have HH := Lib.hid (And.intro hA hfew)
    clear hA hfew hq hos hb2 hcm hm2
    go_enter Try.func7, Try.ntmps7
    go_wp2_with (first
      | (go_at_call 14; refine HH.out.1.mono ?_; rintro e w1 ⟨rfl, b1⟩; have H1 := Lib.hid b1; clear b1)
      | (go_at_call 15; refine (HH.out.2 w1 H1.out).mono ?_; rintro e w2 ⟨rfl, hw⟩; obtain rfl := hw.symm))
    go_ret
    exact ⟨rfl, H1.out⟩
  | true =>
    by_cases h4 : (400 : Int) < n2
    · have HH := Lib.hid (And.intro hA hfew)
      clear hA hfew hq hos hb2 hcm hm2
      go_enter Try.func7, Try.ntmps7
      go_wp2_with (first
        | (go_at_call 14; refine HH.out.1.mono ?_; rintro e w1 ⟨rfl, b1⟩; have H1 := Lib.hid b1; clear b1)
        | (go_at_call 15; refine (HH.out.2 w1 H1.out).mono ?_; rintro e w2 ⟨rfl, hw⟩; obtain rfl := hw.symm))
      go_ret
      exact ⟨rfl, H1.out⟩
    · obtain ⟨hf1, hf2⟩ := (fewB_iff ps).1 hq
      have hpl := hos.plen
      have hn40 : (n : Int) ≤ 40 := by omega
      obtain ⟨P, hP⟩ : ∃ P, sortP ps = P := ⟨_, rfl⟩
      have hPl : P.length = n := by rw [← hP, sortP_len, hpl]
      have hPm : ∀ x ∈ P, x.2.length ≤ 400 := fun x hx => hf2 x (sortP_mem ps x (hP ▸ hx))
      have hPu : Upp P := hP ▸ sortP_up ps
      obtain ⟨Q, hQ⟩ : ∃ Q, addO num l2 P = Q := ⟨_, rfl⟩
      have hl2 := hb2.len
      have hQl : Q.length = n + 1 := by rw [← hQ, addO_len, hPl]
      have hQm : ∀ x ∈ Q, x.2.length ≤ 400 := fun x hx => by
        rcases addO_mem _ _ _ x (hQ ▸ hx) with rfl | h
        · show l2.length ≤ 400; omega
        · exact hPm x h
      have hQs : sortP Q = Q := sortP_id (hQ ▸ addO_up hPu)
      obtain ⟨L, hL⟩ : ∃ L, allO num P = L := ⟨_, rfl⟩
      have hLQ : allO num Q = L ++ [l2] := by rw [← hQ, addO_all hPu, hL]
      have hWQ : (Q.filter fun x => !(x.1 == num)) = P.filter fun x => !(x.1 == num) := by rw [← hQ]; exact addO_wo num l2 P
      have hLm : ∀ x ∈ L, x.length ≤ 400 := by
        intro x hx
        rw [← hL] at hx
        unfold allO at hx
        obtain ⟨y, hy, rfl⟩ := List.mem_map.1 hx
        exact hPm y (List.mem_filter.1 hy).1
      obtain ⟨m, hm⟩ : ∃ m, L.length = m := ⟨_, rfl⟩
      have hmn : m ≤ n := by
        rw [← hm, ← hL, ← hPl]
        unfold allO
        rw [List.length_map]
        exact List.length_filter_le _ _
      obtain ⟨F, hF⟩ : ∃ F, (P.filter fun x => !(x.1 == num)) = F := ⟨_, rfl⟩
      have hFl : F.length ≤ n := by rw [← hF, ← hPl]; exact List.length_filter_le _ _
      have hFm : ∀ x ∈ F, x.2.length ≤ 400 := fun x hx => hPm x (List.mem_filter.1 (hF ▸ hx)).1
      obtain ⟨fl, hfl⟩ : ∃ fl, F.length = fl := ⟨_, rfl⟩
      have hmI : (m : Int) ≤ 40 := by omega
      have HS := Lib.hid fun W (b : Below w.heap.size w W) => hP ▸ rsorted_f A n c vs ps W ((hos.below b).more b.size) (by omega) (fun x hx => Nat.le_trans (hf2 x hx) (by omega))
      have HB2 := Lib.hid hb2
      have HM := Lib.hid (And.intro hPl (And.intro hPm (And.intro hQl (And.intro hQm (And.intro hQs (And.intro hLQ (And.intro hWQ (And.intro hLm (And.intro hm (And.intro hF (And.intro hFl (And.intro hFm (And.intro hfl (And.intro hQ (And.intro hL (And.intro hl2 hos))))))))))))))))
      have HH := Lib.hid (And.intro hA hfew)
      have HC := Lib.hid (And.intro hc (And.intro hcm (And.intro hc2 hm2)))
      have hflI : (fl : Int) ≤ 40 := by omega
      clear hA hfew hq hos hb2 hcm hm2 hf1 hf2 hpl hP hPl hPm hPu hQ hl2 hQl hQm hQs hL hLQ hWQ hLm hm hF hFl hFm hfl
      go_enter Try.func7, Try.ntmps7
      go_wp2_with (first
        | (go_at_call 14; refine HH.out.1.mono ?_; rintro e w1 ⟨rfl, b1⟩; have H1 := Lib.hid b1; clear b1)
        | (go_at_call 15; refine (HH.out.2 w1 H1.out).mono ?_; rintro e w2 ⟨rfl, hw⟩; obtain rfl := hw.symm)
        | (go_at_call 23; refine (HS.out _ H1.out).mono ?_; rintro e w5 ⟨A5, n5, c5, us5, rfl, hc5, hn5, hos5, b5⟩; obtain rfl : n = n5 := by rw [hn5.out, HM.out.1]
           have H5 := Lib.hid (And.intro hos5 (And.intro hc5 (H1.out.trans (b5.mono H1.out.size)))); clear hc5 hn5 hos5 b5)
        | (go_at_call 26; refine (add_f num A2 n2 c2 l2 A5 n c5 us5 P w5 _ H5.out.1 (Nat.le_refl _) H5.out.2.1.1 H5.out.2.1.2 (by omega) (fun x hx => Nat.le_trans (HM.out.2.1 x hx) (by omega)) ((HB2.out.below H5.out.2.2).more H5.out.2.2.size) HC.out.2.2.1 HC.out.2.2.2 (by omega)).mono ?_
           rintro e w6 ⟨A6, n6, c6, us6, rfl, hc6, hn6, hos6, b6⟩; obtain rfl : n6 = n + 1 := by rw [hn6.out, HM.out.2.2.2.2.2.2.2.2.2.2.2.2.2.1, HM.out.2.2.1]
           rw [HM.out.2.2.2.2.2.2.2.2.2.2.2.2.2.1] at hos6
           have H6 := Lib.hid (And.intro hos6 (And.intro hc6 (And.intro ((H5.out.1.below b6).more b6.size) (H5.out.2.2.trans (b6.mono H5.out.2.2.size))))); clear hc6 hn6 hos6 b6)
        | (go_at_call 27; with_reducible refine (all_f num A6 (n + 1) c6 us6 Q w6 _ H6.out.1 (Nat.le_refl _) (by omega) (fun x hx => Nat.le_trans (HM.out.2.2.2.1 x hx) (by omega))).mono ?_
           rintro e w7 ⟨A7, n7, c7, rfl, hc7, hn7, hp7, b7⟩; obtain rfl : n7 = m + 1 := by rw [hn7.out, HM.out.2.2.2.2.2.1, List.length_append, HM.out.2.2.2.2.2.2.2.2.1]; rfl
           rw [HM.out.2.2.2.2.2.1] at hp7
           have H7 := Lib.hid (And.intro hp7 (And.intro ((H6.out.1.below b7).more b7.size) (And.intro ((H6.out.2.2.1.below b7).more b7.size) (H6.out.2.2.2.trans (b7.mono H6.out.2.2.2.size))))); clear hc7 hn7 hp7 b7)
        | (go_at_call 27; with_reducible refine (all_f num A5 n c5 us5 P w7 _ H7.out.2.2.1 (Nat.le_refl _) (by omega) (fun x hx => Nat.le_trans (HM.out.2.1 x hx) (by omega))).mono ?_
           rintro e w8 ⟨A8, n8, c8, rfl, hc8, hn8, hp8, b8⟩; obtain rfl : m = n8 := by rw [hn8.out, HM.out.2.2.2.2.2.2.2.2.2.2.2.2.2.2.1, HM.out.2.2.2.2.2.2.2.2.1]
           rw [HM.out.2.2.2.2.2.2.2.2.2.2.2.2.2.2.1] at hp8
           have hp7 := (H7.out.1.below' b8 (Nat.le_refl _)).more b8.size
           obtain ⟨bq, oq, rfl, hbq, hcq⟩ := hp7.place (by omega)
           obtain ⟨A9, n9, c9, k9, hc9, hb9⟩ := hcq m l2 (by rw [List.getElem?_append_right (by rw [HM.out.2.2.2.2.2.2.2.2.1]; omega), HM.out.2.2.2.2.2.2.2.2.1, Nat.sub_self]; rfl)
           have hn9 := hb9.len
           have hn9' : n9 = n2 := by rw [← hn9]; exact HM.out.2.2.2.2.2.2.2.2.2.2.2.2.2.2.2.1
           have hs9 := same_any A9 A2 n9 c9 n2 c2 l2 l2 w8 _ _ hb9 (HB2.out.below (H7.out.2.2.2.trans (b8.mono H7.out.2.2.2.size))) (by omega) (by omega)
           rw [decide_eq_true rfl] at hs9
           have H8 := Lib.hid (And.intro hp7 (And.intro hp8 (And.intro ((H7.out.2.1.below b8).more b8.size) (And.intro ((H7.out.2.2.1.below b8).more b8.size) (H7.out.2.2.2.trans (b8.mono H7.out.2.2.2.size)))))); clear hc8 hn8 hp8 b8 hp7 hbq hcq hc9 hb9 hn9 hn9')
        | (go_at_call 18; refine hs9.mono ?_; rintro e w9 ⟨rfl, mm, hw9⟩; have H9 : Hid (Below w8.heap.size w8 w9) := Lib.hid (hw9 ▸ drewN_below _ _ mm); clear hw9 k9 hs9))
      go_loopw [11, 60] (fun _ i wr => ∃ k : Nat, k ≤ m ∧ i = .int .i64 k ∧ Aside (Below w8.heap.size w8 wr)) (fun _ i _ => m - (intOf i).toNat)
      case atStart => exact ⟨0, by omega, rfl, H9.out⟩
      case round =>
        obtain ⟨k, hk, rfl, hbr⟩ := hrel
        by_cases hlt : k < m
        · obtain ⟨x, hx⟩ : ∃ x, L[k]? = some x := ⟨_, List.getElem?_eq_getElem (by have := HM.out.2.2.2.2.2.2.2.2.1; omega)⟩
          have hxl := HM.out.2.2.2.2.2.2.2.1 x (List.mem_of_getElem? hx)
          obtain ⟨hp7, hp8, _⟩ := H8.out
          obtain ⟨be, oe, rfl, hbe, hce⟩ := (hp8.below' hbr.out (Nat.le_refl _)).place (by omega)
          obtain ⟨Ae, ne, ce, ke, hcce, hbse⟩ := hce k x hx
          obtain ⟨bq', oq', eq', hbq, hcq⟩ := (hp7.below' hbr.out (Nat.le_refl _)).place (by omega)
          injection eq' with eq'
          injection eq' with e1 e2
          subst e1 e2
          obtain ⟨Aq, nq, cq, kq, hccq, hbsq⟩ := hcq k x (by rw [List.getElem?_append_left (by have := (List.getElem?_eq_some_iff.1 hx).1; omega)]; exact hx)
          have hne := hbse.len
          have hnq := hbsq.len
          have hs := same_any Aq Ae nq cq ne ce x x wr.drew _ _ hbsq.drew hbse.drew (by omega) (by omega)
          rw [decide_eq_true rfl] at hs
          have hkI : (k : Int) < m := by omega
          have hkI2 : (k : Int) < m + 1 := by omega
          have HX := Lib.hid hs
          clear hce hcq hbse hbsq hp7 hp8 hx hxl hne hnq hs hcce hccq hbe hbq
          go_wp2_with fail
          go_still_tail 8, (by kernel_rfl)
          go_wp2_with (go_at_call 18; refine HX.out.mono ?_; rintro e w10 ⟨rfl, mm, hw10⟩; have H10 : Hid (Below wr.heap.size wr w10) := Lib.hid (hw10 ▸ (below_drew2 wr).trans (drewN_below _ _ mm)); clear hw10)
          go_roundw
          case rel => exact ⟨k + 1, by omega, by go_num, hbr.out.trans (H10.out.mono hbr.out.size)⟩
          case measure => simp [intOf]; omega
        · obtain rfl : k = m := by omega
          obtain ⟨hp7, hp8, ho6, ho5, hbw⟩ := H8.out
          have hbw' := hbw.trans (hbr.out.mono hbw.size)
          have hso := rsorted_f A6 (n + 1) c6 us6 Q wr ((ho6.below hbr.out).more hbr.out.size) (by omega) (fun x hx => Nat.le_trans (HM.out.2.2.2.1 x hx) (by omega))
          rw [HM.out.2.2.2.2.1] at hso
          have HX := Lib.hid (And.intro hso (And.intro ((ho6.below hbr.out).more hbr.out.size) (And.intro ((ho5.below hbr.out).more hbr.out.size) hbw')))
          clear hp7 hp8 ho6 ho5 hbw hbw' hso
          go_wp2_with (first
            | (go_at_call 23; refine HX.out.1.mono ?_; rintro e w11 ⟨A11, n11, c11, us11, rfl, hc11, hn11, hos11, b11⟩; obtain rfl : n11 = n + 1 := by rw [hn11.out, HM.out.2.2.1]
               have hsm := osame_yes w11 A6 A11 (n + 1) c6 c11 us6 us11 Q ((HX.out.2.1.below b11).more b11.size) hos11 (by omega) (fun x hx => Nat.le_trans (HM.out.2.2.2.1 x hx) (by omega))
               have H11 := Lib.hid (And.intro hsm b11); clear hn11 hos11 b11 hc11 hsm)
            | (go_at_call 21; with_reducible refine H11.out.1.mono ?_; rintro e w12 ⟨rfl, b12⟩
               have b12' := H11.out.2.trans (b12.mono H11.out.2.size)
               have hwo := wout_f num A6 (n + 1) c6 us6 Q w12 _ (HX.out.2.1.below b12') b12'.size (by omega) (fun x hx => Nat.le_trans (HM.out.2.2.2.1 x hx) (by omega))
               rw [HM.out.2.2.2.2.2.2.1, HM.out.2.2.2.2.2.2.2.2.2.1] at hwo
               have H12 := Lib.hid (And.intro hwo b12'); clear b12 b12' hwo))
          refine H12.out.1.mono ?_
          rintro e w13 ⟨A13, n13, c13, us13, rfl, hc13, hn13, hos13, b13⟩
          obtain rfl : n13 = fl := by rw [hn13.out, HM.out.2.2.2.2.2.2.2.2.2.2.2.2.1]
          have b13' := H12.out.2.trans (b13.mono H12.out.2.size)
          have hwo := wout_f num A5 n c5 us5 P w13 _ (HX.out.2.2.1.below b13') b13'.size (by omega) (fun x hx => Nat.le_trans (HM.out.2.1 x hx) (by omega))
          rw [HM.out.2.2.2.2.2.2.2.2.2.1] at hwo
          have H13 := Lib.hid (And.intro hwo (And.intro hos13 b13'))
          clear hc13 hn13 hos13 b13 b13' hwo
          go_wp2_with fail
          refine H13.out.1.mono ?_
          rintro e w14 ⟨A14, n14, c14, us14, rfl, hc14, hn14, hos14, b14⟩
          obtain rfl : n14 = n13 := by rw [hn14.out, HM.out.2.2.2.2.2.2.2.2.2.2.2.2.1]
          have b14' := H13.out.2.2.trans (b14.mono H13.out.2.2.size)
          have hsm := osame_yes w14 A13 A14 n14 c13 c14 us13 us14 F ((H13.out.2.1.below b14).more b14.size) hos14 (by omega) (fun x hx => Nat.le_trans (HM.out.2.2.2.2.2.2.2.2.2.2.2.1 x hx) (by omega))
          have H14 := Lib.hid (And.intro hsm b14')
          clear hc14 hn14 hos14 b14 b14' hsm
          go_wp2_with fail
          refine H14.out.1.mono ?_
          rintro e w15 ⟨rfl, b15⟩
          have H15 := Lib.hid (H14.out.2.trans (b15.mono H14.out.2.size))
          clear b15
          go_wp2
          go_ret
          exact ⟨rfl, HX.out.2.2.2.trans (H15.out.mono HX.out.2.2.2.size)⟩
end Go.Proofs.Ytihicplembaoeaa
