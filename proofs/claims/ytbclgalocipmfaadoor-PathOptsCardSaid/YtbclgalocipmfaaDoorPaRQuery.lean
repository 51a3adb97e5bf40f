/-
  The document's pairs of a message.
-/
import Derived.Test.YtbclgalocipmfaaDoorPaRSign
namespace Go.Proofs.YtbclgalocipmfaaDoor
open Go.RowKit
set_option maxRecDepth 100000
set_option linter.unusedVariables false
/-- The region at the sign: the two pieces, and the store. -/
def QuS (wr W : World) : Prop := Below wr.heap.size wr W ∧ W.there wr.heap.size 0 3 ∧ W.heap.size = wr.heap.size + 1
def QuR (b : Nat) (t : ByteArray) (k : Nat) (i : Nat) (W : World) (v : Value) : Prop :=
  match i with
  | 0 | 3 => v = .string t
  | 1 | 4 => v = .int .i64 (k : Int)
  | 2 => v = .string (t.extract 0 k)
  | 5 => v = .int .i64 ((k : Int) + 1)
  | 6 => v = .string (t.extract (k + 1) t.size)
  | 7 => v = .agg #[.string (t.extract 0 k), .string (t.extract (k + 1) t.size), .bool false]
  | 8 => W.rangeAt b 0 [.string (t.extract 0 k), .string (t.extract (k + 1) t.size), .bool false]
  | _ => True
theorem qur_up {b : Nat} {t : ByteArray} {k : Nat} (i : Nat) (W W' : World) (v : Value) (hT : W.rangeAt b 0 [.string (t.extract 0 k), .string (t.extract (k + 1) t.size), .bool false] → W'.rangeAt b 0 [.string (t.extract 0 k), .string (t.extract (k + 1) t.size), .bool false]) (h : QuR b t k i W v) : QuR b t k i W' v := by
  unfold QuR at h ⊢
  split at h <;> first | exact h | exact hT h | trivial
theorem QuS.put {wr W : World} {vs : List Value} (h : QuS wr W) : QuS wr (W.setCells wr.heap.size 0 vs) :=
  ⟨below_setCells h.1 (Nat.le_refl _) _ 0, there_cells (w := W) vs 0 W h.2.1, by rw [size_setCells_]; exact h.2.2⟩
theorem one3s {a b : ByteArray} : (#[Value.string a, .string b, .bool false].all fun x => x.oneCell') = true := by simp [Value.oneCell']
set_option maxHeartbeats 4000000 in
theorem rquery_f (A : Option Addr) (n c : Nat) (vs : List Sv) (ps : List (Int × List UInt8)) (w : World) (B : Nat) (hos : Os w B A n vs ps) (hB : B ≤ w.heap.size) (hn : n ≤ 1048576) (hmx : ∀ x ∈ ps, x.2.length ≤ 1000000) :
    Calls Tryd.prog 30 #[.slice A n c] w (RetK prK 60 ((allO 15 ps).map pairQ) w) := by
  obtain ⟨i0, hi0, hz0, hz1, hz2⟩ := info_parts info_pr
  have hpl := hos.plen
  have hal := allO_len 15 ps
  have hm := mem_allO (num := 15) hmx
  have hall := fun W (hb : Below w.heap.size w W) => rall_f 15 A n c vs ps W B (hos.below' hb hB) (Nat.le_trans hB hb.size) hn
  obtain ⟨ls, hls⟩ : ∃ ls, allO 15 ps = ls := ⟨_, rfl⟩
  rw [hls] at hal hm ⊢
  simp only [hls] at hall
  have hlsn : ls.length ≤ 1048576 := by omega
  have HA := Lib.hid (And.intro hall (And.intro hlsn hm))
  clear hall hal hls hpl hos hlsn hm hmx
  go_enter Tryd.func30, Tryd.ntmps30
  go_wp2_with fail
  refine (HA.out.1 _ (alloc_below w _)).mono ?_
  rintro e w1 ⟨A1, n1, c1, X, rfl, hnX, hat1, hsl1, hb1⟩
  have hup1 := (alloc_below w (.cells #[] 60)).trans (hb1.mono (alloc_below w _).size)
  have hown0 : (w.alloc (.cells #[] 60)).ownsRow w.heap.size 60 3 (.slice (some ⟨w.heap.size, 0, none⟩) 0 0) 0 (prK.all []) := rk_empty w w.heap.size (Nat.le_refl _) _ _
  have hown1 := rk_below hown0 hb1
  have hnI : (n1 : Int) ≤ 1048576 := by have := hnX.out; have := hsl1.1; have := HA.out.2.1; omega
  have H1 := Lib.hid (And.intro hat1 (And.intro hsl1 (And.intro hnX.out (And.intro hup1 hown1))))
  clear hat1 hsl1 hnX hb1 hup1 hown0 hown1
  try dsimp only
  go_wp2
  go_loopw [3, 5] (fun v3 v5 wr => ∃ (k c' : Nat) (A' : Option Addr), k ≤ n1 ∧ v5 = .int .i64 (k : Int) ∧ v3 = .slice A' k c' ∧ Aside (wr.ownsRow w.heap.size 60 3 (.slice A' k c') k (prK.all ((ls.take k).map pairQ)) ∧ wr.ownsRow (w.alloc (.cells #[] 60)).heap.size 24 1 (.slice A1 n1 c1) n1 (slK.all X) ∧ Below w.heap.size w wr)) (fun _ v5 _ => n1 - (intOf v5).toNat)
  case atStart => exact ⟨0, _, _, Nat.zero_le _, rfl, rfl, (show Aside _ from ⟨H1.out.2.2.2.2, H1.out.1, H1.out.2.2.2.1⟩)⟩
  case round =>
    obtain ⟨k, c', A', hk, rfl, rfl, hrel⟩ := hrel
    obtain ⟨hown, hrow, hbw⟩ := hrel.out
    clear hrel
    by_cases hlt : k < n1
    · have hsr := own_at hrow
      obtain ⟨b, off, rfl, hbb, _⟩ := hsr.place (by omega)
      obtain ⟨s, hs⟩ := hsr.get hlt
      have hcell := hsr.range hs 0 _ rfl
      rw [Nat.mul_one, Nat.add_zero] at hcell
      obtain ⟨sA, sn, sc⟩ := s
      obtain ⟨l, hl⟩ : ∃ l, ls[k]? = some l := ⟨_, List.getElem?_eq_getElem (by rw [← H1.out.2.1.1, ← H1.out.2.2.1]; exact hlt)⟩
      have hbs := (H1.out.2.1.2 k _ l hs hl).keep (w' := wr) fun p hp => (hbw.cell (by omega)).trans ((alloc_below w (.cells #[] 60)).cell (by omega)).symm
      have hcv := run_string_bs (P := Tryd.prog) hbs 24 9 5 sc Tryd.underlying24 Tryd.underlying5 Tryd.underlying9
      have hlm := HA.out.2.2 l (List.mem_of_getElem? hl)
      obtain ⟨t, ht⟩ : ∃ t : ByteArray, ⟨l.toArray⟩ = t := ⟨_, rfl⟩
      have htl : t.data.toList = l := by rw [← ht]
      have hts : t.size ≤ 1000000 := by rw [← size_list, htl]; exact hlm
      rw [ht] at hcv
      dsimp only at hcv
      have hpt := pairs_take hl
      have hltI : (k : Int) < n1 := by omega
      have hal0 := alloc_below wr (.cells #[.string t, .string ⟨#[]⟩, .bool true] 60)
      have HX := Lib.hid (And.intro hown (And.intro hrow (And.intro hbw (And.intro hpt hbw.size))))
      clear hown hrow hbw hpt hsr hbs hl hs hlm hal0
      rcases idx_spec' 61 l with ⟨hi, hno⟩ | ⟨k0, hi, hk0, hno⟩
      · have hpq : pairQ l = ⟨t, ⟨#[]⟩, true⟩ := by
          unfold pairQ cutA cutB
          rw [hi, ← ht]
          rfl
        have HN := Lib.hid (And.intro hno (And.intro hpq htl))
        clear hno hpq hi ht htl
        go_wp2
        go_loop [8] (fun v8 => ∃ i : Nat, i ≤ t.size ∧ v8 = .int .i64 (i : Int)) (fun v8 => t.size - (intOf v8).toNat)
        case atStart => exact ⟨0, Nat.zero_le _, rfl⟩
        case round =>
          obtain ⟨i, hi, rfl⟩ := hrel
          by_cases hli : i < t.size
          · have hliI : (i : Int) < t.size := by omega
            obtain ⟨y, hy⟩ : ∃ y, t[i]'hli = y := ⟨_, rfl⟩
            have hyl : l[i]? = some y := by rw [← HN.out.2.2, Array.getElem?_toList, Array.getElem?_eq_getElem hli]; exact congrArg some hy
            have hsn : (t[i]'hli).toNat = y.toNat := by rw [hy]
            have hy61 := HN.out.1 i y hyl
            have hyI : ¬ (y.toNat : Int) = 61 := fun e => hy61 (UInt8.toNat_inj.1 (by show y.toNat = 61; omega))
            have hyJ : ((y.toNat : Int) == 61) = false := beq_eq_false_iff_ne.2 hyI
            obtain ⟨yn, hyn⟩ : ∃ yn, y.toNat = yn := ⟨_, rfl⟩
            rw [hyn] at hyI hyJ hsn
            clear hyl hy hy61 hyn
            go_wp2
            go_round
            case rel => exact ⟨i + 1, by omega, by go_num⟩
            case measure => simp [intOf]; omega
          · have hliI : ¬ (i : Int) < t.size := by omega
            go_wp2_with (at_builtin; go_loud (refine prK.append_one (wr.alloc (.cells #[.string t, .string ⟨#[]⟩, .bool true] 60)) rfl (.tmp 47) (.tmp 49) 56 rfl w.heap.size 60 i0 _ 40 Tryd.underlying56 hi0 hz0 hz1 hz2 rfl (.slice A' k c') k _ rfl (HX.out.1.alloc _) ⟨t, ⟨#[]⟩, true⟩ _ rfl _ (by rw [alloc_size]; rfl) (by omega) (by unfold maxLen; omega) (by have := HX.out.2.2.2.2; rw [alloc_size]; omega) ?_); intro A6 c6 w6 hown6 hgr6; have H6 := Lib.hid (And.intro hown6 hgr6); clear hown6 hgr6)
            go_roundw
            case rel => exact ⟨k + 1, c6, A6, by omega, by go_num, rfl, (show Aside _ from ⟨by rw [HX.out.2.2.2.1, HN.out.2.1]; exact H6.out.1, own_apart ((HX.out.2.1.alloc _).alloc _) ((HX.out.1.alloc _).alloc _) H6.out.2 (by decide), rk_in' ((HX.out.2.2.1.trans ((alloc_below wr _).mono HX.out.2.2.2.2)).trans ((alloc_below (wr.alloc _) _).mono (by have := HX.out.2.2.2.2; rw [alloc_size]; omega))) ((HX.out.1.alloc _).alloc _) H6.out.2 (by have := HX.out.2.2.2.2; rw [alloc_size, alloc_size]; omega)⟩)⟩
            case measure => simp [intOf]; omega
      · obtain ⟨wo, hwo⟩ : ∃ x : World, x = wr := ⟨wr, rfl⟩
        subst hwo
        have hpq : pairQ l = ⟨t.extract 0 k0, t.extract (k0 + 1) t.size, false⟩ := by
          have e1 : (t.extract 0 k0).data.toList = l.take k0 := by rw [← htl]; simp [ByteArray.data_extract, Array.toList_extract]
          have e2 : (t.extract (k0 + 1) t.size).data.toList = l.drop (k0 + 1) := by rw [← htl]; exact Lib.ext_list t (k0 + 1)
          have e3 : ∀ (u : ByteArray) m, u.data.toList = m → u = ⟨m.toArray⟩ := fun u m h => by rw [← h, Array.toArray_toList]
          unfold pairQ cutA cutB
          rw [hi, if_neg (by omega), if_neg (by omega), Int.toNat_natCast, e3 _ _ e1, e3 _ _ e2, decide_eq_true (by omega)]
          rfl
        have hk0s : k0 < t.size := by rw [← size_list, htl]; exact (List.getElem?_eq_some_iff.1 hk0).1
        have hk0I : (k0 : Int) < t.size := by omega
        have hk0n : (t[k0]'hk0s).toNat = 61 := by
          have h1 : t.data.toList[k0]? = some (t[k0]'hk0s) := by rw [Array.getElem?_toList, Array.getElem?_eq_getElem hk0s]; rfl
          rw [htl, hk0] at h1
          rw [← Option.some.inj h1]; rfl
        have HN := Lib.hid (And.intro hno (And.intro hpq htl))
        clear hno hpq hi ht htl hk0
        go_wp2
        go_loopw [8] (fun v8 wx => ∃ i : Nat, v8 = .int .i64 (i : Int) ∧ ((i ≤ k0 ∧ wx = wo.alloc (.cells #[.string t, .string ⟨#[]⟩, .bool true] 60)) ∨ (i = k0 + 1 ∧ Aside (Below wo.heap.size wo wx ∧ wx.heap.size = wo.heap.size + 1 ∧ wx.rangeAt wo.heap.size 0 [.string (t.extract 0 k0), .string (t.extract (k0 + 1) t.size), .bool false])))) (fun v8 _ => k0 + 1 - (intOf v8).toNat)
        case atStart => exact ⟨0, rfl, .inl ⟨Nat.zero_le _, rfl⟩⟩
        case round =>
          obtain ⟨i, rfl, ⟨hik, rfl⟩ | ⟨rfl, hxx⟩⟩ := hrel
          · by_cases hie : i = k0
            · subst hie
              go_wp2
              have hile : i ≤ t.size := by omega
              have hw1 : IntKind.i64.wrap ((i : Int) + 1) = (i : Int) + 1 := by rw [IntKind.wrap_i64]; omega
              have hp0 : 0 ≤ (i : Int) + 1 := by omega
              have hp1 : (i : Int) + 1 ≤ (t.size : Int) := by omega
              have hp2 : ((i : Int) + 1).toNat = i + 1 := by omega
              refine wp_region_rel2 (fun W => QuS wo W) (fun W W' => W.rangeAt wo.heap.size 0 [.string (t.extract 0 i), .string (t.extract (i + 1) t.size), .bool false] → W'.rangeAt wo.heap.size 0 [.string (t.extract 0 i), .string (t.extract (i + 1) t.size), .bool false]) (QuR wo.heap.size t i) [(6, .string t), (8, .int .i64 (i : Int)), (7, .pointer (some ⟨wo.heap.size, 0, none⟩))] (by kernel_rfl) (by kernel_rfl) (by kernel_rfl) ?base ⟨Below.drew (alloc_below wo _), there_new wo _ _ rfl, by rw [show ((wo.alloc (.cells #[.string t, .string ⟨#[]⟩, .bool true] 60)).drew).heap.size = (wo.alloc (.cells #[.string t, .string ⟨#[]⟩, .bool true] 60)).heap.size from rfl, alloc_size]⟩ qur_up ?steps ?fin
              case base =>
                intro x hx
                simp only [List.mem_cons, List.not_mem_nil, or_false] at hx
                rcases hx with rfl | rfl | rfl <;> exact ⟨rfl, rfl⟩
              case steps =>
                refine steps_cons ?_ (steps_cons ?_ (steps_cons ?_ (steps_cons ?_ (steps_cons ?_ (steps_cons ?_ (steps_cons ?_ (steps_cons ?_ (steps_cons ?_ steps_nil))))))))
                · intro a wx K hS hB hR hK
                  rw [if_pos (wanted_none rfl)]
                  have h6 := tmp_is (hB.1)
                  go_simp
                  exact hK (.string t) wx hS (fun h => h) rfl
                · intro a wx K hS hB hR hK
                  rw [if_pos (wanted_none rfl)]
                  have h8 := tmp_is (hB.2.1)
                  go_simp
                  exact hK (.int .i64 (i : Int)) wx hS (fun h => h) rfl
                · intro a wx K hS hB hR hK
                  rw [if_pos (wanted_none rfl)]
                  have h39 := tmp_is (hR.1)
                  have h40 := tmp_is (hR.2.1)
                  go_simp
                  exact hK (.string (t.extract 0 i)) wx hS (fun h => h) rfl
                · intro a wx K hS hB hR hK
                  rw [if_pos (wanted_none rfl)]
                  have h6 := tmp_is (hB.1)
                  go_simp
                  exact hK (.string t) wx hS (fun h => h) rfl
                · intro a wx K hS hB hR hK
                  rw [if_pos (wanted_none rfl)]
                  have h8 := tmp_is (hB.2.1)
                  go_simp
                  exact hK (.int .i64 (i : Int)) wx hS (fun h => h) rfl
                · intro a wx K hS hB hR hK
                  rw [if_pos (wanted_none rfl)]
                  have h43 := tmp_is (hR.1)
                  go_simp
                  exact hK (.int .i64 ((i : Int) + 1)) wx hS (fun h => h) rfl
                · intro a wx K hS hB hR hK
                  rw [if_pos (wanted_none rfl)]
                  have h42 := tmp_is (hR.1)
                  have h44 := tmp_is (hR.2.1)
                  go_simp
                  exact hK (.string (t.extract (i + 1) t.size)) wx hS (fun h => h) rfl
                · intro a wx K hS hB hR hK
                  rw [if_pos (wanted_none rfl)]
                  have h41 := tmp_is (hR.1)
                  have h45 := tmp_is (hR.2.1)
                  go_simp
                  exact hK (.agg #[.string (t.extract 0 i), .string (t.extract (i + 1) t.size), .bool false]) wx hS (fun h => h) rfl
                · intro a wx K hS hB hR hK
                  rw [if_pos (wanted_none rfl)]
                  refine wp_store_mid 60 (.tmp 7) (.tmp 46) (by rfl) wo.heap.size 0 #[.string (t.extract 0 i), .string (t.extract (i + 1) t.size), .bool false] (hB.2.2.1) (hR.1) hS.2.1 size_pr1 one3s ?_
                  exact hK undef _ hS.put (fun _ => range_stored hS.2.1) (range_stored hS.2.1)
              case fin =>
                intro a wx hS ha hR
                have hst : wx.rangeAt wo.heap.size 0 [.string (t.extract 0 i), .string (t.extract (i + 1) t.size), .bool false] := deps_mem _ hR 8 (by decide)
                have H8 := Lib.hid (And.intro hS hst)
                clear hR hS hst
                simp only [pin] at ha
                rw [ha]
                simp only [List.setIfInBounds_toArray, List.set_cons_zero, List.set_cons_succ]
                clear ha
                go_wp2
                go_roundw
                case rel => exact ⟨i + 1, by go_num, .inr ⟨rfl, (show Aside _ from ⟨H8.out.1.1, H8.out.1.2.2, H8.out.2⟩)⟩⟩
                case measure => simp [intOf] <;> omega
            · have hli : i < t.size := by omega
              have hliI : (i : Int) < t.size := by omega
              obtain ⟨y, hy⟩ : ∃ y, t[i]'hli = y := ⟨_, rfl⟩
              have hyl : l[i]? = some y := by rw [← HN.out.2.2, Array.getElem?_toList, Array.getElem?_eq_getElem hli]; exact congrArg some hy
              have hsn : (t[i]'hli).toNat = y.toNat := by rw [hy]
              have hy61 := HN.out.1 i y (by omega) hyl
              have hyI : ¬ (y.toNat : Int) = 61 := fun e => hy61 (UInt8.toNat_inj.1 (by show y.toNat = 61; omega))
              have hyJ : ((y.toNat : Int) == 61) = false := beq_eq_false_iff_ne.2 hyI
              obtain ⟨yn, hyn⟩ : ∃ yn, y.toNat = yn := ⟨_, rfl⟩
              rw [hyn] at hyI hyJ hsn
              clear hyl hy hy61 hyn
              go_wp2
              go_roundw
              case rel => exact ⟨i + 1, by go_num, .inl ⟨by omega, by first | rfl | trivial⟩⟩
              case measure => simp [intOf]; omega
          · obtain ⟨hbx, hsx, hrx⟩ := hxx.out
            have y0 := hrx 0 _ rfl
            have y1 := hrx 1 _ rfl
            have y2 := hrx 2 _ rfl
            rw [Nat.zero_add] at y0 y1 y2
            have hownx := rk_below HX.out.1 hbx
            have hrowx := rk_below HX.out.2.1 hbx
            have HY := Lib.hid (And.intro hownx (And.intro hrowx (And.intro hbx hsx)))
            clear hownx hrowx hbx hsx hrx hxx
            by_cases hlast : k0 + 1 < t.size
            · have hlastI : (k0 : Int) + 1 < t.size := by omega
              go_wp2_with (at_builtin; go_loud (refine prK.append_one wr rfl (.tmp 47) (.tmp 49) 56 rfl w.heap.size 60 i0 _ 40 Tryd.underlying56 hi0 hz0 hz1 hz2 rfl (.slice A' k c') k _ rfl HY.out.1 ⟨t.extract 0 k0, t.extract (k0 + 1) t.size, false⟩ _ rfl _ rfl (by omega) (by unfold maxLen; omega) (by have := HX.out.2.2.2.2; have := HY.out.2.2.2; omega) ?_); intro A6 c6 w6 hown6 hgr6; have H6 := Lib.hid (And.intro hown6 hgr6); clear hown6 hgr6)
              go_roundw
              case rel => exact ⟨k + 1, c6, A6, by omega, by go_num, rfl, (show Aside _ from ⟨by rw [HX.out.2.2.2.1, HN.out.2.1]; exact H6.out.1, own_apart (HY.out.2.1.alloc _) (HY.out.1.alloc _) H6.out.2 (by decide), rk_in' ((HX.out.2.2.1.trans (HY.out.2.2.1.mono HX.out.2.2.2.2)).trans ((alloc_below wr _).mono (by have := HX.out.2.2.2.2; have := HY.out.2.2.2; omega))) (HY.out.1.alloc _) H6.out.2 (by have := HX.out.2.2.2.2; have := HY.out.2.2.2; rw [alloc_size]; omega)⟩)⟩
              case measure => simp [intOf]; omega
            · have hlastI : ¬ (k0 : Int) + 1 < t.size := by omega
              go_wp2_with (at_builtin; go_loud (refine prK.append_one wr rfl (.tmp 47) (.tmp 49) 56 rfl w.heap.size 60 i0 _ 40 Tryd.underlying56 hi0 hz0 hz1 hz2 rfl (.slice A' k c') k _ rfl HY.out.1 ⟨t.extract 0 k0, t.extract (k0 + 1) t.size, false⟩ _ rfl _ rfl (by omega) (by unfold maxLen; omega) (by have := HX.out.2.2.2.2; have := HY.out.2.2.2; omega) ?_); intro A6 c6 w6 hown6 hgr6; have H6 := Lib.hid (And.intro hown6 hgr6); clear hown6 hgr6)
              go_roundw
              case rel => exact ⟨k + 1, c6, A6, by omega, by go_num, rfl, (show Aside _ from ⟨by rw [HX.out.2.2.2.1, HN.out.2.1]; exact H6.out.1, own_apart (HY.out.2.1.alloc _) (HY.out.1.alloc _) H6.out.2 (by decide), rk_in' ((HX.out.2.2.1.trans (HY.out.2.2.1.mono HX.out.2.2.2.2)).trans ((alloc_below wr _).mono (by have := HX.out.2.2.2.2; have := HY.out.2.2.2; omega))) (HY.out.1.alloc _) H6.out.2 (by have := HX.out.2.2.2.2; have := HY.out.2.2.2; rw [alloc_size]; omega)⟩)⟩
              case measure => simp [intOf]; omega
    · obtain rfl : k = n1 := by omega
      have hltI : ¬ (k : Int) < k := by omega
      have htk : ls.take k = ls := List.take_of_length_le (by rw [← H1.out.2.1.1, ← H1.out.2.2.1]; exact Nat.le_refl _)
      rw [htk] at hown
      have HX := Lib.hid (And.intro hown hbw)
      clear hown hrow hbw htk hlt
      go_wp2
      go_ret
      exact RetK.of HX.out.1 HX.out.2
end Go.Proofs.YtbclgalocipmfaaDoor
