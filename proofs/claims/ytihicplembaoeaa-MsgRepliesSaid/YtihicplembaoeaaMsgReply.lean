/-
  An answer to a message, whatever its options.
-/
import Derived.Test.YtihicplembaoeaaMsgRs2
namespace Go.Proofs.Ytihicplembaoeaa
open Go.RowKit
set_option maxRecDepth 100000
set_option linter.unusedVariables false
set_option maxHeartbeats 4000000 in
theorem reply_f (kd cd id : Int) (tA : Option Addr) (tn tc : Nat) (oA : Option Addr) (on oc : Nat) (bA : Option Addr) (bn bc : Nat) (vs : List Sv) (tok : List UInt8) (ps : List (Int × List UInt8)) (body : List UInt8) (code nid : Int) (pA : Option Addr) (pn pc : Nat) (us0 : List Sv) (qs : List (Int × List UInt8)) (qA : Option Addr) (qn qc : Nat) (l : List UInt8) (w : World)
    (hm : Ms w w.heap.size tA tn oA on vs bA bn tok ps body) (hos : Os w w.heap.size pA pn us0 qs) (hl : Bs w w.heap.size qA qn l) (hpn : pn ≤ 40) (hpm : ∀ s ∈ us0, s.n ≤ 400) (htn : (tn : Int) ≤ 140737488355328) (hqn : (qn : Int) ≤ 140737488355328) :
    Calls Try.prog 39 #[.agg #[.int .i64 kd, .int .i64 cd, .int .i64 id, .slice tA tn tc, .slice oA on oc, .slice bA bn bc], .int .i64 code, .int .i64 nid, .slice pA pn pc, .slice qA qn qc] w
      (RetM ⟨if kd = 0 then 2 else 1, code, if kd = 0 then id else nid, tok, qs, l⟩ w) := by
  obtain ⟨i0, z0, hi0, hz0, hz1, hz2, hz3⟩ := info_opt
  have HZ := Lib.hid (Zr.new_ w (.cells #[.int .i64 kd, .int .i64 cd, .int .i64 id, .slice tA tn tc, .slice oA on oc, .slice bA bn bc] 51))
  have hbox := six (range_below (range_newA w #[.int .i64 kd, .int .i64 cd, .int .i64 id, .slice tA tn tc, .slice oA on oc, .slice bA bn bc] 51 rfl) (alloc_below _ (.cells Z6.toArray 51)) (by rw [alloc_size]; omega))
  have hcell : ∀ W, Below (w.heap.size + 2) ((w.alloc (.cells #[.int .i64 kd, .int .i64 cd, .int .i64 id, .slice tA tn tc, .slice oA on oc, .slice bA bn bc] 51)).alloc (.cells Z6.toArray 51)) W → W.cell? ⟨w.heap.size, 0, none⟩ = some (.int .i64 kd) ∧ W.cell? ⟨w.heap.size, 2, none⟩ = some (.int .i64 id) := fun W hb =>
    ⟨(hb.cell (p := ⟨w.heap.size, 0, none⟩) (by show w.heap.size < _; omega)).trans hbox.1, (hb.cell (p := ⟨w.heap.size, 2, none⟩) (by show w.heap.size < _; omega)).trans hbox.2.2.1⟩
  obtain ⟨W0, hW0⟩ : ∃ W0, (w.alloc (.cells #[.int .i64 kd, .int .i64 cd, .int .i64 id, .slice tA tn tc, .slice oA on oc, .slice bA bn bc] 51)).alloc (.cells Z6.toArray 51) = W0 := ⟨_, rfl⟩
  have hs0 : W0.heap.size = w.heap.size + 2 := by rw [← hW0, alloc_size, alloc_size]
  rw [hW0] at hcell
  have HZ0 := Lib.hid (show Zr w W0 from hW0 ▸ HZ.out)
  have hcl1 := bclone_f tA tn tc tok W0 _ ((hm.t.below HZ0.out.bel).more HZ0.out.bel.size) (Nat.le_refl _) htn
  have hcl2 := fun W (hb : Below W0.heap.size W0 W) => bclone_f qA qn qc l W _ ((hl.below (HZ0.out.step hb).bel).more (HZ0.out.step hb).bel.size) (Nat.le_refl _) hqn
  have HO := Lib.hid (And.intro hcl1 (And.intro hcl2 (And.intro hcell hs0)))
  have HW := Lib.hid hW0
  have HP := Lib.hid (And.intro hos hpm)
  have hpI : (pn : Int) ≤ 40 := by omega
  clear hm hl hos hpm htn hqn HZ hbox hcell hW0 hs0 hcl1 hcl2
  by_cases hk : kd = 0
  · subst hk
    rw [if_pos rfl, if_pos rfl]
    go_enter Try.func39, Try.ntmps39
    go_wp2_with fail
    refine calls_at_world (F := fun W => W = W0) HW.out fun W1 e1 => ?_
    obtain rfl := e1.symm
    refine HO.out.1.mono ?_
    rintro e w1 ⟨u1, rfl, ho1, b1⟩
    obtain ⟨tB, td, rfl, htd, hbt⟩ := own_bs ho1
    have htm := row_cap ho1
    have H1 := Lib.hid (And.intro hbt (And.intro htd (And.intro htm b1)))
    clear ho1 htd hbt htm b1
    go_wp2_with fail
    refine (HO.out.2.1 w1 H1.out.2.2.2).mono ?_
    rintro e w2 ⟨u2, rfl, ho2, b2⟩
    obtain ⟨qB, qd, rfl, hqd, hbq⟩ := own_bs ho2
    have hqm := row_cap ho2
    have B2 : Below W0.heap.size W0 w2 := H1.out.2.2.2.trans (b2.mono H1.out.2.2.2.size)
    have H2 := Lib.hid (And.intro ((H1.out.1.below b2).more b2.size) (And.intro hbq (And.intro hqd (And.intro hqm B2))))
    have k0 : ∀ o, (w2.alloc o).cell? ⟨w.heap.size, 0, none⟩ = some (.int .i64 _) := fun o => (HO.out.2.2.1 (w2.alloc o) ((B2.alloc B2.size o).mono (by have := HO.out.2.2.2; omega))).1
    have k2 : ∀ o, (w2.alloc o).cell? ⟨w.heap.size, 2, none⟩ = some (.int .i64 _) := fun o => (HO.out.2.2.1 (w2.alloc o) ((B2.alloc B2.size o).mono (by have := HO.out.2.2.2; omega))).2
    clear ho2 hqd hbq hqm b2 B2
    go_wp2_with fail
    go_region
    go_wp2
    refine wp_at_world (F := fun W => Rs w2 W 2 code id tB tok.length td qB l.length qd 0 (.slice none 0 0) [] qs) (Rs.start_drew w2 _ _ _ _ _ _ _ _ _ qs) fun W3 h3 => ?_
    have H3 := Lib.hid h3
    have hszR : w.heap.size + 2 ≤ w2.heap.size := by have := (HZ0.out.step H2.out.2.2.2.2).size; exact this
    clear k0 k2 h3
    go_loopw [13, 31] (fun _ i wr => ∃ (k : Nat) (u : Value) (us : List Sv), k ≤ pn ∧ i = .int .i64 k ∧ Aside (Rs w2 wr 2 code id tB tok.length td qB l.length qd k u us qs)) (fun _ i _ => pn - (intOf i).toNat)
    case atStart => exact ⟨0, _, [], Nat.zero_le _, rfl, H3.out⟩
    case round =>
      obtain ⟨k, u, us, hk, rfl, HS⟩ := hrel
      by_cases hlt : k < pn
      · have hltI : (k : Int) < pn := by omega
        have hbw : ∀ W, Below w2.heap.size w2 W → Below w.heap.size w W := fun W hW => HZ0.out.bel.trans ((H2.out.2.2.2.2.trans (hW.mono H2.out.2.2.2.2.size)).mono (by have := HZ0.out.size; omega))
        have hosr := HP.out.1.below (hbw wr HS.out.bel)
        obtain ⟨b, off, rfl, hb, _⟩ := hosr.sh.place (by omega)
        obtain ⟨s, hs⟩ := sv_get hosr.sh hlt
        obtain ⟨ll, hpl1, hbs⟩ := HP.out.1.get hs
        have hr := hosr.sh.range hs
        have hsn := HP.out.2 s (List.mem_of_getElem? hs)
        obtain ⟨sk, sA, sn, sc⟩ := s
        dsimp only at hpl1 hbs hr hsn
        have HCL := Lib.hid fun W (hW : Below w2.heap.size w2 W) => bclone_f sA sn sc ll W w.heap.size (hbs.below (hbw W hW)) (hbw W hW).size (by omega)
        have HG := Lib.hid (And.intro (show w2.heap.size < wr.heap.size by have := HS.out.size; omega) (And.intro (fun b e => (HS.out.row.lt b e).2 : ∀ b, u.ownBlock = some b → b < wr.heap.size) hpl1))
        clear hosr hs hpl1 hbs hsn hbw
        go_wp2_with (refine wpList_load_mid rfl 69 (.tmp 33) rfl b (off + k * 2) rfl [.int .i64 sk, .slice sA sn sc] _ hr Try.underlying69 rfl size_opt1 ?_)
        refine wp_at_world (F := fun W4 => Below wr.heap.size wr W4 ∧ wr.heap.size < W4.heap.size ∧ W4.cell? ⟨wr.heap.size, 0, none⟩ = some (.int .i64 sk) ∧ W4.cell? ⟨wr.heap.size, 1, none⟩ = some (.slice sA sn sc)) ⟨alloc_below wr _, by rw [alloc_size]; omega, by rw [cell_of_row _ _ _ _ _ _ (heap_alloc_new wr _)]; rfl, by rw [cell_of_row _ _ _ _ _ _ (heap_alloc_new wr _)]; rfl⟩ fun W4 ⟨b4, l4, c0, c1⟩ => ?_
        refine wp_region_relG (RS ⟨w2, wr.heap.size, k, sk, sA, sn, sc, ll, u, us, qs, 2, code, id, tB, tok.length, td, qB, l.length, qd⟩) RT (RR ⟨w2, wr.heap.size, k, sk, sA, sn, sc, ll, u, us, qs, 2, code, id, tB, tok.length, td, qB, l.length, qd⟩) [(11, .pointer (some ⟨w2.heap.size, 0, none⟩)), (13, .pointer (some ⟨wr.heap.size, 0, none⟩))] (by kernel_rfl) (by kernel_rfl) (by kernel_rfl) ?base (none, none, none) (RS.first HS.out b4 l4 c0 c1) (fun i g w g' w' v ht h => RR.grow _ i g w g' w' v ht h) ?steps ?fin
        case base =>
          intro x hx
          simp only [List.mem_cons, List.not_mem_nil, or_false] at hx
          rcases hx with rfl | rfl <;> exact ⟨rfl, rfl⟩
        case steps =>
          clear b4 l4 c0 c1 hr
          refine steps_cons ?_ (steps_cons ?_ (steps_cons ?_ (steps_cons ?_ (steps_cons ?_ (steps_cons ?_ (steps_cons ?_ (steps_cons ?_ (steps_cons ?_ (steps_cons ?_ (steps_cons ?_ (steps_cons ?_ steps_nil)))))))))))
          · intro a w L g K hLi hLd hS hB hR hK
            rw [if_pos (wanted_none rfl)]
            have h11 := tmp_is (hB.1)
            go_simp
            exact hK (.pointer (some ⟨w2.heap.size, 4, none⟩)) w g (hS.quiet 0 rfl rfl rfl rfl (fun x => hS.l7 x)) (RT.refl _ _ _) rfl
          · intro a w L g K hLi hLd hS hB hR hK
            rw [if_pos (wanted_none rfl)]
            have h35 := tmp_is (hR.1)
            have hc : w.cell? ⟨w2.heap.size, 4, none⟩ = some u := (hS.old (hS.l91 hLi)).cell4
            go_simp
            exact hK (u) w g (hS.quiet 1 rfl rfl rfl rfl (fun x => hS.l7 x)) (RT.refl _ _ _) rfl
          · intro a w L g K hLi hLd hS hB hR hK
            rw [if_pos (wanted_none rfl)]
            have h13 := tmp_is (hB.2.1)
            go_simp
            exact hK (.pointer (some ⟨wr.heap.size, 0, none⟩)) w g (hS.quiet 2 rfl rfl rfl rfl (fun x => hS.l7 x)) (RT.refl _ _ _) rfl
          · intro a w L g K hLi hLd hS hB hR hK
            rw [if_pos (wanted_none rfl)]
            have h37 := tmp_is (hR.1)
            have hc : w.cell? ⟨wr.heap.size, 0, none⟩ = some (.int .i64 sk) := hS.c0
            go_simp
            exact hK (.int .i64 sk) w g (hS.quiet 3 rfl rfl rfl rfl (fun x => hS.l7 x)) (RT.refl _ _ _) rfl
          · intro a w L g K hLi hLd hS hB hR hK
            rw [if_pos (wanted_none rfl)]
            have h13 := tmp_is (hB.2.1)
            go_simp
            exact hK (.pointer (some ⟨wr.heap.size, 1, none⟩)) w g (hS.quiet 4 rfl rfl rfl rfl (fun x => hS.l7 x)) (RT.refl _ _ _) rfl
          · intro a w L g K hLi hLd hS hB hR hK
            rw [if_pos (wanted_none rfl)]
            have h39 := tmp_is (hR.1)
            have hc : w.cell? ⟨wr.heap.size, 1, none⟩ = some (.slice sA sn sc) := hS.c1
            go_simp
            exact hK (.slice sA sn sc) w g (hS.quiet 5 rfl rfl rfl rfl (fun x => hS.l7 x)) (RT.refl _ _ _) rfl
          · intro a w L g K hLi hLd hS hB hR hK
            rw [if_pos (wanted_none rfl)]
            have h40 := tmp_is (hR.1)
            go_simp
            refine (HCL.out w hS.bel).mono ?_
            rintro e w' ⟨u5, rfl, ho5, b5⟩
            obtain ⟨A5, c5, rfl, _, _⟩ := Bs.of_own ho5
            exact hK _ _ (some (A5, c5), g.2) (hS.clone hLi b5 ho5) ⟨fun a ha => (by rw [hS.n6 hLi] at ha; cases ha), fun _ h => h, fun _ h => h⟩ ⟨(A5, c5), rfl, rfl⟩
          · intro a w L g K hLi hLd hS hB hR hK
            rw [if_pos (wanted_none rfl)]
            have h38 := tmp_is (hR.1)
            obtain ⟨a6, hg6, hv6⟩ := hR.2.1
            have h41 := tmp_is hv6
            go_simp
            exact hK _ w g (hS.quiet 7 rfl rfl rfl rfl (fun _ => hLd 6 (by decide))) (RT.refl _ _ _) ⟨a6, hg6, rfl⟩
          · intro a w L g K hLi hLd hS hB hR hK
            rw [if_pos (wanted_none rfl)]
            obtain ⟨a7, hg7, hv7⟩ := hR.1
            have h42 := tmp_is hv7
            go_simp
            exact hK (.slice (some ⟨w.heap.size, 0, none⟩) 1 1) _ (g.1, some w.heap.size, g.2.2) (hS.one hLi (hLd 7 (by decide)) hg7) ⟨fun _ h => h, fun b hb => (by rw [hS.n8 hLi] at hb; cases hb), fun _ h => h⟩ ⟨_, rfl, rfl⟩
          · intro a w L g K hLi hLd hS hB hR hK
            rw [if_pos (wanted_none rfl)]
            obtain ⟨b8, hg8, hv8⟩ := hR.2.1
            obtain ⟨a8, b8x, hga, hgb, hsh⟩ := hS.y8 (hLd 8 (by decide))
            rw [hg8] at hgb
            obtain rfl := Option.some.inj hgb
            have hsh9 := hsh hLi
            refine wp_append_svs w (.tmp 36) (.tmp 43) 22 (by rfl) w2.heap.size 69 i0 z0 Try.underlying22 hi0 hz0 hz2 hz3 hz1 u k us (hR.1) (hS.old hLi).row w.heap.size (some ⟨b8, 0, none⟩) 1 1 [⟨sk, a8.1, ll.length, a8.2⟩] hv8 hsh9 (by omega) hS.bel.size ?_
            intro v' w' ho hgr
            obtain ⟨A6, c6, rfl, _, _⟩ := Sh.of_own ho
            exact hK _ _ (g.1, g.2.1, some (A6, c6)) (hS.app hLi (hLd 1 (by decide)) (hLd 8 (by decide)) HG.out.1 HG.out.2.1 HG.out.2.2 hga ho hgr) ⟨fun _ h => h, fun _ h => h, fun b hb => (by rw [hS.n9 hLi] at hb; cases hb)⟩ ⟨(A6, c6), rfl, rfl⟩
          · intro a w L g K hLi hLd hS hB hR hK
            rw [if_pos (wanted_none rfl)]
            have h11 := tmp_is (hB.1)
            go_simp
            exact hK (.pointer (some ⟨w2.heap.size, 4, none⟩)) w g (hS.quiet 10 rfl rfl rfl rfl (fun x => hS.l7 x)) (RT.refl _ _ _) rfl
          · intro a w L g K hLi hLd hS hB hR hK
            rw [if_pos (wanted_none rfl)]
            have h45 := tmp_is (hR.1)
            obtain ⟨a9, hg9, hv9⟩ := hR.2.1
            have h44 := tmp_is hv9
            have hL9 := hLd 9 (by decide)
            obtain ⟨a9x, us9, hgx9, hmid, _⟩ := hS.y9 hL9
            have hblk := (hmid hLi).1
            have hc : w.cell? ⟨w2.heap.size, 4, none⟩ = some u := by rw [cell_of_row _ _ _ _ _ _ hblk]; rfl
            have hfz : w.frozen? ⟨w2.heap.size, 4, none⟩ = false := frz_of_row hblk
            clear hmid hblk
            go_simp
            exact hK undef _ g (hS.sto hLi hL9 HG.out.1 hg9) (RT.refl _ _ _) trivial
        case fin =>
          intro a w5 L g hS5 hall ha hR
          obtain ⟨u', us', hst⟩ := hS5.done (hall 11 (by decide))
          have HST : Aside (Rs w2 w5 2 code id tB tok.length td qB l.length qd (k + 1) u' us' qs) := hst
          clear hS5 hall hR hst b4 l4 c0 c1 hr
          simp only [pin] at ha
          rw [ha]
          simp only [List.setIfInBounds_toArray, List.set_cons_zero, List.set_cons_succ]
          clear ha
          go_wp2
          go_roundw
          case rel => exact ⟨k + 1, u', us', by omega, by go_num, HST⟩
          case measure => simp [intOf]; omega
      · obtain rfl : k = pn := by omega
        obtain ⟨A9, c9, rfl, hc9, hm9, hf9, hos9⟩ := HS.out.os
        have hr9 := HS.out.range
        rw [List.take_of_length_le (by rw [HP.out.1.plen]; exact Nat.le_refl _)] at hos9
        have B3 : Below W0.heap.size W0 wr := H2.out.2.2.2.2.trans (HS.out.bel.mono H2.out.2.2.2.2.size)
        have Z3 := HZ0.out.step B3
        have H9 := Lib.hid (And.intro Z3 (And.intro hc9 (And.intro hm9 (And.intro hf9 (And.intro hos9 B3)))))
        clear hc9 hm9 hf9 hos9 Z3 B3
        go_wp2_with (first
          | (refine wpList_load_mid rfl 51 (.tmp 11) rfl w2.heap.size 0 rfl [.int .i64 2, .int .i64 code, .int .i64 id, .slice tB tok.length td, .slice A9 k c9, .slice qB l.length qd] _ hr9 Try.underlying51 rfl size_msg ?_)
          | (refine wpList_store_mid rfl 51 (.tmp 10) (.tmp 47) rfl (w.heap.size + 1) 0 (List.toArray [.int .i64 2, .int .i64 code, .int .i64 id, .slice tB tok.length td, .slice A9 k c9, .slice qB l.length qd]) rfl rfl H9.out.1.there size_msg (all_oneCell_toArray (one6 _ _ _ _ _ _ _ _ _ _ _ _)) ?_))
        have hf := H9.out.1.stored [.int .i64 2, .int .i64 code, .int .i64 id, .slice tB tok.length td, .slice A9 k c9, .slice qB l.length qd] rfl
        refine bodyPost_ret (results_cell_mid rfl _ _ (w.heap.size + 1) 0 [.int .i64 2, .int .i64 code, .int .i64 id, .slice tB tok.length td, .slice A9 k c9, .slice qB l.length qd] _ rfl hf.1 Try.underlying51 rfl size_msg) rfl ?_
        refine ⟨tB, tok.length, td, A9, k, c9, qB, l.length, qd, us, rfl, ⟨H1.out.2.1, H1.out.2.2.1, H9.out.2.1, H9.out.2.2.1, H2.out.2.2.1, H2.out.2.2.2.1⟩, ?_, hf.2⟩
        rw [size_setCells_]
        have b3 := HS.out.bel
        exact Ms.set_ ⟨(H2.out.1.below b3).more b3.size, H9.out.2.2.2.2.1, (H2.out.2.1.below b3).more b3.size⟩ (fun ad e => by have h1 : w2.heap.size ≤ ad.block := H9.out.2.2.2.1 ad e; omega) (HZ0.out.blk3 H9.out.2.2.2.2.2 HW.out) _
  · have hkd : (kd == 0) = false := by simpa using hk
    rw [if_neg hk, if_neg hk]
    clear hk
    go_enter Try.func39, Try.ntmps39
    go_wp2_with fail
    refine calls_at_world (F := fun W => W = W0) HW.out fun W1 e1 => ?_
    obtain rfl := e1.symm
    refine HO.out.1.mono ?_
    rintro e w1 ⟨u1, rfl, ho1, b1⟩
    obtain ⟨tB, td, rfl, htd, hbt⟩ := own_bs ho1
    have htm := row_cap ho1
    have H1 := Lib.hid (And.intro hbt (And.intro htd (And.intro htm b1)))
    clear ho1 htd hbt htm b1
    go_wp2_with fail
    refine (HO.out.2.1 w1 H1.out.2.2.2).mono ?_
    rintro e w2 ⟨u2, rfl, ho2, b2⟩
    obtain ⟨qB, qd, rfl, hqd, hbq⟩ := own_bs ho2
    have hqm := row_cap ho2
    have B2 : Below W0.heap.size W0 w2 := H1.out.2.2.2.trans (b2.mono H1.out.2.2.2.size)
    have H2 := Lib.hid (And.intro ((H1.out.1.below b2).more b2.size) (And.intro hbq (And.intro hqd (And.intro hqm B2))))
    have k0 : ∀ o, (w2.alloc o).cell? ⟨w.heap.size, 0, none⟩ = some (.int .i64 _) := fun o => (HO.out.2.2.1 (w2.alloc o) ((B2.alloc B2.size o).mono (by have := HO.out.2.2.2; omega))).1
    have k2 : ∀ o, (w2.alloc o).cell? ⟨w.heap.size, 2, none⟩ = some (.int .i64 _) := fun o => (HO.out.2.2.1 (w2.alloc o) ((B2.alloc B2.size o).mono (by have := HO.out.2.2.2; omega))).2
    clear ho2 hqd hbq hqm b2 B2
    go_wp2_with fail
    refine wp_at_world (F := fun W => Rs w2 W 1 code nid tB tok.length td qB l.length qd 0 (.slice none 0 0) [] qs) (Rs.start w2 _ _ _ _ _ _ _ _ _ qs) fun W3 h3 => ?_
    have H3 := Lib.hid h3
    have hszR : w.heap.size + 2 ≤ w2.heap.size := by have := (HZ0.out.step H2.out.2.2.2.2).size; exact this
    clear k0 k2 h3
    go_loopw [13, 31] (fun _ i wr => ∃ (k : Nat) (u : Value) (us : List Sv), k ≤ pn ∧ i = .int .i64 k ∧ Aside (Rs w2 wr 1 code nid tB tok.length td qB l.length qd k u us qs)) (fun _ i _ => pn - (intOf i).toNat)
    case atStart => exact ⟨0, _, [], Nat.zero_le _, rfl, H3.out⟩
    case round =>
      obtain ⟨k, u, us, hk, rfl, HS⟩ := hrel
      by_cases hlt : k < pn
      · have hltI : (k : Int) < pn := by omega
        have hbw : ∀ W, Below w2.heap.size w2 W → Below w.heap.size w W := fun W hW => HZ0.out.bel.trans ((H2.out.2.2.2.2.trans (hW.mono H2.out.2.2.2.2.size)).mono (by have := HZ0.out.size; omega))
        have hosr := HP.out.1.below (hbw wr HS.out.bel)
        obtain ⟨b, off, rfl, hb, _⟩ := hosr.sh.place (by omega)
        obtain ⟨s, hs⟩ := sv_get hosr.sh hlt
        obtain ⟨ll, hpl1, hbs⟩ := HP.out.1.get hs
        have hr := hosr.sh.range hs
        have hsn := HP.out.2 s (List.mem_of_getElem? hs)
        obtain ⟨sk, sA, sn, sc⟩ := s
        dsimp only at hpl1 hbs hr hsn
        have HCL := Lib.hid fun W (hW : Below w2.heap.size w2 W) => bclone_f sA sn sc ll W w.heap.size (hbs.below (hbw W hW)) (hbw W hW).size (by omega)
        have HG := Lib.hid (And.intro (show w2.heap.size < wr.heap.size by have := HS.out.size; omega) (And.intro (fun b e => (HS.out.row.lt b e).2 : ∀ b, u.ownBlock = some b → b < wr.heap.size) hpl1))
        clear hosr hs hpl1 hbs hsn hbw
        go_wp2_with (refine wpList_load_mid rfl 69 (.tmp 33) rfl b (off + k * 2) rfl [.int .i64 sk, .slice sA sn sc] _ hr Try.underlying69 rfl size_opt1 ?_)
        refine wp_at_world (F := fun W4 => Below wr.heap.size wr W4 ∧ wr.heap.size < W4.heap.size ∧ W4.cell? ⟨wr.heap.size, 0, none⟩ = some (.int .i64 sk) ∧ W4.cell? ⟨wr.heap.size, 1, none⟩ = some (.slice sA sn sc)) ⟨alloc_below wr _, by rw [alloc_size]; omega, by rw [cell_of_row _ _ _ _ _ _ (heap_alloc_new wr _)]; rfl, by rw [cell_of_row _ _ _ _ _ _ (heap_alloc_new wr _)]; rfl⟩ fun W4 ⟨b4, l4, c0, c1⟩ => ?_
        refine wp_region_relG (RS ⟨w2, wr.heap.size, k, sk, sA, sn, sc, ll, u, us, qs, 1, code, nid, tB, tok.length, td, qB, l.length, qd⟩) RT (RR ⟨w2, wr.heap.size, k, sk, sA, sn, sc, ll, u, us, qs, 1, code, nid, tB, tok.length, td, qB, l.length, qd⟩) [(11, .pointer (some ⟨w2.heap.size, 0, none⟩)), (13, .pointer (some ⟨wr.heap.size, 0, none⟩))] (by kernel_rfl) (by kernel_rfl) (by kernel_rfl) ?base (none, none, none) (RS.first HS.out b4 l4 c0 c1) (fun i g w g' w' v ht h => RR.grow _ i g w g' w' v ht h) ?steps ?fin
        case base =>
          intro x hx
          simp only [List.mem_cons, List.not_mem_nil, or_false] at hx
          rcases hx with rfl | rfl <;> exact ⟨rfl, rfl⟩
        case steps =>
          clear b4 l4 c0 c1 hr
          refine steps_cons ?_ (steps_cons ?_ (steps_cons ?_ (steps_cons ?_ (steps_cons ?_ (steps_cons ?_ (steps_cons ?_ (steps_cons ?_ (steps_cons ?_ (steps_cons ?_ (steps_cons ?_ (steps_cons ?_ steps_nil)))))))))))
          · intro a w L g K hLi hLd hS hB hR hK
            rw [if_pos (wanted_none rfl)]
            have h11 := tmp_is (hB.1)
            go_simp
            exact hK (.pointer (some ⟨w2.heap.size, 4, none⟩)) w g (hS.quiet 0 rfl rfl rfl rfl (fun x => hS.l7 x)) (RT.refl _ _ _) rfl
          · intro a w L g K hLi hLd hS hB hR hK
            rw [if_pos (wanted_none rfl)]
            have h35 := tmp_is (hR.1)
            have hc : w.cell? ⟨w2.heap.size, 4, none⟩ = some u := (hS.old (hS.l91 hLi)).cell4
            go_simp
            exact hK (u) w g (hS.quiet 1 rfl rfl rfl rfl (fun x => hS.l7 x)) (RT.refl _ _ _) rfl
          · intro a w L g K hLi hLd hS hB hR hK
            rw [if_pos (wanted_none rfl)]
            have h13 := tmp_is (hB.2.1)
            go_simp
            exact hK (.pointer (some ⟨wr.heap.size, 0, none⟩)) w g (hS.quiet 2 rfl rfl rfl rfl (fun x => hS.l7 x)) (RT.refl _ _ _) rfl
          · intro a w L g K hLi hLd hS hB hR hK
            rw [if_pos (wanted_none rfl)]
            have h37 := tmp_is (hR.1)
            have hc : w.cell? ⟨wr.heap.size, 0, none⟩ = some (.int .i64 sk) := hS.c0
            go_simp
            exact hK (.int .i64 sk) w g (hS.quiet 3 rfl rfl rfl rfl (fun x => hS.l7 x)) (RT.refl _ _ _) rfl
          · intro a w L g K hLi hLd hS hB hR hK
            rw [if_pos (wanted_none rfl)]
            have h13 := tmp_is (hB.2.1)
            go_simp
            exact hK (.pointer (some ⟨wr.heap.size, 1, none⟩)) w g (hS.quiet 4 rfl rfl rfl rfl (fun x => hS.l7 x)) (RT.refl _ _ _) rfl
          · intro a w L g K hLi hLd hS hB hR hK
            rw [if_pos (wanted_none rfl)]
            have h39 := tmp_is (hR.1)
            have hc : w.cell? ⟨wr.heap.size, 1, none⟩ = some (.slice sA sn sc) := hS.c1
            go_simp
            exact hK (.slice sA sn sc) w g (hS.quiet 5 rfl rfl rfl rfl (fun x => hS.l7 x)) (RT.refl _ _ _) rfl
          · intro a w L g K hLi hLd hS hB hR hK
            rw [if_pos (wanted_none rfl)]
            have h40 := tmp_is (hR.1)
            go_simp
            refine (HCL.out w hS.bel).mono ?_
            rintro e w' ⟨u5, rfl, ho5, b5⟩
            obtain ⟨A5, c5, rfl, _, _⟩ := Bs.of_own ho5
            exact hK _ _ (some (A5, c5), g.2) (hS.clone hLi b5 ho5) ⟨fun a ha => (by rw [hS.n6 hLi] at ha; cases ha), fun _ h => h, fun _ h => h⟩ ⟨(A5, c5), rfl, rfl⟩
          · intro a w L g K hLi hLd hS hB hR hK
            rw [if_pos (wanted_none rfl)]
            have h38 := tmp_is (hR.1)
            obtain ⟨a6, hg6, hv6⟩ := hR.2.1
            have h41 := tmp_is hv6
            go_simp
            exact hK _ w g (hS.quiet 7 rfl rfl rfl rfl (fun _ => hLd 6 (by decide))) (RT.refl _ _ _) ⟨a6, hg6, rfl⟩
          · intro a w L g K hLi hLd hS hB hR hK
            rw [if_pos (wanted_none rfl)]
            obtain ⟨a7, hg7, hv7⟩ := hR.1
            have h42 := tmp_is hv7
            go_simp
            exact hK (.slice (some ⟨w.heap.size, 0, none⟩) 1 1) _ (g.1, some w.heap.size, g.2.2) (hS.one hLi (hLd 7 (by decide)) hg7) ⟨fun _ h => h, fun b hb => (by rw [hS.n8 hLi] at hb; cases hb), fun _ h => h⟩ ⟨_, rfl, rfl⟩
          · intro a w L g K hLi hLd hS hB hR hK
            rw [if_pos (wanted_none rfl)]
            obtain ⟨b8, hg8, hv8⟩ := hR.2.1
            obtain ⟨a8, b8x, hga, hgb, hsh⟩ := hS.y8 (hLd 8 (by decide))
            rw [hg8] at hgb
            obtain rfl := Option.some.inj hgb
            have hsh9 := hsh hLi
            refine wp_append_svs w (.tmp 36) (.tmp 43) 22 (by rfl) w2.heap.size 69 i0 z0 Try.underlying22 hi0 hz0 hz2 hz3 hz1 u k us (hR.1) (hS.old hLi).row w.heap.size (some ⟨b8, 0, none⟩) 1 1 [⟨sk, a8.1, ll.length, a8.2⟩] hv8 hsh9 (by omega) hS.bel.size ?_
            intro v' w' ho hgr
            obtain ⟨A6, c6, rfl, _, _⟩ := Sh.of_own ho
            exact hK _ _ (g.1, g.2.1, some (A6, c6)) (hS.app hLi (hLd 1 (by decide)) (hLd 8 (by decide)) HG.out.1 HG.out.2.1 HG.out.2.2 hga ho hgr) ⟨fun _ h => h, fun _ h => h, fun b hb => (by rw [hS.n9 hLi] at hb; cases hb)⟩ ⟨(A6, c6), rfl, rfl⟩
          · intro a w L g K hLi hLd hS hB hR hK
            rw [if_pos (wanted_none rfl)]
            have h11 := tmp_is (hB.1)
            go_simp
            exact hK (.pointer (some ⟨w2.heap.size, 4, none⟩)) w g (hS.quiet 10 rfl rfl rfl rfl (fun x => hS.l7 x)) (RT.refl _ _ _) rfl
          · intro a w L g K hLi hLd hS hB hR hK
            rw [if_pos (wanted_none rfl)]
            have h45 := tmp_is (hR.1)
            obtain ⟨a9, hg9, hv9⟩ := hR.2.1
            have h44 := tmp_is hv9
            have hL9 := hLd 9 (by decide)
            obtain ⟨a9x, us9, hgx9, hmid, _⟩ := hS.y9 hL9
            have hblk := (hmid hLi).1
            have hc : w.cell? ⟨w2.heap.size, 4, none⟩ = some u := by rw [cell_of_row _ _ _ _ _ _ hblk]; rfl
            have hfz : w.frozen? ⟨w2.heap.size, 4, none⟩ = false := frz_of_row hblk
            clear hmid hblk
            go_simp
            exact hK undef _ g (hS.sto hLi hL9 HG.out.1 hg9) (RT.refl _ _ _) trivial
        case fin =>
          intro a w5 L g hS5 hall ha hR
          obtain ⟨u', us', hst⟩ := hS5.done (hall 11 (by decide))
          have HST : Aside (Rs w2 w5 1 code nid tB tok.length td qB l.length qd (k + 1) u' us' qs) := hst
          clear hS5 hall hR hst b4 l4 c0 c1 hr
          simp only [pin] at ha
          rw [ha]
          simp only [List.setIfInBounds_toArray, List.set_cons_zero, List.set_cons_succ]
          clear ha
          go_wp2
          go_roundw
          case rel => exact ⟨k + 1, u', us', by omega, by go_num, HST⟩
          case measure => simp [intOf]; omega
      · obtain rfl : k = pn := by omega
        obtain ⟨A9, c9, rfl, hc9, hm9, hf9, hos9⟩ := HS.out.os
        have hr9 := HS.out.range
        rw [List.take_of_length_le (by rw [HP.out.1.plen]; exact Nat.le_refl _)] at hos9
        have B3 : Below W0.heap.size W0 wr := H2.out.2.2.2.2.trans (HS.out.bel.mono H2.out.2.2.2.2.size)
        have Z3 := HZ0.out.step B3
        have H9 := Lib.hid (And.intro Z3 (And.intro hc9 (And.intro hm9 (And.intro hf9 (And.intro hos9 B3)))))
        clear hc9 hm9 hf9 hos9 Z3 B3
        go_wp2_with (first
          | (refine wpList_load_mid rfl 51 (.tmp 11) rfl w2.heap.size 0 rfl [.int .i64 1, .int .i64 code, .int .i64 nid, .slice tB tok.length td, .slice A9 k c9, .slice qB l.length qd] _ hr9 Try.underlying51 rfl size_msg ?_)
          | (refine wpList_store_mid rfl 51 (.tmp 10) (.tmp 47) rfl (w.heap.size + 1) 0 (List.toArray [.int .i64 1, .int .i64 code, .int .i64 nid, .slice tB tok.length td, .slice A9 k c9, .slice qB l.length qd]) rfl rfl H9.out.1.there size_msg (all_oneCell_toArray (one6 _ _ _ _ _ _ _ _ _ _ _ _)) ?_))
        have hf := H9.out.1.stored [.int .i64 1, .int .i64 code, .int .i64 nid, .slice tB tok.length td, .slice A9 k c9, .slice qB l.length qd] rfl
        refine bodyPost_ret (results_cell_mid rfl _ _ (w.heap.size + 1) 0 [.int .i64 1, .int .i64 code, .int .i64 nid, .slice tB tok.length td, .slice A9 k c9, .slice qB l.length qd] _ rfl hf.1 Try.underlying51 rfl size_msg) rfl ?_
        refine ⟨tB, tok.length, td, A9, k, c9, qB, l.length, qd, us, rfl, ⟨H1.out.2.1, H1.out.2.2.1, H9.out.2.1, H9.out.2.2.1, H2.out.2.2.1, H2.out.2.2.2.1⟩, ?_, hf.2⟩
        rw [size_setCells_]
        have b3 := HS.out.bel
        exact Ms.set_ ⟨(H2.out.1.below b3).more b3.size, H9.out.2.2.2.2.1, (H2.out.2.1.below b3).more b3.size⟩ (fun ad e => by have h1 : w2.heap.size ≤ ad.block := H9.out.2.2.2.1 ad e; omega) (HZ0.out.blk3 H9.out.2.2.2.2.2 HW.out) _
end Go.Proofs.Ytihicplembaoeaa
