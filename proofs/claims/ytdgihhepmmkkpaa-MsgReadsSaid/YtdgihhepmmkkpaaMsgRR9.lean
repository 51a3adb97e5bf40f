/-
  Bytes read as a message, by the document.
-/
import Derived.Test.YtdgihhepmmkkpaaMsgRef
import Derived.Test.YtdgihhepmmkkpaaMsgSet
import Derived.Test.YtdgihhepmmkkpaaOptRRead
import Derived.Deep.RegionHeld
namespace Go.Proofs.Ytdgihhepmmkkpaa
open Go.RowKit
set_option maxRecDepth 100000
set_option linter.unusedVariables false
set_option maxHeartbeats 16000000 in
theorem rread9_f (A : Option Addr) (n c : Nat) (l : List UInt8) (w : World) (B : Nat) (hbs : Bs w B A n l) (hB : B ≤ w.heap.size) (hc : n ≤ c) (hcI : (c : Int) ≤ 9223372036854775807) (hnI : (n : Int) ≤ 60000) :
    Calls Try.prog 10 #[.slice A n c] w (RdMRet (rdM l) w) := by
  have hl := hbs.len
  have fin : ∀ {er : Int} {w' : World}, rdM l = (Mq.zero, er) → Below w.heap.size w w' → RdMRet (rdM l) w (.returned (.tuple #[.agg #[.int .i64 0, .int .i64 0, .int .i64 0, .slice none 0 0, .slice none 0 0, .slice none 0 0], .int .i64 er])) w' := fun h b => RdMRet.err h b
  by_cases h4n : n < 4
  · have HF := Lib.hid fun w' => @fin 20 w' (by unfold rdM; rw [if_pos (.inl (by omega))])
    have h4I : (n : Int) < 4 := by omega
    have HZ := Lib.hid (Zm.new_ w)
    clear hbs hl fin
    go_enter Try.func10, Try.ntmps10
    go_wp2_with (refine wpList_store_mid rfl 26 (.tmp 2) (.tmp 20) rfl w.heap.size 0 Z6.toArray rfl rfl HZ.out.there size_msg (all_oneCell_toArray (one6 _ _ _ _ _ _ _ _ _ _ _ _)) ?_)
    refine bodyPost_ret (results_cell_tmp_mid rfl _ _ w.heap.size 0 Z6 _ rfl (HZ.out.stored Z6 rfl).1 Try.underlying26 rfl size_msg) rfl ?_
    exact HF.out _ (HZ.out.stored Z6 rfl).2
  · obtain ⟨b, off, rfl, hb, hcell⟩ := hbs.at_ (by omega)
    have l0 := bn0_lt l 0
    have l1 := bn0_lt l 1
    have l2 := bn0_lt l 2
    have l3 := bn0_lt l 3
    have hcells : ∀ W, Below w.heap.size w W → (W.cell? ⟨b, off, none⟩ = some (.int .u8 (bn0 l 0 : Int)) ∧ W.cell? ⟨b, off + 1, none⟩ = some (.int .u8 (bn0 l 1 : Int))) ∧ (W.cell? ⟨b, off + 2, none⟩ = some (.int .u8 (bn0 l 2 : Int)) ∧ W.cell? ⟨b, off + 3, none⟩ = some (.int .u8 (bn0 l 3 : Int))) := fun W h =>
      ⟨⟨(h.cell (p := ⟨b, off, none⟩) (by show b < _; omega)).trans (hcell 0 (by omega)), (h.cell (p := ⟨b, off + 1, none⟩) (by show b < _; omega)).trans (hcell 1 (by omega))⟩, ⟨(h.cell (p := ⟨b, off + 2, none⟩) (by show b < _; omega)).trans (hcell 2 (by omega)), (h.cell (p := ⟨b, off + 3, none⟩) (by show b < _; omega)).trans (hcell 3 (by omega))⟩⟩
    have hbadI := badM_iff l
    have hrdI := rdM.eq_1 l
    have hrM : restM l = l.drop (4 + bn0 l 0 % 16) := rfl
    have hus := fun W => used_f (bn0 l 1 : Int) (by omega) (by omega) W
    generalize bn0 l 0 = x0 at *
    generalize bn0 l 1 = x1 at *
    generalize bn0 l 2 = x2 at *
    generalize bn0 l 3 = x3 at *
    have g0 : (0 : Int) < n := by omega
    have g1 : (1 : Int) < n := by omega
    have g2 : (2 : Int) < n := by omega
    have g3 : (3 : Int) < n := by omega
    have g4 : ¬ (n : Int) < 4 := by omega
    have gnc : (n : Int) ≤ c := by omega
    have gx0 : (x0 : Int) < 256 := by omega
    have gx1 : (x1 : Int) < 256 := by omega
    have gx2 : (x2 : Int) < 256 := by omega
    have gx3 : (x3 : Int) < 256 := by omega
    have c0 := fun o => (hcells _ (alloc_below w o)).1.1
    have c1 := fun o => (hcells _ (alloc_below w o)).1.2
    have c2 := fun o => (hcells _ (alloc_below w o)).2.1
    have c3 := fun o => (hcells _ (alloc_below w o)).2.2
    have HZ := Lib.hid (Zm.new_ w)
    by_cases h64 : x0 / 64 = 1
    · have hx64 : ((x0 : Int) / 64 != 1) = false := by simp; omega
      obtain ⟨sz, hszv⟩ : ∃ sz, x0 % 16 = sz := ⟨_, rfl⟩
      have hszI : (x0 : Int) % 16 = (sz : Int) := by omega
      obtain ⟨n4, in4⟩ : ∃ n4, n - 4 = n4 := ⟨_, rfl⟩
      have in4I : (n : Int) - 4 = (n4 : Int) := by omega
      obtain ⟨qc, hqc⟩ : ∃ qc, codeB (x1 : Int) = qc := ⟨_, rfl⟩
      rw [hqc] at hus hbadI
      rw [hszv] at hbadI hrdI hrM
      have hz1 : ∀ x : Nat, (((x : Nat) : Int) == 0) = decide (x = 0) := fun x => by rw [Bool.eq_iff_iff]; simp
      have HA := Lib.hid (And.intro hcells hus)
      by_cases hq : 8 < sz ∨ qc = false ∨ (x1 = 0 ∧ 0 < n4) ∨ n4 < sz
      · have hbb : badM l := by
          refine hbadI.2 (.inr ?_)
          rcases hq with h | h | h | h
          · exact .inr (.inl h)
          · exact .inl h
          · exact .inr (.inr (.inr ⟨h.1, by omega⟩))
          · exact .inr (.inr (.inl (by omega)))
        have HF := Lib.hid fun w' => @fin 20 w' (by rw [hrdI, if_pos hbb])
        by_cases h8 : 8 < sz
        · have h9 : sz = 9 ∨ sz = 10 ∨ sz = 11 ∨ sz = 12 ∨ sz = 13 ∨ sz = 14 ∨ sz = 15 := by omega
          clear hbs hl fin hcells hbadI hrdI hrM hus hcell h64 l0 l1 l2 l3 hq hqc hszv hz1 h8
          rcases h9 with rfl | rfl | rfl | rfl | rfl | rfl | rfl
          all_goals
            go_enter Try.func10, Try.ntmps10
            go_wp2_with (refine wpList_store_mid rfl 26 (.tmp 2) (.tmp 54) rfl w.heap.size 0 Z6.toArray rfl rfl HZ.out.there size_msg (all_oneCell_toArray (one6 _ _ _ _ _ _ _ _ _ _ _ _)) ?_)
            refine bodyPost_ret (results_cell_tmp_mid rfl _ _ w.heap.size 0 Z6 _ rfl (HZ.out.stored Z6 rfl).1 Try.underlying26 rfl size_msg) rfl ?_
            exact HF.out _ (HZ.out.stored Z6 rfl).2
        · have g8 : ¬ (8 : Int) < sz := by omega
          cases qc with
          | false =>
            clear hbs hl fin hcells hbadI hrdI hrM hus hcell h64 l0 l1 l2 l3 hq hqc hszv hz1 h8
            go_enter Try.func10, Try.ntmps10
            go_wp2_with fail
            refine calls_at_world (F := Zm w) HZ.out fun W1 Z1 => ?_
            obtain ⟨⟨d0, d1⟩, ⟨d2, d3⟩⟩ := HA.out.1 W1 Z1.bel
            have H1 := Lib.hid Z1
            clear Z1
            refine (HA.out.2 W1).mono ?_
            rintro e w2 ⟨rfl, hw2⟩
            obtain rfl := hw2.symm
            clear c0 c1 c2 c3
            go_wp2_with (refine wpList_store_mid rfl 26 (.tmp 2) (.tmp 54) rfl w.heap.size 0 Z6.toArray rfl rfl H1.out.there size_msg (all_oneCell_toArray (one6 _ _ _ _ _ _ _ _ _ _ _ _)) ?_)
            refine bodyPost_ret (results_cell_tmp_mid rfl _ _ w.heap.size 0 Z6 _ rfl (H1.out.stored Z6 rfl).1 Try.underlying26 rfl size_msg) rfl ?_
            exact HF.out _ (H1.out.stored Z6 rfl).2
          | true =>
            by_cases hz : x1 = 0 ∧ 0 < n4
            · have e1 : ((x1 : Int) == 0) = true := by rw [hz1]; simp [hz.1]
              have e2 : ((n : Int) != 4) = true := bne_iff_ne.2 (by omega)
              clear hbs hl fin hcells hbadI hrdI hrM hus hcell h64 l0 l1 l2 l3 hq hqc hszv hz1 h8 hz
              go_enter Try.func10, Try.ntmps10
              go_wp2_with fail
              refine calls_at_world (F := Zm w) HZ.out fun W1 Z1 => ?_
              obtain ⟨⟨d0, d1⟩, ⟨d2, d3⟩⟩ := HA.out.1 W1 Z1.bel
              have H1 := Lib.hid Z1
              clear Z1
              refine (HA.out.2 W1).mono ?_
              rintro e w2 ⟨rfl, hw2⟩
              obtain rfl := hw2.symm
              clear c0 c1 c2 c3
              go_wp2_with (refine wpList_store_mid rfl 26 (.tmp 2) (.tmp 54) rfl w.heap.size 0 Z6.toArray rfl rfl H1.out.there size_msg (all_oneCell_toArray (one6 _ _ _ _ _ _ _ _ _ _ _ _)) ?_)
              refine bodyPost_ret (results_cell_tmp_mid rfl _ _ w.heap.size 0 Z6 _ rfl (H1.out.stored Z6 rfl).1 Try.underlying26 rfl size_msg) rfl ?_
              exact HF.out _ (H1.out.stored Z6 rfl).2
            · have e3 : (n4 : Int) < sz := by
                rcases hq with h | h | h | h
                · exact absurd h h8
                · cases h
                · exact absurd h hz
                · omega
              have e1 : ((x1 : Int) == 0) = false ∨ (((x1 : Int) == 0) = true ∧ ((n : Int) != 4) = false) := by
                rw [hz1]
                by_cases e : x1 = 0
                · exact .inr ⟨by simp [e], by simp; omega⟩
                · exact .inl (by simp [e])
              clear hbs hl fin hcells hbadI hrdI hrM hus hcell h64 l0 l1 l2 l3 hq hqc hszv hz1 h8 hz
              rcases e1 with e1 | ⟨e1, e2⟩
              all_goals
                go_enter Try.func10, Try.ntmps10
                go_wp2_with fail
                refine calls_at_world (F := Zm w) HZ.out fun W1 Z1 => ?_
                obtain ⟨⟨d0, d1⟩, ⟨d2, d3⟩⟩ := HA.out.1 W1 Z1.bel
                have H1 := Lib.hid Z1
                clear Z1
                refine (HA.out.2 W1).mono ?_
                rintro e w2 ⟨rfl, hw2⟩
                obtain rfl := hw2.symm
                clear c0 c1 c2 c3
                go_wp2_with (refine wpList_store_mid rfl 26 (.tmp 2) (.tmp 54) rfl w.heap.size 0 Z6.toArray rfl rfl H1.out.there size_msg (all_oneCell_toArray (one6 _ _ _ _ _ _ _ _ _ _ _ _)) ?_)
                refine bodyPost_ret (results_cell_tmp_mid rfl _ _ w.heap.size 0 Z6 _ rfl (H1.out.stored Z6 rfl).1 Try.underlying26 rfl size_msg) rfl ?_
                exact HF.out _ (H1.out.stored Z6 rfl).2
      · have hqc1 : qc = true := by cases qc with | true => rfl | false => exact absurd (.inr (.inl rfl)) hq
        subst hqc1
        have hbad : ¬ badM l := fun h => by
          rcases hbadI.1 h with h | h | h | h | h
          · exact h ⟨by omega, h64⟩
          · cases h
          · exact hq (.inl h)
          · exact hq (.inr (.inr (.inr (by omega))))
          · exact hq (.inr (.inr (.inl ⟨h.1, by omega⟩)))
        rw [if_neg hbad] at hrdI
        have g8 : ¬ (8 : Int) < sz := by omega
        have e3 : ¬ (n4 : Int) < sz := by omega
        have e1 : ((x1 : Int) == 0) = false ∨ (((x1 : Int) == 0) = true ∧ ((n : Int) != 4) = false) := by
          rw [hz1]
          by_cases e : x1 = 0
          · exact .inr ⟨by simp [e], by simp; omega⟩
          · exact .inl (by simp [e])
        obtain ⟨s4, is4⟩ : ∃ s4, 4 + sz = s4 := ⟨_, rfl⟩
        have is4I : (4 : Int) + (sz : Int) = (s4 : Int) := by omega
        have is4m : s4 - 4 = sz := by omega
        obtain ⟨o4, i4⟩ := pick_if (P := c = 4) b off (off + 4)
        obtain ⟨c4, ic4⟩ : ∃ c4, c - 4 = c4 := ⟨_, rfl⟩
        have hr4 : Bs w B (some ⟨b, o4, none⟩) (n - 4) (l.drop 4) := by
          have := hbs.fromIf 4 (by omega) hc
          have e : (if c = 4 then (some ⟨b, off, none⟩ : Option Addr) else (some ⟨b, off, none⟩ : Option Addr).map (·.add 4)) = some ⟨b, o4, none⟩ := i4
          rwa [e] at this
        have hrt : Bs w B (some ⟨b, o4, none⟩) sz ((l.drop 4).take sz) := hr4.take_ sz (by omega)
        obtain ⟨tk, htk⟩ : ∃ tk, (l.drop 4).take sz = tk := ⟨_, rfl⟩
        rw [htk] at hrt hrdI
        have hcp := fun W (h : Below w.heap.size w W) => rcopy_any (some ⟨b, o4, none⟩) sz c4 tk W w.heap.size ((hrt.below' h hB).more hB) h.size (by omega)
        have gs4 : (s4 : Int) ≤ n := by omega
        have gs4c : (s4 : Int) ≤ c := by omega
        have gs44 : (4 : Int) ≤ s4 := by omega
        have HC := Lib.hid (And.intro hcp hrt.len)
        clear hr4 hrt hcp htk
        obtain ⟨k16, hk16⟩ : ∃ k16, x0 / 16 = k16 := ⟨_, rfl⟩
        have hk16I : (x0 : Int) / 16 = (k16 : Int) := by omega
        have gk16 : (k16 : Int) < 16 := by omega
        obtain ⟨kdn, hkdn⟩ : ∃ kdn, k16 % 4 = kdn := ⟨_, rfl⟩
        have hkdI : (k16 : Int) % 4 = (kdn : Int) := by omega
        have HK := Lib.hid (show (k16 : Int).tmod 4 = (kdn : Int) by rw [Int.tmod_eq_emod_of_nonneg (Int.natCast_nonneg k16)]; exact hkdI)
        obtain ⟨idn, hidn⟩ : ∃ idn, x2 * 256 + x3 = idn := ⟨_, rfl⟩
        have hidI : (x2 : Int) * 256 + (x3 : Int) = (idn : Int) := by omega
        have w3 : IntKind.u8.wrap (k16 : Int) = (k16 : Int) := by rw [IntKind.wrap_u8]; omega
        obtain ⟨o5, i5, j5⟩ := pick_if2 (P := c = s4) b off s4
        obtain ⟨n5, in5⟩ : ∃ n5, n - s4 = n5 := ⟨_, rfl⟩
        obtain ⟨c5, ic5⟩ : ∃ c5, c - s4 = c5 := ⟨_, rfl⟩
        have hrM4 : restM l = l.drop s4 := by rw [hrM, is4]
        have hr5 : Bs w B (some ⟨b, o5, none⟩) n5 (restM l) := by
          have := hbs.fromIf s4 (by omega) hc
          have e : (if c = s4 then (some ⟨b, off, none⟩ : Option Addr) else (some ⟨b, off, none⟩ : Option Addr).map (·.add s4)) = some ⟨b, o5, none⟩ := j5
          rw [e, in5, ← hrM4] at this
          exact this
        have hro := fun W (h : Below w.heap.size w W) => rreadF_f (some ⟨b, o5, none⟩) n5 c5 (restM l) W w.heap.size ((hr5.below' h hB).more hB) h.size (by omega) (by omega) (by omega)
        have hat := rdO_at (restM l)
        have hl5 := hr5.len
        generalize rdO (restM l) = RO at hro hat hrdI
        obtain ⟨PS, at_, er⟩ := RO
        dsimp only at hat hrdI
        rw [hk16, hkdn, hidn] at hrdI
        obtain ⟨s6, is6⟩ : ∃ s6, s4 + at_ = s6 := ⟨_, rfl⟩
        have is6I : (s4 : Int) + (at_ : Int) = (s6 : Int) := by omega
        obtain ⟨o6, i6, j6⟩ := pick_if2 (P := c = s6) b off s6
        obtain ⟨n6, in6⟩ : ∃ n6, n - s6 = n6 := ⟨_, rfl⟩
        obtain ⟨c6, ic6⟩ : ∃ c6, c - s6 = c6 := ⟨_, rfl⟩
        have hs6n : s6 ≤ n := by omega
        obtain ⟨D, hD⟩ : ∃ D, (restM l).drop at_ = D := ⟨_, rfl⟩
        have hr6 : Bs w B (some ⟨b, o6, none⟩) n6 D := by
          have := hbs.fromIf s6 hs6n hc
          have e : (if c = s6 then (some ⟨b, off, none⟩ : Option Addr) else (some ⟨b, off, none⟩ : Option Addr).map (·.add s6)) = some ⟨b, o6, none⟩ := j6
          rw [e, in6, ← is6, ← List.drop_drop, ← hrM4, hD] at this
          exact this
        rw [hD] at hrdI
        have hcb := fun W (h : Below w.heap.size w W) => rcopy_any (some ⟨b, o6 + 1, none⟩) (n6 - 1) (c6 - 1) (D.drop 1) W w.heap.size (((hr6.drop_ 1).below' h hB).more hB) h.size (by omega)
        have gs6 : (s6 : Int) ≤ n := by omega
        have gs6c : (s6 : Int) ≤ c := by omega
        have gn6c : (n6 : Int) ≤ c6 := by omega
        have hlD := hr6.len
        have w6 : wrap64 (s4 : Int) = (s4 : Int) := IntWalk.wrap64_in _ (by omega)
        clear w6
        have HX := Lib.hid (And.intro hro (And.intro hcb (And.intro hrdI (And.intro hlD (fun {er : Int} {w' : World} h b => @fin er w' h b : ∀ {er : Int} {w' : World}, rdM l = (Mq.zero, er) → Below w.heap.size w w' → RdMRet (rdM l) w (.returned (.tuple #[.agg #[.int .i64 0, .int .i64 0, .int .i64 0, .slice none 0 0, .slice none 0 0, .slice none 0 0], .int .i64 er])) w')))))
        have HWR := Lib.hid (And.intro (show 0 < n by omega) (And.intro w3 (And.intro (IntWalk.i64_in (k16 : Int) (by omega)) (And.intro (IntWalk.i64_in (x1 : Int) (by omega)) (And.intro (IntWalk.i64_in (x2 : Int) (by omega)) (And.intro (IntWalk.i64_in ((x2 : Int) * 256) (by omega)) (And.intro (IntWalk.i64_in (x3 : Int) (by omega)) (And.intro (IntWalk.i64_in (idn : Int) (by omega)) (IntWalk.i64_in (s4 : Int) (by omega))))))))))
        clear w3
        clear hbs hl fin hcells hbadI hrdI hrM hus hcell h64 l0 l1 l2 l3 hq hqc hszv hz1 hbad hkdn hidn hk16 hrM4 hr5 hro hat hl5 hr6 hD hcb hlD j5 j6 hs6n
        rcases e1 with e1 | ⟨e1, e2⟩
        all_goals
          go_enter Try.func10, Try.ntmps10
          go_wp2_with fail
          refine calls_at_world (F := Zm w) HZ.out fun W1 Z1 => ?_
          obtain ⟨⟨d0, d1⟩, ⟨d2, d3⟩⟩ := HA.out.1 W1 Z1.bel
          have H1 := Lib.hid Z1
          clear Z1
          refine (HA.out.2 W1).mono ?_
          rintro e w2 ⟨rfl, hw2⟩
          obtain rfl := hw2.symm
          clear c0 c1 c2 c3
          go_wp2_with fail
          refine wp_region_relG (DS ⟨w, (kdn : Int), (x1 : Int), (idn : Int), sz, tk⟩) DT (DR ⟨w, (kdn : Int), (x1 : Int), (idn : Int), sz, tk⟩ b off n c x0 k16 x1 x2 x3 s4 o4 c4) [(0, .slice (some ⟨b, off, none⟩) n c), (4, .int .i64 (sz : Int))] (by kernel_rfl) (by kernel_rfl) (by kernel_rfl) ?base none (DS.first H1.out) (fun i g w g' w' v ht h => DR.grow _ _ _ _ _ _ _ _ _ _ _ _ _ i g w g' w' v ht h) ?steps ?fin
          case base =>
            intro x hx
            simp only [List.mem_cons, List.not_mem_nil, or_false] at hx
            rcases hx with rfl | rfl <;> exact ⟨rfl, rfl⟩
          case steps =>
            clear d0 d1 d2 d3
            refine steps_cons ?_ (steps_cons ?_ (steps_cons ?_ (steps_cons ?_ (steps_cons ?_ (steps_cons ?_ (steps_cons ?_ (steps_cons ?_ (steps_cons ?_ (steps_cons ?_ (steps_cons ?_ (steps_cons ?_ (steps_cons ?_ (steps_cons ?_ (steps_cons ?_ (steps_cons ?_ (steps_cons ?_ (steps_cons ?_ (steps_cons ?_ (steps_cons ?_ (steps_cons ?_ (steps_cons ?_ (steps_cons ?_ (steps_cons ?_ (steps_cons ?_ (steps_cons ?_ (steps_cons ?_ (steps_cons ?_ steps_nil)))))))))))))))))))))))))))
            · intro a w L g K hLi hLd hS hB hR hK
              rw [if_pos (wanted_none rfl)]
              have h0 := tmp_is (hB.1)
              go_simp
              exact hK (.slice (some ⟨b, off, none⟩) n c) w g (hS.quiet 0 rfl rfl) (DT.refl _ _) rfl
            · intro a w L g K hLi hLd hS hB hR hK
              rw [if_pos (wanted_none rfl)]
              have h55 := tmp_is (hR.1)
              have g0n := HWR.out.1
              go_simp
              exact hK (.pointer (some ⟨b, off, none⟩)) w g (hS.quiet 1 rfl rfl) (DT.refl _ _) rfl
            · intro a w L g K hLi hLd hS hB hR hK
              rw [if_pos (wanted_none rfl)]
              have h56 := tmp_is (hR.1)
              obtain ⟨⟨d0, d1⟩, ⟨d2, d3⟩⟩ := HA.out.1 w hS.zm.bel
              go_simp
              exact hK (.int .u8 (x0 : Int)) w g (hS.quiet 2 rfl rfl) (DT.refl _ _) rfl
            · intro a w L g K hLi hLd hS hB hR hK
              rw [if_pos (wanted_none rfl)]
              have h57 := tmp_is (hR.1)
              have e1 := HWR.out.2.1
              go_simp
              exact hK (.int .u8 (k16 : Int)) w g (hS.quiet 3 rfl rfl) (DT.refl _ _) rfl
            · intro a w L g K hLi hLd hS hB hR hK
              rw [if_pos (wanted_none rfl)]
              have h58 := tmp_is (hR.1)
              have e1 := HWR.out.2.2.1
              go_simp
              exact hK (.int .i64 (k16 : Int)) w g (hS.quiet 4 rfl rfl) (DT.refl _ _) rfl
            · intro a w L g K hLi hLd hS hB hR hK
              rw [if_pos (wanted_none rfl)]
              have h59 := tmp_is (hR.1)
              have hkT := HK.out
              go_simp
              exact hK (.int .i64 (kdn : Int)) w g (hS.quiet 5 rfl rfl) (DT.refl _ _) rfl
            · intro a w L g K hLi hLd hS hB hR hK
              rw [if_pos (wanted_none rfl)]
              have h0 := tmp_is (hB.1)
              go_simp
              exact hK (.slice (some ⟨b, off, none⟩) n c) w g (hS.quiet 6 rfl rfl) (DT.refl _ _) rfl
            · intro a w L g K hLi hLd hS hB hR hK
              rw [if_pos (wanted_none rfl)]
              have h61 := tmp_is (hR.1)
              go_simp
              exact hK (.pointer (some ⟨b, off + 1, none⟩)) w g (hS.quiet 7 rfl rfl) (DT.refl _ _) rfl
            · intro a w L g K hLi hLd hS hB hR hK
              rw [if_pos (wanted_none rfl)]
              have h62 := tmp_is (hR.1)
              obtain ⟨⟨d0, d1⟩, ⟨d2, d3⟩⟩ := HA.out.1 w hS.zm.bel
              go_simp
              exact hK (.int .u8 (x1 : Int)) w g (hS.quiet 8 rfl rfl) (DT.refl _ _) rfl
            · intro a w L g K hLi hLd hS hB hR hK
              rw [if_pos (wanted_none rfl)]
              have h63 := tmp_is (hR.1)
              have e1 := HWR.out.2.2.2.1
              go_simp
              exact hK (.int .i64 (x1 : Int)) w g (hS.quiet 9 rfl rfl) (DT.refl _ _) rfl
            · intro a w L g K hLi hLd hS hB hR hK
              rw [if_pos (wanted_none rfl)]
              have h0 := tmp_is (hB.1)
              go_simp
              exact hK (.slice (some ⟨b, off, none⟩) n c) w g (hS.quiet 10 rfl rfl) (DT.refl _ _) rfl
            · intro a w L g K hLi hLd hS hB hR hK
              rw [if_pos (wanted_none rfl)]
              have h65 := tmp_is (hR.1)
              go_simp
              exact hK (.pointer (some ⟨b, off + 2, none⟩)) w g (hS.quiet 11 rfl rfl) (DT.refl _ _) rfl
            · intro a w L g K hLi hLd hS hB hR hK
              rw [if_pos (wanted_none rfl)]
              have h66 := tmp_is (hR.1)
              obtain ⟨⟨d0, d1⟩, ⟨d2, d3⟩⟩ := HA.out.1 w hS.zm.bel
              go_simp
              exact hK (.int .u8 (x2 : Int)) w g (hS.quiet 12 rfl rfl) (DT.refl _ _) rfl
            · intro a w L g K hLi hLd hS hB hR hK
              rw [if_pos (wanted_none rfl)]
              have h67 := tmp_is (hR.1)
              have e1 := HWR.out.2.2.2.2.1
              go_simp
              exact hK (.int .i64 (x2 : Int)) w g (hS.quiet 13 rfl rfl) (DT.refl _ _) rfl
            · intro a w L g K hLi hLd hS hB hR hK
              rw [if_pos (wanted_none rfl)]
              have h68 := tmp_is (hR.1)
              have e1 := HWR.out.2.2.2.2.2.1
              go_simp
              exact hK (.int .i64 ((x2 : Int) * 256)) w g (hS.quiet 14 rfl rfl) (DT.refl _ _) rfl
            · intro a w L g K hLi hLd hS hB hR hK
              rw [if_pos (wanted_none rfl)]
              have h0 := tmp_is (hB.1)
              go_simp
              exact hK (.slice (some ⟨b, off, none⟩) n c) w g (hS.quiet 15 rfl rfl) (DT.refl _ _) rfl
            · intro a w L g K hLi hLd hS hB hR hK
              rw [if_pos (wanted_none rfl)]
              have h70 := tmp_is (hR.1)
              go_simp
              exact hK (.pointer (some ⟨b, off + 3, none⟩)) w g (hS.quiet 16 rfl rfl) (DT.refl _ _) rfl
            · intro a w L g K hLi hLd hS hB hR hK
              rw [if_pos (wanted_none rfl)]
              have h71 := tmp_is (hR.1)
              obtain ⟨⟨d0, d1⟩, ⟨d2, d3⟩⟩ := HA.out.1 w hS.zm.bel
              go_simp
              exact hK (.int .u8 (x3 : Int)) w g (hS.quiet 17 rfl rfl) (DT.refl _ _) rfl
            · intro a w L g K hLi hLd hS hB hR hK
              rw [if_pos (wanted_none rfl)]
              have h72 := tmp_is (hR.1)
              have e1 := HWR.out.2.2.2.2.2.2.1
              go_simp
              exact hK (.int .i64 (x3 : Int)) w g (hS.quiet 18 rfl rfl) (DT.refl _ _) rfl
            · intro a w L g K hLi hLd hS hB hR hK
              rw [if_pos (wanted_none rfl)]
              have h69 := tmp_is (hR.1)
              have h73 := tmp_is (hR.2.1)
              have e1 := HWR.out.2.2.2.2.2.2.2.1
              go_simp
              exact hK (.int .i64 (idn : Int)) w g (hS.quiet 19 rfl rfl) (DT.refl _ _) rfl
            · intro a w L g K hLi hLd hS hB hR hK
              rw [if_pos (wanted_none rfl)]
              have h0 := tmp_is (hB.1)
              go_simp
              exact hK (.slice (some ⟨b, off, none⟩) n c) w g (hS.quiet 20 rfl rfl) (DT.refl _ _) rfl
            · intro a w L g K hLi hLd hS hB hR hK
              rw [if_pos (wanted_none rfl)]
              have h4 := tmp_is (hB.2.1)
              go_simp
              exact hK (.int .i64 (sz : Int)) w g (hS.quiet 21 rfl rfl) (DT.refl _ _) rfl
            · intro a w L g K hLi hLd hS hB hR hK
              rw [if_pos (wanted_none rfl)]
              have h76 := tmp_is (hR.1)
              have e1 := HWR.out.2.2.2.2.2.2.2.2
              go_simp
              exact hK (.int .i64 (s4 : Int)) w g (hS.quiet 22 rfl rfl) (DT.refl _ _) rfl
            · intro a w L g K hLi hLd hS hB hR hK
              rw [if_pos (wanted_none rfl)]
              have h75 := tmp_is (hR.1)
              have h77 := tmp_is (hR.2.1)
              go_simp
              exact hK (.slice (some ⟨b, o4, none⟩) sz c4) w g (hS.quiet 23 rfl rfl) (DT.refl _ _) rfl
            · intro a w L g K hLi hLd hS hB hR hK
              rw [if_pos (wanted_none rfl)]
              have h78 := tmp_is (hR.1)
              go_simp
              refine (HC.out.1 w hS.zm.bel).mono ?_
              rintro e w' ⟨u5, rfl, ho5, b5⟩
              have hn := HC.out.2
              rw [hn] at ho5
              obtain ⟨tA, tc, rfl, htc, hbt⟩ := own_bs ho5
              exact hK _ _ g (hS.call hLi b5) (DT.below b5) ⟨tA, tc, rfl, ⟨htc, row_cap ho5⟩, hbt⟩
            · intro a w L g K hLi hLd hS hB hR hK
              rw [if_pos (wanted_none rfl)]
              have h60 := tmp_is (hR.1)
              have h64 := tmp_is (hR.2.1)
              have h74 := tmp_is (hR.2.2.1)
              obtain ⟨tA, tc, hv, hcap, hB⟩ := hR.2.2.2.1
              have h79 := tmp_is hv
              go_simp
              exact hK (.agg #[.int .i64 (kdn : Int), .int .i64 (x1 : Int), .int .i64 (idn : Int), .slice tA sz tc, .slice none 0 0, .slice none 0 0]) w g (hS.quiet 25 rfl rfl) (DT.refl _ _) ⟨tA, tc, rfl, hcap, hB⟩
            · intro a w L g K hLi hLd hS hB hR hK
              rw [if_pos (wanted_none rfl)]
              go_simp
              exact hK (.pointer (some ⟨w.heap.size, 0, none⟩)) _ (some w.heap.size) (hS.made hLi) ⟨fun I h => (by rw [hS.n hLi] at h; cases h), (DT.below (g := g) (alloc_below w _)).2⟩ ⟨_, rfl, rfl⟩
            · intro a w L g K hLi hLd hS hB hR hK
              rw [if_pos (wanted_none rfl)]
              obtain ⟨I, hgI, hvI⟩ := hR.1
              obtain ⟨tA, tc, hv, hcap, hB⟩ := hR.2.1
              obtain ⟨hth, hst, hdt⟩ := hS.stored hLi (hLd 26 (by decide)) (hLd 24 (by decide)) hgI hcap hB
              refine wp_store_mid 26 (.tmp 5) (.tmp 80) (by rfl) I 0 #[.int .i64 (kdn : Int), .int .i64 (x1 : Int), .int .i64 (idn : Int), .slice tA sz tc, .slice none 0 0, .slice none 0 0] hvI hv hth size_msg (all_oneCell_toArray (one6 _ _ _ _ _ _ _ _ _ _ _ _)) ?_
              exact hK undef _ g hst hdt trivial
          case fin =>
            intro a w6 L g hS6 hall ha hR
            obtain ⟨I, hgI, hvI⟩ := deps_mem _ hR 26 (by decide)
            obtain ⟨I', h1, h2, _, h4⟩ := hS6.y (hall 26 (by decide))
            obtain ⟨tA, tc, hcap, hblk, hB⟩ := h4 (hall 27 (by decide))
            rw [hgI] at h1
            obtain rfl := Option.some.inj h1
            have hvI' : a.eval (.tmp 5) = .pointer (some ⟨I, 0, none⟩) := hvI
            dsimp only at hblk hB hcap h2
            have H6 := Lib.hid (And.intro hS6.zm (And.intro h2 (And.intro hblk (And.intro hB hcap))))
            clear hS6 hall hR hgI hvI h1 h2 h4 hblk hB hcap d0 d1 d2 d3
            simp only [pin] at ha
            rw [ha]
            simp only [List.setIfInBounds_toArray, List.set_cons_zero, List.set_cons_succ, hvI']
            clear ha hvI'
            go_wp2_with fail
            refine (HX.out.1 w6 H6.out.1.bel).mono ?_
            rintro e w7 ⟨oA, on, oc, us, rfl, hoc, hom, hon, hos, b7, hfr⟩
            have Z7 := Lib.hid (H6.out.1.step b7)
            have hlt7 : I < w6.heap.size := (Array.getElem?_eq_some_iff.1 H6.out.2.2.1).1
            have hblk7 := (b7.block I hlt7).trans H6.out.2.2.1
            have hB7 := (H6.out.2.2.2.1.below b7).more b7.size
            have hfr7 : Fresh oA (I + 1) := fun ad e => by have h1 : w6.heap.size ≤ ad.block := hfr.out ad e; omega
            have hIw : w.heap.size + 1 ≤ I := H6.out.2.1
            have hc4 : w7.cell? ⟨I, 4, none⟩ = some (.slice none 0 0) := by rw [cell_of_row _ _ _ _ _ _ hblk7]; rfl
            have hf4 : w7.frozen? ⟨I, 4, none⟩ = false := frz_r hblk7
            have K7 := Lib.hid (And.intro hblk7 (And.intro hB7 (And.intro hfr7 (And.intro hos (And.intro hoc hom)))))
            clear hblk7 hB7 hfr7 hoc hom hon hos b7 hfr hlt7
            try dsimp only
            by_cases her : er = 0
            · subst her
              have Z8 := Lib.hid (Z7.out.setR (j := 4) hIw (.slice oA on oc))
              have hb8 := blk_setR (j := 4) K7.out.1 (.slice oA on oc)
              have B8 := Lib.hid (And.intro hb8 (And.intro (K7.out.2.1.setR hc4 (.slice oA on oc)) (K7.out.2.2.2.1.setR K7.out.2.2.1 hc4 (.slice oA on oc))))
              clear hb8
              by_cases hn0 : n6 = 0
              · have y0 : ((n6 : Int) == 1) = false := by subst hn0; rfl
                have y1 : ¬ (1201 : Int) < n6 := by omega
                have y2 : ¬ (0 : Int) < n6 := by omega
                have hr8 := range_blk B8.out.1 rfl
                have hDn : D = [] := List.eq_nil_of_length_eq_zero (by have := HX.out.2.2.2.1; omega)
                have HD := Lib.hid (And.intro hDn hn0)
                clear hDn hn0
                go_wp2_with (first
                  | (refine wpList_load_mid rfl 26 (.tmp 5) rfl I 0 rfl [.int .i64 (kdn : Int), .int .i64 (x1 : Int), .int .i64 (idn : Int), .slice tA sz tc, .slice oA on oc, .slice none 0 0] _ hr8 Try.underlying26 rfl size_msg ?_)
                  | (refine wpList_store_mid rfl 26 (.tmp 2) (.tmp 117) rfl w.heap.size 0 (List.toArray [.int .i64 (kdn : Int), .int .i64 (x1 : Int), .int .i64 (idn : Int), .slice tA sz tc, .slice oA on oc, .slice none 0 0]) rfl rfl Z8.out.there size_msg (all_oneCell_toArray (one6 _ _ _ _ _ _ _ _ _ _ _ _)) ?_))
                have hf := Z8.out.stored [.int .i64 (kdn : Int), .int .i64 (x1 : Int), .int .i64 (idn : Int), .slice tA sz tc, .slice oA on oc, .slice none 0 0] rfl
                refine bodyPost_ret (results_cell_tmp_mid rfl _ _ w.heap.size 0 _ _ rfl hf.1 Try.underlying26 rfl size_msg) rfl ?_
                rw [HX.out.2.2.1, if_neg (by simp), HD.out.1, show bodyF [] = ([], 0) from rfl, if_neg (by simp)]
                refine ⟨tA, sz, tc, oA, on, oc, none, 0, 0, us, rfl, ⟨H6.out.2.2.2.2.1, H6.out.2.2.2.2.2, K7.out.2.2.2.2.1, K7.out.2.2.2.2.2, Nat.le_refl _, Nat.zero_le _⟩, ?_, hf.2⟩
                rw [size_setCells_, size_setR]
                exact Ms.set_ ⟨B8.out.2.1, B8.out.2.2, Bs.empty _ _ _⟩ (fun ad e => by have := K7.out.2.2.1 ad e; omega) Z8.out.blk _
              · by_cases hn1 : n6 = 1
                · have y0 : ((n6 : Int) == 1) = true := by subst hn1; rfl
                  have hbf : (bodyF D).2 = 20 := by unfold bodyF; rw [if_neg (by have := HX.out.2.2.2.1; omega), if_pos (by have := HX.out.2.2.2.1; omega)]
                  have HE := Lib.hid hbf
                  clear hbf hn0 hn1
                  go_wp2_with (refine wpList_store_mid rfl 26 (.tmp 2) (.tmp 105) rfl w.heap.size 0 Z6.toArray rfl rfl Z8.out.there size_msg (all_oneCell_toArray (one6 _ _ _ _ _ _ _ _ _ _ _ _)) ?_)
                  refine bodyPost_ret (results_cell_tmp_mid rfl _ _ w.heap.size 0 Z6 _ rfl (Z8.out.stored Z6 rfl).1 Try.underlying26 rfl size_msg) rfl ?_
                  exact HX.out.2.2.2.2 (by rw [HX.out.2.2.1]; rw [if_neg (by simp), if_pos (by rw [HE.out]; decide), HE.out]) (Z8.out.stored Z6 rfl).2
                · have y0 : ((n6 : Int) == 1) = false := beq_eq_false_iff_ne.2 (by omega)
                  by_cases hn2 : 1201 < n6
                  · have y1 : (1201 : Int) < n6 := by omega
                    have hbf : (bodyF D).2 = 2 := by unfold bodyF; rw [if_neg (by have := HX.out.2.2.2.1; omega), if_neg (by have := HX.out.2.2.2.1; omega), if_pos (by have := HX.out.2.2.2.1; omega)]
                    have HE := Lib.hid hbf
                    clear hbf hn0 hn1 hn2
                    go_wp2_with (refine wpList_store_mid rfl 26 (.tmp 2) (.tmp 109) rfl w.heap.size 0 Z6.toArray rfl rfl Z8.out.there size_msg (all_oneCell_toArray (one6 _ _ _ _ _ _ _ _ _ _ _ _)) ?_)
                    refine bodyPost_ret (results_cell_tmp_mid rfl _ _ w.heap.size 0 Z6 _ rfl (Z8.out.stored Z6 rfl).1 Try.underlying26 rfl size_msg) rfl ?_
                    exact HX.out.2.2.2.2 (by rw [HX.out.2.2.1]; rw [if_neg (by simp), if_pos (by rw [HE.out]; decide), HE.out]) (Z8.out.stored Z6 rfl).2
                  · have y1 : ¬ (1201 : Int) < n6 := by omega
                    have y2 : (0 : Int) < n6 := by omega
                    have y3 : (1 : Int) ≤ n6 := by omega
                    have y4 : ¬ c6 = 1 := by omega
                    have hbf : bodyF D = (D.drop 1, 0) := by unfold bodyF; rw [if_neg (by have := HX.out.2.2.2.1; omega), if_neg (by have := HX.out.2.2.2.1; omega), if_neg (by have := HX.out.2.2.2.1; omega)]
                    have HE := Lib.hid hbf
                    clear hbf hn0 hn1 hn2
                    go_wp2_with fail
                    refine calls_at_world (F := fun W => W = w7.setCell ⟨I, 4, none⟩ (.slice oA on oc)) rfl fun W8 hW8 => ?_
                    have Z8' : Zm w W8 := hW8 ▸ Z8.out
                    have B8' := B8.out
                    rw [← hW8] at B8'
                    have HB8 := Lib.hid (And.intro Z8' B8')
                    have HS8 := Lib.hid (show w7.heap.size ≤ W8.heap.size by rw [hW8, size_setR]; exact Nat.le_refl _)
                    clear hW8 Z8' B8'
                    have ho6 : o6 = off + s6 := by
                      rw [if_neg (by omega)] at i6
                      injection i6 with i6
                      injection i6 with _ i6
                      exact i6.symm
                    have hcp := HX.out.2.1 W8 HB8.out.1.bel
                    rw [ho6] at hcp
                    refine hcp.mono ?_
                    rintro e w9 ⟨u9, rfl, ho9, b9⟩
                    have hd1 : (D.drop 1).length = n6 - 1 := by rw [List.length_drop, HX.out.2.2.2.1]
                    rw [hd1] at ho9
                    obtain ⟨bA, bc, rfl, hbc, hbb⟩ := own_bs ho9
                    have hbm := row_cap ho9
                    have hlt9 : I < W8.heap.size := (Array.getElem?_eq_some_iff.1 HB8.out.2.1).1
                    have hblk9 := (b9.block I hlt9).trans HB8.out.2.1
                    have hc5 : w9.cell? ⟨I, 5, none⟩ = some (.slice none 0 0) := by rw [cell_of_row _ _ _ _ _ _ hblk9]; rfl
                    have hf5 : w9.frozen? ⟨I, 5, none⟩ = false := frz_r hblk9
                    have Z9 := Lib.hid ((HB8.out.1.step b9).setR (j := 5) hIw (.slice bA (n6 - 1) bc))
                    have hb9 := blk_setR (j := 5) hblk9 (.slice bA (n6 - 1) bc)
                    have hr9 := range_blk hb9 rfl
                    have T9 := Lib.hid (And.intro (((HB8.out.2.2.1.below' b9 HS8.out).more (Nat.le_trans HS8.out b9.size)).setR hc5 (.slice bA (n6 - 1) bc)) (And.intro (((HB8.out.2.2.2.below' b9 HS8.out).more (Nat.le_trans HS8.out b9.size)).setR K7.out.2.2.1 hc5 (.slice bA (n6 - 1) bc)) (And.intro (hbb.setR hc5 (.slice bA (n6 - 1) bc)) (And.intro hbc hbm))))
                    clear ho9 hbc hbb hbm b9 hlt9 hblk9 hb9 hd1
                    go_wp2_with (first
                      | (refine wpList_load_mid rfl 26 (.tmp 5) rfl I 0 rfl [.int .i64 (kdn : Int), .int .i64 (x1 : Int), .int .i64 (idn : Int), .slice tA sz tc, .slice oA on oc, .slice bA (n6 - 1) bc] _ hr9 Try.underlying26 rfl size_msg ?_)
                      | (refine wpList_store_mid rfl 26 (.tmp 2) (.tmp 117) rfl w.heap.size 0 (List.toArray [.int .i64 (kdn : Int), .int .i64 (x1 : Int), .int .i64 (idn : Int), .slice tA sz tc, .slice oA on oc, .slice bA (n6 - 1) bc]) rfl rfl Z9.out.there size_msg (all_oneCell_toArray (one6 _ _ _ _ _ _ _ _ _ _ _ _)) ?_))
                    have hf := Z9.out.stored [.int .i64 (kdn : Int), .int .i64 (x1 : Int), .int .i64 (idn : Int), .slice tA sz tc, .slice oA on oc, .slice bA (n6 - 1) bc] rfl
                    refine bodyPost_ret (results_cell_tmp_mid rfl _ _ w.heap.size 0 _ _ rfl hf.1 Try.underlying26 rfl size_msg) rfl ?_
                    rw [HX.out.2.2.1, if_neg (by simp), HE.out, if_neg (by simp)]
                    refine ⟨tA, sz, tc, oA, on, oc, bA, n6 - 1, bc, us, rfl, ⟨H6.out.2.2.2.2.1, H6.out.2.2.2.2.2, K7.out.2.2.2.2.1, K7.out.2.2.2.2.2, T9.out.2.2.2.1, T9.out.2.2.2.2⟩, ?_, hf.2⟩
                    rw [size_setCells_, size_setR]
                    exact Ms.set_ ⟨T9.out.1, T9.out.2.1, T9.out.2.2.1⟩ (fun ad e => by have := K7.out.2.2.1 ad e; omega) Z9.out.blk _
            · have hne : (er != 0) = true := bne_iff_ne.2 her
              have HE := Lib.hid her
              clear her
              go_wp2_with (refine wpList_store_mid rfl 26 (.tmp 2) (.tmp 92) rfl w.heap.size 0 Z6.toArray rfl rfl Z7.out.there size_msg (all_oneCell_toArray (one6 _ _ _ _ _ _ _ _ _ _ _ _)) ?_)
              refine bodyPost_ret (results_cell_tmp_mid rfl _ _ w.heap.size 0 Z6 _ rfl (Z7.out.stored Z6 rfl).1 Try.underlying26 rfl size_msg) rfl ?_
              exact HX.out.2.2.2.2 (by rw [HX.out.2.2.1]; rw [if_pos HE.out]) (Z7.out.stored Z6 rfl).2
    · have hx64 : ((x0 : Int) / 64 != 1) = true := bne_iff_ne.2 (by omega)
      have HF := Lib.hid fun w' => @fin 20 w' (by rw [hrdI, if_pos (hbadI.2 (.inl (fun h => h64 h.2)))])
      clear hbs hl fin hcells hbadI hrdI hrM hus hcell h64 l0 l1 l2 l3
      go_enter Try.func10, Try.ntmps10
      go_wp2_with (refine wpList_store_mid rfl 26 (.tmp 2) (.tmp 20) rfl w.heap.size 0 Z6.toArray rfl rfl HZ.out.there size_msg (all_oneCell_toArray (one6 _ _ _ _ _ _ _ _ _ _ _ _)) ?_)
      refine bodyPost_ret (results_cell_tmp_mid rfl _ _ w.heap.size 0 Z6 _ rfl (HZ.out.stored Z6 rfl).1 Try.underlying26 rfl size_msg) rfl ?_
      exact HF.out _ (HZ.out.stored Z6 rfl).2
end Go.Proofs.Ytdgihhepmmkkpaa
