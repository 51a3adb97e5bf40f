/-
  The document's reading of options.
-/
import Derived.Test.YtdgihhepmmkkpaaOptRef
namespace Go.Proofs.Ytdgihhepmmkkpaa
open Go.RowKit
set_option maxRecDepth 100000
set_option linter.unusedVariables false
theorem bg_of {x : UInt8} {r : List UInt8} : bg (x :: r) = match jn (x.toNat / 16) r with
    | none => none
    | some (d, k) => match jn (x.toNat % 16) (r.drop k) with
      | none => none
      | some (s, k2) => some (d, s, 1 + k + k2) := rfl
theorem jn_15 (l : List UInt8) : jn 15 l = none := rfl
set_option maxHeartbeats 8000000 in
theorem rreadF_f (A : Option Addr) (n c : Nat) (l : List UInt8) (w : World) (B : Nat) (hbs : Bs w B A n l) (hB : B ≤ w.heap.size) (hc : n ≤ c) (hcI : (c : Int) ≤ 9223372036854775807) (hnI : (n : Int) ≤ 140737488355328) :
    Calls Try.prog 41 #[.slice A n c] w (RdRetF (rdO l) w) := by
  obtain ⟨i0, z0, hi0, hz0, hz1, hz2, hz3⟩ := info_opt
  have hln := hbs.len
  have hncI : (n : Int) ≤ c := by omega
  have HB := Lib.hid (And.intro hbs hln)
  have hrow0 : (w.alloc (.cells #[] 70)).ownsRow w.heap.size 70 2 (.slice (some ⟨w.heap.size, 0, none⟩) 0 0) 0 (svs []) := wp_row w _ (Nat.le_refl _) _ _
  have HR0 := Lib.hid hrow0
  clear hbs hln hrow0
  go_enter Try.func41, Try.ntmps41
  go_wp2
  go_loopw [5, 6, 7] (fun v a m wr => ∃ (fuel at_ num : Nat) (acc : List (Int × List UInt8)) (us : List Sv), at_ ≤ n ∧ num ≤ 65535 ∧ acc.length ≤ 24 ∧ a = .int .i64 at_ ∧ m = .int .i64 num ∧ wr.ownsRow w.heap.size 70 2 v acc.length (svs us) ∧ Mx wr w.heap.size us acc ∧ Below w.heap.size w wr ∧ Aside (rdGo l fuel at_ num acc = rdO l ∧ n - at_ < fuel)) (fun _ a _ _ => n - (intOf a).toNat)
  case atStart => exact ⟨l.length + 1, 0, 0, [], [], by omega, by omega, by simp, rfl, rfl, HR0.out, Mx.nil _ _, alloc_below w _, (show Aside _ from ⟨rfl, by have := HB.out.2; omega⟩)⟩
  case round =>
    obtain ⟨fuel, at_, num, acc, us, hat, hnum, hacc, rfl, rfl, hrow, hmx, hbr, hgo⟩ := hrel
    obtain ⟨f', rfl⟩ : ∃ f', fuel = f' + 1 := ⟨fuel - 1, by have := hgo.out.2; omega⟩
    by_cases hlt : at_ < n
    · obtain ⟨x, hx⟩ := byte_get (l := l) (k := at_) (by have := HB.out.2; omega)
      have hst : rdGo l (f' + 1) at_ num acc = if x = 255 then (acc, at_, 0) else
          match bg (l.drop at_) with
          | none => ([], 0, 20)
          | some (d, s, k) =>
            if acc.length = 24 then ([], 0, 3)
            else if 65535 < num + d then ([], 0, 1)
            else if 300 < s then ([], 0, 2)
            else if l.length - (at_ + k) < s then ([], 0, 20)
            else rdGo l f' (at_ + k + s) (num + d) (acc ++ [(((num + d : Nat) : Int), (l.drop (at_ + k)).take s)]) := by rw [rdGo, hx]; rfl
      obtain ⟨b, off, rfl, hb, hcell⟩ := HB.out.1.place (by omega)
      have ca : wr.cell? ⟨b, off + at_, none⟩ = some (.int .u8 (x.toNat : Int)) := (hbr.cell (p := ⟨b, off + at_, none⟩) (by show b < _; omega)).trans (hcell at_ x hx)
      have hxb := byte_lt x
      have hatI : (at_ : Int) < n := by omega
      by_cases h255 : x = 255
      · have hx5 : ((x.toNat : Int) != 255) = false := by subst h255; rfl
        rw [if_pos h255] at hst
        have HX : Aside _ := And.intro hrow (And.intro hmx (And.intro hbr (And.intro hgo hst)))
        generalize (x.toNat : Int) = xx at *
        clear hrow hmx hbr hgo hst hcell hx
        go_wp2
        go_ret3
        obtain ⟨hrow, hmx, hbr, hgo, hst⟩ := HX.out
        have hr := hgo.out.1
        rw [hst] at hr
        obtain ⟨A5, c5, rfl, hc5, hos5⟩ := hmx.os hrow hbr.size
        rw [← hr]
        exact ⟨A5, _, c5, us, rfl, hc5, row_cap hrow, rfl, hos5, hbr, fresh_own hrow⟩
      · have hx5 : ((x.toNat : Int) != 255) = true := bne_iff_ne.2 (fun e => h255 (by apply UInt8.toNat_inj.1; show x.toNat = 255; omega))
        rw [if_neg h255] at hst
        obtain ⟨A5, c5, rfl, hc5, hsh5⟩ := Sh.of_own hrow
        have hc5m := row_cap hrow
        obtain ⟨la, hla⟩ : ∃ la, acc.length = la := ⟨_, rfl⟩
        rw [hla] at hacc hrow hsh5 hc5 ⊢
        have HX : Aside _ := And.intro hrow (And.intro hmx (And.intro hbr (And.intro hgo (And.intro hst (And.intro hc5 hc5m)))))
        have HLA := Lib.hid hla
        simp only [maxLen] at hc5m
        have hlnn := HB.out.2
        have hBs := fun m => ((HB.out.1.below' hbr hB).drewN m : Bs (wr.drewN m) B _ _ _)
        obtain ⟨f1, hf1⟩ : ∃ f, x.toNat / 16 = f := ⟨_, rfl⟩
        obtain ⟨f2, hf2⟩ : ∃ f, x.toNat % 16 = f := ⟨_, rfl⟩
        have hxl := x.toNat_lt
        have hf1b : f1 ≤ 15 := by omega
        have hf2b : f2 ≤ 15 := by omega
        have hbgq : bg (l.drop at_) = match jn f1 (l.drop (at_ + 1)) with
            | none => none
            | some (d, k) => match jn f2 ((l.drop (at_ + 1)).drop k) with
              | none => none
              | some (s, k2) => some (d, s, 1 + k + k2) := by rw [drop_one hx, bg_of, hf1, hf2]
        have hdv : (x.toNat : Int) / 16 = (f1 : Int) := by omega
        have hmd : (x.toNat : Int) % 16 = (f2 : Int) := by omega
        generalize hxx : (x.toNat : Int) = xx at *
        have hx0 : 0 ≤ xx := by omega
        have hdv2 : xx.tdiv 16 = (f1 : Int) := by rw [Int.tdiv_eq_ediv_of_nonneg hx0]; exact hdv
        have hmd2 : xx.tmod 16 = (f2 : Int) := by rw [Int.tmod_eq_emod_of_nonneg hx0]; exact hmd
        have hwd : IntKind.i64.wrap (f1 : Int) = (f1 : Int) := IntWalk.i64_in _ (by omega)
        have hwm : IntKind.i64.wrap (f2 : Int) = (f2 : Int) := IntWalk.i64_in _ (by omega)
        have hat0 : (0 : Int) ≤ (at_ : Int) := by omega
        have hatI2 : (at_ : Int) ≤ n := by omega
        by_cases h15 : f1 = 15 ∨ f2 = 15
        · have hq : bg (l.drop at_) = none := by
            rw [hbgq]
            rcases h15 with rfl | rfl
            · rfl
            · cases jn f1 (l.drop (at_ + 1)) with
              | none => rfl
              | some p => rfl
          rw [hq] at hst
          have HQ := Lib.hid hst
          clear hrow hmx hbr hgo hst hcell hx hq hla hxx hlnn hBs hbgq hsh5 hf1 hf2 hxl
          rcases h15 with rfl | rfl
          · go_wp2_with fail
            go_quiet (fail)
            go_wp2
            go_ret3
            obtain ⟨hrow, hmx, hbr, hgo, hst, _⟩ := HX.out
            have hr := hgo.out.1
            rw [HQ.out] at hr
            exact RdRetF.err hr.symm (hbr.trans ((drewN_below wr _ _).mono hbr.size))
          · by_cases h152 : f1 = 15
            · subst h152
              go_wp2_with fail
              go_quiet (fail)
              go_wp2
              go_ret3
              obtain ⟨hrow, hmx, hbr, hgo, hst, _⟩ := HX.out
              have hr := hgo.out.1
              rw [HQ.out] at hr
              exact RdRetF.err hr.symm (hbr.trans ((drewN_below wr _ _).mono hbr.size))
            · have h1n : ((f1 : Int) == 15) = false := beq_eq_false_iff_ne.2 (by omega)
              go_wp2_with fail
              go_quiet (fail)
              go_wp2
              go_ret3
              obtain ⟨hrow, hmx, hbr, hgo, hst, _⟩ := HX.out
              have hr := hgo.out.1
              rw [HQ.out] at hr
              exact RdRetF.err hr.symm (hbr.trans ((drewN_below wr _ _).mono hbr.size))
        · have h1n : ((f1 : Int) == 15) = false := beq_eq_false_iff_ne.2 (by omega)
          have h2n : ((f2 : Int) == 15) = false := beq_eq_false_iff_ne.2 (by omega)
          have hnf1 := fun m => num_f f1 (by omega) _ n c l (wr.drewN m) B (hBs m) hnI ((at_ : Int) + 1) (at_ + 1) (by omega) (by omega)
          have hnf2 := fun (m k : Nat) (hk : at_ + 1 + k ≤ n) => num_f f2 (by omega) _ n c l (wr.drewN m) B (hBs m) hnI ((at_ : Int) + 1 + k) (at_ + 1 + k) (by omega) hk
          unfold NumPost at hnf1
          cases hq1 : jn f1 (l.drop (at_ + 1)) with
          | none =>
            rw [hq1] at hbgq hnf1
            simp only at hbgq hnf1
            rw [hbgq] at hst
            have HQ := Lib.hid hst
            have HN := Lib.hid hnf1
            clear hrow hmx hbr hgo hst hcell hx hla hxx hlnn hBs hbgq hsh5 hf1 hf2 hxl hnf1 hnf2 hq1
            go_wp2_with fail
            go_quiet (fail)
            go_wp2_with (go_at_call 62; with_reducible refine (HN.out _).mono ?_; rintro e w1 ⟨⟨m1, rfl⟩, rfl⟩)
            go_ret3
            obtain ⟨hrow, hmx, hbr, hgo, hst, _⟩ := HX.out
            have hr := hgo.out.1
            rw [HQ.out] at hr
            exact RdRetF.err hr.symm (hbr.trans ((drewN_below wr _ _).mono hbr.size))
          | some p =>
            obtain ⟨d, k1⟩ := p
            have hle1 := jn_le hq1
            rw [List.length_drop] at hle1
            rw [hq1] at hbgq hnf1
            simp only at hbgq hnf1
            have hk1n : at_ + 1 + k1 ≤ n := by omega
            have hnf2' := fun m => hnf2 m k1 hk1n
            have hdd : (l.drop (at_ + 1)).drop k1 = l.drop (at_ + 1 + k1) := by rw [List.drop_drop]
            rw [hdd] at hbgq
            unfold NumPost at hnf2'
            cases hq2 : jn f2 (l.drop (at_ + 1 + k1)) with
            | none =>
              rw [hq2] at hbgq hnf2'
              simp only at hbgq hnf2'
              rw [hbgq] at hst
              have HQ := Lib.hid hst
              have HN := Lib.hid (And.intro hnf1 hnf2')
              clear hrow hmx hbr hgo hst hcell hx hla hxx hlnn hBs hbgq hsh5 hf1 hf2 hxl hnf1 hnf2 hnf2' hq1 hq2 hdd hle1
              go_wp2_with fail
              go_quiet (fail)
              go_wp2_with (first
                | (go_at_call 62; with_reducible refine (HN.out.1 _).mono ?_; rintro e w1 ⟨⟨m1, rfl⟩, rfl⟩)
                | (go_at_call 62; with_reducible refine (HN.out.2 _).mono ?_; rintro e w1 ⟨⟨m1, rfl⟩, rfl⟩))
              go_ret3
              obtain ⟨hrow, hmx, hbr, hgo, hst, _⟩ := HX.out
              have hr := hgo.out.1
              rw [HQ.out] at hr
              exact RdRetF.err hr.symm (hbr.trans ((drewN_below wr _ _).mono hbr.size))
            | some p =>
              obtain ⟨s, k2⟩ := p
              have hle2 := jn_le hq2
              rw [List.length_drop] at hle2
              rw [hq2] at hbgq hnf2'
              simp only at hbgq hnf2'
              rw [hbgq, hla, hlnn] at hst
              simp only at hst
              have HN := Lib.hid (And.intro hnf1 hnf2')
              have hfr : at_ + 1 + k1 + k2 ≤ n := by omega
              have hd6 : d ≤ 65804 := hle1.1
              have hs6 : s ≤ 65804 := hle2.1
              by_cases h24 : la = 24
              · rw [if_pos h24] at hst
                have HQ := Lib.hid hst
                have h24I : (24 : Int) ≤ la := by omega
                clear hrow hmx hbr hgo hst hcell hx hla hxx hlnn hBs hbgq hsh5 hf1 hf2 hxl hnf1 hnf2 hnf2' hq1 hq2 hdd hle1 hle2
                go_wp2_with fail
                go_quiet (fail)
                go_wp2_with (first
                  | (go_at_call 62; with_reducible refine (HN.out.1 _).mono ?_; rintro e w1 ⟨⟨m1, rfl⟩, rfl⟩)
                  | (go_at_call 62; with_reducible refine (HN.out.2 _).mono ?_; rintro e w1 ⟨⟨m2, rfl⟩, rfl⟩))
                go_ret3
                obtain ⟨hrow, hmx, hbr, hgo, hst, _⟩ := HX.out
                have hr := hgo.out.1
                rw [HQ.out] at hr
                exact RdRetF.err hr.symm (hbr.trans ((drewN_below wr _ _).mono hbr.size))
              · rw [if_neg h24] at hst
                have h24I : ¬ (24 : Int) ≤ la := by omega
                by_cases hnd : 65535 < num + d
                · rw [if_pos hnd] at hst
                  have HQ := Lib.hid hst
                  have hndI : (65535 : Int) < num + d := by omega
                  clear hrow hmx hbr hgo hst hcell hx hla hxx hlnn hBs hbgq hsh5 hf1 hf2 hxl hnf1 hnf2 hnf2' hq1 hq2 hdd hle1 hle2
                  go_wp2_with fail
                  go_quiet (fail)
                  go_wp2_with (first
                    | (go_at_call 62; with_reducible refine (HN.out.1 _).mono ?_; rintro e w1 ⟨⟨m1, rfl⟩, rfl⟩)
                    | (go_at_call 62; with_reducible refine (HN.out.2 _).mono ?_; rintro e w1 ⟨⟨m2, rfl⟩, rfl⟩))
                  go_ret3
                  obtain ⟨hrow, hmx, hbr, hgo, hst, _⟩ := HX.out
                  have hr := hgo.out.1
                  rw [HQ.out] at hr
                  exact RdRetF.err hr.symm (hbr.trans ((drewN_below wr _ _).mono hbr.size))
                · rw [if_neg hnd] at hst
                  have hndI : ¬ (65535 : Int) < num + d := by omega
                  by_cases hs3 : 300 < s
                  · rw [if_pos hs3] at hst
                    have HQ := Lib.hid hst
                    have hs3I : (300 : Int) < s := by omega
                    clear hrow hmx hbr hgo hst hcell hx hla hxx hlnn hBs hbgq hsh5 hf1 hf2 hxl hnf1 hnf2 hnf2' hq1 hq2 hdd hle1 hle2
                    go_wp2_with fail
                    go_quiet (fail)
                    go_wp2_with (first
                      | (go_at_call 62; with_reducible refine (HN.out.1 _).mono ?_; rintro e w1 ⟨⟨m1, rfl⟩, rfl⟩)
                      | (go_at_call 62; with_reducible refine (HN.out.2 _).mono ?_; rintro e w1 ⟨⟨m2, rfl⟩, rfl⟩))
                    go_ret3
                    obtain ⟨hrow, hmx, hbr, hgo, hst, _⟩ := HX.out
                    have hr := hgo.out.1
                    rw [HQ.out] at hr
                    exact RdRetF.err hr.symm (hbr.trans ((drewN_below wr _ _).mono hbr.size))
                  · rw [if_neg hs3] at hst
                    have hs3I : ¬ (300 : Int) < s := by omega
                    by_cases hfit : n - (at_ + (1 + k1 + k2)) < s
                    · rw [if_pos hfit] at hst
                      have HQ := Lib.hid hst
                      have hfitI : (n : Int) - (at_ + 1 + k1 + k2) < s := by omega
                      clear hrow hmx hbr hgo hst hcell hx hla hxx hlnn hBs hbgq hsh5 hf1 hf2 hxl hnf1 hnf2 hnf2' hq1 hq2 hdd hle1 hle2
                      go_wp2_with fail
                      go_quiet (fail)
                      go_wp2_with (first
                        | (go_at_call 62; with_reducible refine (HN.out.1 _).mono ?_; rintro e w1 ⟨⟨m1, rfl⟩, rfl⟩)
                        | (go_at_call 62; with_reducible refine (HN.out.2 _).mono ?_; rintro e w1 ⟨⟨m2, rfl⟩, rfl⟩))
                      go_ret3
                      obtain ⟨hrow, hmx, hbr, hgo, hst, _⟩ := HX.out
                      have hr := hgo.out.1
                      rw [HQ.out] at hr
                      exact RdRetF.err hr.symm (hbr.trans ((drewN_below wr _ _).mono hbr.size))
                    · rw [if_neg hfit] at hst
                      have HQ := Lib.hid hst
                      have hfitI : ¬ (n : Int) - (at_ + 1 + k1 + k2) < s := by omega
                      have hsum : at_ + 1 + k1 + k2 + s ≤ n := by omega
                      have hBm : ∀ m, B ≤ (wr.drewN m).heap.size := fun m => Nat.le_trans hB hbr.size
                      have hsI : (s : Int) ≤ 65536 := by omega
                      have hsg : ((l.drop (at_ + 1 + k1 + k2)).take s).length = s := by rw [List.length_take, List.length_drop, hlnn]; omega
                      have hcut := fun (m : Nat) (A' : Option Addr) (hA : A' = if c = at_ + 1 + k1 + k2 then some ⟨b, off, none⟩ else (some ⟨b, off, none⟩ : Option Addr).map (·.add (at_ + 1 + k1 + k2))) => ((HB.out.1.below' hbr hB).drewN m).cut (lo := at_ + 1 + k1 + k2) (hi := at_ + 1 + k1 + k2 + s) (c := c) (by omega) hsum hc hA
                      obtain ⟨seg, hseg⟩ : ∃ seg, seg = (l.drop (at_ + 1 + k1 + k2)).take s := ⟨_, rfl⟩
                      have hcs : (l.take (at_ + 1 + k1 + k2 + s)).drop (at_ + 1 + k1 + k2) = seg := by rw [hseg, List.drop_take, Nat.add_sub_cancel_left]
                      rw [Nat.add_sub_cancel_left, hcs] at hcut
                      rw [← hseg] at hsg
                      by_cases hck : c = at_ + 1 + k1 + k2
                      · rw [if_pos hck] at hcut
                        have HS : Aside _ := And.intro (And.intro hsg hseg) (fun m => hcut m _ rfl)
                        clear hrow hmx hbr hgo hst hcell hx hla hxx hlnn hBs hbgq hsh5 hf1 hf2 hxl hnf1 hnf2 hnf2' hq1 hq2 hdd hle1 hle2 hcut hsg hcs hseg
                        subst hck
                        go_wp2_with fail
                        go_quiet (fail)
                        go_wp2_with (first
                          | (go_at_call 62; with_reducible refine (HN.out.1 _).mono ?_; rintro e w1 ⟨⟨m1, rfl⟩, rfl⟩)
                          | (go_at_call 62; with_reducible refine (HN.out.2 _).mono ?_; rintro e w1 ⟨⟨m2, rfl⟩, rfl⟩)
                          | (go_at_call 40
                             with_reducible refine (rcopy_any _ s _ seg (wr.drewN _) B (HS.out.2 _) (hBm _) hsI).mono ?_
                             rintro e w2 ⟨v2, rfl, ho2, b2⟩
                             obtain ⟨A7, c7, rfl, _, _⟩ := Bs.of_own ho2
                             have hw2 : Below wr.heap.size wr w2 := (drewN_below wr _ _).trans (b2.mono (Nat.le_refl _))
                             have hsz2 := hw2.size
                             have hszr := HX.out.2.2.1.size
                             have HW2 := Lib.hid ((row_below HX.out.1 hw2).alloc (.cells #[.int .i64 ((num : Int) + d), .slice A7 seg.length c7] 70))
                             have H2 : Aside _ := And.intro (row_mono ho2 hszr) hw2
                             clear ho2 b2 hw2)
                          | (at_builtin
                             refine wpList_append_svs _ rfl (.tmp 85) (.tmp 95) 24 rfl w.heap.size 70 i0 z0 Try.underlying24 hi0 hz0 hz2 hz3 hz1 _ la us rfl HW2.out (w2.heap.size + 1) (some ⟨w2.heap.size, 0, none⟩) 1 1 [⟨(num : Int) + d, A7, seg.length, c7⟩] rfl (Sh.lit0 w2 _ ⟨(num : Int) + d, A7, seg.length, c7⟩ _) (by omega) (by rw [alloc_size]; omega) ?_
                             intro v3 w3 ho3 hg3
                             have H3 : Aside _ := And.intro ho3 hg3
                             clear ho3 hg3))
                        go_roundw
                        case rel =>
                          obtain ⟨hrow, hmx, hbr, hgo, hst, _⟩ := HX.out
                          obtain ⟨ho2, hw2⟩ := H2.out
                          obtain ⟨ho3, hg3⟩ := H3.out
                          have hal := alloc_below w2 (.cells #[.int .i64 ((num : Int) + d), .slice A7 seg.length c7] 70)
                          have hwa : Below wr.heap.size wr (w2.alloc (.cells #[.int .i64 ((num : Int) + d), .slice A7 seg.length c7] 70)) := hw2.trans (hal.mono hw2.size)
                          refine ⟨f', at_ + 1 + k1 + k2 + s, num + d, acc ++ [(((num + d : Nat) : Int), seg)], us ++ [⟨(num : Int) + d, A7, seg.length, c7⟩], by omega, by omega, ?_, by go_num, by go_num, ?_, ?_, (hbr.trans (hwa.mono hbr.size)).grown hg3 (by have := hwa.size; omega) (own_ge hrow), (show Aside _ from ?_)⟩
                          · rw [List.length_append, HLA.out]; show la + 1 ≤ 24; omega
                          · rw [List.length_append, HLA.out]; exact ho3
                          · have m1 := (hmx.below hwa hbr.size)
                            have i1 : InS (w2.alloc (.cells #[.int .i64 ((num : Int) + d), .slice A7 seg.length c7] 70)) w.heap.size ⟨(num : Int) + d, A7, seg.length, c7⟩ seg := (InS.of_own ho2).below hal (by omega)
                            exact (m1.push (x := (((num + d : Nat) : Int), seg)) (by show (num : Int) + d = _; omega) i1).grown HW2.out hg3 (by rw [alloc_size]; omega)
                          · refine ⟨?_, by have := hgo.out.2; omega⟩
                            rw [← hgo.out.1, HQ.out, HS.out.1.2, show at_ + (1 + k1 + k2) = at_ + 1 + k1 + k2 by omega]
                        case measure => simp [intOf]; omega
                      · rw [if_neg hck] at hcut
                        have HS : Aside ((seg.length = s ∧ seg = (l.drop (at_ + 1 + k1 + k2)).take s) ∧ ∀ m, Bs (wr.drewN m) B (some ⟨b, off + (at_ + 1 + k1 + k2), none⟩) s seg) := And.intro (And.intro hsg hseg) (fun m => hcut m _ (by rw [Option.map_some, Addr.add_lit]))
                        clear hrow hmx hbr hgo hst hcell hx hla hxx hlnn hBs hbgq hsh5 hf1 hf2 hxl hnf1 hnf2 hnf2' hq1 hq2 hdd hle1 hle2 hcut hsg hcs hseg
                        go_wp2_with fail
                        go_quiet (fail)
                        go_wp2_with (first
                          | (go_at_call 62; with_reducible refine (HN.out.1 _).mono ?_; rintro e w1 ⟨⟨m1, rfl⟩, rfl⟩)
                          | (go_at_call 62; with_reducible refine (HN.out.2 _).mono ?_; rintro e w1 ⟨⟨m2, rfl⟩, rfl⟩)
                          | (go_at_call 40
                             with_reducible refine (rcopy_any _ s _ seg (wr.drewN _) B (HS.out.2 _) (hBm _) hsI).mono ?_
                             rintro e w2 ⟨v2, rfl, ho2, b2⟩
                             obtain ⟨A7, c7, rfl, _, _⟩ := Bs.of_own ho2
                             have hw2 : Below wr.heap.size wr w2 := (drewN_below wr _ _).trans (b2.mono (Nat.le_refl _))
                             have hsz2 := hw2.size
                             have hszr := HX.out.2.2.1.size
                             have HW2 := Lib.hid ((row_below HX.out.1 hw2).alloc (.cells #[.int .i64 ((num : Int) + d), .slice A7 seg.length c7] 70))
                             have H2 : Aside _ := And.intro (row_mono ho2 hszr) hw2
                             clear ho2 b2 hw2)
                          | (at_builtin
                             refine wpList_append_svs _ rfl (.tmp 85) (.tmp 95) 24 rfl w.heap.size 70 i0 z0 Try.underlying24 hi0 hz0 hz2 hz3 hz1 _ la us rfl HW2.out (w2.heap.size + 1) (some ⟨w2.heap.size, 0, none⟩) 1 1 [⟨(num : Int) + d, A7, seg.length, c7⟩] rfl (Sh.lit0 w2 _ ⟨(num : Int) + d, A7, seg.length, c7⟩ _) (by omega) (by rw [alloc_size]; omega) ?_
                             intro v3 w3 ho3 hg3
                             have H3 : Aside _ := And.intro ho3 hg3
                             clear ho3 hg3))
                        go_roundw
                        case rel =>
                          obtain ⟨hrow, hmx, hbr, hgo, hst, _⟩ := HX.out
                          obtain ⟨ho2, hw2⟩ := H2.out
                          obtain ⟨ho3, hg3⟩ := H3.out
                          have hal := alloc_below w2 (.cells #[.int .i64 ((num : Int) + d), .slice A7 seg.length c7] 70)
                          have hwa : Below wr.heap.size wr (w2.alloc (.cells #[.int .i64 ((num : Int) + d), .slice A7 seg.length c7] 70)) := hw2.trans (hal.mono hw2.size)
                          refine ⟨f', at_ + 1 + k1 + k2 + s, num + d, acc ++ [(((num + d : Nat) : Int), seg)], us ++ [⟨(num : Int) + d, A7, seg.length, c7⟩], by omega, by omega, ?_, by go_num, by go_num, ?_, ?_, (hbr.trans (hwa.mono hbr.size)).grown hg3 (by have := hwa.size; omega) (own_ge hrow), (show Aside _ from ?_)⟩
                          · rw [List.length_append, HLA.out]; show la + 1 ≤ 24; omega
                          · rw [List.length_append, HLA.out]; exact ho3
                          · have m1 := (hmx.below hwa hbr.size)
                            have i1 : InS (w2.alloc (.cells #[.int .i64 ((num : Int) + d), .slice A7 seg.length c7] 70)) w.heap.size ⟨(num : Int) + d, A7, seg.length, c7⟩ seg := (InS.of_own ho2).below hal (by omega)
                            exact (m1.push (x := (((num + d : Nat) : Int), seg)) (by show (num : Int) + d = _; omega) i1).grown HW2.out hg3 (by rw [alloc_size]; omega)
                          · refine ⟨?_, by have := hgo.out.2; omega⟩
                            rw [← hgo.out.1, HQ.out, HS.out.1.2, show at_ + (1 + k1 + k2) = at_ + 1 + k1 + k2 by omega]
                        case measure => simp [intOf]; omega
    · obtain rfl : at_ = n := by omega
      have hst : rdGo l (f' + 1) at_ num acc = (acc, at_, 0) := by rw [rdGo, List.getElem?_eq_none (by have := HB.out.2; omega)]
      have HX : Aside _ := And.intro hrow (And.intro hmx (And.intro hbr (And.intro hgo hst)))
      clear hrow hmx hbr hgo hst
      go_wp2
      go_ret3
      obtain ⟨hrow, hmx, hbr, hgo, hst⟩ := HX.out
      have hr := hgo.out.1
      rw [hst] at hr
      obtain ⟨A5, c5, rfl, hc5, hos5⟩ := hmx.os hrow hbr.size
      rw [← hr]
      exact ⟨A5, _, c5, us, rfl, hc5, row_cap hrow, rfl, hos5, hbr, fresh_own hrow⟩
theorem rread_f (A : Option Addr) (n c : Nat) (l : List UInt8) (w : World) (B : Nat) (hbs : Bs w B A n l) (hB : B ≤ w.heap.size) (hc : n ≤ c) (hcI : (c : Int) ≤ 9223372036854775807) (hnI : (n : Int) ≤ 140737488355328) :
    Calls Try.prog 41 #[.slice A n c] w (RdRet (rdO l) w) := (rreadF_f A n c l w B hbs hB hc hcI hnI).mono RdRetF.weak
end Go.Proofs.Ytdgihhepmmkkpaa
