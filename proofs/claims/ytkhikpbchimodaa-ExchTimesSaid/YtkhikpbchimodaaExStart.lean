/-
  Exchanges: one begins.
-/
import Derived.Test.YtkhikpbchimodaaExStep
namespace Go.Proofs.Ytkhikpbchimodaa
open Go.RowKit
set_option maxRecDepth 100000
set_option maxRecDepth 100000
set_option linter.unusedVariables false
def StartPost (w : World) (tb : Nat) (v : Value) (now : Int) (qs : List Xq) (t i : Int) (l : List UInt8) (r : Int) (e : Ending) (w' : World) : Prop :=
  e = .returned (.int .i64 (startQ qs now t i l r).2) ∧ ∃ v' vs', TbAt w' tb v' now vs' ∧ vs'.map Xr.q = (startQ qs now t i l r).1 ∧ RowFrom w v v' ∧ Fx tb v.ownBlock w w'
/-- The row that has been made: one more at its end. -/
def StP (w2 : World) (tb : Nat) (v : Value) (vs : List Xr) (q : Xq) (W : World) (x : Value) : Prop :=
  ∃ A n c, W.ownsRow tb 65 6 x (vs.length + 1) (xrK.all (vs ++ [⟨q, A, n, c⟩])) ∧ x.ownBlock ≠ some tb ∧ tb < w2.heap.size ∧ Ob W w2.heap.size A n c q.l ∧ ∀ k, x.ownBlock = some k → v.ownBlock = some k ∨ w2.heap.size ≤ k
theorem StP.keep {w2 : World} {tb : Nat} {v : Value} {vs : List Xr} {q : Xq} (w w' : World) (x : Value) (hf : Fx tb none w w') (h : StP w2 tb v vs q w x) : StP w2 tb v vs q w' x := by
  obtain ⟨A, n, c, h1, h2, h3, h4, h5⟩ := h
  exact ⟨A, n, c, hf.row_ h1 h2 (own_no _), h2, h3, ⟨hf.row_ h4.1 (own_low h4.1 h3) (own_no _), h4.2⟩, h5⟩
theorem StP.slice_ {w2 : World} {tb : Nat} {v : Value} {vs : List Xr} {q : Xq} {w : World} {x : Value} (h : StP w2 tb v vs q w x) : ∃ A n c, x = .slice A n c := by
  obtain ⟨A, n, c, h1, _⟩ := h
  obtain ⟨A, c, e, _⟩ := RowK.At.of_own h1
  exact ⟨A, _, c, e⟩
theorem WS.cellT {w3 w : World} {tb : Nat} {row : Option Nat} {P : World → Value → Prop} {il ir is : Nat} {L : Nat → Bool} {g : Option Value} {T : Int} {v : Value} (h : WS w3 tb 61 (fun x => #[x, .int .i64 T]) row P il ir is L g w) (h3 : w3.heap[tb]? = some (.cells #[v, .int .i64 T] 61)) : w.cell? ⟨tb, 1, none⟩ = some (.int .i64 T) := by
  cases hl : L is with
  | false => rw [cell_of_row _ _ _ _ _ _ ((h.cell0 hl).trans h3)]; rfl
  | true =>
    obtain ⟨x, _, hx⟩ := h.cell1 hl
    rw [cell_of_row _ _ _ _ _ _ hx]; rfl
def TR (tb : Nat) (v : Value) (t i T wt un : Int) (A : Option Addr) (n c : Nat) (l : List UInt8) (w2 : World) (g : Option Value) (k : Nat) (w : World) (x : Value) : Prop :=
  match k with
  | 0 | 1 | 2 | 3 | 10 | 11 | 19 | 20 => x = .pointer (some ⟨tb, 0, none⟩)
  | 12 => x = .pointer (some ⟨tb, 1, none⟩)
  | 4 => x = v
  | 5 => x = .int .i64 t
  | 6 => x = .int .i64 i
  | 7 => x = .slice A n c
  | 8 => ∃ A' n' c', x = .slice A' n' c' ∧ w.ownsRow w2.heap.size 5 1 (.slice A' n' c') n' (U8 l)
  | 9 | 14 => x = .int .i64 wt
  | 13 => x = .int .i64 T
  | 15 => x = .int .i64 un
  | 16 => ∃ A' n' c', x = .agg #[.int .i64 t, .int .i64 i, .slice A' n' c', .int .i64 0, .int .i64 wt, .int .i64 un] ∧ w.ownsRow w2.heap.size 5 1 (.slice A' n' c') n' (U8 l)
  | 17 => ∃ vb A' n' c', x = .slice (some ⟨vb, 0, none⟩) 1 1 ∧ (w2.heap.size ≤ vb ∧ vb < w.heap.size) ∧ w.heap[vb]? = some (.cells #[.int .i64 t, .int .i64 i, .slice A' n' c', .int .i64 0, .int .i64 wt, .int .i64 un] 65) ∧ w.ownsRow w2.heap.size 5 1 (.slice A' n' c') n' (U8 l)
  | 18 => g = some x
  | _ => True
theorem TR.grow {tb : Nat} {v : Value} {t i T wt un : Int} {A : Option Addr} {n c : Nat} {l : List UInt8} {w2 : World} (htb : tb < w2.heap.size) (hrow : ∀ k, v.ownBlock = some k → k < w2.heap.size) (k : Nat) (g : Option Value) (w : World) (g' : Option Value) (w' : World) (x : Value) (hT : WT tb v.ownBlock g w g' w') (h : TR tb v t i T wt un A n c l w2 g k w x) : TR tb v t i T wt un A n c l w2 g' k w' x := by
  have hr : ∀ (u : Value) (m : Nat) (xs : List Value), w.ownsRow w2.heap.size 5 1 u m xs → w'.ownsRow w2.heap.size 5 1 u m xs := fun u m xs ho =>
    hT.1.row_ ho (own_low ho htb) (by
      cases hv : u.ownBlock with
      | none => exact .inl rfl
      | some j => exact .inr (fun e => by have := hrow j e.symm; have := (ho.lt j hv).1; omega))
  unfold TR at h ⊢
  split at h
  all_goals first
    | exact h
    | exact (hT.2 x h).1
    | (obtain ⟨A', n', c', h1, h2⟩ := h
       exact ⟨A', n', c', h1, hr _ _ _ h2⟩)
    | (obtain ⟨vb, A', n', c', h1, h2, h3, h4⟩ := h
       exact ⟨vb, A', n', c', h1, ⟨h2.1, Nat.lt_of_lt_of_le h2.2 hT.1.size⟩, (hT.1.block vb h2.2 (by omega) (fun e => by have := hrow vb e.symm; omega)).trans h3, hr _ _ _ h4⟩)
set_option maxHeartbeats 8000000 in
theorem exstart_f {tb : Nat} {v : Value} {now : Int} {vs : List Xr} {w : World} (h : TbAt w tb v now vs) (t i : Int) (A : Option Addr) (n c : Nat) (l : List UInt8) (hbs : ∀ W, Fx tb v.ownBlock w W → Bs W W.heap.size A n l) (hn : (n : Int) ≤ 1099511627776) (x r : Int) :
    Calls Try.prog 10 #[.pointer (some ⟨tb, 0, none⟩), .int .i64 t, .int .i64 i, .slice A n c, .int .i64 x, .int .i64 r] w (StartPost w tb v (tellT now x) (vs.map Xr.q) t i l r) := by
  obtain ⟨i0, hi0, hz0, hz1, hz2⟩ := info_parts info_xr
  have htell := extell_f h x
  have hT := tellT_in (x := x) h.nw
  generalize tellT now x = T at *
  have HT := Lib.hid htell
  have HV := Lib.hid (And.intro h (And.intro hbs (And.intro hT hn)))
  have hlt := h.lt
  clear h htell hbs hT hn
  go_enter Try.func10, Try.ntmps10
  go_wp2_with fail
  refine HT.out.mono ?_
  rintro e w1 ⟨rfl, ht1, hf1⟩
  have hhas := exhas_f ht1 t i
  have H1 := Lib.hid (And.intro ht1 hf1)
  have hst : startQ (vs.map Xr.q) T t i l r = if (vs.map Xr.q).any (hitX t i) then (vs.map Xr.q, 5) else if 4 ≤ (vs.map Xr.q).length then (vs.map Xr.q, 6) else (vs.map Xr.q ++ [⟨t, i, l, 0, waitT r, addT T (waitT r)⟩], 0) := rfl
  cases hb : (vs.map Xr.q).any (hitX t i) with
  | true =>
    rw [hb] at hhas
    rw [hb, if_pos rfl] at hst
    have HH := Lib.hid hhas
    have HS := Lib.hid hst
    clear hhas hst hb ht1 hf1
    go_wp2_with fail
    refine HH.out.mono ?_
    rintro e w2 ⟨rfl, b2⟩
    have H2 := Lib.hid b2
    clear b2
    go_wp2
    go_ret
    exact ⟨by rw [HS.out] <;> rfl, v, vs, H1.out.1.below H2.out, by rw [HS.out] <;> rfl, fun k hk => .inl hk, (H1.out.2.wide).trans (Fx.below H2.out)⟩
  | false =>
    rw [hb] at hhas
    rw [hb, if_neg (by decide), List.length_map] at hst
    have HH := Lib.hid hhas
    clear hhas hb ht1 hf1
    by_cases hfull : 4 ≤ vs.length
    · rw [if_pos hfull] at hst
      have HS := Lib.hid hst
      clear hst
      go_wp2_with fail
      refine HH.out.mono ?_
      rintro e w2 ⟨rfl, b2⟩
      have hlen := exlen_f (H1.out.1.below b2)
      have HL := Lib.hid hlen
      have H2 := Lib.hid b2
      have hI : (4 : Int) ≤ (vs.length : Int) := by omega
      clear b2 hlen
      go_wp2_with (go_at_call 21; refine HL.out.mono ?_; rintro e w3 ⟨rfl, hw⟩; obtain rfl := hw.symm)
      go_ret
      exact ⟨by rw [HS.out] <;> rfl, v, vs, H1.out.1.below H2.out, by rw [HS.out] <;> rfl, fun k hk => .inl hk, (H1.out.2.wide).trans (Fx.below H2.out)⟩
    · rw [if_neg hfull] at hst
      have HS := Lib.hid hst
      clear hst
      go_wp2_with fail
      refine HH.out.mono ?_
      rintro e w2 ⟨rfl, b2⟩
      have hlen := exlen_f (H1.out.1.below b2)
      have HL := Lib.hid hlen
      have hI : ¬ (4 : Int) ≤ (vs.length : Int) := by omega
      have ht2 := H1.out.1.below b2
      have hf2 : Fx tb none w w2 := H1.out.2.trans (Fx.below b2)
      have hbs2 := fun W (hW : Fx tb v.ownBlock w2 W) => clone_f A n c l W _ (HV.out.2.1 W (hf2.wide.trans hW)) (Nat.le_refl _) (by have := HV.out.2.2.2; omega)
      have hwait : 20 + (max r 0) % 11 = waitT r := rfl
      have hlat := fun W => exlater_f T (waitT r) W HV.out.2.2.1 (by have := waitT_in r; omega)
      have H2 := Lib.hid (And.intro ht2 (And.intro hf2 hbs2))
      generalize addT T (waitT r) = un at *
      obtain ⟨wt, hwt⟩ : ∃ wt, waitT r = wt := ⟨_, rfl⟩
      have hwin := waitT_in r
      rw [hwt] at hlat HS hwait hwin
      have HLT := Lib.hid (And.intro hlat (And.intro hwt hwin))
      obtain ⟨mr, hmr⟩ : ∃ mr, max r 0 = mr := ⟨_, rfl⟩
      have hmr0 : 0 ≤ mr := by omega
      rw [hmr] at hwait
      clear b2 hlen ht2 hf2 hbs2 hlat hwt hwin
      go_upto_region 7 with (go_at_call 21; refine HL.out.mono ?_; rintro e w3 ⟨rfl, hw⟩; obtain rfl := hw.symm)
      have HW := Lib.hid (And.intro H2.out.1 (And.intro H2.out.1.lt (fun k (hk : v.ownBlock = some k) => (H2.out.1.row.lt k hk).2)))
      have HCB := Lib.hid H2.out.2.2
      have HLN := Lib.hid (HV.out.2.1 w2 H2.out.2.1.wide).len
      have hPk : ∀ w w' x, Fx tb none w w' → StP w2 tb v vs ⟨t, i, l, 0, wt, un⟩ w x → StP w2 tb v vs ⟨t, i, l, 0, wt, un⟩ w' x := StP.keep
      refine wp_region_relG (WS w2 tb 61 (fun x => #[x, .int .i64 T]) v.ownBlock (StP w2 tb v vs ⟨t, i, l, 0, wt, un⟩) 4 18 21) (WT tb v.ownBlock) (TR tb v t i T wt un A n c l w2) [(0, .pointer (some ⟨tb, 0, none⟩)), (1, .int .i64 t), (2, .int .i64 i), (3, .slice A n c), (13, .int .i64 wt)] (by kernel_rfl) (by kernel_rfl) (by kernel_rfl) ?base none (WS.first w2) (TR.grow HW.out.2.1 HW.out.2.2) ?steps ?fin
      case base =>
        intro x hx
        simp only [List.mem_cons, List.not_mem_nil, or_false] at hx
        rcases hx with rfl | rfl | rfl | rfl | rfl <;> exact ⟨rfl, rfl⟩
      case steps =>
        refine steps_cons ?_ (steps_cons ?_ (steps_cons ?_ (steps_cons ?_ (steps_cons ?_ (steps_cons ?_ (steps_cons ?_ (steps_cons ?_ (steps_cons ?_ (steps_cons ?_ (steps_cons ?_ (steps_cons ?_ (steps_cons ?_ (steps_cons ?_ (steps_cons ?_ (steps_cons ?_ (steps_cons ?_ (steps_cons ?_ (steps_cons ?_ (steps_cons ?_ (steps_cons ?_ (steps_cons ?_ steps_nil)))))))))))))))))))))
        · intro a wx L g K hLi hLd hS hB hR hK
          rw [if_pos (wanted_none rfl)]
          have h0 := tmp_is (hB.1)
          go_simp
          exact hK (.pointer (some ⟨tb, 0, none⟩)) wx g (hS.quiet 0 (by decide) (by decide)) (WT.refl _ _) rfl
        · intro a wx L g K hLi hLd hS hB hR hK
          rw [if_pos (wanted_none rfl)]
          have h0 := tmp_is (hB.1)
          go_simp
          exact hK (.pointer (some ⟨tb, 0, none⟩)) wx g (hS.quiet 1 (by decide) (by decide)) (WT.refl _ _) rfl
        · intro a wx L g K hLi hLd hS hB hR hK
          rw [if_pos (wanted_none rfl)]
          have h31 := tmp_is (hR.1)
          go_simp
          exact hK (.pointer (some ⟨tb, 0, none⟩)) wx g (hS.quiet 2 (by decide) (by decide)) (WT.refl _ _) rfl
        · intro a wx L g K hLi hLd hS hB hR hK
          rw [if_pos (wanted_none rfl)]
          have h32 := tmp_is (hR.1)
          go_simp
          exact hK (.pointer (some ⟨tb, 0, none⟩)) wx g (hS.quiet 3 (by decide) (by decide)) (WT.refl _ _) rfl
        · intro a wx L g K hLi hLd hS hB hR hK
          rw [if_pos (wanted_none rfl)]
          have h33 := tmp_is (hR.1)
          have hc := ((hS.old hLi).cell (p := ⟨tb, 0, none⟩) HW.out.2.1).trans HW.out.1.cell0
          go_simp
          exact hK (v) wx g (hS.quiet 4 (by decide) (by decide)) (WT.refl _ _) rfl
        · intro a wx L g K hLi hLd hS hB hR hK
          rw [if_pos (wanted_none rfl)]
          have h1 := tmp_is (hB.2.1)
          go_simp
          exact hK (.int .i64 t) wx g (hS.quiet 5 (by decide) (by decide)) (WT.refl _ _) rfl
        · intro a wx L g K hLi hLd hS hB hR hK
          rw [if_pos (wanted_none rfl)]
          have h2 := tmp_is (hB.2.2.1)
          go_simp
          exact hK (.int .i64 i) wx g (hS.quiet 6 (by decide) (by decide)) (WT.refl _ _) rfl
        · intro a wx L g K hLi hLd hS hB hR hK
          rw [if_pos (wanted_none rfl)]
          have h3 := tmp_is (hB.2.2.2.1)
          go_simp
          exact hK (.slice A n c) wx g (hS.quiet 7 (by decide) (by decide)) (WT.refl _ _) rfl
        · intro a wx L g K hLi hLd hS hB hR hK
          rw [if_pos (wanted_none rfl)]
          have h37 := tmp_is (hR.1)
          go_simp
          refine (HCB.out wx hS.fr).mono ?_
          rintro e w' ⟨v', rfl, ho, hb⟩
          obtain ⟨A', c', rfl, _, _⟩ := Bs.of_own ho
          exact hK _ w' g (hS.call hPk HW.out.2.1 8 (by decide : 18 ≠ 8) (by decide : 21 ≠ 8) hb) (WT.below hb) ⟨A', _, c', rfl, rk_mono ho hS.fr.size⟩
        · intro a wx L g K hLi hLd hS hB hR hK
          rw [if_pos (wanted_none rfl)]
          have h13 := tmp_is (hB.2.2.2.2.1)
          go_simp
          exact hK (.int .i64 wt) wx g (hS.quiet 9 (by decide) (by decide)) (WT.refl _ _) rfl
        · intro a wx L g K hLi hLd hS hB hR hK
          rw [if_pos (wanted_none rfl)]
          have h0 := tmp_is (hB.1)
          go_simp
          exact hK (.pointer (some ⟨tb, 0, none⟩)) wx g (hS.quiet 10 (by decide) (by decide)) (WT.refl _ _) rfl
        · intro a wx L g K hLi hLd hS hB hR hK
          rw [if_pos (wanted_none rfl)]
          have h40 := tmp_is (hR.1)
          go_simp
          exact hK (.pointer (some ⟨tb, 0, none⟩)) wx g (hS.quiet 11 (by decide) (by decide)) (WT.refl _ _) rfl
        · intro a wx L g K hLi hLd hS hB hR hK
          rw [if_pos (wanted_none rfl)]
          have h41 := tmp_is (hR.1)
          go_simp
          exact hK (.pointer (some ⟨tb, 1, none⟩)) wx g (hS.quiet 12 (by decide) (by decide)) (WT.refl _ _) rfl
        · intro a wx L g K hLi hLd hS hB hR hK
          rw [if_pos (wanted_none rfl)]
          have h42 := tmp_is (hR.1)
          have hc := hS.cellT HW.out.1.blk
          go_simp
          exact hK (.int .i64 T) wx g (hS.quiet 13 (by decide) (by decide)) (WT.refl _ _) rfl
        · intro a wx L g K hLi hLd hS hB hR hK
          rw [if_pos (wanted_none rfl)]
          have h13 := tmp_is (hB.2.2.2.2.1)
          go_simp
          exact hK (.int .i64 wt) wx g (hS.quiet 14 (by decide) (by decide)) (WT.refl _ _) rfl
        · intro a wx L g K hLi hLd hS hB hR hK
          rw [if_pos (wanted_none rfl)]
          have h43 := tmp_is (hR.1)
          have h44 := tmp_is (hR.2.1)
          go_simp
          refine (HLT.out.1 wx).mono ?_
          rintro e w' ⟨rfl, hw⟩
          obtain rfl := hw.symm
          exact hK _ _ g (hS.quiet 15 (by decide) (by decide)) (WT.refl _ _) rfl
        · intro a wx L g K hLi hLd hS hB hR hK
          rw [if_pos (wanted_none rfl)]
          have h35 := tmp_is (hR.1)
          have h36 := tmp_is (hR.2.1)
          have h39 := tmp_is (hR.2.2.2.1)
          have h45 := tmp_is (hR.2.2.2.2.1)
          obtain ⟨A', n', c', hv, ho⟩ := hR.2.2.1
          have h38 := tmp_is hv
          have hzx := zero_xr
          go_simp
          exact hK (.agg #[.int .i64 t, .int .i64 i, .slice A' n' c', .int .i64 0, .int .i64 wt, .int .i64 un]) wx g (hS.quiet 16 (by decide) (by decide)) (WT.refl _ _) ⟨A', n', c', rfl, ho⟩
        · intro a wx L g K hLi hLd hS hB hR hK
          rw [if_pos (wanted_none rfl)]
          obtain ⟨A', n', c', hv, ho⟩ := hR.1
          have h46 := tmp_is hv
          go_simp
          exact hK (.slice (some ⟨wx.heap.size, 0, none⟩) 1 1) _ g (hS.call hPk HW.out.2.1 17 (by decide : 18 ≠ 17) (by decide : 21 ≠ 17) (alloc_below wx _)) (WT.below (alloc_below wx _)) ⟨wx.heap.size, A', n', c', rfl, ⟨hS.fr.size, by rw [alloc_size]; omega⟩, heap_alloc_new wx _, rk_below ho (alloc_below wx _)⟩
        · intro a wx L g K hLi hLd hS hB hR hK
          rw [if_pos (wanted_none rfl)]
          obtain ⟨vb, A', n', c', hv47, hvl, hvb, ho⟩ := hR.2.1
          have hbe := (hS.early hLi).2
          have hrw := rk_below HW.out.1.row hbe
          have hvals : ∀ j u, (xrK.vals ⟨⟨t, i, l, 0, wt, un⟩, A', n', c'⟩)[j]? = some u → wx.cell? ((⟨vb, 0, none⟩ : Addr).add j) = some u := fun j u hu => by rw [rk_add, cell_of_row _ _ _ _ _ _ hvb, Nat.zero_add, ← Array.getElem?_toList]; exact hu
          refine wp_append_from wx (.tmp 34) (.tmp 47) 59 rfl tb 65 i0 _ 6 64 Try.underlying59 hi0 hz0 hz1 hz2 rfl (by decide) v vs.length (xrK.all vs) hR.1 hrw ⟨vb, 0, none⟩ 1 1 (xrK.vals ⟨⟨t, i, l, 0, wt, un⟩, A', n', c'⟩) hv47 rfl hvals (xrK.one _) (by have := HW.out.1.few; unfold maxLen; omega) (by have := HW.out.1.few; omega) (by have := hbe.size; have := HW.out.2.1; omega) ?_
          intro v' w' ho2 hg hfrom
          have hbt := (hg.block tb (Nat.lt_of_lt_of_le HW.out.2.1 hbe.size) (fun e => HW.out.1.row_ne e.symm)).trans ((hbe.block tb HW.out.2.1).trans HW.out.1.blk)
          have hob : Ob w' w2.heap.size A' n' c' l := ⟨ho.kept hg (rk_apart ho hrw (by decide)), by have e1 := ho.1; rw [U8_length, HLN.out] at e1; have := HV.out.2.2.2; omega⟩
          have hrow2 : w'.ownsRow tb 65 6 v' (vs.length + 1) (xrK.all (vs ++ [⟨⟨t, i, l, 0, wt, un⟩, A', n', c'⟩])) := by rw [xrK.all_append]; exact ho2
          have hz := hS.row_ HW.out.2.1 HW.out.1.row_ne hLi (hLd 4 (by decide)) (by decide : 21 ≠ 18) (x := v') hg ⟨A', n', c', hrow2, rk_ne hrow2 hbt (by decide), HW.out.2.1, hob, fun k hk => (hfrom k hk).imp id (fun h => Nat.le_trans hbe.size h)⟩
          exact hK v' w' (some v') hz.1 hz.2 rfl
        · intro a wx L g K hLi hLd hS hB hR hK
          rw [if_pos (wanted_none rfl)]
          have h30 := tmp_is (hR.1)
          go_simp
          exact hK (.pointer (some ⟨tb, 0, none⟩)) wx g (hS.quiet 19 (by decide) (by decide)) (WT.refl _ _) rfl
        · intro a wx L g K hLi hLd hS hB hR hK
          rw [if_pos (wanted_none rfl)]
          have h49 := tmp_is (hR.1)
          go_simp
          exact hK (.pointer (some ⟨tb, 0, none⟩)) wx g (hS.quiet 20 (by decide) (by decide)) (WT.refl _ _) rfl
        · intro a wx L g K hLi hLd hS hB hR hK
          rw [if_pos (wanted_none rfl)]
          have h50 := tmp_is (hR.1)
          have hgx : g = some (a.eval (.tmp 48)) := hR.2.1
          obtain ⟨x9, hx⟩ : ∃ x, a.eval (.tmp 48) = x := ⟨_, rfl⟩
          rw [hx] at hgx
          have h48 := tmp_is hx
          have hst := hS.store hPk HW.out.1.blk (k := 0) (fun _ => rfl) (show L 21 = false from hLi) (hLd 18 (by decide)) (by decide : 18 ≠ 21) hgx
          have hc := cell_of_row _ _ 0 _ _ _ ((hS.cell0 hLi).trans HW.out.1.blk)
          simp only [List.getElem?_toArray, List.getElem?_cons_zero] at hc
          have hf : wx.frozen? ⟨tb, 0, none⟩ = false := by simp [World.frozen?, (hS.cell0 hLi).trans HW.out.1.blk]
          obtain ⟨A1, n1, c1, rfl⟩ := StP.slice_ (hS.made x9 hgx)
          go_simp
          exact hK undef _ g hst.1 hst.2 trivial
      case fin =>
        intro a w3 L g hS hall ha hR
        obtain ⟨v3, hgv, hc3⟩ := hS.cell1 (hall 21 (by decide))
        obtain ⟨A3, n3, c3, hrow3, hne3, _, hob3, hfrom3⟩ := hS.made v3 hgv
        have hf3 := hS.fr
        clear hR hS hgv hall
        simp only [pin] at ha
        rw [ha]
        simp only [List.setIfInBounds_toArray, List.set_cons_zero, List.set_cons_succ]
        clear ha
        have hgood := HW.out.1.good.start HV.out.2.2.1.1 t i l r
        rw [HS.out] at hgood
        have H3 := Lib.hid (And.intro hc3 (And.intro hrow3 (And.intro hob3 (And.intro hf3 (And.intro hfrom3 hgood)))))
        clear hc3 hrow3 hne3 hob3 hf3 hfrom3 hgood
        go_wp2
        go_ret
        refine ⟨by rw [HS.out] <;> rfl, v3, vs ++ [⟨⟨t, i, l, 0, wt, un⟩, A3, n3, c3⟩], ⟨H3.out.1, by rw [List.length_append]; exact H3.out.2.1, fun s hs => ?_, by rw [List.map_append]; exact H3.out.2.2.2.2.2, HV.out.2.2.1⟩, by rw [HS.out, List.map_append] <;> rfl, fun k hk => (H3.out.2.2.2.2.1 k hk).imp id (fun h => Nat.le_trans H2.out.2.1.size h), H2.out.2.1.wide.trans H3.out.2.2.2.1⟩
        rcases List.mem_append.1 hs with hs | hs
        · exact (HW.out.1.each s hs).fx H3.out.2.2.2.1 HW.out.1.blk HW.out.1.row
        · obtain rfl := List.mem_singleton.1 hs
          exact H3.out.2.2.1.mono (Nat.le_of_lt HW.out.2.1)
end Go.Proofs.Ytkhikpbchimodaa
