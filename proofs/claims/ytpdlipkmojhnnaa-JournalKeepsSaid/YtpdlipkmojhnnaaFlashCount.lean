/-
  A flash: its checks, its cut, what is counted.
-/
import Derived.Test.YtpdlipkmojhnnaaFlash
namespace Go.Proofs.Ytpdlipkmojhnnaa
open Go.RowKit
set_option maxRecDepth 100000
theorem cut_f (w : World) (g bb wb : Nat) (F : Fl) (n : Int) (h : FlashAt w g bb wb F) (h1 : -9223372036854775808 ≤ n) (h2 : n ≤ 9223372036854775807) : Calls Try.prog 8 #[.pointer (some ⟨g, 0, none⟩), .int .i64 n] w fun e w' => e = .returned (.tuple #[]) ∧ FlashAt w' g bb wb { F with cut := decide (0 ≤ n), rest := n } ∧ Only w.heap.size g w w' := by
  have c4 := h.c4
  have c5 := h.c5
  have f4 := h.frozen 4 (by decide)
  have f5 := h.frozen 5 (by decide)
  have hA := h.field 4 (by decide) (.bool (decide (0 ≤ n))) { F with cut := decide (0 ≤ n) } rfl rfl ⟨h.ok.sec, h.ok.len, h.ok.wear, h.ok.turned, h.ok.each, h.ok.int⟩ (fun _ => rfl) (fun _ => rfl) (fun e => absurd rfl e) (fun _ => rfl) (fun _ => rfl) (.inr (.inl ⟨rfl, rfl⟩))
  have hB := hA.field 5 (by decide) (.int .i64 n) { F with cut := decide (0 ≤ n), rest := n } rfl rfl ⟨h.ok.sec, h.ok.len, h.ok.wear, h.ok.turned, h.ok.each, ⟨h1, h2⟩⟩ (fun _ => rfl) (fun _ => rfl) (fun _ => rfl) (fun e => absurd rfl e) (fun _ => rfl) (.inr (.inr (.inl ⟨rfl, rfl⟩)))
  have hO := ((Only.refl w.heap.size g w).setCell 4 (.bool (decide (0 ≤ n)))).setCell 5 (.int .i64 n)
  have HB := Lib.hid hB
  have HO := Lib.hid hO
  clear h hA hB hO
  go_enter Try.func8, Try.ntmps8
  go_wp2
  go_end0
  exact ⟨rfl, HB.out, HO.out⟩
theorem restore_f (w : World) (g bb wb : Nat) (F : Fl) (h : FlashAt w g bb wb F) : Calls Try.prog 15 #[.pointer (some ⟨g, 0, none⟩)] w fun e w' => e = .returned (.tuple #[]) ∧ FlashAt w' g bb wb { F with cut := false, down := false } ∧ Only w.heap.size g w w' := by
  have c4 := h.c4
  have c6 := h.c6
  have f4 := h.frozen 4 (by decide)
  have f6 := h.frozen 6 (by decide)
  have hA := h.field 4 (by decide) (.bool false) { F with cut := false } rfl rfl ⟨h.ok.sec, h.ok.len, h.ok.wear, h.ok.turned, h.ok.each, h.ok.int⟩ (fun _ => rfl) (fun _ => rfl) (fun e => absurd rfl e) (fun _ => rfl) (fun _ => rfl) (.inr (.inl ⟨rfl, rfl⟩))
  have hB := hA.field 6 (by decide) (.bool false) { F with cut := false, down := false } rfl rfl ⟨h.ok.sec, h.ok.len, h.ok.wear, h.ok.turned, h.ok.each, h.ok.int⟩ (fun _ => rfl) (fun _ => rfl) (fun _ => rfl) (fun _ => rfl) (fun e => absurd rfl e) (.inr (.inr (.inr ⟨rfl, rfl⟩)))
  have hO := ((Only.refl w.heap.size g w).setCell 4 (.bool false)).setCell 6 (.bool false)
  have HB := Lib.hid hB
  have HO := Lib.hid hO
  clear h hA hB hO
  go_enter Try.func15, Try.ntmps15
  go_wp2
  go_end0
  exact ⟨rfl, HB.out, HO.out⟩
/-- Which error a call for n bytes at an address has, ahead of all. -/
def ck (F : Fl) (p n : Int) : Int := if F.down = true then 30 else if p < 0 ∨ n < 0 ∨ (F.dat.length : Int) - p < n then 1 else 0
theorem check_f (w : World) (g bb wb : Nat) (F : Fl) (p n : Int) (h : FlashAt w g bb wb F) (h1 : -9223372036854775808 ≤ p) (h2 : p ≤ 9223372036854775807) :
    Calls Try.prog 65 #[.pointer (some ⟨g, 0, none⟩), .int .i64 p, .int .i64 n] w fun e w' => e = .returned (.int .i64 (ck F p n)) ∧ w' = w := by
  have c6 := h.c6
  have c0 := h.c0
  have hs := h.ok.small
  obtain ⟨D, hD⟩ : ∃ D, F.down = D := ⟨_, rfl⟩
  obtain ⟨L, hL⟩ : ∃ L, F.dat.length = L := ⟨_, rfl⟩
  have hck : ck F p n = if D = true then 30 else if p < 0 ∨ n < 0 ∨ (L : Int) - p < n then 1 else 0 := by unfold ck; rw [hD, hL]
  rw [hck]
  rw [hD] at c6
  rw [hL] at c0 hs
  clear h hck hD hL
  cases D with
  | true =>
    go_enter Try.func65, Try.ntmps65
    go_wp2
    go_ret
    exact ⟨rfl, rfl⟩
  | false =>
    by_cases hp : p < 0
    · go_enter Try.func65, Try.ntmps65
      go_wp2
      go_ret
      exact ⟨rfl, rfl⟩
    · by_cases hn : n < 0
      · go_enter Try.func65, Try.ntmps65
        go_wp2
        go_ret
        exact ⟨rfl, rfl⟩
      · have hw : IntKind.i64.wrap ((L : Int) - p) = (L : Int) - p := by rw [IntKind.wrap_i64]; omega
        by_cases hb : (L : Int) - p < n
        · go_enter Try.func65, Try.ntmps65
          go_wp2
          go_ret
          exact ⟨rfl, rfl⟩
        · go_enter Try.func65, Try.ntmps65
          go_wp2
          go_ret
          exact ⟨rfl, rfl⟩
/-- Is there such a sector? -/
def hasS (F : Fl) (s : Int) : Bool := decide (0 ≤ s ∧ s < (F.wear.length : Int))
theorem has_f (w : World) (g bb wb : Nat) (F : Fl) (s : Int) (h : FlashAt w g bb wb F) :
    Calls Try.prog 73 #[.pointer (some ⟨g, 0, none⟩), .int .i64 s] w fun e w' => e = .returned (.bool (hasS F s)) ∧ w' = w := by
  have c2 := h.c2
  obtain ⟨b, hb⟩ : ∃ b, hasS F s = b := ⟨_, rfl⟩
  have hb' := hb
  unfold hasS at hb'
  rw [hb]
  clear hb
  by_cases hs : 0 ≤ s
  · by_cases hl : s < (F.wear.length : Int)
    · rw [decide_eq_true (by omega)] at hb'
      subst hb'
      go_enter Try.func73, Try.ntmps73
      go_wp2
      go_ret
      exact ⟨rfl, rfl⟩
    · rw [decide_eq_false (by omega)] at hb'
      subst hb'
      go_enter Try.func73, Try.ntmps73
      go_wp2
      go_ret
      exact ⟨rfl, rfl⟩
  · rw [decide_eq_false (by omega)] at hb'
    subst hb'
    go_enter Try.func73, Try.ntmps73
    go_wp2
    go_ret
    exact ⟨rfl, rfl⟩
/-- The wear of a sector. -/
def wearS (F : Fl) (s : Int) : Nat := if hasS F s = true then F.wear.getD s.toNat 0 else 0
/-- So many of n bytes the power lasts for. -/
def lasts (F : Fl) (n : Nat) : Nat := if F.cut = true ∧ F.rest < (n : Int) then F.rest.toNat else n
def gone (F : Fl) (n : Nat) : Bool := decide (F.cut = true ∧ F.rest < (n : Int))
/-- The flash that has counted n bytes. -/
def turnedBy (F : Fl) (n : Nat) : Fl := { F with rest := if F.cut = true then F.rest - (lasts F n : Int) else F.rest, down := F.down || gone F n, turned := min (F.turned + lasts F n) 1073741824 }
theorem turnedBy_ok {F : Fl} (h : FlOk F) (n : Nat) (hr : F.cut = true → 0 ≤ F.rest) : FlOk (turnedBy F n) := by
  refine ⟨h.sec, h.len, h.wear, Nat.min_le_right _ _, h.each, ?_⟩
  show _ ≤ (if F.cut = true then F.rest - (lasts F n : Int) else F.rest) ∧ (if F.cut = true then F.rest - (lasts F n : Int) else F.rest) ≤ _
  have := h.int
  unfold lasts
  split
  · rename_i hc
    have := hr hc
    split
    · omega
    · rename_i h2
      have : ¬ F.rest < (n : Int) := fun e => h2 ⟨hc, e⟩
      omega
  · exact this
/-- The three fields of the count written. -/
theorem FlashAt.three {w : World} {g bb wb : Nat} {F : Fl} (h : FlashAt w g bb wb F) (W : World) (G : Fl) (hG : FlOk G) (hd : G.dat = F.dat) (hw : G.wear = F.wear) (hs : G.sec = F.sec) (hc : G.cut = F.cut) (hO : Only w.heap.size g w W)
    (hfr : ∀ j, j < 7 → W.frozen? ⟨g, j, none⟩ = false) (h0 : W.cell? ⟨g, 0, none⟩ = w.cell? ⟨g, 0, none⟩) (h1 : W.cell? ⟨g, 1, none⟩ = w.cell? ⟨g, 1, none⟩) (h2 : W.cell? ⟨g, 2, none⟩ = w.cell? ⟨g, 2, none⟩) (h4 : W.cell? ⟨g, 4, none⟩ = w.cell? ⟨g, 4, none⟩)
    (h3 : W.cell? ⟨g, 3, none⟩ = some (.int .i64 (G.turned : Int))) (h5 : W.cell? ⟨g, 5, none⟩ = some (.int .i64 G.rest)) (h6 : W.cell? ⟨g, 6, none⟩ = some (.bool G.down)) : FlashAt W g bb wb G := by
  refine ⟨by rw [h0, hd]; exact h.c0, by rw [h1, hs]; exact h.c1, by rw [h2, hw]; exact h.c2, h3, by rw [h4, hc]; exact h.c4, h5, h6, fun j hj => ?_, by rw [hd]; exact hO.range h.dat h.lt.2.1 (Ne.symm h.ne.1), by rw [hd]; exact hO.there h.datw h.lt.2.1 (Ne.symm h.ne.1), by rw [hw]; exact hO.range h.wr h.lt.2.2 (Ne.symm h.ne.2.1), by rw [hw]; exact hO.there h.wrw h.lt.2.2 (Ne.symm h.ne.2.1), h.ne, ⟨by have := h.lt.1; have := hO.size; omega, by have := h.lt.2.1; have := hO.size; omega, by have := h.lt.2.2; have := hO.size; omega⟩, hG⟩
  rw [Nat.zero_add]
  refine ⟨?_, hfr j hj⟩
  rcases (by omega : j = 0 ∨ j = 1 ∨ j = 2 ∨ j = 3 ∨ j = 4 ∨ j = 5 ∨ j = 6) with rfl | rfl | rfl | rfl | rfl | rfl | rfl
  · rw [h0, h.c0]; rfl
  · rw [h1, h.c1]; rfl
  · rw [h2, h.c2]; rfl
  · rw [h3]; rfl
  · rw [h4, h.c4]; rfl
  · rw [h5]; rfl
  · rw [h6]; rfl
theorem cell_set (w : World) (g j : Nat) (v : Value) (i : Nat) (h : (w.cell? ⟨g, j, none⟩).isSome = true) : (w.setCell ⟨g, j, none⟩ v).cell? ⟨g, i, none⟩ = if i = j then some v else w.cell? ⟨g, i, none⟩ := by
  by_cases e : i = j
  · subst e
    obtain ⟨u, hu⟩ := Option.isSome_iff_exists.1 h
    rw [if_pos rfl, World.cell?_setCell_same _ _ _ hu]
  · rw [if_neg e, World.cell?_setCell_other _ _ _ _ (fun h => by injection h; omega)]
theorem min_turned (t l : Nat) : min ((t : Int) + (l : Int)) 1073741824 = ((min (t + l) 1073741824 : Nat) : Int) := by omega
theorem set_some (w : World) (g j i : Nat) (v : Value) (h : (w.cell? ⟨g, j, none⟩).isSome = true) (hi : (w.cell? ⟨g, i, none⟩).isSome = true) : ((w.setCell ⟨g, j, none⟩ v).cell? ⟨g, i, none⟩).isSome = true := by
  rw [cell_set w g j v i h]
  split
  · rfl
  · exact hi
theorem turn_f (w : World) (g bb wb : Nat) (F : Fl) (n : Nat) (h : FlashAt w g bb wb F) (hn : n ≤ 262144) (hr : F.cut = true → 0 ≤ F.rest) :
    Calls Try.prog 74 #[.pointer (some ⟨g, 0, none⟩), .int .i64 (n : Int)] w fun e w' => e = .returned (.tuple #[.int .i64 (lasts F n : Int), .int .i64 (if gone F n = true then 30 else 0)]) ∧ FlashAt w' g bb wb (turnedBy F n) ∧ Only w.heap.size g w w' := by
  have c3 := h.c3
  have c4 := h.c4
  have c5 := h.c5
  have f3 := h.frozen 3 (by decide)
  have f5 := h.frozen 5 (by decide)
  have f6 := h.frozen 6 (by decide)
  have s3 : (w.cell? ⟨g, 3, none⟩).isSome = true := by rw [c3]; rfl
  have s5 : (w.cell? ⟨g, 5, none⟩).isSome = true := by rw [c5]; rfl
  have c6 := h.c6
  have s6 : (w.cell? ⟨g, 6, none⟩).isSome = true := by rw [h.c6]; rfl
  have ht := h.ok.turned
  have hint := h.ok.int
  have hok := turnedBy_ok h.ok n hr
  have hnW : IntKind.i64.wrap (n : Int) = (n : Int) := by rw [IntKind.wrap_i64]; omega
  by_cases hc : F.cut = true
  · have hr0 := hr hc
    rw [hc] at c4
    by_cases hl : F.rest < (n : Int)
    · obtain ⟨q, hq⟩ : ∃ q : Nat, F.rest = (q : Int) := ⟨F.rest.toNat, by omega⟩
      have hlast : lasts F n = q := by unfold lasts; rw [if_pos ⟨hc, hl⟩, hq]; rfl
      have hgone : gone F n = true := decide_eq_true ⟨hc, hl⟩
      have hG : (turnedBy F n).turned = min (F.turned + q) 1073741824 ∧ (turnedBy F n).rest = 0 ∧ (turnedBy F n).down = true := by
        unfold turnedBy; rw [hlast, hgone, if_pos hc, hq]; refine ⟨rfl, by simp, by simp⟩
      rw [hlast, hgone]
      rw [hq] at c5 hl
      have hql : q < n := by omega
      have hm := min_turned F.turned q
      have HF : Hid (FlashAt (((w.setCell ⟨g, 6, none⟩ (.bool true)).setCell ⟨g, 5, none⟩ (.int .i64 0)).setCell ⟨g, 3, none⟩ (.int .i64 ((min (F.turned + q) 1073741824 : Nat) : Int))) g bb wb (turnedBy F n)) := by
        have e6 := fun i => cell_set w g 6 (.bool true) i s6
        have t5 := set_some w g 6 5 (.bool true) s6 s5
        have t3 := set_some w g 6 3 (.bool true) s6 s3
        have e5 := fun i => cell_set (w.setCell ⟨g, 6, none⟩ (.bool true)) g 5 (.int .i64 0) i t5
        have u3 := set_some (w.setCell ⟨g, 6, none⟩ (.bool true)) g 5 3 (.int .i64 0) t5 t3
        have e3 := fun i => cell_set ((w.setCell ⟨g, 6, none⟩ (.bool true)).setCell ⟨g, 5, none⟩ (.int .i64 0)) g 3 (.int .i64 ((min (F.turned + q) 1073741824 : Nat) : Int)) i u3
        refine h.three _ _ hok rfl rfl rfl rfl ((((Only.refl _ g w).setCell 6 _).setCell 5 _).setCell 3 _) (fun j hj => ?_) ?_ ?_ ?_ ?_ ?_ ?_ ?_
        · rw [World.frozen?_setCell, World.frozen?_setCell, World.frozen?_setCell]; exact h.frozen j hj
        · rw [e3, if_neg (by decide), e5, if_neg (by decide), e6, if_neg (by decide)]
        · rw [e3, if_neg (by decide), e5, if_neg (by decide), e6, if_neg (by decide)]
        · rw [e3, if_neg (by decide), e5, if_neg (by decide), e6, if_neg (by decide)]
        · rw [e3, if_neg (by decide), e5, if_neg (by decide), e6, if_neg (by decide)]
        · rw [e3, if_pos rfl, hG.1]
        · rw [e3, if_neg (by decide), e5, if_pos rfl, hG.2.1]
        · rw [e3, if_neg (by decide), e5, if_neg (by decide), e6, if_pos rfl, hG.2.2]
      have HO := Lib.hid ((((Only.refl w.heap.size g w).setCell 6 (.bool true)).setCell 5 (.int .i64 0)).setCell 3 (.int .i64 ((min (F.turned + q) 1073741824 : Nat) : Int)))
      clear h hok hint hr0 hr hG
      go_enter Try.func74, Try.ntmps74
      go_wp2
      go_ret2
      exact ⟨rfl, HF.out, HO.out⟩
    · have hlast : lasts F n = n := by unfold lasts; rw [if_neg (fun e => hl e.2)]
      have hgone : gone F n = false := decide_eq_false (fun e => hl e.2)
      have hG : (turnedBy F n).turned = min (F.turned + n) 1073741824 ∧ (turnedBy F n).rest = F.rest - (n : Int) ∧ (turnedBy F n).down = F.down := by
        unfold turnedBy; rw [hlast, hgone, if_pos hc]; refine ⟨rfl, rfl, by simp⟩
      rw [hlast, hgone]
      have hm := min_turned F.turned n
      have hW : IntKind.i64.wrap (F.rest - (n : Int)) = F.rest - (n : Int) := by rw [IntKind.wrap_i64]; omega
      have HF : Hid (FlashAt ((w.setCell ⟨g, 5, none⟩ (.int .i64 (F.rest - (n : Int)))).setCell ⟨g, 3, none⟩ (.int .i64 ((min (F.turned + n) 1073741824 : Nat) : Int))) g bb wb (turnedBy F n)) := by
        have e5 := fun i => cell_set w g 5 (.int .i64 (F.rest - (n : Int))) i s5
        have u3 := set_some w g 5 3 (.int .i64 (F.rest - (n : Int))) s5 s3
        have e3 := fun i => cell_set (w.setCell ⟨g, 5, none⟩ (.int .i64 (F.rest - (n : Int)))) g 3 (.int .i64 ((min (F.turned + n) 1073741824 : Nat) : Int)) i u3
        refine h.three _ _ hok rfl rfl rfl rfl (((Only.refl _ g w).setCell 5 _).setCell 3 _) (fun j hj => ?_) ?_ ?_ ?_ ?_ ?_ ?_ ?_
        · rw [World.frozen?_setCell, World.frozen?_setCell]; exact h.frozen j hj
        · rw [e3, if_neg (by decide), e5, if_neg (by decide)]
        · rw [e3, if_neg (by decide), e5, if_neg (by decide)]
        · rw [e3, if_neg (by decide), e5, if_neg (by decide)]
        · rw [e3, if_neg (by decide), e5, if_neg (by decide)]
        · rw [e3, if_pos rfl, hG.1]
        · rw [e3, if_neg (by decide), e5, if_pos rfl, hG.2.1]
        · rw [e3, if_neg (by decide), e5, if_neg (by decide), hG.2.2]; exact c6
      have HO := Lib.hid (((Only.refl w.heap.size g w).setCell 5 (.int .i64 (F.rest - (n : Int)))).setCell 3 (.int .i64 ((min (F.turned + n) 1073741824 : Nat) : Int)))
      clear h hok hint hr0 hr hG
      go_enter Try.func74, Try.ntmps74
      go_wp2
      go_ret2
      exact ⟨rfl, HF.out, HO.out⟩
  · have hcf : F.cut = false := by simpa using hc
    rw [hcf] at c4
    have hlast : lasts F n = n := by unfold lasts; rw [if_neg (fun e => hc e.1)]
    have hgone : gone F n = false := decide_eq_false (fun e => hc e.1)
    have hG : (turnedBy F n).turned = min (F.turned + n) 1073741824 ∧ (turnedBy F n).rest = F.rest ∧ (turnedBy F n).down = F.down := by
      unfold turnedBy; rw [hlast, hgone, if_neg hc]; refine ⟨rfl, rfl, by simp⟩
    rw [hlast, hgone]
    have hm := min_turned F.turned n
    have HF : Hid (FlashAt (w.setCell ⟨g, 3, none⟩ (.int .i64 ((min (F.turned + n) 1073741824 : Nat) : Int))) g bb wb (turnedBy F n)) := by
      have e3 := fun i => cell_set w g 3 (.int .i64 ((min (F.turned + n) 1073741824 : Nat) : Int)) i s3
      refine h.three _ _ hok rfl rfl rfl rfl ((Only.refl _ g w).setCell 3 _) (fun j hj => ?_) ?_ ?_ ?_ ?_ ?_ ?_ ?_
      · rw [World.frozen?_setCell]; exact h.frozen j hj
      · rw [e3, if_neg (by decide)]
      · rw [e3, if_neg (by decide)]
      · rw [e3, if_neg (by decide)]
      · rw [e3, if_neg (by decide)]
      · rw [e3, if_pos rfl, hG.1]
      · rw [e3, if_neg (by decide), hG.2.1]; exact c5
      · rw [e3, if_neg (by decide), hG.2.2]; exact c6
    have HO := Lib.hid ((Only.refl w.heap.size g w).setCell 3 (.int .i64 ((min (F.turned + n) 1073741824 : Nat) : Int)))
    clear h hok hint hr hG hc
    go_enter Try.func74, Try.ntmps74
    go_wp2
    go_ret2
    exact ⟨rfl, HF.out, HO.out⟩
end Go.Proofs.Ytpdlipkmojhnnaa
