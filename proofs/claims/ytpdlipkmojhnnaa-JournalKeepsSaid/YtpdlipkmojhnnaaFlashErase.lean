/-
  A flash: a sector erased.
-/
import Derived.Deep.RegionHeld3
import Derived.Test.YtpdlipkmojhnnaaFlashProg
namespace Go.Proofs.Ytpdlipkmojhnnaa
open Go.RowKit
set_option maxRecDepth 100000
/-- A sector's wear counted. -/
def worn (F : Fl) (s : Nat) : Fl := { F with wear := F.wear.set s (min (F.wear.getD s 0 + 1) 1073741824) }
/-- The flash that an erase of sector s leaves. -/
def eraseBy (F : Fl) (s : Nat) : Fl := { turnedBy (worn F s) F.sec with dat := setAll F.dat (s * F.sec) (lasts F F.sec) }
theorem worn_ok {F : Fl} (h : FlOk F) (s : Nat) : FlOk (worn F s) := by
  refine ⟨h.sec, by show F.dat.length = (F.wear.set s _).length * F.sec; rw [List.length_set]; exact h.len, by show 1 ≤ (F.wear.set s _).length ∧ (F.wear.set s _).length ≤ 64; rw [List.length_set]; exact h.wear, h.turned, fun j n hn => ?_, h.int⟩
  have hn' : (F.wear.set s (min (F.wear.getD s 0 + 1) 1073741824))[j]? = some n := hn
  rw [List.getElem?_set] at hn'
  split at hn'
  · split at hn'
    · obtain rfl := Option.some.inj hn'; exact Nat.min_le_right _ _
    · cases hn'
  · exact h.each j n hn'
theorem FlashAt.worn {w : World} {g bb wb : Nat} {F : Fl} (h : FlashAt w g bb wb F) (s : Nat) (hs : s < F.wear.length) : FlashAt (w.setCell ⟨wb, s, none⟩ (.int .i64 ((min (F.wear.getD s 0 + 1) 1073741824 : Nat) : Int))) g bb wb (worn F s) := by
  have hO : Only w.heap.size wb w (w.setCell ⟨wb, s, none⟩ (.int .i64 ((min (F.wear.getD s 0 + 1) 1073741824 : Nat) : Int))) := (Only.refl _ wb w).setCell s _
  have cg : ∀ j, (w.setCell ⟨wb, s, none⟩ (.int .i64 ((min (F.wear.getD s 0 + 1) 1073741824 : Nat) : Int))).cell? ⟨g, j, none⟩ = w.cell? ⟨g, j, none⟩ := fun j => hO.cell (p := ⟨g, j, none⟩) h.lt.1 h.ne.2.1
  have hw := range_set h.wr (by rw [Nats_length]; exact h.wrw) s (by rw [Nats_length]; exact hs) (.int .i64 ((min (F.wear.getD s 0 + 1) 1073741824 : Nat) : Int))
  rw [Nat.zero_add, ← Nats_set] at hw
  exact ⟨(cg _).trans h.c0, (cg _).trans h.c1, by rw [cg]; show _ = some (Value.slice _ (F.wear.set s _).length (F.wear.set s _).length); rw [List.length_set]; exact h.c2, (cg _).trans h.c3, (cg _).trans h.c4, (cg _).trans h.c5, (cg _).trans h.c6,
    hO.there h.frz h.lt.1 h.ne.2.1, hO.range h.dat h.lt.2.1 h.ne.2.2, hO.there h.datw h.lt.2.1 h.ne.2.2, hw, by show World.there _ wb 0 (F.wear.set s _).length; rw [List.length_set]; exact there_set h.wrw _ _, h.ne,
    by simpa [World.setCell] using h.lt, worn_ok h.ok s⟩
set_option maxHeartbeats 400000 in
theorem erase_down (w : World) (g bb wb : Nat) (F : Fl) (s : Int) (h : FlashAt w g bb wb F) (hd : F.down = true) :
    Calls Try.prog 66 #[.pointer (some ⟨g, 0, none⟩), .int .i64 s] w fun e w' => e = .returned (.int .i64 30) ∧ w' = w := by
  have c6 := h.c6
  rw [hd] at c6
  go_enter Try.func66, Try.ntmps66
  go_wp2
  go_ret
  exact ⟨rfl, rfl⟩
set_option maxHeartbeats 400000 in
theorem erase_none (w : World) (g bb wb : Nat) (F : Fl) (s : Int) (h : FlashAt w g bb wb F) (hd : F.down = false) (hs : hasS F s = false) :
    Calls Try.prog 66 #[.pointer (some ⟨g, 0, none⟩), .int .i64 s] w fun e w' => e = .returned (.int .i64 1) ∧ w' = w := by
  have c6 := h.c6
  have hcall := has_f w g bb wb F s h
  rw [hd] at c6
  rw [hs] at hcall
  go_enter Try.func66, Try.ntmps66
  go_wp2_with (go_at_call 73; refine hcall.mono ?_; rintro e w' ⟨rfl, hw⟩; obtain rfl := hw.symm)
  go_ret
  exact ⟨rfl, rfl⟩
set_option maxRecDepth 100000 in
set_option maxHeartbeats 800000 in
theorem erase_yes (w : World) (g bb wb : Nat) (F : Fl) (s : Nat) (h : FlashAt w g bb wb F) (hd : F.down = false) (hs : s < F.wear.length) (hr : F.cut = true → 0 ≤ F.rest) :
    Calls Try.prog 66 #[.pointer (some ⟨g, 0, none⟩), .int .i64 (s : Int)] w fun e w' => e = .returned (.int .i64 (if gone F F.sec = true then 30 else 0)) ∧ FlashAt w' g bb wb (eraseBy F s) ∧ But3 w.heap.size g bb wb w w' := by
  have c6 := h.c6
  have c2 := h.c2
  have c1 := h.c1
  have hsec := h.ok.sec
  have hlen := h.ok.len
  have hsm := h.ok.small
  have hcall := has_f w g bb wb F s h
  rw [show hasS F (s : Int) = true from decide_eq_true (by omega)] at hcall
  rw [hd] at c6
  have hW := h.worn s hs
  have hOW : Only w.heap.size wb w (w.setCell ⟨wb, s, none⟩ (.int .i64 ((min (F.wear.getD s 0 + 1) 1073741824 : Nat) : Int))) := (Only.refl _ wb w).setCell s _
  have hx := h.wr s (.int .i64 ((F.wear.getD s 0 : Nat) : Int)) (by rw [Nats_get, List.getD_eq_getElem?_getD, List.getElem?_eq_getElem hs]; rfl)
  have hf := (h.wrw s hs).2
  rw [Nat.zero_add] at hx hf
  have hx30 : F.wear.getD s 0 ≤ 1073741824 := h.ok.each s _ (by rw [List.getD_eq_getElem?_getD, List.getElem?_eq_getElem hs]; rfl)
  have hmn : min ((F.wear.getD s 0 : Nat) + 1 : Int) 1073741824 = ((min (F.wear.getD s 0 + 1) 1073741824 : Nat) : Int) := by omega
  have hsi : (s : Int) < (F.wear.length : Int) := by omega
  have hs0 : (0 : Int) ≤ (s : Int) := by omega
  obtain ⟨m, hm⟩ : ∃ m, s * F.sec = m := ⟨_, rfl⟩
  have hml : m + F.sec ≤ F.dat.length := by
    rw [hlen, ← hm, ← Nat.succ_mul]
    exact Nat.mul_le_mul_right _ hs
  have hmul : (s : Int) * (F.sec : Int) = (m : Int) := by rw [← hm]; push_cast; rfl
  have hmw : IntKind.i64.wrap (m : Int) = (m : Int) := by rw [IntKind.wrap_i64]; omega
  have hsl : Hid (F.sec ≤ 4096) := Lib.hid hsec.2
  obtain ⟨x, hX⟩ : ∃ x, F.wear.getD s 0 = x := ⟨_, rfl⟩
  rw [hX] at hx hx30 hmn hW hOW
  obtain ⟨y, hy⟩ : ∃ y, min (x + 1) 1073741824 = y := ⟨_, rfl⟩
  rw [hy] at hmn hW hOW
  have hxw : IntKind.i64.wrap ((x : Int) + 1) = (x : Int) + 1 := by rw [IntKind.wrap_i64]; omega
  have HW := Lib.hid hW
  have HO := Lib.hid hOW
  have HL := Lib.hid hlen
  have HX := Lib.hid hX
  have HY := Lib.hid hy
  have HM := Lib.hid hm
  have hlw : lasts (worn F s) F.sec = lasts F F.sec := rfl
  have hgw : gone (worn F s) F.sec = gone F F.sec := rfl
  obtain ⟨q, hq⟩ : ∃ q, lasts F F.sec = q := ⟨_, rfl⟩
  have hqs : q ≤ F.sec := hq ▸ lasts_le F F.sec
  obtain ⟨ec, hec⟩ : ∃ ec, (if gone F F.sec = true then (30 : Int) else 0) = ec := ⟨_, rfl⟩
  have hturn : ∀ W' : World, FlashAt W' g bb wb (worn F s) → Calls Try.prog 74 #[.pointer (some ⟨g, 0, none⟩), .int .i64 (F.sec : Int)] W' fun e w' => e = .returned (.tuple #[.int .i64 (q : Int), .int .i64 ec]) ∧ FlashAt w' g bb wb (turnedBy (worn F s) F.sec) ∧ Only W'.heap.size g W' w' := fun W' h' => by
    have := turn_f W' g bb wb (worn F s) F.sec h' (by omega) hr
    rw [hlw, hgw, hq, hec] at this
    exact this
  rw [hec]
  have HQ := Lib.hid hq
  have HT := Lib.hid hturn
  have HH := Lib.hid h
  clear hlw hgw hq hec hturn
  clear hW hOW h hX hy hm hlen
  go_enter Try.func66, Try.ntmps66
  go_wp2_with (go_at_call 73; refine hcall.mono ?_; rintro e w' ⟨rfl, hw⟩; obtain rfl := hw.symm)
  go_still_tail 15, (by kernel_rfl)
  have hck2 : World.cell? { heap := w.heap, tape := w.tape, drawn := w.drawn + 1, os := w.os, output := w.output } ⟨wb, s, none⟩ = some (.int .i64 (x : Int)) := hx
  have hfr2 : World.frozen? { heap := w.heap, tape := w.tape, drawn := w.drawn + 1, os := w.os, output := w.output } ⟨wb, s, none⟩ = false := hf
  have HML := Lib.hid hml
  have HMU := Lib.hid hmul
  have HMW := Lib.hid hmw
  clear hx30 hxw hmn hml hmul hmw hsm c6 c2 hs0 hsi hsec hs hd
  have c1' : (w.setCell ⟨wb, s, none⟩ (.int .i64 (y : Int))).cell? ⟨g, 1, none⟩ = some (.int .i64 (F.sec : Int)) := HW.out.c1
  clear c1
  go_wp2_with (go_at_call 74; refine (HT.out _ ?_).mono ?_; exact HW.out.keep (fun _ _ => rfl) (Nat.le_refl _); rintro e w3 ⟨rfl, h3, o3⟩)
  have c0 := h3.c0
  have c1 := h3.c1
  replace c0 : w3.cell? ⟨g, 0, none⟩ = some (.slice (some ⟨bb, 0, none⟩) F.dat.length F.dat.length) := c0
  replace c1 : w3.cell? ⟨g, 1, none⟩ = some (.int .i64 (F.sec : Int)) := c1
  have hmul := HMU.out
  have hmw := HMW.out
  have hml := HML.out
  obtain ⟨L, hLL⟩ : ∃ L, F.dat.length = L := ⟨_, rfl⟩
  rw [hLL] at c0 hml
  have m0 : (0 : Int) ≤ (m : Int) := by omega
  have m1 : (m : Int) ≤ (L : Int) := by omega
  have q0 : (0 : Int) ≤ (q : Int) := by omega
  have hsec0 := HH.out.ok.sec
  have hne : ¬ L = m := by omega
  have q1 : (q : Int) ≤ ((L - m : Nat) : Int) := by omega
  clear hsec0
  have h3d : FlashAt w3.drew g bb wb (turnedBy (worn F s) F.sec) := h3.keep (fun _ _ => rfl) (Nat.le_refl _)
  have HE : ∀ w4, Only w3.drew.heap.size bb w3.drew w4 → w4.cell? ⟨g, 0, none⟩ = some (.slice (some ⟨bb, 0, none⟩) L L) ∧ w4.cell? ⟨g, 1, none⟩ = some (.int .i64 (F.sec : Int)) := fun w4 o4 =>
    ⟨(o4.cell (p := ⟨g, 0, none⟩) h3d.lt.1 h3d.ne.1).trans c0, (o4.cell (p := ⟨g, 1, none⟩) h3d.lt.1 h3d.ne.1).trans c1⟩
  have HE := Lib.hid HE
  have H3 := Lib.hid h3d
  have HLL := Lib.hid hLL
  have hLs : L ≤ 262144 := by have := HH.out.ok.small; omega
  have HLs := Lib.hid hLs
  clear hLs h3 h3d hLL
  go_region_held3 (fun w' => w'.cell? ⟨g, 0, none⟩ = some (.slice (some ⟨bb, 0, none⟩) L L) ∧ w'.cell? ⟨g, 1, none⟩ = some (.int .i64 (F.sec : Int))) (first | go_keep | exact HE.out _ o4) (first | (go_at_call 35; refine (erase_f _ bb m q (L - m) F.dat ?_ ?_ ?_ ?_).mono ?_; exact H3.out.dat; exact H3.out.datw; (rw [HLL.out]; omega); (have := HLs.out; omega); rintro e w4 ⟨rfl, r4, t4, o4⟩))
  have hfin : FlashAt w4 g bb wb (eraseBy F s) := by
    have := H3.out.bytes o4 (setAll F.dat m q) (setAll_length _ _ _) r4 (by rw [setAll_length]; exact t4)
    unfold eraseBy
    rw [HM.out, HQ.out]
    exact this
  have hs3 : w.heap.size ≤ w3.heap.size := Nat.le_trans HO.out.size o3.size
  have a1 : But3 w.heap.size g bb wb w _ := But3.only3 HO.out
  have a3 : But3 w.heap.size g bb wb _ w3 := But3.only1 (o3.less HO.out.size)
  have a5 : But3 w.heap.size g bb wb _ w4 := But3.only2 (o4.less hs3)
  have hbut : But3 w.heap.size g bb wb w w4 := (a1.trans (But3.below (drew_below _ w.heap.size)) (Nat.le_refl _)).trans ((a3.trans (But3.below (drew_below _ w.heap.size)) (Nat.le_refl _)).trans a5 (Nat.le_refl _)) (Nat.le_refl _)
  have HF := Lib.hid hfin
  have HB := Lib.hid hbut
  clear hfin hbut r4 t4
  go_wp2
  go_ret
  exact ⟨rfl, HF.out, HB.out⟩
end Go.Proofs.Ytpdlipkmojhnnaa
