/-
  What a part says of its bytes; a part cleared, a part made.
-/
import Derived.Test.YtpdlipkmojhnnaaPartRead
namespace Go.Proofs.Ytpdlipkmojhnnaa
open Go.RowKit
set_option maxRecDepth 100000
theorem pblank_yes (W : World) (pp g bb wb fi co be si : Nat) (F : Fl) (p n : Nat) (h : PartAt W pp g fi co be si) (hf : FlashAt W g bb wb F) (hs : be + si ≤ F.dat.length) (hc : pck F si p n = 0) :
    Calls Try.prog 43 #[.pointer (some ⟨pp, 0, none⟩), .int .i64 (p : Int), .int .i64 (n : Int)] W fun e w' => e = .returned (.tuple #[.bool ((endOf (piece F (be + p) n) n : Int) == 0), .int .i64 0]) ∧ Below W.heap.size W w' := by
  have hr := pread_yes W pp g bb wb fi co be si F p n h hf hs hc
  have hsm := hf.ok.small
  obtain ⟨_, _, _, hpn⟩ := pck_zero hc
  have hn : (n : Int) ≤ 262144 := by omega
  obtain ⟨l, hl⟩ : ∃ l, piece F (be + p) n = l := ⟨_, rfl⟩
  rw [hl] at hr
  rw [hl]
  obtain ⟨E, hE⟩ : ∃ E, endOf l n = E := ⟨_, rfl⟩
  have he := fun w A (hb : Bs w w.heap.size A n l) => end_f w A n n l hb hn
  simp only [hE] at he
  rw [hE]
  clear hsm hpn hl hE hs hc
  go_enter Try.func43, Try.ntmps43
  go_wp2_with fail
  refine hr.mono ?_
  rintro e w1 ⟨v, rfl, ⟨I, i1, i2, rfl, r1⟩, B1⟩
  go_wp2_with fail
  refine (he w1 _ r1).mono ?_
  rintro e w2 ⟨rfl, hw⟩
  obtain rfl := hw.symm
  go_wp2
  go_ret2
  exact ⟨rfl, B1⟩
/-- A flash is as one was, but for bytes of a part. -/
structure Within (be si : Nat) (F G : Fl) : Prop where
  len : G.dat.length = F.dat.length
  sec : G.sec = F.sec
  wear : G.wear.length = F.wear.length
  dat : ∀ i, ¬ (be ≤ i ∧ i < be + si) → G.dat[i]? = F.dat[i]?
theorem Within.refl (be si : Nat) (F : Fl) : Within be si F F := ⟨rfl, rfl, rfl, fun _ _ => rfl⟩
theorem Within.trans {be si : Nat} {F G K : Fl} (h : Within be si F G) (k : Within be si G K) : Within be si F K :=
  ⟨k.len.trans h.len, k.sec.trans h.sec, k.wear.trans h.wear, fun i hi => (k.dat i hi).trans (h.dat i hi)⟩
theorem erase_within {F : Fl} (ok : FlOk F) (s be si : Nat) (hs : s < F.wear.length) (h1 : be ≤ s * F.sec) (h2 : s * F.sec + F.sec ≤ be + si) : Within be si F (eraseBy F s) := by
  have hf : s * F.sec + F.sec ≤ F.dat.length := by
    rw [ok.len, ← Nat.succ_mul]
    exact Nat.mul_le_mul_right _ hs
  have hl := lasts_le F F.sec
  refine ⟨setAll_length _ _ _, rfl, List.length_set .., fun i hi => ?_⟩
  show (setAll F.dat (s * F.sec) (lasts F F.sec))[i]? = _
  rw [setAll_get _ _ _ _ (by omega), if_neg (by omega)]
/-- What Clear asks of power: what is left may be counted. -/
def Sane (F : Fl) : Prop := F.cut = true → 0 ≤ F.rest
theorem erase_sane {F : Fl} (h : Sane F) (s : Nat) : Sane (eraseBy F s) := by
  intro hc
  have hc' : F.cut = true := hc
  have h0 := h hc'
  show 0 ≤ (if F.cut = true then F.rest - (lasts (worn F s) F.sec : Int) else F.rest)
  rw [if_pos hc']
  show 0 ≤ F.rest - (lasts (worn F s) F.sec : Int)
  unfold lasts
  split
  · rename_i x
    have e : (worn F s).rest = F.rest := rfl
    rw [e] at x ⊢
    omega
  · rename_i x
    have e : (worn F s).rest = F.rest := rfl
    have c : (worn F s).cut = true := hc'
    rw [e] at x
    have : ¬ F.rest < (F.sec : Int) := fun y => x ⟨c, y⟩
    omega
/-- What an erase leaves, whatever comes of it. -/
structure Era (s : Nat) (G H : Fl) (ec : Int) : Prop where
  wi : Within (s * G.sec) G.sec G H
  sane : Sane H
  code : ec = 0 ∨ ec = 30
  on : G.cut = false → G.down = false → ec = 0 ∧ H.cut = false ∧ H.down = false
  done : ec = 0 → ∀ i : Nat, s * G.sec ≤ i → i < s * G.sec + G.sec → H.dat[i]? = some 255
  kept : ∀ i : Nat, G.dat[i]? = some 255 → H.dat[i]? = some 255
  wear : G.down = false → ∀ j : Nat, H.wear[j]? = if j = s then (G.wear[j]?).map (fun n => min (n + 1) 1073741824) else G.wear[j]?
  first : H.dat[s * G.sec]? = some 255 ∨ H.dat = G.dat
  up : ec = 0 → G.down = false → H.down = false
  gone : ec ≠ 0 → ec = 30 ∧ H.down = true
theorem era_of {G : Fl} (ok : FlOk G) (sane : Sane G) (s : Nat) (hs : s < G.wear.length) (hd : G.down = false) : Era s G (eraseBy G s) (if gone G G.sec = true then 30 else 0) := by
  have hf : s * G.sec + G.sec ≤ G.dat.length := by
    rw [ok.len, ← Nat.succ_mul]
    exact Nat.mul_le_mul_right _ hs
  have hl := lasts_le G G.sec
  have hdat : ∀ i, (eraseBy G s).dat[i]? = if s * G.sec ≤ i ∧ i < s * G.sec + lasts G G.sec then some 255 else G.dat[i]? := fun i => by
    show (setAll G.dat (s * G.sec) (lasts G G.sec))[i]? = _
    exact setAll_get _ _ _ _ (by omega)
  refine ⟨erase_within ok s _ _ hs (Nat.le_refl _) (Nat.le_refl _), erase_sane sane s, ?_, fun hc _ => ?_, fun he i h1 h2 => ?_, fun i hi => ?_, fun _ j => ?_, ?_, fun he _ => ?_, fun he => ?_⟩
  · split
    · exact .inr rfl
    · exact .inl rfl
  · have hg : gone G G.sec = false := gone_nocut hc _
    refine ⟨by rw [hg]; rfl, hc, ?_⟩
    show (G.down || gone (worn G s) G.sec) = false
    rw [hd]
    exact gone_nocut (F := worn G s) hc _
  · have hg : ¬ (G.cut = true ∧ G.rest < (G.sec : Int)) := fun x => by
      rw [if_pos (show gone G G.sec = true from decide_eq_true x)] at he
      exact absurd he (by decide)
    have hla : lasts G G.sec = G.sec := by unfold lasts; rw [if_neg hg]
    rw [hdat, hla, if_pos ⟨h1, h2⟩]
  · rw [hdat]
    split
    · rfl
    · exact hi
  · show (G.wear.set s (min (G.wear.getD s 0 + 1) 1073741824))[j]? = _
    rw [List.getElem?_set]
    by_cases hj : j = s
    · subst hj
      rw [if_pos rfl, if_pos hs, if_pos rfl, List.getD_eq_getElem?_getD, List.getElem?_eq_getElem hs]
      rfl
    · rw [if_neg (fun x => hj x.symm), if_neg hj]
  · by_cases h0 : lasts G G.sec = 0
    · right
      refine List.ext_getElem? fun i => ?_
      rw [hdat, if_neg (by omega)]
    · left
      rw [hdat, if_pos (by omega)]
  · show (G.down || gone G G.sec) = false
    rw [hd]
    cases hg : gone G G.sec with
    | false => rfl
    | true => rw [hg, if_pos rfl] at he; exact absurd he (by decide)
  · show _ ∧ (G.down || gone G G.sec) = true
    cases hg : gone G G.sec with
    | false => rw [hg, if_neg (fun e => Bool.noConfusion e)] at he; exact absurd rfl he
    | true => exact ⟨rfl, by rw [Bool.or_true]⟩
theorem erase_any (w : World) (g bb wb : Nat) (G : Fl) (s : Nat) (hf : FlashAt w g bb wb G) (sane : Sane G) (hs : s < G.wear.length) :
    Calls Try.prog 66 #[.pointer (some ⟨g, 0, none⟩), .int .i64 (s : Int)] w fun e w' => ∃ ec H, e = .returned (.int .i64 ec) ∧ FlashAt w' g bb wb H ∧ But3 w.heap.size g bb wb w w' ∧ Era s G H ec := by
  cases hd : G.down with
  | true =>
    refine (erase_down w g bb wb G s hf hd).mono fun e w' ⟨h1, h2⟩ => ?_
    subst h2
    exact ⟨30, G, h1, hf, But3.refl _ _ _ _ _, ⟨Within.refl _ _ _, sane, .inr rfl, (fun _ x => by rw [hd] at x; cases x), (fun x => absurd x (by decide)), (fun _ x => x), (fun x => by rw [hd] at x; cases x), .inr rfl, (fun x => absurd x (by decide)), fun _ => ⟨rfl, hd⟩⟩⟩
  | false => exact (erase_yes w g bb wb G s hf hd hs sane).mono fun e w' ⟨h1, h2, h3⟩ => ⟨_, _, h1, h2, h3, era_of hf.ok sane s hs hd⟩
/-- What Clear has left behind k of its sectors. -/
structure Clr (fi be si k : Nat) (F G : Fl) : Prop where
  wi : Within be si F G
  sane : Sane G
  on : F.cut = false → F.down = false → G.cut = false ∧ G.down = false
  all : ∀ i : Nat, be ≤ i → i < be + k * F.sec → G.dat[i]? = some 255
  wear : F.cut = false → F.down = false → ∀ j : Nat, G.wear[j]? = if fi ≤ j ∧ j < fi + k then (F.wear[j]?).map (fun n => min (n + 1) 1073741824) else F.wear[j]?
  first : G.dat[be]? = some 255 ∨ G.dat = F.dat
  up : F.down = false → G.down = false
/-- What an erasure of a part leaves of its first byte, and of the power. -/
structure Left (be : Nat) (F G : Fl) (ec : Int) : Prop where
  first : G.dat[be]? = some 255 ∨ G.dat = F.dat
  up : ec = 0 → F.down = false → G.down = false
  gone : ec ≠ 0 → ec = 30 ∧ G.down = true
theorem Clr.step {fi co be si k : Nat} {F G H : Fl} {ec : Int} (hok : PartOk F fi co be si) (hsec : 0 < F.sec) (h : Clr fi be si k F G) (hk : k < co) (e : Era (fi + k) G H ec) : Within be si F H ∧ (ec = 0 → Clr fi be si (k + 1) F H) ∧ (H.dat[be]? = some 255 ∨ H.dat = F.dat) := by
  have hse := h.wi.sec
  have e1 : (fi + k) * F.sec = be + k * F.sec := by rw [hok.be, Nat.add_mul]
  have e2 : k * F.sec + F.sec ≤ si := by rw [hok.si, ← Nat.succ_mul]; exact Nat.mul_le_mul_right _ hk
  have hw : Within be si F H := h.wi.trans ⟨e.wi.len, e.wi.sec, e.wi.wear, fun i hi => e.wi.dat i (fun x => by rw [hse, e1] at x; omega)⟩
  have hfirst : H.dat[be]? = some 255 ∨ H.dat = F.dat := by
    rcases h.first with h1 | h1
    · exact .inl (e.kept _ h1)
    · by_cases hk0 : k = 0
      · subst hk0
        rcases e.first with h2 | h2
        · left
          rw [hse, e1, Nat.zero_mul, Nat.add_zero] at h2
          exact h2
        · exact .inr (h2.trans h1)
      · have h3 : F.sec ≤ k * F.sec := Nat.le_mul_of_pos_left _ (by omega)
        exact .inl (e.kept _ (h.all be (Nat.le_refl _) (by omega)))
  refine ⟨hw, fun h0 => ⟨hw, e.sane, fun a b => (e.on (h.on a b).1 (h.on a b).2).2, fun i h1 h2 => ?_, fun a b j => ?_, hfirst, fun a => e.up h0 (h.up a)⟩, hfirst⟩
  · rw [Nat.succ_mul] at h2
    by_cases hi : i < be + k * F.sec
    · exact e.kept i (h.all i h1 hi)
    · exact e.done h0 i (by rw [hse, e1]; omega) (by rw [hse, e1]; omega)
  · rw [e.wear (h.on a b).2, h.wear a b]
    by_cases hj : j = fi + k
    · subst hj
      rw [if_pos rfl, if_neg (by omega), if_pos (by omega)]
    · rw [if_neg hj]
      by_cases hk2 : fi ≤ j ∧ j < fi + k
      · rw [if_pos hk2, if_pos (by omega)]
      · rw [if_neg hk2, if_neg (by omega)]
set_option maxRecDepth 100000 in
set_option maxHeartbeats 400000 in
/-- Clear: whatever comes of it, what lies beyond the part is as it was; where it says that it went well, the part is blank. -/
theorem pclear_x (W : World) (pp g bb wb fi co be si : Nat) (F : Fl) (h : PartAt W pp g fi co be si) (hok : PartOk F fi co be si) (hf : FlashAt W g bb wb F) (hsane : Sane F) (hp : pp ≠ g ∧ pp ≠ bb ∧ pp ≠ wb) :
    Calls Try.prog 54 #[.pointer (some ⟨pp, 0, none⟩)] W fun e w' => ∃ ec G, e = .returned (.int .i64 ec) ∧ FlashAt w' g bb wb G ∧ But3 W.heap.size g bb wb W w' ∧ Within be si F G ∧ Sane G ∧ (F.cut = false → F.down = false → ec = 0 ∧ G.cut = false ∧ G.down = false) ∧ (ec = 0 → Clr fi be si co F G) ∧ Left be F G ec := by
  have hsec : Aside (0 < F.sec) := by have := hf.ok.sec.1; show 0 < F.sec; omega
  have c1 := h.c1
  have c2 := h.c2
  have c0 := h.c0
  have hlt := h.lt
  have hin := hok.in_
  have hw64 := hf.ok.wear.2
  have hci : (co : Int) ≤ 64 := by omega
  have hfi : (fi : Int) ≤ 64 := by omega
  have HIN := Lib.hid hin
  have HOK := Lib.hid hok
  have HP := Lib.hid hp
  clear hin hw64 hp hok h
  go_enter Try.func54, Try.ntmps54
  go_wp2
  go_loopw [9] (fun i wr => ∃ (k : Nat) (G : Fl), (k : Int) ≤ (co : Int) ∧ i = .int .i64 k ∧ FlashAt wr g bb wb G ∧ But3 W.heap.size g bb wb W wr ∧ Clr fi be si k F G) (fun i _ => co - (intOf i).toNat)
  case atStart => exact ⟨0, F, by omega, rfl, hf, But3.refl _ _ _ _ _, ⟨Within.refl _ _ _, hsane, fun a b => ⟨a, b⟩, (fun i h1 h2 => by omega), (fun _ _ j => by rw [if_neg (by omega)]), .inr rfl, fun x => x⟩⟩
  case round =>
    obtain ⟨k, G, hk, rfl, fG, bG, cG⟩ := hrel
    by_cases hlt2 : (k : Int) < (co : Int)
    · obtain ⟨p1, p2, p3⟩ := HP.out
      have x0 := (bG.cell (p := ⟨pp, 0, none⟩) hlt p1 p2 p3).trans c0
      have x1 := (bG.cell (p := ⟨pp, 1, none⟩) hlt p1 p2 p3).trans c1
      have bd : Below wr.heap.size wr wr.drew := (Below.refl _ wr).drew
      have her := erase_any wr.drew g bb wb G (fi + k) (fG.below bd) cG.sane (by rw [cG.wi.wear]; have := HIN.out; omega)
      obtain ⟨s, hs⟩ : ∃ s, fi + k = s := ⟨_, rfl⟩
      rw [hs] at her
      have hsi : (fi : Int) + (k : Int) = (s : Int) := by omega
      have hsw : IntKind.i64.wrap (s : Int) = (s : Int) := by rw [IntKind.wrap_i64]; omega
      have HS := Lib.hid hs
      have HC := Lib.hid cG
      have HB := Lib.hid bG
      have HZ := Lib.hid bG.size
      clear hs cG bG fG bd p1 p2 p3
      go_wp2_with fail
      go_still_tail 10, (by kernel_rfl)
      go_wp2_with fail
      refine her.mono ?_
      rintro e w2 ⟨ec, H, rfl, fH, bH, eH⟩
      have bW : But3 W.heap.size g bb wb W w2 := (HB.out.trans (But3.below (Below.drew (Below.refl wr.heap.size wr))) HZ.out).trans bH HZ.out
      rw [← HS.out] at eH
      have hst := HC.out.step HOK.out hsec.out (by omega) eH
      have EH := Lib.hid eH
      have ST := Lib.hid hst
      clear eH hst bH
      by_cases h0 : ec = 0
      · subst h0
        go_wp2
        go_roundw
        case rel => exact ⟨k + 1, H, by omega, by go_num, fH, bW, ST.out.2.1 (by first | rfl | trivial)⟩
        case measure => simp [intOf]; omega
      · have q0 : (ec == 0) = false := beq_false_of_ne h0
        go_wp2
        go_ret
        exact ⟨ec, H, rfl, fH, bW, ST.out.1, EH.out.sane, fun a b => absurd (EH.out.on (HC.out.on a b).1 (HC.out.on a b).2).1 h0, fun x => absurd x h0, ST.out.2.2, (fun x => absurd x h0), fun x => EH.out.gone x⟩
    · obtain rfl : k = co := by omega
      go_wp2
      go_ret
      exact ⟨0, rfl, G, fG, bG, cG.wi, cG.sane, fun a b => ⟨rfl, cG.on a b⟩, fun _ => cG, cG.first, fun _ => cG.up, fun x => absurd rfl x⟩
theorem pclear_f (W : World) (pp g bb wb fi co be si : Nat) (F : Fl) (h : PartAt W pp g fi co be si) (hok : PartOk F fi co be si) (hf : FlashAt W g bb wb F) (hsane : Sane F) (hp : pp ≠ g ∧ pp ≠ bb ∧ pp ≠ wb) :
    Calls Try.prog 54 #[.pointer (some ⟨pp, 0, none⟩)] W fun e w' => ∃ ec G, e = .returned (.int .i64 ec) ∧ FlashAt w' g bb wb G ∧ But3 W.heap.size g bb wb W w' ∧ Within be si F G ∧ Sane G ∧ (F.cut = false → F.down = false → ec = 0 ∧ G.cut = false ∧ G.down = false) ∧ (ec = 0 → Clr fi be si co F G) :=
  (pclear_x W pp g bb wb fi co be si F h hok hf hsane hp).mono fun _ _ ⟨ec, G, a, b, c, d, e1, f, g1, _⟩ => ⟨ec, G, a, b, c, d, e1, f, g1⟩
end Go.Proofs.Ytpdlipkmojhnnaa
