/-
  Exchanges: all that is to be sent up to a time.
-/
import Derived.Test.YtkhikpbchimodaaExStep
namespace Go.Proofs.Ytkhikpbchimodaa
open Go.RowKit
set_option maxRecDepth 100000
set_option maxRecDepth 100000
set_option linter.unusedVariables false
theorem info_sent : (Try.prog.info? 55).map (fun i => (i.zero, i.size, i.bytes)) = some (some (.agg #[.int .i64 0, .int .i64 0, .slice none 0 0, .bool false]), 4, 48) := by kernel_rfl
/-- A list of what is to be sent, in memory of the call's own. -/
structure SsAt (w : World) (B : Nat) (e : TypeId) (v : Value) (ss : List Sr) : Prop where
  row : w.ownsRow B e 4 v ss.length (srK.all ss)
  each : ∀ s ∈ ss, Ob w B s.A s.n s.c s.q.l
theorem SsAt.below {w w' : World} {B : Nat} {e : TypeId} {v : Value} {ss : List Sr} (h : SsAt w B e v ss) (hb : Below w.heap.size w w') : SsAt w' B e v ss := ⟨rk_below h.row hb, fun s hs => (h.each s hs).below hb⟩
theorem SsAt.mono {w : World} {B B' : Nat} {e : TypeId} {v : Value} {ss : List Sr} (h : SsAt w B e v ss) (hb : B' ≤ B) : SsAt w B' e v ss := ⟨rk_mono h.row hb, fun s hs => (h.each s hs).mono hb⟩
theorem SsAt.fx {w w' : World} {tb B m k : Nat} {e : TypeId} {x v u : Value} {now : Int} {xs : List Value} {ss : List Sr} (h : SsAt w B e x ss) (hf : Fx tb v.ownBlock w w') (hb : w.heap[tb]? = some (.cells #[u, .int .i64 now] 61)) (hr : w.ownsRow k 65 6 v m xs) (h1 : 61 ≠ e) (h2 : e ≠ 65) : SsAt w' B e x ss :=
  ⟨hf.row_ h.row (rk_ne h.row hb h1) (rk_apart h.row hr h2), fun s hs => (h.each s hs).fx hf hb hr⟩
def PassPost (w : World) (tb : Nat) (v : Value) (now : Int) (qs : List Xq) (e : Ending) (w' : World) : Prop :=
  ∃ A c ss v' vs', e = .returned (.slice A ss.length c) ∧ SsAt w' w.heap.size 55 (.slice A ss.length c) ss ∧ ss.map Sr.q = (passed qs now).1 ∧ TbAt w' tb v' now vs' ∧ vs'.map Xr.q = (passed qs now).2 ∧ v'.ownBlock = v.ownBlock ∧ Fx tb v.ownBlock w w'
structure PassRel (w : World) (tb : Nat) (v : Value) (now : Int) (qs : List Xq) (gg : Nat) (x : Value) (ss : List Sr) (v' : Value) (vs' : List Xr) (W : World) : Prop where
  t : TbAt W tb v' now vs'
  s : SsAt W w.heap.size 55 x ss
  left : pot (vs'.map Xr.q) ≤ gg
  some_ : ss.length + pot (vs'.map Xr.q) ≤ 20
  sum : passed qs now = (ss.map Sr.q ++ (passed (vs'.map Xr.q) now).1, (passed (vs'.map Xr.q) now).2)
  own : v'.ownBlock = v.ownBlock
  fx : Fx tb v.ownBlock w W
theorem PassRel.below {w W W' : World} {tb : Nat} {v : Value} {now : Int} {qs : List Xq} {gg : Nat} {x : Value} {ss : List Sr} {v' : Value} {vs' : List Xr} (h : PassRel w tb v now qs gg x ss v' vs' W) (hb : Below W.heap.size W W') : PassRel w tb v now qs gg x ss v' vs' W' :=
  ⟨h.t.below hb, h.s.below hb, h.left, h.some_, h.sum, h.own, h.fx.trans (Fx.below hb)⟩
theorem fstX_nil : fstX [] 0 = -1 := rfl
set_option maxHeartbeats 8000000 in
theorem expass_f {tb : Nat} {v : Value} {now : Int} {vs : List Xr} {w : World} (h : TbAt w tb v now vs) (x : Int) : Calls Try.prog 14 #[.pointer (some ⟨tb, 0, none⟩), .int .i64 x] w (PassPost w tb v (tellT now x) (vs.map Xr.q)) := by
  obtain ⟨i0, hi0, hz0, hz1, hz2⟩ := info_parts info_sent
  have htell := extell_f h x
  have hlt := h.lt
  have hlen := h.few
  have hT := tellT_in (x := x) h.nw
  generalize tellT now x = T at *
  have HT := Lib.hid htell
  have HV := Lib.hid (And.intro h hlen)
  clear h htell hlen
  go_enter Try.func14, Try.ntmps14
  go_wp2_with fail
  refine HT.out.mono ?_
  rintro e w1 ⟨rfl, ht1, hf1⟩
  have h0 : PassRel w tb v T (vs.map Xr.q) (pot (vs.map Xr.q)) (.slice none 0 0) [] v vs w1 :=
    ⟨ht1, ⟨World.ownsRow_nil _ _ _ _, fun s hs => by cases hs⟩, Nat.le_refl _, by have := pot_le (qs := vs.map Xr.q); have := HV.out.2; rw [List.length_map] at *; simp only [List.length_nil]; omega, rfl, rfl, hf1.wide⟩
  have hfst := exfirst_f ht1
  have H0 := Lib.hid h0
  have HF := Lib.hid hfst
  clear ht1 hf1 h0 hfst
  go_wp2_with fail
  refine HF.out.mono ?_
  rintro e w2 ⟨rfl, b2⟩
  have H2 := Lib.hid (H0.out.below b2)
  clear b2 HF H0
  go_wp2
  go_loopg [5, 6] (pot (vs.map Xr.q)) (fun gg s5 s6 wr => ∃ A c ss v' vs', s5 = .slice A (List.length ss) c ∧ s6 = .int .i64 (fstX (List.map Xr.q vs') (List.length vs')) ∧ Aside (PassRel w tb v T (vs.map Xr.q) gg s5 ss v' vs' wr))
  case atStart => exact ⟨none, 0, [], v, vs, rfl, rfl, H2.out⟩
  case round =>
    obtain ⟨A, c, ss, v', vs', rfl, rfl, hrel⟩ := hrel
    have htb := hrel.out.t
    obtain ⟨A2, c2, rfl, hc2, hm2, hah, _⟩ := htb.open_
    have d0 := htb.cell0
    have d1 := htb.cell1
    have hfew := htb.few
    by_cases hnil : vs'.length = 0
    · obtain rfl := List.eq_nil_of_length_eq_zero hnil
      have HR := Lib.hid hrel.out
      rw [show fstX (List.map Xr.q ([] : List Xr)) (List.length ([] : List Xr)) = -1 from rfl]
      clear hrel htb hah hfew hc2
      generalize hL : List.length ss = L at *
      have HLL := Lib.hid hL
      clear hL
      go_wp2
      go_quiet (fail)
      go_wp2
      go_ret
      have hs := HR.out.sum
      rw [List.map_nil, passed_nil, List.append_nil] at hs
      have hb := HR.out.below (drewN_below wr _ nq)
      refine ⟨A, c, ss, _, [], ?_, ?_, by rw [hs], hb.t, by rw [hs]; rfl, hb.own, hb.fx⟩
      · rw [HLL.out]; rfl
      · rw [HLL.out]; exact hb.s
    · have hpos : 0 < (vs'.map Xr.q).length := by rw [List.length_map]; omega
      have hlt2 := fstQ_lt hpos
      have hfs := fstX_some hpos
      rw [List.length_map] at hfs hlt2
      rw [hfs]
      obtain ⟨k, hk⟩ : ∃ k, fstQ (vs'.map Xr.q) = k := ⟨_, rfl⟩
      rw [hk] at hlt2 ⊢
      obtain ⟨s, hs⟩ := hah.get hlt2
      have hq : (vs'.map Xr.q)[fstQ (vs'.map Xr.q)]? = some s.q := by rw [hk, List.getElem?_map, hs]; rfl
      obtain ⟨b, off, rfl, hbb, _⟩ := hah.place (by omega)
      have d5 := (hah.range hs) 5 _ rfl
      have hkI : (k : Int) < vs'.length := by omega
      have hkn : decide ((k : Int) ≥ 0) = true := decide_eq_true (by omega)
      have hk0 : (0 : Int) ≤ k := by omega
      have hkc : (k : Int) < c2 := by omega
      have HR := Lib.hid (And.intro hrel.out (And.intro hq (And.intro hs hk)))
      obtain ⟨m, hm⟩ : ∃ m, vs'.length = m := ⟨_, rfl⟩
      have HM := Lib.hid hm
      rw [hm] at d0 hkI hc2 hfew hlt2
      clear hrel htb hah hpos hfs hk hs hq hm hnil
      by_cases hu : s.q.u ≤ T
      · generalize hL : List.length ss = L at *
        have HLL := Lib.hid hL
        clear hL
        go_wp2
        go_quiet (fail)
        go_upto_region 6 with fail
        refine wp_at_world (F := fun W => Below wr.heap.size wr W) (drewN_below wr _ nq) fun w3 b3 => ?_
        have hr3 := HR.out.1.below b3
        rw [HM.out] at hr3
        have hst := exstep_f hr3.t k s HR.out.2.2.1
        have H3 := Lib.hid hr3
        have HST := Lib.hid hst
        clear hr3 hst b3 d0 d1 d5
        go_wp2_with fail
        refine HST.out.mono ?_
        rintro e w4 ⟨A4, n4, c4, v4, vs4, rfl, ho4, ht4, hm4, hv4, hf4⟩
        have hps := passed_go (now := T) H3.out.t.good.g HR.out.2.1 hu
        have hss4 := H3.out.s.fx hf4 H3.out.t.blk H3.out.t.row (by decide) (by decide)
        have hpt := pot_step HR.out.2.1 (H3.out.t.good.g s.q (List.mem_of_getElem? HR.out.2.1))
        rw [HR.out.2.2.2] at hps hpt
        rw [← hm4] at hps hpt
        have hL16 : L + 1 ≤ 20 := by have := H3.out.some_; rw [← HLL.out]; omega
        have H4 := Lib.hid (And.intro ho4 (And.intro ht4 (And.intro hv4 (And.intro hf4 (And.intro hps (And.intro hss4 hpt))))))
        have HR4 : Hid (w4.ownsRow w.heap.size 55 4 (.slice A L c) L (srK.all ss)) := by
          have := H4.out.2.2.2.2.2.1.row
          rw [HLL.out] at this
          exact this
        have hsz : w.heap.size ≤ w4.heap.size := Nat.le_trans H3.out.fx.size hf4.size
        clear ho4 ht4 hm4 hv4 hf4 hps hss4 hpt
        go_wp2_with (at_builtin; go_loud (refine srK.append_one w4 rfl (.tmp 31) (.tmp 35) 40 rfl w.heap.size 55 i0 _ 48 Try.underlying40 hi0 hz0 hz1 hz2 rfl (.slice A L c) L ss rfl HR4.out ⟨sentOf s.q, A4, n4, c4⟩ _ rfl _ rfl (by omega) (by unfold maxLen; omega) hsz ?_); intro A6 c6 w6 hown hgr; have H6 := Lib.hid (And.intro hown hgr); clear hown hgr)
        have hr6 : PassRel w tb v T (vs.map Xr.q) (gk - 1) (.slice A6 (ss ++ [(⟨sentOf s.q, A4, n4, c4⟩ : Sr)]).length c6) (ss ++ [⟨sentOf s.q, A4, n4, c4⟩]) v4 vs4 w6 := by
          have hb6 : Below w4.heap.size w4 (w4.alloc (.cells #[.int .i64 s.q.t, .int .i64 s.q.i, .slice A4 n4 c4, .bool (decide (s.q.g = 4))] 55)) := alloc_below _ _
          have hrow4 := H4.out.2.2.2.2.2.1.row
          rw [HLL.out] at hrow4
          have hfx6 : Fx tb (Value.slice A L c).ownBlock w4 w6 := (Fx.below hb6).trans (Fx.grown H6.out.2)
          have hw6 : w.heap.size ≤ w4.heap.size := hsz
          have hown6 : ∀ k, (Value.slice A L c).ownBlock = some k → w.heap.size ≤ k := fun k e => (hrow4.lt k e).1
          have hg6 : ∀ {base sz n : Nat} {e : TypeId} {u : Value} {xs : List Value}, w4.ownsRow base e sz u n xs → e ≠ 55 → w6.ownsRow base e sz u n xs := fun ho he => (rk_below ho hb6).kept H6.out.2 (rk_apart ho hrow4 he)
          have htb6 : w6.heap[tb]? = w4.heap[tb]? := by
            refine (H6.out.2.block tb (Nat.lt_of_lt_of_le H4.out.2.1.lt hb6.size) (fun e => ?_)).trans (hb6.block tb H4.out.2.1.lt)
            have := hown6 tb e.symm
            omega
          refine ⟨⟨htb6.trans H4.out.2.1.blk, hg6 H4.out.2.1.row (by decide), fun y hy => ⟨hg6 (H4.out.2.1.each y hy).1 (by decide), (H4.out.2.1.each y hy).2⟩, H4.out.2.1.good, H4.out.2.1.nw⟩, ⟨?_, ?_⟩, ?_, ?_, ?_, ?_, ?_⟩
          · rw [List.length_append, HLL.out]; exact H6.out.1
          · intro y hy
            rcases List.mem_append.1 hy with hy | hy
            · have := H4.out.2.2.2.2.2.1.each y hy
              exact ⟨hg6 this.1 (by decide), this.2⟩
            · obtain rfl := List.mem_singleton.1 hy
              exact ⟨rk_mono (hg6 H4.out.1.1 (by decide)) H3.out.fx.size, H4.out.1.2⟩
          · have := H3.out.left; have := H4.out.2.2.2.2.2.2; omega
          · have := H3.out.some_; have := H4.out.2.2.2.2.2.2; rw [List.length_append, List.length_singleton]; omega
          · rw [H3.out.sum, H4.out.2.2.2.2.1, List.map_append, List.append_assoc]; rfl
          · exact H4.out.2.2.1.trans H3.out.own
          · have e1 : Fx tb v.ownBlock w w4 := by have := H4.out.2.2.2.1; rw [H3.out.own] at this; exact H3.out.fx.trans this
            exact e1.then_ hfx6 fun k hk => .inr (hown6 k hk)
        have hleft : pot (vs4.map Xr.q) < gk := by have := H3.out.left; have := H4.out.2.2.2.2.2.2; omega
        have hfst := exfirst_f hr6.t
        have H7 := Lib.hid hr6
        have HF := Lib.hid hfst
        clear hr6 hfst
        go_wp2_with fail
        refine HF.out.mono ?_
        rintro e w7 ⟨rfl, b7⟩
        have H8 := Lib.hid (H7.out.below b7)
        clear b7
        go_wp2
        go_roundg (gk - 1)
        case measure => omega
        case rel =>
          have hl : (ss ++ [(⟨sentOf s.q, A4, n4, c4⟩ : Sr)]).length = L + 1 := by rw [List.length_append, HLL.out]; rfl
          have h8 := H8.out
          rw [hl] at h8
          exact ⟨A6, c6, ss ++ [(⟨sentOf s.q, A4, n4, c4⟩ : Sr)], v4, vs4, by rw [hl], rfl, h8⟩
      · generalize hL : List.length ss = L at *
        have HLL := Lib.hid hL
        clear hL
        go_wp2
        go_quiet (fail)
        go_wp2
        go_ret
        have hs := HR.out.1.sum
        have hst := passed_stop (now := T) HR.out.2.1 (by omega)
        rw [hst, List.append_nil] at hs
        have hb := HR.out.1.below (drewN_below wr _ nq)
        refine ⟨A, c, ss, _, vs', ?_, ?_, by rw [hs], hb.t, by rw [hs], hb.own, hb.fx⟩
        · rw [HLL.out]; rfl
        · rw [HLL.out]; exact hb.s
end Go.Proofs.Ytkhikpbchimodaa
