/-
  Exchanges: what is to be done with one whose time is up.
-/
import Derived.Test.YtkhikpbchimodaaExEnd
import Derived.Test.YtkhikpbchimodaaClone
import Derived.StillTailTactics
import Derived.Deep.Cut
import Derived.Deep.MidRow
namespace Go.Proofs.Ytkhikpbchimodaa
open Go.RowKit
set_option maxRecDepth 100000
set_option maxRecDepth 100000
set_option linter.unusedVariables false
theorem size_sent : (Try.prog.info? 55).map (·.size) = some 4 := by kernel_rfl
theorem zero_sent (w : World) : (zeroValue 55).run Try.prog w = .ok (.agg #[.int .i64 0, .int .i64 0, .slice none 0 0, .bool false]) w := by kernel_rfl
/-- A block of a result is written over. -/
theorem other_sent {w : World} {k : Nat} {cs : Array Value} (hk : w.heap[k]? = some (.cells cs 55)) {base sz n : Nat} {e : TypeId} {v : Value} {xs : List Value} (h : w.ownsRow base e sz v n xs) (he : 55 ≠ e) (us : List Value) : (w.setCells k 0 us).ownsRow base e sz v n xs := by
  have hne := rk_ne h hk he
  refine ⟨h.1, ?_⟩
  rcases h.2 with hn | ⟨g, cap, cur, rfl, hb, hg, rest⟩
  · exact .inl hn
  · exact .inr ⟨g, cap, cur, rfl, hb, (heap_setCells_other k g (fun e6 => hne (by rw [e6]; rfl)) us 0 w).trans hg, rest⟩
theorem Ob.sent {w : World} {k B n c : Nat} {A : Option Addr} {l : List UInt8} {cs : Array Value} (h : Ob w B A n c l) (hk : w.heap[k]? = some (.cells cs 55)) (us : List Value) : Ob (w.setCells k 0 us) B A n c l := ⟨other_sent hk h.1 (by decide) us, h.2⟩
theorem TbAt.sent {w : World} {tb k : Nat} {v : Value} {now : Int} {vs : List Xr} {cs : Array Value} (h : TbAt w tb v now vs) (hk : w.heap[k]? = some (.cells cs 55)) (us : List Value) : TbAt (w.setCells k 0 us) tb v now vs :=
  ⟨(heap_setCells_other k tb (fun e => by
    rw [← e, h.blk] at hk
    injection hk with hk
    injection hk with _ hk _
    exact absurd hk (by decide)) us 0 w).trans h.blk, other_sent hk h.row (by decide) us, fun s hs => (h.each s hs).sent hk us, h.good, h.nw⟩
theorem Fx.sent {w w' : World} {tb k : Nat} {row : Option Nat} {cs : Array Value} (h : Fx tb row w w') (hk : w'.heap[k]? = some (.cells cs 55)) (hw : w.heap.size ≤ k) (us : List Value) : Fx tb row w (w'.setCells k 0 us) := by
  obtain ⟨o1, o2, o3⟩ := os_setCells us k 0 w'
  exact ⟨o1.trans h.os, o2.trans h.tape, o3.trans h.output, by rw [size_setCells']; exact h.size, fun j hj h1 h2 => (heap_setCells_other k j (by omega) us 0 w').trans (h.block j hj h1 h2)⟩
theorem map_erase (vs : List Xr) (i : Nat) (f : Xr → Xq) : (vs.eraseIdx i).map f = (vs.map f).eraseIdx i := by
  induction vs generalizing i with
  | nil => rfl
  | cons a vs ih =>
    cases i with
    | zero => rfl
    | succ i => rw [List.eraseIdx_cons_succ, List.map_cons, List.map_cons, List.eraseIdx_cons_succ, ih]
def StepPost (w : World) (tb : Nat) (v : Value) (now : Int) (qs : List Xq) (i : Nat) (q : Xq) (e : Ending) (w' : World) : Prop :=
  ∃ A n c v' vs', e = .returned (.agg #[.int .i64 q.t, .int .i64 q.i, .slice A n c, .bool (decide (q.g = 4))]) ∧ Ob w' w.heap.size A n c q.l ∧ TbAt w' tb v' now vs' ∧ vs'.map Xr.q = stepQ qs i q ∧ v'.ownBlock = v.ownBlock ∧ Fx tb v.ownBlock w w'
/-- What the variable holds. -/
def SvP (w1 : World) (q : Xq) (w : World) (cs : Array Value) : Prop := ∃ A n c, cs = #[.int .i64 q.t, .int .i64 q.i, .slice A n c, .bool (decide (q.g = 4))] ∧ w.ownsRow w1.heap.size 5 1 (.slice A n c) n (U8 q.l)
theorem SvP.keep {w1 : World} {q : Xq} (w w' : World) (cs : Array Value) (hb : Below w.heap.size w w') (h : SvP w1 q w cs) : SvP w1 q w' cs := by
  obtain ⟨A, n, c, h1, h2⟩ := h
  exact ⟨A, n, c, h1, rk_below h2 hb⟩
def SR (g i : Nat) (s : Xr) (gi : Int) (lo : Bool) (w1 : World) (gg : Option Nat) (k : Nat) (w : World) (x : Value) : Prop :=
  match k with
  | 0 | 1 | 2 | 4 | 5 | 8 | 9 | 13 | 14 => x = .pointer (some ⟨g, i * 6, none⟩)
  | 6 => x = .pointer (some ⟨g, i * 6 + 1, none⟩)
  | 10 => x = .pointer (some ⟨g, i * 6 + 2, none⟩)
  | 15 => x = .pointer (some ⟨g, i * 6 + 3, none⟩)
  | 3 => x = .int .i64 s.q.t
  | 7 => x = .int .i64 s.q.i
  | 11 => x = .slice s.A s.n s.c
  | 16 => x = .int .i64 gi
  | 17 => x = .bool lo
  | 12 => ∃ A n c, x = .slice A n c ∧ w.ownsRow w1.heap.size 5 1 (.slice A n c) n (U8 s.q.l)
  | 18 => ∃ A n c, x = .agg #[.int .i64 s.q.t, .int .i64 s.q.i, .slice A n c, .bool lo] ∧ w.ownsRow w1.heap.size 5 1 (.slice A n c) n (U8 s.q.l)
  | 19 => ∃ b, x = .pointer (some ⟨b, 0, none⟩) ∧ gg = some b
  | _ => True
theorem SR.grow {g i : Nat} {s : Xr} {gi : Int} {lo : Bool} {w1 : World} (k : Nat) (gg : Option Nat) (w : World) (gg' : Option Nat) (w' : World) (x : Value) (hT : VT 55 gg w gg' w') (h : SR g i s gi lo w1 gg k w x) : SR g i s gi lo w1 gg' k w' x := by
  unfold SR at h ⊢
  split at h
  all_goals first
    | exact h
    | (obtain ⟨A, n, c, h1, h2⟩ := h; exact ⟨A, n, c, h1, hT.row h2 (by decide)⟩)
    | (obtain ⟨b, h1, h2⟩ := h; exact ⟨b, h1, hT.2.2 b h2⟩)
set_option maxHeartbeats 8000000 in
theorem exstep_f {tb : Nat} {v : Value} {now : Int} {vs : List Xr} {w : World} (h : TbAt w tb v now vs) (i : Nat) (s : Xr) (hs : vs[i]? = some s) : Calls Try.prog 34 #[.pointer (some ⟨tb, 0, none⟩), .int .i64 i] w (StepPost w tb v now (vs.map Xr.q) i s.q) := by
  have hi : i < vs.length := (List.getElem?_eq_some_iff.1 hs).1
  obtain ⟨A, c, rfl, hc, hm, hah, hg⟩ := h.open_
  have hA : ∃ g, A = some ⟨g, 0, none⟩ := by
    obtain ⟨b, off, e, _⟩ := hah.place (by omega)
    obtain ⟨g, e2, _⟩ := hg _ e
    exact ⟨g, by rw [e, e2]⟩
  obtain ⟨g, rfl⟩ := hA
  have hfew := h.few
  have hlt := h.lt
  have hgl : g < w.heap.size := (h.row.lt g rfl).2
  have hcells := xr_cells (hah.range hs)
  rw [Nat.zero_add] at hcells
  have hqk := h.qok (List.mem_of_getElem? hs)
  have hob := h.each s (List.mem_of_getElem? hs)
  have HD := Lib.hid fun W (hb : Below w.heap.size w W) => And.intro (h.below hb).cell0 (And.intro ((hb.cell (p := ⟨g, i * 6, none⟩) hgl).trans hcells.1) (And.intro ((hb.cell (p := ⟨g, i * 6 + 1, none⟩) hgl).trans hcells.2.1) (And.intro ((hb.cell (p := ⟨g, i * 6 + 2, none⟩) hgl).trans hcells.2.2.1) ((hb.cell (p := ⟨g, i * 6 + 3, none⟩) hgl).trans hcells.2.2.2.1))))
  have HCL := Lib.hid fun W (hb : Below w.heap.size w W) => clone_f s.A s.n s.c s.q.l W _ (hob.below hb).bs (Nat.le_refl _) (by have := hob.2; omega)
  have HH := Lib.hid (And.intro h (And.intro hs (And.intro hqk hob)))
  have hiI : (i : Int) < vs.length := by omega
  clear h hs hah hg hcells hqk hob
  obtain ⟨n, hn⟩ : ∃ n, vs.length = n := ⟨_, rfl⟩
  have HN := Lib.hid hn
  rw [hn] at hfew hiI hc hi HD
  clear hn
  obtain ⟨gi, hgi⟩ : ∃ gi : Int, (s.q.g : Int) = gi := ⟨_, rfl⟩
  obtain ⟨lo, hlo⟩ : ∃ lo, decide (s.q.g = 4) = lo := ⟨_, rfl⟩
  have hgl2 : (gi == 4) = lo := by
    rw [← hlo, ← hgi]
    by_cases e : s.q.g = 4
    · rw [decide_eq_true e, e]; rfl
    · rw [decide_eq_false e]; exact beq_eq_false_iff_ne.2 (by omega)
  rw [hgi] at HD
  have HG := Lib.hid (And.intro hgi (And.intro hlo hgl2))
  clear hgi hlo hgl2
  have cc := (HD.out w (Below.refl _ _)).1
  have ccA := fun o => (HD.out (w.alloc o) (alloc_below _ _)).1
  clear cc
  go_enter Try.func34, Try.ntmps34
  go_upto_region 2 with fail
  refine wp_at_world (F := fun W => Below w.heap.size w W ∧ W.heap[w.heap.size]? = some (.cells #[.int .i64 0, .int .i64 0, .slice none 0 0, .bool false] 55)) ⟨alloc_below _ _, heap_alloc_new w _⟩ fun w1 ⟨b1, x1⟩ => ?_
  have H1 := Lib.hid (And.intro b1 x1)
  clear b1 x1 ccA
  refine wp_region_relG (VS w1 55 4 (SvP w1 s.q) 19 20) (VT 55) (SR g i s gi lo w1) [(5, .pointer (some ⟨g, i * 6, none⟩))] (by kernel_rfl) (by kernel_rfl) (by kernel_rfl) ?base none (VS.first w1) (fun k g w g' w' x hT h => SR.grow k g w g' w' x hT h) ?steps ?fin
  case base =>
    intro x hx
    simp only [List.mem_cons, List.not_mem_nil, or_false] at hx
    rcases hx with rfl <;> exact ⟨rfl, rfl⟩
  case steps =>
    refine steps_cons ?_ (steps_cons ?_ (steps_cons ?_ (steps_cons ?_ (steps_cons ?_ (steps_cons ?_ (steps_cons ?_ (steps_cons ?_ (steps_cons ?_ (steps_cons ?_ (steps_cons ?_ (steps_cons ?_ (steps_cons ?_ (steps_cons ?_ (steps_cons ?_ (steps_cons ?_ (steps_cons ?_ (steps_cons ?_ (steps_cons ?_ (steps_cons ?_ (steps_cons ?_ steps_nil))))))))))))))))))))
    · intro a wx L g9 K hLi hLd hS hB hR hK
      rw [if_pos (wanted_none rfl)]
      have h5 := tmp_is (hB.1)
      go_simp
      exact hK (.pointer (some ⟨g, i * 6, none⟩)) wx g9 (hS.quiet 0 (by decide) (by decide)) (VT.refl _ _ _) rfl
    · intro a wx L g9 K hLi hLd hS hB hR hK
      rw [if_pos (wanted_none rfl)]
      have h13 := tmp_is (hR.1)
      go_simp
      exact hK (.pointer (some ⟨g, i * 6, none⟩)) wx g9 (hS.quiet 1 (by decide) (by decide)) (VT.refl _ _ _) rfl
    · intro a wx L g9 K hLi hLd hS hB hR hK
      rw [if_pos (wanted_none rfl)]
      have h14 := tmp_is (hR.1)
      go_simp
      exact hK (.pointer (some ⟨g, i * 6, none⟩)) wx g9 (hS.quiet 2 (by decide) (by decide)) (VT.refl _ _ _) rfl
    · intro a wx L g9 K hLi hLd hS hB hR hK
      rw [if_pos (wanted_none rfl)]
      have h15 := tmp_is (hR.1)
      have hd := HD.out wx (H1.out.1.trans (hS.fr.mono H1.out.1.size))
      have hc := hd.2.1
      clear hd
      go_simp
      exact hK (.int .i64 s.q.t) wx g9 (hS.quiet 3 (by decide) (by decide)) (VT.refl _ _ _) rfl
    · intro a wx L g9 K hLi hLd hS hB hR hK
      rw [if_pos (wanted_none rfl)]
      have h5 := tmp_is (hB.1)
      go_simp
      exact hK (.pointer (some ⟨g, i * 6, none⟩)) wx g9 (hS.quiet 4 (by decide) (by decide)) (VT.refl _ _ _) rfl
    · intro a wx L g9 K hLi hLd hS hB hR hK
      rw [if_pos (wanted_none rfl)]
      have h17 := tmp_is (hR.1)
      go_simp
      exact hK (.pointer (some ⟨g, i * 6, none⟩)) wx g9 (hS.quiet 5 (by decide) (by decide)) (VT.refl _ _ _) rfl
    · intro a wx L g9 K hLi hLd hS hB hR hK
      rw [if_pos (wanted_none rfl)]
      have h18 := tmp_is (hR.1)
      go_simp
      exact hK (.pointer (some ⟨g, i * 6 + 1, none⟩)) wx g9 (hS.quiet 6 (by decide) (by decide)) (VT.refl _ _ _) rfl
    · intro a wx L g9 K hLi hLd hS hB hR hK
      rw [if_pos (wanted_none rfl)]
      have h19 := tmp_is (hR.1)
      have hd := HD.out wx (H1.out.1.trans (hS.fr.mono H1.out.1.size))
      have hc := hd.2.2.1
      clear hd
      go_simp
      exact hK (.int .i64 s.q.i) wx g9 (hS.quiet 7 (by decide) (by decide)) (VT.refl _ _ _) rfl
    · intro a wx L g9 K hLi hLd hS hB hR hK
      rw [if_pos (wanted_none rfl)]
      have h5 := tmp_is (hB.1)
      go_simp
      exact hK (.pointer (some ⟨g, i * 6, none⟩)) wx g9 (hS.quiet 8 (by decide) (by decide)) (VT.refl _ _ _) rfl
    · intro a wx L g9 K hLi hLd hS hB hR hK
      rw [if_pos (wanted_none rfl)]
      have h21 := tmp_is (hR.1)
      go_simp
      exact hK (.pointer (some ⟨g, i * 6, none⟩)) wx g9 (hS.quiet 9 (by decide) (by decide)) (VT.refl _ _ _) rfl
    · intro a wx L g9 K hLi hLd hS hB hR hK
      rw [if_pos (wanted_none rfl)]
      have h22 := tmp_is (hR.1)
      go_simp
      exact hK (.pointer (some ⟨g, i * 6 + 2, none⟩)) wx g9 (hS.quiet 10 (by decide) (by decide)) (VT.refl _ _ _) rfl
    · intro a wx L g9 K hLi hLd hS hB hR hK
      rw [if_pos (wanted_none rfl)]
      have h23 := tmp_is (hR.1)
      have hd := HD.out wx (H1.out.1.trans (hS.fr.mono H1.out.1.size))
      have hc := hd.2.2.2.1
      clear hd
      go_simp
      exact hK (.slice s.A s.n s.c) wx g9 (hS.quiet 11 (by decide) (by decide)) (VT.refl _ _ _) rfl
    · intro a wx L g9 K hLi hLd hS hB hR hK
      rw [if_pos (wanted_none rfl)]
      have h24 := tmp_is (hR.1)
      go_simp
      refine (HCL.out wx (H1.out.1.trans (hS.fr.mono H1.out.1.size))).mono ?_
      rintro e w' ⟨v', rfl, ho, hb⟩
      obtain ⟨A', c', rfl, _, _⟩ := Bs.of_own ho
      exact hK _ w' g9 (hS.call (SvP.keep (w1 := w1) (q := s.q)) 12 (by decide : 19 ≠ 12) (by decide : 20 ≠ 12) hb) (VT.below hb) ⟨A', _, c', rfl, rk_mono ho hS.fr.size⟩
    · intro a wx L g9 K hLi hLd hS hB hR hK
      rw [if_pos (wanted_none rfl)]
      have h5 := tmp_is (hB.1)
      go_simp
      exact hK (.pointer (some ⟨g, i * 6, none⟩)) wx g9 (hS.quiet 13 (by decide) (by decide)) (VT.refl _ _ _) rfl
    · intro a wx L g9 K hLi hLd hS hB hR hK
      rw [if_pos (wanted_none rfl)]
      have h26 := tmp_is (hR.1)
      go_simp
      exact hK (.pointer (some ⟨g, i * 6, none⟩)) wx g9 (hS.quiet 14 (by decide) (by decide)) (VT.refl _ _ _) rfl
    · intro a wx L g9 K hLi hLd hS hB hR hK
      rw [if_pos (wanted_none rfl)]
      have h27 := tmp_is (hR.1)
      go_simp
      exact hK (.pointer (some ⟨g, i * 6 + 3, none⟩)) wx g9 (hS.quiet 15 (by decide) (by decide)) (VT.refl _ _ _) rfl
    · intro a wx L g9 K hLi hLd hS hB hR hK
      rw [if_pos (wanted_none rfl)]
      have h28 := tmp_is (hR.1)
      have hd := HD.out wx (H1.out.1.trans (hS.fr.mono H1.out.1.size))
      have hc := hd.2.2.2.2
      clear hd
      go_simp
      exact hK (.int .i64 gi) wx g9 (hS.quiet 16 (by decide) (by decide)) (VT.refl _ _ _) rfl
    · intro a wx L g9 K hLi hLd hS hB hR hK
      rw [if_pos (wanted_none rfl)]
      have h29 := tmp_is (hR.1)
      have hlo := HG.out.2.2
      go_simp
      exact hK (.bool lo) wx g9 (hS.quiet 17 (by decide) (by decide)) (VT.refl _ _ _) rfl
    · intro a wx L g9 K hLi hLd hS hB hR hK
      rw [if_pos (wanted_none rfl)]
      have h16 := tmp_is (hR.1)
      have h20 := tmp_is (hR.2.1)
      have h30 := tmp_is (hR.2.2.2.1)
      obtain ⟨A', n', c', hv, ho⟩ := hR.2.2.1
      have h25 := tmp_is hv
      go_simp
      exact hK (.agg #[.int .i64 s.q.t, .int .i64 s.q.i, .slice A' n' c', .bool lo]) wx g9 (hS.quiet 18 (by decide) (by decide)) (VT.refl _ _ _) ⟨A', n', c', rfl, ho⟩
    · intro a wx L g9 K hLi hLd hS hB hR hK
      rw [if_pos (wanted_none rfl)]
      have hz := zero_sent
      go_simp
      have hal := hS.alloc (SvP.keep (w1 := w1) (q := s.q)) hLi (by decide : 20 ≠ 19) #[.int .i64 0, .int .i64 0, .slice none 0 0, .bool false] rfl
      exact hK (.pointer (some ⟨wx.heap.size, 0, none⟩)) _ _ hal.1 hal.2 ⟨_, rfl, rfl⟩
    · intro a wx L g9 K hLi hLd hS hB hR hK
      rw [if_pos (wanted_none rfl)]
      obtain ⟨b, hv6, hgb⟩ := hR.1
      obtain ⟨A', n', c', hv31, ho⟩ := hR.2.1
      obtain ⟨b', hg', hth, hbw⟩ := hS.there (hLd 19 (by decide))
      obtain rfl : b' = b := by rw [hgb] at hg'; exact (Option.some.inj hg').symm
      have hus : wx.ownsRow w1.heap.size 5 1 (.slice A' n' c') n' (U8 s.q.l) := ho
      have hst := hS.store (hLd 19 (by decide)) (by decide : 19 ≠ 20) hgb [.int .i64 s.q.t, .int .i64 s.q.i, .slice A' n' c', .bool lo] rfl ⟨A', n', c', by rw [HG.out.2.1], (VT.store_row hS (hLd 19 (by decide)) hgb hus (by decide) _)⟩
      refine wp_store_mid 55 (.tmp 6) (.tmp 31) (by rfl) b' 0 #[.int .i64 s.q.t, .int .i64 s.q.i, .slice A' n' c', .bool lo] hv6 hv31 hth size_sent (by simp [Value.oneCell']) ?_
      exact hK undef _ g9 hst.1 hst.2 trivial
  case fin =>
    intro a w3 L g9 hS hall ha hR
    obtain ⟨b, cs, hgb, hbw, hblk, A', n', c', rfl, hown⟩ := hS.done (hall 20 (by decide))
    obtain ⟨b', hv6, hgb'⟩ : ∃ b, a.eval (.tmp 6) = .pointer (some ⟨b, 0, none⟩) ∧ g9 = some b := deps_mem _ hR 19 (by decide)
    obtain rfl : b' = b := by rw [hgb] at hgb'; exact (Option.some.inj hgb').symm
    have hb3 := hS.fr
    rw [HG.out.2.1] at hblk
    clear hR hS hall hgb hgb'
    simp only [pin] at ha
    rw [ha]
    simp only [List.setIfInBounds_toArray, List.set_cons_zero, List.set_cons_succ, hv6]
    clear ha hv6
    have H3 := Lib.hid (And.intro hb3 (And.intro hbw (And.intro hblk hown)))
    have d3 : w3.cell? ⟨b', 3, none⟩ = some (.bool lo) := by rw [cell_of_row _ _ _ _ _ _ hblk]; rfl
    clear hb3 hbw hblk hown
    have hbw3 : Below w.heap.size w w3 := H1.out.1.trans (H3.out.1.mono H1.out.1.size)
    have ht3 := HH.out.1.below hbw3
    have hx3 : w3.heap[w.heap.size]? = some (.cells #[.int .i64 0, .int .i64 0, .slice none 0 0, .bool false] 55) := (H3.out.1.block _ (Array.getElem?_eq_some_iff.1 H1.out.2).1).trans H1.out.2
    have hwb : w.heap.size < b' := Nat.lt_of_lt_of_le (Array.getElem?_eq_some_iff.1 H1.out.2).1 H3.out.2.1
    have hbl : b' < w3.heap.size := (Array.getElem?_eq_some_iff.1 H3.out.2.2.1).1
    have HO : Hid (Ob w3 w.heap.size A' n' c' s.q.l) := ⟨rk_mono H3.out.2.2.2 H1.out.1.size, by
      have e1 := H3.out.2.2.2.1
      have e2 := HH.out.2.2.2.1.1
      have e3 := HH.out.2.2.2.2
      rw [Nat.mul_one] at e1 e2
      omega⟩
    have HX := Lib.hid hx3
    clear hx3
    cases hlo : lo with
    | true =>
      rw [hlo] at d3
      have hcall := exend_f ht3 i (by rw [HN.out]; exact hi)
      have HC := Lib.hid hcall
      have HT := Lib.hid (And.intro ht3 hbw3)
      clear ht3 hcall hbw3
      go_wp2_with fail
      refine HC.out.mono ?_
      rintro e w4 ⟨rfl, v4, ht4, hv4, hf4⟩
      have hk : ∀ k, k < w3.heap.size → w.heap.size ≤ k → w4.heap[k]? = w3.heap[k]? := fun k h1 h2 => hf4.block k h1 (by omega) (by simp only [Value.ownBlock, ne_eq, Option.some.injEq]; omega)
      have hx4 := (hk _ (by omega) (Nat.le_refl _)).trans HX.out
      have hb4 := (hk _ hbl (Nat.le_of_lt hwb)).trans H3.out.2.2.1
      have hr4 : w4.rangeAt b' 0 [.int .i64 s.q.t, .int .i64 s.q.i, .slice A' n' c', .bool lo] := fun j u hj => by
        rw [Nat.zero_add, cell_of_row _ _ _ _ _ _ hb4, ← Array.getElem?_toList]; exact hj
      have hth4 : w4.there w.heap.size 0 4 := fun j hj => ⟨by rw [Nat.zero_add, cell_of_row _ _ _ _ _ _ hx4, Array.getElem?_eq_getElem (by show j < 4; exact hj)]; rfl, by simp [World.frozen?, hx4]⟩
      have H4 := Lib.hid (And.intro ht4 (And.intro hv4 (And.intro (HT.out.2.trans (Below.refl _ _)) (And.intro hf4 hx4))))
      rw [hlo] at hr4
      clear ht4 hv4 hf4 hk hx4 hb4
      go_wp2_with (first
        | (refine wpList_load_mid rfl 55 (.tmp 6) rfl b' 0 rfl [.int .i64 s.q.t, .int .i64 s.q.i, .slice A' n' c', .bool true] _ hr4 Try.underlying55 rfl size_sent ?_)
        | (refine wpList_store_mid rfl 55 (.tmp 4) (.tmp 37) rfl w.heap.size 0 (List.toArray [.int .i64 s.q.t, .int .i64 s.q.i, .slice A' n' c', .bool true]) rfl rfl hth4 size_sent (by simp [Value.oneCell']) ?_))
      have hrs : (w4.setCells w.heap.size 0 [.int .i64 s.q.t, .int .i64 s.q.i, .slice A' n' c', .bool true]).rangeAt w.heap.size 0 [.int .i64 s.q.t, .int .i64 s.q.i, .slice A' n' c', .bool true] := by
        obtain ⟨cs', h1, h2⟩ := heap_setCells_here w.heap.size 55 [.int .i64 s.q.t, .int .i64 s.q.i, .slice A' n' c', .bool true] w4 _ 0 H4.out.2.2.2.2 (by simp)
        intro j u hj
        rw [Nat.zero_add, cell_of_row _ _ _ _ _ _ h1, ← Array.getElem?_toList, h2]
        exact hj
      refine bodyPost_ret (results_cell_mid rfl _ _ w.heap.size 0 [.int .i64 s.q.t, .int .i64 s.q.i, .slice A' n' c', .bool true] _ rfl hrs Try.underlying55 rfl size_sent) rfl ?_
      have hg4 : s.q.g = 4 := of_decide_eq_true (HG.out.2.1.trans hlo)
      refine ⟨A', n', c', v4, vs.eraseIdx i, by rw [HG.out.2.1, hlo], ?_, H4.out.1.sent H4.out.2.2.2.2 _, ?_, H4.out.2.1, ?_⟩
      · exact (HO.out.fx H4.out.2.2.2.1 (HT.out.1.blk) HT.out.1.row).sent H4.out.2.2.2.2 _
      · unfold stepQ
        rw [if_pos hg4]
        exact map_erase _ _ _
      · exact ((Fx.below HT.out.2).trans H4.out.2.2.2.1).sent H4.out.2.2.2.2 (Nat.le_refl _) _
    | false =>
      rw [hlo] at d3
      have hg4 : ¬ s.q.g = 4 := of_decide_eq_false (HG.out.2.1.trans hlo)
      have hrow3 := ht3.row
      have hcell : ∀ j u, (xrK.vals s)[j]? = some u → j < 6 → w3.cell? ⟨g, i * 6 + j, none⟩ = some u := fun j u hj hj6 => by
        rw [hrow3.cellAt (i * 6 + j) (by rw [HN.out]; omega)]
        exact xrK.all_get vs i s j u HH.out.2.1 hj
      have c3 := hcell 3 _ rfl (by decide)
      have c4 := hcell 4 _ rfl (by decide)
      have c5 := hcell 5 _ rfl (by decide)
      rw [HG.out.1] at c3
      have f3 : ∀ j, w3.frozen? ⟨g, j, none⟩ = false := fun j => hrow3.frozenAt j
      have fz3 := f3 (i * 6 + 3)
      have fz4 := f3 (i * 6 + 4)
      have hwt := HH.out.2.2.1.wt_le
      have hwt0 : 0 ≤ s.q.wt := HH.out.2.2.1.2.2.2.1
      have hgi4 : gi ≤ 4 := by have := HH.out.2.2.1.2.2.1; have := HG.out.1; omega
      have hgi0 : 0 ≤ gi := by have := HG.out.1; omega
      have hu0 : 0 ≤ s.q.u ∧ s.q.u ≤ 1099511627776 := ⟨HH.out.2.2.1.1, HH.out.2.2.1.2.1⟩
      have hG1 : (((s.q.g + 1 : Nat) : Nat) : Int) = gi + 1 := by have := HG.out.1; omega
      have p1 := RowK.own_put hrow3 i s ⟨⟨s.q.t, s.q.i, s.q.l, s.q.g + 1, s.q.wt, s.q.u⟩, s.A, s.n, s.c⟩ 3 (.int .i64 (gi + 1)) HH.out.2.1 (by decide) (by show Xr.vals _ = (Xr.vals s).set 3 _; simp [Xr.vals, hG1])
      have hs1 : (vs.set i ⟨⟨s.q.t, s.q.i, s.q.l, s.q.g + 1, s.q.wt, s.q.u⟩, s.A, s.n, s.c⟩)[i]? = some ⟨⟨s.q.t, s.q.i, s.q.l, s.q.g + 1, s.q.wt, s.q.u⟩, s.A, s.n, s.c⟩ := List.getElem?_set_self (by rw [HN.out]; exact hi)
      have p2 := RowK.own_put p1.1 i _ ⟨⟨s.q.t, s.q.i, s.q.l, s.q.g + 1, s.q.wt * 2, s.q.u⟩, s.A, s.n, s.c⟩ 4 (.int .i64 (s.q.wt * 2)) hs1 (by decide) rfl
      rw [List.set_set] at p2
      have hs2 : (vs.set i ⟨⟨s.q.t, s.q.i, s.q.l, s.q.g + 1, s.q.wt * 2, s.q.u⟩, s.A, s.n, s.c⟩)[i]? = some ⟨⟨s.q.t, s.q.i, s.q.l, s.q.g + 1, s.q.wt * 2, s.q.u⟩, s.A, s.n, s.c⟩ := List.getElem?_set_self (by rw [HN.out]; exact hi)
      have hP := Lib.hid (And.intro p2.1 (And.intro (rk_trans p1.2 p2.2) hs2))
      have HT := Lib.hid (And.intro ht3 hbw3)
      clear hcell p1 p2 hs1 hs2 hrow3 f3 ht3 hbw3 hG1
      go_upto_region 8 with fail
      refine wp_at_world (F := fun W => W.ownsRow tb 65 6 (.slice (some ⟨g, 0, none⟩) vs.length c) vs.length (xrK.all (vs.set i ⟨⟨s.q.t, s.q.i, s.q.l, s.q.g + 1, s.q.wt * 2, s.q.u⟩, s.A, s.n, s.c⟩)) ∧ w3.grownBy W (some g)) ⟨hP.out.1, hP.out.2.1⟩ fun W5 ⟨o5, g5⟩ => ?_
      have hcell : ∀ j u, (Xr.vals ⟨⟨s.q.t, s.q.i, s.q.l, s.q.g + 1, s.q.wt * 2, s.q.u⟩, s.A, s.n, s.c⟩)[j]? = some u → j < 6 → W5.cell? ⟨g, i * 6 + j, none⟩ = some u := fun j u hj hj6 => by
        rw [o5.cellAt (i * 6 + j) (by rw [HN.out]; omega)]
        exact xrK.all_get _ i _ j u hP.out.2.2 hj
      have e4 := hcell 4 _ rfl (by decide)
      have e5 := hcell 5 _ rfl (by decide)
      have p3 := RowK.own_put o5 i _ ⟨nextX s.q, s.A, s.n, s.c⟩ 5 (.int .i64 (addT s.q.u (s.q.wt * 2))) hP.out.2.2 (by decide) rfl
      rw [List.set_set] at p3
      have hlat := fun W => exlater_f s.q.u (s.q.wt * 2) W hu0 ⟨by omega, by omega⟩
      have hfz5 := o5.frozenAt (i * 6 + 5)
      have H5 := Lib.hid (And.intro p3.1 (And.intro p3.2 g5))
      have HL := Lib.hid hlat
      have HFZ := Lib.hid hfz5
      have HCE : Hid ((W5.cell? ⟨g, i * 6 + 5, none⟩).isSome = true) := by rw [e5]; rfl
      clear hcell p3 o5 g5 hlat c3 c4 c5 fz3 fz4
      generalize addT s.q.u (s.q.wt * 2) = un at *
      obtain ⟨wt2, hwt2⟩ : ∃ wt2, s.q.wt * 2 = wt2 := ⟨_, rfl⟩
      rw [hwt2] at e4 HL
      clear hwt2
      go_still_tail 12, (by kernel_rfl)
      still_call (HL.out _)
      repeat still_step
      refine wpStill_nil ?_
      clear e4 e5 hfz5
      have hfz5 : W5.drew.frozen? ⟨g, i * 6 + 5, none⟩ = false := HFZ.out
      have hce5 : (W5.drew.cell? ⟨g, i * 6 + 5, none⟩).isSome = true := HCE.out
      obtain ⟨u5, hu5⟩ := Option.isSome_iff_exists.1 hce5
      clear hce5
      go_upto_region 9 with fail
      refine wp_at_world (F := fun W => W.ownsRow tb 65 6 (.slice (some ⟨g, 0, none⟩) vs.length c) vs.length (xrK.all (vs.set i ⟨nextX s.q, s.A, s.n, s.c⟩)) ∧ w3.grownBy W (some g)) ⟨H5.out.1, (⟨(rk_trans H5.out.2.2 H5.out.2.1).os, (rk_trans H5.out.2.2 H5.out.2.1).tape, (rk_trans H5.out.2.2 H5.out.2.1).output, (rk_trans H5.out.2.2 H5.out.2.1).size, (rk_trans H5.out.2.2 H5.out.2.1).block⟩)⟩ fun W6 ⟨o6, g6⟩ => ?_
      have hk : ∀ k, k < w3.heap.size → w.heap.size ≤ k → W6.heap[k]? = w3.heap[k]? := fun k h1 h2 => g6.block k h1 (by simp only [ne_eq, Option.some.injEq]; omega)
      have hx4 := (hk _ (by omega) (Nat.le_refl _)).trans HX.out
      have hb4 := (hk _ hbl (Nat.le_of_lt hwb)).trans H3.out.2.2.1
      have hr4 : W6.rangeAt b' 0 [.int .i64 s.q.t, .int .i64 s.q.i, .slice A' n' c', .bool lo] := fun j u hj => by
        rw [Nat.zero_add, cell_of_row _ _ _ _ _ _ hb4, ← Array.getElem?_toList]; exact hj
      have hth4 : W6.there w.heap.size 0 4 := fun j hj => ⟨by rw [Nat.zero_add, cell_of_row _ _ _ _ _ _ hx4, Array.getElem?_eq_getElem (by show j < 4; exact hj)]; rfl, by simp [World.frozen?, hx4]⟩
      have hfx : Fx tb (Value.slice (some ⟨g, 0, none⟩) vs.length c).ownBlock w3 W6 := Fx.grown g6
      have htb : W6.heap[tb]? = w3.heap[tb]? := g6.block tb HT.out.1.lt (fun e => HT.out.1.row_ne (by rw [show tb = g by simpa using e]; rfl))
      have H6 := Lib.hid (And.intro o6 (And.intro hfx (And.intro hx4 htb)))
      rw [hlo] at hr4
      clear o6 g6 hk hx4 hb4 hfx htb hfz5 hu5
      go_wp2_with (first
        | (refine wpList_load_mid rfl 55 (.tmp 6) rfl b' 0 rfl [.int .i64 s.q.t, .int .i64 s.q.i, .slice A' n' c', .bool false] _ hr4 Try.underlying55 rfl size_sent ?_)
        | (refine wpList_store_mid rfl 55 (.tmp 4) (.tmp 64) rfl w.heap.size 0 (List.toArray [.int .i64 s.q.t, .int .i64 s.q.i, .slice A' n' c', .bool false]) rfl rfl hth4 size_sent (by simp [Value.oneCell']) ?_))
      have hrs : (W6.setCells w.heap.size 0 [.int .i64 s.q.t, .int .i64 s.q.i, .slice A' n' c', .bool false]).rangeAt w.heap.size 0 [.int .i64 s.q.t, .int .i64 s.q.i, .slice A' n' c', .bool false] := by
        obtain ⟨cs', h1, h2⟩ := heap_setCells_here w.heap.size 55 [.int .i64 s.q.t, .int .i64 s.q.i, .slice A' n' c', .bool false] W6 _ 0 H6.out.2.2.1 (by simp)
        intro j u hj
        rw [Nat.zero_add, cell_of_row _ _ _ _ _ _ h1, ← Array.getElem?_toList, h2]
        exact hj
      refine bodyPost_ret (results_cell_mid rfl _ _ w.heap.size 0 [.int .i64 s.q.t, .int .i64 s.q.i, .slice A' n' c', .bool false] _ rfl hrs Try.underlying55 rfl size_sent) rfl ?_
      have hmap : (vs.set i ⟨nextX s.q, s.A, s.n, s.c⟩).map Xr.q = stepQ (vs.map Xr.q) i s.q := by
        unfold stepQ
        rw [if_neg hg4, List.map_set]
      have hT6 : TbAt W6 tb (.slice (some ⟨g, 0, none⟩) vs.length c) now (vs.set i ⟨nextX s.q, s.A, s.n, s.c⟩) := by
        refine ⟨H6.out.2.2.2.trans HT.out.1.blk, by rw [List.length_set]; exact H6.out.1, fun y hy => ?_, by rw [hmap]; exact HT.out.1.good.step (by rw [List.getElem?_map, HH.out.2.1]; rfl), HT.out.1.nw⟩
        rcases List.mem_or_eq_of_mem_set hy with hy | rfl
        · exact (HT.out.1.each y hy).fx H6.out.2.1 HT.out.1.blk HT.out.1.row
        · exact (HT.out.1.each s (List.mem_of_getElem? HH.out.2.1)).fx H6.out.2.1 HT.out.1.blk HT.out.1.row
      refine ⟨A', n', c', _, _, by rw [HG.out.2.1, hlo], ?_, hT6.sent H6.out.2.2.1 _, hmap, rfl, ?_⟩
      · exact (HO.out.fx H6.out.2.1 (HT.out.1.blk) HT.out.1.row).sent H6.out.2.2.1 _
      · exact ((Fx.below HT.out.2).trans H6.out.2.1).sent H6.out.2.2.1 (Nat.le_refl _) _

end Go.Proofs.Ytkhikpbchimodaa
