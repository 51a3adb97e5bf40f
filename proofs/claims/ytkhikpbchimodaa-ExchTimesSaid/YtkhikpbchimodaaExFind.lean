/-
  Exchanges: whether there is one, and whose time is up first.
-/
import Derived.Test.YtkhikpbchimodaaExRow
namespace Go.Proofs.Ytkhikpbchimodaa
open Go.RowKit
set_option maxRecDepth 100000
set_option linter.unusedVariables false
set_option maxHeartbeats 2000000 in
theorem exfind_f {tb : Nat} {v : Value} {now : Int} {vs : List Xr} {w : World} (h : TbAt w tb v now vs) (t i : Int) : Calls Try.prog 31 #[.pointer (some ⟨tb, 0, none⟩), .int .i64 t, .int .i64 i] w fun e w' => e = .returned (.int .i64 (idxX (hitX t i) (vs.map Xr.q))) ∧ Below w.heap.size w w' := by
  obtain ⟨A, c, rfl, _, _, hah, _⟩ := h.open_
  have hcall := exindex_f w.heap.size (w.heap.size + 1) t i A vs.length c vs
  have hfew := h.few
  have hlt := h.lt
  have c0 := h.cell0
  have HH := Lib.hid hah
  have HC := Lib.hid hcall
  clear h hah hcall
  obtain ⟨n, hn⟩ : ∃ n, vs.length = n := ⟨_, rfl⟩
  have HN := Lib.hid hn
  rw [hn] at c0 hfew
  clear hn
  go_enter Try.func31, Try.ntmps31
  go_wp2_with fail
  refine calls_at_world (F := fun W => Below w.heap.size w W ∧ w.heap.size + 2 ≤ W.heap.size ∧ W.cell? ⟨w.heap.size, 0, none⟩ = some (.int .i64 t) ∧ W.cell? ⟨w.heap.size + 1, 0, none⟩ = some (.int .i64 i)) ⟨((Below.refl _ _).alloc (Nat.le_refl _) _).alloc (by rw [alloc_size]; omega) _, by rw [alloc_size, alloc_size]; exact Nat.le_refl _, by rw [cell_of_row _ _ _ _ _ _ (heap_alloc2_old w _ _)]; rfl, by rw [cell_of_row _ _ _ _ _ _ (heap_alloc2_new w _ _)]; rfl⟩ fun w1 ⟨b1, s1, d1, d2⟩ => ?_
  have hz := HH.out.below b1
  rw [← HN.out]
  refine (HC.out w1 (hz.more b1.size) (by rw [HN.out]; omega) (by omega) (by omega) d1 d2).mono ?_
  rintro e w2 ⟨rfl, b2⟩
  have H2 := Lib.hid (b1.trans (b2.mono b1.size))
  clear b1 b2 d1 d2 hz s1
  go_wp2
  go_ret
  exact ⟨rfl, H2.out⟩
theorem exhas_f {tb : Nat} {v : Value} {now : Int} {vs : List Xr} {w : World} (h : TbAt w tb v now vs) (t i : Int) : Calls Try.prog 22 #[.pointer (some ⟨tb, 0, none⟩), .int .i64 t, .int .i64 i] w fun e w' => e = .returned (.bool ((vs.map Xr.q).any (hitX t i))) ∧ Below w.heap.size w w' := by
  have hc := exfind_f h t i
  clear h
  rcases idxX_cases (hitX t i) (vs.map Xr.q) with ⟨h1, h2⟩ | ⟨k, s, h1, _, _, h2⟩
  · rw [h1] at hc
    rw [h2]
    have HC := Lib.hid hc
    clear hc h1 h2
    go_enter Try.func22, Try.ntmps22
    go_wp2_with fail
    refine HC.out.mono ?_
    rintro e w1 ⟨rfl, b1⟩
    have H1 := Lib.hid b1
    clear b1
    go_wp2
    go_ret
    exact ⟨rfl, H1.out⟩
  · rw [h1] at hc
    rw [h2]
    have HC := Lib.hid hc
    clear hc h1 h2
    go_enter Try.func22, Try.ntmps22
    go_wp2_with fail
    refine HC.out.mono ?_
    rintro e w1 ⟨rfl, b1⟩
    have H1 := Lib.hid b1
    clear b1
    have hk : (0 : Int) ≤ k := by omega
    go_wp2
    go_ret
    exact ⟨rfl, H1.out⟩
/-- The first place as the program tells it. -/
def fstX (qs : List Xq) : Nat → Int
  | 0 => -1
  | k + 1 => (fmu (qs.map Xq.u) (k + 1) : Int)
theorem fstX_some {qs : List Xq} (h : 0 < qs.length) : fstX qs qs.length = (fstQ qs : Int) := by
  unfold fstQ
  cases hq : qs.length with
  | zero => omega
  | succ n => rfl
set_option maxHeartbeats 4000000 in
theorem exfirst_f {tb : Nat} {v : Value} {now : Int} {vs : List Xr} {w : World} (h : TbAt w tb v now vs) : Calls Try.prog 33 #[.pointer (some ⟨tb, 0, none⟩)] w fun e w' => e = .returned (.int .i64 (fstX (vs.map Xr.q) vs.length)) ∧ Below w.heap.size w w' := by
  obtain ⟨A, c, rfl, hc, hm, hah, _⟩ := h.open_
  have hfew := h.few
  have hlt := h.lt
  obtain ⟨n, hn⟩ : ∃ n, vs.length = n := ⟨_, rfl⟩
  have HN := Lib.hid hn
  have hca : ∀ W, Below w.heap.size w W → W.cell? ⟨tb, 0, none⟩ = some (.slice A n c) := fun W hb => by rw [← hn]; exact (h.below hb).cell0
  have HC := Lib.hid hca
  rw [hn] at hfew hah hc ⊢
  have hat : ∀ (k : Nat) (s : Xr), vs[k]? = some s → (((vs.map Xr.q).map Xq.u)[k]?).getD 0 = s.q.u := fun k s hs => by rw [List.getElem?_map, List.getElem?_map, hs]; rfl
  obtain ⟨ts, hts⟩ : ∃ ts, (vs.map Xr.q).map Xq.u = ts := ⟨_, rfl⟩
  have hfx : ∀ k, fstX (vs.map Xr.q) (k + 1) = (fmu ts (k + 1) : Int) := fun k => by rw [← hts]; rfl
  rw [hts] at hat
  have HX := Lib.hid (And.intro hah (And.intro hat hfx))
  have hcm : (c : Int) ≤ 9223372036854775807 := by simp only [maxLen] at hm; omega
  have c0 := hca w (Below.refl _ _)
  clear h hca hn hah hat hts hfx
  go_enter Try.func33, Try.ntmps33
  go_wp2
  go_loopw [3, 11] (fun fv iv wr => ∃ k : Nat, k ≤ n ∧ iv = .int .i64 (k : Int) ∧ fv = .int .i64 (fstX (vs.map Xr.q) k) ∧ Aside (Below w.heap.size w wr)) (fun _ iv _ => n - (intOf iv).toNat)
  case atStart => exact ⟨0, Nat.zero_le _, rfl, rfl, Below.refl _ _⟩
  case round =>
    obtain ⟨k, hk, rfl, rfl, hb⟩ := hrel
    by_cases hlt : k < n
    · have hwr := HX.out.1.below hb.out
      obtain ⟨s, hs⟩ := hwr.get hlt
      obtain ⟨b, off, rfl, hbb, _⟩ := hwr.place (by omega)
      have hrg := hwr.range hs
      have hsu := HX.out.2.1 k s hs
      simp only [xrK, Xr.vals] at hrg
      have hkI : (k : Int) < n := by omega
      have hkc : (k : Int) < c := by omega
      have ho : ∀ W, Below wr.heap.size wr W → W.cell? ⟨tb, 0, none⟩ = some (.slice (some ⟨b, off, none⟩) n c) := fun W hw => HC.out W (hb.out.trans (hw.mono hb.out.size))
      have hbA : ∀ o, Below wr.heap.size wr (wr.alloc o) := fun o => alloc_below wr o
      cases k with
      | zero =>
        rw [show fstX (vs.map Xr.q) 0 = -1 from rfl]
        have HH := Lib.hid (HX.out.2.2 0)
        have HB := Lib.hid (And.intro hb.out (And.intro ho hbA))
        rw [show ((0 : Nat) : Int) = 0 from rfl] at *
        have cc := ho wr (Below.refl _ _)
        clear hb hs hwr hsu ho hbA
        go_wp2_with (refine wpList_load_mid rfl 65 (.tmp 14) rfl b (off + 0 * 6) rfl [.int .i64 s.q.t, .int .i64 s.q.i, .slice s.A s.n s.c, .int .i64 (s.q.g : Int), .int .i64 s.q.wt, .int .i64 s.q.u] _ hrg Try.underlying65 rfl size_xr ?_)
        go_quiet (fail)
        go_wp2
        go_roundw
        case rel => exact ⟨1, by omega, by first | rfl | go_num, by rw [HH.out, fmu_one]; rfl, (show Aside _ from HB.out.1.trans (((HB.out.2.2 _).trans (drewN_below _ _ _)).mono HB.out.1.size))⟩
        case measure => simp [intOf]; omega
      | succ k =>
        have hfl := fmu_lt ts (k + 1) (by omega)
        have hfx := HX.out.2.2 k
        have hfx2 := HX.out.2.2 (k + 1)
        have hdef : fmu ts (k + 1 + 1) = if (ts[k + 1]?).getD 0 < (ts[fmu ts (k + 1)]?).getD 0 then k + 1 else fmu ts (k + 1) := rfl
        rw [hdef, hsu] at hfx2
        obtain ⟨r, hr⟩ : ∃ r, fmu ts (k + 1) = r := ⟨_, rfl⟩
        rw [hr] at hfl hfx hfx2
        obtain ⟨s0, hs0⟩ := hwr.get (show r < n by omega)
        rw [HX.out.2.1 r s0 hs0] at hfx2
        rw [hfx]
        have hrI : (r : Int) < n := by omega
        have hr0 : (0 : Int) ≤ r := by omega
        have hrn : ¬ (r : Int) < 0 := by omega
        have g5 := (hwr.range hs0) 5 _ rfl
        have gg : ∀ o, (wr.alloc o).cell? ⟨b, off + r * 6 + 5, none⟩ = some (.int .i64 s0.q.u) := fun o => ((hbA o).cell (p := ⟨b, off + r * 6 + 5, none⟩) (Nat.lt_of_lt_of_le hbb hb.out.size)).trans g5
        have cc := fun o => ho _ (hbA o)
        obtain ⟨k1, hk1⟩ : ∃ k1, k + 1 = k1 := ⟨_, rfl⟩
        have HB := Lib.hid (And.intro hb.out (And.intro hbA (And.intro hfx2 hk1)))
        rw [hk1] at hkI hkc hrg hfl hk hlt ⊢
        clear hb hs hs0 hwr hsu ho hbA hfx hfx2 hdef hr hk1 g5
        by_cases hless : s.q.u < s0.q.u
        · go_wp2_with (refine wpList_load_mid rfl 65 (.tmp 14) rfl b (off + k1 * 6) rfl [.int .i64 s.q.t, .int .i64 s.q.i, .slice s.A s.n s.c, .int .i64 (s.q.g : Int), .int .i64 s.q.wt, .int .i64 s.q.u] _ hrg Try.underlying65 rfl size_xr ?_)
          go_quiet (fail)
          go_wp2
          go_roundw
          case rel => exact ⟨k1 + 1, by omega, by first | rfl | go_num, by rw [← HB.out.2.2.2, HB.out.2.2.1, if_pos hless], (show Aside _ from HB.out.1.trans (((HB.out.2.1 _).trans (drewN_below _ _ _)).mono HB.out.1.size))⟩
          case measure => simp [intOf]; omega
        · go_wp2_with (refine wpList_load_mid rfl 65 (.tmp 14) rfl b (off + k1 * 6) rfl [.int .i64 s.q.t, .int .i64 s.q.i, .slice s.A s.n s.c, .int .i64 (s.q.g : Int), .int .i64 s.q.wt, .int .i64 s.q.u] _ hrg Try.underlying65 rfl size_xr ?_)
          go_quiet (fail)
          go_wp2
          go_roundw
          case rel => exact ⟨k1 + 1, by omega, by first | rfl | go_num, by rw [← HB.out.2.2.2, HB.out.2.2.1, if_neg (by omega)], (show Aside _ from HB.out.1.trans (((HB.out.2.1 _).trans (drewN_below _ _ _)).mono HB.out.1.size))⟩
          case measure => simp [intOf]; omega
    · obtain rfl : k = n := by omega
      have hkI : ¬ (k : Int) < k := by omega
      have HB := Lib.hid hb.out
      clear hb
      go_wp2
      go_ret
      exact ⟨rfl, HB.out⟩
def NextQ (qs : List Xq) (w : World) (e : Ending) (w' : World) : Prop := (match qs[fstQ qs]? with | some q => e = .returned (.tuple #[.int .i64 q.u, .bool true]) | none => e = .returned (.tuple #[.int .i64 0, .bool false])) ∧ Below w.heap.size w w'
set_option maxHeartbeats 2000000 in
theorem exnext_f {tb : Nat} {v : Value} {now : Int} {vs : List Xr} {w : World} (h : TbAt w tb v now vs) : Calls Try.prog 19 #[.pointer (some ⟨tb, 0, none⟩)] w (NextQ (vs.map Xr.q) w) := by
  have hc := exfirst_f h
  have hlt := h.lt
  by_cases h0 : vs.length = 0
  · obtain rfl := List.eq_nil_of_length_eq_zero h0
    have hc1 : Calls Try.prog 33 #[.pointer (some ⟨tb, 0, none⟩)] w fun e w' => e = .returned (.int .i64 (-1)) ∧ Below w.heap.size w w' := hc
    have HC := Lib.hid hc1
    clear hc hc1 h h0
    go_enter Try.func19, Try.ntmps19
    go_wp2_with fail
    refine HC.out.mono ?_
    rintro e w1 ⟨rfl, b1⟩
    have H1 := Lib.hid b1
    clear b1
    go_wp2
    go_ret2
    exact ⟨rfl, H1.out⟩
  · have hpos : 0 < (vs.map Xr.q).length := by rw [List.length_map]; omega
    have hlt2 := fstQ_lt hpos
    have hfs := fstX_some hpos
    rw [List.length_map] at hfs hlt2
    rw [hfs] at hc
    obtain ⟨k, hk⟩ : ∃ k, fstQ (vs.map Xr.q) = k := ⟨_, rfl⟩
    rw [hk] at hc hlt2
    obtain ⟨A, c, rfl, hcc, hm, hah, _⟩ := h.open_
    obtain ⟨s, hs⟩ := hah.get hlt2
    have hq : (vs.map Xr.q)[fstQ (vs.map Xr.q)]? = some s.q := by rw [hk, List.getElem?_map, hs]; rfl
    have hP : ∀ w', Below w.heap.size w w' → NextQ (vs.map Xr.q) w (.returned (.tuple #[.int .i64 s.q.u, .bool true])) w' := fun w' hb => by
      unfold NextQ; rw [hq]; exact ⟨rfl, hb⟩
    have HP := Lib.hid hP
    obtain ⟨b, off, rfl, hbb, _⟩ := hah.place (by omega)
    have d5 := (hah.range hs) 5 _ rfl
    have hD := Lib.hid fun W (hb : Below w.heap.size w W) => And.intro (h.below hb).cell0 ((hb.cell (p := ⟨b, off + k * 6 + 5, none⟩) hbb).trans d5)
    have hkI : (k : Int) < vs.length := by omega
    have hkn : ¬ (k : Int) < 0 := by omega
    have hkc : (k : Int) < c := by omega
    have hfew := h.few
    generalize vs.length = n at *
    have HC := Lib.hid hc
    clear hc h hah hs hfs hk hq hP d5 hpos
    go_enter Try.func19, Try.ntmps19
    go_wp2_with fail
    refine HC.out.mono ?_
    rintro e w1 ⟨rfl, b1⟩
    obtain ⟨e1, e2⟩ := hD.out w1 b1
    have H1 := Lib.hid (HP.out w1 b1)
    clear b1
    go_wp2
    go_ret2
    exact H1.out
end Go.Proofs.Ytkhikpbchimodaa
