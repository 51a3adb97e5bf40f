/-
  Watches taken away by their path; all watches.
-/
import Derived.Test.YtmaeofhgbelciaaWaTab2
namespace Go.Proofs.Ytmaeofhgbelciaa
open Go.RowKit
set_option maxRecDepth 100000
set_option maxRecDepth 100000
set_option linter.unusedVariables false
theorem RowK.At.take_ {α : Type} {z : Nat} {K : RowK α z} {w : World} {B n : Nat} {A : Option Addr} {vs : List α} (h : K.At w B A n vs) (k : Nat) (hk : k ≤ n) : K.At w B A k (vs.take k) := by
  refine ⟨by rw [List.length_take, h.len]; omega, fun hn => ?_⟩
  obtain ⟨b, off, e, hb, hc⟩ := h.place (by omega)
  refine ⟨b, off, e, hb, fun i s hs => hc i s ?_⟩
  rw [List.getElem?_take] at hs
  split at hs
  · exact hs
  · cases hs
set_option maxHeartbeats 2000000 in
theorem iequal_f (A1 A2 : Option Addr) (n1 c1 n2 c2 : Nat) (l1 l2 : List Int) (w : World) (B1 B2 : Nat) (h1 : inK.At w B1 A1 n1 l1) (h2 : inK.At w B2 A2 n2 l2) (hn : n1 ≤ 1048576) (hn2 : n2 ≤ 1048576) :
    Calls Try.prog 43 #[.slice A1 n1 c1, .slice A2 n2 c2] w fun e w' => e = .returned (.bool (decide (l1 = l2))) ∧ ∃ m, w' = w.drewN m := by
  have hl1 := Lib.hid h1.len
  have hl2 := Lib.hid h2.len
  have hnI : (n1 : Int) ≤ 1048576 := by omega
  have hnJ : (n2 : Int) ≤ 1048576 := by omega
  by_cases hne : n1 = n2
  · obtain rfl := hne
    have hb : ((n1 : Int) != (n1 : Int)) = false := by simp
    go_enter Try.func43, Try.ntmps43
    go_wp2
    go_loopw [5, 13] (fun _ i wr => ∃ k : Nat, k ≤ n1 ∧ i = .int .i64 k ∧ Aside (l1.take k = l2.take k ∧ ∃ m, wr = w.drewN m)) (fun _ i _ => n1 - (intOf i).toNat)
    case atStart => exact ⟨0, by omega, rfl, (show Aside _ from ⟨rfl, 0, rfl⟩)⟩
    case round =>
      obtain ⟨k, hk, rfl, hrel⟩ := hrel
      obtain ⟨htk, q, rfl⟩ := hrel.out
      have Htk := Lib.hid htk; clear htk hrel
      by_cases hlt : k < n1
      · have hltI : (k : Int) < n1 := by omega
        obtain ⟨b1, o1, rfl, hb1, hc1⟩ := h1.place (by omega)
        obtain ⟨b2, o2, rfl, hb2, hc2⟩ := h2.place (by omega)
        obtain ⟨u1, hu1⟩ := h1.get hlt
        obtain ⟨u2, hu2⟩ := h2.get hlt
        have hk1 : w.cell? ⟨b1, o1 + k, none⟩ = some (.int .i64 u1) := by have := hc1 k u1 hu1 0 _ rfl; rwa [Nat.mul_one, Nat.add_zero] at this
        have hk2 : w.cell? ⟨b2, o2 + k, none⟩ = some (.int .i64 u2) := by have := hc2 k u2 hu2 0 _ rfl; rwa [Nat.mul_one, Nat.add_zero] at this
        clear hc1 hc2
        by_cases hu : u1 = u2
        · subst hu
          have huu : (u1 != u1) = false := by simp
          have huv : (u1 == u1) = true := beq_self_eq_true _
          have Hu := Lib.hid (And.intro hu1 hu2)
          clear hu1 hu2
          go_wp2
          go_quiet (fail)
          go_wp2
          go_roundw
          case rel => exact ⟨k + 1, by omega, by go_num, (show Aside _ from ⟨by rw [List.take_add_one, List.take_add_one, Htk.out, Hu.out.1, Hu.out.2], _, rfl⟩)⟩
          case measure => simp [intOf]; omega
        · have huu : (u1 != u2) = true := bne_iff_ne.2 hu
          have huv : (u1 == u2) = false := beq_eq_false_iff_ne.2 hu
          have Hd : Hid (l1 ≠ l2) := by
            intro e; subst e; rw [hu1] at hu2; exact hu (Option.some.inj hu2)
          clear hu1 hu2
          go_wp2
          go_quiet (fail)
          go_wp2
          go_ret
          exact ⟨retB (decide_eq_false Hd.out).symm, q + nq, World.drewN_drewN ..⟩
      · have hltI : ¬ (k : Int) < n1 := by omega
        go_wp2
        go_ret
        refine ⟨retB (decide_eq_true ?_).symm, _, rfl⟩
        have h3 := Htk.out
        rw [List.take_of_length_le (by rw [hl1.out]; omega), List.take_of_length_le (by rw [hl2.out]; omega)] at h3
        exact h3
  · have hb : ((n1 : Int) != (n2 : Int)) = true := bne_iff_ne.2 (by omega)
    have Hd : Hid (l1 ≠ l2) := by
      intro e; subst e; have := hl1.out; have := hl2.out; omega
    go_enter Try.func43, Try.ntmps43
    go_wp2
    go_ret
    exact ⟨retB (decide_eq_false Hd.out).symm, 0, rfl⟩
def begQ (p q : List Int) : Bool := decide (p.length ≤ q.length) && decide (q.take p.length = p)
set_option maxHeartbeats 4000000 in
theorem dp1_f (b1 : Nat) (A0 : Option Addr) (n0 c0 : Nat) (p : List Int) (s : Wr) (w : World) (hs : Wrd w w.heap.size s) (hn : Wsm s) (h1 : b1 < w.heap.size) (hc1 : w.cell? ⟨b1, 0, none⟩ = some (.slice A0 n0 c0)) (hb0 : inK.At w w.heap.size A0 n0 p) (hn0 : (n0 : Int) ≤ 1048576) (hcap : s.pn ≤ s.pc) :
    Calls Try.prog 42 #[.agg s.vals.toArray, .pointer (some ⟨b1, 0, none⟩)] w fun e w' => e = .returned (.bool (begQ p s.q.pa)) ∧ Below w.heap.size w w' := by
  obtain ⟨⟨sv, tok, pa, ⟨ca, cb, cha, chb, cg, cl, cs, chg, chl, chs⟩, ⟨k, m, str, l, o, i⟩, t, sq⟩, tA, tn, tc, pA, pn, pc, bA, bn, bc⟩ := s
  have hlp := hb0.len
  have hlq := hs.2.1.len
  have hpn := hn.2.1
  dsimp only [Wr.vals, begQ] at *
  rw [hlp, hlq]
  have hb := alloc_below w (.cells #[.int .i64 sv, .slice tA tn tc, .slice pA pn pc, .int .i64 ca, .int .i64 cb, .bool cha, .bool chb, .int .i64 cg, .int .i64 cl, .int .i64 cs, .bool chg, .bool chl, .bool chs, .int .i64 k, .int .i64 m, .string str, .slice bA bn bc, .int .i64 o, .int .i64 i, .int .i64 t, .int .i64 sq] 37)
  by_cases hle : n0 ≤ pn
  · rw [decide_eq_true hle, Bool.true_and]
    have hleI : (n0 : Int) ≤ pn := by omega
    have hcI : (n0 : Int) ≤ pc := by omega
    have hcP : (pn : Int) ≤ pc := by omega
    have he := fun W (hW : Below w.heap.size w W) => iequal_f pA A0 n0 pc n0 c0 _ p W _ _ ((hs.2.1.below hW).take_ n0 hle) (hb0.below hW) (by omega) (by omega)
    obtain ⟨q, hq⟩ : ∃ q, decide (pa.take n0 = p) = q := ⟨_, rfl⟩
    simp only [hq] at he
    rw [hq]
    have HH := Lib.hid (And.intro he hb)
    clear he hb hq hs hb0 hn hlp hlq
    go_enter Try.func42, Try.ntmps42
    go_wp2
    go_quiet ((go_at_call 43; exact Calls.quiet_of (HH.out.1 _ (HH.out.2.trans (drewN_below _ _ _)))))
    go_wp2
    go_ret
    exact ⟨rfl, HH.out.2.trans (drewN_below _ _ _)⟩
  · rw [decide_eq_false hle, Bool.false_and]
    have hleI : ¬ (n0 : Int) ≤ pn := by omega
    have HH := Lib.hid hb
    clear hb hs hb0 hn hlp hlq
    go_enter Try.func42, Try.ntmps42
    go_wp2
    go_quiet (fail)
    go_wp2
    go_ret
    exact ⟨rfl, HH.out.trans (drewN_below _ _ _)⟩
set_option maxHeartbeats 4000000 in
theorem wdroppath_f {tb : Nat} {v : Value} {vs : List Wr} {w : World} (h : WtAt w tb v vs) (A : Option Addr) (n c : Nat) (p : List Int) (hb : ∀ W, Fx tb v.ownBlock w W → inK.At W W.heap.size A n p) (hn : (n : Int) ≤ 1048576) (hcap : ∀ s ∈ vs, s.pn ≤ s.pc) :
    Calls Try.prog 22 #[.pointer (some ⟨tb, 0, none⟩), .slice A n c] w fun e w' => e = .returned (.int .i64 ((vs.length : Int) - ((leftW (fun q => begQ p q.pa) vs).length : Int))) ∧ AwayPost w tb v (leftW (fun q => begQ p q.pa) vs) w' := by
  have hb2 := alloc_below w (.cells #[.slice A n c] 32)
  have h2 := h.below hb2
  have hfx0 : Fx tb v.ownBlock w (w.alloc (.cells #[.slice A n c] 32)) := Fx.below hb2
  have hz : ∀ k, v.ownBlock = some k → k < w.heap.size := fun k e => (h.row.lt k e).2
  have haw := away_f h2 42 #[.pointer (some ⟨w.heap.size, 0, none⟩)] (fun q => begQ p q.pa) fn_dp (fun W s hg hs hrd hsm => dp1_f w.heap.size A n c p s W hrd hsm (by have := hg.size; rw [alloc_size] at this; omega) (by
    rw [World.cell?_of_block (hg.block w.heap.size (by rw [alloc_size]; omega) (fun q => by have := hz _ q.symm; omega)), cell_of_row _ _ _ _ _ _ (heap_alloc_new w _)]; rfl) (by
      exact hb W (hfx0.trans (Fx.grown hg))) hn (hcap s hs))
  obtain ⟨n0, hn0⟩ : ∃ n0, vs.length = n0 := ⟨_, rfl⟩
  obtain ⟨m0, hm0⟩ : ∃ m0, (leftW (fun q => begQ p q.pa) vs).length = m0 := ⟨_, rfl⟩
  replace haw : Calls Try.prog 40 #[.pointer (some ⟨tb, 0, none⟩), .func (.func 42) #[] #[.pointer (some ⟨w.heap.size, 0, none⟩)]] (w.alloc (.cells #[.slice A n c] 32)) fun e w' => e = .returned (.int .i64 ((n0 : Int) - (m0 : Int))) ∧ AwayPost w tb v (leftW (fun q => begQ p q.pa) vs) w' := by
    rw [← hn0, ← hm0]
    refine haw.mono ?_
    rintro e w' ⟨v', rfl, hA, hF, hv⟩
    exact ⟨rfl, v', hA, hfx0.trans hF, hv⟩
  rw [hn0, hm0]
  have HH := Lib.hid haw
  clear haw hn0 hm0 hb2 h2 h hfx0 hz hb hcap
  go_enter Try.func22, Try.ntmps22
  go_wp2_with fail
  refine HH.out.mono ?_
  rintro e w2 ⟨rfl, hA⟩
  have H2 := Lib.hid hA
  clear hA
  try dsimp only
  go_wp2
  go_ret
  exact ⟨rfl, H2.out⟩
theorem Oi.cap {w : World} {B n c : Nat} {A : Option Addr} {l : List Int} (h : Oi w B A n c l) : n ≤ c := by
  obtain ⟨A', c', e, hc, _⟩ := RowK.At.of_own h.1
  injection e with _ _ e3
  omega
/-- Watches told: a row of the call's own, whose memory is its own. -/
structure ToldAt (w : World) (B : Nat) (A : Option Addr) (n c : Nat) (X : List Wr) : Prop where
  row : w.ownsRow B 37 21 (.slice A n c) n (wK.all X)
  each : ∀ s ∈ X, Wok w B s ∧ Wsm s
theorem ToldAt.below {w w' : World} {B n c : Nat} {A : Option Addr} {X : List Wr} (h : ToldAt w B A n c X) (hb : Below w.heap.size w w') : ToldAt w' B A n c X :=
  ⟨rk_below h.row hb, fun s hs => ⟨(h.each s hs).1.below hb, (h.each s hs).2⟩⟩
theorem ToldAt.mono {w : World} {B B' n c : Nat} {A : Option Addr} {X : List Wr} (h : ToldAt w B A n c X) (hb : B' ≤ B) : ToldAt w B' A n c X :=
  ⟨rk_mono h.row hb, fun s hs => ⟨(h.each s hs).1.mono hb, (h.each s hs).2⟩⟩
theorem ToldAt.len {w : World} {B n c : Nat} {A : Option Addr} {X : List Wr} (h : ToldAt w B A n c X) : X.length = n := RowK.own_len h.row
/-- One more told: the clone lies in a block of its own. -/
theorem ToldAt.push {w w3 w4 : World} {B n c c4 : Nat} {A A4 : Option Addr} {X : List Wr} {s : Wr} {o : Obj} (h : ToldAt w B A n c X) (hb : Below w.heap.size w w3) (hB : B ≤ w.heap.size) (hs : Wok w3 w.heap.size s) (hm : Wsm s) (hr : w4.ownsRow B 37 21 (.slice A4 (n + 1) c4) (n + 1) (wK.all (X ++ [s]))) (hg : (w3.alloc o).grownBy w4 (Value.ownBlock (.slice A n c))) : ToldAt w4 B A4 (n + 1) c4 (X ++ [s]) := by
  have h3 := (h.below hb).below (alloc_below w3 o)
  refine ⟨hr, fun x hx => ?_⟩
  rcases List.mem_append.1 hx with hx | hx
  · exact ⟨(h3.each x hx).1.grown h3.row hg, (h3.each x hx).2⟩
  · obtain rfl := List.mem_singleton.1 hx
    exact ⟨((hs.mono hB).below (alloc_below w3 o)).grown h3.row hg, hm⟩
end Go.Proofs.Ytmaeofhgbelciaa
