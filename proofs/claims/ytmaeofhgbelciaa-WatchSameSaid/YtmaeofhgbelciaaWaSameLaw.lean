/-
  The law WatchSame.
-/
import Derived.Test.YtmaeofhgbelciaaWaSame0
import Derived.Deep.Cut
import Derived.Deep.CutRange
import Derived.Deep.CutBlock
namespace Go.Proofs.Ytmaeofhgbelciaa
open Go.RowKit
set_option maxRecDepth 100000
set_option linter.unusedVariables false
set_option linter.unusedSimpArgs false
theorem set_here {b : Nat} {e : TypeId} {W : World} {cs : Array Value} (us : List Value) (h : W.heap[b]? = some (.cells cs e)) (hl : us.length = cs.size) : (W.setCells b 0 us).heap[b]? = some (.cells us.toArray e) := by
  obtain ⟨cs', h1, h2⟩ := heap_setCells_here b e us W cs 0 h (by omega)
  rw [h1]
  rw [List.take_zero, List.nil_append, List.drop_eq_nil_of_le (by rw [Array.length_toList]; omega), List.append_nil] at h2
  rw [← h2]
theorem there_here {b n : Nat} {e : TypeId} {W : World} {cs : Array Value} (h : W.heap[b]? = some (.cells cs e)) (hn : n = cs.size) : W.there b 0 n := fun j hj => ⟨by rw [Nat.zero_add, cell_of_row _ _ _ _ _ _ h, Array.getElem?_eq_getElem (by omega)]; rfl, by simp [World.frozen?, h]⟩
theorem range_here {b : Nat} {e : TypeId} {fr : Nat × Nat} {W : World} {cs : Array Value} (us : List Value) (h : W.heap[b]? = some (.cells cs e fr)) (hc : cs.toList = us) : W.rangeAt b 0 us := fun j u hj => by
  rw [Nat.zero_add, cell_of_row _ _ _ _ _ _ h, ← Array.getElem?_toList, hc]; exact hj
theorem Fx.setv (w : World) (g : Nat) (us : List Value) : Fx g none w (w.setCells g 0 us) := by
  have h := rk_setCells w g us 0
  exact ⟨h.os, h.tape, h.output, h.size, fun k hk h1 _ => h.block k hk (fun e => h1 (by injection e))⟩
/-- A table stands where a value of one's own is written. -/
theorem WtAt.setv {w : World} {tb g : Nat} {v : Value} {vs : List Wr} {cs : Array Value} {fr : Nat × Nat} (h : WtAt w tb v vs) (hg : w.heap[g]? = some (.cells cs 34 fr)) (us : List Value) : WtAt (w.setCells g 0 us) tb v vs := by
  have hf := Fx.setv w g us
  have hne : tb ≠ g := by
    intro e
    have hb := h.blk
    rw [e, hg] at hb
    injection hb with hb
    injection hb with _ hb
    exact absurd hb (by decide)
  have key : ∀ {u : Value}, u.ownBlock = none ∨ u.ownBlock ≠ (none : Option Nat) := fun {u} => Classical.em _
  exact ⟨(hf.block tb h.lt hne (by simp)).trans h.blk, hf.row_ h.row (rk_ne h.row hg (by decide)) key, fun s hs => ⟨(h.each s hs).1.fx hf (fun n c A e sz xs he ho => ⟨rk_ne ho hg (by rcases he with rfl | rfl <;> decide), key⟩), (h.each s hs).2⟩, h.few⟩
/-- The watch, and the value told last in a block of its own. -/
structure SmAt (w wr : World) (tb gl : Nat) (q : Wq) (lr : Vr) : Prop where
  bel : Below w.heap.size w wr
  add : AddS tb q wr
  lt : tb < gl
  lo : w.heap.size ≤ tb
  last : wr.heap[gl]? = some (.cells (vvals lr.q lr.A lr.n lr.c).toArray 34)
theorem SmAt.below {w wr w' : World} {tb gl : Nat} {q : Wq} {lr : Vr} (h : SmAt w wr tb gl q lr) (hb : Below wr.heap.size wr w') : SmAt w w' tb gl q lr :=
  ⟨h.bel.trans (hb.mono h.bel.size), by obtain ⟨v, vs, h1, h2⟩ := h.add; exact ⟨v, vs, h1.below hb, h2⟩, h.lt, h.lo, by rw [hb.block gl (Array.getElem?_eq_some_iff.1 h.last).1]; exact h.last⟩
theorem SmAt.put {w wr : World} {tb gl : Nat} {q : Wq} {lr : Vr} (h : SmAt w wr tb gl q lr) (u : Vr) : SmAt w (wr.setCells gl 0 (vvals u.q u.A u.n u.c)) tb gl q u :=
  ⟨below_setCells h.bel (Nat.le_of_lt (Nat.lt_of_le_of_lt h.lo h.lt)) _ 0, by obtain ⟨v, vs, h1, h2⟩ := h.add; exact ⟨v, vs, h1.setv h.last _, h2⟩, h.lt, h.lo, set_here _ h.last rfl⟩
theorem fx_keep {w w' : World} {tb g : Nat} {v : Value} {vs : List Wr} {cs : Array Value} {fr : Nat × Nat} (h : WtAt w tb v vs) (hf : Fx tb v.ownBlock w w') (hg : w.heap[g]? = some (.cells cs 34 fr)) (hne : g ≠ tb) : w'.heap[g]? = some (.cells cs 34 fr) := by
  rw [hf.block g (Array.getElem?_eq_some_iff.1 hg).1 hne (fun e => rk_ne h.row hg (by decide) e.symm)]
  exact hg
/-- What the drawn line's operations leave. -/
def SmR (g6 c6 : Nat) (cn : Int) (tA : Option Addr) (tn tc : Nat) (A1 : Option Addr) (n1 c1 : Nat) (k m : Int) (s : ByteArray) (bA : Option Addr) (bn bc : Nat) (vA : Option Addr) (vn vc : Nat) (o i : Int) : Nat → World → Value → Prop
  | 0, _, v => v = .slice (some ⟨g6, 0, none⟩) 1 c6
  | 1, _, v => v = .pointer (some ⟨g6, 0, none⟩)
  | 2, _, v => v = .pointer (some ⟨g6, 20, none⟩)
  | 3, _, v => v = .int .i64 cn
  | 4, _, v => v = .int .i64 cn
  | 5, _, v => v = .bool false
  | 6, _, v => v = .bool false
  | 7, _, v => v = .slice (some ⟨g6, 0, none⟩) 1 c6
  | 8, _, v => v = .pointer (some ⟨g6, 0, none⟩)
  | 9, _, v => v = .pointer (some ⟨g6, 0, none⟩)
  | 10, _, v => v = .int .i64 3
  | 11, _, v => v = .bool false
  | 12, _, v => v = .bool false
  | 13, _, v => v = .bool false
  | 14, _, v => v = .slice (some ⟨g6, 0, none⟩) 1 c6
  | 15, _, v => v = .pointer (some ⟨g6, 0, none⟩)
  | 16, _, v => v = .pointer (some ⟨g6, 1, none⟩)
  | 17, _, v => v = .slice tA tn tc
  | 18, _, v => v = .slice A1 n1 c1
  | 19, _, v => v = .bool true
  | 20, _, v => v = .bool false
  | 21, _, v => v = .bool false
  | 22, _, v => v = .bool false
  | 23, _, v => v = .slice (some ⟨g6, 0, none⟩) 1 c6
  | 24, _, v => v = .pointer (some ⟨g6, 0, none⟩)
  | 25, _, v => v = .pointer (some ⟨g6, 13, none⟩)
  | 26, _, v => v = .agg #[.int .i64 k, .int .i64 m, .string s, .slice bA bn bc, .int .i64 o, .int .i64 i]
  | 27, _, v => v = .agg #[.int .i64 k, .int .i64 m, .string s, .slice vA vn vc, .int .i64 o, .int .i64 i]
  | 28, _, v => v = .bool true
  | 29, _, v => v = .bool false
  | 30, _, v => v = .bool false
  | _, _, _ => True
theorem SmR.keep {g6 c6 : Nat} {cn : Int} {tA : Option Addr} {tn tc : Nat} {A1 : Option Addr} {n1 c1 : Nat} {k m : Int} {s : ByteArray} {bA : Option Addr} {bn bc : Nat} {vA : Option Addr} {vn vc : Nat} {o i : Int} (j : Nat) (w w' : World) (v : Value) (h : SmR g6 c6 cn tA tn tc A1 n1 c1 k m s bA bn bc vA vn vc o i j w v) : SmR g6 c6 cn tA tn tc A1 n1 c1 k m s bA bn bc vA vn vc o i j w' v := by
  match j, h with
  | 0, h => exact h
  | 1, h => exact h
  | 2, h => exact h
  | 3, h => exact h
  | 4, h => exact h
  | 5, h => exact h
  | 6, h => exact h
  | 7, h => exact h
  | 8, h => exact h
  | 9, h => exact h
  | 10, h => exact h
  | 11, h => exact h
  | 12, h => exact h
  | 13, h => exact h
  | 14, h => exact h
  | 15, h => exact h
  | 16, h => exact h
  | 17, h => exact h
  | 18, h => exact h
  | 19, h => exact h
  | 20, h => exact h
  | 21, h => exact h
  | 22, h => exact h
  | 23, h => exact h
  | 24, h => exact h
  | 25, h => exact h
  | 26, h => exact h
  | 27, h => exact h
  | 28, h => exact h
  | 29, h => exact h
  | 30, h => exact h
  | j + 31, _ => trivial
def SmS (tok : List UInt8) (A1 : Option Addr) (n1 c1 : Nat) (u : Vr) : Wr := ⟨⟨3, tok, [], zc, u.q, 0, 0⟩, A1, n1, c1, none, 0, 0, u.A, u.n, u.c⟩
theorem sm_vals (tok : List UInt8) (A1 : Option Addr) (n1 c1 : Nat) (k m : Int) (s : ByteArray) (l : List UInt8) (o i : Int) (A : Option Addr) (n c : Nat) : (SmS tok A1 n1 c1 ⟨⟨k, m, s, l, o, i⟩, A, n, c⟩).vals.toArray = #[.int .i64 3, .slice A1 n1 c1, .slice none 0 0, .int .i64 0, .int .i64 0, .bool false, .bool false, .int .i64 0, .int .i64 0, .int .i64 0, .bool false, .bool false, .bool false, .int .i64 k, .int .i64 m, .string s, .slice A n c, .int .i64 o, .int .i64 i, .int .i64 0, .int .i64 0] := rfl
theorem row_cells {w : World} {B : Nat} {A : Option Addr} {n : Nat} {us : List Vr} (h : vK.At w B A n us) {k : Nat} (hk : k < n) : ∃ b off u, A = some ⟨b, off, none⟩ ∧ b < B ∧ us[k]? = some u ∧ w.rangeAt b (off + k * 6) (vvals u.q u.A u.n u.c) := by
  obtain ⟨b, off, rfl, hb, _⟩ := h.place (by omega)
  obtain ⟨u, hu⟩ := h.get hk
  exact ⟨b, off, u, rfl, hb, hu, h.range hu⟩
set_option maxHeartbeats 32000000 in
theorem wsame_law (A : Option Addr) (n cp : Nat) (us : List Vr) (A1 : Option Addr) (n1 c1 : Nat) (tok : List UInt8) (w : World) (hV : vK.At w w.heap.size A n us ∧ ∀ u ∈ us, VaOk w u) (hc : n ≤ cp) (hm : cp ≤ maxLen) (hb : Bs w w.heap.size A1 n1 tok) (hc1 : n1 ≤ c1) (hm1 : c1 ≤ maxLen) :
    Calls Try.prog 5 #[.slice A n cp, .slice A1 n1 c1] w fun e w' => e = .returned (.bool true) ∧ Below w.heap.size w w' := by
  obtain ⟨i0, hi0, hz0, hz1, hz2⟩ := info_parts info_vl
  have HA := Lib.hid (walive_f w)
  have HV := Lib.hid hV
  have HB := Lib.hid hb
  have hln := hV.1.len
  unfold maxLen at hm hm1
  clear hV hb
  by_cases g1 : n ≤ 80
  · by_cases g2 : n = 0
    · subst g2
      go_enter Try.func5, Try.ntmps5
      go_wp2_with fail
      refine HA.out.mono ?_
      rintro e w1 ⟨rfl, hb1⟩
      try dsimp only
      go_wp2
      go_ret
      exact ⟨rfl, hb1⟩
    · by_cases g3 : n1 ≤ 8
      · have gI1 : ¬ (80 : Int) < n := by omega
        have gI2 : ¬ (n : Int) = 0 := by omega
        have gI3 : ¬ (8 : Int) < n1 := by omega
        have hB1 : decide ((80 : Int) < n) = false := decide_eq_false gI1
        have hB2 : ((n : Int) == 0) = false := beq_eq_false_iff_ne.2 gI2
        have hB3 : decide ((8 : Int) < n1) = false := decide_eq_false gI3
        clear gI1 gI2 gI3
        go_enter Try.func5, Try.ntmps5
        go_wp2_with fail
        refine HA.out.mono ?_
        rintro e w1 ⟨rfl, hb1⟩
        have H1 := Lib.hid hb1
        clear hb1
        try dsimp only
        go_wp2
        go_loopw [31] (fun v31 wr => ∃ k : Nat, k ≤ n ∧ v31 = .int .i64 (k : Int) ∧ Aside (Below w.heap.size w wr ∧ ∀ (j : Nat) (u : Vr), j < k → us[j]? = some u → shortQ u = true)) (fun v31 _ => n - (intOf v31).toNat)
        case atStart => exact ⟨0, Nat.zero_le _, rfl, (show Aside _ from ⟨H1.out, fun j u hj => absurd hj (Nat.not_lt_zero _)⟩)⟩
        case round =>
          obtain ⟨k, hk, rfl, hrel⟩ := hrel
          obtain ⟨hbw, hsh⟩ := hrel.out
          clear hrel
          by_cases hlt : k < n
          · have hltI : (k : Int) < n := by omega
            obtain ⟨b, off, u, rfl, hbb, hu, hr⟩ := row_cells (HV.out.1.below hbw) hlt
            obtain ⟨⟨k0, m0, s0, l0, o0, i9⟩, uA, un, uc⟩ := u
            have hc0 : wr.cell? ⟨b, off + k * 6, none⟩ = some (.int .i64 k0) := hr 0 _ rfl
            have hc1 : wr.cell? ⟨b, off + k * 6 + 1, none⟩ = some (.int .i64 m0) := hr 1 _ rfl
            have hc2 : wr.cell? ⟨b, off + k * 6 + 2, none⟩ = some (.string s0) := hr 2 _ rfl
            have hc3 : wr.cell? ⟨b, off + k * 6 + 3, none⟩ = some (.slice uA un uc) := hr 3 _ rfl
            have hc4 : wr.cell? ⟨b, off + k * 6 + 4, none⟩ = some (.int .i64 o0) := hr 4 _ rfl
            have hc5 : wr.cell? ⟨b, off + k * 6 + 5, none⟩ = some (.int .i64 i9) := hr 5 _ rfl
            obtain ⟨q, hq⟩ : ∃ q, shortQ ⟨⟨k0, m0, s0, l0, o0, i9⟩, uA, un, uc⟩ = q := ⟨_, rfl⟩
            have hs := fun W => short_f ⟨⟨k0, m0, s0, l0, o0, i9⟩, uA, un, uc⟩ W
            rw [hq] at hs
            have HS := Lib.hid (And.intro hs (And.intro hbw (And.intro hsh (And.intro hu hq))))
            clear hr hs hbw hsh hu hq
            cases q with
            | true =>
              go_wp2_with fail
              refine (HS.out.1 _).mono ?_
              rintro e w3 ⟨rfl, hb3⟩
              have H3 := Lib.hid (HS.out.2.1.trans (((alloc_below wr _).trans (hb3.mono (alloc_below wr _).size)).mono HS.out.2.1.size))
              clear hb3
              try dsimp only
              go_wp2
              go_roundw
              case rel =>
                refine ⟨k + 1, by omega, by go_num, (show Aside _ from ⟨H3.out, fun j u hj hu => ?_⟩)⟩
                by_cases e : j = k
                · subst e
                  rw [HS.out.2.2.2.1] at hu
                  obtain rfl := Option.some.inj hu
                  exact HS.out.2.2.2.2
                · exact HS.out.2.2.1 j u (by omega) hu
              case measure => simp [intOf]; omega
            | false =>
              go_wp2_with fail
              refine (HS.out.1 _).mono ?_
              rintro e w3 ⟨rfl, hb3⟩
              have H3 := Lib.hid (HS.out.2.1.trans (((alloc_below wr _).trans (hb3.mono (alloc_below wr _).size)).mono HS.out.2.1.size))
              clear hb3
              try dsimp only
              go_wp2
              go_ret
              exact ⟨rfl, H3.out⟩
          · obtain rfl : n = k := by omega
            have hltI : ¬ (n : Int) < n := by omega
            have hall : ∀ u ∈ us, shortQ u = true := fun u hu => by
              obtain ⟨j, hj⟩ := List.mem_iff_getElem?.1 hu
              exact hsh j u (by have := (List.getElem?_eq_some_iff.1 hj).1; omega) hj
            have HW := Lib.hid (And.intro hbw hall)
            clear hbw hall hsh
            obtain ⟨wL, rfl⟩ : ∃ x, x = wr := ⟨_, rfl⟩
            go_wp2_with fail
            refine (wnew_f wL).mono ?_
            rintro e w2 ⟨rfl, t2, b2, z2⟩
            have hb2 : Below w.heap.size w w2 := HW.out.1.trans (b2.mono HW.out.1.size)
            obtain ⟨b, off, u, rfl, hbb, hu, hr⟩ := row_cells (HV.out.1.below hb2) (k := 0) (by omega)
            have hum := List.mem_of_getElem? hu
            have huo := HV.out.2 u hum
            have hus := of_decide_eq_true (HW.out.2 u hum)
            obtain ⟨⟨k0, m0, s0, l0, o0, i9⟩, uA, un, uc⟩ := u
            dsimp only at huo hus
            have hc0 : w2.cell? ⟨b, off, none⟩ = some (.int .i64 k0) := by have := hr 0 _ rfl; simpa using this
            have hc1 : w2.cell? ⟨b, off + 1, none⟩ = some (.int .i64 m0) := by have := hr 1 _ rfl; simpa using this
            have hc2 : w2.cell? ⟨b, off + 2, none⟩ = some (.string s0) := by have := hr 2 _ rfl; simpa using this
            have hc3 : w2.cell? ⟨b, off + 3, none⟩ = some (.slice uA un uc) := by have := hr 3 _ rfl; simpa using this
            have hc4 : w2.cell? ⟨b, off + 4, none⟩ = some (.int .i64 o0) := by have := hr 4 _ rfl; simpa using this
            have hc5 : w2.cell? ⟨b, off + 5, none⟩ = some (.int .i64 i9) := by have := hr 5 _ rfl; simpa using this
            have hwl := HW.out.1.size
            have ca := add_once (wc := wL) (W := w2) (s := SmS tok A1 n1 c1 ⟨⟨k0, m0, s0, l0, o0, i9⟩, uA, un, uc⟩) (B := w.heap.size) ⟨b2, _, _, t2, .inl rfl⟩ ⟨HB.out.below hb2, RowK.At.nil_ _ _ _, huo.1.below hb2⟩ hb2.size ⟨(show ((n1 : Nat) : Int) ≤ 1048576 by omega), (show ((0 : Nat) : Int) ≤ 1048576 by decide), (show (un : Int) ≤ 1048576 by omega), (show s0.size ≤ 1048576 by omega)⟩ huo.2.2 (by show tok.length ≤ 8; rw [HB.out.len]; exact g3) (show rightP [] = true by decide)
            rw [sm_vals] at ca
            have HCA := Lib.hid ca
            have h0n : (0 : Int) < n := by omega
            have HU0 := Lib.hid (And.intro hum hbb)
            clear ca t2 b2 z2 hr hbb hu huo hus hum hltI hlt
            try dsimp only
            go_wp2_with fail
            refine HCA.out.mono ?_
            rintro e w3 ⟨rfl, hS3, hA3, _⟩
            have hw3 : Below w.heap.size w w3 := HW.out.1.trans (hS3.1.mono HW.out.1.size)
            have hd : ∀ (j : Nat) (x : Value), w2.cell? ⟨b, off + j, none⟩ = some x → w3.cell? ⟨b, off + j, none⟩ = some x := fun j x hx => by
              rw [hw3.cell (p := ⟨b, off + j, none⟩) HU0.out.2, ← hb2.cell (p := ⟨b, off + j, none⟩) HU0.out.2]; exact hx
            have hd0 : w3.cell? ⟨b, off, none⟩ = some (.int .i64 k0) := hd 0 _ hc0
            have hd1 : w3.cell? ⟨b, off + 1, none⟩ = some (.int .i64 m0) := hd 1 _ hc1
            have hd2 : w3.cell? ⟨b, off + 2, none⟩ = some (.string s0) := hd 2 _ hc2
            have hd3 : w3.cell? ⟨b, off + 3, none⟩ = some (.slice uA un uc) := hd 3 _ hc3
            have hd4 : w3.cell? ⟨b, off + 4, none⟩ = some (.int .i64 o0) := hd 4 _ hc4
            have hd5 : w3.cell? ⟨b, off + 5, none⟩ = some (.int .i64 i9) := hd 5 _ hc5
            have hS0 : SmAt w (w3.alloc (.cells (vvals ⟨k0, m0, s0, l0, o0, i9⟩ uA un uc).toArray 34)) wL.heap.size w3.heap.size (smq tok ⟨k0, m0, s0, l0, o0, i9⟩ 0 0) ⟨⟨k0, m0, s0, l0, o0, i9⟩, uA, un, uc⟩ := by
              have hb := alloc_below w3 (.cells (vvals ⟨k0, m0, s0, l0, o0, i9⟩ uA un uc).toArray 34)
              obtain ⟨v, vs, h1, h2⟩ := hA3
              exact ⟨hw3.trans (hb.mono hw3.size), ⟨v, vs, h1.below hb, h2⟩, h1.lt, hwl, heap_alloc_new w3 _⟩
            have HS0 := Lib.hid hS0
            have HUM := Lib.hid HU0.out.1
            clear hS3 hA3 hw3 hd hc0 hc1 hc2 hc3 hc4 hc5 hS0 HCA
            try dsimp only
            go_wp2
            go_loopw [9, 53] (fun v9 v53 wx => ∃ (i cnt : Nat) (t : Int) (lr : Vr), i ≤ n ∧ v53 = .int .i64 (i : Int) ∧ v9 = .int .i64 (cnt : Int) ∧ Aside ((0 ≤ t ∧ (t < i ∨ (i = 0 ∧ t = 0)) ∧ cnt ≤ i ∧ lr ∈ us) ∧ SmAt w wx wL.heap.size w3.heap.size (smq tok lr.q t cnt) lr)) (fun _ v53 _ => n - (intOf v53).toNat)
            case atStart => exact ⟨0, 0, 0, ⟨⟨k0, m0, s0, l0, o0, i9⟩, uA, un, uc⟩, Nat.zero_le _, rfl, rfl, (show Aside _ from ⟨⟨by decide, .inr ⟨rfl, rfl⟩, Nat.le_refl _, HUM.out⟩, HS0.out⟩)⟩
            case round =>
              clear hd0 hd1 hd2 hd3 hd4 hd5
              obtain ⟨i, cnt, t, lr, hin, rfl, rfl, hrel⟩ := hrel
              obtain ⟨⟨ht0, hti, hci, hlr⟩, hSM⟩ := hrel.out
              clear hrel
              by_cases hlt : i < n
              · have hltI : (i : Int) < n := by omega
                obtain ⟨bx, ox, u, ebx, hbx, hu, hr⟩ := row_cells (HV.out.1.below hSM.bel) hlt
                injection ebx with ebx
                injection ebx with e1 e2 _
                subst e1 e2
                have hum := List.mem_of_getElem? hu
                have huo := HV.out.2 u hum
                have hus := of_decide_eq_true (HW.out.2 u hum)
                obtain ⟨⟨k1, m1, s1, l1, o1, i1⟩, vA, vn, vc⟩ := u
                dsimp only at huo hus
                have hc0 : wr.cell? ⟨b, off + i * 6, none⟩ = some (.int .i64 k1) := hr 0 _ rfl
                have hc1 : wr.cell? ⟨b, off + i * 6 + 1, none⟩ = some (.int .i64 m1) := hr 1 _ rfl
                have hc2 : wr.cell? ⟨b, off + i * 6 + 2, none⟩ = some (.string s1) := hr 2 _ rfl
                have hc3 : wr.cell? ⟨b, off + i * 6 + 3, none⟩ = some (.slice vA vn vc) := hr 3 _ rfl
                have hc4 : wr.cell? ⟨b, off + i * 6 + 4, none⟩ = some (.int .i64 o1) := hr 4 _ rfl
                have hc5 : wr.cell? ⟨b, off + i * 6 + 5, none⟩ = some (.int .i64 i1) := hr 5 _ rfl
                obtain ⟨v, vs, hW, hvs⟩ := hSM.add
                have hal := alloc_below wr (.cells (vvals ⟨k1, m1, s1, l1, o1, i1⟩ vA vn vc).toArray 34)
                have hbu : Bs (wr.alloc (.cells (vvals ⟨k1, m1, s1, l1, o1, i1⟩ vA vn vc).toArray 34)) wL.heap.size vA vn l1 := ((huo.1.below (hSM.bel.trans (hal.mono hSM.bel.size))).more hwl)
                have cd := due_val (hW.below hal) ⟨⟨k1, m1, s1, l1, o1, i1⟩, vA, vn, vc⟩ hbu (show (vn : Int) ≤ 1048576 by omega) (show s1.size ≤ 1048576 by omega) huo.2.2 (i : Int) (0, 0)
                rw [alloc_size] at cd
                rw [hvs, show DuePost _ _ _ [smq tok lr.q t cnt] [(⟨⟨k1, m1, s1, l1, o1, i1⟩, vA, vn, vc⟩ : Vr).q] (clampQ (i : Int)) = DuePost _ _ _ [smq tok lr.q t cnt] [⟨k1, m1, s1, l1, o1, i1⟩] (clampQ (i : Int)) from rfl] at cd
                have HD := Lib.hid (And.intro cd (And.intro (hW.below hal) (And.intro hSM (And.intro hum (And.intro huo hus)))))
                have HT := Lib.hid (And.intro ht0 (And.intro hti (And.intro hci hlr)))
                clear cd hW hvs hal hbu hr hum huo hus hu hbx hSM ht0 hti hci hlr
                obtain ⟨⟨k2, m2, s2, l2, o2, i2⟩, xA, xn, xc⟩ := lr
                have hal := alloc_below wr (.cells (vvals ⟨k1, m1, s1, l1, o1, i1⟩ vA vn vc).toArray 34)
                go_wp2_with fail
                refine Calls.mono (show Calls _ _ _ _ _ from HD.out.1) ?_
                rintro e w6 ⟨A6, n6, c6, X6, vs6, rfl, hT6, hX6, hW6, hq6, hF6⟩
                rw [sm_pass ⟨by omega, by omega⟩, sm_due] at hX6 hq6
                have hb6 : Below w.heap.size w w6 := (HD.out.2.2.1.bel.trans (hal.mono HD.out.2.2.1.bel.size)).trans ((Fx.lowT HD.out.2.1 (Below.refl wL.heap.size _) hF6).mono hwl)
                have hpa : w6.heap[w3.heap.size]? = some (.cells #[.int .i64 k2, .int .i64 m2, .string s2, .slice xA xn xc, .int .i64 o2, .int .i64 i2] 34) := fx_keep HD.out.2.1 hF6 (by rw [hal.block _ (Array.getElem?_eq_some_iff.1 HD.out.2.2.1.last).1]; exact HD.out.2.2.1.last) (by have := HD.out.2.2.1.lt; omega)
                have hpb : w6.heap[wr.heap.size]? = some (.cells #[.int .i64 k1, .int .i64 m1, .string s1, .slice vA vn vc, .int .i64 o1, .int .i64 i1] 34) := fx_keep HD.out.2.1 hF6 (heap_alloc_new wr _) (by have := HD.out.2.2.1.lt; have := (Array.getElem?_eq_some_iff.1 HD.out.2.2.1.last).1; omega)
                have pa0 : w6.cell? ⟨w3.heap.size, 0, none⟩ = some (.int .i64 k2) := by rw [cell_of_row _ _ _ _ _ _ hpa]; rfl
                have pa1 : w6.cell? ⟨w3.heap.size, 1, none⟩ = some (.int .i64 m2) := by rw [cell_of_row _ _ _ _ _ _ hpa]; rfl
                have pa2 : w6.cell? ⟨w3.heap.size, 2, none⟩ = some (.string s2) := by rw [cell_of_row _ _ _ _ _ _ hpa]; rfl
                have pa3 : w6.cell? ⟨w3.heap.size, 3, none⟩ = some (.slice xA xn xc) := by rw [cell_of_row _ _ _ _ _ _ hpa]; rfl
                have pa4 : w6.cell? ⟨w3.heap.size, 4, none⟩ = some (.int .i64 o2) := by rw [cell_of_row _ _ _ _ _ _ hpa]; rfl
                have pa5 : w6.cell? ⟨w3.heap.size, 5, none⟩ = some (.int .i64 i2) := by rw [cell_of_row _ _ _ _ _ _ hpa]; rfl
                have pb0 : w6.cell? ⟨wr.heap.size, 0, none⟩ = some (.int .i64 k1) := by rw [cell_of_row _ _ _ _ _ _ hpb]; rfl
                have pb1 : w6.cell? ⟨wr.heap.size, 1, none⟩ = some (.int .i64 m1) := by rw [cell_of_row _ _ _ _ _ _ hpb]; rfl
                have pb2 : w6.cell? ⟨wr.heap.size, 2, none⟩ = some (.string s1) := by rw [cell_of_row _ _ _ _ _ _ hpb]; rfl
                have pb3 : w6.cell? ⟨wr.heap.size, 3, none⟩ = some (.slice vA vn vc) := by rw [cell_of_row _ _ _ _ _ _ hpb]; rfl
                have pb4 : w6.cell? ⟨wr.heap.size, 4, none⟩ = some (.int .i64 o1) := by rw [cell_of_row _ _ _ _ _ _ hpb]; rfl
                have pb5 : w6.cell? ⟨wr.heap.size, 5, none⟩ = some (.int .i64 i1) := by rw [cell_of_row _ _ _ _ _ _ hpb]; rfl
                have pla := World.block_lt_of_cell? w6 ⟨w3.heap.size, 0, none⟩ pa0
                have plb := World.block_lt_of_cell? w6 ⟨wr.heap.size, 0, none⟩ pb0
                have hne : w3.heap.size < wr.heap.size := (Array.getElem?_eq_some_iff.1 HD.out.2.2.1.last).1
                have hlo := HV.out.2 _ HT.out.2.2.2
                have hls := of_decide_eq_true (HW.out.2 _ HT.out.2.2.2)
                dsimp only at hlo hls hX6 hq6
                have hr13 := fun W (hW : Below w.heap.size w W) => rsame13_f ⟨k2, m2, s2, l2, o2, i2⟩ ⟨k1, m1, s1, l1, o1, i1⟩ xA vA xn xc vn vc W w.heap.size w.heap.size (hlo.1.below hW) (HD.out.2.2.2.2.1.1.below hW) hW.size hW.size (by omega) (by have := HD.out.2.2.2.2.2.2; omega)
                obtain ⟨Q, hQ⟩ : ∃ Q, vsame ⟨k2, m2, s2, l2, o2, i2⟩ ⟨k1, m1, s1, l1, o1, i1⟩ = Q := ⟨_, rfl⟩
                rw [hQ] at hX6 hq6 hr13
                have HR := Lib.hid hr13
                clear hQ hr13 hlo hls
                by_cases hi0 : i = 0
                · subst hi0
                  have ht : t = 0 := by rcases HT.out.2.1 with h | ⟨_, h⟩; have := HT.out.1; omega; exact h
                  rw [decide_eq_false (show ¬ (1 : Int) ≤ ((0 : Nat) : Int) - t by omega), Bool.false_and] at hX6 hq6
                  obtain rfl := told_none hT6 hX6
                  have H6 := Lib.hid (show SmAt w w6 wL.heap.size w3.heap.size (smq tok ⟨k2, m2, s2, l2, o2, i2⟩ t cnt) ⟨⟨k2, m2, s2, l2, o2, i2⟩, xA, xn, xc⟩ from ⟨hb6, ⟨_, _, hW6, hq6⟩, HD.out.2.2.1.lt, hwl, hpa⟩)
                  clear hT6 hX6 hW6 hq6 hF6 hb6 hpa hpb hal
                  try dsimp only
                  go_wp2
                  go_roundw
                  case rel => exact ⟨1, cnt, t, ⟨⟨k2, m2, s2, l2, o2, i2⟩, xA, xn, xc⟩, by omega, by go_num, rfl, (show Aside _ from ⟨⟨HT.out.1, .inl (by omega), by have := HT.out.2.2.1; omega, HT.out.2.2.2⟩, H6.out⟩)⟩
                  case measure => simp [intOf]; omega
                · have hiI : (0 : Int) < i := by omega
                  have hti : t < i := by rcases HT.out.2.1 with h | ⟨h, _⟩; exact h; exact absurd h hi0
                  rw [decide_eq_true (show (1 : Int) ≤ (i : Int) - t by omega), Bool.true_and] at hX6 hq6
                  cases Q with
                  | true =>
                    obtain rfl := told_none hT6 hX6
                    have H6 := Lib.hid (show SmAt w w6 wL.heap.size w3.heap.size (smq tok ⟨k2, m2, s2, l2, o2, i2⟩ t cnt) ⟨⟨k2, m2, s2, l2, o2, i2⟩, xA, xn, xc⟩ from ⟨hb6, ⟨_, _, hW6, hq6⟩, HD.out.2.2.1.lt, hwl, hpa⟩)
                    clear hT6 hX6 hW6 hq6 hF6 hb6 hpa hpb hal
                    try dsimp only
                    go_wp2_with fail
                    refine Calls.mono (show Calls _ _ _ _ _ from HR.out w6 H6.out.bel) ?_
                    rintro e w7 ⟨rfl, hb7⟩
                    have H7 := Lib.hid (H6.out.below hb7)
                    clear hb7
                    try dsimp only
                    go_wp2
                    go_roundw
                    case rel => exact ⟨i + 1, cnt, t, ⟨⟨k2, m2, s2, l2, o2, i2⟩, xA, xn, xc⟩, by omega, by go_num, rfl, (show Aside _ from ⟨⟨HT.out.1, .inl (by omega), by have := HT.out.2.2.1; omega, HT.out.2.2.2⟩, H7.out⟩)⟩
                    case measure => simp [intOf]; omega
                  | false =>
                    obtain ⟨hn6, hc6, g6, x6, rfl, hx6, hg6, hr6, hrd6, hsm6⟩ := told_get hT6 hX6
                    subst hn6
                    have hg6n : g6 ≠ w3.heap.size := fun e => rk_ne hT6.row hpa (by decide) (by rw [← e]; rfl)
                    have hc6I : (1 : Int) ≤ c6 := by omega
                    have hmod : ((cnt : Int) + 1) % 16777216 = (cnt : Int) + 1 := by have := HT.out.2.2.1; omega
                    rw [hmod] at hx6 hq6
                    have H6 := Lib.hid (show SmAt w w6 wL.heap.size w3.heap.size (smq tok ⟨k1, m1, s1, l1, o1, i1⟩ i ((cnt : Int) + 1)) ⟨⟨k2, m2, s2, l2, o2, i2⟩, xA, xn, xc⟩ from ⟨hb6, ⟨_, _, hW6, hq6⟩, HD.out.2.2.1.lt, hwl, hpa⟩)
                    have H9 := Lib.hid (And.intro hx6 (And.intro hr6 (And.intro hrd6 (And.intro hsm6 (And.intro hg6 (And.intro hpa hpb))))))
                    clear hT6 hX6 hW6 hq6 hF6 hb6 hpa hpb hal hx6 hr6 hrd6 hsm6 hmod
                    try dsimp only
                    go_wp2_with fail
                    refine Calls.mono (show Calls _ _ _ _ _ from HR.out w6 H6.out.bel) ?_
                    rintro e w7 ⟨rfl, hb7⟩
                    have hga : w7.heap[w3.heap.size]? = some (.cells #[.int .i64 k2, .int .i64 m2, .string s2, .slice xA xn xc, .int .i64 o2, .int .i64 i2] 34) := by rw [hb7.block _ pla]; exact H9.out.2.2.2.2.2.1
                    have hgb : w7.heap[wr.heap.size]? = some (.cells #[.int .i64 k1, .int .i64 m1, .string s1, .slice vA vn vc, .int .i64 o1, .int .i64 i1] 34) := by rw [hb7.block _ plb]; exact H9.out.2.2.2.2.2.2
                    clear pa0 pa1 pa2 pa3 pa4 pa5 pb0 pb1 pb2 pb3 pb4 pb5
                    have qa0 : w7.cell? ⟨w3.heap.size, 0, none⟩ = some (.int .i64 k2) := by rw [cell_of_row _ _ _ _ _ _ hga]; rfl
                    have qaz0 : w7.frozen? ⟨w3.heap.size, 0, none⟩ = false := by rw [frozen_of_row _ _ _ _ _ hga]
                    have qa1 : w7.cell? ⟨w3.heap.size, 1, none⟩ = some (.int .i64 m2) := by rw [cell_of_row _ _ _ _ _ _ hga]; rfl
                    have qaz1 : w7.frozen? ⟨w3.heap.size, 1, none⟩ = false := by rw [frozen_of_row _ _ _ _ _ hga]
                    have qa2 : w7.cell? ⟨w3.heap.size, 2, none⟩ = some (.string s2) := by rw [cell_of_row _ _ _ _ _ _ hga]; rfl
                    have qaz2 : w7.frozen? ⟨w3.heap.size, 2, none⟩ = false := by rw [frozen_of_row _ _ _ _ _ hga]
                    have qa3 : w7.cell? ⟨w3.heap.size, 3, none⟩ = some (.slice xA xn xc) := by rw [cell_of_row _ _ _ _ _ _ hga]; rfl
                    have qaz3 : w7.frozen? ⟨w3.heap.size, 3, none⟩ = false := by rw [frozen_of_row _ _ _ _ _ hga]
                    have qa4 : w7.cell? ⟨w3.heap.size, 4, none⟩ = some (.int .i64 o2) := by rw [cell_of_row _ _ _ _ _ _ hga]; rfl
                    have qaz4 : w7.frozen? ⟨w3.heap.size, 4, none⟩ = false := by rw [frozen_of_row _ _ _ _ _ hga]
                    have qa5 : w7.cell? ⟨w3.heap.size, 5, none⟩ = some (.int .i64 i2) := by rw [cell_of_row _ _ _ _ _ _ hga]; rfl
                    have qaz5 : w7.frozen? ⟨w3.heap.size, 5, none⟩ = false := by rw [frozen_of_row _ _ _ _ _ hga]
                    have qb0 : w7.cell? ⟨wr.heap.size, 0, none⟩ = some (.int .i64 k1) := by rw [cell_of_row _ _ _ _ _ _ hgb]; rfl
                    have qb1 : w7.cell? ⟨wr.heap.size, 1, none⟩ = some (.int .i64 m1) := by rw [cell_of_row _ _ _ _ _ _ hgb]; rfl
                    have qb2 : w7.cell? ⟨wr.heap.size, 2, none⟩ = some (.string s1) := by rw [cell_of_row _ _ _ _ _ _ hgb]; rfl
                    have qb3 : w7.cell? ⟨wr.heap.size, 3, none⟩ = some (.slice vA vn vc) := by rw [cell_of_row _ _ _ _ _ _ hgb]; rfl
                    have qb4 : w7.cell? ⟨wr.heap.size, 4, none⟩ = some (.int .i64 o1) := by rw [cell_of_row _ _ _ _ _ _ hgb]; rfl
                    have qb5 : w7.cell? ⟨wr.heap.size, 5, none⟩ = some (.int .i64 i1) := by rw [cell_of_row _ _ _ _ _ _ hgb]; rfl
                    have hl7 := World.block_lt_of_cell? w7 ⟨w3.heap.size, 0, none⟩ qa0
                    have hl8 := World.block_lt_of_cell? w7 ⟨wr.heap.size, 0, none⟩ qb0
                    have hg67 : g6 < w7.heap.size := Nat.lt_of_lt_of_le H9.out.2.2.2.2.1 hb7.size
                    have H7 := Lib.hid (And.intro (H6.out.below hb7) (And.intro hb7 hgb))
                    clear hb7 hga hgb
                    try dsimp only
                    have hci80 : (cnt : Int) ≤ 80 := by have := HT.out.2.2.1; omega
                    go_wp2_with fail
                    obtain ⟨w8, hw8⟩ : ∃ w8, ((((((w7.setCell ⟨w3.heap.size, 0, none⟩ (.int .i64 k1)).setCell ⟨w3.heap.size, 1, none⟩ (.int .i64 m1)).setCell ⟨w3.heap.size, 2, none⟩ (.string s1)).setCell ⟨w3.heap.size, 3, none⟩ (.slice vA vn vc)).setCell ⟨w3.heap.size, 4, none⟩ (.int .i64 o1)).setCell ⟨w3.heap.size, 5, none⟩ (.int .i64 i1)) = w8 := ⟨_, rfl⟩
                    rw [hw8]
                    have hS8 : SmAt w w8 wL.heap.size w3.heap.size (smq tok ⟨k1, m1, s1, l1, o1, i1⟩ i ((cnt : Int) + 1)) ⟨⟨k1, m1, s1, l1, o1, i1⟩, vA, vn, vc⟩ := by rw [← hw8]; exact H7.out.1.put ⟨⟨k1, m1, s1, l1, o1, i1⟩, vA, vn, vc⟩
                    have hf8 : Fx w3.heap.size none w7 w8 := by rw [← hw8]; exact Fx.setv w7 w3.heap.size (vvals ⟨k1, m1, s1, l1, o1, i1⟩ vA vn vc)
                    have hB8 : w8.heap[wr.heap.size]? = some (.cells #[.int .i64 k1, .int .i64 m1, .string s1, .slice vA vn vc, .int .i64 o1, .int .i64 i1] 34) := by rw [hf8.block _ hl8 (by omega) (by simp)]; exact H7.out.2.2
                    have hg7 : w7.heap[w3.heap.size]? = some (.cells #[.int .i64 k2, .int .i64 m2, .string s2, .slice xA xn xc, .int .i64 o2, .int .i64 i2] 34) := H7.out.1.last
                    have key : ∀ {u : Value}, u.ownBlock = none ∨ u.ownBlock ≠ (none : Option Nat) := fun {u} => Classical.em _
                    have hg68 : g6 < w8.heap.size := Nat.lt_of_lt_of_le hg67 hf8.size
                    have hx8 : Wok w8 (wr.alloc (.cells (vvals ⟨k1, m1, s1, l1, o1, i1⟩ vA vn vc).toArray 34)).heap.size x6 := (H9.out.2.2.1.below H7.out.2.1).fx hf8 (fun n c A e sz xs he ho => ⟨rk_ne ho hg7 (by rcases he with rfl | rfl <;> decide), key⟩)
                    have hr8 : w8.rangeAt g6 0 x6.vals := fun j x hj => by
                      rw [hf8.cell (b := g6) (Nat.lt_of_lt_of_le H9.out.2.2.2.2.1 H7.out.2.1.size) hg6n (by simp), H7.out.2.1.cell (p := ⟨g6, 0 + j, none⟩) H9.out.2.2.2.2.1]
                      exact H9.out.2.1 j x hj
                    obtain ⟨q6, tA, tn, tc, pA, pn, pc, bA, bn, bc⟩ := x6
                    have hq6 : q6 = smq tok ⟨k1, m1, s1, l1, o1, i1⟩ i ((cnt : Int) + 1) := H9.out.1
                    have hsm6 := H9.out.2.2.2.1
                    clear H9
                    subst hq6
                    have hxr := hx8.rd
                    have Y20 := Lib.hid (fun (wx : World) (h : Below w8.heap.size w8 wx) => (show wx.cell? ⟨g6, 20, none⟩ = some (.int .i64 ((cnt : Int) + 1)) by rw [h.cell (p := ⟨g6, 20, none⟩) hg68]; exact hr8 20 _ rfl))
                    have Y0 := Lib.hid (fun (wx : World) (h : Below w8.heap.size w8 wx) => (show wx.cell? ⟨g6, 0, none⟩ = some (.int .i64 3) by rw [h.cell (p := ⟨g6, 0, none⟩) hg68]; exact hr8 0 _ rfl))
                    have Y1 := Lib.hid (fun (wx : World) (h : Below w8.heap.size w8 wx) => (show wx.cell? ⟨g6, 1, none⟩ = some (.slice tA tn tc) by rw [h.cell (p := ⟨g6, 1, none⟩) hg68]; exact hr8 1 _ rfl))
                    have Y13 := Lib.hid (fun (wx : World) (h : Below w8.heap.size w8 wx) => (show wx.rangeAt g6 13 [.int .i64 k1, .int .i64 m1, .string s1, .slice bA bn bc, .int .i64 o1, .int .i64 i1] from fun j x hj => by
                      rw [h.cell (p := ⟨g6, 13 + j, none⟩) hg68]
                      have := Wr.val_range hr8 j x hj
                      exact this))
                    have YB := Lib.hid (fun (wx : World) (h : Below w8.heap.size w8 wx) => (show wx.rangeAt wr.heap.size 0 [.int .i64 k1, .int .i64 m1, .string s1, .slice vA vn vc, .int .i64 o1, .int .i64 i1] from fun j x hj => by
                      rw [h.cell (p := ⟨wr.heap.size, 0 + j, none⟩) (Array.getElem?_eq_some_iff.1 hB8).1, Nat.zero_add, cell_of_row _ _ _ _ _ _ hB8, ← Array.getElem?_toList]
                      exact hj))
                    have C19 := Lib.hid (fun (wx : World) (h : Below w8.heap.size w8 wx) => (by
                      have := same_any tA A1 tn tc n1 c1 tok tok wx w8.heap.size w.heap.size (hxr.1.below h) (HB.out.below (hS8.bel.trans (h.mono hS8.bel.size))) (by have := hsm6.1; dsimp only at this; omega) (by omega)
                      rw [decide_eq_true rfl] at this
                      exact this))
                    have C28 := Lib.hid (fun (wx : World) (h : Below w8.heap.size w8 wx) => (by
                      have := rsame13_f ⟨k1, m1, s1, l1, o1, i1⟩ ⟨k1, m1, s1, l1, o1, i1⟩ bA vA bn bc vn vc wx w8.heap.size w.heap.size (hxr.2.2.below h) (HD.out.2.2.2.2.1.1.below (hS8.bel.trans (h.mono hS8.bel.size))) h.size (hS8.bel.trans (h.mono hS8.bel.size)).size (by have := hsm6.2.2.1; dsimp only at this; omega) (by have := HD.out.2.2.2.2.2.2; omega)
                      rw [vsame_refl] at this
                      exact this))
                    have H8 := Lib.hid hS8
                    clear hS8 hf8 hB8 hg7 hx8 hr8 hxr hsm6 hw8 qa0 qa1 qa2 qa3 qa4 qa5 qaz0 qaz1 qaz2 qaz3 qaz4 qaz5 qb0 qb1 qb2 qb3 qb4 qb5
                    go_cut [115] from 85 to 116 (fun v115 wx => v115 = .bool false ∧ Below w8.heap.size w8 wx)
                    case first =>
                      refine wp_region_rel (fun W => Below w8.heap.size w8 W) (fun W W' => Below W.heap.size W W') (SmR g6 c6 ((cnt : Int) + 1) tA tn tc A1 n1 c1 k1 m1 s1 bA bn bc vA vn vc o1 i1) [(1, .slice A1 n1 c1), (9, .int .i64 ((cnt : Int) + 1)), (11, .pointer (some ⟨wr.heap.size, 0, none⟩)), (12, .slice (some ⟨g6, 0, none⟩) 1 c6)] (by kernel_rfl) (by kernel_rfl) (by kernel_rfl) ?base (drewN_below w8 _ 1) (fun j x x' v _ h => SmR.keep j x x' v h) ?steps ?fin
                      case base =>
                        intro x hx
                        simp only [List.mem_cons, List.not_mem_nil, or_false] at hx
                        rcases hx with rfl | rfl | rfl | rfl <;> exact ⟨rfl, rfl⟩
                      case steps =>
                        refine steps_cons ?_ (steps_cons ?_ (steps_cons ?_ (steps_cons ?_ (steps_cons ?_ (steps_cons ?_ (steps_cons ?_ (steps_cons ?_ (steps_cons ?_ (steps_cons ?_ (steps_cons ?_ (steps_cons ?_ (steps_cons ?_ (steps_cons ?_ (steps_cons ?_ (steps_cons ?_ (steps_cons ?_ (steps_cons ?_ (steps_cons ?_ (steps_cons ?_ (steps_cons ?_ (steps_cons ?_ (steps_cons ?_ (steps_cons ?_ (steps_cons ?_ (steps_cons ?_ (steps_cons ?_ (steps_cons ?_ (steps_cons ?_ (steps_cons ?_ (steps_cons ?_ steps_nil))))))))))))))))))))))))))))))
                        · intro a wx K hS hB hR hK
                          rw [if_pos (wanted_none rfl)]
                          have h12 := tmp_is (hB.2.2.2.1)
                          go_simp
                          exact hK (.slice (some ⟨g6, 0, none⟩) 1 c6) wx hS (Below.refl _ _) rfl
                        · intro a wx K hS hB hR hK
                          rw [if_pos (wanted_none rfl)]
                          have h85 := tmp_is (hR.1)
                          go_simp
                          exact hK (.pointer (some ⟨g6, 0, none⟩)) wx hS (Below.refl _ _) rfl
                        · intro a wx K hS hB hR hK
                          rw [if_pos (wanted_none rfl)]
                          have h86 := tmp_is (hR.1)
                          go_simp
                          exact hK (.pointer (some ⟨g6, 20, none⟩)) wx hS (Below.refl _ _) rfl
                        · intro a wx K hS hB hR hK
                          rw [if_pos (wanted_none rfl)]
                          have h87 := tmp_is (hR.1)
                          have hcl : wx.cell? ⟨g6, 20, none⟩ = some (.int .i64 ((cnt : Int) + 1)) := Y20.out wx hS
                          go_simp
                          exact hK (.int .i64 ((cnt : Int) + 1)) wx hS (Below.refl _ _) rfl
                        · intro a wx K hS hB hR hK
                          rw [if_pos (wanted_none rfl)]
                          have h9 := tmp_is (hB.2.1)
                          go_simp
                          exact hK (.int .i64 ((cnt : Int) + 1)) wx hS (Below.refl _ _) rfl
                        · intro a wx K hS hB hR hK
                          rw [if_pos (wanted_none rfl)]
                          have h88 := tmp_is (hR.1)
                          have h89 := tmp_is (hR.2.1)
                          go_simp
                          exact hK (.bool false) wx hS (Below.refl _ _) rfl
                        · intro a wx K hS hB hR hK
                          rw [if_pos (wanted_none rfl)]
                          have h90 := tmp_is (hR.1)
                          go_simp
                          exact hK (.bool false) wx hS (Below.refl _ _) rfl
                        · intro a wx K hS hB hR hK
                          rw [if_pos (wanted_some rfl (hR.1))]
                          have h12 := tmp_is (hB.2.2.2.1)
                          go_simp
                          exact hK (.slice (some ⟨g6, 0, none⟩) 1 c6) wx hS (Below.refl _ _) rfl
                        · intro a wx K hS hB hR hK
                          rw [if_pos (wanted_some rfl (hR.2.1))]
                          have h92 := tmp_is (hR.1)
                          go_simp
                          exact hK (.pointer (some ⟨g6, 0, none⟩)) wx hS (Below.refl _ _) rfl
                        · intro a wx K hS hB hR hK
                          rw [if_pos (wanted_some rfl (hR.2.1))]
                          have h93 := tmp_is (hR.1)
                          go_simp
                          exact hK (.pointer (some ⟨g6, 0, none⟩)) wx hS (Below.refl _ _) rfl
                        · intro a wx K hS hB hR hK
                          rw [if_pos (wanted_some rfl (hR.2.1))]
                          have h94 := tmp_is (hR.1)
                          have hcl : wx.cell? ⟨g6, 0, none⟩ = some (.int .i64 3) := Y0.out wx hS
                          go_simp
                          exact hK (.int .i64 3) wx hS (Below.refl _ _) rfl
                        · intro a wx K hS hB hR hK
                          rw [if_pos (wanted_some rfl (hR.2.1))]
                          have h95 := tmp_is (hR.1)
                          go_simp
                          exact hK (.bool false) wx hS (Below.refl _ _) rfl
                        · intro a wx K hS hB hR hK
                          rw [if_pos (wanted_none rfl)]
                          have h91 := tmp_is (hR.1)
                          have h96 := tmp_is (hR.2.1)
                          go_simp
                          exact hK (.bool false) wx hS (Below.refl _ _) rfl
                        · intro a wx K hS hB hR hK
                          rw [if_pos (wanted_none rfl)]
                          have h97 := tmp_is (hR.1)
                          go_simp
                          exact hK (.bool false) wx hS (Below.refl _ _) rfl
                        · intro a wx K hS hB hR hK
                          rw [if_pos (wanted_some rfl (hR.1))]
                          have h12 := tmp_is (hB.2.2.2.1)
                          go_simp
                          exact hK (.slice (some ⟨g6, 0, none⟩) 1 c6) wx hS (Below.refl _ _) rfl
                        · intro a wx K hS hB hR hK
                          rw [if_pos (wanted_some rfl (hR.2.1))]
                          have h99 := tmp_is (hR.1)
                          go_simp
                          exact hK (.pointer (some ⟨g6, 0, none⟩)) wx hS (Below.refl _ _) rfl
                        · intro a wx K hS hB hR hK
                          rw [if_pos (wanted_some rfl (hR.2.1))]
                          have h100 := tmp_is (hR.1)
                          go_simp
                          exact hK (.pointer (some ⟨g6, 1, none⟩)) wx hS (Below.refl _ _) rfl
                        · intro a wx K hS hB hR hK
                          rw [if_pos (wanted_some rfl (hR.2.1))]
                          have h101 := tmp_is (hR.1)
                          have hcl : wx.cell? ⟨g6, 1, none⟩ = some (.slice tA tn tc) := Y1.out wx hS
                          go_simp
                          exact hK (.slice tA tn tc) wx hS (Below.refl _ _) rfl
                        · intro a wx K hS hB hR hK
                          rw [if_pos (wanted_some rfl (hR.1))]
                          have h1 := tmp_is (hB.1)
                          go_simp
                          exact hK (.slice A1 n1 c1) wx hS (Below.refl _ _) rfl
                        · intro a wx K hS hB hR hK
                          rw [if_pos (wanted_some rfl (hR.2.2.1))]
                          have h102 := tmp_is (hR.1)
                          have h103 := tmp_is (hR.2.1)
                          go_simp
                          refine (C19.out wx hS).mono ?_
                          rintro e w' ⟨rfl, nd, rfl⟩
                          exact hK _ _ (hS.trans ((drewN_below _ _ _).mono hS.size)) (drewN_below _ _ _) rfl
                        · intro a wx K hS hB hR hK
                          rw [if_pos (wanted_some rfl (hR.2.1))]
                          have h104 := tmp_is (hR.1)
                          go_simp
                          exact hK (.bool false) wx hS (Below.refl _ _) rfl
                        · intro a wx K hS hB hR hK
                          rw [if_pos (wanted_none rfl)]
                          have h98 := tmp_is (hR.1)
                          have h105 := tmp_is (hR.2.1)
                          go_simp
                          exact hK (.bool false) wx hS (Below.refl _ _) rfl
                        · intro a wx K hS hB hR hK
                          rw [if_pos (wanted_none rfl)]
                          have h106 := tmp_is (hR.1)
                          go_simp
                          exact hK (.bool false) wx hS (Below.refl _ _) rfl
                        · intro a wx K hS hB hR hK
                          rw [if_pos (wanted_some rfl (hR.1))]
                          have h12 := tmp_is (hB.2.2.2.1)
                          go_simp
                          exact hK (.slice (some ⟨g6, 0, none⟩) 1 c6) wx hS (Below.refl _ _) rfl
                        · intro a wx K hS hB hR hK
                          rw [if_pos (wanted_some rfl (hR.2.1))]
                          have h108 := tmp_is (hR.1)
                          go_simp
                          exact hK (.pointer (some ⟨g6, 0, none⟩)) wx hS (Below.refl _ _) rfl
                        · intro a wx K hS hB hR hK
                          rw [if_pos (wanted_some rfl (hR.2.1))]
                          have h109 := tmp_is (hR.1)
                          go_simp
                          exact hK (.pointer (some ⟨g6, 13, none⟩)) wx hS (Below.refl _ _) rfl
                        · intro a wx K hS hB hR hK
                          rw [if_pos (wanted_some rfl (hR.2.1))]
                          refine wp_load_mid 34 (.tmp 110) (by rfl) g6 13 (hR.1) _ _ (Y13.out wx hS) Try.underlying34 rfl size_vl ?_
                          exact hK _ wx hS (Below.refl _ _) rfl
                        · intro a wx K hS hB hR hK
                          rw [if_pos (wanted_some rfl (hR.1))]
                          refine wp_load_mid 34 (.tmp 11) (by rfl) wr.heap.size 0 (hB.2.2.1) _ _ (YB.out wx hS) Try.underlying34 rfl size_vl ?_
                          exact hK _ wx hS (Below.refl _ _) rfl
                        · intro a wx K hS hB hR hK
                          rw [if_pos (wanted_some rfl (hR.2.2.1))]
                          have h111 := tmp_is (hR.1)
                          have h112 := tmp_is (hR.2.1)
                          go_simp
                          refine Calls.mono (show Calls _ _ _ _ _ from C28.out wx hS) ?_
                          rintro e w' ⟨rfl, hb⟩
                          exact hK _ _ (hS.trans (hb.mono hS.size)) hb rfl
                        · intro a wx K hS hB hR hK
                          rw [if_pos (wanted_some rfl (hR.2.1))]
                          have h113 := tmp_is (hR.1)
                          go_simp
                          exact hK (.bool false) wx hS (Below.refl _ _) rfl
                        · intro a wx K hS hB hR hK
                          rw [if_pos (wanted_none rfl)]
                          have h107 := tmp_is (hR.1)
                          have h114 := tmp_is (hR.2.1)
                          go_simp
                          exact hK (.bool false) wx hS (Below.refl _ _) rfl
                      case fin =>
                        intro a wx hS ha hR
                        have hst : (SmR g6 c6 ((cnt : Int) + 1) tA tn tc A1 n1 c1 k1 m1 s1 bA bn bc vA vn vc o1 i1) 30 wx _ := deps_mem _ hR 30 (by decide)
                        simp only [pin] at ha
                        rw [ha]
                        simp only [List.setIfInBounds_toArray, List.set_cons_zero, List.set_cons_succ]
                        clear hR
                        go_wp2_with fail
                        go_meet
                        case rel => exact ⟨hst, hS⟩
                    case rest =>
                      obtain ⟨rfl, hbc⟩ := hcut
                      go_wp2
                      go_roundw
                      case rel => exact ⟨i + 1, cnt + 1, i, ⟨⟨k1, m1, s1, l1, o1, i1⟩, vA, vn, vc⟩, by omega, by go_num, by go_num, (show Aside _ from ⟨⟨by omega, .inl (by omega), by have := HT.out.2.2.1; omega, HD.out.2.2.2.1⟩, by have h9 := H8.out.below hbc; exact h9⟩)⟩
                      case measure => simp [intOf]; omega
              · have hB := hSM.bel
                have hltI : ¬ (i : Int) < n := by omega
                clear hSM
                go_wp2
                go_ret
                exact ⟨rfl, hB⟩
      · have gI1 : ¬ (80 : Int) < n := by omega
        have gI2 : ¬ (n : Int) = 0 := by omega
        have gI3 : (8 : Int) < n1 := by omega
        go_enter Try.func5, Try.ntmps5
        go_wp2_with fail
        refine HA.out.mono ?_
        rintro e w1 ⟨rfl, hb1⟩
        try dsimp only
        go_wp2
        go_ret
        exact ⟨rfl, hb1⟩
  · have gI1 : (80 : Int) < n := by omega
    go_enter Try.func5, Try.ntmps5
    go_wp2_with fail
    refine HA.out.mono ?_
    rintro e w1 ⟨rfl, hb1⟩
    try dsimp only
    go_wp2
    go_ret
    exact ⟨rfl, hb1⟩
end Go.Proofs.Ytmaeofhgbelciaa
