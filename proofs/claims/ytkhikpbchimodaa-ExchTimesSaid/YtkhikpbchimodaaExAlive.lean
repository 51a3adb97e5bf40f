/-
  The document's example of layer 12.
-/
import Derived.Test.YtkhikpbchimodaaExPass
import Derived.Test.YtkhikpbchimodaaExStop
import Derived.Test.YtkhikpbchimodaaExStart
import Derived.Lib.SlBytesConst
namespace Go.Proofs.Ytkhikpbchimodaa
open Go.RowKit
set_option maxRecDepth 100000
set_option maxRecDepth 100000
set_option linter.unusedVariables false
def EQ1 : List Xq := [⟨1, 7, [97], 0, 20, 20⟩]
def EQ2 : List Xq := [⟨1, 7, [97], 1, 40, 60⟩]
def EQ3 : List Xq := [⟨1, 7, [97], 4, 320, 620⟩]
def ES : Sq := ⟨1, 7, [97], false⟩
def EL : Sq := ⟨1, 7, [97], true⟩
theorem ea_0 : tellT 0 0 = 0 := by decide
theorem ea_1 : startQ [] 0 1 7 [97] 0 = (EQ1, 0) := rfl
theorem ea_2 : startQ EQ1 0 1 7 [] 0 = (EQ1, 5) := rfl
theorem ea_3 : EQ1[fstQ EQ1]? = some ⟨1, 7, [97], 0, 20, 20⟩ := rfl
theorem ea_4 : tellT 0 19 = 19 := by decide
theorem ea_5 : passed EQ1 19 = ([], EQ1) := rfl
theorem ea_6 : tellT 19 20 = 20 := by decide
theorem ea_7 : passed EQ1 20 = ([ES], EQ2) := rfl
theorem ea_8 : tellT 20 300 = 300 := by decide
theorem ea_9 : passed EQ2 300 = ([ES, ES, ES], EQ3) := rfl
theorem ea_10 : tellT 300 620 = 620 := by decide
theorem ea_11 : passed EQ3 620 = ([EL], []) := rfl
/-- What stands between the calls. -/
structure ExS (w : World) (tb : Nat) (now : Int) (qs : List Xq) (v : Value) (vs : List Xr) (W : World) : Prop where
  t : TbAt W tb v now vs
  m : vs.map Xr.q = qs
  b : Below w.heap.size w W
theorem Fx.up {w W W' : World} {tb : Nat} {v : Value} {now : Int} {vs : List Xr} (hb : Below w.heap.size w W) (h : TbAt W tb v now vs) (htb : w.heap.size ≤ tb) (hf : Fx tb v.ownBlock W W') : Below w.heap.size w W' :=
  hb.trans (hf.toBelow htb hb.size (fun k e => Nat.le_trans htb (h.row.lt k e).1))
theorem sr_one {ss : List Sr} {q : Sq} (h : ss.map Sr.q = [q]) : ∃ A n c, ss = [⟨q, A, n, c⟩] := by
  match ss, h with
  | [⟨q', A, n, c⟩], h => simp only [List.map_cons, List.map_nil, List.cons.injEq, and_true] at h; subst h; exact ⟨A, n, c, rfl⟩
theorem sr_three {ss : List Sr} {a b d : Sq} (h : ss.map Sr.q = [a, b, d]) : List.length ss = 3 := by
  have := congrArg List.length h
  simpa using this
/-- The first of a list of what is to be sent. -/
theorem SsAt.cells {w : World} {B : Nat} {e : TypeId} {A A0 : Option Addr} {c n0 c0 : Nat} {q : Sq} (h : SsAt w B e (.slice A 1 c) [⟨q, A0, n0, c0⟩]) : ∃ b, A = some ⟨b, 0, none⟩ ∧ 1 ≤ c ∧ w.cell? ⟨b, 2, none⟩ = some (.slice A0 n0 c0) ∧ w.cell? ⟨b, 3, none⟩ = some (.bool q.lost) ∧ Bs w w.heap.size A0 n0 q.l := by
  obtain ⟨A', c', hv, hc, _, hat, hb⟩ := RowK.At.of_own h.row
  injection hv with e1 e2 e3
  subst e1 e3
  obtain ⟨b, off, rfl, _, hcell⟩ := hat.place (by simp)
  obtain ⟨g, e4, _⟩ := hb _ rfl
  injection e4 with e4 e5 _
  subst e5
  have hr := hcell 0 _ rfl
  exact ⟨b, rfl, hc, hr 2 _ rfl, hr 3 _ rfl, (h.each _ (List.mem_singleton.2 rfl)).bs⟩
set_option maxHeartbeats 16000000 in
theorem exalive_any (w : World) : Calls Try.prog 7 #[] w fun e w' => e = .returned (.bool true) ∧ Below w.heap.size w w' := by
  have kc := fun (w : World) (C : Array Value) (n c : Nat) => Lib.run_convert_bytes_const (P := Try.prog) w 30 5 C n c Try.underlying30 Try.underlying5
  go_enter Try.func7, Try.ntmps7
  go_wp2_with fail
  refine (exnew_f w).mono ?_
  rintro e w1 ⟨rfl, ht1, b1, s1⟩
  have H1 := Lib.hid (And.intro ht1 (And.intro b1 s1))
  clear ht1 b1 s1
  go_wp2_with fail
  refine calls_at_world (F := fun W => Below w1.heap.size w1 W ∧ ∃ fr, W.heap[w1.heap.size]? = some (.cells (U8 [97]).toArray 5 fr)) ⟨alloc_below w1 _, _, heap_alloc_new w1 _⟩ fun w2 ⟨b2, fr, x2⟩ => ?_
  have hb2 : Below w.heap.size w w2 := H1.out.2.1.trans (b2.mono H1.out.2.1.size)
  have ht2 := H1.out.1.below b2
  have hk := exstart_f ht2 1 7 (some ⟨w1.heap.size, 0, none⟩) 1 1 [97] (fun W hW => by
    have hx := (hW.block w1.heap.size (Array.getElem?_eq_some_iff.1 x2).1 (by have := H1.out.2.2; omega) (by simp [Value.ownBlock])).trans x2
    refine ⟨rfl, fun _ => ⟨_, 0, rfl, (Array.getElem?_eq_some_iff.1 hx).1, fun j u hu => ?_⟩⟩
    rw [cell_of_row _ _ _ _ _ _ hx, Nat.zero_add, ← Array.getElem?_toList]
    show (U8 [97])[j]? = _
    rw [U8_get, hu]; rfl) (by decide) 0 0
  rw [ea_0, List.map_nil] at hk
  have H2 := Lib.hid (And.intro ht2 hb2)
  clear b2 x2 kc ht2 hb2
  refine hk.mono ?_
  rintro e w3 ⟨he, v3, vs3, ht3, hm3, _, hf3⟩
  rw [ea_1] at he hm3
  obtain rfl : e = .returned (.int .i64 0) := he
  have H3 : Hid (ExS w w.heap.size 0 EQ1 v3 vs3 w3) := ⟨ht3, hm3, Fx.up H2.out.2 H2.out.1 (Nat.le_refl _) hf3⟩
  clear hk ht3 hm3 hf3
  go_wp2_with fail
  have hk := exstart_f H3.out.t 1 7 none 0 0 [] (fun W hW => Bs.empty _ _ _) (by decide) 0 0
  rw [ea_0, H3.out.m] at hk
  refine hk.mono ?_
  rintro e w4 ⟨he, v4, vs4, ht4, hm4, _, hf4⟩
  rw [ea_2] at he hm4
  obtain rfl : e = .returned (.int .i64 5) := he
  have H4 : Hid (ExS w w.heap.size 0 EQ1 v4 vs4 w4) := ⟨ht4, hm4, Fx.up H3.out.b H3.out.t (Nat.le_refl _) hf4⟩
  clear hk ht4 hm4 hf4
  go_wp2_with fail
  have hk := exnext_f H4.out.t
  rw [H4.out.m] at hk
  refine hk.mono ?_
  rintro e w5 ⟨he, b5⟩
  rw [ea_3] at he
  obtain rfl : e = .returned (.tuple #[.int .i64 20, .bool true]) := he
  have H5 : Hid (ExS w w.heap.size 0 EQ1 v4 vs4 w5) := ⟨H4.out.t.below b5, H4.out.m, H4.out.b.trans (b5.mono H4.out.b.size)⟩
  clear hk b5
  try dsimp only
  go_wp2_with fail
  have hk := expass_f H5.out.t 19
  rw [ea_4, H5.out.m] at hk
  refine hk.mono ?_
  rintro e w6 ⟨A6, c6, ss6, v6, vs6, rfl, hs6, hm6, ht6, hn6, hv6, hf6⟩
  rw [ea_5] at hm6 hn6
  obtain rfl : ss6 = [] := List.map_eq_nil_iff.1 hm6
  have H6 : Hid (ExS w w.heap.size 19 EQ1 v6 vs6 w6) := ⟨ht6, hn6, Fx.up H5.out.b H5.out.t (Nat.le_refl _) hf6⟩
  clear hk hs6 hm6 ht6 hn6 hv6 hf6
  go_wp2_with fail
  have hk := expass_f H6.out.t 20
  rw [ea_6, H6.out.m] at hk
  refine hk.mono ?_
  rintro e w7 ⟨A7, c7, ss7, v7, vs7, rfl, hs7, hm7, ht7, hn7, hv7, hf7⟩
  rw [ea_7] at hm7 hn7
  obtain ⟨B7, n7, d7, rfl⟩ := sr_one hm7
  have H7 : Hid (ExS w w.heap.size 20 EQ2 v7 vs7 w7 ∧ SsAt w7 w6.heap.size 55 (.slice A7 1 c7) [⟨ES, B7, n7, d7⟩]) := ⟨⟨ht7, hn7, Fx.up H6.out.b H6.out.t (Nat.le_refl _) hf7⟩, hs7⟩
  clear hk hs7 hm7 ht7 hn7 hv7 hf7
  go_wp2_with fail
  have hk := expass_f H7.out.1.t 300
  rw [ea_8, H7.out.1.m] at hk
  refine hk.mono ?_
  rintro e w8 ⟨A8, c8, ss8, v8, vs8, rfl, hs8, hm8, ht8, hn8, hv8, hf8⟩
  rw [ea_9] at hm8 hn8
  have hl8 := sr_three hm8
  rw [hl8]
  have H8 : Hid (ExS w w.heap.size 300 EQ3 v8 vs8 w8 ∧ SsAt w8 w6.heap.size 55 (.slice A7 1 c7) [⟨ES, B7, n7, d7⟩]) := ⟨⟨ht8, hn8, Fx.up H7.out.1.b H7.out.1.t (Nat.le_refl _) hf8⟩, H7.out.2.fx hf8 H7.out.1.t.blk H7.out.1.t.row (by decide) (by decide)⟩
  clear hk hs8 hm8 ht8 hn8 hv8 hf8 hl8
  go_wp2_with fail
  have hk := expass_f H8.out.1.t 620
  rw [ea_10, H8.out.1.m] at hk
  refine hk.mono ?_
  rintro e w9 ⟨A9, c9, ss9, v9, vs9, rfl, hs9, hm9, ht9, hn9, hv9, hf9⟩
  rw [ea_11] at hm9 hn9
  obtain ⟨B9, n9, d9, rfl⟩ := sr_one hm9
  have hss := H8.out.2.fx hf9 H8.out.1.t.blk H8.out.1.t.row (by decide) (by decide)
  obtain rfl : vs9 = [] := List.map_eq_nil_iff.1 hn9
  have hb9 := Fx.up H8.out.1.b H8.out.1.t (Nat.le_refl _) hf9
  obtain ⟨bA, rfl, hcA, cA2, cA3, hbsA⟩ := SsAt.cells hss
  obtain ⟨bB, rfl, hcB, cB2, cB3, hbsB⟩ := SsAt.cells hs9
  have hn1 : n7 = 1 := hbsA.len.symm
  subst hn1
  have s9 : (convert 30 9 (.slice B7 1 d7)).run Try.prog w9 = .ok (.string ⟨#[97]⟩) w9 := run_string_bs (P := Try.prog) hbsA 30 9 5 d7 Try.underlying30 Try.underlying5 Try.underlying9
  have hlen := exlen_f ht9
  have hhas := exhas_f ht9 1 7
  have H9 := Lib.hid (And.intro ht9 (And.intro hb9 (And.intro hlen hhas)))
  replace cA3 : w9.cell? ⟨bA, 3, none⟩ = some (.bool false) := cA3
  replace cB3 : w9.cell? ⟨bB, 3, none⟩ = some (.bool true) := cB3
  clear hk hs9 hm9 ht9 hn9 hv9 hf9 hss hb9 hbsA hbsB hlen hhas
  go_wp2_with (first
    | (go_at_call 21; refine H9.out.2.2.1.mono ?_; rintro e w10 ⟨rfl, hw⟩; obtain rfl := hw.symm)
    | (go_at_call 22; refine H9.out.2.2.2.mono ?_; rintro e w11 ⟨rfl, b11⟩; have H11 := Lib.hid b11; clear b11; have hst := exstop_f (H9.out.1.below H11.out) 1 7; have HST := Lib.hid hst; clear hst)
    | (go_at_call 12; refine HST.out.mono ?_; rintro e w12 ⟨rfl, v12, vs12, ht12, hm12, hv12, hf12⟩; have H12 := Lib.hid (Fx.up (H9.out.2.1.trans (H11.out.mono H9.out.2.1.size)) (H9.out.1.below H11.out) (Nat.le_refl _) hf12); clear ht12 hm12 hv12 hf12))
  go_ret
  exact ⟨rfl, H12.out⟩
end Go.Proofs.Ytkhikpbchimodaa
