/-
  CacheLast: of the last eight that were kept each is found, with what was kept last for it.
-/
import Derived.Test.YtdlgemlpbpbhcaaCaLast
import Derived.Test.YtdlgemlpbpbhcaaCaPlaysLaw
namespace Go.Proofs.Ytdlgemlpbpbhcaa
open Go.RowKit
set_option linter.unusedVariables false
set_option maxRecDepth 100000
/-- The cache and the row of the last ones. -/
structure LS (w : World) (cb : Nat) (wr : World) (now : Int) (v : Value) (vs : List An) (cs : List Qa) (lv : Value) (X : List Opc) : Prop where
  ca : CaAt wr cb v vs cs
  la : LastAt wr lv X
  eq : cs = X.map opQ
  tle : ∀ q ∈ cs, q.t ≤ now
  keys : cs.Pairwise (fun a b => ¬ (a.f = b.f ∧ a.i = b.i))
  arg : ∀ s ∈ X, Bs w w.heap.size s.A s.n s.l ∧ s.n ≤ 200
  few : X.length ≤ 8
  bel : Below w.heap.size w wr
theorem LS.below {w wr wy : World} {cb : Nat} {now : Int} {v lv : Value} {vs : List An} {cs : List Qa} {X : List Opc} (h : LS w cb wr now v vs cs lv X) (hb : Below wr.heap.size wr wy) : LS w cb wy now v vs cs lv X :=
  ⟨h.ca.below hb, h.la.kept (fun _ _ _ ho => row_below4 ho hb), h.eq, h.tle, h.keys, h.arg, h.few, h.bel.trans (hb.mono h.bel.size)⟩
theorem own_bs {W : World} {B n c : Nat} {A : Option Addr} {l : List UInt8} (h : W.ownsRow B 5 1 (.slice A n c) n (U8 l)) : Bs W W.heap.size A n l := by
  obtain ⟨A', c', e1, _, hb⟩ := Bs.of_own h
  injection e1 with e1 _ _
  rw [e1]; exact hb
/-- .. behind a Keep, while bytes are written over and the row is made anew. -/
structure LS2 (w : World) (cb : Nat) (wr : World) (v : Value) (vs : List An) (cs : List Qa) (lv : Value) (X : List Opc) (g : Nat) (s : Opc) : Prop where
  ca : CaAt wr cb v vs cs
  la : LastAt wr lv X
  box : BoxAt wr g s
  bel : Below w.heap.size w wr
theorem LS2.below {w wr wy : World} {cb g : Nat} {v lv : Value} {vs : List An} {cs : List Qa} {X : List Opc} {s : Opc} (h : LS2 w cb wr v vs cs lv X g s) (hb : Below wr.heap.size wr wy) : LS2 w cb wy v vs cs lv X g s :=
  ⟨h.ca.below hb, h.la.kept (fun _ _ _ ho => row_below4 ho hb), h.box.below hb, h.bel.trans (hb.mono h.bel.size)⟩
theorem BoxAt.range {W : World} {g : Nat} {s : Opc} (h : BoxAt W g s) : W.rangeAt g 0 [.int .i64 s.k, .int .i64 s.a, .int .i64 s.b, .int .i64 s.t, .slice s.A s.n s.c] := by
  intro j v hv
  unfold BoxAt at h
  rw [Nat.zero_add, cell_of_row _ _ _ _ _ _ h, ← hv, ← Array.getElem?_toList]
theorem own9 {W : World} {B n c N : Nat} {A : Option Addr} {xs : List Value} (h : W.ownsRow B 30 5 (.slice A n c) N xs) (hN : N = 9) : ∃ g, A = some ⟨g, 0, none⟩ ∧ 9 ≤ c := by
  rcases h.2 with ⟨_, h0⟩ | ⟨g, cap, cur, e, _, _, hc, _⟩
  · omega
  · injection e with e1 e2 e3
    exact ⟨g, e1, by omega⟩
theorem keepO_step {X : List Opc} {k : Nat} {s : Opc} {p : Opc → Bool} (hs : X[k]? = some s) : (X.take (k + 1)).filter p = (X.take k).filter p ++ (if p s = true then [s] else []) := by
  rw [List.take_add_one, hs, List.filter_append]
  congr 1
  cases hp : p s <;> simp [List.filter, hp]
set_option maxHeartbeats 32000000 in
theorem calast_law (A : Option Addr) (n c : Nat) (os : List Opc) (gap : Int) (w : World) (h : Opcs w w.heap.size A n os) (hc : n ≤ c) (hm : c ≤ maxLen) :
    Calls Try.prog 4 #[.slice A n c, .int .i64 gap] w fun e w' => e = .returned (.bool true) ∧ Below w.heap.size w w' := by
  have hsm := fun W (hb : Below w.heap.size w W) => small11_f A n c os W _ (h.below hb (Nat.le_refl _)) hb.size hc hm
  obtain ⟨b, hb⟩ : ∃ b, smallOc os = b := ⟨_, rfl⟩
  rw [hb] at hsm
  have HS := Lib.hid hsm
  clear hsm
  cases b with
  | false =>
    go_enter Try.func4, Try.ntmps4
    go_wp2_with (first
      | (go_at_call 6; refine (caalive_any _).mono ?_; rintro e w1 ⟨rfl, b1⟩; have H1 := Lib.hid b1; clear b1)
      | (go_at_call 7; refine (HS.out _ H1.out).mono ?_; rintro e w2 ⟨rfl, b2⟩; have H2 := Lib.hid b2; clear b2))
    go_ret
    exact ⟨rfl, H1.out.trans (H2.out.mono H1.out.size)⟩
  | true =>
    obtain ⟨h60, h200⟩ := smallOc_is hb
    have hl := h.len
    have HO := Lib.hid (And.intro h (And.intro h60 (And.intro h200 hl)))
    have hnI : (n : Int) ≤ 60 := by omega
    obtain ⟨i0, hi0, hz0, hz1, hz2⟩ := info_parts infoO
    clear h hb h60 h200
    go_enter Try.func4, Try.ntmps4
    go_wp2_with (first
      | (go_at_call 6; refine (caalive_any _).mono ?_; rintro e w1 ⟨rfl, b1⟩; have H1 := Lib.hid b1; clear b1)
      | (go_at_call 7; refine (HS.out _ H1.out).mono ?_; rintro e w2 ⟨rfl, b2⟩; have H2 := Lib.hid (H1.out.trans (b2.mono H1.out.size)); clear b2)
      | (go_at_call 8; refine (canew_f w2).mono ?_; rintro e w3 ⟨rfl, hca, b3, s3⟩; have H3 := Lib.hid (And.intro hca (And.intro b3 s3)); clear hca b3 s3))
    refine wp_at_world (F := fun W => Below w3.heap.size w3 W ∧ W.ownsRow w3.heap.size 30 5 (.slice (some ⟨w3.heap.size, 0, none⟩) 0 0) 0 []) ⟨alloc_below _ _, ca_row w3 _ (Nat.le_refl _) _ _⟩ fun w4 ⟨b4, o4⟩ => ?_
    have H4 := Lib.hid (LS.mk (now := 0) (H3.out.1.below b4) ⟨_, _, _, [], own_mono o4 (Nat.zero_le _), .inl ⟨rfl, rfl⟩⟩ rfl (fun q hq => by cases hq) List.Pairwise.nil (fun s hs => by cases hs) (Nat.zero_le _) (H2.out.trans ((H3.out.2.1.trans (b4.mono H3.out.2.1.size)).mono H2.out.size)))
    have hcbw : w.heap.size ≤ w2.heap.size := H2.out.size
    clear b4 o4 H1 HS
    go_loopw [6, 7, 31] (fun nv lv iv wr => ∃ (k : Nat) (now : Int) (v : Value) (vs : List An) (cs : List Qa) (X : List Opc), k ≤ n ∧ iv = .int .i64 (k : Int) ∧ nv = .int .i64 now ∧ 0 ≤ now ∧ now ≤ 31 * (k : Int) ∧ Aside (LS w w2.heap.size wr now v vs cs lv X)) (fun _ _ iv _ => n - (intOf iv).toNat)
    case atStart => exact ⟨0, 0, _, _, _, _, Nat.zero_le _, rfl, rfl, Int.le_refl _, by omega, H4.out⟩
    case round =>
      obtain ⟨k, now, v, vs, cs, X, hk, rfl, rfl, hnow0, hnow1, hrel⟩ := hrel
      obtain ⟨AL, cL, hlv, hcL, _⟩ := hrel.out.la.oh
      subst hlv
      have hX8 := hrel.out.few
      obtain ⟨xn, hxn⟩ : ∃ xn, X.length = xn := ⟨_, rfl⟩
      rw [hxn] at hX8 hcL hrel ⊢
      have HXN := Lib.hid hxn
      clear hxn
      by_cases hlt : k < n
      · obtain ⟨s, hs⟩ := opc_get (os := os) (k := k) (by rw [hl]; exact hlt)
        obtain ⟨b, off, rfl, hb, hat⟩ := HO.out.1.place (by omega)
        have hbel := hrel.out.bel
        have hop := (hat k s hs).keep hb (fun p hp => hbel.cell (p := p) (by omega))
        have hrg := hop.range
        simp only [Opc.vals] at hrg
        have hs200 := HO.out.2.2.1 s (List.mem_of_getElem? hs)
        have HR := Lib.hid (And.intro hrel.out (And.intro (hat k s hs).bs hs200))
        obtain ⟨r, hr⟩ : ∃ r, s.t % 32 = r := ⟨_, rfl⟩
        have hr0 : 0 ≤ r := by omega
        have hr1 : r < 32 := by omega
        have hand : bits .and .i64 s.t 31 = r := by rw [and31]; exact hr
        have hsnI : (s.n : Int) ≤ 200 := by omega
        clear hrel hs hat hop hbel hs200 hr
        go_upto_region 11 with (refine wpList_load_mid rfl 30 (.tmp 33) rfl b (off + k * 5) rfl [.int .i64 s.k, .int .i64 s.a, .int .i64 s.b, .int .i64 s.t, .slice s.A s.n s.c] _ hrg Try.underlying30 rfl size_opc ?_)
        obtain ⟨gb, hgb⟩ : ∃ gb, wr.heap.size = gb := ⟨_, rfl⟩
        refine wp_at_world (F := fun W => LS w w2.heap.size W now v vs cs (.slice AL xn cL) X ∧ BoxAt W wr.heap.size s) ⟨HR.out.1.below (alloc_below _ _), heap_alloc_new _ _⟩ fun w5 ⟨h5, x5⟩ => ?_
        rw [hgb] at x5 ⊢
        obtain ⟨e0, e1, e2, e3, e4⟩ := x5.cells
        have hbsw : ∀ W, Below w.heap.size w W → Bs W w.heap.size s.A s.n s.l := fun W hW => HR.out.2.1.below hW
        have H5 := Lib.hid (And.intro h5 (And.intro x5 hbsw))
        clear h5 x5 hbsw hrg HR hgb
        go_wp2_with fail
        have hbel5 := H5.out.1.bel
        refine (rcopy_any s.A s.n s.c s.l w5 _ ((H5.out.2.2 w5 hbel5).more hbel5.size) (Nat.le_refl _) (by omega)).mono ?_
        rintro e w6 ⟨v6, rfl, ho6, b6⟩
        obtain ⟨A6, c6, rfl, hc6, _⟩ := Bs.of_own ho6
        have hm := (H5.out.2.2 w5 hbel5).len
        rw [hm] at ho6 hc6
        have hx6 := H5.out.2.1.below b6
        obtain ⟨f0, f1, f2, f3, f4⟩ := hx6.cells
        have H6 := Lib.hid (And.intro (H5.out.1.below b6) (And.intro hx6 (And.intro ho6 (And.intro b6 hm))))
        clear hbel5 ho6 b6 hx6 e0 e1 e2 e3 e4
        rw [hm]
        clear hm
        go_wp2_with fail
        refine (cakeep2_f w2.heap.size v vs cs w6 H6.out.1.ca s.a s.b (now + r) A6 s.n c6 s.l (fun W hW => own_bs (row_kpt hW H6.out.2.2.1 (by decide) (by decide))) (by omega)).mono ?_
        rintro e w7 ⟨rfl, ⟨v7, vs7, hca7, hnew⟩, kp⟩
        have ho7 := row_kpt kp H6.out.2.2.1 (by decide) (by decide)
        have hoff : ∀ x ∈ vs7, x.A = none ∨ ∀ a, x.A = some a → some a.block ≠ (Value.slice A6 s.n c6).ownBlock := by
          intro x hx
          cases hA : x.A with
          | none => exact .inl rfl
          | some a =>
            refine .inr fun a' ha' e => ?_
            obtain rfl := Option.some.inj ha'
            have hg := H6.out.2.2.1.lt a.block e.symm
            rcases hnew x hx with hx | hx
            · obtain ⟨j, hj⟩ := List.mem_iff_getElem?.1 hx
              have hjl := (List.getElem?_eq_some_iff.1 hj).1
              have hl5 := H5.out.1.ca.len
              have hka := H5.out.1.ca.each j x _ hj (List.getElem?_eq_getElem (by omega))
              have := (hka.b.lt a.block (by rw [hA]; rfl)).2
              omega
            · have := hx a hA
              omega
        have hS7 : LS2 w w2.heap.size w7 v7 vs7 (keepQ cs s.a s.b (now + r) s.l) (.slice AL xn cL) X gb s := ⟨hca7, H6.out.1.la.kept (fun _ _ _ ho => row_kpt kp ho (by decide) (by decide)), H6.out.2.1.kpt kp, H6.out.1.bel.trans (kp.toBelow hcbw)⟩
        have H7 := Lib.hid (And.intro hS7 (And.intro ho7 hoff))
        clear hca7 hnew kp ho7 hoff hS7 f0 f1 f2 f3 f4
        go_wp2_with fail
        go_loopw [53] (fun iv wz => ∃ j : Nat, j ≤ s.n ∧ iv = .int .i64 (j : Int) ∧ Aside (MyB wz w5.heap.size A6 s.n c6 ∧ w7.grownBy wz (Value.slice A6 s.n c6).ownBlock)) (fun iv _ => s.n - (intOf iv).toNat)
        case atStart => exact ⟨0, Nat.zero_le _, rfl, MyB.of H7.out.2.1, World.grownBy.refl _ _⟩
        case round =>
          obtain ⟨j, hjm, rfl, hrel2⟩ := hrel
          by_cases hjl : j < s.n
          · obtain ⟨g, rfl, hg, hgc, hfz, hcell⟩ := hrel2.out.1.open_ (by omega)
            obtain ⟨z, hz⟩ := hcell j hjl
            have hfj := hfz j
            have hjI : (j : Int) < s.n := by omega
            have hset := fun y => hrel2.out.1.set j y
            have HST := Lib.hid (And.intro hset hrel2.out.2)
            clear hrel2 hfz hcell hset
            go_wp2
            go_roundw
            case rel => exact ⟨j + 1, by omega, by go_num, (show Aside _ from ⟨(HST.out.1 _).1, ca_grownBy_trans HST.out.2 (HST.out.1 _).2⟩)⟩
            case measure => simp [intOf]; omega
          · obtain rfl : j = s.n := by omega
            have hS8 : LS2 w w2.heap.size wr v7 vs7 (keepQ cs s.a s.b (now + r) s.l) (.slice AL xn cL) X gb s := by
              have hg := hrel2.out.2
              have h7 := H7.out.1
              refine ⟨h7.ca.off H7.out.2.1 H7.out.2.2 hg, h7.la.kept (fun _ _ _ ho => ho.kept hg (own_apart ho H7.out.2.1 (by decide))), BoxAt.off h7.box H7.out.2.1 hg, ?_⟩
              refine ⟨hg.os.trans h7.bel.os, hg.tape.trans h7.bel.tape, hg.output.trans h7.bel.output, Nat.le_trans h7.bel.size hg.size, fun k hk => (hg.block k (Nat.lt_of_lt_of_le hk h7.bel.size) (fun e => ?_)).trans (h7.bel.block k hk)⟩
              have := (H6.out.2.2.1.lt k e.symm).1
              have := H5.out.1.bel.size
              omega
            obtain ⟨w8, rfl⟩ : ∃ w8, w8 = wr := ⟨_, rfl⟩
            have H8 := Lib.hid hS8
            clear hS8 hrel2
            go_wp2_with fail
            refine wp_at_world (F := fun W => Below w8.heap.size w8 W ∧ W.ownsRow w8.heap.size 30 5 (.slice (some ⟨w8.heap.size, 0, none⟩) 0 0) 0 []) ⟨alloc_below _ _, ca_row w8 _ (Nat.le_refl _) _ _⟩ fun w9 ⟨b9, o9⟩ => ?_
            have H9 := Lib.hid (And.intro o9 b9)
            clear b9 o9
            go_loopw [12, 66] (fun v12 iv wy => ∃ j : Nat, j ≤ xn ∧ iv = .int .i64 (j : Int) ∧ Aside (wy.ownsRow w8.heap.size 30 5 v12 ((X.take j).filter (fun p => !(p.a == s.a && p.b == s.b))).length (ovs ((X.take j).filter (fun p => !(p.a == s.a && p.b == s.b)))) ∧ Below w8.heap.size w8 wy)) (fun _ iv _ => xn - (intOf iv).toNat)
            case atStart => exact ⟨0, Nat.zero_le _, rfl, H9.out⟩
            case round =>
              obtain ⟨j, hjx, rfl, hrel3⟩ := hrel
              obtain ⟨wy, rfl⟩ : ∃ wy, wy = wr := ⟨_, rfl⟩
              by_cases hjl : j < xn
              · have hSy := H8.out.below hrel3.out.2
                obtain ⟨AL', cL', hle, _, hoh⟩ := hSy.la.oh
                rw [HXN.out] at hle hoh
                injection hle with hle1 _ hle3
                subst hle1 hle3
                obtain ⟨p, hp⟩ : ∃ p, X[j]? = some p := ⟨_, List.getElem?_eq_getElem (by rw [HXN.out]; exact hjl)⟩
                obtain ⟨bL, offL, rfl, hbL, hcellL⟩ := hoh.place (by omega)
                have hrp := hcellL j p hp
                have hnx := keepO_step (p := fun p => !(p.a == s.a && p.b == s.b)) hp
                have hlen3 : ((X.take j).filter (fun p => !(p.a == s.a && p.b == s.b))).length ≤ 1000 := Nat.le_trans (List.length_filter_le _ _) (by rw [List.length_take]; omega)
                have hrl := hrel3.out
                generalize (X.take j).filter (fun p => !(p.a == s.a && p.b == s.b)) = F at hnx hlen3 hrl
                have HR3 := Lib.hid hlen3
                have hjI : (j : Int) < xn := by omega
                have HY := Lib.hid (And.intro hSy hrl)
                clear hlen3 hcellL hoh hSy hrel3 hrl hp hbL
                obtain ⟨pk, pa, pb, pt, pA, pn, pc, pl⟩ := p
                simp only [Opc.vals] at hrp
                dsimp only at hnx
                go_upto_region 23 with (refine wpList_load_mid rfl 30 (.tmp 68) rfl bL (offL + j * 5) rfl [.int .i64 pk, .int .i64 pa, .int .i64 pb, .int .i64 pt, .slice pA pn pc] _ hrp Try.underlying30 rfl size_opc ?_)
                refine wp_at_world (F := fun W => W.ownsRow w8.heap.size 30 5 u12 F.length (ovs F) ∧ Below w8.heap.size w8 W ∧ BoxAt W gb s ∧ BoxAt W wy.heap.size ⟨pk, pa, pb, pt, pA, pn, pc, pl⟩) ⟨HY.out.2.1.alloc _, HY.out.2.2.trans ((alloc_below _ _).mono HY.out.2.2.size), HY.out.1.box.below (alloc_below _ _), heap_alloc_new _ _⟩ fun wp ⟨q1, q2, q3, q4⟩ => ?_
                obtain ⟨f0, f1, f2, f3, f4⟩ := q3.cells
                obtain ⟨g0, g1, g2, g3, g4⟩ := q4.cells
                dsimp only at g0 g1 g2 g3 g4
                have HP := Lib.hid (And.intro q1 (And.intro q2 q4))
                clear q1 q2 q3 q4 hrp
                by_cases hf : pa = s.a
                · subst hf
                  by_cases hi : pb = s.b
                  · have hpp : (!(s.a == s.a && pb == s.b)) = false := by rw [hi]; simp
                    rw [if_neg (by rw [hpp]; decide), List.append_nil] at hnx
                    have HN := Lib.hid hnx
                    clear hnx hpp
                    go_wp2_with fail
                    go_roundw
                    case rel => exact ⟨j + 1, by omega, by go_num, (show Aside _ from ⟨by rw [HN.out]; exact HP.out.1, HP.out.2.1⟩)⟩
                    case measure => simp [intOf]; omega
                  · have hpp : (!(s.a == s.a && pb == s.b)) = true := by rw [beq_eq_false_iff_ne.2 hi]; simp
                    rw [if_pos hpp] at hnx
                    have HN := Lib.hid hnx
                    clear hnx hpp
                    go_wp2_with (first
                      | (refine wpList_load_mid rfl 30 (.tmp 14) rfl wy.heap.size 0 rfl [.int .i64 pk, .int .i64 s.a, .int .i64 pb, .int .i64 pt, .slice pA pn pc] _ HP.out.2.2.range Try.underlying30 rfl size_opc ?_)
                      | (at_builtin; refine append_one5 wp rfl (.tmp 82) (.tmp 84) 22 rfl w8.heap.size 30 i0 _ Try.underlying22 hi0 hz0 hz1 hz2 rfl u12 F rfl HP.out.1 ⟨pk, s.a, pb, pt, pA, pn, pc, pl⟩ _ rfl HR3.out (by have := HP.out.2.1.size; omega) ?_; intro A5 c5 w5' hown hgr; have HW := Lib.hid (And.intro hown (grown_below (HP.out.2.1.alloc HP.out.2.1.size _) (HP.out.1.alloc _) (Nat.le_refl _) hgr)); clear hown hgr))
                    go_roundw
                    case rel => exact ⟨j + 1, by omega, by go_num, (show Aside _ from ⟨by rw [HN.out]; have := HW.out.1; rw [List.length_append] at this ⊢; exact this, HW.out.2⟩)⟩
                    case measure => simp [intOf]; omega
                · have hpp : (!(pa == s.a && pb == s.b)) = true := by rw [beq_eq_false_iff_ne.2 hf]; simp
                  rw [if_pos hpp] at hnx
                  have HN := Lib.hid hnx
                  clear hnx hpp
                  go_wp2_with (first
                    | (refine wpList_load_mid rfl 30 (.tmp 14) rfl wy.heap.size 0 rfl [.int .i64 pk, .int .i64 pa, .int .i64 pb, .int .i64 pt, .slice pA pn pc] _ HP.out.2.2.range Try.underlying30 rfl size_opc ?_)
                    | (at_builtin; refine append_one5 wp rfl (.tmp 82) (.tmp 84) 22 rfl w8.heap.size 30 i0 _ Try.underlying22 hi0 hz0 hz1 hz2 rfl u12 F rfl HP.out.1 ⟨pk, pa, pb, pt, pA, pn, pc, pl⟩ _ rfl HR3.out (by have := HP.out.2.1.size; omega) ?_; intro A5 c5 w5' hown hgr; have HW := Lib.hid (And.intro hown (grown_below (HP.out.2.1.alloc HP.out.2.1.size _) (HP.out.1.alloc _) (Nat.le_refl _) hgr)); clear hown hgr))
                  go_roundw
                  case rel => exact ⟨j + 1, by omega, by go_num, (show Aside _ from ⟨by rw [HN.out]; have := HW.out.1; rw [List.length_append] at this ⊢; exact this, HW.out.2⟩)⟩
                  case measure => simp [intOf]; omega
              · obtain rfl : j = xn := by omega
                have hdq : (X.take j).filter (fun p => !(p.a == s.a && p.b == s.b)) = X.filter (fun p => !(p.a == s.a && p.b == s.b)) := by rw [List.take_of_length_le (by rw [HXN.out]; exact Nat.le_refl _)]
                have hr3 := hrel3.out
                rw [hdq] at hr3
                have hSy := H8.out.below hr3.2
                obtain ⟨f0, f1, f2, f3, f4⟩ := hSy.box.cells
                have h5 := H5.out.1
                have hdl : (X.filter (fun p => !(p.a == s.a && p.b == s.b))).length ≤ 8 := Nat.le_trans (List.length_filter_le _ _) h5.few
                have hkq : keepQ cs s.a s.b (now + r) s.l = (cutL (X.filter (fun p => !(p.a == s.a && p.b == s.b)) ++ [⟨0, s.a, s.b, now + r, s.A, s.n, s.c, s.l⟩])).map opQ := by
                  rw [keepQ_last (by omega) (by omega) (fun q hq => by have := h5.tle q hq; omega), h5.eq]
                  exact opQ_keep X s.a s.b (now + r) ⟨0, s.a, s.b, now + r, s.A, s.n, s.c, s.l⟩ ⟨rfl, rfl, rfl⟩
                have htle : ∀ q ∈ keepQ cs s.a s.b (now + r) s.l, q.t ≤ now + r := by
                  rw [keepQ_last (by omega) (by omega) (fun q hq => by have := h5.tle q hq; omega)]
                  intro q hq
                  rcases List.mem_append.1 (mem_cutL hq) with hq | hq
                  · have := h5.tle q (List.mem_filter.1 hq).1; omega
                  · obtain rfl := List.mem_singleton.1 hq
                    exact Int.le_refl _
                have hkeys : (keepQ cs s.a s.b (now + r) s.l).Pairwise (fun a b => ¬ (a.f = b.f ∧ a.i = b.i)) := by
                  rw [keepQ_last (by omega) (by omega) (fun q hq => by have := h5.tle q hq; omega)]
                  exact keys_keep h5.keys _ _ _ _
                have harg : ∀ x ∈ cutL (X.filter (fun p => !(p.a == s.a && p.b == s.b)) ++ [⟨0, s.a, s.b, now + r, s.A, s.n, s.c, s.l⟩]), Bs w w.heap.size x.A x.n x.l ∧ x.n ≤ 200 := by
                  intro x hx
                  rcases List.mem_append.1 (mem_cutL hx) with hx | hx
                  · exact h5.arg x (List.mem_filter.1 hx).1
                  · obtain rfl := List.mem_singleton.1 hx
                    exact ⟨H5.out.2.2 w (Below.refl _ _), by show s.n ≤ 200; omega⟩
                generalize X.filter (fun p => !(p.a == s.a && p.b == s.b)) = d at *
                obtain ⟨q, hq⟩ : ∃ q, d.length = q := ⟨_, rfl⟩
                have HD := Lib.hid (And.intro hr3 (And.intro hSy (And.intro hkq (And.intro htle (And.intro hkeys (And.intro harg hq))))))
                rw [hq] at hdl
                have hqI : (q : Int) ≤ 8 := by omega
                have hszy := hr3.2.size
                clear hrel3 hr3 hSy hkq htle hkeys harg hdq h5 hq
                by_cases h8 : q = 8
                · subst h8
                  go_wp2_with (at_builtin; refine append_one5 wy rfl (.tmp 87) (.tmp 96) 22 rfl w8.heap.size 30 i0 _ Try.underlying22 hi0 hz0 hz1 hz2 rfl u12 d rfl HD.out.1.1 ⟨0, s.a, s.b, now + r, s.A, s.n, s.c, s.l⟩ _ rfl (by rw [HD.out.2.2.2.2.2.2]; omega) hszy ?_; intro A5 c5 w10 hown hgr; rw [HD.out.2.2.2.2.2.2]; have hbl := grown_below (HD.out.1.2.alloc hszy _) (HD.out.1.1.alloc _) (Nat.le_refl _) hgr; obtain ⟨g5, e5, hc9⟩ : ∃ g5, A5 = some ⟨g5, 0, none⟩ ∧ 9 ≤ c5 := own9 (by rw [HD.out.2.2.2.2.2.2] at hown; exact hown) (by rw [List.length_append, HD.out.2.2.2.2.2.2]; rfl); subst e5; have HW := Lib.hid (And.intro hown hbl); clear hown hgr hbl; have hc91 : ¬ c5 = 1 := (by omega))
                  go_roundw
                  case rel =>
                    have hlen9 : (d ++ [(⟨0, s.a, s.b, now + r, s.A, s.n, s.c, s.l⟩ : Opc)]).length = 9 := by rw [List.length_append, HD.out.2.2.2.2.2.2]; rfl
                    have hcut : cutL (d ++ [(⟨0, s.a, s.b, now + r, s.A, s.n, s.c, s.l⟩ : Opc)]) = (d ++ [(⟨0, s.a, s.b, now + r, s.A, s.n, s.c, s.l⟩ : Opc)]).drop 1 := by unfold cutL; rw [if_pos (by omega)]
                    have hw10 := HW.out.1
                    rw [HD.out.2.2.2.2.2.2, hlen9] at hw10
                    have hS10 := H8.out.below HW.out.2
                    refine ⟨k + 1, now + r, v7, vs7, _, cutL (d ++ [⟨0, s.a, s.b, now + r, s.A, s.n, s.c, s.l⟩]), by omega, by go_num, rfl, by omega, by omega, (show Aside _ from ⟨hS10.ca, ?_, HD.out.2.2.1, HD.out.2.2.2.1, HD.out.2.2.2.2.1, HD.out.2.2.2.2.2.1, len_cutL (by omega), hS10.bel⟩)⟩
                    exact ⟨some ⟨g5, 0, none⟩, 9, c5, _, own_mono hw10 (Nat.zero_le _), .inr ⟨g5, rfl, rfl, hcut, by omega⟩⟩
                  case measure => simp [intOf]; omega
                · have hq8 : (q : Int) < 8 := by omega
                  go_wp2_with (at_builtin; refine append_one5 wy rfl (.tmp 87) (.tmp 96) 22 rfl w8.heap.size 30 i0 _ Try.underlying22 hi0 hz0 hz1 hz2 rfl u12 d rfl HD.out.1.1 ⟨0, s.a, s.b, now + r, s.A, s.n, s.c, s.l⟩ _ rfl (by rw [HD.out.2.2.2.2.2.2]; omega) hszy ?_; intro A5 c5 w10 hown hgr; rw [HD.out.2.2.2.2.2.2]; have hbl := grown_below (HD.out.1.2.alloc hszy _) (HD.out.1.1.alloc _) (Nat.le_refl _) hgr; have HW := Lib.hid (And.intro hown hbl); clear hown hgr hbl)
                  go_roundw
                  case rel =>
                    have hlen9 : (d ++ [(⟨0, s.a, s.b, now + r, s.A, s.n, s.c, s.l⟩ : Opc)]).length = q + 1 := by rw [List.length_append, HD.out.2.2.2.2.2.2]; rfl
                    have hcut : cutL (d ++ [(⟨0, s.a, s.b, now + r, s.A, s.n, s.c, s.l⟩ : Opc)]) = d ++ [⟨0, s.a, s.b, now + r, s.A, s.n, s.c, s.l⟩] := by unfold cutL; rw [if_neg (by omega)]
                    have hw10 := HW.out.1
                    rw [HD.out.2.2.2.2.2.2, hlen9] at hw10
                    have hS10 := H8.out.below HW.out.2
                    refine ⟨k + 1, now + r, v7, vs7, _, cutL (d ++ [⟨0, s.a, s.b, now + r, s.A, s.n, s.c, s.l⟩]), by omega, by go_num, rfl, by omega, by omega, (show Aside _ from ⟨hS10.ca, ?_, HD.out.2.2.1, HD.out.2.2.2.1, HD.out.2.2.2.2.1, HD.out.2.2.2.2.2.1, len_cutL (by omega), hS10.bel⟩)⟩
                    exact ⟨A5, q + 1, c5, _, own_mono hw10 (Nat.zero_le _), .inl ⟨rfl, hcut⟩⟩
                  case measure => simp [intOf]; omega
      · obtain rfl : k = n := by omega
        obtain ⟨rg, hrg⟩ : ∃ rg, gap % 512 = rg := ⟨_, rfl⟩
        have hg0 : 0 ≤ rg := by omega
        have hg1 : rg < 512 := by omega
        have hand : bits .and .i64 gap 511 = rg := by rw [and511]; exact hrg
        have hxI : (xn : Int) ≤ 8 := by omega
        clear hrg
        obtain ⟨wa, rfl⟩ : ∃ wa, wa = wr := ⟨_, rfl⟩
        have HA := Lib.hid hrel.out
        clear hrel
        go_wp2_with fail
        go_loopw [110] (fun iv wz => ∃ j : Nat, j ≤ xn ∧ iv = .int .i64 (j : Int) ∧ Aside (LS w w2.heap.size wz now v vs cs (.slice AL xn cL) X)) (fun iv _ => xn - (intOf iv).toNat)
        case atStart => exact ⟨0, Nat.zero_le _, rfl, HA.out⟩
        case round =>
          obtain ⟨j, hjx, rfl, hrel⟩ := hrel
          obtain ⟨wb, rfl⟩ : ∃ wb, wb = wr := ⟨_, rfl⟩
          by_cases hjl : j < xn
          · have hSy := hrel.out
            obtain ⟨AL', cL', hle, _, hoh⟩ := hSy.la.oh
            rw [HXN.out] at hle hoh
            injection hle with hle1 _ hle3
            subst hle1 hle3
            obtain ⟨p, hp⟩ : ∃ p, X[j]? = some p := ⟨_, List.getElem?_eq_getElem (by rw [HXN.out]; exact hjl)⟩
            obtain ⟨bL, offL, rfl, hbL, hcellL⟩ := hoh.place (by omega)
            have hrp := hcellL j p hp
            simp only [Opc.vals] at hrp
            have hjI : (j : Int) < xn := by omega
            have hpX := List.mem_of_getElem? hp
            have hpq : opQ p ∈ cs := by rw [hSy.eq]; exact List.mem_map_of_mem hpX
            have hpt := hSy.tle _ hpq
            have hpt0 : 0 ≤ p.t := by
              obtain ⟨i, hi⟩ := List.mem_iff_getElem?.1 hpq
              have hil := (List.getElem?_eq_some_iff.1 hi).1
              have hl5 := hSy.ca.len
              have hs : vs[i]? = some (vs[i]'(by omega)) := List.getElem?_eq_getElem (by omega)
              have hka := hSy.ca.each i _ _ hs hi
              have := (hSy.ca.tok _ (List.mem_of_getElem? hs)).1
              rw [hka.t] at this
              exact this
            have hpt1 : p.t ≤ now := hpt
            have hclN : clampN (now + rg) = now + rg := by unfold clampN; omega
            have hfind : findQ cs p.a p.b (now + rg) = if (now + rg) - p.t < 247 then some p.l else none := by
              have := find_in hSy.keys hpq (now + rg)
              rw [hclN] at this
              exact this
            have harg := hSy.arg p hpX
            have hpn : (p.n : Int) ≤ 200 := by omega
            have HY := Lib.hid (And.intro hSy harg)
            clear hcellL hoh hSy hrel hp hbL hpX hpq hpt hclN harg
            go_upto_region 34 with (refine wpList_load_mid rfl 30 (.tmp 112) rfl bL (offL + j * 5) rfl [.int .i64 p.k, .int .i64 p.a, .int .i64 p.b, .int .i64 p.t, .slice p.A p.n p.c] _ hrp Try.underlying30 rfl size_opc ?_)
            obtain ⟨gp, hgp⟩ : ∃ gp, wb.heap.size = gp := ⟨_, rfl⟩
            refine wp_at_world (F := fun W => LS w w2.heap.size W now v vs cs (.slice (some ⟨bL, offL, none⟩) xn cL) X ∧ BoxAt W wb.heap.size p) ⟨HY.out.1.below (alloc_below _ _), heap_alloc_new _ _⟩ fun w5 ⟨h5, x5⟩ => ?_
            rw [hgp] at x5 ⊢
            obtain ⟨e0, e1, e2, e3, e4⟩ := x5.cells
            have H5 := Lib.hid (And.intro h5 (And.intro x5 HY.out.2))
            clear h5 x5 hrp HY hgp
            by_cases hlv : (now + rg) - p.t < 247
            · have hfq : findQ cs p.a p.b (now + rg) = some p.l := by rw [hfind, if_pos hlv]
              have HFQ := Lib.hid hfq
              clear hfq hfind
              have hcv := cafind2_f w2.heap.size v vs cs w5 H5.out.1.ca p.a p.b (now + rg)
              rw [HFQ.out] at hcv
              go_wp2_with fail
              refine hcv.mono ?_
              rintro e w6 ⟨A5, n5, c5, rfl, hc5, hn5, ho5, b6⟩
              obtain rfl : p.n = n5 := H5.out.2.2.1.len.symm.trans hn5.out.symm
              have hS6 := H5.out.1.below b6
              have hx6 := H5.out.2.1.below b6
              obtain ⟨f0, f1, f2, f3, f4⟩ := hx6.cells
              have hsam : Calls Try.prog 14 #[.slice A5 p.n c5, .slice p.A p.n p.c] w6 fun e w' => e = .returned (.bool true) ∧ Below w6.heap.size w6 w' :=
                (same_any A5 p.A p.n c5 p.n p.c p.l p.l w6 _ _ (own_bs ho5) (H5.out.2.2.1.below hS6.bel) (by omega) (by omega)).mono (by
                  rintro e w' ⟨rfl, m, rfl⟩
                  exact ⟨by rw [decide_eq_true rfl], drewN_below _ _ m⟩)
              have H6 := Lib.hid (And.intro hS6 (And.intro hx6 (And.intro ho5 (And.intro b6.size hsam))))
              clear hn5 b6 hS6 hx6 ho5 hcv hsam e0 e1 e2 e3 e4
              try dsimp only
              go_wp2_with (go_at_call 14; refine H6.out.2.2.2.2.mono ?_; rintro e w7 ⟨rfl, b7⟩; have hS7 := H6.out.1.below b7; have hx7 := H6.out.2.1.below b7; have ho7 := row_below4 H6.out.2.2.1 b7; have H7 := Lib.hid (And.intro hS7 (And.intro hx7 (And.intro ho7 b7.size))); clear b7 hS7 hx7 ho7)
              go_loopw [143] (fun iv wz => ∃ i : Nat, i ≤ p.n ∧ iv = .int .i64 (i : Int) ∧ Aside (MyB wz w5.heap.size A5 p.n c5 ∧ w7.grownBy wz (Value.slice A5 p.n c5).ownBlock)) (fun iv _ => p.n - (intOf iv).toNat)
              case atStart => exact ⟨0, Nat.zero_le _, rfl, MyB.of H7.out.2.2.1, World.grownBy.refl _ _⟩
              case round =>
                obtain ⟨i, hin, rfl, hrel2⟩ := hrel
                by_cases hil : i < p.n
                · obtain ⟨g, rfl, hg, hgc, hfz, hcell⟩ := hrel2.out.1.open_ (by omega)
                  obtain ⟨z, hz⟩ := hcell i hil
                  have hfj := hfz i
                  have hiI : (i : Int) < p.n := by omega
                  have hset := fun y => hrel2.out.1.set i y
                  have HST := Lib.hid (And.intro hset hrel2.out.2)
                  clear hrel2 hfz hcell hset
                  go_wp2
                  go_roundw
                  case rel => exact ⟨i + 1, by omega, by go_num, (show Aside _ from ⟨(HST.out.1 _).1, ca_grownBy_trans HST.out.2 (HST.out.1 _).2⟩)⟩
                  case measure => simp [intOf]; omega
                · obtain rfl : i = p.n := by omega
                  have hg := hrel2.out.2
                  have h7 := H7.out.1
                  have hoff : ∀ x ∈ vs, x.A = none ∨ ∀ a, x.A = some a → some a.block ≠ (Value.slice A5 p.n c5).ownBlock := by
                    intro x hx
                    cases hA : x.A with
                    | none => exact .inl rfl
                    | some a =>
                      refine .inr fun a' ha' e => ?_
                      obtain rfl := Option.some.inj ha'
                      have hgl := (H6.out.2.2.1.lt a.block e.symm).1
                      obtain ⟨i', hi'⟩ := List.mem_iff_getElem?.1 hx
                      have hjl' := (List.getElem?_eq_some_iff.1 hi').1
                      have hl5 := H5.out.1.ca.len
                      have hka := H5.out.1.ca.each i' x _ hi' (List.getElem?_eq_getElem (by omega))
                      have := (hka.b.lt a.block (by rw [hA]; rfl)).2
                      omega
                  have hbel8 : Below w.heap.size w wr := by
                    refine ⟨hg.os.trans h7.bel.os, hg.tape.trans h7.bel.tape, hg.output.trans h7.bel.output, Nat.le_trans h7.bel.size hg.size, fun k hk => (hg.block k (Nat.lt_of_lt_of_le hk h7.bel.size) (fun e => ?_)).trans (h7.bel.block k hk)⟩
                    have := (H6.out.2.2.1.lt k e.symm).1
                    have := H5.out.1.bel.size
                    omega
                  have hS8 : LS w w2.heap.size wr now v vs cs (.slice (some ⟨bL, offL, none⟩) xn cL) X := ⟨h7.ca.off H7.out.2.2.1 hoff hg, h7.la.kept (fun _ _ _ ho => ho.kept hg (own_apart ho H7.out.2.2.1 (by decide))), h7.eq, h7.tle, h7.keys, h7.arg, h7.few, hbel8⟩
                  have hx8 : BoxAt wr gp p := BoxAt.off H7.out.2.1 H7.out.2.2.1 hg
                  obtain ⟨w8, rfl⟩ : ∃ w8, w8 = wr := ⟨_, rfl⟩
                  obtain ⟨f0, f1, f2, f3, f4⟩ := hx8.cells
                  have hcv := cafind2_f w2.heap.size v vs cs w8 hS8.ca p.a p.b (now + rg)
                  rw [HFQ.out] at hcv
                  have H8 := Lib.hid (And.intro hS8 (And.intro hx8 hcv))
                  clear hS8 hx8 hcv hbel8 hoff hg h7 hrel2
                  go_wp2_with fail
                  refine H8.out.2.2.mono ?_
                  rintro e w9 ⟨A7, n7, c7, rfl, hc7, hn7, ho7, b9⟩
                  obtain rfl : p.n = n7 := H5.out.2.2.1.len.symm.trans hn7.out.symm
                  have hS9 := H8.out.1.below b9
                  have hx9 := H8.out.2.1.below b9
                  obtain ⟨g0, g1, g2, g3, g4⟩ := hx9.cells
                  have hsam : Calls Try.prog 14 #[.slice A7 p.n c7, .slice p.A p.n p.c] w9 fun e w' => e = .returned (.bool true) ∧ Below w9.heap.size w9 w' :=
                    (same_any A7 p.A p.n c7 p.n p.c p.l p.l w9 _ _ (own_bs ho7) (H5.out.2.2.1.below hS9.bel) (by omega) (by omega)).mono (by
                      rintro e w' ⟨rfl, m, rfl⟩
                      exact ⟨by rw [decide_eq_true rfl], drewN_below _ _ m⟩)
                  have H9 := Lib.hid (And.intro hS9 hsam)
                  clear hn7 b9 hS9 hx9 ho7 hsam f0 f1 f2 f3 f4
                  try dsimp only
                  go_wp2_with (go_at_call 14; refine H9.out.2.mono ?_; rintro e w10 ⟨rfl, b10⟩; have hS10 := H9.out.1.below b10; have H10 := Lib.hid hS10; clear b10 hS10)
                  go_roundw
                  case rel => exact ⟨j + 1, by omega, by go_num, H10.out⟩
                  case measure => simp [intOf]; omega
            · have hfq : findQ cs p.a p.b (now + rg) = none := by rw [hfind, if_neg hlv]
              have HFQ := Lib.hid hfq
              clear hfq hfind
              have hcv := cafind2_f w2.heap.size v vs cs w5 H5.out.1.ca p.a p.b (now + rg)
              rw [HFQ.out] at hcv
              go_wp2_with fail
              refine hcv.mono ?_
              rintro e w7 ⟨A5, n5, c5, rfl, hc5, hn5, ho5, b6⟩
              obtain rfl : n5 = 0 := hn5.out
              have hS6 := H5.out.1.below b6
              have hx6 := H5.out.2.1.below b6
              obtain ⟨f0, f1, f2, f3, f4⟩ := hx6.cells
              have H7 := Lib.hid (And.intro hS6 hx6)
              clear hn5 b6 hS6 hx6 ho5 hcv e0 e1 e2 e3 e4 hc5
              try dsimp only
              go_wp2_with fail
              go_loopw [143] (fun iv wz => iv = .int .i64 0 ∧ wz = w7) (fun _ _ => 0)
              case atStart => exact ⟨rfl, rfl⟩
              case round =>
                obtain ⟨rfl, rfl⟩ := hrel
                have hcv := cafind2_f w2.heap.size v vs cs wr H7.out.1.ca p.a p.b (now + rg)
                rw [HFQ.out] at hcv
                have H8 := Lib.hid hcv
                clear hcv
                go_wp2_with fail
                refine H8.out.mono ?_
                rintro e w9 ⟨A7, n7, c7, rfl, hc7, hn7, ho7, b9⟩
                have hS9 := H7.out.1.below b9
                have H9 := Lib.hid hS9
                clear hn7 b9 hS9 ho7 f0 f1 f2 f3 f4
                try dsimp only
                go_wp2_with fail
                go_roundw
                case rel => exact ⟨j + 1, by omega, by go_num, H9.out⟩
                case measure => simp [intOf]; omega
          · obtain rfl : j = xn := by omega
            have hln := calen_f w2.heap.size v vs cs wb hrel.out.ca (now + rg)
            have hcnt : cntQ (now + rg) cs ≤ 8 := by
              have h1 : cntQ (now + rg) cs ≤ cs.length := List.length_filter_le _ _
              have h2 := hrel.out.ca.len
              have h3 := hrel.out.ca.few
              omega
            generalize cntQ (now + rg) cs = cnt at *
            have hcI : (cnt : Int) ≤ 8 := by omega
            have HB := Lib.hid hrel.out.bel
            clear hrel
            go_wp2_with (go_at_call 15; refine hln.mono ?_; rintro e w9 ⟨rfl, b9⟩)
            go_ret
            exact ⟨rfl, HB.out.trans (b9.mono HB.out.size)⟩
end Go.Proofs.Ytdlgemlpbpbhcaa
