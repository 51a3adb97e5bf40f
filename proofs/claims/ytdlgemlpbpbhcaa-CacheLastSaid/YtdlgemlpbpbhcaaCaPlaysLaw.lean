/-
  CachePlays: of each row of steps every answer is as the document says.
-/
import Derived.Test.YtdlgemlpbpbhcaaCaPlays
import Derived.Deep.CutRange
import Derived.Deep.CutBlock
namespace Go.Proofs.Ytdlgemlpbpbhcaa
open Go.RowKit
set_option maxRecDepth 100000
set_option linter.unusedVariables false
theorem smallOc_is {os : List Opc} (h : smallOc os = true) : os.length ≤ 60 ∧ ∀ o ∈ os, o.n ≤ 200 := by
  unfold smallOc at h
  rw [Bool.and_eq_true_iff] at h
  exact ⟨of_decide_eq_true h.2, fun o ho => of_decide_eq_true (List.all_eq_true.1 h.1 o ho)⟩
def CP20 (cb gb m' : Nat) (A' : Option Addr) (c' : Nat) (A5 : Option Addr) (n5 c5 : Nat) (A9 : Option Addr) (n9 c9 : Nat) (ok : Bool) (t : Int) (cnt : Nat) (i : Nat) (w : World) (v : Value) : Prop :=
  match i with
  | 0 | 1 => v = .bool ok
  | 4 => v = .slice A5 n5 c5
  | 5 => v = .slice A9 n9 c9
  | 6 => v = .bool true
  | 10 => v = .pointer (some ⟨cb, 0, none⟩)
  | 11 | 15 => v = .pointer (some ⟨gb, 3, none⟩)
  | 12 | 16 => v = .int .i64 t
  | 13 | 17 => v = .int .i64 (cnt : Int)
  | 14 => v = .slice A' m' c'
  | _ => v = .bool false
theorem CP20.grow {cb gb m' : Nat} {A' : Option Addr} {c' : Nat} {A5 : Option Addr} {n5 c5 : Nat} {A9 : Option Addr} {n9 c9 : Nat} {ok : Bool} {t : Int} {cnt : Nat} (i : Nat) (w w' : World) (v : Value) (h : CP20 cb gb m' A' c' A5 n5 c5 A9 n9 c9 ok t cnt i w v) : CP20 cb gb m' A' c' A5 n5 c5 A9 n9 c9 ok t cnt i w' v := by
  unfold CP20 at h ⊢
  exact h
/-- The step's box. -/
def BoxAt (W : World) (g : Nat) (s : Opc) : Prop := W.heap[g]? = some (.cells #[.int .i64 s.k, .int .i64 s.a, .int .i64 s.b, .int .i64 s.t, .slice s.A s.n s.c] 30)
theorem BoxAt.cells {W : World} {g : Nat} {s : Opc} (h : BoxAt W g s) : W.cell? ⟨g, 0, none⟩ = some (.int .i64 s.k) ∧ W.cell? ⟨g, 1, none⟩ = some (.int .i64 s.a) ∧ W.cell? ⟨g, 2, none⟩ = some (.int .i64 s.b) ∧ W.cell? ⟨g, 3, none⟩ = some (.int .i64 s.t) ∧ W.cell? ⟨g, 4, none⟩ = some (.slice s.A s.n s.c) := by
  unfold BoxAt at h
  refine ⟨?_, ?_, ?_, ?_, ?_⟩ <;> (rw [cell_of_row _ _ _ _ _ _ h]; rfl)
theorem BoxAt.lt {W : World} {g : Nat} {s : Opc} (h : BoxAt W g s) : g < W.heap.size := (Array.getElem?_eq_some_iff.1 h).1
theorem BoxAt.kpt {cb : Nat} {W W' : World} {g : Nat} {s : Opc} (h : BoxAt W g s) (hk : KpT cb W W') : BoxAt W' g s := (hk.typ g _ _ _ h (by decide) (by decide)).trans h
theorem BoxAt.below {W W' : World} {g : Nat} {s : Opc} (h : BoxAt W g s) (hb : Below W.heap.size W W') : BoxAt W' g s := (hb.block g h.lt).trans h
/-- All that goes along. -/
structure CaS (w : World) (cb : Nat) (wz : World) (v : Value) (vs : List An) (cs : List Qa) (v2 : Value) (vs2 : List An) (rs : List Qa) (g : Nat) (s : Opc) : Prop where
  ca : CaAt wz cb v vs cs
  rf : RfAt wz 0 v2 vs2 rs
  rq : Rq cs rs
  bel : Below w.heap.size w wz
  box : BoxAt wz g s
theorem CaS.below {w wz wy : World} {cb g : Nat} {v v2 : Value} {vs vs2 : List An} {cs rs : List Qa} {s : Opc} (h : CaS w cb wz v vs cs v2 vs2 rs g s) (hb : Below wz.heap.size wz wy) : CaS w cb wy v vs cs v2 vs2 rs g s :=
  ⟨h.ca.below hb, h.rf.below hb, h.rq, h.bel.trans (hb.mono h.bel.size), h.box.below hb⟩
theorem only_kpt {cb : Nat} {W W' : World} {x : Value} (h : Only W.heap.size cb W W') (hc : W.heap[cb]? = some (.cells #[x] 44)) : KpT cb W W' := by
  have hlt := (Array.getElem?_eq_some_iff.1 hc).1
  refine ⟨h.os, h.tape, h.output, h.size, fun k hk => h.block k (by omega) (by omega), fun k cs t fr hk h1 _ => h.block k (Array.getElem?_eq_some_iff.1 hk).1 (fun e => ?_)⟩
  subst e
  rw [hc] at hk
  injection hk with hk
  injection hk with _ hk _
  exact h1 hk.symm
set_option maxHeartbeats 16000000 in
theorem caplays_law (A : Option Addr) (n c : Nat) (os : List Opc) (w : World) (h : Opcs w w.heap.size A n os) (hc : n ≤ c) (hm : c ≤ maxLen) :
    Calls Try.prog 3 #[.slice A n c] w fun e w' => e = .returned (.bool true) ∧ Below w.heap.size w w' := by
  have hsm := fun W (hb : Below w.heap.size w W) => small11_f A n c os W _ (h.below hb (Nat.le_refl _)) hb.size hc hm
  obtain ⟨b, hb⟩ : ∃ b, smallOc os = b := ⟨_, rfl⟩
  rw [hb] at hsm
  have HS := Lib.hid hsm
  clear hsm
  cases b with
  | false =>
    go_enter Try.func3, Try.ntmps3
    go_wp2_with (first
      | (go_at_call 6; refine (caalive_any _).mono ?_; rintro e w1 ⟨rfl, b1⟩; have H1 := Lib.hid b1; clear b1)
      | (go_at_call 7; refine (HS.out _ H1.out).mono ?_; rintro e w2 ⟨rfl, b2⟩; have H2 := Lib.hid b2; clear b2))
    go_ret
    exact ⟨rfl, H1.out.trans (H2.out.mono H1.out.size)⟩
  | true =>
    obtain ⟨h60, h200⟩ := smallOc_is hb
    have hl := h.len
    have HO := Lib.hid (And.intro h (And.intro h60 (And.intro h200 hl)))
    have hnI : (n : Int) ≤ 60 := by omega
    clear h hb h60 h200
    go_enter Try.func3, Try.ntmps3
    go_wp2_with (first
      | (go_at_call 6; refine (caalive_any _).mono ?_; rintro e w1 ⟨rfl, b1⟩; have H1 := Lib.hid b1; clear b1)
      | (go_at_call 7; refine (HS.out _ H1.out).mono ?_; rintro e w2 ⟨rfl, b2⟩; have H2 := Lib.hid (H1.out.trans (b2.mono H1.out.size)); clear b2)
      | (go_at_call 8; refine (canew_f w2).mono ?_; rintro e w3 ⟨rfl, hca, b3, s3⟩; have H3 := Lib.hid (And.intro hca (And.intro b3 s3)); clear hca b3 s3))
    refine wp_at_world (F := fun W => Below w3.heap.size w3 W ∧ W.ownsRow w3.heap.size 55 4 (.slice (some ⟨w3.heap.size, 0, none⟩) 0 0) 0 []) ⟨alloc_below _ _, ca_row w3 _ (Nat.le_refl _) _ _⟩ fun w4 ⟨b4, o4⟩ => ?_
    have H4 := Lib.hid (And.intro (H3.out.1.below b4) (And.intro (own_mono o4 (Nat.zero_le _)) (H2.out.trans ((H3.out.2.1.trans (b4.mono H3.out.2.1.size)).mono H2.out.size))))
    have hcbw : w.heap.size ≤ w2.heap.size := H2.out.size
    clear b4 o4 H1 HS
    go_loopw [4, 20] (fun v2 iv wr => ∃ (k : Nat) (v : Value) (vs : List An) (cs : List Qa) (vs2 : List An) (rs : List Qa), k ≤ n ∧ iv = .int .i64 (k : Int) ∧ Aside (CaAt wr w2.heap.size v vs cs ∧ RfAt wr 0 v2 vs2 rs ∧ Rq cs rs ∧ Below w.heap.size w wr)) (fun _ iv _ => n - (intOf iv).toNat)
    case atStart => exact ⟨0, _, _, _, [], [], Nat.zero_le _, rfl, H4.out.1, ⟨H4.out.2.1, (fun s hs => by cases hs), Nat.zero_le _, trivial⟩, Rq.nil, H4.out.2.2⟩
    case round =>
      obtain ⟨k, v, vs, cs, vs2, rs, hk, rfl, hrel⟩ := hrel
      by_cases hlt : k < n
      · obtain ⟨hca, hrf, hrq, hbel⟩ := hrel.out
        obtain ⟨s, hs⟩ := opc_get (os := os) (k := k) (by rw [hl]; exact hlt)
        obtain ⟨b, off, rfl, hb, hat⟩ := HO.out.1.place (by omega)
        have hop := (hat k s hs).keep hb (fun p hp => hbel.cell (p := p) (by omega))
        have hrg := hop.range
        simp only [Opc.vals] at hrg
        obtain ⟨A2, c2, rfl, hah⟩ := hrf.open_
        have HR := Lib.hid (And.intro hca (And.intro hrf (And.intro hrq (And.intro hbel (And.intro (hat k s hs).bs (HO.out.2.2.1 s (List.mem_of_getElem? hs)))))))
        clear hrel hs hat hop hca hrf hrq hbel hah
        obtain ⟨m2, hm2⟩ : ∃ m2, vs2.length = m2 := ⟨_, rfl⟩
        rw [hm2]
        have HM := Lib.hid hm2
        clear hm2
        go_upto_block 2 with (refine wpList_load_mid rfl 30 (.tmp 22) rfl b (off + k * 5) rfl [.int .i64 s.k, .int .i64 s.a, .int .i64 s.b, .int .i64 s.t, .slice s.A s.n s.c] _ hrg Try.underlying30 rfl size_opc ?_)
        refine wp_at_world (F := fun W => CaS w w2.heap.size W v vs cs (.slice A2 vs2.length c2) vs2 rs wr.heap.size s) ⟨HR.out.1.below (alloc_below _ _), HR.out.2.1.below (alloc_below _ _), HR.out.2.2.1, HR.out.2.2.2.1.trans ((alloc_below _ _).mono HR.out.2.2.2.1.size), heap_alloc_new _ _⟩ fun w5 h5 => ?_
        rw [HM.out] at h5
        obtain ⟨gb, hgb⟩ : ∃ gb, wr.heap.size = gb := ⟨_, rfl⟩
        rw [hgb] at h5 ⊢
        clear hgb
        obtain ⟨e0, e1, e2, e3, e4⟩ := h5.box.cells
        have hbs : ∀ W, Below w.heap.size w W → Bs W w.heap.size s.A s.n s.l := fun W hW => HR.out.2.2.2.2.1.below hW
        have H5 := Lib.hid (And.intro h5 (And.intro hbs HR.out.2.2.2.2.2))
        have HM2 := Lib.hid HM.out
        clear h5 hbs hrg HR HM
        go_cut [4] from 23 to 52 (fun s4 wz => ∃ A' m' c' v' vs' cs' vs2' rs', s4 = .slice A' m' c' ∧ Aside (vs2'.length = m' ∧ CaS w w2.heap.size wz v' vs' cs' s4 vs2' rs' gb s))
        case first =>
          by_cases hk0 : s.k = 0
          · rw [hk0] at e0
            have hq0 : (s.k == 0) = true := by rw [hk0]; rfl
            go_wp2_with fail
            refine (cakeep_f w2.heap.size v vs cs w5 H5.out.1.ca s.a s.b s.t s.A s.n s.c s.l (fun W hW => (H5.out.2.1 W (H5.out.1.bel.trans (hW.toBelow hcbw))).more (Nat.le_trans hcbw (Nat.le_trans (Nat.le_of_lt H5.out.1.ca.lt) hW.size))) (by have := H5.out.2.2; omega)).mono ?_
            rintro e w6 ⟨rfl, ⟨v6, vs6, hca6⟩, kp⟩
            have hbx6 := H5.out.1.box.kpt kp
            obtain ⟨f0, f1, f2, f3, f4⟩ := hbx6.cells
            have hbel6 := H5.out.1.bel.trans (kp.toBelow hcbw)
            have H6 := Lib.hid (And.intro hca6 (And.intro (H5.out.1.rf.kpt kp) (And.intro hbel6 hbx6)))
            clear hca6 kp hbx6 hbel6 e0 e1 e2 e3 e4
            go_wp2_with fail
            refine (rkeep_at (B := 0) H6.out.2.1 (Nat.zero_le _) s.a s.b s.t s.A s.n s.c s.l ((H5.out.2.1 w6 H6.out.2.2.1).more H6.out.2.2.1.size) (by have := H5.out.2.2; omega)).mono ?_
            rintro e w7 ⟨v7, vs7, rfl, b7, hrf7⟩
            obtain ⟨A7, c7, rfl, _⟩ := hrf7.open_
            have H7 := Lib.hid (And.intro hrf7 b7)
            clear hrf7 b7 f0 f1 f2 f3 f4
            go_wp2_with fail
            go_meet
            case rel => exact ⟨A7, vs7.length, c7, v6, vs6, keepQ cs s.a s.b s.t s.l, vs7, keepR rs s.a s.b s.t s.l, rfl, (show Aside _ from ⟨rfl, ⟨H6.out.1.below H7.out.2, H7.out.1, H5.out.1.rq.keep s.a s.b s.t s.l, H6.out.2.2.1.trans (H7.out.2.mono H6.out.2.2.1.size), H6.out.2.2.2.below H7.out.2⟩⟩)⟩
          · by_cases hk1 : s.k = 1
            · rw [hk1] at e0
              go_wp2_with fail
              refine (cakeep_f w2.heap.size v vs cs w5 H5.out.1.ca s.a s.b s.t s.A s.n s.c s.l (fun W hW => (H5.out.2.1 W (H5.out.1.bel.trans (hW.toBelow hcbw))).more (Nat.le_trans hcbw (Nat.le_trans (Nat.le_of_lt H5.out.1.ca.lt) hW.size))) (by have := H5.out.2.2; omega)).mono ?_
              rintro e w6 ⟨rfl, ⟨v6, vs6, hca6⟩, kp⟩
              have hbx6 := H5.out.1.box.kpt kp
              obtain ⟨f0, f1, f2, f3, f4⟩ := hbx6.cells
              have hbel6 := H5.out.1.bel.trans (kp.toBelow hcbw)
              have H6 := Lib.hid (And.intro hca6 (And.intro (H5.out.1.rf.kpt kp) (And.intro hbel6 hbx6)))
              clear hca6 kp hbx6 hbel6 e0 e1 e2 e3 e4
              go_wp2_with fail
              refine (rkeep_at (B := 0) H6.out.2.1 (Nat.zero_le _) s.a s.b s.t s.A s.n s.c s.l ((H5.out.2.1 w6 H6.out.2.2.1).more H6.out.2.2.1.size) (by have := H5.out.2.2; omega)).mono ?_
              rintro e w7 ⟨v7, vs7, rfl, b7, hrf7⟩
              obtain ⟨A7, c7, rfl, _⟩ := hrf7.open_
              have H7 := Lib.hid (And.intro hrf7 b7)
              clear hrf7 b7 f0 f1 f2 f3 f4
              go_wp2_with fail
              go_meet
              case rel => exact ⟨A7, vs7.length, c7, v6, vs6, keepQ cs s.a s.b s.t s.l, vs7, keepR rs s.a s.b s.t s.l, rfl, (show Aside _ from ⟨rfl, ⟨H6.out.1.below H7.out.2, H7.out.1, H5.out.1.rq.keep s.a s.b s.t s.l, H6.out.2.2.1.trans (H7.out.2.mono H6.out.2.2.1.size), H6.out.2.2.2.below H7.out.2⟩⟩)⟩
            · by_cases hk2 : s.k = 2
              · rw [hk2] at e0
                go_wp2_with fail
                refine (caclear_f w2.heap.size v vs cs w5 H5.out.1.ca).mono ?_
                rintro e w6 ⟨rfl, hca6, ho⟩
                have kp := only_kpt ho H5.out.1.ca.blk
                have H6 := Lib.hid (And.intro hca6 (And.intro (H5.out.1.bel.trans (kp.toBelow hcbw)) (H5.out.1.box.kpt kp)))
                clear hca6 kp ho e0 e1 e2 e3 e4
                go_wp2_with fail
                go_meet
                case rel => exact ⟨none, 0, 0, _, _, [], [], [], rfl, (show Aside _ from ⟨rfl, ⟨H6.out.1, RfAt.nil _ _, Rq.nil, H6.out.2.1, H6.out.2.2⟩⟩)⟩
              · go_wp2_with fail
                go_meet
                case rel => exact ⟨A2, m2, c2, v, vs, cs, vs2, rs, rfl, (show Aside _ from ⟨HM2.out, H5.out.1⟩)⟩
        case rest =>
          obtain ⟨A', m', c', v', vs', cs', vs2', rs', rfl, hx⟩ := hcut
          obtain ⟨hm', hS⟩ := hx.out
          obtain ⟨f0, f1, f2, f3, f4⟩ := hS.box.cells
          have H6 := Lib.hid (And.intro hm' hS)
          clear hx hm' hS H5 HM2 e0 e1 e2 e3 e4
          go_wp2_with fail
          refine (cafind_f w2.heap.size v' vs' cs' wc H6.out.2.ca s.a s.b s.t).mono ?_
          rintro e w7 ⟨A5, n5, c5, rfl, hc5, hn5, hb5, hf5, b7⟩
          have hS7 := H6.out.2.below b7
          obtain ⟨g0, g1, g2, g3, g4⟩ := hS7.box.cells
          have H7 := Lib.hid (And.intro hS7 (And.intro hb5 hn5))
          clear hn5 hb5 hf5 b7 hS7 f0 f1 f2 f3 f4
          try dsimp only
          go_wp2_with fail
          refine (rfind_at H7.out.1.rf H7.out.1.rq s.a s.b s.t).mono ?_
          rintro e w8 ⟨A9, n9, c9, rfl, hb9, hn9, mm, hw8⟩
          have b8 : Below w7.heap.size w7 w8 := by rw [hw8]; exact drewN_below _ _ mm
          have hS8 := H7.out.1.below b8
          obtain ⟨i0, i1, i2, i3, i4⟩ := hS8.box.cells
          have H8 := Lib.hid (And.intro hS8 (And.intro ((H7.out.2.1.below b8).more b8.size) (And.intro ((hb9.below b8).more b8.size) hn9)))
          clear hb9 hw8 b8 hS8 g0 g1 g2 g3 g4
          try dsimp only
          go_upto_region 20 with fail
          obtain ⟨cnt, hcnt⟩ : ∃ cnt, cntQ s.t cs' = cnt := ⟨_, rfl⟩
          have HCN := Lib.hid hcnt
          clear hcnt
          obtain ⟨L0, hL0⟩ : ∃ L0, (findQ cs' s.a s.b s.t).getD [] = L0 := ⟨_, rfl⟩
          have hl1 := H8.out.2.1
          have hl2 := H8.out.2.2.1
          rw [hL0] at hl1 hl2
          have hl3 := hl1.len
          have hl4 := hl2.len
          have hn9 := H8.out.2.2.2
          have hsame : ∀ W, Below w8.heap.size w8 W → Calls Try.prog 14 #[.slice A5 n5 c5, .slice A9 n9 c9] W fun e w' => e = .returned (.bool true) ∧ Below W.heap.size W w' := fun W hW =>
            (same_any A5 A9 n5 c5 n9 c9 L0 L0 W _ _ (hl1.below hW) (hl2.below hW) (by omega) (by omega)).mono (by
              rintro e w' ⟨rfl, m, rfl⟩
              exact ⟨by rw [decide_eq_true rfl], drewN_below _ _ m⟩)
          have HL := Lib.hid hsame
          clear hl1 hl2 hl3 hl4 hn9 hL0 hsame
          obtain ⟨ok, hok⟩ : ∃ ok, (findQ cs' s.a s.b s.t).isSome = ok := ⟨_, rfl⟩
          rw [hok]
          clear hok
          refine wp_region_rel (fun w' => Below w8.heap.size w8 w') (fun w w' => Below w.heap.size w w') (CP20 w2.heap.size gb m' A' c' A5 n5 c5 A9 n9 c9 ok s.t cnt) [(3, .pointer (some ⟨w2.heap.size, 0, none⟩)), (4, .slice A' m' c'), (6, .pointer (some ⟨gb, 0, none⟩)), (7, .slice A5 n5 c5), (8, .bool ok), (9, .slice A9 n9 c9), (10, .bool ok)] (by kernel_rfl) (by kernel_rfl) (by kernel_rfl) ?base (Below.drew (Below.refl _ _)) (fun i w w' v hT h => CP20.grow i w w' v h) ?steps ?fin
          case base =>
            intro x hx
            simp only [List.mem_cons, List.not_mem_nil, or_false] at hx
            rcases hx with rfl | rfl | rfl | rfl | rfl | rfl | rfl <;> exact ⟨rfl, rfl⟩
          case steps =>
            refine steps_cons ?_ (steps_cons ?_ (steps_cons ?_ (steps_cons ?_ (steps_cons ?_ (steps_cons ?_ (steps_cons ?_ (steps_cons ?_ (steps_cons ?_ (steps_cons ?_ (steps_cons ?_ (steps_cons ?_ (steps_cons ?_ (steps_cons ?_ (steps_cons ?_ (steps_cons ?_ (steps_cons ?_ (steps_cons ?_ (steps_cons ?_ (steps_cons ?_ steps_nil)))))))))))))))))))
            · intro a wx K hS hB hR hK
              rw [if_pos (wanted_none rfl)]
              have h8 := tmp_is (hB.2.2.2.2.1)
              go_simp
              exact hK (.bool ok) wx hS (Below.refl _ wx) rfl
            · intro a wx K hS hB hR hK
              rw [if_pos (wanted_none rfl)]
              have h10 := tmp_is (hB.2.2.2.2.2.2.1)
              go_simp
              exact hK (.bool ok) wx hS (Below.refl _ wx) rfl
            · intro a wx K hS hB hR hK
              rw [if_pos (wanted_none rfl)]
              have h75 := tmp_is (hR.1)
              have h76 := tmp_is (hR.2.1)
              have hbb : (ok != ok) = false := by cases ok <;> rfl
              go_simp
              exact hK (.bool false) wx hS (Below.refl _ wx) rfl
            · intro a wx K hS hB hR hK
              rw [if_pos (wanted_none rfl)]
              have h77 := tmp_is (hR.1)
              go_simp
              exact hK (.bool false) wx hS (Below.refl _ wx) rfl
            · intro a wx K hS hB hR hK
              rw [if_pos (wanted_some rfl (hR.1))]
              have h7 := tmp_is (hB.2.2.2.1)
              go_simp
              exact hK (.slice A5 n5 c5) wx hS (Below.refl _ wx) rfl
            · intro a wx K hS hB hR hK
              rw [if_pos (wanted_some rfl (hR.1))]
              have h9 := tmp_is (hB.2.2.2.2.2.1)
              go_simp
              exact hK (.slice A9 n9 c9) wx hS (Below.refl _ wx) rfl
            · intro a wx K hS hB hR hK
              rw [if_pos (wanted_some rfl (hR.2.2.1))]
              have h79 := tmp_is (hR.1)
              have h80 := tmp_is (hR.2.1)
              go_simp
              refine (HL.out wx hS).mono ?_
              rintro e w' ⟨rfl, hb⟩
              exact hK _ _ (hS.trans (hb.mono hS.size)) hb rfl
            · intro a wx K hS hB hR hK
              rw [if_pos (wanted_some rfl (hR.2.1))]
              have h81 := tmp_is (hR.1)
              go_simp
              exact hK (.bool false) wx hS (Below.refl _ wx) rfl
            · intro a wx K hS hB hR hK
              rw [if_pos (wanted_none rfl)]
              have h78 := tmp_is (hR.1)
              have h82 := tmp_is (hR.2.1)
              go_simp
              exact hK (.bool false) wx hS (Below.refl _ wx) rfl
            · intro a wx K hS hB hR hK
              rw [if_pos (wanted_none rfl)]
              have h83 := tmp_is (hR.1)
              go_simp
              exact hK (.bool false) wx hS (Below.refl _ wx) rfl
            · intro a wx K hS hB hR hK
              rw [if_pos (wanted_some rfl (hR.1))]
              have h3 := tmp_is (hB.1)
              go_simp
              exact hK (.pointer (some ⟨w2.heap.size, 0, none⟩)) wx hS (Below.refl _ wx) rfl
            · intro a wx K hS hB hR hK
              rw [if_pos (wanted_some rfl (hR.1))]
              have h6 := tmp_is (hB.2.2.1)
              go_simp
              exact hK (.pointer (some ⟨gb, 3, none⟩)) wx hS (Below.refl _ wx) rfl
            · intro a wx K hS hB hR hK
              rw [if_pos (wanted_some rfl (hR.2.1))]
              have h86 := tmp_is (hR.1)
              have hc := (hS.cell (p := ⟨gb, 3, none⟩) H8.out.1.box.lt).trans i3
              go_simp
              exact hK (.int .i64 s.t) wx hS (Below.refl _ wx) rfl
            · intro a wx K hS hB hR hK
              rw [if_pos (wanted_some rfl (hR.2.2.1))]
              have h85 := tmp_is (hR.1)
              have h87 := tmp_is (hR.2.1)
              go_simp
              have hln := calen_f w2.heap.size _ _ _ wx (H8.out.1.ca.below hS) s.t
              rw [HCN.out] at hln
              refine hln.mono ?_
              rintro e w' ⟨rfl, hb⟩
              exact hK _ _ (hS.trans (hb.mono hS.size)) hb rfl
            · intro a wx K hS hB hR hK
              rw [if_pos (wanted_some rfl (hR.1))]
              have h4 := tmp_is (hB.2.1)
              go_simp
              exact hK (.slice A' m' c') wx hS (Below.refl _ wx) rfl
            · intro a wx K hS hB hR hK
              rw [if_pos (wanted_some rfl (hR.1))]
              have h6 := tmp_is (hB.2.2.1)
              go_simp
              exact hK (.pointer (some ⟨gb, 3, none⟩)) wx hS (Below.refl _ wx) rfl
            · intro a wx K hS hB hR hK
              rw [if_pos (wanted_some rfl (hR.2.1))]
              have h90 := tmp_is (hR.1)
              have hc := (hS.cell (p := ⟨gb, 3, none⟩) H8.out.1.box.lt).trans i3
              go_simp
              exact hK (.int .i64 s.t) wx hS (Below.refl _ wx) rfl
            · intro a wx K hS hB hR hK
              rw [if_pos (wanted_some rfl (hR.2.2.2.1))]
              have h89 := tmp_is (hR.1)
              have h91 := tmp_is (hR.2.1)
              go_simp
              have hln := rlen_at (H8.out.1.rf.below hS) H8.out.1.rq s.t
              rw [HCN.out] at hln
              refine hln.mono ?_
              rintro e w' ⟨rfl, m, rfl⟩
              exact hK _ _ (hS.trans ((drewN_below _ _ m).mono hS.size)) (drewN_below _ _ m) rfl
            · intro a wx K hS hB hR hK
              rw [if_pos (wanted_some rfl (hR.2.2.1))]
              have h88 := tmp_is (hR.1)
              have h92 := tmp_is (hR.2.1)
              have hbb : ((cnt : Int) != (cnt : Int)) = false := by simp
              go_simp
              exact hK (.bool false) wx hS (Below.refl _ wx) rfl
            · intro a wx K hS hB hR hK
              rw [if_pos (wanted_none rfl)]
              have h84 := tmp_is (hR.1)
              have h93 := tmp_is (hR.2.1)
              go_simp
              exact hK (.bool false) wx hS (Below.refl _ wx) rfl
          case fin =>
            intro a w9 hS9 ha hR
            have h94 : a.eval (.tmp 94) = .bool false := deps_mem _ hR 19 (by decide)
            have H9 := Lib.hid (H8.out.1.below hS9)
            clear hR hS9
            simp only [pin] at ha
            rw [ha]
            simp only [List.setIfInBounds_toArray, List.set_cons_zero, List.set_cons_succ, h94]
            clear ha h94 i0 i1 i2 i3 i4
            go_wp2
            go_roundw
            case rel => exact ⟨k + 1, v', vs', cs', vs2', rs', by omega, by go_num, (show Aside _ from ⟨H9.out.ca, H9.out.rf, H9.out.rq, H9.out.bel⟩)⟩
            case measure => simp [intOf]; omega
      · obtain rfl : k = n := by omega
        have hb9 := hrel.out.2.2.2
        have HF := Lib.hid hb9
        clear hb9 hrel
        go_wp2
        go_ret
        exact ⟨rfl, HF.out⟩
end Go.Proofs.Ytdlgemlpbpbhcaa
