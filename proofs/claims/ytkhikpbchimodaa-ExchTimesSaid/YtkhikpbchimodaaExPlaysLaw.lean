/-
  ExchPlays: of each row of steps every answer is as the document says.
-/
import Derived.Test.YtkhikpbchimodaaExNextLaw
import Derived.Test.YtkhikpbchimodaaExStop
import Derived.Test.YtkhikpbchimodaaExRPass
import Derived.Test.YtkhikpbchimodaaExRSame
namespace Go.Proofs.Ytkhikpbchimodaa
open Go.RowKit
set_option maxRecDepth 100000
set_option maxRecDepth 100000
set_option linter.unusedVariables false
/-- All that goes along: the table, the document's at its address, the step's variable. -/
structure PlS (w : World) (tb xb : Nat) (now : Int) (v : Value) (vs : List Xr) (A : Option Addr) (c : Nat) (rs : List Xr) (W : World) : Prop where
  t : TbAt W tb v now vs
  x : W.heap[xb]? = some (.cells #[.slice A (List.length rs) c, .int .i64 now] 29)
  r : RtAt W 0 (.slice A (List.length rs) c) rs
  eq : rs.map Xr.q = vs.map Xr.q
  b : Below w.heap.size w W
def BoxX (W : World) (g : Nat) (s : Opx) : Prop := W.heap[g]? = some (.cells #[.int .i64 s.k, .int .i64 s.a, .int .i64 s.b, .slice s.A s.n s.c, .int .i64 s.t, .int .i64 s.r] 32)
theorem BoxX.range {W : World} {g : Nat} {s : Opx} (h : BoxX W g s) : W.rangeAt g 0 s.vals := range_here _ h rfl
theorem BoxX.below {W W' : World} {g : Nat} {s : Opx} (h : BoxX W g s) (hb : Below W.heap.size W W') : BoxX W' g s := (hb.block g (Array.getElem?_eq_some_iff.1 h).1).trans h
theorem typ_fx {W W' : World} {tb g k m : Nat} {v u : Value} {now : Int} {cs : Array Value} {t : TypeId} {xs : List Value} (hf : Fx tb v.ownBlock W W') (hb : W.heap[tb]? = some (.cells #[u, .int .i64 now] 61)) (hr : W.ownsRow k 65 6 v m xs) (hg : W.heap[g]? = some (.cells cs t)) (h1 : t ≠ 61) (h2 : t ≠ 65) : W'.heap[g]? = some (.cells cs t) := by
  refine (hf.block g (Array.getElem?_eq_some_iff.1 hg).1 (fun e => ?_) (fun e => rk_ne hr hg h2 e.symm)).trans hg
  subst e
  rw [hb] at hg
  injection hg with hg
  injection hg with _ hg _
  exact h1 hg.symm
theorem PlS.below {w W W' : World} {tb xb : Nat} {now : Int} {v : Value} {vs : List Xr} {A : Option Addr} {c : Nat} {rs : List Xr} (h : PlS w tb xb now v vs A c rs W) (hb : Below W.heap.size W W') : PlS w tb xb now v vs A c rs W' :=
  ⟨h.t.below hb, (hb.block _ (Array.getElem?_eq_some_iff.1 h.x).1).trans h.x, h.r.below hb, h.eq, h.b.trans (hb.mono h.b.size)⟩
/-- The document's table is set to what a call has answered. -/
theorem PlS.set_ {w W : World} {tb xb : Nat} {now now' : Int} {v' : Value} {vs' : List Xr} {A A' : Option Addr} {c c' : Nat} {rs rs' : List Xr} (hx : W.heap[xb]? = some (.cells #[.slice A (List.length rs) c, .int .i64 now] 29)) (ht : TbAt W tb v' now' vs') (hr : RtAt W 0 (.slice A' (List.length rs') c') rs') (he : rs'.map Xr.q = vs'.map Xr.q) (hb : Below w.heap.size w W) (hxb : w.heap.size ≤ xb) : PlS w tb xb now' v' vs' A' c' rs' (W.setCells xb 0 [.slice A' (List.length rs') c', .int .i64 now']) := by
  have hk : ∀ k, k ≠ xb → (W.setCells xb 0 [.slice A' (List.length rs') c', .int .i64 now']).heap[k]? = W.heap[k]? := fun k hk => heap_setCells_other xb k hk _ 0 W
  have hrow : ∀ {B : Nat} {e : TypeId} {sz n : Nat} {u : Value} {xs : List Value}, W.ownsRow B e sz u n xs → 29 ≠ e → (W.setCells xb 0 [.slice A' (List.length rs') c', .int .i64 now']).ownsRow B e sz u n xs := fun ho he => own_tset ho hx he _
  refine ⟨⟨(hk tb (fun e => ?_)).trans ht.blk, hrow ht.row (by decide), fun s hs => ⟨hrow (ht.each s hs).1 (by decide), (ht.each s hs).2⟩, ht.good, ht.nw⟩, set_here _ hx rfl, hr.setTs hx _, he, below_set hb hxb _⟩
  subst e
  rw [ht.blk] at hx
  injection hx with hx
  injection hx with _ hx _
  exact absurd hx (by decide)
theorem SsAt.tset {w : World} {k B : Nat} {cs : Array Value} {e : TypeId} {v : Value} {ss : List Sr} (h : SsAt w B e v ss) (hk : w.heap[k]? = some (.cells cs 29)) (us : List Value) (he : 29 ≠ e := by decide) : SsAt (w.setCells k 0 us) B e v ss :=
  ⟨own_tset h.row hk he us, fun s hs => ⟨own_tset (h.each s hs).1 hk (by decide) us, (h.each s hs).2⟩⟩
theorem PlS.cells {w W : World} {tb xb : Nat} {now : Int} {v : Value} {vs : List Xr} {A : Option Addr} {c : Nat} {rs : List Xr} (h : PlS w tb xb now v vs A c rs W) {L : Nat} (hL : List.length rs = L) : W.rangeAt xb 0 [.slice A L c, .int .i64 now] := by
  subst hL
  exact range_here _ h.x rfl
theorem PlS.len {w W : World} {tb xb : Nat} {now : Int} {v : Value} {vs : List Xr} {A : Option Addr} {c : Nat} {rs : List Xr} (h : PlS w tb xb now v vs A c rs W) : List.length rs = List.length vs := by
  have := congrArg List.length h.eq
  rwa [List.length_map, List.length_map] at this
theorem PlS.rhas {w W : World} {tb xb : Nat} {now : Int} {v : Value} {vs : List Xr} {A : Option Addr} {c : Nat} {rs : List Xr} (h : PlS w tb xb now v vs A c rs W) {L : Nat} (hL : List.length rs = L) (t i : Int) : Calls Try.prog 23 #[.agg #[.slice A L c, .int .i64 now], .int .i64 t, .int .i64 i] W fun e w' => e = .returned (.bool ((vs.map Xr.q).any (hitX t i))) ∧ Below W.heap.size W w' := by
  subst hL
  obtain ⟨a7, d7, hv7, hnc7, _, hat7⟩ := h.r.open_
  injection hv7 with g1 g2 g3
  subst g1 g3
  have := rhas_f A (List.length rs) c rs now W hat7 (by have := h.t.few; have := h.len; omega) t i
  rwa [h.eq] at this
def PR35 (tb xb gb : Nat) (nt : Int) (nb : Bool) (A' : Option Addr) (L c' : Nat) (now a b : Int) (rr : Bool) (i : Nat) (w : World) (v : Value) : Prop :=
  match i with
  | 0 | 1 => v = .int .i64 nt
  | 4 | 5 => v = .bool nb
  | 9 | 17 => v = .pointer (some ⟨tb, 0, none⟩)
  | 10 | 13 => v = .int .i64 (L : Int)
  | 11 => v = .pointer (some ⟨xb, 0, none⟩)
  | 12 => v = .slice A' L c'
  | 18 | 24 => v = .pointer (some ⟨gb, 1, none⟩)
  | 19 | 25 => v = .int .i64 a
  | 20 | 26 => v = .pointer (some ⟨gb, 2, none⟩)
  | 21 | 27 => v = .int .i64 b
  | 22 | 28 => v = .bool rr
  | 23 => v = .agg #[.slice A' L c', .int .i64 now]
  | _ => v = .bool false
theorem PR35.grow {tb xb gb : Nat} {nt : Int} {nb : Bool} {A' : Option Addr} {L c' : Nat} {now a b : Int} {rr : Bool} (i : Nat) (w w' : World) (v : Value) (h : PR35 tb xb gb nt nb A' L c' now a b rr i w v) : PR35 tb xb gb nt nb A' L c' now a b rr i w' v := by
  unfold PR35 at h ⊢
  exact h
set_option maxHeartbeats 32000000 in
theorem explays_law (A : Option Addr) (n c : Nat) (os : List Opx) (w : World) (h : Opxs w w.heap.size A n os) (hc : n ≤ c) (hm : c ≤ maxLen) :
    Calls Try.prog 3 #[.slice A n c] w fun e w' => e = .returned (.bool true) ∧ Below w.heap.size w w' := by
  have hsm := fun W (hb : Below w.heap.size w W) => small12_f A n c os W _ (h.below hb (Nat.le_refl _)) hb.size hc hm
  obtain ⟨b, hb⟩ : ∃ b, smallOx os = b := ⟨_, rfl⟩
  rw [hb] at hsm
  have HS := Lib.hid hsm
  clear hsm
  cases b with
  | false =>
    go_enter Try.func3, Try.ntmps3
    go_wp2_with (first
      | (go_at_call 7; refine (exalive_any _).mono ?_; rintro e w1 ⟨rfl, b1⟩; have H1 := Lib.hid b1; clear b1)
      | (go_at_call 8; refine (HS.out _ H1.out).mono ?_; rintro e w2 ⟨rfl, b2⟩; have H2 := Lib.hid b2; clear b2))
    go_ret
    exact ⟨rfl, H1.out.trans (H2.out.mono H1.out.size)⟩
  | true =>
    obtain ⟨h60, h200⟩ := smallOx_is hb
    have hl := h.len
    have HO := Lib.hid (And.intro h (And.intro h60 (And.intro h200 hl)))
    have hnI : (n : Int) ≤ 60 := by omega
    have hncI : (n : Int) ≤ c := by omega
    have hcI : (c : Int) ≤ 9223372036854775807 := by unfold maxLen at hm; omega
    clear h hb h60 h200
    go_enter Try.func3, Try.ntmps3
    go_upto_region 7 with (first
      | (go_at_call 7; refine (exalive_any _).mono ?_; rintro e w1 ⟨rfl, b1⟩; have H1 := Lib.hid b1; clear b1)
      | (go_at_call 8; refine (HS.out _ H1.out).mono ?_; rintro e w2 ⟨rfl, b2⟩; have H2 := Lib.hid (H1.out.trans (b2.mono H1.out.size)); clear b2)
      | (go_at_call 9; refine (exnew_f w2).mono ?_; rintro e w3 ⟨rfl, ht3, b3, s3⟩; have H3 := Lib.hid (And.intro ht3 (And.intro b3 s3)); clear ht3 b3 s3))
    have htb : w.heap.size ≤ w2.heap.size := H2.out.size
    refine wp_at_world (F := fun W => PlS w w2.heap.size w3.heap.size 0 (.slice none 0 0) [] none 0 [] W) (by
      have b4 : Below w3.heap.size w3 (w3.alloc (.cells #[.slice none 0 0, .int .i64 0] 29)) := alloc_below _ _
      exact ⟨H3.out.1.below b4, heap_alloc_new _ _, ⟨World.ownsRow_nil _ _ _ _, (fun s hs => by cases hs), XGood.nil⟩, rfl, H2.out.trans ((H3.out.2.1.trans (b4.mono H3.out.2.1.size)).mono htb)⟩) fun w4 h4 => ?_
    have hxb : w.heap.size ≤ w3.heap.size := by have := H3.out.2.2; omega
    have H4 := Lib.hid h4
    clear h4
    obtain ⟨tb, htbe⟩ : ∃ tb, w2.heap.size = tb := ⟨_, rfl⟩
    obtain ⟨xb, hxbe⟩ : ∃ xb, w3.heap.size = xb := ⟨_, rfl⟩
    rw [htbe] at htb H4
    rw [hxbe] at hxb H4
    rw [htbe, hxbe]
    clear htbe hxbe H3
    go_loopw [29] (fun iv wr => ∃ k : Nat, k ≤ n ∧ iv = .int .i64 (k : Int) ∧ Aside (∃ now v vs A' c' rs, PlS w tb xb now v vs A' c' rs wr)) (fun iv _ => n - (intOf iv).toNat)
    case atStart => exact ⟨0, Nat.zero_le _, rfl, _, _, _, _, _, _, H4.out⟩
    case round =>
      obtain ⟨k, hk, rfl, hrel⟩ := hrel
      by_cases hlt : k < n
      · obtain ⟨s, hs⟩ := opx_get (os := os) (k := k) (by rw [hl]; exact hlt)
        obtain ⟨b, off, rfl, hb, hat⟩ := HO.out.1.place (by omega)
        obtain ⟨now, v, vs, A1, c1, rs, hpl⟩ := hrel.out
        have hop := (hat k s hs).keep hb (fun p hp => hpl.b.cell (p := p) (by omega))
        have hrg := hop.range
        simp only [Opx.vals] at hrg
        have hkI : (k : Int) < n := by omega
        have HE := Lib.hid (And.intro hpl (And.intro (hat k s hs).bs (HO.out.2.2.1 s (List.mem_of_getElem? hs))))
        clear hrel hs hat hop hpl
        go_upto_block 2 with (refine wpList_load_mid rfl 32 (.tmp 31) rfl b (off + k * 6) rfl [.int .i64 s.k, .int .i64 s.a, .int .i64 s.b, .slice s.A s.n s.c, .int .i64 s.t, .int .i64 s.r] _ hrg Try.underlying32 rfl size_opx ?_)
        refine wp_at_world (F := fun W => PlS w tb xb now v vs A1 c1 rs W ∧ BoxX W wr.heap.size s) ⟨HE.out.1.below (alloc_below _ _), heap_alloc_new _ _⟩ fun w5 ⟨h5, x5⟩ => ?_
        obtain ⟨gb, hgb⟩ : ∃ gb, wr.heap.size = gb := ⟨_, rfl⟩
        rw [hgb] at x5 ⊢
        clear hgb
        have e0 := x5.range 0 _ rfl
        have e1 := x5.range 1 _ rfl
        have e2 := x5.range 2 _ rfl
        have e3 := x5.range 3 _ rfl
        have e4 := x5.range 4 _ rfl
        have e5 := x5.range 5 _ rfl
        have H5 := Lib.hid (And.intro h5 (And.intro x5 (And.intro HE.out.2.1 HE.out.2.2)))
        clear h5 x5 hrg HE
        go_cut [7, 8, 9, 10, 11, 12, 13, 14, 15] from 32 to 114 (fun _ _ _ _ _ _ _ _ _ wz => Aside (∃ now' v' vs' A' c' rs', PlS w tb xb now' v' vs' A' c' rs' wz ∧ BoxX wz gb s))
        case first =>
          by_cases hk0 : s.k = 0
          · rw [hk0] at e0
            go_wp2_with fail
            refine (exstart_f H5.out.1.t s.a s.b s.A s.n s.c s.l (fun W hW => (H5.out.2.2.1.below (Fx.up H5.out.1.b H5.out.1.t htb hW)).more (Fx.up H5.out.1.b H5.out.1.t htb hW).size) (by have := H5.out.2.2.2; omega) s.t s.r).mono ?_
            rintro e w6 ⟨rfl, v6, vs6, ht6, hm6, _, hf6⟩
            have hx6 := typ_fx hf6 H5.out.1.t.blk H5.out.1.t.row H5.out.1.x (by decide) (by decide)
            have hbx6 : BoxX w6 gb s := typ_fx hf6 H5.out.1.t.blk H5.out.1.t.row H5.out.2.1 (by decide) (by decide)
            have hr6 := H5.out.1.r.fx hf6 H5.out.1.t.blk H5.out.1.t.row
            have hb6 := Fx.up H5.out.1.b H5.out.1.t htb hf6
            obtain ⟨er, her⟩ : ∃ er, (startQ (vs.map Xr.q) (tellT now s.t) s.a s.b s.l s.r).2 = er := ⟨_, rfl⟩
            rw [her]
            have H6 := Lib.hid (And.intro ht6 (And.intro hm6 (And.intro hx6 (And.intro hbx6 (And.intro hr6 (And.intro hb6 her))))))
            have d0 := hbx6.range 0 _ rfl
            have d1 := hbx6.range 1 _ rfl
            have d2 := hbx6.range 2 _ rfl
            have d3 := hbx6.range 3 _ rfl
            have d4 := hbx6.range 4 _ rfl
            have d5 := hbx6.range 5 _ rfl
            have hrx := range_here [.slice A1 (List.length rs) c1, .int .i64 now] hx6 rfl
            clear ht6 hm6 hf6 hx6 hbx6 hr6 hb6 her e0 e1 e2 e3 e4 e5
            go_wp2_with (refine wpList_load_mid rfl 29 (.tmp 4) rfl xb 0 rfl [.slice A1 (List.length rs) c1, .int .i64 now] _ hrx Try.underlying29 rfl size_rt ?_)
            refine (rstart_f A1 (List.length rs) c1 rs now w6 0 H6.out.2.2.2.2.1 (Nat.zero_le _) H5.out.1.t.nw s.a s.b s.A s.n s.c s.l ((H5.out.2.2.1.below H6.out.2.2.2.2.2.1).more H6.out.2.2.2.2.2.1.size) (by have := H5.out.2.2.2; omega) s.t s.r).mono ?_
            rintro e w7 ⟨A7, c7, rs7, rfl, b7, hr7, hm7⟩
            rw [H5.out.1.eq, H6.out.2.2.2.2.2.2]
            obtain ⟨L7, hL7⟩ : ∃ L7, List.length rs7 = L7 := ⟨_, rfl⟩
            rw [hL7]
            have hx7 := (b7.block _ (Array.getElem?_eq_some_iff.1 H6.out.2.2.1).1).trans H6.out.2.2.1
            have H7 := Lib.hid (And.intro hr7 (And.intro (show rs7.map Xr.q = vs6.map Xr.q by rw [hm7, H5.out.1.eq, H6.out.2.1]) (And.intro (H6.out.1.below b7) (And.intro (H6.out.2.2.2.1.below b7) (And.intro (H6.out.2.2.2.2.2.1.trans (b7.mono H6.out.2.2.2.2.2.1.size)) (And.intro hx7 hL7))))))
            clear b7 hr7 hm7 hx7 d0 d1 d2 d3 d4 d5 hrx hL7
            try dsimp only
            go_upto_region 14 with fail
            refine wp_at_world (F := fun W => Below w7.heap.size w7 W ∧ W.heap[w7.heap.size]? = some (.cells #[.slice A7 L7 c7, .int .i64 (tellT now s.t)] 29)) ⟨alloc_below _ _, heap_alloc_new _ _⟩ fun w8 ⟨b8, y8⟩ => ?_
            have hry := range_here [.slice A7 L7 c7, .int .i64 (tellT now s.t)] y8 rfl
            have hx8 := (b8.block _ (Array.getElem?_eq_some_iff.1 H7.out.2.2.2.2.2.1).1).trans H7.out.2.2.2.2.2.1
            have hth8 := there_here (n := 2) hx8 rfl
            have hbx8 := H7.out.2.2.2.1.below b8
            have hps := PlS.set_ hx8 (H7.out.2.2.1.below b8) (H7.out.1.below b8) H7.out.2.1 (H7.out.2.2.2.2.1.trans (b8.mono H7.out.2.2.2.2.1.size)) hxb
            rw [H7.out.2.2.2.2.2.2] at hps
            have hbxs : BoxX (w8.setCells xb 0 [.slice A7 L7 c7, .int .i64 (tellT now s.t)]) gb s := (heap_setCells_other xb gb (fun e => by
              have h1 := hbx8
              unfold BoxX at h1
              rw [e, hx8] at h1
              injection h1 with h1
              injection h1 with _ h1 _
              exact absurd h1 (by decide)) _ 0 w8).trans hbx8
            have H8 := Lib.hid (And.intro hps hbxs)
            clear b8 y8 hx8 hbx8 hps hbxs
            go_wp2_with (first
              | (refine wpList_load_mid rfl 29 (.tmp 8) rfl w7.heap.size 0 rfl [.slice A7 L7 c7, .int .i64 (tellT now s.t)] _ hry Try.underlying29 rfl size_rt ?_)
              | (refine wpList_store_mid rfl 29 (.tmp 4) (.tmp 65) rfl xb 0 (List.toArray [.slice A7 L7 c7, .int .i64 (tellT now s.t)]) rfl rfl hth8 size_rt (all_oneCell_toArray (two_one _ _ _ _)) ?_))
            go_meet
            case rel => exact ⟨_, v6, vs6, A7, c7, rs7, H8.out.1, H8.out.2⟩
          · by_cases hk1 : s.k = 1
            · rw [hk1] at e0
              go_wp2_with fail
              refine (exstart_f H5.out.1.t s.a s.b s.A s.n s.c s.l (fun W hW => (H5.out.2.2.1.below (Fx.up H5.out.1.b H5.out.1.t htb hW)).more (Fx.up H5.out.1.b H5.out.1.t htb hW).size) (by have := H5.out.2.2.2; omega) s.t s.r).mono ?_
              rintro e w6 ⟨rfl, v6, vs6, ht6, hm6, _, hf6⟩
              have hx6 := typ_fx hf6 H5.out.1.t.blk H5.out.1.t.row H5.out.1.x (by decide) (by decide)
              have hbx6 : BoxX w6 gb s := typ_fx hf6 H5.out.1.t.blk H5.out.1.t.row H5.out.2.1 (by decide) (by decide)
              have hr6 := H5.out.1.r.fx hf6 H5.out.1.t.blk H5.out.1.t.row
              have hb6 := Fx.up H5.out.1.b H5.out.1.t htb hf6
              obtain ⟨er, her⟩ : ∃ er, (startQ (vs.map Xr.q) (tellT now s.t) s.a s.b s.l s.r).2 = er := ⟨_, rfl⟩
              rw [her]
              have H6 := Lib.hid (And.intro ht6 (And.intro hm6 (And.intro hx6 (And.intro hbx6 (And.intro hr6 (And.intro hb6 her))))))
              have d0 := hbx6.range 0 _ rfl
              have d1 := hbx6.range 1 _ rfl
              have d2 := hbx6.range 2 _ rfl
              have d3 := hbx6.range 3 _ rfl
              have d4 := hbx6.range 4 _ rfl
              have d5 := hbx6.range 5 _ rfl
              have hrx := range_here [.slice A1 (List.length rs) c1, .int .i64 now] hx6 rfl
              clear ht6 hm6 hf6 hx6 hbx6 hr6 hb6 her e0 e1 e2 e3 e4 e5
              go_wp2_with (refine wpList_load_mid rfl 29 (.tmp 4) rfl xb 0 rfl [.slice A1 (List.length rs) c1, .int .i64 now] _ hrx Try.underlying29 rfl size_rt ?_)
              refine (rstart_f A1 (List.length rs) c1 rs now w6 0 H6.out.2.2.2.2.1 (Nat.zero_le _) H5.out.1.t.nw s.a s.b s.A s.n s.c s.l ((H5.out.2.2.1.below H6.out.2.2.2.2.2.1).more H6.out.2.2.2.2.2.1.size) (by have := H5.out.2.2.2; omega) s.t s.r).mono ?_
              rintro e w7 ⟨A7, c7, rs7, rfl, b7, hr7, hm7⟩
              rw [H5.out.1.eq, H6.out.2.2.2.2.2.2]
              obtain ⟨L7, hL7⟩ : ∃ L7, List.length rs7 = L7 := ⟨_, rfl⟩
              rw [hL7]
              have hx7 := (b7.block _ (Array.getElem?_eq_some_iff.1 H6.out.2.2.1).1).trans H6.out.2.2.1
              have H7 := Lib.hid (And.intro hr7 (And.intro (show rs7.map Xr.q = vs6.map Xr.q by rw [hm7, H5.out.1.eq, H6.out.2.1]) (And.intro (H6.out.1.below b7) (And.intro (H6.out.2.2.2.1.below b7) (And.intro (H6.out.2.2.2.2.2.1.trans (b7.mono H6.out.2.2.2.2.2.1.size)) (And.intro hx7 hL7))))))
              clear b7 hr7 hm7 hx7 d0 d1 d2 d3 d4 d5 hrx hL7
              try dsimp only
              go_upto_region 14 with fail
              refine wp_at_world (F := fun W => Below w7.heap.size w7 W ∧ W.heap[w7.heap.size]? = some (.cells #[.slice A7 L7 c7, .int .i64 (tellT now s.t)] 29)) ⟨alloc_below _ _, heap_alloc_new _ _⟩ fun w8 ⟨b8, y8⟩ => ?_
              have hry := range_here [.slice A7 L7 c7, .int .i64 (tellT now s.t)] y8 rfl
              have hx8 := (b8.block _ (Array.getElem?_eq_some_iff.1 H7.out.2.2.2.2.2.1).1).trans H7.out.2.2.2.2.2.1
              have hth8 := there_here (n := 2) hx8 rfl
              have hbx8 := H7.out.2.2.2.1.below b8
              have hps := PlS.set_ hx8 (H7.out.2.2.1.below b8) (H7.out.1.below b8) H7.out.2.1 (H7.out.2.2.2.2.1.trans (b8.mono H7.out.2.2.2.2.1.size)) hxb
              rw [H7.out.2.2.2.2.2.2] at hps
              have hbxs : BoxX (w8.setCells xb 0 [.slice A7 L7 c7, .int .i64 (tellT now s.t)]) gb s := (heap_setCells_other xb gb (fun e => by
                have h1 := hbx8
                unfold BoxX at h1
                rw [e, hx8] at h1
                injection h1 with h1
                injection h1 with _ h1 _
                exact absurd h1 (by decide)) _ 0 w8).trans hbx8
              have H8 := Lib.hid (And.intro hps hbxs)
              clear b8 y8 hx8 hbx8 hps hbxs
              go_wp2_with (first
                | (refine wpList_load_mid rfl 29 (.tmp 8) rfl w7.heap.size 0 rfl [.slice A7 L7 c7, .int .i64 (tellT now s.t)] _ hry Try.underlying29 rfl size_rt ?_)
                | (refine wpList_store_mid rfl 29 (.tmp 4) (.tmp 65) rfl xb 0 (List.toArray [.slice A7 L7 c7, .int .i64 (tellT now s.t)]) rfl rfl hth8 size_rt (all_oneCell_toArray (two_one _ _ _ _)) ?_))
              go_meet
              case rel => exact ⟨_, v6, vs6, A7, c7, rs7, H8.out.1, H8.out.2⟩
            · by_cases hk2 : s.k = 2
              · rw [hk2] at e0
                go_wp2_with fail
                refine (exstop_f H5.out.1.t s.a s.b).mono ?_
                rintro e w6 ⟨rfl, v6, vs6, ht6, hm6, _, hf6⟩
                have hx6 := typ_fx hf6 H5.out.1.t.blk H5.out.1.t.row H5.out.1.x (by decide) (by decide)
                have hbx6 : BoxX w6 gb s := typ_fx hf6 H5.out.1.t.blk H5.out.1.t.row H5.out.2.1 (by decide) (by decide)
                have hr6 := H5.out.1.r.fx hf6 H5.out.1.t.blk H5.out.1.t.row
                have hb6 := Fx.up H5.out.1.b H5.out.1.t htb hf6
                obtain ⟨er, her⟩ : ∃ er, (vs.map Xr.q).any (hitX s.a s.b) = er := ⟨_, rfl⟩
                rw [her]
                have H6 := Lib.hid (And.intro ht6 (And.intro hm6 (And.intro hx6 (And.intro hbx6 (And.intro hr6 (And.intro hb6 her))))))
                have d1 := hbx6.range 1 _ rfl
                have d2 := hbx6.range 2 _ rfl
                have hrx := range_here [.slice A1 (List.length rs) c1, .int .i64 now] hx6 rfl
                clear ht6 hm6 hf6 hx6 hbx6 hr6 hb6 her e0 e1 e2 e3 e4 e5
                go_wp2_with (refine wpList_load_mid rfl 29 (.tmp 4) rfl xb 0 rfl [.slice A1 (List.length rs) c1, .int .i64 now] _ hrx Try.underlying29 rfl size_rt ?_)
                refine (rstop_f A1 (List.length rs) c1 rs now w6 0 H6.out.2.2.2.2.1 (Nat.zero_le _) s.a s.b).mono ?_
                rintro e w7 ⟨A7, c7, rs7, rfl, b7, hr7, hm7⟩
                rw [H5.out.1.eq, H6.out.2.2.2.2.2.2]
                obtain ⟨L7, hL7⟩ : ∃ L7, List.length rs7 = L7 := ⟨_, rfl⟩
                rw [hL7]
                have hx7 := (b7.block _ (Array.getElem?_eq_some_iff.1 H6.out.2.2.1).1).trans H6.out.2.2.1
                have H7 := Lib.hid (And.intro hr7 (And.intro (show rs7.map Xr.q = vs6.map Xr.q by rw [hm7, H5.out.1.eq, H6.out.2.1]) (And.intro (H6.out.1.below b7) (And.intro (H6.out.2.2.2.1.below b7) (And.intro (H6.out.2.2.2.2.2.1.trans (b7.mono H6.out.2.2.2.2.2.1.size)) (And.intro hx7 (And.intro hL7 trivial)))))))
                clear b7 hr7 hm7 hx7 d1 d2 hrx hL7
                try dsimp only
                go_upto_region 20 with fail
                refine wp_at_world (F := fun W => Below w7.heap.size w7 W ∧ W.heap[w7.heap.size]? = some (.cells #[.slice A7 L7 c7, .int .i64 now] 29)) ⟨alloc_below _ _, heap_alloc_new _ _⟩ fun w8 ⟨b8, y8⟩ => ?_
                have hry := range_here [.slice A7 L7 c7, .int .i64 now] y8 rfl
                have hx8 := (b8.block _ (Array.getElem?_eq_some_iff.1 H7.out.2.2.2.2.2.1).1).trans H7.out.2.2.2.2.2.1
                have hth8 := there_here (n := 2) hx8 rfl
                have hbx8 := H7.out.2.2.2.1.below b8
                have hps := PlS.set_ hx8 (H7.out.2.2.1.below b8) (H7.out.1.below b8) H7.out.2.1 (H7.out.2.2.2.2.1.trans (b8.mono H7.out.2.2.2.2.1.size)) hxb
                rw [H7.out.2.2.2.2.2.2.1] at hps
                have hbxs : BoxX (w8.setCells xb 0 [.slice A7 L7 c7, .int .i64 now]) gb s := (heap_setCells_other xb gb (fun e => by
                  have h1 := hbx8
                  unfold BoxX at h1
                  rw [e, hx8] at h1
                  injection h1 with h1
                  injection h1 with _ h1 _
                  exact absurd h1 (by decide)) _ 0 w8).trans hbx8
                have H8 := Lib.hid (And.intro hps (And.intro hbxs trivial))
                clear b8 y8 hx8 hbx8 hps hbxs
                go_wp2_with (first
                  | (refine wpList_load_mid rfl 29 (.tmp 11) rfl w7.heap.size 0 rfl [.slice A7 L7 c7, .int .i64 now] _ hry Try.underlying29 rfl size_rt ?_)
                  | (refine wpList_store_mid rfl 29 (.tmp 4) (.tmp 86) rfl xb 0 (List.toArray [.slice A7 L7 c7, .int .i64 now]) rfl rfl hth8 size_rt (all_oneCell_toArray (two_one _ _ _ _)) ?_))
                have hbb : (er != er) = false := by cases er <;> rfl
                go_wp2
                go_meet
                case rel => exact ⟨_, v6, vs6, A7, c7, rs7, H8.out.1, H8.out.2.1⟩
              · by_cases hk3 : s.k = 3
                · rw [hk3] at e0
                  go_wp2_with fail
                  refine (expass_f H5.out.1.t s.t).mono ?_
                  rintro e w6 ⟨A6, c6, ss6, v6, vs6, rfl, hss6, hms6, ht6, hm6, _, hf6⟩
                  have hx6 := typ_fx hf6 H5.out.1.t.blk H5.out.1.t.row H5.out.1.x (by decide) (by decide)
                  have hbx6 : BoxX w6 gb s := typ_fx hf6 H5.out.1.t.blk H5.out.1.t.row H5.out.2.1 (by decide) (by decide)
                  have hr6 := H5.out.1.r.fx hf6 H5.out.1.t.blk H5.out.1.t.row
                  have hb6 := Fx.up H5.out.1.b H5.out.1.t htb hf6
                  have hl6 : List.length ss6 ≤ 20 := by
                    rw [sr_len hms6]
                    have g1 := passed_pot (tellT now s.t) H5.out.1.t.good
                    have g2 := pot_le (qs := vs.map Xr.q)
                    have g3 := H5.out.1.t.good.few
                    omega
                  have H6 := Lib.hid (And.intro ht6 (And.intro hm6 (And.intro hx6 (And.intro hbx6 (And.intro hr6 (And.intro hb6 (And.intro (hss6.mono (Nat.zero_le _)) (And.intro hms6 hl6))))))))
                  have d4 := hbx6.range 4 _ rfl
                  have hrx := range_here [.slice A1 (List.length rs) c1, .int .i64 now] hx6 rfl
                  obtain ⟨L6, hL6⟩ : ∃ L6, List.length ss6 = L6 := ⟨_, rfl⟩
                  rw [hL6]
                  have HL6 := Lib.hid hL6
                  clear ht6 hm6 hf6 hx6 hbx6 hr6 hb6 hss6 hms6 hl6 hL6 e0 e1 e2 e3 e4 e5
                  go_wp2_with (refine wpList_load_mid rfl 29 (.tmp 4) rfl xb 0 rfl [.slice A1 (List.length rs) c1, .int .i64 now] _ hrx Try.underlying29 rfl size_rt ?_)
                  refine (rpass_f A1 (List.length rs) c1 rs now w6 0 H6.out.2.2.2.2.1 (Nat.zero_le _) H5.out.1.t.nw s.t).mono ?_
                  rintro e w7 ⟨A7, c7, rs7, B7, d7, ss7, rfl, b7, hr7, hss7, hm7, hms7⟩
                  obtain ⟨L7, hL7⟩ : ∃ L7, List.length rs7 = L7 := ⟨_, rfl⟩
                  obtain ⟨N7, hN7⟩ : ∃ N7, List.length ss7 = N7 := ⟨_, rfl⟩
                  rw [hL7, hN7]
                  have hx7 := (b7.block _ (Array.getElem?_eq_some_iff.1 H6.out.2.2.1).1).trans H6.out.2.2.1
                  rw [H5.out.1.eq] at hm7 hms7
                  have hsq : ss6.map Sr.q = ss7.map Sr.q := by rw [H6.out.2.2.2.2.2.2.2.1, hms7]
                  rw [hN7] at hss7
                  have hss6' := H6.out.2.2.2.2.2.2.1.below b7
                  rw [HL6.out] at hss6'
                  have H7 := Lib.hid (And.intro hr7 (And.intro (show rs7.map Xr.q = vs6.map Xr.q by rw [hm7, H6.out.2.1]) (And.intro (H6.out.1.below b7) (And.intro (H6.out.2.2.2.1.below b7) (And.intro (H6.out.2.2.2.2.2.1.trans (b7.mono H6.out.2.2.2.2.2.1.size)) (And.intro hx7 (And.intro hL7 (And.intro hss6' (And.intro hss7 hsq)))))))))
                  clear b7 hr7 hm7 hms7 hx7 d4 hrx hL7 hN7 hss6' hss7 hsq
                  try dsimp only
                  go_upto_region 27 with fail
                  refine wp_at_world (F := fun W => Below w7.heap.size w7 W ∧ W.heap[w7.heap.size]? = some (.cells #[.slice A7 L7 c7, .int .i64 (tellT now s.t)] 29)) ⟨alloc_below _ _, heap_alloc_new _ _⟩ fun w8 ⟨b8, y8⟩ => ?_
                  have hry := range_here [.slice A7 L7 c7, .int .i64 (tellT now s.t)] y8 rfl
                  have hx8 := (b8.block _ (Array.getElem?_eq_some_iff.1 H7.out.2.2.2.2.2.1).1).trans H7.out.2.2.2.2.2.1
                  have hth8 := there_here (n := 2) hx8 rfl
                  have hbx8 := H7.out.2.2.2.1.below b8
                  have hps := PlS.set_ hx8 (H7.out.2.2.1.below b8) (H7.out.1.below b8) H7.out.2.1 (H7.out.2.2.2.2.1.trans (b8.mono H7.out.2.2.2.2.1.size)) hxb
                  rw [H7.out.2.2.2.2.2.2.1] at hps
                  have hbxs : BoxX (w8.setCells xb 0 [.slice A7 L7 c7, .int .i64 (tellT now s.t)]) gb s := (heap_setCells_other xb gb (fun e => by
                    have h1 := hbx8
                    unfold BoxX at h1
                    rw [e, hx8] at h1
                    injection h1 with h1
                    injection h1 with _ h1 _
                    exact absurd h1 (by decide)) _ 0 w8).trans hbx8
                  have hss8 := (H7.out.2.2.2.2.2.2.2.1.below b8).tset hx8 [.slice A7 L7 c7, .int .i64 (tellT now s.t)]
                  have hst8 := (H7.out.2.2.2.2.2.2.2.2.1.below b8).tset hx8 [.slice A7 L7 c7, .int .i64 (tellT now s.t)]
                  have H8 := Lib.hid (And.intro hps (And.intro hbxs (And.intro hss8 hst8)))
                  clear b8 y8 hx8 hbx8 hps hbxs hss8 hst8
                  go_upto_region 28 with (first
                    | (refine wpList_load_mid rfl 29 (.tmp 14) rfl w7.heap.size 0 rfl [.slice A7 L7 c7, .int .i64 (tellT now s.t)] _ hry Try.underlying29 rfl size_rt ?_)
                    | (refine wpList_store_mid rfl 29 (.tmp 4) (.tmp 104) rfl xb 0 (List.toArray [.slice A7 L7 c7, .int .i64 (tellT now s.t)]) rfl rfl hth8 size_rt (all_oneCell_toArray (two_one _ _ _ _)) ?_))
                  refine wp_at_world (F := fun W => PlS w tb xb (tellT now s.t) v6 vs6 A7 c7 rs7 W ∧ BoxX W gb s ∧ SsAt W 0 55 (.slice A6 L6 c6) ss6 ∧ SsAt W 0 73 (.slice B7 N7 d7) ss7) H8.out fun w9 h9 => ?_
                  have has := as12_f A6 L6 c6 ss6 w9 0 h9.2.2.1 (Nat.zero_le _) (by have := H6.out.2.2.2.2.2.2.2.2; omega)
                  have H9 := Lib.hid (And.intro h9 has)
                  clear h9 has hry hth8
                  go_wp2_with fail
                  refine H9.out.2.mono ?_
                  rintro e w10 ⟨A10, c10, he, hs10, b10⟩
                  rw [HL6.out] at he hs10
                  obtain rfl := he
                  have hpl := H9.out.1.1.below b10
                  have hbxa := H9.out.1.2.1.below b10
                  have hsm := rsame12_f A10 B7 L6 N7 c10 d7 ss6 ss7 w10 0 0 hs10 (H9.out.1.2.2.2.below b10) H7.out.2.2.2.2.2.2.2.2.2
                  have H10 := Lib.hid (And.intro hpl (And.intro hbxa hsm))
                  clear hs10 b10 hpl hbxa hsm
                  go_wp2_with fail
                  refine H10.out.2.2.mono ?_
                  rintro e w11 ⟨rfl, b11⟩
                  have H11 := Lib.hid (And.intro (H10.out.1.below b11) (H10.out.2.1.below b11))
                  clear b11
                  go_wp2
                  go_meet
                  case rel => exact ⟨_, v6, vs6, A7, c7, rs7, H11.out.1, H11.out.2⟩
                · by_cases hk4 : s.k = 4
                  · rw [hk4] at e0
                    go_wp2_with fail
                    refine (expass_f H5.out.1.t s.t).mono ?_
                    rintro e w6 ⟨A6, c6, ss6, v6, vs6, rfl, hss6, hms6, ht6, hm6, _, hf6⟩
                    have hx6 := typ_fx hf6 H5.out.1.t.blk H5.out.1.t.row H5.out.1.x (by decide) (by decide)
                    have hbx6 : BoxX w6 gb s := typ_fx hf6 H5.out.1.t.blk H5.out.1.t.row H5.out.2.1 (by decide) (by decide)
                    have hr6 := H5.out.1.r.fx hf6 H5.out.1.t.blk H5.out.1.t.row
                    have hb6 := Fx.up H5.out.1.b H5.out.1.t htb hf6
                    have hl6 : List.length ss6 ≤ 20 := by
                      rw [sr_len hms6]
                      have g1 := passed_pot (tellT now s.t) H5.out.1.t.good
                      have g2 := pot_le (qs := vs.map Xr.q)
                      have g3 := H5.out.1.t.good.few
                      omega
                    have H6 := Lib.hid (And.intro ht6 (And.intro hm6 (And.intro hx6 (And.intro hbx6 (And.intro hr6 (And.intro hb6 (And.intro (hss6.mono (Nat.zero_le _)) (And.intro hms6 hl6))))))))
                    have d4 := hbx6.range 4 _ rfl
                    have hrx := range_here [.slice A1 (List.length rs) c1, .int .i64 now] hx6 rfl
                    obtain ⟨L6, hL6⟩ : ∃ L6, List.length ss6 = L6 := ⟨_, rfl⟩
                    rw [hL6]
                    have HL6 := Lib.hid hL6
                    clear ht6 hm6 hf6 hx6 hbx6 hr6 hb6 hss6 hms6 hl6 hL6 e0 e1 e2 e3 e4 e5
                    go_wp2_with (refine wpList_load_mid rfl 29 (.tmp 4) rfl xb 0 rfl [.slice A1 (List.length rs) c1, .int .i64 now] _ hrx Try.underlying29 rfl size_rt ?_)
                    refine (rpass_f A1 (List.length rs) c1 rs now w6 0 H6.out.2.2.2.2.1 (Nat.zero_le _) H5.out.1.t.nw s.t).mono ?_
                    rintro e w7 ⟨A7, c7, rs7, B7, d7, ss7, rfl, b7, hr7, hss7, hm7, hms7⟩
                    obtain ⟨L7, hL7⟩ : ∃ L7, List.length rs7 = L7 := ⟨_, rfl⟩
                    obtain ⟨N7, hN7⟩ : ∃ N7, List.length ss7 = N7 := ⟨_, rfl⟩
                    rw [hL7, hN7]
                    have hx7 := (b7.block _ (Array.getElem?_eq_some_iff.1 H6.out.2.2.1).1).trans H6.out.2.2.1
                    rw [H5.out.1.eq] at hm7 hms7
                    have hsq : ss6.map Sr.q = ss7.map Sr.q := by rw [H6.out.2.2.2.2.2.2.2.1, hms7]
                    rw [hN7] at hss7
                    have hss6' := H6.out.2.2.2.2.2.2.1.below b7
                    rw [HL6.out] at hss6'
                    have H7 := Lib.hid (And.intro hr7 (And.intro (show rs7.map Xr.q = vs6.map Xr.q by rw [hm7, H6.out.2.1]) (And.intro (H6.out.1.below b7) (And.intro (H6.out.2.2.2.1.below b7) (And.intro (H6.out.2.2.2.2.2.1.trans (b7.mono H6.out.2.2.2.2.2.1.size)) (And.intro hx7 (And.intro hL7 (And.intro hss6' (And.intro hss7 hsq)))))))))
                    clear b7 hr7 hm7 hms7 hx7 d4 hrx hL7 hN7 hss6' hss7 hsq
                    try dsimp only
                    go_upto_region 27 with fail
                    refine wp_at_world (F := fun W => Below w7.heap.size w7 W ∧ W.heap[w7.heap.size]? = some (.cells #[.slice A7 L7 c7, .int .i64 (tellT now s.t)] 29)) ⟨alloc_below _ _, heap_alloc_new _ _⟩ fun w8 ⟨b8, y8⟩ => ?_
                    have hry := range_here [.slice A7 L7 c7, .int .i64 (tellT now s.t)] y8 rfl
                    have hx8 := (b8.block _ (Array.getElem?_eq_some_iff.1 H7.out.2.2.2.2.2.1).1).trans H7.out.2.2.2.2.2.1
                    have hth8 := there_here (n := 2) hx8 rfl
                    have hbx8 := H7.out.2.2.2.1.below b8
                    have hps := PlS.set_ hx8 (H7.out.2.2.1.below b8) (H7.out.1.below b8) H7.out.2.1 (H7.out.2.2.2.2.1.trans (b8.mono H7.out.2.2.2.2.1.size)) hxb
                    rw [H7.out.2.2.2.2.2.2.1] at hps
                    have hbxs : BoxX (w8.setCells xb 0 [.slice A7 L7 c7, .int .i64 (tellT now s.t)]) gb s := (heap_setCells_other xb gb (fun e => by
                      have h1 := hbx8
                      unfold BoxX at h1
                      rw [e, hx8] at h1
                      injection h1 with h1
                      injection h1 with _ h1 _
                      exact absurd h1 (by decide)) _ 0 w8).trans hbx8
                    have hss8 := (H7.out.2.2.2.2.2.2.2.1.below b8).tset hx8 [.slice A7 L7 c7, .int .i64 (tellT now s.t)]
                    have hst8 := (H7.out.2.2.2.2.2.2.2.2.1.below b8).tset hx8 [.slice A7 L7 c7, .int .i64 (tellT now s.t)]
                    have H8 := Lib.hid (And.intro hps (And.intro hbxs (And.intro hss8 hst8)))
                    clear b8 y8 hx8 hbx8 hps hbxs hss8 hst8
                    go_upto_region 28 with (first
                      | (refine wpList_load_mid rfl 29 (.tmp 14) rfl w7.heap.size 0 rfl [.slice A7 L7 c7, .int .i64 (tellT now s.t)] _ hry Try.underlying29 rfl size_rt ?_)
                      | (refine wpList_store_mid rfl 29 (.tmp 4) (.tmp 104) rfl xb 0 (List.toArray [.slice A7 L7 c7, .int .i64 (tellT now s.t)]) rfl rfl hth8 size_rt (all_oneCell_toArray (two_one _ _ _ _)) ?_))
                    refine wp_at_world (F := fun W => PlS w tb xb (tellT now s.t) v6 vs6 A7 c7 rs7 W ∧ BoxX W gb s ∧ SsAt W 0 55 (.slice A6 L6 c6) ss6 ∧ SsAt W 0 73 (.slice B7 N7 d7) ss7) H8.out fun w9 h9 => ?_
                    have has := as12_f A6 L6 c6 ss6 w9 0 h9.2.2.1 (Nat.zero_le _) (by have := H6.out.2.2.2.2.2.2.2.2; omega)
                    have H9 := Lib.hid (And.intro h9 has)
                    clear h9 has hry hth8
                    go_wp2_with fail
                    refine H9.out.2.mono ?_
                    rintro e w10 ⟨A10, c10, he, hs10, b10⟩
                    rw [HL6.out] at he hs10
                    obtain rfl := he
                    have hpl := H9.out.1.1.below b10
                    have hbxa := H9.out.1.2.1.below b10
                    have hsm := rsame12_f A10 B7 L6 N7 c10 d7 ss6 ss7 w10 0 0 hs10 (H9.out.1.2.2.2.below b10) H7.out.2.2.2.2.2.2.2.2.2
                    have H10 := Lib.hid (And.intro hpl (And.intro hbxa hsm))
                    clear hs10 b10 hpl hbxa hsm
                    go_wp2_with fail
                    refine H10.out.2.2.mono ?_
                    rintro e w11 ⟨rfl, b11⟩
                    have H11 := Lib.hid (And.intro (H10.out.1.below b11) (H10.out.2.1.below b11))
                    clear b11
                    go_wp2
                    go_meet
                    case rel => exact ⟨_, v6, vs6, A7, c7, rs7, H11.out.1, H11.out.2⟩
                  · by_cases hk5 : s.k = 5
                    · rw [hk5] at e0
                      go_wp2_with fail
                      refine (exclear_f H5.out.1.t).mono ?_
                      rintro e w6 ⟨rfl, ht6, hf6⟩
                      have hf6' : Fx tb v.ownBlock w5 w6 := hf6.wide
                      have hx6 := typ_fx hf6' H5.out.1.t.blk H5.out.1.t.row H5.out.1.x (by decide) (by decide)
                      have hbx6 : BoxX w6 gb s := typ_fx hf6' H5.out.1.t.blk H5.out.1.t.row H5.out.2.1 (by decide) (by decide)
                      have hb6 := Fx.up H5.out.1.b H5.out.1.t htb hf6'
                      have d0 : w6.cell? ⟨xb, 0, none⟩ = some (.slice A1 (List.length rs) c1) := by rw [cell_of_row _ _ _ _ _ _ hx6]; rfl
                      have f0 : w6.frozen? ⟨xb, 0, none⟩ = false := by simp [World.frozen?, hx6]
                      have H6 := Lib.hid (And.intro ht6 (And.intro hx6 (And.intro hbx6 hb6)))
                      clear ht6 hf6 hf6' hx6 hbx6 hb6 e0 e1 e2 e3 e4 e5
                      go_wp2
                      go_meet
                      case rel =>
                        refine ⟨now, .slice none 0 0, [], none, 0, [], ⟨⟨(heap_setCell_other w6 ⟨xb, 0, none⟩ tb _ (fun e => ?_)).trans H6.out.1.blk, World.ownsRow_nil _ _ _ _, (fun s hs => by cases hs), XGood.nil, H6.out.1.nw⟩, heap_setCell_same w6 xb 0 _ 29 _ H6.out.2.1, ⟨World.ownsRow_nil _ _ _ _, (fun s hs => by cases hs), XGood.nil⟩, rfl, H6.out.2.2.2.setCell hxb _⟩, (heap_setCell_other w6 ⟨xb, 0, none⟩ gb _ (fun e => ?_)).trans H6.out.2.2.1⟩
                        · have e1 : tb = xb := by first | exact e | exact e.symm
                          have h1 := H6.out.1.blk
                          have h2 := H6.out.2.1
                          rw [← e1, h1] at h2
                          injection h2 with h2
                          injection h2 with _ h2 _
                          exact absurd h2 (by decide)
                        · have e1 : gb = xb := by first | exact e | exact e.symm
                          have h1 := H6.out.2.2.1
                          have h2 := H6.out.2.1
                          unfold BoxX at h1
                          rw [← e1, h1] at h2
                          injection h2 with h2
                          injection h2 with _ h2 _
                          exact absurd h2 (by decide)
                    · go_wp2_with fail
                      go_meet
                      case rel => exact ⟨now, v, vs, A1, c1, rs, H5.out.1, H5.out.2.1⟩
        case rest =>
          obtain ⟨now, v', vs', A', c', rs', hpl, hbx⟩ := hcut.out
          have hfew := hpl.t.few
          have hlen : List.length rs' = List.length vs' := by have := congrArg List.length hpl.eq; rwa [List.length_map, List.length_map] at this
          have hnx := exnext_f hpl.t
          obtain ⟨q9, hq9⟩ : ∃ q9, (vs'.map Xr.q)[fstQ (vs'.map Xr.q)]? = q9 := ⟨_, rfl⟩
          obtain ⟨nt, nb, hnt⟩ : ∃ (nt : Int) (nb : Bool), ∀ W e w', NextQ (vs'.map Xr.q) W e w' ↔ (e = .returned (.tuple #[.int .i64 nt, .bool nb]) ∧ Below W.heap.size W w') := by
            cases q9 with
            | none => exact ⟨0, false, fun W e w' => by unfold NextQ; rw [hq9]⟩
            | some q => exact ⟨q.u, true, fun W e w' => by unfold NextQ; rw [hq9]⟩
          have HNT := Lib.hid hnt
          have H6 := Lib.hid (And.intro hpl (And.intro hbx (And.intro hnx hlen)))
          clear hcut hpl hbx hnx hq9 hnt H5 e0 e1 e2 e3 e4 e5
          go_wp2_with fail
          refine H6.out.2.2.1.mono ?_
          rintro e w7 hn7
          obtain ⟨rfl, b7⟩ := (HNT.out _ _ _).1 hn7
          have hpl7 := H6.out.1.below b7
          obtain ⟨L, hL⟩ : ∃ L, List.length rs' = L := ⟨_, rfl⟩
          have hx7 := hpl7.x
          rw [hL] at hx7
          have hrx := range_here [.slice A' L c', .int .i64 now] hx7 rfl
          have H7 := Lib.hid (And.intro hpl7 (And.intro (H6.out.2.1.below b7) hL))
          have hL4 : (L : Int) ≤ 4 := by have := H6.out.2.2.2; omega
          obtain ⟨a7, d7, hv7, hnc7, _, hat7⟩ := hpl7.r.open_
          injection hv7 with g1 g2 g3
          subst g1 g3
          rw [hL] at hnc7 hat7
          have hnr := rnext_f A' L c' rs' now w7 hat7 hL4 hnc7
          rw [hpl7.eq] at hnr
          have HNR := Lib.hid hnr
          clear hn7 b7 hpl7 hL hx7 hnr g2 hfew hlen
          try dsimp only
          go_wp2_with (refine wpList_load_mid rfl 29 (.tmp 4) rfl xb 0 rfl [.slice A' L c', .int .i64 now] _ hrx Try.underlying29 rfl size_rt ?_)
          refine HNR.out.mono ?_
          rintro e w8 hn8
          obtain ⟨rfl, b8⟩ := (HNT.out _ _ _).1 hn8
          have hx8 := ((b8.block _ (Array.getElem?_eq_some_iff.1 H7.out.1.x).1).trans H7.out.1.x)
          rw [H7.out.2.2] at hx8
          have H8 := Lib.hid (And.intro (H7.out.1.below b8) (And.intro (H7.out.2.1.below b8) hx8))
          clear hn8 b8 hx8 hrx
          try dsimp only
          go_upto_region 35 with fail
          have hlv := H7.out.1.len
          rw [H7.out.2.2] at hlv
          have HLV := Lib.hid hlv
          clear hlv
          obtain ⟨rr, hrr⟩ : ∃ rr, (vs'.map Xr.q).any (hitX s.a s.b) = rr := ⟨_, rfl⟩
          have HR := Lib.hid hrr
          clear hrr
          refine wp_region_rel (fun w' => Below w8.heap.size w8 w') (fun w w' => Below w.heap.size w w') (PR35 tb xb gb nt nb A' L c' now s.a s.b rr) [(3, .pointer (some ⟨tb, 0, none⟩)), (4, .pointer (some ⟨xb, 0, none⟩)), (6, .pointer (some ⟨gb, 0, none⟩)), (16, .int .i64 nt), (17, .bool nb), (18, .int .i64 nt), (19, .bool nb)] (by kernel_rfl) (by kernel_rfl) (by kernel_rfl) ?base (Below.drew (Below.refl _ _)) (fun i w w' v hT h => PR35.grow i w w' v h) ?steps ?fin
          case base =>
            intro x hx
            simp only [List.mem_cons, List.not_mem_nil, or_false] at hx
            rcases hx with rfl | rfl | rfl | rfl | rfl | rfl | rfl <;> exact ⟨rfl, rfl⟩
          case steps =>
            refine steps_cons ?_ (steps_cons ?_ (steps_cons ?_ (steps_cons ?_ (steps_cons ?_ (steps_cons ?_ (steps_cons ?_ (steps_cons ?_ (steps_cons ?_ (steps_cons ?_ (steps_cons ?_ (steps_cons ?_ (steps_cons ?_ (steps_cons ?_ (steps_cons ?_ (steps_cons ?_ (steps_cons ?_ (steps_cons ?_ (steps_cons ?_ (steps_cons ?_ (steps_cons ?_ (steps_cons ?_ (steps_cons ?_ (steps_cons ?_ (steps_cons ?_ (steps_cons ?_ (steps_cons ?_ (steps_cons ?_ (steps_cons ?_ (steps_cons ?_ (steps_cons ?_ steps_nil))))))))))))))))))))))))))))))
            · intro a wx K hS hB hR hK
              rw [if_pos (wanted_none rfl)]
              have h16 := tmp_is (hB.2.2.2.1)
              go_simp
              exact hK (.int .i64 nt) wx hS (Below.refl _ wx) rfl
            · intro a wx K hS hB hR hK
              rw [if_pos (wanted_none rfl)]
              have h18 := tmp_is (hB.2.2.2.2.2.1)
              go_simp
              exact hK (.int .i64 nt) wx hS (Below.refl _ wx) rfl
            · intro a wx K hS hB hR hK
              rw [if_pos (wanted_none rfl)]
              have h125 := tmp_is (hR.1)
              have h126 := tmp_is (hR.2.1)
              have hq : (nt != nt) = false := by simp
              go_simp
              exact hK (.bool false) wx hS (Below.refl _ wx) rfl
            · intro a wx K hS hB hR hK
              rw [if_pos (wanted_none rfl)]
              have h127 := tmp_is (hR.1)
              go_simp
              exact hK (.bool false) wx hS (Below.refl _ wx) rfl
            · intro a wx K hS hB hR hK
              rw [if_pos (wanted_some rfl (hR.1))]
              have h17 := tmp_is (hB.2.2.2.2.1)
              go_simp
              exact hK (.bool nb) wx hS (Below.refl _ wx) rfl
            · intro a wx K hS hB hR hK
              rw [if_pos (wanted_some rfl (hR.1))]
              have h19 := tmp_is (hB.2.2.2.2.2.2.1)
              go_simp
              exact hK (.bool nb) wx hS (Below.refl _ wx) rfl
            · intro a wx K hS hB hR hK
              rw [if_pos (wanted_some rfl (hR.2.2.1))]
              have h129 := tmp_is (hR.1)
              have h130 := tmp_is (hR.2.1)
              have hq : (nb != nb) = false := by cases nb <;> rfl
              go_simp
              exact hK (.bool false) wx hS (Below.refl _ wx) rfl
            · intro a wx K hS hB hR hK
              rw [if_pos (wanted_none rfl)]
              have h128 := tmp_is (hR.1)
              have h131 := tmp_is (hR.2.1)
              go_simp
              exact hK (.bool false) wx hS (Below.refl _ wx) rfl
            · intro a wx K hS hB hR hK
              rw [if_pos (wanted_none rfl)]
              have h132 := tmp_is (hR.1)
              go_simp
              exact hK (.bool false) wx hS (Below.refl _ wx) rfl
            · intro a wx K hS hB hR hK
              rw [if_pos (wanted_some rfl (hR.1))]
              have h3 := tmp_is (hB.1)
              go_simp
              exact hK (.pointer (some ⟨tb, 0, none⟩)) wx hS (Below.refl _ wx) rfl
            · intro a wx K hS hB hR hK
              rw [if_pos (wanted_some rfl (hR.2.1))]
              have h134 := tmp_is (hR.1)
              go_simp
              have hps := H8.out.1.below hS
              have hc := exlen_f hps.t
              rw [← HLV.out] at hc
              refine hc.mono ?_
              rintro e w' ⟨rfl, hw⟩
              obtain rfl := hw.symm
              exact hK _ _ hS (Below.refl _ _) rfl
            · intro a wx K hS hB hR hK
              rw [if_pos (wanted_some rfl (hR.1))]
              have h4 := tmp_is (hB.2.1)
              go_simp
              exact hK (.pointer (some ⟨xb, 0, none⟩)) wx hS (Below.refl _ wx) rfl
            · intro a wx K hS hB hR hK
              rw [if_pos (wanted_some rfl (hR.2.1))]
              have h136 := tmp_is (hR.1)
              have hps := H8.out.1.below hS
              have hcx := (hps.cells H7.out.2.2) 0 _ rfl
              go_simp
              exact hK (.slice A' L c') wx hS (Below.refl _ wx) rfl
            · intro a wx K hS hB hR hK
              rw [if_pos (wanted_some rfl (hR.2.1))]
              have h137 := tmp_is (hR.1)
              go_simp
              exact hK (.int .i64 (L : Int)) wx hS (Below.refl _ wx) rfl
            · intro a wx K hS hB hR hK
              rw [if_pos (wanted_some rfl (hR.2.2.1))]
              have h135 := tmp_is (hR.1)
              have h138 := tmp_is (hR.2.1)
              have hq : ((L : Int) != (L : Int)) = false := by simp
              go_simp
              exact hK (.bool false) wx hS (Below.refl _ wx) rfl
            · intro a wx K hS hB hR hK
              rw [if_pos (wanted_none rfl)]
              have h133 := tmp_is (hR.1)
              have h139 := tmp_is (hR.2.1)
              go_simp
              exact hK (.bool false) wx hS (Below.refl _ wx) rfl
            · intro a wx K hS hB hR hK
              rw [if_pos (wanted_none rfl)]
              have h140 := tmp_is (hR.1)
              go_simp
              exact hK (.bool false) wx hS (Below.refl _ wx) rfl
            · intro a wx K hS hB hR hK
              rw [if_pos (wanted_some rfl (hR.1))]
              have h3 := tmp_is (hB.1)
              go_simp
              exact hK (.pointer (some ⟨tb, 0, none⟩)) wx hS (Below.refl _ wx) rfl
            · intro a wx K hS hB hR hK
              rw [if_pos (wanted_some rfl (hR.1))]
              have h6 := tmp_is (hB.2.2.1)
              go_simp
              exact hK (.pointer (some ⟨gb, 1, none⟩)) wx hS (Below.refl _ wx) rfl
            · intro a wx K hS hB hR hK
              rw [if_pos (wanted_some rfl (hR.2.1))]
              have h143 := tmp_is (hR.1)
              have hbx := (H8.out.2.1.below hS).range
              have hcx := hbx 1 _ rfl
              go_simp
              exact hK (.int .i64 s.a) wx hS (Below.refl _ wx) rfl
            · intro a wx K hS hB hR hK
              rw [if_pos (wanted_some rfl (hR.1))]
              have h6 := tmp_is (hB.2.2.1)
              go_simp
              exact hK (.pointer (some ⟨gb, 2, none⟩)) wx hS (Below.refl _ wx) rfl
            · intro a wx K hS hB hR hK
              rw [if_pos (wanted_some rfl (hR.2.1))]
              have h145 := tmp_is (hR.1)
              have hbx := (H8.out.2.1.below hS).range
              have hcx := hbx 2 _ rfl
              go_simp
              exact hK (.int .i64 s.b) wx hS (Below.refl _ wx) rfl
            · intro a wx K hS hB hR hK
              rw [if_pos (wanted_some rfl (hR.2.2.2.1))]
              have h142 := tmp_is (hR.1)
              have h144 := tmp_is (hR.2.1)
              have h146 := tmp_is (hR.2.2.1)
              go_simp
              have hps := H8.out.1.below hS
              refine (exhas_f hps.t s.a s.b).mono ?_
              rintro e w' ⟨rfl, b⟩
              rw [HR.out]
              exact hK _ _ (hS.trans (b.mono hS.size)) b rfl
            · intro a wx K hS hB hR hK
              rw [if_pos (wanted_some rfl (hR.1))]
              have hps := H8.out.1.below hS
              refine wp_load_mid _ _ rfl _ _ (hB.2.1) [.slice A' L c', .int .i64 now] _ (hps.cells H7.out.2.2) Try.underlying29 rfl size_rt ?_
              exact hK (.agg #[.slice A' L c', .int .i64 now]) wx hS (Below.refl _ wx) rfl
            · intro a wx K hS hB hR hK
              rw [if_pos (wanted_some rfl (hR.1))]
              have h6 := tmp_is (hB.2.2.1)
              go_simp
              exact hK (.pointer (some ⟨gb, 1, none⟩)) wx hS (Below.refl _ wx) rfl
            · intro a wx K hS hB hR hK
              rw [if_pos (wanted_some rfl (hR.2.1))]
              have h149 := tmp_is (hR.1)
              have hbx := (H8.out.2.1.below hS).range
              have hcx := hbx 1 _ rfl
              go_simp
              exact hK (.int .i64 s.a) wx hS (Below.refl _ wx) rfl
            · intro a wx K hS hB hR hK
              rw [if_pos (wanted_some rfl (hR.1))]
              have h6 := tmp_is (hB.2.2.1)
              go_simp
              exact hK (.pointer (some ⟨gb, 2, none⟩)) wx hS (Below.refl _ wx) rfl
            · intro a wx K hS hB hR hK
              rw [if_pos (wanted_some rfl (hR.2.1))]
              have h151 := tmp_is (hR.1)
              have hbx := (H8.out.2.1.below hS).range
              have hcx := hbx 2 _ rfl
              go_simp
              exact hK (.int .i64 s.b) wx hS (Below.refl _ wx) rfl
            · intro a wx K hS hB hR hK
              rw [if_pos (wanted_some rfl (hR.2.2.2.2.1))]
              have h148 := tmp_is (hR.1)
              have h150 := tmp_is (hR.2.1)
              have h152 := tmp_is (hR.2.2.1)
              go_simp
              have hps := H8.out.1.below hS
              refine (hps.rhas H7.out.2.2 s.a s.b).mono ?_
              rintro e w' ⟨rfl, b⟩
              rw [HR.out]
              exact hK _ _ (hS.trans (b.mono hS.size)) b rfl
            · intro a wx K hS hB hR hK
              rw [if_pos (wanted_some rfl (hR.2.2.1))]
              have h147 := tmp_is (hR.1)
              have h153 := tmp_is (hR.2.1)
              have hq : (rr != rr) = false := by cases rr <;> rfl
              go_simp
              exact hK (.bool false) wx hS (Below.refl _ wx) rfl
            · intro a wx K hS hB hR hK
              rw [if_pos (wanted_none rfl)]
              have h141 := tmp_is (hR.1)
              have h154 := tmp_is (hR.2.1)
              go_simp
              exact hK (.bool false) wx hS (Below.refl _ wx) rfl
          case fin =>
            intro a w9 hS9 ha hR
            have h155 : a.eval (.tmp 155) = .bool false := deps_mem _ hR 30 (by decide)
            have H9 := Lib.hid (H8.out.1.below hS9)
            clear hR hS9
            simp only [pin] at ha
            rw [ha]
            simp only [List.setIfInBounds_toArray, List.set_cons_zero, List.set_cons_succ, h155]
            clear ha h155
            go_wp2
            go_roundw
            case rel => exact ⟨k + 1, by omega, by go_num, (show Aside _ from ⟨now, v', vs', A', c', rs', H9.out⟩)⟩
            case measure => simp [intOf]; omega
      · obtain rfl : k = n := by omega
        have hkI : ¬ (k : Int) < k := by omega
        obtain ⟨now, v, vs, A1, c1, rs, hpl⟩ := hrel.out
        have HF := Lib.hid hpl.b
        clear hrel hpl
        go_wp2
        go_ret
        exact ⟨rfl, HF.out⟩
end Go.Proofs.Ytkhikpbchimodaa
