/-
  The document's table of exchanges: one begins.
-/
import Derived.Test.YtkhikpbchimodaaExRStop
import Derived.Deep.CutRange
namespace Go.Proofs.Ytkhikpbchimodaa
open Go.RowKit
set_option maxRecDepth 100000
set_option maxRecDepth 100000
set_option linter.unusedVariables false
def RStartPost (w : World) (B : Nat) (now : Int) (qs : List Xq) (t i : Int) (l : List UInt8) (r : Int) (e : Ending) (w' : World) : Prop :=
  ∃ A c rs', e = .returned (.tuple #[.agg #[.slice A (List.length rs') c, .int .i64 now], .int .i64 (startQ qs now t i l r).2]) ∧ Below w.heap.size w w' ∧ RtAt w' B (.slice A (List.length rs') c) rs' ∧ rs'.map Xr.q = (startQ qs now t i l r).1
/-- The row that has been made: one more at its end. -/
def SrP (w2 : World) (tb base : Nat) (k : Nat) (rs : List Xr) (q : Xq) (W : World) (x : Value) : Prop :=
  ∃ A n c, W.ownsRow base 68 6 x (k + 1) (onK.all (rs ++ [⟨q, A, n, c⟩])) ∧ x.ownBlock ≠ some tb ∧ tb < w2.heap.size ∧ Ob W w2.heap.size A n c q.l
theorem SrP.keep {w2 : World} {tb base k : Nat} {rs : List Xr} {q : Xq} (w w' : World) (x : Value) (hf : Fx tb none w w') (h : SrP w2 tb base k rs q w x) : SrP w2 tb base k rs q w' x := by
  obtain ⟨A, n, c, h1, h2, h3, h4⟩ := h
  exact ⟨A, n, c, hf.row_ h1 h2 (own_no _), h2, h3, ⟨hf.row_ h4.1 (own_low h4.1 h3) (own_no _), h4.2⟩⟩
theorem SrP.slice_ {w2 : World} {tb base k : Nat} {rs : List Xr} {q : Xq} {w : World} {x : Value} (h : SrP w2 tb base k rs q w x) : ∃ A n c, x = .slice A n c := by
  obtain ⟨A, n, c, h1, _⟩ := h
  obtain ⟨A, c, e, _⟩ := RowK.At.of_own h1
  exact ⟨A, _, c, e⟩
theorem WS.cellR {w3 w : World} {tb : Nat} {e : TypeId} {row : Option Nat} {P : World → Value → Prop} {il ir is : Nat} {L : Nat → Bool} {g : Option Value} {T : Int} {v : Value} (h : WS w3 tb e (fun x => #[x, .int .i64 T]) row P il ir is L g w) (h3 : w3.heap[tb]? = some (.cells #[v, .int .i64 T] e)) : w.cell? ⟨tb, 1, none⟩ = some (.int .i64 T) := by
  cases hl : L is with
  | false => rw [cell_of_row _ _ _ _ _ _ ((h.cell0 hl).trans h3)]; rfl
  | true =>
    obtain ⟨x, _, hx⟩ := h.cell1 hl
    rw [cell_of_row _ _ _ _ _ _ hx]; rfl
def RR9 (tb : Nat) (v : Value) (t i T wt un : Int) (A : Option Addr) (n c : Nat) (l : List UInt8) (w2 : World) (g : Option Value) (k : Nat) (w : World) (x : Value) : Prop :=
  match k with
  | 0 => x = v
  | 1 => x = .int .i64 t
  | 2 => x = .int .i64 i
  | 3 => x = .slice A n c
  | 4 => ∃ A' n' c', x = .slice A' n' c' ∧ w.ownsRow w2.heap.size 5 1 (.slice A' n' c') n' (U8 l)
  | 5 => x = .pointer (some ⟨tb, 1, none⟩)
  | 6 => x = .int .i64 T
  | 7 | 10 => x = .int .i64 wt
  | 8 => x = .int .i64 (T + wt)
  | 9 => x = .int .i64 un
  | 11 => ∃ A' n' c', x = .agg #[.int .i64 t, .int .i64 i, .slice A' n' c', .int .i64 un, .int .i64 wt, .int .i64 0] ∧ w.ownsRow w2.heap.size 5 1 (.slice A' n' c') n' (U8 l)
  | 12 => ∃ vb A' n' c', x = .slice (some ⟨vb, 0, none⟩) 1 1 ∧ (w2.heap.size ≤ vb ∧ vb < w.heap.size) ∧ w.heap[vb]? = some (.cells #[.int .i64 t, .int .i64 i, .slice A' n' c', .int .i64 un, .int .i64 wt, .int .i64 0] 68) ∧ w.ownsRow w2.heap.size 5 1 (.slice A' n' c') n' (U8 l)
  | 13 => g = some x
  | 14 => x = .pointer (some ⟨tb, 0, none⟩)
  | _ => True
theorem RR9.grow {tb : Nat} {v : Value} {t i T wt un : Int} {A : Option Addr} {n c : Nat} {l : List UInt8} {w2 : World} (htb : tb < w2.heap.size) (hrow : ∀ k, v.ownBlock = some k → k < w2.heap.size) (k : Nat) (g : Option Value) (w : World) (g' : Option Value) (w' : World) (x : Value) (hT : WT tb v.ownBlock g w g' w') (h : RR9 tb v t i T wt un A n c l w2 g k w x) : RR9 tb v t i T wt un A n c l w2 g' k w' x := by
  have hr : ∀ (u : Value) (m : Nat) (xs : List Value), w.ownsRow w2.heap.size 5 1 u m xs → w'.ownsRow w2.heap.size 5 1 u m xs := fun u m xs ho =>
    hT.1.row_ ho (own_low ho htb) (by
      cases hv : u.ownBlock with
      | none => exact .inl rfl
      | some j => exact .inr (fun e => by have := hrow j e.symm; have := (ho.lt j hv).1; omega))
  unfold RR9 at h ⊢
  split at h
  all_goals first
    | exact h
    | exact (hT.2 x h).1
    | (obtain ⟨A', n', c', h1, h2⟩ := h
       exact ⟨A', n', c', h1, hr _ _ _ h2⟩)
    | (obtain ⟨vb, A', n', c', h1, h2, h3, h4⟩ := h
       exact ⟨vb, A', n', c', h1, ⟨h2.1, Nat.lt_of_lt_of_le h2.2 hT.1.size⟩, (hT.1.block vb h2.2 (by omega) (fun e => by have := hrow vb e.symm; omega)).trans h3, hr _ _ _ h4⟩)
set_option maxHeartbeats 16000000 in
theorem rstart_f (A : Option Addr) (n c : Nat) (rs : List Xr) (now : Int) (w : World) (B : Nat) (h : RtAt w B (.slice A n c) rs) (hB : B ≤ w.heap.size) (h0 : 0 ≤ now ∧ now ≤ 1099511627776) (t i : Int) (A2 : Option Addr) (n2 c2 : Nat) (l : List UInt8) (hb2 : Bs w w.heap.size A2 n2 l) (hn2 : (n2 : Int) ≤ 65536) (x r : Int) :
    Calls Try.prog 11 #[.agg #[.slice A n c, .int .i64 now], .int .i64 t, .int .i64 i, .slice A2 n2 c2, .int .i64 x, .int .i64 r] w (RStartPost w B (tellT now x) (rs.map Xr.q) t i l r) := by
  obtain ⟨i0, hi0, hz0, hz1, hz2⟩ := info_parts info_on
  have hfew := h.few
  obtain ⟨A', c', hv, hnc, hcm, hah⟩ := h.open_
  injection hv with e1 e2 e3
  subst e1 e2 e3
  have hlat := fun W => rlater_f A rs.length c now x W h0.1
  have hT := tellT_in (x := x) h0
  generalize tellT now x = T at *
  have hhas := fun W (hb : Below w.heap.size w W) => rhas_f A rs.length c rs T W ((hah.below hb).more hb.size) (by omega) t i
  obtain ⟨n, hn⟩ : ∃ n, rs.length = n := ⟨_, rfl⟩
  have HH := Lib.hid (And.intro h (And.intro hah (And.intro hn (And.intro hb2 (And.intro hT hn2)))))
  rw [hn] at hnc hfew hah hlat hhas
  rw [hn]
  have hnI : (n : Int) ≤ 4 := by omega
  have hncI : (n : Int) ≤ c := by omega
  have hcm' : (c : Int) ≤ 9223372036854775807 := by unfold maxLen at hcm; omega
  have hst : startQ (rs.map Xr.q) T t i l r = if (rs.map Xr.q).any (hitX t i) then (rs.map Xr.q, 5) else if 4 ≤ (rs.map Xr.q).length then (rs.map Xr.q, 6) else (rs.map Xr.q ++ [⟨t, i, l, 0, waitT r, addT T (waitT r)⟩], 0) := rfl
  obtain ⟨R, hR⟩ : ∃ R, (rs.map Xr.q).any (hitX t i) = R := ⟨_, rfl⟩
  rw [hR] at hst hhas
  rw [List.length_map, hn] at hst
  have HL := Lib.hid (And.intro hlat hhas)
  have HST := Lib.hid hst
  clear h hn hR hb2 hlat hhas hT hst
  go_enter Try.func11, Try.ntmps11
  go_upto_region 1 with fail
  refine wp_at_world (F := fun W => Below w.heap.size w W ∧ W.heap[w.heap.size]? = some (.cells #[.slice A n c, .int .i64 now] 29) ∧ W.heap[w.heap.size + 1]? = some (.cells #[.slice none 0 0, .int .i64 0] 29)) ⟨((Below.refl _ _).alloc (Nat.le_refl _) _).alloc (by rw [alloc_size]; omega) _, heap_alloc2_old w _ _, heap_alloc2_new w _ _⟩ fun w1 ⟨b1, x0, x1⟩ => ?_
  have hr1 := range_here [.slice A n c, .int .i64 now] x0 rfl
  have H1 := Lib.hid (And.intro b1 (And.intro x0 x1))
  clear b1 x0 x1
  go_wp2_with (refine wpList_load_mid rfl 29 (.tmp 6) rfl w.heap.size 0 rfl [.slice A n c, .int .i64 now] _ hr1 Try.underlying29 rfl size_rt ?_)
  refine (HL.out.1 w1).mono ?_
  rintro e w2 ⟨rfl, b2⟩
  have x0 := (b2.block _ (Array.getElem?_eq_some_iff.1 H1.out.2.1).1).trans H1.out.2.1
  have x1 := (b2.block _ (Array.getElem?_eq_some_iff.1 H1.out.2.2).1).trans H1.out.2.2
  have hth := there_here (n := 2) x0 rfl
  have H2 := Lib.hid (And.intro (H1.out.1.trans (b2.mono H1.out.1.size)) (And.intro x0 x1))
  clear b2 x0 x1 hr1
  go_upto_region 2 with (refine wpList_store_mid rfl 29 (.tmp 6) (.tmp 19) rfl w.heap.size 0 (List.toArray [.slice A n c, .int .i64 T]) rfl rfl hth size_rt (all_oneCell_toArray (two_one _ _ _ _)) ?_)
  refine wp_at_world (F := fun W => Below w.heap.size w W ∧ W.heap[w.heap.size]? = some (.cells #[.slice A n c, .int .i64 T] 29) ∧ W.heap[w.heap.size + 1]? = some (.cells #[.slice none 0 0, .int .i64 0] 29)) ⟨below_set H2.out.1 (Nat.le_refl _) _, set_here [.slice A n c, .int .i64 T] H2.out.2.1 rfl, (heap_setCells_other w.heap.size (w.heap.size + 1) (by omega) _ 0 w2).trans H2.out.2.2⟩ fun w3 ⟨b3, x0, x1⟩ => ?_
  have hr3 := range_here [.slice A n c, .int .i64 T] x0 rfl
  have H3 := Lib.hid (And.intro b3 (And.intro x0 x1))
  clear b3 x0 x1 hth
  go_wp2_with (refine wpList_load_mid rfl 29 (.tmp 6) rfl w.heap.size 0 rfl [.slice A n c, .int .i64 T] _ hr3 Try.underlying29 rfl size_rt ?_)
  refine (HL.out.2 w3 H3.out.1).mono ?_
  rintro e w4 ⟨rfl, b4⟩
  have x0 := (b4.block _ (Array.getElem?_eq_some_iff.1 H3.out.2.1).1).trans H3.out.2.1
  have x1 := (b4.block _ (Array.getElem?_eq_some_iff.1 H3.out.2.2).1).trans H3.out.2.2
  have hr4 := range_here [.slice A n c, .int .i64 T] x0 rfl
  have hth4 := there_here (n := 2) x1 rfl
  have d0 : w4.cell? ⟨w.heap.size, 0, none⟩ = some (.slice A n c) := by rw [cell_of_row _ _ _ _ _ _ x0]; rfl
  have H4 := Lib.hid (And.intro (H3.out.1.trans (b4.mono H3.out.1.size)) (And.intro x0 x1))
  clear b4 x0 x1 hr3
  cases R with
  | true =>
    have hst := HST.out
    rw [if_pos rfl] at hst
    have HS := Lib.hid hst
    clear hst
    go_wp2_with (first
      | (refine wpList_load_mid rfl 29 (.tmp 6) rfl w.heap.size 0 rfl [.slice A n c, .int .i64 T] _ hr4 Try.underlying29 rfl size_rt ?_)
      | (refine wpList_store_mid rfl 29 (.tmp 12) (.tmp 24) rfl (w.heap.size + 1) 0 (List.toArray [.slice A n c, .int .i64 T]) rfl rfl hth4 size_rt (all_oneCell_toArray (two_one _ _ _ _)) ?_))
    have h9 := set_here [.slice A n c, .int .i64 T] H4.out.2.2 rfl
    refine bodyPost_ret (results_cell_tmp_mid rfl _ _ (w.heap.size + 1) 0 [.slice A n c, .int .i64 T] _ rfl (range_here _ h9 rfl) Try.underlying29 rfl size_rt) rfl ?_
    have hrt := (HH.out.1.below H4.out.1).setTs H4.out.2.2 [.slice A n c, .int .i64 T]
    refine ⟨A, c, rs, by rw [HS.out, HH.out.2.2.1] <;> rfl, below_set H4.out.1 (Nat.le_succ _) _, hrt, by rw [HS.out] <;> rfl⟩
  | false =>
    by_cases h4 : 4 ≤ n
    · have h4I : (4 : Int) ≤ n := by omega
      have hst := HST.out
      rw [if_neg (by decide), if_pos h4] at hst
      have HS := Lib.hid hst
      clear hst
      go_wp2_with (first
        | (refine wpList_load_mid rfl 29 (.tmp 6) rfl w.heap.size 0 rfl [.slice A n c, .int .i64 T] _ hr4 Try.underlying29 rfl size_rt ?_)
        | (refine wpList_store_mid rfl 29 (.tmp 12) (.tmp 29) rfl (w.heap.size + 1) 0 (List.toArray [.slice A n c, .int .i64 T]) rfl rfl hth4 size_rt (all_oneCell_toArray (two_one _ _ _ _)) ?_))
      have h9 := set_here [.slice A n c, .int .i64 T] H4.out.2.2 rfl
      refine bodyPost_ret (results_cell_tmp_mid rfl _ _ (w.heap.size + 1) 0 [.slice A n c, .int .i64 T] _ rfl (range_here _ h9 rfl) Try.underlying29 rfl size_rt) rfl ?_
      have hrt := (HH.out.1.below H4.out.1).setTs H4.out.2.2 [.slice A n c, .int .i64 T]
      refine ⟨A, c, rs, by rw [HS.out, HH.out.2.2.1] <;> rfl, below_set H4.out.1 (Nat.le_succ _) _, hrt, by rw [HS.out] <;> rfl⟩
    · have h4I : ¬ (4 : Int) ≤ n := by omega
      have hst := HST.out
      rw [if_neg (by decide), if_neg h4] at hst
      have HS := Lib.hid hst
      clear hst
      have hwin := waitT_in r
      have hwt : waitT r = 20 + (max r 0) % 11 := rfl
      obtain ⟨wt, hw⟩ : ∃ wt, waitT r = wt := ⟨_, rfl⟩
      rw [hw] at hwt HS hwin
      have HWT := Lib.hid hwt
      clear hwt hw hr4 hth4
      have hmeet : ∀ (P : Prop), (r > 0 → wt = 20 + r % 11 → P) → (¬ r > 0 → wt = 20 → P) → P := fun P h1 h2 => by
        by_cases hr : r > 0
        · exact h1 hr (by have := HWT.out; rw [show max r 0 = r by omega] at this; exact this)
        · exact h2 hr (by have := HWT.out; rw [show max r 0 = 0 by omega] at this; exact this)
      have HM := Lib.hid hmeet
      clear hmeet
      go_upto_if 31 with fail
      go_cut [14] from 31 to 35 (fun s14 wz => s14 = .int .i64 wt ∧ wz = w4)
      case first =>
        refine HM.out _ (fun hr hw => ?_) (fun hr hw => ?_)
        · subst hw
          go_wp2_with fail
          go_meet
          case rel => exact ⟨rfl, rfl⟩
        · subst hw
          go_wp2_with fail
          go_meet
          case rel => exact ⟨rfl, rfl⟩
      case rest =>
        obtain ⟨rfl, rfl⟩ := hcut
        go_upto_region 11 with fail
        have hs4 := (Array.getElem?_eq_some_iff.1 H4.out.2.2).1
        refine wp_at_world (F := fun W => Below wc.heap.size wc W ∧ W.ownsRow wc.heap.size 68 6 (.slice (some ⟨wc.heap.size, 0, none⟩) 0 0) 0 []) ⟨alloc_below _ _, rk_empty wc _ (Nat.le_refl _) _ _⟩ fun w5 ⟨b5, o5⟩ => ?_
        have H5 := Lib.hid (And.intro b5 o5)
        clear b5 o5
        have htk : ∀ k, k ≤ n → (rs.take k).length = k := fun k hk => by rw [List.length_take, HH.out.2.2.1]; omega
        have HTK := Lib.hid htk
        clear htk
        go_loopw [15, 16] (fun v15 iv wr => ∃ (k : Nat) (A' : Option Addr) (c' : Nat), k ≤ n ∧ iv = .int .i64 (k : Int) ∧ v15 = .slice A' k c' ∧ Aside (wr.ownsRow wc.heap.size 68 6 v15 k (onK.all (rs.take k)) ∧ Below wc.heap.size wc wr)) (fun _ iv _ => n - (intOf iv).toNat)
        case atStart => exact ⟨0, _, _, Nat.zero_le _, rfl, rfl, H5.out.2, H5.out.1⟩
        case round =>
          obtain ⟨k, A8, c8, hk, rfl, rfl, hrel⟩ := hrel
          have hr0 := hrel.out
          have hbw : Below w.heap.size w wr := H4.out.1.trans (hr0.2.mono (by omega))
          have dr0 : wr.cell? ⟨w.heap.size, 0, none⟩ = some (.slice A n c) := by rw [cell_of_row _ _ _ _ _ _ ((hr0.2.block _ (by omega)).trans H4.out.2.1)]; rfl
          by_cases hlt : k < n
          · obtain ⟨s, hs⟩ := hah.get hlt
            obtain ⟨b, off, rfl, hb, _⟩ := hah.place (by omega)
            have hrg := (hah.below hbw).range hs
            have hkI : (k : Int) < n := by omega
            have hkc : (k : Int) < c := by omega
            have hnx : rs.take (k + 1) = rs.take k ++ [s] := by rw [List.take_add_one, hs]; rfl
            have HRr := Lib.hid (And.intro hr0 hnx)
            have hsz : wc.heap.size ≤ wr.heap.size := hr0.2.size
            clear hrel hbw hr0 hs hnx
            obtain ⟨⟨st, si, sl, sg, sw, su⟩, sA, sn, sc⟩ := s
            simp only [onK, Xr.ones] at hrg
            go_wp2_with (first
              | (refine wpList_load_mid rfl 68 (.tmp 48) rfl b (off + k * 6) rfl [.int .i64 st, .int .i64 si, .slice sA sn sc, .int .i64 su, .int .i64 sw, .int .i64 (sg : Int)] _ hrg Try.underlying68 rfl size_on ?_)
              | (at_builtin; go_loud ((refine onK.append_one wr rfl (.tmp 44) (.tmp 50) 27 rfl wc.heap.size 68 i0 _ 64 Try.underlying27 hi0 hz0 hz1 hz2 rfl (.slice A8 k c8) k _ rfl HRr.out.1.1 ⟨⟨st, si, sl, sg, sw, su⟩, sA, sn, sc⟩ _ rfl _ rfl (by omega) (by unfold maxLen; omega) hsz ?_; intro A' c' w' hown hgr; have HW := Lib.hid (And.intro hown (rk_in' (HRr.out.1.2.trans (Below.mono (alloc_below wr _) hsz)) (HRr.out.1.1.alloc _) hgr (by rw [alloc_size]; omega))); clear hown hgr))))
            go_roundw
            case rel => exact ⟨k + 1, A', c', by omega, by go_num, rfl, (show Aside _ from by rw [HRr.out.2]; exact HW.out)⟩
            case measure => simp [intOf]; omega
          · obtain rfl : k = n := by omega
            have hkI : ¬ (k : Int) < k := by omega
            rw [List.take_of_length_le (by rw [HH.out.2.2.1]; exact Nat.le_refl _)] at hr0
            have x1r : wr.heap[w.heap.size + 1]? = some (.cells #[.slice none 0 0, .int .i64 0] 29) := (hr0.2.block _ (by omega)).trans H4.out.2.2
            have x0r : wr.heap[w.heap.size]? = some (.cells #[.slice A k c, .int .i64 T] 29) := (hr0.2.block _ (by omega)).trans H4.out.2.1
            have HF := Lib.hid (And.intro hr0.1 (And.intro hbw (And.intro x0r x1r)))
            have hsz5 : w.heap.size + 1 < wr.heap.size := (Array.getElem?_eq_some_iff.1 x1r).1
            have hszc : wc.heap.size ≤ wr.heap.size := hr0.2.size
            clear hrel hr0 x0r x1r hbw
            go_upto_region 14 with fail
            have hrowlo : ∀ j, (Value.slice A8 k c8).ownBlock = some j → wc.heap.size ≤ j := fun j e => (HF.out.1.lt j e).1
            have HW := Lib.hid (And.intro HF.out.2.2.1 (And.intro (show w.heap.size < wr.heap.size by omega) (And.intro (fun j (e : (Value.slice A8 k c8).ownBlock = some j) => (HF.out.1.lt j e).2) (show (Value.slice A8 k c8).ownBlock ≠ some w.heap.size from fun e => by have := hrowlo _ e; omega))))
            have HLO := Lib.hid hrowlo
            have HCB := Lib.hid fun W (hW : Fx w.heap.size (Value.slice A8 k c8).ownBlock wr W) => rcopy_any A2 n2 c2 l W _ ((HH.out.2.2.2.1.below (HF.out.2.1.trans (hW.toBelow (Nat.le_refl _) HF.out.2.1.size (fun j e => by have := hrowlo j e; omega)))).more (Nat.le_trans HF.out.2.1.size hW.size)) (Nat.le_refl _) hn2
            have HLN := Lib.hid HH.out.2.2.2.1.len
            have hck : clampN (T + wt) = addT T wt := by unfold clampN addT; have := HH.out.2.2.2.2.1; omega
            have hcl := fun W => clock_f (T + wt) W
            rw [hck] at hcl
            have HCK := Lib.hid hcl
            have hT2 := HH.out.2.2.2.2.1
            have hTw0 : 0 ≤ T + wt := by omega
            have hTw1 : T + wt ≤ 1099511627806 := by omega
            clear hck hcl hrowlo
            generalize addT T wt = un at *
            have hPk : ∀ wx w' x, Fx w.heap.size none wx w' → SrP wr w.heap.size wc.heap.size k rs ⟨t, i, l, 0, wt, un⟩ wx x → SrP wr w.heap.size wc.heap.size k rs ⟨t, i, l, 0, wt, un⟩ w' x := SrP.keep
            refine wp_region_relG (WS wr w.heap.size 29 (fun x => #[x, .int .i64 T]) (Value.slice A8 k c8).ownBlock (SrP wr w.heap.size wc.heap.size k rs ⟨t, i, l, 0, wt, un⟩) 0 13 15) (WT w.heap.size (Value.slice A8 k c8).ownBlock) (RR9 w.heap.size (.slice A8 k c8) t i T wt un A2 n2 c2 l wr) [(1, .int .i64 t), (2, .int .i64 i), (3, .slice A2 n2 c2), (6, .pointer (some ⟨w.heap.size, 0, none⟩)), (14, .int .i64 wt), (15, .slice A8 k c8)] (by kernel_rfl) (by kernel_rfl) (by kernel_rfl) ?base none (WS.first wr) (RR9.grow HW.out.2.1 HW.out.2.2.1) ?steps ?fin
            case base =>
              intro x hx
              simp only [List.mem_cons, List.not_mem_nil, or_false] at hx
              rcases hx with rfl | rfl | rfl | rfl | rfl | rfl <;> exact ⟨rfl, rfl⟩
            case steps =>
              refine steps_cons ?_ (steps_cons ?_ (steps_cons ?_ (steps_cons ?_ (steps_cons ?_ (steps_cons ?_ (steps_cons ?_ (steps_cons ?_ (steps_cons ?_ (steps_cons ?_ (steps_cons ?_ (steps_cons ?_ (steps_cons ?_ (steps_cons ?_ (steps_cons ?_ (steps_cons ?_ steps_nil)))))))))))))))
              · intro a wx L g K hLi hLd hS hB hR hK
                rw [if_pos (wanted_none rfl)]
                have h15 := tmp_is (hB.2.2.2.2.2.1)
                go_simp
                exact hK (.slice A8 k c8) wx g (hS.quiet 0 (by decide) (by decide)) (WT.refl _ _) rfl
              · intro a wx L g K hLi hLd hS hB hR hK
                rw [if_pos (wanted_none rfl)]
                have h1 := tmp_is (hB.1)
                go_simp
                exact hK (.int .i64 t) wx g (hS.quiet 1 (by decide) (by decide)) (WT.refl _ _) rfl
              · intro a wx L g K hLi hLd hS hB hR hK
                rw [if_pos (wanted_none rfl)]
                have h2 := tmp_is (hB.2.1)
                go_simp
                exact hK (.int .i64 i) wx g (hS.quiet 2 (by decide) (by decide)) (WT.refl _ _) rfl
              · intro a wx L g K hLi hLd hS hB hR hK
                rw [if_pos (wanted_none rfl)]
                have h3 := tmp_is (hB.2.2.1)
                go_simp
                exact hK (.slice A2 n2 c2) wx g (hS.quiet 3 (by decide) (by decide)) (WT.refl _ _) rfl
              · intro a wx L g K hLi hLd hS hB hR hK
                rw [if_pos (wanted_none rfl)]
                have h55 := tmp_is (hR.1)
                go_simp
                refine (HCB.out wx hS.fr).mono ?_
                rintro e w' ⟨v', rfl, ho, hb⟩
                obtain ⟨A', c', rfl, _, _⟩ := Bs.of_own ho
                exact hK _ w' g (hS.call hPk HW.out.2.1 4 (by decide : 13 ≠ 4) (by decide : 15 ≠ 4) hb) (WT.below hb) ⟨A', _, c', rfl, rk_mono ho hS.fr.size⟩
              · intro a wx L g K hLi hLd hS hB hR hK
                rw [if_pos (wanted_none rfl)]
                have h6 := tmp_is (hB.2.2.2.1)
                go_simp
                exact hK (.pointer (some ⟨w.heap.size, 1, none⟩)) wx g (hS.quiet 5 (by decide) (by decide)) (WT.refl _ _) rfl
              · intro a wx L g K hLi hLd hS hB hR hK
                rw [if_pos (wanted_none rfl)]
                have h57 := tmp_is (hR.1)
                have hc := hS.cellR HW.out.1
                go_simp
                exact hK (.int .i64 T) wx g (hS.quiet 6 (by decide) (by decide)) (WT.refl _ _) rfl
              · intro a wx L g K hLi hLd hS hB hR hK
                rw [if_pos (wanted_none rfl)]
                have h14 := tmp_is (hB.2.2.2.2.1)
                go_simp
                exact hK (.int .i64 wt) wx g (hS.quiet 7 (by decide) (by decide)) (WT.refl _ _) rfl
              · intro a wx L g K hLi hLd hS hB hR hK
                rw [if_pos (wanted_none rfl)]
                have h58 := tmp_is (hR.1)
                have h59 := tmp_is (hR.2.1)
                have hwr8 : IntKind.i64.wrap (T + wt) = T + wt := by rw [IntKind.wrap_i64]; omega
                go_simp
                exact hK (.int .i64 (T + wt)) wx g (hS.quiet 8 (by decide) (by decide)) (WT.refl _ _) rfl
              · intro a wx L g K hLi hLd hS hB hR hK
                rw [if_pos (wanted_none rfl)]
                have h60 := tmp_is (hR.1)
                go_simp
                refine (HCK.out wx).mono ?_
                rintro e w' ⟨rfl, hw⟩
                obtain rfl := hw.symm
                exact hK _ _ g (hS.quiet 9 (by decide) (by decide)) (WT.refl _ _) rfl
              · intro a wx L g K hLi hLd hS hB hR hK
                rw [if_pos (wanted_none rfl)]
                have h14 := tmp_is (hB.2.2.2.2.1)
                go_simp
                exact hK (.int .i64 wt) wx g (hS.quiet 10 (by decide) (by decide)) (WT.refl _ _) rfl
              · intro a wx L g K hLi hLd hS hB hR hK
                rw [if_pos (wanted_none rfl)]
                have h53 := tmp_is (hR.1)
                have h54 := tmp_is (hR.2.1)
                have h61 := tmp_is (hR.2.2.2.1)
                have h62 := tmp_is (hR.2.2.2.2.1)
                obtain ⟨A', n', c', hv, ho⟩ := hR.2.2.1
                have h56 := tmp_is hv
                go_simp
                exact hK (.agg #[.int .i64 t, .int .i64 i, .slice A' n' c', .int .i64 un, .int .i64 wt, .int .i64 0]) wx g (hS.quiet 11 (by decide) (by decide)) (WT.refl _ _) ⟨A', n', c', rfl, ho⟩
              · intro a wx L g K hLi hLd hS hB hR hK
                rw [if_pos (wanted_none rfl)]
                obtain ⟨A', n', c', hv, ho⟩ := hR.1
                have h63 := tmp_is hv
                go_simp
                exact hK (.slice (some ⟨wx.heap.size, 0, none⟩) 1 1) _ g (hS.call hPk HW.out.2.1 12 (by decide : 13 ≠ 12) (by decide : 15 ≠ 12) (alloc_below wx _)) (WT.below (alloc_below wx _)) ⟨wx.heap.size, A', n', c', rfl, ⟨hS.fr.size, by rw [alloc_size]; omega⟩, heap_alloc_new wx _, rk_below ho (alloc_below wx _)⟩
              · intro a wx L g K hLi hLd hS hB hR hK
                rw [if_pos (wanted_none rfl)]
                obtain ⟨vb, A', n', c', hv64, hvl, hvb, ho⟩ := hR.2.1
                have hbe := (hS.early hLi).2
                have hrw := rk_below HF.out.1 hbe
                have hvals : ∀ j u, (onK.vals ⟨⟨t, i, l, 0, wt, un⟩, A', n', c'⟩)[j]? = some u → wx.cell? ((⟨vb, 0, none⟩ : Addr).add j) = some u := fun j u hu => by rw [rk_add, cell_of_row _ _ _ _ _ _ hvb, Nat.zero_add, ← Array.getElem?_toList]; exact hu
                refine wp_append_from wx (.tmp 52) (.tmp 64) 27 rfl wc.heap.size 68 i0 _ 6 64 Try.underlying27 hi0 hz0 hz1 hz2 rfl (by decide) (.slice A8 k c8) k (onK.all rs) hR.1 hrw ⟨vb, 0, none⟩ 1 1 (onK.vals ⟨⟨t, i, l, 0, wt, un⟩, A', n', c'⟩) hv64 rfl hvals (onK.one _) (by unfold maxLen; omega) (by omega) (Nat.le_trans hszc hbe.size) ?_
                intro v' w' ho2 hg hfrom
                have hbt := (hg.block w.heap.size (Nat.lt_of_lt_of_le HW.out.2.1 hbe.size) (fun e => HW.out.2.2.2 e.symm)).trans ((hbe.block w.heap.size HW.out.2.1).trans HW.out.1)
                have hob : Ob w' wr.heap.size A' n' c' l := ⟨ho.kept hg (rk_apart ho hrw (by decide)), by have e1 := ho.1; rw [U8_length, HLN.out] at e1; omega⟩
                have hrow2 : w'.ownsRow wc.heap.size 68 6 v' (k + 1) (onK.all (rs ++ [⟨⟨t, i, l, 0, wt, un⟩, A', n', c'⟩])) := by rw [onK.all_append]; exact ho2
                have hz := hS.row_ HW.out.2.1 HW.out.2.2.2 hLi (hLd 0 (by decide)) (by decide : 15 ≠ 13) (x := v') hg ⟨A', n', c', hrow2, rk_ne hrow2 hbt (by decide), HW.out.2.1, hob⟩
                exact hK v' w' (some v') hz.1 hz.2 rfl
              · intro a wx L g K hLi hLd hS hB hR hK
                rw [if_pos (wanted_none rfl)]
                have h6 := tmp_is (hB.2.2.2.1)
                go_simp
                exact hK (.pointer (some ⟨w.heap.size, 0, none⟩)) wx g (hS.quiet 14 (by decide) (by decide)) (WT.refl _ _) rfl
              · intro a wx L g K hLi hLd hS hB hR hK
                rw [if_pos (wanted_none rfl)]
                have h66 := tmp_is (hR.1)
                have hgx : g = some (a.eval (.tmp 65)) := hR.2.1
                obtain ⟨x9, hx⟩ : ∃ x, a.eval (.tmp 65) = x := ⟨_, rfl⟩
                rw [hx] at hgx
                have h65 := tmp_is hx
                have hst := hS.store hPk HW.out.1 (k := 0) (fun _ => rfl) (show L 15 = false from hLi) (hLd 13 (by decide)) (by decide : 13 ≠ 15) hgx
                have hc := cell_of_row _ _ 0 _ _ _ ((hS.cell0 hLi).trans HW.out.1)
                simp only [List.getElem?_toArray, List.getElem?_cons_zero] at hc
                have hf : wx.frozen? ⟨w.heap.size, 0, none⟩ = false := by simp [World.frozen?, (hS.cell0 hLi).trans HW.out.1]
                obtain ⟨A1, n1, c1, rfl⟩ := SrP.slice_ (hS.made x9 hgx)
                go_simp
                exact hK undef _ g hst.1 hst.2 trivial
            case fin =>
              intro a w7 L g hS hall ha hR
              obtain ⟨v7, hgv, hc7⟩ := hS.cell1 (hall 15 (by decide))
              obtain ⟨A7, n7, c7, hrow7, hne7, _, hob7⟩ := hS.made v7 hgv
              have hf7 := hS.fr
              clear hR hS hgv hall
              simp only [pin] at ha
              rw [ha]
              simp only [List.setIfInBounds_toArray, List.set_cons_zero, List.set_cons_succ]
              clear ha
              obtain ⟨A9, c9, rfl, _⟩ := RowK.At.of_own hrow7
              have hgood := HH.out.1.good.start hT2.1 t i l r
              rw [HS.out] at hgood
              have y1 := (hf7.block (w.heap.size + 1) (by omega) (by omega) (fun e => by have := HLO.out _ e.symm; omega)).trans HF.out.2.2.2
              have hbel7 : Below w.heap.size w w7 := HF.out.2.1.trans (hf7.toBelow (Nat.le_refl _) HF.out.2.1.size (fun j e => by have := HLO.out j e; omega))
              have hrl : (rs ++ [(⟨⟨t, i, l, 0, wt, un⟩, A7, n7, c7⟩ : Xr)]).length = k + 1 := by rw [List.length_append, HH.out.2.2.1]; rfl
              have hrt7 : RtAt w7 B (.slice A9 (k + 1) c9) (rs ++ [⟨⟨t, i, l, 0, wt, un⟩, A7, n7, c7⟩]) := by
                refine ⟨by rw [hrl]; exact rk_mono hrow7 (Nat.le_trans hB (by omega)), fun s hs => ?_, by rw [List.map_append]; exact hgood⟩
                rcases List.mem_append.1 hs with hs | hs
                · exact (HH.out.1.each s hs).below hbel7
                · obtain rfl := List.mem_singleton.1 hs
                  exact hob7.mono (by omega)
              have hr := range_here [.slice A9 (k + 1) c9, .int .i64 T] hc7 rfl
              have hth := there_here (n := 2) y1 rfl
              have H7 := Lib.hid (And.intro hbel7 (And.intro hrt7 (And.intro y1 hrl)))
              clear hbel7 hrt7 y1 hrl hgood hf7 hrow7 hob7 hc7 dr0
              go_wp2_with (first
                | (refine wpList_load_mid rfl 29 (.tmp 6) rfl w.heap.size 0 rfl [.slice A9 (k + 1) c9, .int .i64 T] _ hr Try.underlying29 rfl size_rt ?_)
                | (refine wpList_store_mid rfl 29 (.tmp 12) (.tmp 67) rfl (w.heap.size + 1) 0 (List.toArray [.slice A9 (k + 1) c9, .int .i64 T]) rfl rfl hth size_rt (all_oneCell_toArray (two_one _ _ _ _)) ?_))
              have h9 := set_here [.slice A9 (k + 1) c9, .int .i64 T] H7.out.2.2.1 rfl
              refine bodyPost_ret (results_cell_tmp_mid rfl _ _ (w.heap.size + 1) 0 [.slice A9 (k + 1) c9, .int .i64 T] _ rfl (range_here _ h9 rfl) Try.underlying29 rfl size_rt) rfl ?_
              refine ⟨A9, c9, rs ++ [⟨⟨t, i, l, 0, wt, un⟩, A7, n7, c7⟩], ?_, below_set H7.out.1 (Nat.le_succ _) _, ?_, by rw [HS.out, List.map_append] <;> rfl⟩
              · rw [HS.out, H7.out.2.2.2] <;> rfl
              · rw [H7.out.2.2.2]; exact H7.out.2.1.setTs H7.out.2.2.1 _
end Go.Proofs.Ytkhikpbchimodaa
