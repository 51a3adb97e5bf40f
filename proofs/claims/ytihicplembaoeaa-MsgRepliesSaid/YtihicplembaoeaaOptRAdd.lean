/-
  The document's adding and sorting of options.
-/
import Derived.Test.YtihicplembaoeaaOptAll
import Derived.Test.YtihicplembaoeaaOptPairs
import Derived.Test.YtihicplembaoeaaOptRef
namespace Go.Proofs.Ytihicplembaoeaa
open Go.RowKit
set_option maxRecDepth 100000
set_option linter.unusedVariables false
def fewB (ps : List (Int × List UInt8)) : Bool := decide (ps.length ≤ 40) && ps.all fun x => decide (x.2.length ≤ 400)
theorem fewB_iff (ps : List (Int × List UInt8)) : fewB ps = true ↔ ps.length ≤ 40 ∧ ∀ x ∈ ps, x.2.length ≤ 400 := by
  unfold fewB
  rw [Bool.and_eq_true, decide_eq_true_iff, List.all_eq_true]
  constructor
  · rintro ⟨a, b⟩; exact ⟨a, fun x hx => of_decide_eq_true (b x hx)⟩
  · rintro ⟨a, b⟩; exact ⟨a, fun x hx => decide_eq_true (b x hx)⟩
set_option maxHeartbeats 2000000 in
theorem few_f (A : Option Addr) (n c : Nat) (vs : List Sv) (ps : List (Int × List UInt8)) (w : World) (B : Nat) (hos : Os w B A n vs ps) (hn : (n : Int) ≤ 9223372036854775807) :
    Calls Try.prog 15 #[.slice A n c] w fun e w' => e = .returned (.bool (fewB ps)) ∧ w' = w := by
  have hpl := hos.plen
  by_cases h40 : (40 : Int) < n
  · have hr : fewB ps = false := by unfold fewB; rw [decide_eq_false (by omega)]; rfl
    have HR := Lib.hid hr
    clear hr hos hpl
    go_enter Try.func15, Try.ntmps15
    go_wp2
    go_ret
    exact ⟨retB HR.out.symm, rfl⟩
  · have HO := Lib.hid (And.intro hos hpl)
    clear hos hpl
    go_enter Try.func15, Try.ntmps15
    go_wp2
    go_loop [3] (fun i => ∃ k : Nat, k ≤ n ∧ i = .int .i64 k ∧ Hid (∀ x ∈ ps.take k, x.2.length ≤ 400)) (fun i => n - (intOf i).toNat)
    case atStart => exact ⟨0, by omega, rfl, fun x hx => by simp at hx⟩
    case round =>
      obtain ⟨k, hk, rfl, hall⟩ := hrel
      by_cases hlt : k < n
      · obtain ⟨b, off, rfl, hb, hc⟩ := HO.out.1.sh.place (by omega)
        obtain ⟨s, hs⟩ := sv_get HO.out.1.sh hlt
        obtain ⟨l, hl, hbs⟩ := HO.out.1.get hs
        have c1 := (hc k s hs).2
        have hsl := hbs.len
        obtain ⟨sk, sA, sn, sc⟩ := s
        dsimp only at c1 hsl hl
        have hltI : (k : Int) < n := by omega
        by_cases h4 : (400 : Int) < sn
        · have hr : fewB ps = false := by
            have : ¬ fewB ps = true := fun e => by
              have := ((fewB_iff ps).1 e).2 _ (List.mem_of_getElem? hl)
              simp only at this
              omega
            cases e : fewB ps with
            | true => exact absurd e this
            | false => rfl
          have HR := Lib.hid hr
          clear hr hc hs hl hbs hsl
          go_wp2
          go_ret
          exact ⟨retB HR.out.symm, rfl⟩
        · have HS : Hid (∀ x ∈ ps.take (k + 1), x.2.length ≤ 400) := Lib.hid (fun x hx => by
            rw [List.take_add_one, hl] at hx
            rcases List.mem_append.1 hx with h | h
            · exact hall.out x h
            · obtain rfl := List.mem_singleton.1 h
              show l.length ≤ 400
              omega)
          clear hc hs hl hbs hsl
          go_wp2
          go_round
          case rel => exact ⟨k + 1, by omega, by go_num, HS⟩
          case measure => simp [intOf]; omega
      · obtain rfl : k = n := by omega
        have hr : fewB ps = true := (fewB_iff ps).2 ⟨by have := HO.out.2; omega, fun x hx => hall.out x (by rw [List.take_of_length_le (by have := HO.out.2; omega)]; exact hx)⟩
        have HR := Lib.hid hr
        clear hr
        go_wp2
        go_ret
        exact ⟨retB HR.out.symm, rfl⟩
/-- A row of options under way. -/
def Ost (w wr : World) (v : Value) (us : List Sv) (acc : List (Int × List UInt8)) : Prop :=
  wr.ownsRow w.heap.size 69 2 v acc.length (svs us) ∧ Mx wr w.heap.size us acc ∧ Below w.heap.size w wr
theorem Ost.push {w wr w5 w6 : World} {v v6 : Value} {us : List Sv} {acc : List (Int × List UInt8)} {s : Sv} {x : Int × List UInt8} {o : Obj} (h : Ost w wr v us acc) (hb : Below wr.heap.size wr w5)
    (ho : w6.ownsRow w.heap.size 69 2 v6 (acc.length + 1) (svs (us ++ [s]))) (hg : (w5.alloc o).grownBy w6 v.ownBlock) (hk : s.k = x.1) (hi : InS (w5.alloc o) w.heap.size s x.2) : Ost w w6 v6 (us ++ [s]) (acc ++ [x]) := by
  obtain ⟨hrow, hmx, hbr⟩ := h
  have hsz := hbr.size
  have ha : Below wr.heap.size wr (w5.alloc o) := hb.alloc hb.size o
  refine ⟨by rw [List.length_append]; exact ho, ?_, (hbr.trans (ha.mono hsz)).grown hg (by have := ha.size; omega) (own_ge hrow)⟩
  exact ((hmx.below ha hsz).push hk hi).grown (row_below hrow ha) hg (by have := ha.size; omega)
theorem addO_none {num : Int} {l : List UInt8} : ∀ {P : List (Int × List UInt8)}, (∀ x ∈ P, ¬ num < x.1) → addO num l P = P ++ [(num, l)]
  | [], _ => rfl
  | x :: r, h => by
    rw [addO, if_neg (h x List.mem_cons_self), addO_none (fun y hy => h y (List.mem_cons_of_mem _ hy))]; rfl
theorem addO_snoc {num : Int} {l : List UInt8} {y : Int × List UInt8} : ∀ {P : List (Int × List UInt8)}, (∃ x ∈ P, num < x.1) → addO num l (P ++ [y]) = addO num l P ++ [y]
  | [], h => by obtain ⟨x, hx, _⟩ := h; cases hx
  | x :: r, h => by
    rw [List.cons_append, addO, addO]
    by_cases hx : num < x.1
    · rw [if_pos hx, if_pos hx]; rfl
    · rw [if_neg hx, if_neg hx, addO_snoc]
      · rfl
      · obtain ⟨z, hz, hlt⟩ := h
        rcases List.mem_cons.1 hz with rfl | hz
        · exact absurd hlt hx
        · exact ⟨z, hz, hlt⟩
theorem addO_here {num : Int} {l : List UInt8} {y : Int × List UInt8} (hy : num < y.1) : ∀ {P : List (Int × List UInt8)}, (∀ x ∈ P, ¬ num < x.1) → addO num l (P ++ [y]) = P ++ [(num, l)] ++ [y]
  | [], _ => by rw [List.nil_append, addO, if_pos hy]; rfl
  | x :: r, h => by
    rw [List.cons_append, addO, if_neg (h x List.mem_cons_self), addO_here hy (fun z hz => h z (List.mem_cons_of_mem _ hz))]; rfl
def addAcc (num : Int) (l : List UInt8) (dn : Bool) (P : List (Int × List UInt8)) : List (Int × List UInt8) := if dn = true then addO num l P else P
def AddOk (num : Int) (dn : Bool) (P : List (Int × List UInt8)) : Prop := (dn = false → ∀ x ∈ P, ¬ num < x.1) ∧ (dn = true → ∃ x ∈ P, num < x.1)
theorem addAcc_len (num : Int) (l : List UInt8) (dn : Bool) (P : List (Int × List UInt8)) : (addAcc num l dn P).length ≤ P.length + 1 := by
  unfold addAcc
  split
  · rw [addO_len]; omega
  · omega
set_option maxHeartbeats 8000000 in
theorem radd_f (num : Int) (A2 : Option Addr) (n2 c2 : Nat) (l2 : List UInt8) (A : Option Addr) (n c : Nat) (vs : List Sv) (ps : List (Int × List UInt8)) (w : World) (hos : Os w w.heap.size A n vs ps) (hn : n ≤ 1048000) (hmx : ∀ x ∈ ps, x.2.length ≤ 65536)
    (hb2 : Bs w w.heap.size A2 n2 l2) (hn2 : n2 ≤ 65536) :
    Calls Try.prog 59 #[.slice A n c, .int .i64 num, .slice A2 n2 c2] w (RetOpts (addO num l2 ps) w) := by
  obtain ⟨i0, z0, hi0, hz0, hz1, hz2, hz3⟩ := info_opt
  have hnI : (n : Int) ≤ 1048000 := by omega
  have HO := Lib.hid (And.intro hos (And.intro hb2 hos.plen))
  have hrow0 : Ost w (w.alloc (.cells #[] 69)) (.slice (some ⟨w.heap.size, 0, none⟩) 0 0) [] [] := ⟨wp_row w _ (Nat.le_refl _) _ _, Mx.nil _ _, alloc_below w _⟩
  have HR0 := Lib.hid hrow0
  clear hos hb2 hrow0 hmx
  go_enter Try.func59, Try.ntmps59
  go_wp2
  go_loopw [7, 8, 9] (fun v d i wr => ∃ (k : Nat) (dn : Bool) (us : List Sv), k ≤ n ∧ i = .int .i64 k ∧ d = .bool dn ∧ Aside (Ost w wr v us (addAcc num l2 dn (ps.take k))) ∧ Aside (AddOk num dn (ps.take k))) (fun _ _ i _ => n - (intOf i).toNat)
  case atStart => exact ⟨0, false, [], by omega, rfl, rfl, HR0.out, (show Aside _ from ⟨fun _ x hx => by simp at hx, fun e => by cases e⟩)⟩
  case round =>
    obtain ⟨k, dn, us, hk, rfl, rfl, hst, hok⟩ := hrel
    by_cases hlt : k < n
    · obtain ⟨hosw, hb2w, hpl⟩ := HO.out
      have hbr := hst.out.2.2
      obtain ⟨b, off, rfl, hb, hc⟩ := hosw.sh.place (by omega)
      obtain ⟨s, hs⟩ := sv_get hosw.sh hlt
      obtain ⟨l, hl, hbs⟩ := hosw.get hs
      have hsv := hosw.dp s (List.mem_of_getElem? hs)
      have hrg : ∀ W, Below w.heap.size w W → W.rangeAt b (off + k * 2) [.int .i64 s.k, .slice s.A s.n s.c] := fun W h => (hosw.below h).sh.range hs
      have c0 : wr.cell? ⟨b, off + k * 2, none⟩ = some (.int .i64 s.k) := hrg wr hbr 0 _ rfl
      have hr := hrg wr hbr
      have htk : ps.take (k + 1) = ps.take k ++ [(s.k, l)] := by rw [List.take_add_one, hl]; rfl
      have hinS : ∀ W, Below w.heap.size w W → InS W w.heap.size s l := fun W h => ⟨hsv.cap, hsv.max, hbs.len.symm, .inl (hbs.below h)⟩
      have hbs2 := hb2w.below hbr
      have hrow := hst.out.1
      obtain ⟨A5, c5, rfl, hc5, _⟩ := Sh.of_own hrow
      obtain ⟨la, hla⟩ : ∃ la, (addAcc num l2 dn (ps.take k)).length = la := ⟨_, rfl⟩
      have hlab : la ≤ n + 1 := by
        have h1 := addAcc_len num l2 dn (ps.take k)
        rw [List.length_take] at h1
        omega
      rw [hla] at hrow hc5 hst ⊢
      have hltI : (k : Int) < n := by omega
      have hszr := hbr.size
      obtain ⟨sk, sA, sn, sc⟩ := s
      dsimp only at c0 hr htk
      have HX := Lib.hid (And.intro hrow (And.intro hst (And.intro hok (And.intro hinS (And.intro htk (And.intro hbs2 (And.intro hla (And.intro hbr hrg))))))))
      clear hst hok hosw hb2w hpl hbr hc hs hl hbs hsv htk hbs2 hla hrow hinS hrg
      by_cases hins : dn = false ∧ num < sk
      · obtain ⟨rfl, hgt⟩ := hins
        have hcp := rcopy_any A2 n2 c2 l2 wr _ (HX.out.2.2.2.2.2.1.more hszr) (Nat.le_refl _) (by omega)
        have hl7' : (ps.take k ++ [(num, l2)]).length = la + 1 := by have := HX.out.2.2.2.2.2.2.1; rw [List.length_append, ← this]; rfl
        have HL7 := Lib.hid hl7'
        clear hl7'
        go_wp2_with (first
          | (go_at_call 22
             refine hcp.mono ?_
             rintro e w5 ⟨u5, rfl, ho5, b5⟩
             obtain ⟨A6, c6, rfl, _, _⟩ := Bs.of_own ho5
             have hs5 := b5.size
             have HW5 := Lib.hid ((row_below HX.out.1 b5).alloc (.cells #[.int .i64 num, .slice A6 l2.length c6] 69))
             have H5 := Lib.hid (And.intro (row_mono ho5 hszr) b5)
             clear ho5 b5)
          | (at_builtin
             refine wpList_append_svs _ rfl (.tmp 28) (.tmp 33) 22 rfl w.heap.size 69 i0 z0 Try.underlying22 hi0 hz0 hz2 hz3 hz1 _ la us rfl HW5.out (w5.heap.size + 1) (some ⟨w5.heap.size, 0, none⟩) 1 1 [⟨num, A6, l2.length, c6⟩] rfl (Sh.lit0 w5 _ ⟨num, A6, l2.length, c6⟩ _) (by omega) (by rw [alloc_size]; omega) ?_
             intro v7 w7 ho7 hg7
             have hq7 : Ost w w7 v7 (us ++ [⟨num, A6, l2.length, c6⟩]) (ps.take k ++ [(num, l2)]) := Ost.push (x := (num, l2)) HX.out.2.1.out H5.out.2 (by have e : (ps.take k).length = la := HX.out.2.2.2.2.2.2.1; show w7.ownsRow _ _ _ _ ((ps.take k).length + 1) _; rw [e]; exact ho7) hg7 rfl ((InS.of_own H5.out.1).below (alloc_below w5 _) (by omega))
             have hrow7 := hq7.1
             obtain ⟨A7, c7, rfl, hc7, _⟩ := Sh.of_own hrow7
             rw [HL7.out] at hrow7 hc7 hq7 ⊢
             have hr7 := HX.out.2.2.2.2.2.2.2.2 w7 hq7.2.2
             have hsz7 := hq7.2.2.size
             have H7 := Lib.hid hq7
             have HW7 := Lib.hid (hrow7.alloc (.cells #[.int .i64 sk, .slice sA sn sc] 69))
             clear ho7 hg7 hq7 hrow7)
          | (refine wpList_load_mid rfl 69 (.tmp 38) rfl b (off + k * 2) rfl [.int .i64 sk, .slice sA sn sc] _ hr7 Try.underlying69 rfl size_opt1 ?_)
          | (at_builtin
             refine wpList_append_svs _ rfl (.tmp 35) (.tmp 40) 22 rfl w.heap.size 69 i0 z0 Try.underlying22 hi0 hz0 hz2 hz3 hz1 _ (la + 1) (us ++ [(⟨num, A6, l2.length, c6⟩ : Sv)]) rfl HW7.out (w7.heap.size + 1) (some ⟨w7.heap.size, 0, none⟩) 1 1 [⟨sk, sA, sn, sc⟩] rfl (Sh.lit0 w7 _ ⟨sk, sA, sn, sc⟩ _) (by omega) (by rw [alloc_size]; omega) ?_
             intro v8 w8 ho8 hg8
             have H8 := Lib.hid (And.intro ho8 hg8)
             clear ho8 hg8))
        have hl7' := HL7.out
        go_roundw
        case rel =>
          obtain ⟨hrow, hst, hok, hinS, htk, hbs2, hla, hbr, hrg⟩ := HX.out
          refine ⟨k + 1, true, us ++ [(⟨num, A6, l2.length, c6⟩ : Sv)] ++ [(⟨sk, sA, sn, sc⟩ : Sv)], by omega, by go_num, rfl, ?_, ?_⟩
          rotate_left
          · rw [htk]
            exact ⟨(fun e => by cases e), fun _ => ⟨(sk, l), by simp, hgt⟩⟩
          · have e : addAcc num l2 true (ps.take (k + 1)) = ps.take k ++ [(num, l2)] ++ [(sk, l)] := by
              unfold addAcc
              rw [if_pos rfl, htk]
              exact addO_here (y := (sk, l)) hgt (hok.out.1 rfl)
            rw [e]
            exact Ost.push (x := (sk, l)) H7.out (Below.refl _ _) (by have := hla; rw [hl7']; exact H8.out.1) H8.out.2 rfl (hinS _ (H7.out.2.2.alloc H7.out.2.2.size _))
        case measure => simp [intOf]; omega
      · have HI := Lib.hid hins
        have hdec : dn = true ∨ (dn = false ∧ ¬ num < sk) := by
          cases dn with
          | true => exact .inl rfl
          | false => exact .inr ⟨rfl, fun e => hins ⟨rfl, e⟩⟩
        clear hins
        have HWr := Lib.hid (HX.out.1.alloc (.cells #[.int .i64 sk, .slice sA sn sc] 69))
        have hend : Hid (addAcc num l2 dn (ps.take (k + 1)) = addAcc num l2 dn (ps.take k) ++ [(sk, l)] ∧ AddOk num dn (ps.take (k + 1))) := by
          obtain ⟨hrow, hst, hok, hinS, htk, hbs2, hla, hbr, hrg⟩ := HX.out
          refine Lib.hid ?_
          rw [htk]
          unfold addAcc
          cases dn with
          | true =>
            rw [if_pos rfl, if_pos rfl]
            obtain ⟨y, hy, hlt2⟩ := hok.out.2 rfl
            exact ⟨addO_snoc ⟨y, hy, hlt2⟩, (fun e => by cases e), fun _ => ⟨y, List.mem_append_left _ hy, hlt2⟩⟩
          | false =>
            rw [if_neg (by decide), if_neg (by decide)]
            refine ⟨rfl, fun _ y hy => ?_, fun e => by cases e⟩
            rcases List.mem_append.1 hy with h | h
            · exact hok.out.1 rfl y h
            · obtain rfl := List.mem_singleton.1 h
              exact fun e => HI.out ⟨rfl, e⟩
        rcases hdec with rfl | ⟨rfl, hng⟩
        all_goals
          go_wp2_with (first
            | (refine wpList_load_mid rfl 69 (.tmp 38) rfl b (off + k * 2) rfl [.int .i64 sk, .slice sA sn sc] _ hr Try.underlying69 rfl size_opt1 ?_)
            | (at_builtin
               refine wpList_append_svs _ rfl (.tmp 35) (.tmp 40) 22 rfl w.heap.size 69 i0 z0 Try.underlying22 hi0 hz0 hz2 hz3 hz1 _ la us rfl HWr.out (wr.heap.size + 1) (some ⟨wr.heap.size, 0, none⟩) 1 1 [⟨sk, sA, sn, sc⟩] rfl (Sh.lit0 wr _ ⟨sk, sA, sn, sc⟩ _) (by omega) (by rw [alloc_size]; omega) ?_
               intro v8 w8 ho8 hg8
               have H8 := Lib.hid (And.intro ho8 hg8)
               clear ho8 hg8))
          go_roundw
          case rel =>
            obtain ⟨hrow, hst, hok, hinS, htk, hbs2, hla, hbr, hrg⟩ := HX.out
            refine ⟨k + 1, _, us ++ [(⟨sk, sA, sn, sc⟩ : Sv)], by omega, by go_num, rfl, ?_, hend.out.2⟩
            rw [hend.out.1]
            exact Ost.push (x := (sk, l)) hst.out (Below.refl _ _) (by rw [hla]; exact H8.out.1) H8.out.2 rfl (hinS _ (hbr.alloc hbr.size _))
          case measure => simp [intOf]; omega
    · obtain rfl : k = n := by omega
      have hfull : ps.take k = ps := List.take_of_length_le (by have := HO.out.2.2; omega)
      rw [hfull] at hst hok
      cases dn with
      | true =>
        have HX := Lib.hid hst
        clear hst hok
        go_wp2
        go_ret
        obtain ⟨h1, h2, h3⟩ := HX.out.out
        exact ⟨_, us, rfl, h1, h2, h3⟩
      | false =>
        have hadd : addO num l2 ps = ps ++ [(num, l2)] := addO_none (hok.out.1 rfl)
        have hrow := hst.out.1
        obtain ⟨A5, c5, rfl, hc5, _⟩ := Sh.of_own hrow
        have hpl := HO.out.2.2
        have e0 : addAcc num l2 false ps = ps := rfl
        rw [e0, hpl] at hrow hc5 ⊢
        rw [e0] at hst
        rw [hpl] at hst
        have hszr := hst.out.2.2.size
        have HX := Lib.hid (And.intro hrow (And.intro hst (And.intro hadd (HO.out.2.1.below hst.out.2.2))))
        have hcp := rcopy_any A2 n2 c2 l2 wr _ (HX.out.2.2.2.more hszr) (Nat.le_refl _) (by omega)
        clear hst hok hadd hrow hpl e0
        go_wp2_with (first
          | (go_at_call 22
             refine hcp.mono ?_
             rintro e w5 ⟨u5, rfl, ho5, b5⟩
             obtain ⟨A6, c6, rfl, _, _⟩ := Bs.of_own ho5
             have hs5 := b5.size
             have HW5 := Lib.hid ((row_below HX.out.1 b5).alloc (.cells #[.int .i64 num, .slice A6 l2.length c6] 69))
             have H5 := Lib.hid (And.intro (row_mono ho5 hszr) b5)
             clear ho5 b5)
          | (at_builtin
             refine wpList_append_svs _ rfl (.tmp 44) (.tmp 49) 22 rfl w.heap.size 69 i0 z0 Try.underlying22 hi0 hz0 hz2 hz3 hz1 _ k us rfl HW5.out (w5.heap.size + 1) (some ⟨w5.heap.size, 0, none⟩) 1 1 [⟨num, A6, l2.length, c6⟩] rfl (Sh.lit0 w5 _ ⟨num, A6, l2.length, c6⟩ _) (by omega) (by rw [alloc_size]; omega) ?_
             intro v7 w7 ho7 hg7
             have H7 := Lib.hid (And.intro ho7 hg7)
             clear ho7 hg7))
        go_ret
        have hq7 : Ost w w7 v7 (us ++ [⟨num, A6, l2.length, c6⟩]) (ps ++ [(num, l2)]) := Ost.push (x := (num, l2)) HX.out.2.1.out H5.out.2 (by have := HO.out.2.2; show w7.ownsRow _ _ _ _ (ps.length + 1) _; rw [this]; exact H7.out.1) H7.out.2 rfl ((InS.of_own H5.out.1).below (alloc_below w5 _) (by omega))
        obtain ⟨h1, h2, h3⟩ := hq7
        refine ⟨_, us ++ [(⟨num, A6, l2.length, c6⟩ : Sv)], rfl, ?_, ?_, h3⟩
        · rw [HX.out.2.2.1]; exact h1
        · rw [HX.out.2.2.1]; exact h2
end Go.Proofs.Ytihicplembaoeaa
