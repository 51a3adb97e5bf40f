/-
  Bytes read as options.
-/
import Derived.Test.YtfbddldcbjhmiaaOptBegin
namespace Go.Proofs.Ytfbddldcbjhmiaa
open Go.RowKit
set_option maxRecDepth 100000
set_option linter.unusedVariables false
/-- The options of bytes, how many bytes they take, the error. -/
def rdGo (l : List UInt8) : Nat → Nat → Nat → List (Int × List UInt8) → List (Int × List UInt8) × Nat × Int
  | 0, at_, _, acc => (acc, at_, 0)
  | fuel + 1, at_, num, acc =>
    match l[at_]? with
    | none => (acc, at_, 0)
    | some x => if x = 255 then (acc, at_, 0) else
      match bg (l.drop at_) with
      | none => ([], 0, 20)
      | some (d, s, k) =>
        if acc.length = 24 then ([], 0, 3)
        else if 65535 < num + d then ([], 0, 1)
        else if 300 < s then ([], 0, 2)
        else if l.length - (at_ + k) < s then ([], 0, 20)
        else rdGo l fuel (at_ + k + s) (num + d) (acc ++ [(((num + d : Nat) : Int), (l.drop (at_ + k)).take s)])
def rdO (l : List UInt8) : List (Int × List UInt8) × Nat × Int := rdGo l (l.length + 1) 0 0 []
def RdRet (r : List (Int × List UInt8) × Nat × Int) (w : World) (e : Ending) (w' : World) : Prop :=
  ∃ A n' c us, e = .returned (.tuple #[.slice A n' c, .int .i64 (r.2.1 : Int), .int .i64 r.2.2]) ∧ n' ≤ c ∧ c ≤ maxLen ∧ Hid (n' = r.1.length) ∧ Os w' w'.heap.size A n' us r.1 ∧ Below w.heap.size w w'
theorem RdRet.err {r : List (Int × List UInt8) × Nat × Int} {w w' : World} {er : Int} (h : r = ([], 0, er)) (hb : Below w.heap.size w w') : RdRet r w (.returned (.tuple #[.slice none 0 0, .int .i64 0, .int .i64 er])) w' := by
  subst h
  exact ⟨none, 0, 0, [], rfl, Nat.le_refl _, Nat.zero_le _, rfl, Os.nil_ _ _ _, hb⟩
/-- A slice is nil, or lies from a block on. -/
def Fresh (A : Option Addr) (N : Nat) : Prop := ∀ ad, A = some ad → N ≤ ad.block
theorem fresh_own {w : World} {base size n m c : Nat} {e : TypeId} {A : Option Addr} {xs : List Value} (h : w.ownsRow base e size (.slice A m c) n xs) : Fresh A base := fun ad ha => own_ge h ad.block (by rw [ha]; rfl)
def RdRetF (r : List (Int × List UInt8) × Nat × Int) (w : World) (e : Ending) (w' : World) : Prop :=
  ∃ A n' c us, e = .returned (.tuple #[.slice A n' c, .int .i64 (r.2.1 : Int), .int .i64 r.2.2]) ∧ n' ≤ c ∧ c ≤ maxLen ∧ Hid (n' = r.1.length) ∧ Os w' w'.heap.size A n' us r.1 ∧ Below w.heap.size w w' ∧ Hid (Fresh A w.heap.size)
theorem RdRetF.err {r : List (Int × List UInt8) × Nat × Int} {w w' : World} {er : Int} (h : r = ([], 0, er)) (hb : Below w.heap.size w w') : RdRetF r w (.returned (.tuple #[.slice none 0 0, .int .i64 0, .int .i64 er])) w' := by
  subst h
  exact ⟨none, 0, 0, [], rfl, Nat.le_refl _, Nat.zero_le _, rfl, Os.nil_ _ _ _, hb, (show Fresh none _ from fun ad e => by cases e)⟩
theorem RdRetF.weak {r : List (Int × List UInt8) × Nat × Int} {w : World} (e : Ending) (w' : World) (h : RdRetF r w e w') : RdRet r w e w' := by
  obtain ⟨A, n, c, us, h1, h2, h3, h4, h5, h6, _⟩ := h
  exact ⟨A, n, c, us, h1, h2, h3, h4, h5, h6⟩
theorem bs_one {w : World} {B b off n k : Nat} {l : List UInt8} {x : UInt8} (h : Bs w B (some ⟨b, off, none⟩) n l) (hx : l[k]? = some x) : Bs w B (some ⟨b, off + k, none⟩) (n - k) (x :: l.drop (k + 1)) := by
  have := h.drop_ k
  rw [List.drop_eq_getElem_cons (List.getElem?_eq_some_iff.1 hx).1, (List.getElem?_eq_some_iff.1 hx).2] at this
  exact this
theorem drop_one {l : List UInt8} {k : Nat} {x : UInt8} (hx : l[k]? = some x) : l.drop k = x :: l.drop (k + 1) := by
  rw [List.drop_eq_getElem_cons (List.getElem?_eq_some_iff.1 hx).1, (List.getElem?_eq_some_iff.1 hx).2]
set_option maxHeartbeats 4000000 in
theorem readF_f (A : Option Addr) (n c : Nat) (l : List UInt8) (w : World) (B : Nat) (hbs : Bs w B A n l) (hB : B ≤ w.heap.size) (hc : n ≤ c) (hcI : (c : Int) ≤ 9223372036854775807) (hnI : (n : Int) ≤ 140737488355328) :
    Calls Try.prog 43 #[.slice A n c] w (RdRetF (rdO l) w) := by
  obtain ⟨i0, z0, hi0, hz0, hz1, hz2, hz3⟩ := info_opt
  have hln := hbs.len
  have hncI : (n : Int) ≤ c := by omega
  have HB := Lib.hid (And.intro hbs hln)
  clear hbs hln
  go_enter Try.func43, Try.ntmps43
  go_wp2
  go_loopw [5, 6, 7] (fun v a m wr => ∃ (fuel at_ num : Nat) (acc : List (Int × List UInt8)) (us : List Sv), at_ ≤ n ∧ num ≤ 65535 ∧ acc.length ≤ 24 ∧ a = .int .i64 at_ ∧ m = .int .i64 num ∧ wr.ownsRow w.heap.size 36 2 v acc.length (svs us) ∧ Mx wr w.heap.size us acc ∧ Below w.heap.size w wr ∧ Aside (rdGo l fuel at_ num acc = rdO l ∧ n - at_ < fuel)) (fun _ a _ _ => n - (intOf a).toNat)
  case atStart => exact ⟨l.length + 1, 0, 0, [], [], by omega, by omega, by simp, rfl, rfl, World.ownsRow_nil _ _ _ _, Mx.nil _ _, Below.refl _ _, (show Aside _ from ⟨rfl, by have := HB.out.2; omega⟩)⟩
  case round =>
    obtain ⟨fuel, at_, num, acc, us, hat, hnum, hacc, rfl, rfl, hrow, hmx, hbr, hgo⟩ := hrel
    obtain ⟨f', rfl⟩ : ∃ f', fuel = f' + 1 := ⟨fuel - 1, by have := hgo.out.2; omega⟩
    by_cases hlt : at_ < n
    · obtain ⟨x, hx⟩ := byte_get (l := l) (k := at_) (by have := HB.out.2; omega)
      have hst : rdGo l (f' + 1) at_ num acc = if x = 255 then (acc, at_, 0) else
          match bg (l.drop at_) with
          | none => ([], 0, 20)
          | some (d, s, k) =>
            if acc.length = 24 then ([], 0, 3)
            else if 65535 < num + d then ([], 0, 1)
            else if 300 < s then ([], 0, 2)
            else if l.length - (at_ + k) < s then ([], 0, 20)
            else rdGo l f' (at_ + k + s) (num + d) (acc ++ [(((num + d : Nat) : Int), (l.drop (at_ + k)).take s)]) := by rw [rdGo, hx]
      obtain ⟨b, off, rfl, hb, hcell⟩ := HB.out.1.place (by omega)
      have ca : wr.cell? ⟨b, off + at_, none⟩ = some (.int .u8 (x.toNat : Int)) := (hbr.cell (p := ⟨b, off + at_, none⟩) (by show b < _; omega)).trans (hcell at_ x hx)
      have hxb := byte_lt x
      have hatI : (at_ : Int) < n := by omega
      by_cases h255 : x = 255
      · have hx5 : ((x.toNat : Int) != 255) = false := by subst h255; rfl
        rw [if_pos h255] at hst
        have HX : Aside _ := And.intro hrow (And.intro hmx (And.intro hbr (And.intro hgo hst)))
        generalize (x.toNat : Int) = xx at *
        clear hrow hmx hbr hgo hst hcell hx
        go_wp2
        go_ret3
        obtain ⟨hrow, hmx, hbr, hgo, hst⟩ := HX.out
        have hr := hgo.out.1
        rw [hst] at hr
        obtain ⟨A5, c5, rfl, hc5, hos5⟩ := hmx.os hrow hbr.size
        rw [← hr]
        exact ⟨A5, _, c5, us, rfl, hc5, row_cap hrow, rfl, hos5, hbr, fresh_own hrow⟩
      · have hx5 : ((x.toNat : Int) != 255) = true := bne_iff_ne.2 (fun e => h255 (by apply UInt8.toNat_inj.1; show x.toNat = 255; omega))
        rw [if_neg h255] at hst
        have hca : ¬ c = at_ := by omega
        have hone := bs_one (HB.out.1.below' hbr hB) hx
        have hbeg := begin_f b (off + at_) (n - at_) (c - at_) x (l.drop (at_ + 1)) wr B hone (by omega) (by omega)
        unfold BeginPost at hbeg
        rw [← drop_one hx] at hbeg
        have hlnn := HB.out.2
        obtain ⟨A5, c5, rfl, hc5, hsh5⟩ := Sh.of_own hrow
        have hc5m := row_cap hrow
        obtain ⟨la, hla⟩ : ∃ la, acc.length = la := ⟨_, rfl⟩
        rw [hla] at hacc hrow hsh5 hc5 ⊢
        have HX : Aside _ := And.intro hrow (And.intro hmx (And.intro hbr (And.intro hgo (And.intro hst (And.intro hc5 hc5m)))))
        have HLA := Lib.hid hla
        simp only [maxLen] at hc5m
        clear hsh5
        generalize hxx : (x.toNat : Int) = xx at *
        cases hq : bg (l.drop at_) with
        | none =>
          rw [hq] at hbeg hst
          simp only [List.length_drop, hlnn] at hbeg
          have HQ := Lib.hid hst
          clear hrow hmx hbr hgo hst hcell hx hq hone hla hxx hlnn
          go_wp2_with (go_at_call 74; with_reducible refine hbeg.mono ?_; rintro e w1 ⟨⟨m1, rfl⟩, d, s, k, rfl, hd, hk⟩)
          go_ret3
          obtain ⟨hrow, hmx, hbr, hgo, hst, _⟩ := HX.out
          have hr := hgo.out.1
          rw [HQ.out] at hr
          exact RdRetF.err hr.symm (hbr.trans ((drewN_below wr _ m1).mono hbr.size))
        | some p =>
          obtain ⟨d, s, k⟩ := p
          have hle := bg_le hq
          rw [List.length_drop] at hle
          rw [hq] at hbeg hst
          simp only at hbeg hst
          obtain ⟨hd, hs, hk1, hk2⟩ := hle
          have hk3 : at_ + k ≤ n := by omega
          rw [hla, hlnn] at hst
          by_cases h24 : la = 24
          · subst h24
            rw [if_pos rfl] at hst
            have HQ := Lib.hid hst
            clear hrow hmx hbr hgo hst hcell hx hq hone hla hxx hk2
            go_wp2_with (go_at_call 74; with_reducible refine hbeg.mono ?_; rintro e w1 ⟨⟨m1, rfl⟩, rfl⟩)
            go_ret3
            obtain ⟨hrow, hmx, hbr, hgo, hst, _⟩ := HX.out
            have hr := hgo.out.1
            rw [HQ.out] at hr
            exact RdRetF.err hr.symm (hbr.trans ((drewN_below wr _ m1).mono hbr.size))
          · rw [if_neg h24] at hst
            have h24' : ((la : Int) == 24) = false := beq_eq_false_iff_ne.2 (by omega)
            by_cases hnd : 65535 < num + d
            · rw [if_pos hnd] at hst
              have HQ := Lib.hid hst
              have hndI : (65535 : Int) < num + d := by omega
              clear hrow hmx hbr hgo hst hcell hx hq hone hla hxx hk2
              go_wp2_with (go_at_call 74; with_reducible refine hbeg.mono ?_; rintro e w1 ⟨⟨m1, rfl⟩, rfl⟩)
              go_ret3
              obtain ⟨hrow, hmx, hbr, hgo, hst, _⟩ := HX.out
              have hr := hgo.out.1
              rw [HQ.out] at hr
              exact RdRetF.err hr.symm (hbr.trans ((drewN_below wr _ m1).mono hbr.size))
            · rw [if_neg hnd] at hst
              have hndI : ¬ (65535 : Int) < num + d := by omega
              by_cases hs3 : 300 < s
              · rw [if_pos hs3] at hst
                have HQ := Lib.hid hst
                have hs3I : (300 : Int) < s := by omega
                clear hrow hmx hbr hgo hst hcell hx hq hone hla hxx hk2
                go_wp2_with (go_at_call 74; with_reducible refine hbeg.mono ?_; rintro e w1 ⟨⟨m1, rfl⟩, rfl⟩)
                go_ret3
                obtain ⟨hrow, hmx, hbr, hgo, hst, _⟩ := HX.out
                have hr := hgo.out.1
                rw [HQ.out] at hr
                exact RdRetF.err hr.symm (hbr.trans ((drewN_below wr _ m1).mono hbr.size))
              · rw [if_neg hs3] at hst
                have hs3I : ¬ (300 : Int) < s := by omega
                by_cases hfit : n - (at_ + k) < s
                · rw [if_pos hfit] at hst
                  have HQ := Lib.hid hst
                  have hfitI : (n : Int) - (at_ + k) < s := by omega
                  clear hrow hmx hbr hgo hst hcell hx hq hone hla hxx hk2
                  go_wp2_with (go_at_call 74; with_reducible refine hbeg.mono ?_; rintro e w1 ⟨⟨m1, rfl⟩, rfl⟩)
                  go_ret3
                  obtain ⟨hrow, hmx, hbr, hgo, hst, _⟩ := HX.out
                  have hr := hgo.out.1
                  rw [HQ.out] at hr
                  exact RdRetF.err hr.symm (hbr.trans ((drewN_below wr _ m1).mono hbr.size))
                · rw [if_neg hfit] at hst
                  have HQ := Lib.hid hst
                  have hfitI : ¬ (n : Int) - (at_ + k) < s := by omega
                  have hsum : at_ + k + s ≤ n := by omega
                  have hBm : ∀ m, B ≤ (wr.drewN m).heap.size := fun m => Nat.le_trans hB hbr.size
                  have hsI : (s : Int) ≤ 140737488355328 := by omega
                  have hsg : ((l.drop (at_ + k)).take s).length = s := by rw [List.length_take, List.length_drop, hlnn]; omega
                  have hcut := fun (m : Nat) (A' : Option Addr) (hA : A' = if c = at_ + k then some ⟨b, off, none⟩ else (some ⟨b, off, none⟩ : Option Addr).map (·.add (at_ + k))) => ((HB.out.1.below' hbr hB).drewN m).cut (lo := at_ + k) (hi := at_ + k + s) (c := c) (by omega) hsum hc hA
                  obtain ⟨seg, hseg⟩ : ∃ seg, seg = (l.drop (at_ + k)).take s := ⟨_, rfl⟩
                  have hcs : (l.take (at_ + k + s)).drop (at_ + k) = seg := by rw [hseg, List.drop_take, Nat.add_sub_cancel_left]
                  rw [Nat.add_sub_cancel_left, hcs] at hcut
                  rw [← hseg] at hsg
                  by_cases hck : c = at_ + k
                  · rw [if_pos hck] at hcut
                    have HS : Aside _ := And.intro (And.intro hsg hseg) (fun m => hcut m _ rfl)
                    clear hrow hmx hbr hgo hst hcell hx hq hone hla hxx hk2 hlnn hcut hsg hcs hseg
                    subst hck
                    rw [Nat.add_sub_cancel_left] at hbeg
                    go_wp2_with (first
                      | (go_at_call 74; with_reducible refine hbeg.mono ?_; rintro e w1 ⟨⟨m1, rfl⟩, rfl⟩)
                      | (go_at_call 31
                         with_reducible refine (bclone_f _ s _ seg (wr.drewN m1) B (HS.out.2 m1) (hBm m1) hsI).mono ?_
                         rintro e w2 ⟨v2, rfl, ho2, b2⟩
                         obtain ⟨A7, c7, rfl, _, _⟩ := Bs.of_own ho2
                         have hw2 : Below wr.heap.size wr w2 := (drewN_below wr _ m1).trans (b2.mono (Nat.le_refl _))
                         have hsz2 := hw2.size
                         have hszr := HX.out.2.2.1.size
                         have HW2 := Lib.hid ((row_below HX.out.1 hw2).alloc (.cells #[.int .i64 ((num : Int) + d), .slice A7 seg.length c7] 36))
                         have H2 : Aside _ := And.intro (row_mono ho2 hszr) hw2
                         clear ho2 b2 hw2)
                      | (at_builtin
                         refine wpList_append_svs _ rfl (.tmp 62) (.tmp 72) 33 rfl w.heap.size 36 i0 z0 Try.underlying33 hi0 hz0 hz2 hz3 hz1 _ la us rfl HW2.out (w2.heap.size + 1) (some ⟨w2.heap.size, 0, none⟩) 1 1 [⟨(num : Int) + d, A7, seg.length, c7⟩] rfl (Sh.lit0 w2 _ ⟨(num : Int) + d, A7, seg.length, c7⟩ _) (by omega) (by rw [alloc_size]; omega) ?_
                         intro v3 w3 ho3 hg3
                         have H3 : Aside _ := And.intro ho3 hg3
                         clear ho3 hg3))
                    go_roundw
                    case rel =>
                      obtain ⟨hrow, hmx, hbr, hgo, hst, _⟩ := HX.out
                      obtain ⟨ho2, hw2⟩ := H2.out
                      obtain ⟨ho3, hg3⟩ := H3.out
                      have hal := alloc_below w2 (.cells #[.int .i64 ((num : Int) + d), .slice A7 seg.length c7] 36)
                      have hwa : Below wr.heap.size wr (w2.alloc (.cells #[.int .i64 ((num : Int) + d), .slice A7 seg.length c7] 36)) := hw2.trans (hal.mono hw2.size)
                      refine ⟨f', at_ + k + s, num + d, acc ++ [(((num + d : Nat) : Int), seg)], us ++ [⟨(num : Int) + d, A7, seg.length, c7⟩], by omega, by omega, ?_, by go_num, by go_num, ?_, ?_, (hbr.trans (hwa.mono hbr.size)).grown hg3 (by have := hwa.size; omega) (own_ge hrow), (show Aside _ from ?_)⟩
                      · rw [List.length_append, HLA.out]; show la + 1 ≤ 24; omega
                      · rw [List.length_append, HLA.out]; exact ho3
                      · have m1 := (hmx.below hwa hbr.size)
                        have i1 : InS (w2.alloc (.cells #[.int .i64 ((num : Int) + d), .slice A7 seg.length c7] 36)) w.heap.size ⟨(num : Int) + d, A7, seg.length, c7⟩ seg := (InS.of_own ho2).below hal (by omega)
                        exact (m1.push (x := (((num + d : Nat) : Int), seg)) (by show (num : Int) + d = _; omega) i1).grown HW2.out hg3 (by rw [alloc_size]; omega)
                      · refine ⟨?_, by have := hgo.out.2; omega⟩
                        rw [← hgo.out.1, HQ.out, HS.out.1.2]
                    case measure => simp [intOf]; omega
                  · rw [if_neg hck] at hcut
                    have HS : Aside ((seg.length = s ∧ seg = (l.drop (at_ + k)).take s) ∧ ∀ m, Bs (wr.drewN m) B (some ⟨b, off + (at_ + k), none⟩) s seg) := And.intro (And.intro hsg hseg) (fun m => hcut m _ (by rw [Option.map_some, Addr.add_lit]))
                    clear hrow hmx hbr hgo hst hcell hx hq hone hla hxx hk2 hlnn hcut hsg hcs hseg
                    go_wp2_with (first
                      | (go_at_call 74; with_reducible refine hbeg.mono ?_; rintro e w1 ⟨⟨m1, rfl⟩, rfl⟩)
                      | (go_at_call 31
                         with_reducible refine (bclone_f _ s _ seg (wr.drewN m1) B (HS.out.2 m1) (hBm m1) hsI).mono ?_
                         rintro e w2 ⟨v2, rfl, ho2, b2⟩
                         obtain ⟨A7, c7, rfl, _, _⟩ := Bs.of_own ho2
                         have hw2 : Below wr.heap.size wr w2 := (drewN_below wr _ m1).trans (b2.mono (Nat.le_refl _))
                         have hsz2 := hw2.size
                         have hszr := HX.out.2.2.1.size
                         have HW2 := Lib.hid ((row_below HX.out.1 hw2).alloc (.cells #[.int .i64 ((num : Int) + d), .slice A7 seg.length c7] 36))
                         have H2 : Aside _ := And.intro (row_mono ho2 hszr) hw2
                         clear ho2 b2 hw2)
                      | (at_builtin
                         refine wpList_append_svs _ rfl (.tmp 62) (.tmp 72) 33 rfl w.heap.size 36 i0 z0 Try.underlying33 hi0 hz0 hz2 hz3 hz1 _ la us rfl HW2.out (w2.heap.size + 1) (some ⟨w2.heap.size, 0, none⟩) 1 1 [⟨(num : Int) + d, A7, seg.length, c7⟩] rfl (Sh.lit0 w2 _ ⟨(num : Int) + d, A7, seg.length, c7⟩ _) (by omega) (by rw [alloc_size]; omega) ?_
                         intro v3 w3 ho3 hg3
                         have H3 : Aside _ := And.intro ho3 hg3
                         clear ho3 hg3))
                    go_roundw
                    case rel =>
                      obtain ⟨hrow, hmx, hbr, hgo, hst, _⟩ := HX.out
                      obtain ⟨ho2, hw2⟩ := H2.out
                      obtain ⟨ho3, hg3⟩ := H3.out
                      have hal := alloc_below w2 (.cells #[.int .i64 ((num : Int) + d), .slice A7 seg.length c7] 36)
                      have hwa : Below wr.heap.size wr (w2.alloc (.cells #[.int .i64 ((num : Int) + d), .slice A7 seg.length c7] 36)) := hw2.trans (hal.mono hw2.size)
                      refine ⟨f', at_ + k + s, num + d, acc ++ [(((num + d : Nat) : Int), seg)], us ++ [⟨(num : Int) + d, A7, seg.length, c7⟩], by omega, by omega, ?_, by go_num, by go_num, ?_, ?_, (hbr.trans (hwa.mono hbr.size)).grown hg3 (by have := hwa.size; omega) (own_ge hrow), (show Aside _ from ?_)⟩
                      · rw [List.length_append, HLA.out]; show la + 1 ≤ 24; omega
                      · rw [List.length_append, HLA.out]; exact ho3
                      · have m1 := (hmx.below hwa hbr.size)
                        have i1 : InS (w2.alloc (.cells #[.int .i64 ((num : Int) + d), .slice A7 seg.length c7] 36)) w.heap.size ⟨(num : Int) + d, A7, seg.length, c7⟩ seg := (InS.of_own ho2).below hal (by omega)
                        exact (m1.push (x := (((num + d : Nat) : Int), seg)) (by show (num : Int) + d = _; omega) i1).grown HW2.out hg3 (by rw [alloc_size]; omega)
                      · refine ⟨?_, by have := hgo.out.2; omega⟩
                        rw [← hgo.out.1, HQ.out, HS.out.1.2]
                    case measure => simp [intOf]; omega
    · obtain rfl : at_ = n := by omega
      have hst : rdGo l (f' + 1) at_ num acc = (acc, at_, 0) := by rw [rdGo, List.getElem?_eq_none (by have := HB.out.2; omega)]
      have HX : Aside _ := And.intro hrow (And.intro hmx (And.intro hbr (And.intro hgo hst)))
      clear hrow hmx hbr hgo hst
      go_wp2
      go_ret3
      obtain ⟨hrow, hmx, hbr, hgo, hst⟩ := HX.out
      have hr := hgo.out.1
      rw [hst] at hr
      obtain ⟨A5, c5, rfl, hc5, hos5⟩ := hmx.os hrow hbr.size
      rw [← hr]
      exact ⟨A5, _, c5, us, rfl, hc5, row_cap hrow, rfl, hos5, hbr, fresh_own hrow⟩
theorem read_f (A : Option Addr) (n c : Nat) (l : List UInt8) (w : World) (B : Nat) (hbs : Bs w B A n l) (hB : B ≤ w.heap.size) (hc : n ≤ c) (hcI : (c : Int) ≤ 9223372036854775807) (hnI : (n : Int) ≤ 140737488355328) :
    Calls Try.prog 43 #[.slice A n c] w (RdRet (rdO l) w) := (readF_f A n c l w B hbs hB hc hcI hnI).mono RdRetF.weak
end Go.Proofs.Ytfbddldcbjhmiaa
