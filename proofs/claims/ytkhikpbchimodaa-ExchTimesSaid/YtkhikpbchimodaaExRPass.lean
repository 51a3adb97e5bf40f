/-
  The document's table of exchanges: all that is to be sent up to a time.
-/
import Derived.Test.YtkhikpbchimodaaExRStart
import Derived.Test.YtkhikpbchimodaaExPass
import Derived.Deep.CutBlock
namespace Go.Proofs.Ytkhikpbchimodaa
open Go.RowKit
set_option maxRecDepth 100000
set_option maxRecDepth 100000
set_option linter.unusedVariables false
def stepX (rs : List Xr) (f : Nat) (s : Xr) : List Xr := if s.q.g = 4 then rs.eraseIdx f else rs.set f ⟨nextX s.q, s.A, s.n, s.c⟩
theorem stepX_map (rs : List Xr) (f : Nat) (s : Xr) : (stepX rs f s).map Xr.q = stepQ (rs.map Xr.q) f s.q := by
  unfold stepX stepQ
  split
  · exact map_erase _ _ _
  · rw [List.map_set]
def stT (rs : List Xr) (f : Nat) (s : Xr) (k : Nat) : List Xr := if f < k then stepX (rs.take k) f s else rs.take k
theorem stT_next {rs : List Xr} {f k : Nat} {s x : Xr} (hf : rs[f]? = some s) (hx : rs[k]? = some x) : stT rs f s (k + 1) = stT rs f s k ++ (if k = f then (if s.q.g = 4 then [] else [⟨nextX s.q, s.A, s.n, s.c⟩]) else [x]) := by
  have hkl := (List.getElem?_eq_some_iff.1 hx).1
  have htl : (rs.take k).length = k := by rw [List.length_take]; omega
  have ht : rs.take (k + 1) = rs.take k ++ [x] := by rw [List.take_add_one, hx]; rfl
  unfold stT
  rw [ht]
  rcases (by omega : k < f ∨ k = f ∨ f < k) with h | h | h
  · rw [if_neg (by omega), if_neg (by omega), if_neg (by omega)]
  · subst h
    rw [hf] at hx
    obtain rfl := Option.some.inj hx
    rw [if_pos (by omega), if_neg (by omega), if_pos rfl]
    unfold stepX
    split
    · rw [List.append_nil, List.eraseIdx_append_of_length_le (by omega), htl, Nat.sub_self]; simp
    · rw [List.set_append_right _ _ (by omega), htl, Nat.sub_self]; rfl
  · rw [if_pos (by omega), if_pos h, if_neg (by omega)]
    unfold stepX
    split
    · rw [List.eraseIdx_append_of_lt_length (by omega)]
    · rw [List.set_append_left _ _ (by omega)]
theorem stT_zero (rs : List Xr) (f : Nat) (s : Xr) : stT rs f s 0 = [] := by unfold stT; rw [if_neg (by omega)]; rfl
theorem stT_all {rs : List Xr} {f n : Nat} {s : Xr} (hf : f < n) (hn : rs.length = n) : stT rs f s n = stepX rs f s := by
  unfold stT; rw [if_pos hf, List.take_of_length_le (by omega)]
theorem stT_len (rs : List Xr) (f : Nat) (s : Xr) (k : Nat) : (stT rs f s k).length ≤ k := by
  unfold stT stepX
  split
  · split
    · refine Nat.le_trans (List.length_eraseIdx_le _ _) ?_; rw [List.length_take]; omega
    · rw [List.length_set, List.length_take]; omega
  · rw [List.length_take]; omega
theorem stT_mem {rs : List Xr} {f : Nat} {s : Xr} {k : Nat} {y : Xr} (hy : y ∈ stT rs f s k) : y ∈ rs ∨ (y.A = s.A ∧ y.n = s.n ∧ y.c = s.c ∧ y.q.l = s.q.l) := by
  unfold stT stepX at hy
  split at hy
  · split at hy
    · exact .inl (List.mem_of_mem_take (List.mem_of_mem_eraseIdx hy))
    · rcases List.mem_or_eq_of_mem_set hy with hy | rfl
      · exact .inl (List.mem_of_mem_take hy)
      · exact .inr ⟨rfl, rfl, rfl, rfl⟩
  · exact .inl (List.mem_of_mem_take hy)
def ssT (ss : List Sr) (f : Nat) (s : Xr) (k : Nat) : List Sr := if f < k then ss ++ [⟨sentOf s.q, s.A, s.n, s.c⟩] else ss
def RPassPost (w : World) (B : Nat) (T : Int) (qs : List Xq) (e : Ending) (w' : World) : Prop :=
  ∃ A c rs' A2 c2 ss, e = .returned (.tuple #[.agg #[.slice A (List.length rs') c, .int .i64 T], .slice A2 (List.length ss) c2]) ∧ Below w.heap.size w w' ∧ RtAt w' B (.slice A (List.length rs') c) rs' ∧ SsAt w' B 73 (.slice A2 (List.length ss) c2) ss ∧ rs'.map Xr.q = (passed qs T).2 ∧ ss.map Sr.q = (passed qs T).1
/-- At the head of each round. -/
structure RpS (w : World) (B s1 : Nat) (T : Int) (qs : List Xq) (gg : Nat) (A6 : Option Addr) (c6 : Nat) (ss : List Sr) (A : Option Addr) (c : Nat) (rs' : List Xr) (W : World) : Prop where
  bel : Below w.heap.size w W
  big : s1 ≤ W.heap.size
  box : W.heap[w.heap.size]? = some (.cells #[.slice A (List.length rs') c, .int .i64 T] 29)
  res : W.heap[w.heap.size + 1]? = some (.cells #[.slice none 0 0, .int .i64 0] 29)
  rt : RtAt W B (.slice A (List.length rs') c) rs'
  out : W.ownsRow s1 73 4 (.slice A6 (List.length ss) c6) (List.length ss) (srK.all ss)
  each : ∀ s ∈ ss, Ob W B s.A s.n s.c s.q.l
  left : pot (rs'.map Xr.q) ≤ gg
  some_ : List.length ss + pot (rs'.map Xr.q) ≤ 20
  sum : passed qs T = (ss.map Sr.q ++ (passed (rs'.map Xr.q) T).1, (passed (rs'.map Xr.q) T).2)
theorem RpS.below {w W W' : World} {B s1 : Nat} {T : Int} {qs : List Xq} {gg : Nat} {A6 : Option Addr} {c6 : Nat} {ss : List Sr} {A : Option Addr} {c : Nat} {rs' : List Xr} (h : RpS w B s1 T qs gg A6 c6 ss A c rs' W) (hb : Below W.heap.size W W') : RpS w B s1 T qs gg A6 c6 ss A c rs' W' :=
  ⟨h.bel.trans (hb.mono h.bel.size), Nat.le_trans h.big hb.size, (hb.block _ (Array.getElem?_eq_some_iff.1 h.box).1).trans h.box, (hb.block _ (Array.getElem?_eq_some_iff.1 h.res).1).trans h.res, h.rt.below hb, rk_below h.out hb, fun s hs => (h.each s hs).below hb, h.left, h.some_, h.sum⟩
theorem rk_then {w w1 w2 : World} {row row' : Option Nat} (a : w.grownBy w1 row) (b : w1.grownBy w2 row') (h : ∀ k, row' = some k → w.heap.size ≤ k) : w.grownBy w2 row :=
  ⟨b.os.trans a.os, b.tape.trans a.tape, b.output.trans a.output, Nat.le_trans a.size b.size, fun k hk hne => (b.block k (Nat.lt_of_lt_of_le hk a.size) (fun e => by have := h k e.symm; omega)).trans (a.block k hk hne)⟩
/-- In the midst of a round: the rows that grow. -/
structure RpI (w5 : World) (row : Option Nat) (s1 : Nat) (v9 : Value) (l9 : List Xr) (v6 : Value) (l6 : List Sr) (W : World) : Prop where
  fr : w5.grownBy W row
  all : W.ownsRow w5.heap.size 68 6 v9 (List.length l9) (onK.all l9)
  out : W.ownsRow s1 73 4 v6 (List.length l6) (srK.all l6)
section
variable {w5 W W' : World} {row : Option Nat} {s1 : Nat} {v9 v6 : Value} {l9 : List Xr} {l6 : List Sr}
theorem RpI.below (h : RpI w5 row s1 v9 l9 v6 l6 W) (hb : Below W.heap.size W W') : RpI w5 row s1 v9 l9 v6 l6 W' :=
  ⟨rk_then h.fr (rk_grown none hb) (fun k e => by cases e), rk_below h.all hb, rk_below h.out hb⟩
/-- A variable that is newer than the round is written. -/
theorem RpI.vset (h : RpI w5 row s1 v9 l9 v6 l6 W) {b : Nat} {cs : Array Value} (hb : W.heap[b]? = some (.cells cs 68)) (hw : w5.heap.size ≤ b) (h9 : v9.ownBlock ≠ some b) (j : Nat) (u : Value) : RpI w5 row s1 v9 l9 v6 l6 (W.setCell ⟨b, j, none⟩ u) := by
  have hg : W.grownBy (W.setCell ⟨b, j, none⟩ u) (some b) := ⟨rfl, rfl, rfl, by simp [World.setCell], fun k _ hk => heap_setCell_other W ⟨b, j, none⟩ k u (fun e => hk (by rw [show k = b from by first | exact e | exact e.symm]))⟩
  refine ⟨rk_then h.fr hg (fun k e => by obtain rfl := Option.some.inj e; exact hw), h.all.kept hg (.inr h9), h.out.kept hg (.inr (rk_ne h.out hb (by decide)))⟩
theorem RtAt.kept {w w' : World} {B s m : Nat} {v u : Value} {rs : List Xr} {xs : List Value} (h : RtAt w B v rs) (ho : w.ownsRow s 73 4 u m xs) (hg : w.grownBy w' u.ownBlock) : RtAt w' B v rs :=
  ⟨h.row.kept hg (rk_apart h.row ho (by decide)), fun s hs => ⟨(h.each s hs).1.kept hg (rk_apart (h.each s hs).1 ho (by decide)), (h.each s hs).2⟩, h.good⟩
end
theorem own_tset1 {w : World} {k : Nat} {cs : Array Value} {base sz n : Nat} {e : TypeId} {v : Value} {xs : List Value} (h : w.ownsRow base e sz v n xs) (hk : w.heap[k]? = some (.cells cs 29)) (he : 29 ≠ e) (j : Nat) (u : Value) : (w.setCell ⟨k, j, none⟩ u).ownsRow base e sz v n xs := by
  have hne := rk_ne h hk he
  refine ⟨h.1, ?_⟩
  rcases h.2 with hn | ⟨g, cap, cur, rfl, hb, hg, rest⟩
  · exact .inl hn
  · exact .inr ⟨g, cap, cur, rfl, hb, (heap_setCell_other w ⟨k, j, none⟩ g u (fun e6 => hne (by rw [show g = k from by first | exact e6 | exact e6.symm]; rfl))).trans hg, rest⟩
theorem RpI.push9 {w5 W w' : World} {row : Option Nat} {s1 : Nat} {v9 v9' v6 : Value} {l9 : List Xr} {l6 : List Sr} {o : Obj} {y : Xr} {n : Nat} (h : RpI w5 row s1 v9 l9 v6 l6 W) (hn : List.length l9 = n) (ho : w'.ownsRow w5.heap.size 68 6 v9' (n + 1) (onK.all (l9 ++ [y]))) (hg : (W.alloc o).grownBy w' v9.ownBlock) : RpI w5 row s1 v9' (l9 ++ [y]) v6 l6 w' := by
  have ha := h.below (alloc_below W o)
  refine ⟨rk_then ha.fr hg (fun k e => (ha.all.lt k e).1), ?_, ha.out.kept hg (rk_apart ha.out ha.all (by decide))⟩
  rw [List.length_append, hn]; exact ho
theorem RpI.push6 {w5 W w' : World} {s1 : Nat} {v9 v6 v6' : Value} {l9 : List Xr} {l6 : List Sr} {o : Obj} {y : Sr} {n : Nat} (h : RpI w5 v6.ownBlock s1 v9 l9 v6 l6 W) (hn : List.length l6 = n) (ho : w'.ownsRow s1 73 4 v6' (n + 1) (srK.all (l6 ++ [y]))) (hg : (W.alloc o).grownBy w' v6.ownBlock) : RpI w5 v6.ownBlock s1 v9 l9 v6' (l6 ++ [y]) w' := by
  have ha := h.below (alloc_below W o)
  refine ⟨rk_trans ha.fr hg, ha.all.kept hg (rk_apart ha.all ha.out (by decide)), ?_⟩
  rw [List.length_append, hn]; exact ho
theorem own_tset {w : World} {k : Nat} {cs : Array Value} {base sz n : Nat} {e : TypeId} {v : Value} {xs : List Value} (h : w.ownsRow base e sz v n xs) (hk : w.heap[k]? = some (.cells cs 29)) (he : 29 ≠ e) (us : List Value) : (w.setCells k 0 us).ownsRow base e sz v n xs := by
  have hne := rk_ne h hk he
  refine ⟨h.1, ?_⟩
  rcases h.2 with hn | ⟨g, cap, cur, rfl, hb, hg, rest⟩
  · exact .inl hn
  · exact .inr ⟨g, cap, cur, rfl, hb, (heap_setCells_other k g (fun e6 => hne (by rw [e6]; rfl)) us 0 w).trans hg, rest⟩
set_option maxHeartbeats 32000000 in
theorem rpass_f (A : Option Addr) (n c : Nat) (rs : List Xr) (now : Int) (w : World) (B : Nat) (h : RtAt w B (.slice A n c) rs) (hB : B ≤ w.heap.size) (h0 : 0 ≤ now ∧ now ≤ 1099511627776) (x : Int) :
    Calls Try.prog 15 #[.agg #[.slice A n c, .int .i64 now], .int .i64 x] w (RPassPost w B (tellT now x) (rs.map Xr.q)) := by
  obtain ⟨i0, hi0, hz0, hz1, hz2⟩ := info_parts info_on
  obtain ⟨j0, hj0, hy0, hy1, hy2⟩ := info_parts info_rs
  obtain ⟨A', c', hv, hnc, hcm, hah⟩ := h.open_
  injection hv with e1 e2 e3
  subst e1 e2 e3
  have hlat := fun W => rlater_f A rs.length c now x W h0.1
  have hT := tellT_in (x := x) h0
  generalize tellT now x = T at *
  have hl5 : List.length rs ≤ 4 := h.few
  obtain ⟨n, hn⟩ : ∃ n, rs.length = n := ⟨_, rfl⟩
  have HH := Lib.hid (And.intro h (And.intro hn hT))
  rw [hn] at hlat
  rw [hn]
  have HL := Lib.hid hlat
  clear h hlat hnc hcm hah hT
  go_enter Try.func15, Try.ntmps15
  go_upto_region 1 with fail
  refine wp_at_world (F := fun W => Below w.heap.size w W ∧ W.heap[w.heap.size]? = some (.cells #[.slice A n c, .int .i64 now] 29) ∧ W.heap[w.heap.size + 1]? = some (.cells #[.slice none 0 0, .int .i64 0] 29)) ⟨((Below.refl _ _).alloc (Nat.le_refl _) _).alloc (by rw [alloc_size]; omega) _, heap_alloc2_old w _ _, heap_alloc2_new w _ _⟩ fun w1 ⟨b1, x0, x1⟩ => ?_
  have hr1 := range_here [.slice A n c, .int .i64 now] x0 rfl
  have H1 := Lib.hid (And.intro b1 (And.intro x0 x1))
  clear b1 x0 x1
  go_wp2_with (refine wpList_load_mid rfl 29 (.tmp 2) rfl w.heap.size 0 rfl [.slice A n c, .int .i64 now] _ hr1 Try.underlying29 rfl size_rt ?_)
  refine (HL.out w1).mono ?_
  rintro e w2 ⟨rfl, b2⟩
  have x0 := (b2.block _ (Array.getElem?_eq_some_iff.1 H1.out.2.1).1).trans H1.out.2.1
  have x1 := (b2.block _ (Array.getElem?_eq_some_iff.1 H1.out.2.2).1).trans H1.out.2.2
  have hth := there_here (n := 2) x0 rfl
  have H2 := Lib.hid (And.intro (H1.out.1.trans (b2.mono H1.out.1.size)) (And.intro x0 x1))
  clear b2 x0 x1 hr1
  go_upto_region 2 with (refine wpList_store_mid rfl 29 (.tmp 2) (.tmp 15) rfl w.heap.size 0 (List.toArray [.slice A n c, .int .i64 T]) rfl rfl hth size_rt (all_oneCell_toArray (two_one _ _ _ _)) ?_)
  refine wp_at_world (F := fun W => Below w.heap.size w W ∧ W.heap[w.heap.size]? = some (.cells #[.slice A n c, .int .i64 T] 29) ∧ W.heap[w.heap.size + 1]? = some (.cells #[.slice none 0 0, .int .i64 0] 29)) ⟨below_set H2.out.1 (Nat.le_refl _) _, set_here [.slice A n c, .int .i64 T] H2.out.2.1 rfl, (heap_setCells_other w.heap.size (w.heap.size + 1) (by omega) _ 0 w2).trans H2.out.2.2⟩ fun w3 ⟨b3, x0, x1⟩ => ?_
  have hs3 := (Array.getElem?_eq_some_iff.1 x1).1
  have H3 := Lib.hid (And.intro b3 (And.intro x0 x1))
  clear b3 x0 x1 hth
  go_upto_region 3 with fail
  refine wp_at_world (F := fun W => RpS w B w3.heap.size T (rs.map Xr.q) (pot (rs.map Xr.q)) (some ⟨w3.heap.size, 0, none⟩) 0 [] A c rs W) (by
    have hb : Below w3.heap.size w3 (w3.alloc (.cells #[] 73)) := alloc_below _ _
    have hbw := H3.out.1.trans (hb.mono H3.out.1.size)
    have hrt := HH.out.1.below hbw
    refine ⟨hbw, hb.size, ?_, (hb.block _ hs3).trans H3.out.2.2, hrt, rk_empty w3 _ (Nat.le_refl _) _ _, (fun s hs => by cases hs), Nat.le_refl _, ?_, rfl⟩
    · rw [HH.out.2.1]; exact (hb.block _ (by omega)).trans H3.out.2.1
    · have := pot_le (qs := rs.map Xr.q)
      rw [List.length_map] at this
      show 0 + pot (rs.map Xr.q) ≤ 20; omega) fun w4 h4 => ?_
  have H4 := Lib.hid h4
  clear h4
  go_loopg [6] (pot (rs.map Xr.q)) (fun gg v6 wr => ∃ (A6 : Option Addr) (c6 : Nat) (ss : List Sr) (A : Option Addr) (c : Nat) (rs' : List Xr), v6 = .slice A6 (List.length ss) c6 ∧ Aside (RpS w B w3.heap.size T (rs.map Xr.q) gg A6 c6 ss A c rs' wr))
  case atStart => exact ⟨_, 0, [], A, c, rs, rfl, H4.out⟩
  case round =>
    obtain ⟨A6, c6, ss, A1, c1, rs1, rfl, hrel⟩ := hrel
    have hbx := hrel.out.box
    have hrs := hrel.out.res
    have hrt := hrel.out.rt
    obtain ⟨A', c', hv, hnc, hcm, hah⟩ := hrt.open_
    injection hv with e1 e2 e3
    subst e1 e3
    clear e2
    have hfew := hrt.few
    obtain ⟨m, hm⟩ : ∃ m, List.length rs1 = m := ⟨_, rfl⟩
    obtain ⟨L, hL⟩ : ∃ L, List.length ss = L := ⟨_, rfl⟩
    have HR := Lib.hid (And.intro hrel.out (And.intro hm hL))
    rw [hm] at hbx hfew hnc hah
    rw [hL]
    have hnext := rnext_f A1 m c1 rs1 T wr hah (by omega) hnc
    have hrg := range_here [.slice A1 m c1, .int .i64 T] hbx rfl
    have hmI : (m : Int) ≤ 4 := by omega
    have hmcI : (m : Int) ≤ c1 := by omega
    have hcmI : (c1 : Int) ≤ 9223372036854775807 := by unfold maxLen at hcm; omega
    have HN := Lib.hid hnext
    have HBX := Lib.hid (And.intro hbx hrs)
    clear hrel hbx hrs hrt hnext hL
    go_wp2_with (refine wpList_load_mid rfl 29 (.tmp 2) rfl w.heap.size 0 rfl [.slice A1 m c1, .int .i64 T] _ hrg Try.underlying29 rfl size_rt ?_)
    refine HN.out.mono ?_
    rintro e w5 ⟨hnx, b5⟩
    have hR5 := HR.out.1.below b5
    have hbx5 := hR5.box
    rw [HR.out.2.1] at hbx5
    have d1 : w5.cell? ⟨w.heap.size, 1, none⟩ = some (.int .i64 T) := by rw [cell_of_row _ _ _ _ _ _ hbx5]; rfl
    have d0 : w5.cell? ⟨w.heap.size, 0, none⟩ = some (.slice A1 m c1) := by rw [cell_of_row _ _ _ _ _ _ hbx5]; rfl
    have hrg5 := range_here [.slice A1 m c1, .int .i64 T] hbx5 rfl
    have hth5 := there_here (n := 2) hR5.res rfl
    have H5 := Lib.hid (And.intro hR5 hbx5)
    clear hbx5 b5 hrg
    have HEND : Hid (passed (rs1.map Xr.q) T = ([], rs1.map Xr.q) → RPassPost w B T (rs.map Xr.q) (.returned (.tuple #[.agg #[.slice A1 m c1, .int .i64 T], .slice A6 L c6])) (w5.setCells (w.heap.size + 1) 0 [.slice A1 m c1, .int .i64 T])) := fun hp => by
      have hsum := H5.out.1.sum
      rw [hp, List.append_nil] at hsum
      refine ⟨A1, c1, rs1, A6, c6, ss, by rw [HR.out.2.1, HR.out.2.2], below_set H5.out.1.bel (Nat.le_succ _) _, H5.out.1.rt.setTs H5.out.1.res _, ⟨?_, fun s hs => ?_⟩, by rw [hsum], by rw [hsum]⟩
      · exact own_tset (rk_mono H5.out.1.out (show B ≤ w3.heap.size by omega)) H5.out.1.res (by decide) _
      · exact ⟨own_tset (H5.out.1.each s hs).1 H5.out.1.res (by decide) _, (H5.out.1.each s hs).2⟩
    cases hq : (rs1.map Xr.q)[fstQ (rs1.map Xr.q)]? with
    | none =>
      rw [hq] at hnx
      obtain rfl := hnx
      have hnil : rs1.map Xr.q = [] := by
        cases hr : rs1.map Xr.q with
        | nil => rfl
        | cons a qs =>
          rw [hr] at hq
          have := fstQ_lt (qs := a :: qs) (by simp)
          rw [List.getElem?_eq_getElem this] at hq; cases hq
      have hpn : passed (rs1.map Xr.q) T = ([], rs1.map Xr.q) := by rw [hnil]; rfl
      clear hq hnil
      try dsimp only
      have hfin := HEND.out hpn
      have HFIN := Lib.hid hfin
      clear hfin
      go_wp2_with (first
        | (refine wpList_load_mid rfl 29 (.tmp 2) rfl w.heap.size 0 rfl [.slice A1 m c1, .int .i64 T] _ hrg5 Try.underlying29 rfl size_rt ?_)
        | (refine wpList_store_mid rfl 29 (.tmp 4) (.tmp 30) rfl (w.heap.size + 1) 0 (List.toArray [.slice A1 m c1, .int .i64 T]) rfl rfl hth5 size_rt (all_oneCell_toArray (two_one _ _ _ _)) ?_))
      have h9 := set_here [.slice A1 m c1, .int .i64 T] H5.out.1.res rfl
      refine bodyPost_ret (results_cell_tmp_mid rfl _ _ (w.heap.size + 1) 0 [.slice A1 m c1, .int .i64 T] _ rfl (range_here _ h9 rfl) Try.underlying29 rfl size_rt) rfl ?_
      exact HFIN.out
    | some q =>
      rw [hq] at hnx
      obtain rfl := hnx
      skip
      try dsimp only
      by_cases hu : q.u ≤ T
      · have huI : ¬ T < q.u := by omega
        obtain ⟨f, hf⟩ : ∃ f, fstQ (rs1.map Xr.q) = f := ⟨_, rfl⟩
        have hfirst := fstQ_first hq
        have hqf := hq
        rw [hf] at hfirst hqf
        obtain ⟨s, hs⟩ : ∃ s, rs1[f]? = some s := by
          rw [List.getElem?_map] at hqf
          cases hx : rs1[f]? with
          | none => rw [hx] at hqf; cases hqf
          | some s => exact ⟨s, rfl⟩
        have hsq : s.q = q := by rw [List.getElem?_map, hs] at hqf; exact Option.some.inj hqf
        subst hsq
        have hfm : f < m := by rw [← HR.out.2.1]; exact (List.getElem?_eq_some_iff.1 hs).1
        have hok := H5.out.1.rt.good.ok s.q (List.mem_map_of_mem (List.mem_of_getElem? hs))
        have hps := passed_go (now := T) H5.out.1.rt.good.g hq hu
        have hpt := pot_step hq hok.2.2.1
        rw [hf, ← stepX_map] at hps hpt
        have hgstep := H5.out.1.rt.good.step hqf
        rw [← stepX_map] at hgstep
        have HS := Lib.hid (And.intro hs (And.intro hfirst (And.intro hok (And.intro hps (And.intro hpt hgstep)))))
        clear hq hqf hf hs hfirst hok hps hpt hgstep
        go_upto_region 9 with fail
        refine wp_at_world (F := fun W => Below w5.heap.size w5 W ∧ W.ownsRow w5.heap.size 68 6 (.slice (some ⟨w5.heap.size, 0, none⟩) 0 0) 0 []) ⟨alloc_below _ _, rk_empty w5 _ (Nat.le_refl _) _ _⟩ fun w6 ⟨b6, o6⟩ => ?_
        have hI6 : RpI w5 (Value.slice A6 L c6).ownBlock w3.heap.size (.slice (some ⟨w5.heap.size, 0, none⟩) 0 0) [] (.slice A6 L c6) ss w6 := by
          have := H5.out.1.out
          rw [HR.out.2.2] at this
          exact ⟨rk_grown _ b6, o6, by rw [HR.out.2.2]; exact rk_below this b6⟩
        have H6 := Lib.hid hI6
        clear b6 o6 hI6 d0 d1 hrg5 hth5
        have hL20 : L + 1 ≤ 20 := by have := H5.out.1.some_; have := HS.out.2.2.2.2.1; have := HR.out.2.2; omega
        have hout5 : w5.ownsRow w3.heap.size 73 4 (.slice A6 L c6) L (srK.all ss) := by have := H5.out.1.out; rw [HR.out.2.2] at this; exact this
        have H55 := Lib.hid hout5
        clear hout5
        obtain ⟨wo, rfl⟩ : ∃ wo : World, wo = wr := ⟨_, rfl⟩
        go_loopw [6, 9, 10, 11] (fun v6 v9 v10 iv wz => ∃ (k : Nat) (A9 : Option Addr) (c9 : Nat) (A7 : Option Addr) (c7 : Nat), k ≤ m ∧ iv = .int .i64 (k : Int) ∧ v10 = .bool (decide (f < k)) ∧ v9 = .slice A9 (List.length (stT rs1 f s k)) c9 ∧ v6 = .slice A7 (List.length (ssT ss f s k)) c7 ∧ Aside (RpI w5 (Value.slice A6 L c6).ownBlock w3.heap.size v9 (stT rs1 f s k) v6 (ssT ss f s k) wz ∧ (k ≤ f → v6 = .slice A6 L c6))) (fun _ _ _ iv _ => m - (intOf iv).toNat)
        case atStart => exact ⟨0, _, 0, A6, c6, Nat.zero_le _, rfl, by rw [decide_eq_false (by omega)], by rw [stT_zero]; rfl, by rw [← HR.out.2.2] <;> rfl, by rw [stT_zero]; exact H6.out, fun _ => by rw [← HR.out.2.2] <;> rfl⟩
        case round =>
          obtain ⟨k, A9, c9, A7, c7, hk, rfl, rfl, rfl, rfl, hI⟩ := hrel
          have hI0 := hI.out.1
          have hfr := hI0.fr
          have hrtz := H5.out.1.rt.kept H55.out hfr
          have hblk : ∀ (j : Nat) (cs : Array Value), w5.heap[j]? = some (.cells cs 29) → wr.heap[j]? = w5.heap[j]? := fun j cs hj => hfr.block j (Array.getElem?_eq_some_iff.1 hj).1 (fun e => rk_ne H55.out hj (by decide) e.symm)
          have hbxz := (hblk _ _ H5.out.2).trans H5.out.2
          have hrsz := (hblk _ _ H5.out.1.res).trans H5.out.1.res
          have d0 : wr.cell? ⟨w.heap.size, 0, none⟩ = some (.slice A1 m c1) := by rw [cell_of_row _ _ _ _ _ _ hbxz]; rfl
          obtain ⟨n9, hn9⟩ : ∃ n9, List.length (stT rs1 f s k) = n9 := ⟨_, rfl⟩
          obtain ⟨n6, hn6⟩ : ∃ n6, List.length (ssT ss f s k) = n6 := ⟨_, rfl⟩
          have h9k : n9 ≤ k := by rw [← hn9]; exact stT_len _ _ _ _
          have h6k : n6 ≤ 20 ∧ (k ≤ f → n6 = L) := by
            rw [← hn6]
            unfold ssT
            split
            · rw [List.length_append, HR.out.2.2]; exact ⟨by rw [List.length_singleton]; omega, fun h => by omega⟩
            · rw [HR.out.2.2]; exact ⟨by omega, fun _ => rfl⟩
          by_cases hlt : k < m
          · obtain ⟨A', c', hv, _, _, hahz⟩ := hrtz.open_
            injection hv with e1 e2 e3
            subst e1 e3
            clear e2
            rw [HR.out.2.1] at hahz
            obtain ⟨x, hx⟩ := hahz.get hlt
            obtain ⟨b, off, rfl, hb, _⟩ := hahz.place (by omega)
            have hrgx := hahz.range hx
            have hnx := stT_next HS.out.1 hx
            have hkI : (k : Int) < m := by omega
            have hkc : (k : Int) < c1 := by omega
            have hux : k < f → s.q.u < x.q.u := fun hkf => HS.out.2.1 k x.q hkf (by rw [List.getElem?_map, hx]; rfl)
            have hxs : k = f → x = s := fun e => by subst e; rw [HS.out.1] at hx; exact (Option.some.inj hx).symm
            have hsz5 : w5.heap.size ≤ wr.heap.size := hfr.size
            have HIz := Lib.hid (And.intro hI.out (And.intro hnx (And.intro hn9 (And.intro hn6 (And.intro hrtz hrsz)))))
            obtain ⟨⟨xt, xi, xl, xg, xw, xu⟩, xA, xn, xc⟩ := x
            simp only [onK, Xr.ones] at hrgx
            dsimp only at hux
            rw [hn9, hn6]
            clear hI hI0 hfr hrtz hblk hbxz hrsz hnx hn9 hn6 hahz hx
            go_upto_region 12 with (refine wpList_load_mid rfl 68 (.tmp 43) rfl b (off + k * 6) rfl [.int .i64 xt, .int .i64 xi, .slice xA xn xc, .int .i64 xu, .int .i64 xw, .int .i64 (xg : Int)] _ hrgx Try.underlying68 rfl size_on ?_)
            refine wp_at_world (F := fun W => Below wr.heap.size wr W ∧ W.heap[wr.heap.size]? = some (.cells (List.toArray [.int .i64 xt, .int .i64 xi, .slice xA xn xc, .int .i64 xu, .int .i64 xw, .int .i64 (xg : Int)]) 68)) ⟨alloc_below _ _, heap_alloc_new _ _⟩ fun w7 ⟨b7, x7⟩ => ?_
            have hI7 := HIz.out.1.1.below b7
            have hrv := range_here [.int .i64 xt, .int .i64 xi, .slice xA xn xc, .int .i64 xu, .int .i64 xw, .int .i64 (xg : Int)] x7 rfl
            obtain ⟨e0, e1, e2, e3, e4, e5⟩ := on_cells (s := ⟨⟨xt, xi, xl, xg, xw, xu⟩, xA, xn, xc⟩) hrv
            have hwv7 : wr.heap.size < w7.heap.size := (Array.getElem?_eq_some_iff.1 x7).1
            obtain ⟨wv, hwv⟩ : ∃ wv, wr.heap.size = wv := ⟨_, rfl⟩
            rw [hwv] at x7 hrv e0 e1 e2 e3 e4 e5 hwv7 hsz5
            rw [hwv]
            have H9R : Hid (w7.ownsRow w5.heap.size 68 6 (.slice A9 n9 c9) n9 (onK.all (stT rs1 f s k))) := by
              have := hI7.all
              rw [HIz.out.2.2.1] at this; exact this
            have h6r : w7.ownsRow w3.heap.size 73 4 (.slice A7 n6 c7) n6 (srK.all (ssT ss f s k)) := by
              have := hI7.out
              rw [HIz.out.2.2.2.1] at this; exact this
            have h97 : ∀ c2, (Value.slice A9 c2 c9).ownBlock ≠ some wv := fun c2 e => by
              have := (HIz.out.1.1.all.lt wv (by cases A9 <;> exact e)).2
              omega
            have H7N : Hid (RpI w5 (Value.slice A6 L c6).ownBlock w3.heap.size (.slice A9 n9 c9) (stT rs1 f s k) (.slice A7 (List.length (ssT ss f s k)) c7) (ssT ss f s k) w7) := by
              have := hI7
              rw [HIz.out.2.2.1] at this
              exact this
            have H7 := Lib.hid (And.intro hI7 (And.intro x7 (And.intro h6r h97)))
            have hs37 : w3.heap.size ≤ w7.heap.size := Nat.le_trans H5.out.1.big (by omega)
            clear b7 x7 hI7 h6r h97 hrgx hwv
            rcases (by omega : k < f ∨ k = f ∨ f < k) with hc | hc | hc
            · have hdf : decide (f < k) = false := decide_eq_false (by omega)
              have hneu : ¬ xu = s.q.u := by have := hux hc; omega
              rw [hdf]
              go_wp2_with (first
                | (refine wpList_load_mid rfl 68 (.tmp 12) rfl wv 0 rfl [.int .i64 xt, .int .i64 xi, .slice xA xn xc, .int .i64 xu, .int .i64 xw, .int .i64 (xg : Int)] _ hrv Try.underlying68 rfl size_on ?_)
                | (at_builtin; go_loud ((refine onK.append_one w7 rfl (.tmp 52) (.tmp 54) 27 rfl w5.heap.size 68 i0 _ 64 Try.underlying27 hi0 hz0 hz1 hz2 rfl (.slice A9 n9 c9) n9 _ rfl H9R.out ⟨⟨xt, xi, xl, xg, xw, xu⟩, xA, xn, xc⟩ _ rfl _ rfl (by omega) (by unfold maxLen; omega) (by omega) ?_; intro A' c' w' hown hgr; have HW := Lib.hid (And.intro hown hgr); clear hown hgr))))
              go_roundw
              case rel =>
                have hnx := HIz.out.2.1
                rw [if_neg (by omega)] at hnx
                have hI9 := H7N.out.push9 HIz.out.2.2.1 HW.out.1 HW.out.2
                have hse : ssT ss f s (k + 1) = ssT ss f s k := by unfold ssT; rw [if_neg (by omega), if_neg (by omega)]
                refine ⟨k + 1, A', c', A7, c7, by omega, by go_num, by rw [decide_eq_false (by omega)], ?_, ?_, (show Aside _ from ⟨?_, fun _ => ?_⟩)⟩
                · rw [hnx, List.length_append, HIz.out.2.2.1]; rfl
                · rw [hse, HIz.out.2.2.2.1]
                · rw [hse, hnx]
                  have := hI9
                  rw [HIz.out.2.2.2.1] at this
                  exact this
                · have := HIz.out.1.2 (by omega)
                  rw [HIz.out.2.2.2.1] at this
                  exact this
              case measure => simp [intOf]; omega
            · have hdf : decide (f < k) = false := decide_eq_false (by omega)
              have hxs' := hxs hc
              rw [hdf]
              subst hxs'
              subst hc
              have hv6 := HIz.out.1.2 (Nat.le_refl _)
              rw [HIz.out.2.2.2.1] at hv6
              injection hv6 with g1 g2 g3
              subst g1 g2 g3
              have hok := HS.out.2.2.1
              have hwt := hok.wt_le
              obtain ⟨hu0, hu1, hg4, hw0, _⟩ := hok
              dsimp only at hwt hu0 hu1 hg4 hw0
              have hss0 : ssT ss k ⟨⟨xt, xi, xl, xg, xw, xu⟩, xA, xn, xc⟩ k = ss := by unfold ssT; rw [if_neg (by omega)]
              have hss1 : ssT ss k ⟨⟨xt, xi, xl, xg, xw, xu⟩, xA, xn, xc⟩ (k + 1) = ss ++ [⟨sentOf ⟨xt, xi, xl, xg, xw, xu⟩, xA, xn, xc⟩] := by unfold ssT; rw [if_pos (by omega)]
              have HSS := Lib.hid (And.intro hss0 hss1)
              clear hss0 hss1 hux hxs
              have H7P : Hid (RpI w5 (Value.slice A7 n6 c7).ownBlock w3.heap.size (.slice A9 n9 c9) (stT rs1 k ⟨⟨xt, xi, xl, xg, xw, xu⟩, xA, xn, xc⟩ k) (.slice A7 n6 c7) (ssT ss k ⟨⟨xt, xi, xl, xg, xw, xu⟩, xA, xn, xc⟩ k) w7) := by
                have := H7N.out
                rw [HIz.out.2.2.2.1] at this
                exact this
              try dsimp only
              by_cases h4 : xg = 4
              · subst h4
                have hq4 : ((4 : Nat) : Int) = 4 := rfl
                rw [hq4] at e5
                clear hq4
                go_upto_region 16 with (at_builtin; go_loud ((refine srK.append_one w7 rfl (.tmp 56) (.tmp 67) 42 rfl w3.heap.size 73 j0 _ 48 Try.underlying42 hj0 hy0 hy1 hy2 rfl (.slice A7 n6 c7) n6 _ rfl H7.out.2.2.1 ⟨sentOf ⟨xt, xi, xl, 4, xw, xu⟩, xA, xn, xc⟩ _ rfl _ rfl (by omega) (by unfold maxLen; omega) hs37 ?_; intro A8 c8 w8 hown hgr; have x8 := (hgr.block wv (Nat.lt_of_lt_of_le (Array.getElem?_eq_some_iff.1 H7.out.2.1).1 (alloc_below w7 _).size) (fun e => rk_ne H7.out.2.2.1 H7.out.2.1 (by decide) e.symm)).trans (((alloc_below w7 _).block wv (Array.getElem?_eq_some_iff.1 H7.out.2.1).1).trans H7.out.2.1); have e5x : w8.cell? ⟨wv, 5, none⟩ = some (.int .i64 4) := (by rw [cell_of_row _ _ _ _ _ _ x8] <;> rfl); have HW8 := Lib.hid (And.intro (H7P.out.push6 HIz.out.2.2.2.1 hown hgr) x8); clear hown hgr x8)))
                have f8 := e5x
                go_wp2
                go_roundw
                case rel =>
                  have hnx := HIz.out.2.1
                  rw [if_pos rfl, if_pos rfl, List.append_nil] at hnx
                  refine ⟨k + 1, A9, c9, A8, c8, by omega, by go_num, by rw [decide_eq_true (by omega)], ?_, ?_, (show Aside _ from ⟨?_, fun h => by omega⟩)⟩
                  · rw [hnx, HIz.out.2.2.1]
                  · rw [HSS.out.2, ← HSS.out.1, List.length_append, HIz.out.2.2.2.1]; rfl
                  · rw [hnx, HSS.out.2]
                    have := HW8.out.1
                    rw [HSS.out.1] at this
                    exact this
                case measure => simp [intOf]; omega
              · have hqb : ((xg : Int) == 4) = false := beq_eq_false_iff_ne.2 (by omega)
                have hq4 : (xg : Int) < 4 := by omega
                have HCSF : Hid (([.int .i64 xt, .int .i64 xi, .slice xA xn xc, .bool false] : List Value) = srK.vals ⟨sentOf ⟨xt, xi, xl, xg, xw, xu⟩, xA, xn, xc⟩) := by
                  show _ = [Value.int .i64 xt, .int .i64 xi, .slice xA xn xc, .bool (decide (xg = 4))]
                  rw [decide_eq_false h4]
                go_upto_region 16 with (at_builtin; go_loud ((refine srK.append_one w7 rfl (.tmp 56) (.tmp 67) 42 rfl w3.heap.size 73 j0 _ 48 Try.underlying42 hj0 hy0 hy1 hy2 rfl (.slice A7 n6 c7) n6 _ rfl H7.out.2.2.1 ⟨sentOf ⟨xt, xi, xl, xg, xw, xu⟩, xA, xn, xc⟩ _ HCSF.out _ rfl (by omega) (by unfold maxLen; omega) hs37 ?_; intro A8 c8 w8 hown hgr; have x8 := (hgr.block wv (Nat.lt_of_lt_of_le (Array.getElem?_eq_some_iff.1 H7.out.2.1).1 (alloc_below w7 _).size) (fun e => rk_ne H7.out.2.2.1 H7.out.2.1 (by decide) e.symm)).trans (((alloc_below w7 _).block wv (Array.getElem?_eq_some_iff.1 H7.out.2.1).1).trans H7.out.2.1); have e5x : w8.cell? ⟨wv, 5, none⟩ = some (.int .i64 (xg : Int)) := (by rw [cell_of_row _ _ _ _ _ _ x8] <;> rfl); have HW8 := Lib.hid (And.intro (H7P.out.push6 HIz.out.2.2.2.1 hown hgr) x8); clear hown hgr x8)))
                have f8 : ∀ j, w8.frozen? ⟨wv, j, none⟩ = false := fun j => by simp [World.frozen?, HW8.out.2]
                have f85 := f8 5
                have f84 := f8 4
                have f83 := f8 3
                obtain ⟨_, _, _, e38, e48, e58⟩ := on_cells (s := ⟨⟨xt, xi, xl, xg, xw, xu⟩, xA, xn, xc⟩) (range_here [.int .i64 xt, .int .i64 xi, .slice xA xn xc, .int .i64 xu, .int .i64 xw, .int .i64 (xg : Int)] HW8.out.2 rfl)
                have hck : clampN (xu + xw * 2) = addT xu (xw * 2) := by unfold clampN addT; omega
                have hcl := fun W => clock_f (xu + xw * 2) W
                rw [hck] at hcl
                have HCK := Lib.hid hcl
                clear f8 hck hcl e5x
                obtain ⟨un, hun⟩ : ∃ un, addT xu (xw * 2) = un := ⟨_, rfl⟩
                rw [hun] at HCK
                have HUN := Lib.hid hun
                clear hun
                go_upto_region 20 with (go_at_call 30; refine (HCK.out _).mono ?_; rintro e w8' ⟨rfl, hw⟩; obtain rfl := hw.symm)
                have h9b := H7.out.2.2.2 n9
                have hI8 := HW8.out.1
                have y1 := heap_setCell_same w8 wv 5 _ 68 (.int .i64 ((xg : Int) + 1)) HW8.out.2
                have hI81 := hI8.vset HW8.out.2 hsz5 h9b 5 (.int .i64 ((xg : Int) + 1))
                have y2 := heap_setCell_same _ wv 4 _ 68 (.int .i64 (xw * 2)) y1
                have hI82 := hI81.vset y1 hsz5 h9b 4 (.int .i64 (xw * 2))
                have y3 := heap_setCell_same _ wv 3 _ 68 (.int .i64 un) y2
                have hI83 := hI82.vset y2 hsz5 h9b 3 (.int .i64 un)
                refine wp_at_world (F := fun W => W.heap[wv]? = some (.cells #[.int .i64 xt, .int .i64 xi, .slice xA xn xc, .int .i64 un, .int .i64 (xw * 2), .int .i64 ((xg : Int) + 1)] 68) ∧ RpI w5 (Value.slice A7 n6 c7).ownBlock w3.heap.size (.slice A9 n9 c9) (stT rs1 k ⟨⟨xt, xi, xl, xg, xw, xu⟩, xA, xn, xc⟩ k) (.slice A8 (n6 + 1) c8) (ssT ss k ⟨⟨xt, xi, xl, xg, xw, xu⟩, xA, xn, xc⟩ k ++ [⟨sentOf ⟨xt, xi, xl, xg, xw, xu⟩, xA, xn, xc⟩]) W ∧ w8.heap.size ≤ W.heap.size) ⟨y3, hI83, by simp [World.setCell]⟩ fun w9 ⟨z9, i9, s9⟩ => ?_
                have hrv9 := range_here [.int .i64 xt, .int .i64 xi, .slice xA xn xc, .int .i64 un, .int .i64 (xw * 2), .int .i64 ((xg : Int) + 1)] z9 rfl
                have H9R : Hid (w9.ownsRow w5.heap.size 68 6 (.slice A9 n9 c9) n9 (onK.all (stT rs1 k ⟨⟨xt, xi, xl, xg, xw, xu⟩, xA, xn, xc⟩ k))) := by
                  have := i9.all
                  rw [HIz.out.2.2.1] at this; exact this
                have hsz9 : w5.heap.size ≤ w9.heap.size := Nat.le_trans (Nat.le_trans hsz5 (Nat.le_of_lt (Array.getElem?_eq_some_iff.1 HW8.out.2).1)) s9
                have HI9 := Lib.hid i9
                clear y1 y2 y3 hI8 hI81 hI82 hI83 h9b z9 i9 f85 f84 f83 e38 e48 e58
                go_wp2_with (first
                  | (refine wpList_load_mid rfl 68 (.tmp 12) rfl wv 0 rfl [.int .i64 xt, .int .i64 xi, .slice xA xn xc, .int .i64 un, .int .i64 (xw * 2), .int .i64 ((xg : Int) + 1)] _ hrv9 Try.underlying68 rfl size_on ?_)
                  | (at_builtin; go_loud ((refine onK.append_one w9 rfl (.tmp 87) (.tmp 89) 27 rfl w5.heap.size 68 i0 _ 64 Try.underlying27 hi0 hz0 hz1 hz2 rfl (.slice A9 n9 c9) n9 _ rfl H9R.out ⟨⟨xt, xi, xl, xg + 1, xw * 2, un⟩, xA, xn, xc⟩ _ rfl _ rfl (by omega) (by unfold maxLen; omega) (by omega) ?_; intro A' c' w' hown hgr; have HW := Lib.hid (And.intro hown hgr); clear hown hgr))))
                go_roundw
                case rel =>
                  have hnx := HIz.out.2.1
                  rw [if_pos trivial, if_neg h4] at hnx
                  have hI9 := HI9.out.push9 HIz.out.2.2.1 HW.out.1 HW.out.2
                  refine ⟨k + 1, A', c', A8, c8, by omega, by go_num, by rw [decide_eq_true (by omega)], ?_, ?_, (show Aside _ from ⟨?_, fun h => by omega⟩)⟩
                  · rw [hnx, List.length_append, HIz.out.2.2.1]; rfl
                  · rw [HSS.out.2, ← HSS.out.1, List.length_append, HIz.out.2.2.2.1]; rfl
                  · rw [hnx, HSS.out.2]
                    have := hI9
                    rw [HSS.out.1, ← HUN.out] at this
                    have hl8 : List.length (ss ++ [(⟨sentOf ⟨xt, xi, xl, xg, xw, xu⟩, xA, xn, xc⟩ : Sr)]) = n6 + 1 := by rw [← HSS.out.1, List.length_append, HIz.out.2.2.2.1]; rfl
                    exact this
                case measure => simp [intOf]; omega
            · have hdf : decide (f < k) = true := decide_eq_true (by omega)
              rw [hdf]
              go_wp2_with (first
                | (refine wpList_load_mid rfl 68 (.tmp 12) rfl wv 0 rfl [.int .i64 xt, .int .i64 xi, .slice xA xn xc, .int .i64 xu, .int .i64 xw, .int .i64 (xg : Int)] _ hrv Try.underlying68 rfl size_on ?_)
                | (at_builtin; go_loud ((refine onK.append_one w7 rfl (.tmp 52) (.tmp 54) 27 rfl w5.heap.size 68 i0 _ 64 Try.underlying27 hi0 hz0 hz1 hz2 rfl (.slice A9 n9 c9) n9 _ rfl H9R.out ⟨⟨xt, xi, xl, xg, xw, xu⟩, xA, xn, xc⟩ _ rfl _ rfl (by omega) (by unfold maxLen; omega) (by omega) ?_; intro A' c' w' hown hgr; have HW := Lib.hid (And.intro hown hgr); clear hown hgr))))
              go_roundw
              case rel =>
                have hnx := HIz.out.2.1
                rw [if_neg (by omega)] at hnx
                have hI9 := H7N.out.push9 HIz.out.2.2.1 HW.out.1 HW.out.2
                have hse : ssT ss f s (k + 1) = ssT ss f s k := by unfold ssT; rw [if_pos (by omega), if_pos (by omega)]
                refine ⟨k + 1, A', c', A7, c7, by omega, by go_num, by rw [decide_eq_true (by omega)], ?_, ?_, (show Aside _ from ⟨?_, fun h => by omega⟩)⟩
                · rw [hnx, List.length_append, HIz.out.2.2.1]; rfl
                · rw [hse, HIz.out.2.2.2.1]
                · rw [hse, hnx]
                  have := hI9
                  rw [HIz.out.2.2.2.1] at this
                  exact this
              case measure => simp [intOf]; omega
          · obtain rfl : k = m := by omega
            have hkI : ¬ (k : Int) < k := by omega
            have f0 : wr.frozen? ⟨w.heap.size, 0, none⟩ = false := by simp [World.frozen?, hbxz]
            have hall := stT_all (s := s) hfm HR.out.2.1
            have hsse : ssT ss f s k = ss ++ [⟨sentOf s.q, s.A, s.n, s.c⟩] := by unfold ssT; rw [if_pos hfm]
            have hRp : RpS w B w3.heap.size T (rs.map Xr.q) (gk - 1) A7 c7 (ssT ss f s k) A9 c9 (stT rs1 f s k) (wr.setCell ⟨w.heap.size, 0, none⟩ (.slice A9 (List.length (stT rs1 f s k)) c9)) := by
              have hlo : w.heap.size ≤ w3.heap.size := by omega
              have hbw5 : Below w.heap.size w5 wr := ⟨hfr.os, hfr.tape, hfr.output, hfr.size, fun j hj => hfr.block j (Nat.lt_of_lt_of_le hj H5.out.1.bel.size) (fun e => by have := (H55.out.lt j e.symm).1; omega)⟩
              refine ⟨(H5.out.1.bel.trans hbw5).setCell (Nat.le_refl _) _, Nat.le_trans H5.out.1.big (Nat.le_trans hfr.size (by simp [World.setCell])), heap_setCell_same wr w.heap.size 0 _ 29 _ hbxz, (heap_setCell_other wr ⟨w.heap.size, 0, none⟩ (w.heap.size + 1) _ (by simp)).trans hrsz, ?_, own_tset1 hI0.out hbxz (by decide) _ _, fun y hy => ?_, ?_, ?_, ?_⟩
              · refine ⟨own_tset1 (rk_mono hI0.all (by have := H5.out.1.bel.size; omega)) hbxz (by decide) _ _, fun y hy => ?_, by rw [hall]; exact HS.out.2.2.2.2.2⟩
                rcases stT_mem hy with hy | ⟨g1, g2, g3, g4⟩
                · exact ⟨own_tset1 (hrtz.each y hy).1 hbxz (by decide) _ _, (hrtz.each y hy).2⟩
                · have hse := hrtz.each s (List.mem_of_getElem? HS.out.1)
                  rw [g1, g2, g3, g4]
                  exact ⟨own_tset1 hse.1 hbxz (by decide) _ _, hse.2⟩
              · have hbs : Ob wr B y.A y.n y.c y.q.l := by
                  rw [hsse] at hy
                  rcases List.mem_append.1 hy with hy | hy
                  · have hy5 := H5.out.1.each y hy
                    exact ⟨hy5.1.kept hfr (rk_apart hy5.1 H55.out (by decide)), hy5.2⟩
                  · obtain rfl := List.mem_singleton.1 hy
                    exact hrtz.each s (List.mem_of_getElem? HS.out.1)
                exact ⟨own_tset1 hbs.1 hbxz (by decide) _ _, hbs.2⟩
              · rw [hall]; have := H5.out.1.left; have := HS.out.2.2.2.2.1; omega
              · rw [hall, hsse, List.length_append, List.length_singleton]; have := H5.out.1.some_; have := HS.out.2.2.2.2.1; omega
              · rw [hall, hsse, H5.out.1.sum, HS.out.2.2.2.1, List.map_append, List.append_assoc]; rfl
            have hgk : pot (rs1.map Xr.q) ≤ gk := H5.out.1.left
            have hgk1 : 0 < pot (rs1.map Xr.q) := by have := HS.out.2.2.2.2.1; omega
            have HRP := Lib.hid hRp
            clear hRp hI hI0 hfr hrtz hblk hbxz hrsz hall hsse
            go_wp2
            go_roundg (gk - 1)
            case measure => omega
            case rel =>
              have h := HRP.out
              rw [hn9] at h
              exact ⟨A7, c7, ssT ss f s k, A9, c9, stT rs1 f s k, by rw [hn6], h⟩
      · have huI : T < q.u := by omega
        have hpn := passed_stop hq hu
        clear hq
        have hfin := HEND.out hpn
        have HFIN := Lib.hid hfin
        clear hfin
        go_wp2_with (first
          | (refine wpList_load_mid rfl 29 (.tmp 2) rfl w.heap.size 0 rfl [.slice A1 m c1, .int .i64 T] _ hrg5 Try.underlying29 rfl size_rt ?_)
          | (refine wpList_store_mid rfl 29 (.tmp 4) (.tmp 30) rfl (w.heap.size + 1) 0 (List.toArray [.slice A1 m c1, .int .i64 T]) rfl rfl hth5 size_rt (all_oneCell_toArray (two_one _ _ _ _)) ?_))
        have h9 := set_here [.slice A1 m c1, .int .i64 T] H5.out.1.res rfl
        refine bodyPost_ret (results_cell_tmp_mid rfl _ _ (w.heap.size + 1) 0 [.slice A1 m c1, .int .i64 T] _ rfl (range_here _ h9 rfl) Try.underlying29 rfl size_rt) rfl ?_
        exact HFIN.out
end Go.Proofs.Ytkhikpbchimodaa
