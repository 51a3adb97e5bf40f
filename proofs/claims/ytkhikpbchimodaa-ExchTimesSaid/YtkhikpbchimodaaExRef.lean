/-
  The document's table of exchanges: its time, what it has, what is next.
-/
import Derived.Test.YtkhikpbchimodaaExStep
namespace Go.Proofs.Ytkhikpbchimodaa
open Go.RowKit
set_option maxRecDepth 100000
set_option maxRecDepth 100000
set_option linter.unusedVariables false
def clampN (x : Int) : Int := min (max x 0) 1099511627776
theorem clampN_in (x : Int) : 0 ≤ clampN x ∧ clampN x ≤ 1099511627776 := by unfold clampN; omega
theorem clock_f (x : Int) (w : World) : Calls Try.prog 30 #[.int .i64 x] w fun e w' => e = .returned (.int .i64 (clampN x)) ∧ w' = w := by
  by_cases h0 : x < 0
  · have hq : clampN x = 0 := by unfold clampN; omega
    rw [hq]
    go_enter Try.func30, Try.ntmps30
    go_wp2
    go_ret
    exact ⟨rfl, rfl⟩
  · by_cases h1 : 1099511627776 < x
    · have hq : clampN x = 1099511627776 := by unfold clampN; omega
      rw [hq]
      go_enter Try.func30, Try.ntmps30
      go_wp2
      go_ret
      exact ⟨rfl, rfl⟩
    · have hq : clampN x = x := by unfold clampN; omega
      rw [hq]
      go_enter Try.func30, Try.ntmps30
      go_wp2
      go_ret
      exact ⟨rfl, rfl⟩
theorem size_rt : (Try.prog.info? 29).map (·.size) = some 2 := by kernel_rfl
theorem size_on : (Try.prog.info? 68).map (·.size) = some 6 := by kernel_rfl
theorem info_on : (Try.prog.info? 68).map (fun i => (i.zero, i.size, i.bytes)) = some (some (.agg #[.int .i64 0, .int .i64 0, .slice none 0 0, .int .i64 0, .int .i64 0, .int .i64 0]), 6, 64) := by kernel_rfl
theorem info_rs : (Try.prog.info? 73).map (fun i => (i.zero, i.size, i.bytes)) = some (some (.agg #[.int .i64 0, .int .i64 0, .slice none 0 0, .bool false]), 4, 48) := by kernel_rfl
theorem size_rs : (Try.prog.info? 73).map (·.size) = some 4 := by kernel_rfl
theorem below_set {B b o : Nat} {w W : World} (h : Below B w W) (hb : B ≤ b) (us : List Value) : Below B w (W.setCells b o us) := by
  obtain ⟨o1, o2, o3⟩ := os_setCells us b o W
  exact ⟨o1.trans h.os, o2.trans h.tape, o3.trans h.output, by rw [size_setCells']; exact h.size, fun k hk => (heap_setCells_other b k (by omega) us o W).trans (h.block k hk)⟩
theorem set_here {b : Nat} {e : TypeId} {W : World} {cs : Array Value} (us : List Value) (h : W.heap[b]? = some (.cells cs e)) (hl : us.length = cs.size) : (W.setCells b 0 us).heap[b]? = some (.cells us.toArray e) := by
  obtain ⟨cs', h1, h2⟩ := heap_setCells_here b e us W cs 0 h (by omega)
  rw [h1]
  rw [List.take_zero, List.nil_append, List.drop_eq_nil_of_le (by rw [Array.length_toList]; omega), List.append_nil] at h2
  rw [← h2]
theorem range_here {b : Nat} {e : TypeId} {fr : Nat × Nat} {W : World} {cs : Array Value} (us : List Value) (h : W.heap[b]? = some (.cells cs e fr)) (hc : cs.toList = us) : W.rangeAt b 0 us := fun j u hj => by
  rw [Nat.zero_add, cell_of_row _ _ _ _ _ _ h, ← Array.getElem?_toList, hc]; exact hj
theorem there_here {b n : Nat} {e : TypeId} {W : World} {cs : Array Value} (h : W.heap[b]? = some (.cells cs e)) (hn : n = cs.size) : W.there b 0 n := fun j hj => ⟨by rw [Nat.zero_add, cell_of_row _ _ _ _ _ _ h, Array.getElem?_eq_getElem (by omega)]; rfl, by simp [World.frozen?, h]⟩
theorem tell_clamp {now x : Int} (h : 0 ≤ now) : tellT now x = if now < clampN x then clampN x else now := by
  unfold tellT clampN; split <;> omega
theorem two_one (A : Option Addr) (n c : Nat) (x : Int) : ∀ v ∈ ([.slice A n c, .int .i64 x] : List Value), v.oneCell' = true := by
  intro v hv
  simp only [List.mem_cons, List.not_mem_nil, or_false] at hv
  rcases hv with rfl | rfl <;> rfl
set_option maxHeartbeats 4000000 in
theorem rlater_f (A : Option Addr) (n c : Nat) (now x : Int) (w : World) (h0 : 0 ≤ now) : Calls Try.prog 29 #[.agg #[.slice A n c, .int .i64 now], .int .i64 x] w fun e w' => e = .returned (.agg #[.slice A n c, .int .i64 (tellT now x)]) ∧ Below w.heap.size w w' := by
  have hc := fun W => clock_f x W
  have ht := tell_clamp (x := x) h0
  have hin := clampN_in x
  generalize tellT now x = T at *
  generalize clampN x = q at *
  have HC := Lib.hid hc
  clear hc
  by_cases hlt : now < q
  · rw [if_pos hlt] at ht
    have HT := Lib.hid ht
    clear ht
    go_enter Try.func29, Try.ntmps29
    go_wp2
    refine wp_at_world (F := fun W => Below w.heap.size w W ∧ W.heap[w.heap.size]? = some (.cells #[.slice A n c, .int .i64 now] 29) ∧ W.heap[w.heap.size + 1]? = some (.cells #[.slice none 0 0, .int .i64 0] 29)) ⟨((Below.refl _ _).alloc (Nat.le_refl _) _).alloc (by rw [alloc_size]; omega) _, heap_alloc2_old w _ _, heap_alloc2_new w _ _⟩ fun w1 ⟨b1, x0, x1⟩ => ?_
    have d1 : w1.cell? ⟨w.heap.size, 1, none⟩ = some (.int .i64 now) := by rw [cell_of_row _ _ _ _ _ _ x0]; rfl
    have f1 : w1.frozen? ⟨w.heap.size, 1, none⟩ = false := by simp [World.frozen?, x0]
    have H1 := Lib.hid (And.intro b1 (And.intro x0 x1))
    clear b1 x0 x1
    go_quiet ((go_at_call 30; exact Calls.quiet_of_same (HC.out _)))
    go_upto_region 3 with (go_at_call 30; refine (HC.out _).mono ?_; rintro e w2 ⟨rfl, hw⟩; obtain rfl := hw.symm)
    refine wp_at_world (F := fun W => Below w.heap.size w W ∧ W.heap[w.heap.size]? = some (.cells #[.slice A n c, .int .i64 q] 29) ∧ W.heap[w.heap.size + 1]? = some (.cells #[.slice none 0 0, .int .i64 0] 29)) ⟨(H1.out.1.trans ((drewN_below _ _ nq))).setCell (Nat.le_refl _) _, heap_setCell_same (w1.drewN nq) w.heap.size 1 _ 29 _ H1.out.2.1, (heap_setCell_other (w1.drewN nq) ⟨w.heap.size, 1, none⟩ (w.heap.size + 1) _ (by simp)).trans H1.out.2.2⟩ fun w3 ⟨b3, x0, x1⟩ => ?_
    have hr := range_here [.slice A n c, .int .i64 q] x0 rfl
    have hth := there_here (n := 2) x1 rfl
    have H3 := Lib.hid (And.intro b3 (And.intro x0 x1))
    clear b3 x0 x1 d1 f1
    go_wp2_with (first
      | (refine wpList_load_mid rfl 29 (.tmp 2) rfl w.heap.size 0 rfl [.slice A n c, .int .i64 q] _ hr Try.underlying29 rfl size_rt ?_)
      | (refine wpList_store_mid rfl 29 (.tmp 4) (.tmp 13) rfl (w.heap.size + 1) 0 (List.toArray [.slice A n c, .int .i64 q]) rfl rfl hth size_rt (all_oneCell_toArray (two_one _ _ _ _)) ?_))
    have h9 := set_here [.slice A n c, .int .i64 q] H3.out.2.2 rfl
    refine bodyPost_ret (results_cell_mid rfl _ _ (w.heap.size + 1) 0 [.slice A n c, .int .i64 q] _ rfl (range_here _ h9 rfl) Try.underlying29 rfl size_rt) rfl ?_
    exact ⟨by rw [HT.out], below_set H3.out.1 (Nat.le_succ _) _⟩
  · rw [if_neg hlt] at ht
    have HT := Lib.hid ht
    clear ht
    go_enter Try.func29, Try.ntmps29
    go_wp2
    refine wp_at_world (F := fun W => Below w.heap.size w W ∧ W.heap[w.heap.size]? = some (.cells #[.slice A n c, .int .i64 now] 29) ∧ W.heap[w.heap.size + 1]? = some (.cells #[.slice none 0 0, .int .i64 0] 29)) ⟨((Below.refl _ _).alloc (Nat.le_refl _) _).alloc (by rw [alloc_size]; omega) _, heap_alloc2_old w _ _, heap_alloc2_new w _ _⟩ fun w1 ⟨b1, x0, x1⟩ => ?_
    have d1 : w1.cell? ⟨w.heap.size, 1, none⟩ = some (.int .i64 now) := by rw [cell_of_row _ _ _ _ _ _ x0]; rfl
    have f1 : w1.frozen? ⟨w.heap.size, 1, none⟩ = false := by simp [World.frozen?, x0]
    have H1 := Lib.hid (And.intro b1 (And.intro x0 x1))
    clear b1 x0 x1
    go_quiet ((go_at_call 30; exact Calls.quiet_of_same (HC.out _)))
    go_upto_region 3 with fail
    refine wp_at_world (F := fun W => Below w.heap.size w W ∧ W.heap[w.heap.size]? = some (.cells #[.slice A n c, .int .i64 now] 29) ∧ W.heap[w.heap.size + 1]? = some (.cells #[.slice none 0 0, .int .i64 0] 29)) ⟨H1.out.1.trans (drewN_below _ _ nq), H1.out.2.1, H1.out.2.2⟩ fun w3 ⟨b3, x0, x1⟩ => ?_
    have hr := range_here [.slice A n c, .int .i64 now] x0 rfl
    have hth := there_here (n := 2) x1 rfl
    have H3 := Lib.hid (And.intro b3 (And.intro x0 x1))
    clear b3 x0 x1 d1 f1
    go_wp2_with (first
      | (refine wpList_load_mid rfl 29 (.tmp 2) rfl w.heap.size 0 rfl [.slice A n c, .int .i64 now] _ hr Try.underlying29 rfl size_rt ?_)
      | (refine wpList_store_mid rfl 29 (.tmp 4) (.tmp 13) rfl (w.heap.size + 1) 0 (List.toArray [.slice A n c, .int .i64 now]) rfl rfl hth size_rt (all_oneCell_toArray (two_one _ _ _ _)) ?_))
    have h9 := set_here [.slice A n c, .int .i64 now] H3.out.2.2 rfl
    refine bodyPost_ret (results_cell_mid rfl _ _ (w.heap.size + 1) 0 [.slice A n c, .int .i64 now] _ rfl (range_here _ h9 rfl) Try.underlying29 rfl size_rt) rfl ?_
    exact ⟨by rw [HT.out], below_set H3.out.1 (Nat.le_succ _) _⟩
/-- The document's list, in memory of the call's own. -/
structure RtAt (w : World) (B : Nat) (v : Value) (rs : List Xr) : Prop where
  row : w.ownsRow B 68 6 v rs.length (onK.all rs)
  each : ∀ s ∈ rs, Ob w B s.A s.n s.c s.q.l
  good : XGood (rs.map Xr.q)
section
variable {w w' : World} {B : Nat} {v : Value} {rs : List Xr}
theorem RtAt.below (h : RtAt w B v rs) (hb : Below w.heap.size w w') : RtAt w' B v rs := ⟨rk_below h.row hb, fun s hs => (h.each s hs).below hb, h.good⟩
theorem RtAt.fx {tb m k : Nat} {u x : Value} {now : Int} {xs : List Value} (h : RtAt w B v rs) (hf : Fx tb u.ownBlock w w') (hb : w.heap[tb]? = some (.cells #[x, .int .i64 now] 61)) (hr : w.ownsRow k 65 6 u m xs) : RtAt w' B v rs :=
  ⟨hf.row_ h.row (rk_ne h.row hb (by decide)) (rk_apart h.row hr (by decide)), fun s hs => (h.each s hs).fx hf hb hr, h.good⟩
theorem RtAt.few (h : RtAt w B v rs) : rs.length ≤ 4 := by have := h.good.few; rwa [List.length_map] at this
theorem RtAt.open_ (h : RtAt w B v rs) : ∃ A c, v = .slice A rs.length c ∧ rs.length ≤ c ∧ c ≤ maxLen ∧ onK.At w w.heap.size A rs.length rs := by
  obtain ⟨A, c, e, h1, h2, h3, _⟩ := RowK.At.of_own h.row
  exact ⟨A, c, e, h1, h2, h3⟩
theorem RtAt.setTs {k : Nat} {cs : Array Value} (h : RtAt w B v rs) (hk : w.heap[k]? = some (.cells cs 29)) (us : List Value) : RtAt (w.setCells k 0 us) B v rs := by
  have hrow : ∀ {e : TypeId} {sz n : Nat} {u : Value} {xs : List Value}, w.ownsRow B e sz u n xs → 29 ≠ e → (w.setCells k 0 us).ownsRow B e sz u n xs := fun ho he => by
    have hne := rk_ne ho hk he
    refine ⟨ho.1, ?_⟩
    rcases ho.2 with hn | ⟨g, cap, cur, rfl, hb, hg, rest⟩
    · exact .inl hn
    · exact .inr ⟨g, cap, cur, rfl, hb, (heap_setCells_other k g (fun e6 => hne (by rw [e6]; rfl)) us 0 w).trans hg, rest⟩
  exact ⟨hrow h.row (by decide), fun s hs => ⟨hrow (h.each s hs).1 (by decide), (h.each s hs).2⟩, h.good⟩
theorem RtAt.setT {k : Nat} {cs : Array Value} (h : RtAt w B v rs) (hk : w.heap[k]? = some (.cells cs 29)) (j : Nat) (u : Value) : RtAt (w.setCell ⟨k, j, none⟩ u) B v rs := by
  have hrow : ∀ {e : TypeId} {sz n : Nat} {x : Value} {xs : List Value}, w.ownsRow B e sz x n xs → 29 ≠ e → (w.setCell ⟨k, j, none⟩ u).ownsRow B e sz x n xs := fun ho he => by
    have hne := rk_ne ho hk he
    refine ⟨ho.1, ?_⟩
    rcases ho.2 with hn | ⟨g, cap, cur, rfl, hb, hg, rest⟩
    · exact .inl hn
    · exact .inr ⟨g, cap, cur, rfl, hb, (heap_setCell_other w ⟨k, j, none⟩ g u (fun e6 => hne (by rw [show g = k from by first | exact e6 | exact e6.symm]; rfl))).trans hg, rest⟩
  exact ⟨hrow h.row (by decide), fun s hs => ⟨hrow (h.each s hs).1 (by decide), (h.each s hs).2⟩, h.good⟩
end
theorem on_cells {w : World} {b o : Nat} {s : Xr} (h : w.rangeAt b o (onK.vals s)) : w.cell? ⟨b, o, none⟩ = some (.int .i64 s.q.t) ∧ w.cell? ⟨b, o + 1, none⟩ = some (.int .i64 s.q.i) ∧ w.cell? ⟨b, o + 2, none⟩ = some (.slice s.A s.n s.c) ∧ w.cell? ⟨b, o + 3, none⟩ = some (.int .i64 s.q.u) ∧ w.cell? ⟨b, o + 4, none⟩ = some (.int .i64 s.q.wt) ∧ w.cell? ⟨b, o + 5, none⟩ = some (.int .i64 (s.q.g : Int)) :=
  ⟨h 0 _ rfl, h 1 _ rfl, h 2 _ rfl, h 3 _ rfl, h 4 _ rfl, h 5 _ rfl⟩
theorem any_next {p : Xq → Bool} {rs : List Xr} {k : Nat} {s : Xr} (hs : rs[k]? = some s) : ((rs.take (k + 1)).map Xr.q).any p = (((rs.take k).map Xr.q).any p || p s.q) := by
  rw [List.take_add_one, hs, List.map_append, List.any_append]
  simp
theorem any_hit {p : Xq → Bool} {rs : List Xr} {k : Nat} {s : Xr} (hs : rs[k]? = some s) (hp : p s.q = true) : (rs.map Xr.q).any p = true :=
  List.any_eq_true.2 ⟨s.q, List.mem_map_of_mem (List.mem_of_getElem? hs), hp⟩
set_option maxHeartbeats 4000000 in
theorem rhas_f (A : Option Addr) (n c : Nat) (rs : List Xr) (now : Int) (w : World) (h : onK.At w w.heap.size A n rs) (hn : (n : Int) ≤ 4) (t i : Int) : Calls Try.prog 23 #[.agg #[.slice A n c, .int .i64 now], .int .i64 t, .int .i64 i] w fun e w' => e = .returned (.bool ((rs.map Xr.q).any (hitX t i))) ∧ Below w.heap.size w w' := by
  have hvl := Lib.hid h.len
  have HH := Lib.hid h
  obtain ⟨R, hR⟩ : ∃ R, (rs.map Xr.q).any (hitX t i) = R := ⟨_, rfl⟩
  rw [hR]
  have HR := Lib.hid hR
  clear h hR
  go_enter Try.func23, Try.ntmps23
  go_upto_region 2 with fail
  refine wp_at_world (F := fun W => Below w.heap.size w W ∧ W.cell? ⟨w.heap.size, 0, none⟩ = some (.slice A n c)) ⟨alloc_below _ _, by rw [cell_of_row _ _ _ _ _ _ (heap_alloc_new w _)]; rfl⟩ fun w1 ⟨b1, d0⟩ => ?_
  have hz := HH.out.below b1
  have HB := Lib.hid b1
  clear b1
  go_loop [7] (fun iv => ∃ k : Nat, k ≤ n ∧ iv = .int .i64 (k : Int) ∧ Aside (((rs.take k).map Xr.q).any (hitX t i) = false)) (fun iv => n - (intOf iv).toNat)
  case atStart => exact ⟨0, Nat.zero_le _, rfl, rfl⟩
  case round =>
    obtain ⟨k, hk, rfl, hmiss⟩ := hrel
    by_cases hlt : k < n
    · obtain ⟨s, hs⟩ := hz.get hlt
      obtain ⟨b, off, rfl, hb, _⟩ := hz.place (by omega)
      obtain ⟨e0, e1, _⟩ := on_cells (hz.range hs)
      have hnx := any_next (p := hitX t i) hs
      have hall := any_hit (p := hitX t i) hs
      have hkI : (k : Int) < n := by omega
      obtain ⟨⟨st, si, sl, sg, sw, su⟩, sA, sn, sc⟩ := s
      dsimp only at e0 e1
      by_cases hf : st = t
      · by_cases hi : si = i
        · have hp : hitX t i ⟨st, si, sl, sg, sw, su⟩ = true := by unfold hitX; rw [hf, hi]; simp
          have HP := Lib.hid (hall hp)
          rw [hf] at e0
          rw [hi] at e1
          clear hp hall hnx hf hi hs
          go_wp2
          go_ret
          obtain rfl : R = true := HR.out.symm.trans HP.out
          exact ⟨rfl, HB.out⟩
        · have hp : hitX t i ⟨st, si, sl, sg, sw, su⟩ = false := by unfold hitX; rw [beq_eq_false_iff_ne.2 hi, Bool.and_false]
          have HP := Lib.hid (by rw [hnx, hmiss.out, hp]; rfl : ((rs.take (k + 1)).map Xr.q).any (hitX t i) = false)
          have hib : (si == i) = false := beq_eq_false_iff_ne.2 hi
          rw [hf] at e0
          clear hp hall hnx hf hs
          go_wp2
          go_round
          case rel => exact ⟨k + 1, by omega, by go_num, HP.out⟩
          case measure => simp [intOf]; omega
      · have hp : hitX t i ⟨st, si, sl, sg, sw, su⟩ = false := by unfold hitX; rw [beq_eq_false_iff_ne.2 hf, Bool.false_and]
        have HP := Lib.hid (by rw [hnx, hmiss.out, hp]; rfl : ((rs.take (k + 1)).map Xr.q).any (hitX t i) = false)
        have hib : (st == t) = false := beq_eq_false_iff_ne.2 hf
        clear hp hall hnx hs
        go_wp2
        go_round
        case rel => exact ⟨k + 1, by omega, by go_num, HP.out⟩
        case measure => simp [intOf]; omega
    · obtain rfl : k = n := by omega
      have hkI : ¬ (k : Int) < k := by omega
      have hfin := hmiss.out
      rw [List.take_of_length_le (by rw [hvl.out]; exact Nat.le_refl _)] at hfin
      have HF := Lib.hid hfin
      clear hfin hmiss
      go_wp2
      go_ret
      obtain rfl : R = false := HR.out.symm.trans HF.out
      exact ⟨rfl, HB.out⟩
/-- The least of the first k. -/
theorem least_next {rs : List Xr} {k : Nat} {s : Xr} (hs : rs[k + 1]? = some s) {m : Int} (hm : m = ((((rs.map Xr.q).map Xq.u))[fmu ((rs.map Xr.q).map Xq.u) (k + 1)]?).getD 0) :
    (if s.q.u < m then s.q.u else m) = ((((rs.map Xr.q).map Xq.u))[fmu ((rs.map Xr.q).map Xq.u) (k + 1 + 1)]?).getD 0 := by
  have hu : ((((rs.map Xr.q).map Xq.u))[k + 1]?).getD 0 = s.q.u := by rw [List.getElem?_map, List.getElem?_map, hs]; rfl
  conv => rhs; rw [show fmu ((rs.map Xr.q).map Xq.u) (k + 1 + 1) = if (((rs.map Xr.q).map Xq.u)[k + 1]?).getD 0 < (((rs.map Xr.q).map Xq.u)[fmu ((rs.map Xr.q).map Xq.u) (k + 1)]?).getD 0 then k + 1 else fmu ((rs.map Xr.q).map Xq.u) (k + 1) from rfl]
  rw [hu, ← hm]
  split
  · exact hu.symm
  · exact hm
set_option maxHeartbeats 4000000 in
theorem rnext_f (A : Option Addr) (n c : Nat) (rs : List Xr) (now : Int) (w : World) (h : onK.At w w.heap.size A n rs) (hn : (n : Int) ≤ 4) (hnc : n ≤ c) : Calls Try.prog 20 #[.agg #[.slice A n c, .int .i64 now]] w (NextQ (rs.map Xr.q) w) := by
  have hvl := Lib.hid h.len
  have HH := Lib.hid h
  have hncI : (n : Int) ≤ c := by omega
  cases n with
  | zero =>
    have hnil : rs = [] := List.eq_nil_of_length_eq_zero hvl.out
    have HN := Lib.hid hnil
    clear h hnil
    go_enter Try.func20, Try.ntmps20
    go_wp2
    go_ret2
    rw [HN.out]
    exact ⟨rfl, alloc_below _ _⟩
  | succ m =>
    have hpos : 0 < (rs.map Xr.q).length := by rw [List.length_map, hvl.out]; omega
    have hlt2 := fstQ_lt hpos
    obtain ⟨q0, hq⟩ : ∃ q0, (rs.map Xr.q)[fstQ (rs.map Xr.q)]? = some q0 := ⟨_, List.getElem?_eq_getElem hlt2⟩
    have hu := us_at hq
    have hP : ∀ (x : Int) (w' : World), x = (((rs.map Xr.q).map Xq.u)[fmu ((rs.map Xr.q).map Xq.u) (m + 1)]?).getD 0 → Below w.heap.size w w' → NextQ (rs.map Xr.q) w (.returned (.tuple #[.int .i64 x, .bool true])) w' := fun x w' hx hb => by
      unfold NextQ
      rw [hq]
      dsimp only
      have e1 : fstQ (rs.map Xr.q) = fmu ((rs.map Xr.q).map Xq.u) (m + 1) := by unfold fstQ; rw [List.length_map, hvl.out]
      rw [e1] at hu
      exact ⟨by rw [hx, hu], hb⟩
    have HP := Lib.hid hP
    clear hpos hlt2 hq hu hP
    obtain ⟨s0, hs0⟩ := h.get (Nat.succ_pos m)
    obtain ⟨b, off, rfl, hb, _⟩ := h.place (Nat.succ_pos m)
    obtain ⟨_, _, _, g3, _⟩ := on_cells (h.range hs0)
    have hu0 : ((((rs.map Xr.q).map Xq.u))[fmu ((rs.map Xr.q).map Xq.u) (0 + 1)]?).getD 0 = s0.q.u := by rw [fmu_one, List.getElem?_map, List.getElem?_map, hs0]; rfl
    have HU0 := Lib.hid hu0
    have hm1 : ((m + 1 : Nat) : Int) = (m : Int) + 1 := by omega
    rw [Nat.zero_mul, Nat.add_zero] at g3
    clear h hu0 hs0
    obtain ⟨n, hnn⟩ : ∃ n, m + 1 = n := ⟨_, rfl⟩
    have hn1 : 1 ≤ n := by omega
    have HNN := Lib.hid hnn
    rw [hnn] at hn hncI HH hvl HP
    rw [hnn]
    clear hnn hm1
    have hn0 : ((n : Int) == 0) = false := beq_eq_false_iff_ne.2 (by omega)
    have hpos : (0 : Int) < n := by omega
    go_enter Try.func20, Try.ntmps20
    go_upto_region 3 with fail
    refine wp_at_world (F := fun W => Below w.heap.size w W ∧ W.cell? ⟨w.heap.size, 0, none⟩ = some (.slice (some ⟨b, off, none⟩) n c)) ⟨alloc_below _ _, by rw [cell_of_row _ _ _ _ _ _ (heap_alloc_new w _)]; rfl⟩ fun w1 ⟨b1, d0⟩ => ?_
    have hz := HH.out.below b1
    have HB := Lib.hid b1
    have g3' : w1.cell? ⟨b, off + 3, none⟩ = some (.int .i64 s0.q.u) := (b1.cell (p := ⟨b, off + 3, none⟩) hb).trans g3
    clear b1 g3
    go_wp2
    go_loop [4, 5] (fun mv iv => ∃ (k : Nat) (x : Int), k + 1 ≤ n ∧ iv = .int .i64 ((k : Int) + 1) ∧ mv = .int .i64 x ∧ Aside (x = ((((rs.map Xr.q).map Xq.u))[fmu ((rs.map Xr.q).map Xq.u) (k + 1)]?).getD 0)) (fun _ iv => n - (intOf iv).toNat)
    case atStart => exact ⟨0, s0.q.u, by omega, rfl, rfl, HU0.out.symm⟩
    case round =>
      obtain ⟨k, x, hk, rfl, rfl, hx⟩ := hrel
      by_cases hlt : k + 1 < n
      · obtain ⟨s, hs⟩ := hz.get hlt
        obtain ⟨_, _, _, e3, _⟩ := on_cells (hz.range hs)
        have hnx := least_next hs hx.out
        have hkI : (k : Int) + 1 < n := by omega
        have hk0 : (0 : Int) ≤ (k : Int) + 1 := by omega
        by_cases hless : s.q.u < x
        · rw [if_pos hless] at hnx
          have HN := Lib.hid hnx
          clear hnx hs hx
          go_wp2
          go_round
          case rel => exact ⟨k + 1, s.q.u, by omega, by first | rfl | go_num, rfl, HN.out⟩
          case measure => simp [intOf]; omega
        · rw [if_neg hless] at hnx
          have HN := Lib.hid hnx
          clear hnx hs hx
          go_wp2
          go_round
          case rel => exact ⟨k + 1, x, by omega, by first | rfl | go_num, rfl, HN.out⟩
          case measure => simp [intOf]; omega
      · obtain rfl : n = k + 1 := by omega
        have HF := Lib.hid (HP.out x w1 hx.out HB.out)
        have hkI : ¬ (k : Int) + 1 < (k : Int) + 1 := by omega
        clear hx
        go_wp2
        go_ret2
        exact HF.out
end Go.Proofs.Ytkhikpbchimodaa
