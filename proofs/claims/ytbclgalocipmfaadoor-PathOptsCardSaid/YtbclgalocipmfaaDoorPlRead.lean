/-
  The program's values of a text.
-/
import Derived.Test.YtbclgalocipmfaaDoorPlNumPure
import Derived.Test.YtbclgalocipmfaaDoorPlUn
namespace Go.Proofs.YtbclgalocipmfaaDoor
open Go.RowKit
set_option maxRecDepth 100000
set_option maxRecDepth 100000
set_option linter.unusedVariables false
/-- What is read: a value, an error's number. -/
def RdRet (k n : Int) (t l : List UInt8) (o i er : Int) (w : World) (e : Ending) (w' : World) : Prop :=
  ∃ (s : ByteArray) (A : Option Addr) (m c : Nat), e = .returned (.tuple #[.agg #[.int .i64 k, .int .i64 n, .string s, .slice A m c, .int .i64 o, .int .i64 i], .int .i64 er]) ∧ s.data.toList = t ∧ m ≤ c ∧ m = l.length ∧ Bs w' w'.heap.size A m l ∧ Below w.heap.size w w'
theorem RdRet.none_ {w w' : World} {er : Int} (hb : Below w.heap.size w w') : RdRet 0 0 [] [] 0 0 er w (.returned (.tuple #[.agg #[.int .i64 0, .int .i64 0, .string ⟨#[]⟩, .slice none 0 0, .int .i64 0, .int .i64 0], .int .i64 er])) w' :=
  ⟨⟨#[]⟩, none, 0, 0, rfl, rfl, Nat.le_refl _, rfl, Bs.empty _ _ _, hb⟩
/-- What stands while a text is read: a cell for the result, a value whose fields are told. -/
structure RdW (w W : World) (vs : List Value) : Prop where
  bel : Below w.heap.size w W
  sz : w.heap.size + 2 ≤ W.heap.size
  r0 : W.rangeAt w.heap.size 0 [.int .i64 0, .int .i64 0, .string ⟨#[]⟩, .slice none 0 0, .int .i64 0, .int .i64 0]
  r1 : W.rangeAt (w.heap.size + 1) 0 vs
  t0 : W.there w.heap.size 0 6
  t1 : W.there (w.heap.size + 1) 0 6
theorem RdW.new_ (w : World) (k : Int) : RdW w ((w.alloc (.cells #[.int .i64 0, .int .i64 0, .string ⟨#[]⟩, .slice none 0 0, .int .i64 0, .int .i64 0] 26)).alloc (.cells #[.int .i64 k, .int .i64 0, .string ⟨#[]⟩, .slice none 0 0, .int .i64 0, .int .i64 0] 26)) [.int .i64 k, .int .i64 0, .string ⟨#[]⟩, .slice none 0 0, .int .i64 0, .int .i64 0] where
  bel := ((alloc_below w _).alloc (by rw [alloc_size]; omega) _)
  sz := by rw [alloc_size, alloc_size]; exact Nat.le_refl _
  r0 := range_below (range_newV w _ _ rfl) (alloc_below _ _) (by rw [alloc_size]; omega)
  r1 := by have := range_newV (w.alloc (.cells #[.int .i64 0, .int .i64 0, .string ⟨#[]⟩, .slice none 0 0, .int .i64 0, .int .i64 0] 26)) #[.int .i64 k, .int .i64 0, .string ⟨#[]⟩, .slice none 0 0, .int .i64 0, .int .i64 0] 26 rfl; rwa [alloc_size] at this
  t0 := there_new0 w _ _ _ rfl
  t1 := there_new1 w _ _ _ rfl
theorem RdW.below {w W W' : World} {vs : List Value} (h : RdW w W vs) (hb : Below W.heap.size W W') : RdW w W' vs :=
  ⟨h.bel.trans (hb.mono h.bel.size), Nat.le_trans h.sz hb.size, range_below h.r0 hb (by have := h.sz; omega), range_below h.r1 hb (by have := h.sz; omega), there_below h.t0 hb (by have := h.sz; omega), there_below h.t1 hb (by have := h.sz; omega)⟩
theorem bs_off {w1 : World} {g m : Nat} {A : Option Addr} {l : List UInt8} {v : Value} {vs : List Value} {j : Nat} (h : Bs w1 w1.heap.size A m l) (hf : ∀ ad, A = some ad → g + 2 ≤ ad.block) : Bs ((w1.setCell ⟨g + 1, j, none⟩ v).setCells g 0 vs) ((w1.setCell ⟨g + 1, j, none⟩ v).setCells g 0 vs).heap.size A m l := by
  refine ⟨h.len, fun hm => ?_⟩
  obtain ⟨b, off, e, hb, hc⟩ := h.place hm
  have hg := hf _ e
  dsimp only at hg
  refine ⟨b, off, e, by rw [size_setCells_, World.size_setCell]; exact hb, fun k u hu => ?_⟩
  rw [World.cell?_setCells_out g vs 0 _ _ (fun h1 _ => absurd h1 (by dsimp only; omega)), World.cell?_setCell_other _ _ _ _ (fun h1 => by injection h1 with h2 _; omega)]
  exact hc k u hu
def zv6 : List Value := [.int .i64 0, .int .i64 0, .string ⟨#[]⟩, .slice none 0 0, .int .i64 0, .int .i64 0]
theorem range_stored {W : World} {b : Nat} {vs : List Value} (h : W.there b 0 vs.length) : (W.setCells b 0 vs).rangeAt b 0 vs := by
  intro j v hv
  have hj := (List.getElem?_eq_some_iff.1 hv).1
  rw [World.cell?_setCells_in b vs 0 W (fun k hk => (h k hk).1) j hj]
  rw [List.getElem?_eq_getElem hj] at hv
  exact hv
theorem results_cell_mid6 {P : Program} {fn : Func} {p u : Tmp} {ty : TypeId} (h : fn.results = #[.cell p ty, .tmp u]) (tmps : Array Value) (w : World) (b o : Nat) (cs : List Value) (d : TypeDesc)
    (hp : tmps.getD p undef = .pointer (some ⟨b, o, none⟩)) (hc : w.rangeAt b o cs) (hu : P.underlying ty = some d) (hd : d.isRow = true) (hi : (P.info? ty).map (·.size) = some cs.length) :
    (results fn tmps).run P w = .ok (.tuple #[.agg cs.toArray, tmps.getD u undef]) w := by
  rw [results_cell_tmp h, hp]
  simp only [asAddr, Sem.run_pure, Result.andThen_ok, run_loadVar_mid w b o ty cs d hc hu hd hi]
theorem one6r {k n : Int} {s : ByteArray} {A : Option Addr} {l c : Nat} {o i : Int} : ∀ v ∈ [Value.int .i64 k, .int .i64 n, .string s, .slice A l c, .int .i64 o, .int .i64 i], v.oneCell' = true := by
  intro v hv
  simp only [List.mem_cons, List.not_mem_nil, or_false] at hv
  rcases hv with rfl | rfl | rfl | rfl | rfl | rfl <;> rfl
theorem size_val6 : (Tryd.prog.info? 26).map (·.size) = some 6 := by kernel_rfl
theorem RdW.set {w W : World} {vs : List Value} (h : RdW w W vs) (j : Nat) (hj : j < 6) (hl : vs.length = 6) (v : Value) : RdW w (W.setCell ⟨w.heap.size + 1, j, none⟩ v) (vs.set j v) := by
  have ht := h.t1
  rw [← hl] at ht
  have r := range_set h.r1 ht j (by rw [hl]; exact hj) v
  rw [Nat.zero_add] at r
  refine ⟨h.bel.setCell (show w.heap.size ≤ w.heap.size + 1 by omega) _, by rw [World.size_setCell]; exact h.sz, fun k u hk => ?_, r, there_set h.t0 _ _, there_set h.t1 _ _⟩
  rw [World.cell?_setCell_other _ _ _ _ (fun e => by injection e with e1 _; omega)]
  exact h.r0 k u hk
set_option maxHeartbeats 4000000 in
theorem read_link (s : ByteArray) (hs : s.size ≤ 1000000) (w : World) (hE : TabE w) (hD : TabD w) :
    Calls Tryd.prog 9 #[.int .i64 6, .string s] w (match linkQ s.data.toList with | some (a, b) => RdRet 6 0 [] [] a b 0 w | none => RdRet 0 0 [] [] 0 0 20 w) := by
  have hN := RdW.new_ w 6
  have hL := fun W (h : Below w.heap.size w W) => link_p s hs W (hE.below h hE.size) (hD.below h hD.size)
  rcases hR : linkQ s.data.toList with _ | ⟨a, b⟩
  · simp only [hR, show linkR none = .returned (.tuple #[.int .i64 0, .int .i64 0, .int .i64 20]) from rfl] at hL
    have HL := Lib.hid (And.intro hL hN)
    clear hE hD hR hL hN
    go_enter Tryd.func9, Tryd.ntmps9
    go_wp2_with fail
    refine (HL.out.1 _ HL.out.2.bel).mono ?_
    rintro e w1 ⟨rfl, b1⟩
    have h1 := HL.out.2.below b1
    obtain ⟨q0, q1, q2, q3, q4, q5⟩ := six h1.r1
    have f4 := (h1.t1 4 (by omega)).2
    have f5 := (h1.t1 5 (by omega)).2
    have H1 := Lib.hid h1
    clear h1 b1
    have g0 := H1.out
    have g1 := g0.set 4 (by omega) rfl (.int .i64 0)
    have g2 := g1.set 5 (by omega) rfl (.int .i64 0)
    have G := Lib.hid g2
    clear g0 g1 g2
    try dsimp only
    go_wp2_with (refine wpList_store_mid rfl 26 (.tmp 4) (.tmp 56) rfl w.heap.size 0 zv6.toArray rfl rfl G.out.t0 size_val6 (all_oneCell_toArray one6r) ?_)
    refine bodyPost_ret (results_cell_mid6 rfl _ _ w.heap.size 0 zv6 _ rfl (range_stored G.out.t0) Tryd.underlying26 rfl size_val6) rfl ?_
    exact RdRet.none_ (below_setCells G.out.bel (Nat.le_refl _) _ 0)
  · simp only [hR, show linkR (some (a, b)) = .returned (.tuple #[.int .i64 a, .int .i64 b, .int .i64 0]) from rfl] at hL
    have HL := Lib.hid (And.intro hL hN)
    clear hE hD hR hL hN
    go_enter Tryd.func9, Tryd.ntmps9
    go_wp2_with fail
    refine (HL.out.1 _ HL.out.2.bel).mono ?_
    rintro e w1 ⟨rfl, b1⟩
    have h1 := HL.out.2.below b1
    obtain ⟨q0, q1, q2, q3, q4, q5⟩ := six h1.r1
    have f4 := (h1.t1 4 (by omega)).2
    have f5 := (h1.t1 5 (by omega)).2
    have H1 := Lib.hid h1
    clear h1 b1
    have g0 := H1.out
    have g1 := g0.set 4 (by omega) rfl (.int .i64 a)
    have g2 := g1.set 5 (by omega) rfl (.int .i64 b)
    have G := Lib.hid g2
    clear g0 g1 g2
    have hr := G.out.r1
    try dsimp only
    go_wp2_with (first | (refine wpList_load_mid rfl 26 (.tmp 6) rfl (w.heap.size + 1) 0 rfl [.int .i64 6, .int .i64 0, .string ⟨#[]⟩, .slice none 0 0, .int .i64 a, .int .i64 b] _ hr Tryd.underlying26 rfl size_val6 ?_) | (refine wpList_store_mid rfl 26 (.tmp 4) (.tmp 58) rfl w.heap.size 0 ([.int .i64 6, .int .i64 0, .string ⟨#[]⟩, .slice none 0 0, .int .i64 a, .int .i64 b] : List Value).toArray rfl rfl G.out.t0 size_val6 (all_oneCell_toArray one6r) ?_))
    refine bodyPost_ret (results_cell_mid6 rfl _ _ w.heap.size 0 [.int .i64 6, .int .i64 0, .string ⟨#[]⟩, .slice none 0 0, .int .i64 a, .int .i64 b] _ rfl (range_stored G.out.t0) Tryd.underlying26 rfl size_val6) rfl ?_
    exact ⟨⟨#[]⟩, none, 0, 0, rfl, rfl, Nat.le_refl _, rfl, Bs.empty _ _ _, (below_setCells G.out.bel (Nat.le_refl _) _ 0)⟩
set_option maxHeartbeats 4000000 in
theorem read_text (s : ByteArray) (hs : s.size ≤ 1000000) (w : World) (hU : Tabs w) :
    Calls Tryd.prog 9 #[.int .i64 3, .string s] w (if textE s.data.toList = 0 then RdRet 3 0 s.data.toList [] 0 0 0 w else RdRet 0 0 [] [] 0 0 (textE s.data.toList) w) := by
  have hN := RdW.new_ w 3
  have hL := fun W (h : Below w.heap.size w W) => text_p s hs W (hU.below h hU.size)
  obtain ⟨er, her⟩ : ∃ er, textE s.data.toList = er := ⟨_, rfl⟩
  rw [her] at hL ⊢
  have HL := Lib.hid (And.intro hL hN)
  clear hU her hL hN
  by_cases h0 : er = 0
  · subst h0
    rw [if_pos rfl]
    go_enter Tryd.func9, Tryd.ntmps9
    go_wp2_with fail
    refine (HL.out.1 _ HL.out.2.bel).mono ?_
    rintro e w1 ⟨t, rfl, ht, b1⟩
    obtain rfl : t = s := by simpa using ht
    clear ht
    have h1 := HL.out.2.below b1
    obtain ⟨q0, q1, q2, q3, q4, q5⟩ := six h1.r1
    have f2 := (h1.t1 2 (by omega)).2
    have H1 := Lib.hid h1
    clear h1 b1
    have g0 := H1.out
    have g1 := g0.set 2 (by omega) rfl (.string t)
    have G := Lib.hid g1
    clear g0 g1
    have hr := G.out.r1
    try dsimp only
    go_wp2_with (first | (refine wpList_load_mid rfl 26 (.tmp 6) rfl (w.heap.size + 1) 0 rfl [.int .i64 3, .int .i64 0, .string t, .slice none 0 0, .int .i64 0, .int .i64 0] _ hr Tryd.underlying26 rfl size_val6 ?_) | (refine wpList_store_mid rfl 26 (.tmp 4) (.tmp 58) rfl w.heap.size 0 ([.int .i64 3, .int .i64 0, .string t, .slice none 0 0, .int .i64 0, .int .i64 0] : List Value).toArray rfl rfl G.out.t0 size_val6 (all_oneCell_toArray one6r) ?_))
    refine bodyPost_ret (results_cell_mid6 rfl _ _ w.heap.size 0 [.int .i64 3, .int .i64 0, .string t, .slice none 0 0, .int .i64 0, .int .i64 0] _ rfl (range_stored G.out.t0) Tryd.underlying26 rfl size_val6) rfl ?_
    exact ⟨t, none, 0, 0, rfl, rfl, Nat.le_refl _, rfl, Bs.empty _ _ _, (below_setCells G.out.bel (Nat.le_refl _) _ 0)⟩
  · rw [if_neg h0]
    have hne : (er != 0) = true := bne_iff_ne.2 h0
    go_enter Tryd.func9, Tryd.ntmps9
    go_wp2_with fail
    refine (HL.out.1 _ HL.out.2.bel).mono ?_
    rintro e w1 ⟨t, rfl, ht, b1⟩
    rw [if_neg h0] at ht
    subst ht
    have h1 := HL.out.2.below b1
    obtain ⟨q0, q1, q2, q3, q4, q5⟩ := six h1.r1
    have f2 := (h1.t1 2 (by omega)).2
    have H1 := Lib.hid h1
    clear h1 b1
    have g0 := H1.out
    have g1 := g0.set 2 (by omega) rfl (.string ⟨#[]⟩)
    have G := Lib.hid g1
    clear g0 g1
    try dsimp only
    go_wp2_with (refine wpList_store_mid rfl 26 (.tmp 4) (.tmp 56) rfl w.heap.size 0 zv6.toArray rfl rfl G.out.t0 size_val6 (all_oneCell_toArray one6r) ?_)
    refine bodyPost_ret (results_cell_mid6 rfl _ _ w.heap.size 0 zv6 _ rfl (range_stored G.out.t0) Tryd.underlying26 rfl size_val6) rfl ?_
    exact RdRet.none_ (below_setCells G.out.bel (Nat.le_refl _) _ 0)
set_option maxHeartbeats 4000000 in
theorem read_bytes (s : ByteArray) (hs : s.size ≤ 1000000) (w : World) (h0 : (unQ s.data.toList).2 = 0) :
    Calls Tryd.prog 9 #[.int .i64 4, .string s] w (RdRet 4 0 [] (unQ s.data.toList).1 0 0 0 w) := by
  have hN := RdW.new_ w 4
  have hL := fun W => unbase64_a s hs W
  obtain ⟨⟨l, er⟩, hr⟩ : ∃ r, unQ s.data.toList = r := ⟨_, rfl⟩
  rw [hr] at h0 hL ⊢
  dsimp only at h0 ⊢
  subst h0
  have HL := Lib.hid (And.intro hL hN)
  clear hr hL hN
  go_enter Tryd.func9, Tryd.ntmps9
  go_wp2_with fail
  refine (HL.out.1 _).mono ?_
  rintro e w1 ⟨A, m, c, rfl, hmc, hml, hbs, b1, hfr⟩
  have h1 := HL.out.2.below b1
  obtain ⟨q0, q1, q2, q3, q4, q5⟩ := six h1.r1
  have f3 := (h1.t1 3 (by omega)).2
  have HB := Lib.hid (And.intro hbs (And.intro hmc (And.intro hml hfr)))
  have H1 := Lib.hid h1
  clear h1 b1 hbs hmc hml hfr
  have g0 := H1.out
  have g1 := g0.set 3 (by omega) rfl (.slice A m c)
  have G := Lib.hid g1
  clear g0 g1
  have hr := G.out.r1
  try dsimp only
  go_wp2_with (first | (refine wpList_load_mid rfl 26 (.tmp 6) rfl (w.heap.size + 1) 0 rfl [.int .i64 4, .int .i64 0, .string ⟨#[]⟩, .slice A m c, .int .i64 0, .int .i64 0] _ hr Tryd.underlying26 rfl size_val6 ?_) | (refine wpList_store_mid rfl 26 (.tmp 4) (.tmp 58) rfl w.heap.size 0 ([.int .i64 4, .int .i64 0, .string ⟨#[]⟩, .slice A m c, .int .i64 0, .int .i64 0] : List Value).toArray rfl rfl G.out.t0 size_val6 (all_oneCell_toArray one6r) ?_))
  refine bodyPost_ret (results_cell_mid6 rfl _ _ w.heap.size 0 [.int .i64 4, .int .i64 0, .string ⟨#[]⟩, .slice A m c, .int .i64 0, .int .i64 0] _ rfl (range_stored G.out.t0) Tryd.underlying26 rfl size_val6) rfl ?_
  exact ⟨⟨#[]⟩, A, m, c, rfl, rfl, HB.out.2.1, HB.out.2.2.1, bs_off HB.out.1 (fun ad e => by have := HB.out.2.2.2 ad e; rw [alloc_size, alloc_size] at this; omega), (below_setCells G.out.bel (Nat.le_refl _) _ 0)⟩
set_option maxHeartbeats 4000000 in
theorem read_num1 (s : ByteArray) (hs : s.size ≤ 1000000) (w : World) (hE : TabE w) (hD : TabD w) :
    Calls Tryd.prog 9 #[.int .i64 1, .string s] w (match numP s.data.toList with | some n => RdRet 1 n [] [] 0 0 0 w | none => RdRet 0 0 [] [] 0 0 20 w) := by
  have hN := RdW.new_ w 1
  have hL := fun W (h : Below w.heap.size w W) => number_p s hs W (hE.below h hE.size) (hD.below h hD.size)
  rcases hR : numP s.data.toList with _ | n
  · simp only [hR, numR_none] at hL
    have HL := Lib.hid (And.intro hL hN)
    clear hE hD hR hL hN
    go_enter Tryd.func9, Tryd.ntmps9
    go_wp2_with fail
    refine (HL.out.1 _ HL.out.2.bel).mono ?_
    rintro e w1 ⟨rfl, b1⟩
    have h1 := HL.out.2.below b1
    obtain ⟨q0, q1, q2, q3, q4, q5⟩ := six h1.r1
    have f1 := (h1.t1 1 (by omega)).2
    have H1 := Lib.hid h1
    clear h1 b1
    have g0 := H1.out
    have g1 := g0.set 1 (by omega) rfl (.int .i64 0)
    have G := Lib.hid g1
    clear g0 g1
    try dsimp only
    go_wp2_with (refine wpList_store_mid rfl 26 (.tmp 4) (.tmp 56) rfl w.heap.size 0 zv6.toArray rfl rfl G.out.t0 size_val6 (all_oneCell_toArray one6r) ?_)
    refine bodyPost_ret (results_cell_mid6 rfl _ _ w.heap.size 0 zv6 _ rfl (range_stored G.out.t0) Tryd.underlying26 rfl size_val6) rfl ?_
    exact RdRet.none_ (below_setCells G.out.bel (Nat.le_refl _) _ 0)
  · simp only [hR, numR_some] at hL
    have HL := Lib.hid (And.intro hL hN)
    clear hE hD hR hL hN
    go_enter Tryd.func9, Tryd.ntmps9
    go_wp2_with fail
    refine (HL.out.1 _ HL.out.2.bel).mono ?_
    rintro e w1 ⟨rfl, b1⟩
    have h1 := HL.out.2.below b1
    obtain ⟨q0, q1, q2, q3, q4, q5⟩ := six h1.r1
    have f1 := (h1.t1 1 (by omega)).2
    have H1 := Lib.hid h1
    clear h1 b1
    have g0 := H1.out
    have g1 := g0.set 1 (by omega) rfl (.int .i64 n)
    have G := Lib.hid g1
    clear g0 g1
    have hr := G.out.r1
    try dsimp only
    go_wp2_with (first | (refine wpList_load_mid rfl 26 (.tmp 6) rfl (w.heap.size + 1) 0 rfl [.int .i64 1, .int .i64 n, .string ⟨#[]⟩, .slice none 0 0, .int .i64 0, .int .i64 0] _ hr Tryd.underlying26 rfl size_val6 ?_) | (refine wpList_store_mid rfl 26 (.tmp 4) (.tmp 58) rfl w.heap.size 0 ([.int .i64 1, .int .i64 n, .string ⟨#[]⟩, .slice none 0 0, .int .i64 0, .int .i64 0] : List Value).toArray rfl rfl G.out.t0 size_val6 (all_oneCell_toArray one6r) ?_))
    refine bodyPost_ret (results_cell_mid6 rfl _ _ w.heap.size 0 [.int .i64 1, .int .i64 n, .string ⟨#[]⟩, .slice none 0 0, .int .i64 0, .int .i64 0] _ rfl (range_stored G.out.t0) Tryd.underlying26 rfl size_val6) rfl ?_
    exact ⟨⟨#[]⟩, none, 0, 0, rfl, rfl, Nat.le_refl _, rfl, Bs.empty _ _ _, (below_setCells G.out.bel (Nat.le_refl _) _ 0)⟩
set_option maxHeartbeats 4000000 in
theorem read_num5 (s : ByteArray) (hs : s.size ≤ 1000000) (w : World) (hE : TabE w) (hD : TabD w) :
    Calls Tryd.prog 9 #[.int .i64 5, .string s] w (match numP s.data.toList with | some n => RdRet 5 n [] [] 0 0 0 w | none => RdRet 0 0 [] [] 0 0 20 w) := by
  have hN := RdW.new_ w 5
  have hL := fun W (h : Below w.heap.size w W) => number_p s hs W (hE.below h hE.size) (hD.below h hD.size)
  rcases hR : numP s.data.toList with _ | n
  · simp only [hR, numR_none] at hL
    have HL := Lib.hid (And.intro hL hN)
    clear hE hD hR hL hN
    go_enter Tryd.func9, Tryd.ntmps9
    go_wp2_with fail
    refine (HL.out.1 _ HL.out.2.bel).mono ?_
    rintro e w1 ⟨rfl, b1⟩
    have h1 := HL.out.2.below b1
    obtain ⟨q0, q1, q2, q3, q4, q5⟩ := six h1.r1
    have f1 := (h1.t1 1 (by omega)).2
    have H1 := Lib.hid h1
    clear h1 b1
    have g0 := H1.out
    have g1 := g0.set 1 (by omega) rfl (.int .i64 0)
    have G := Lib.hid g1
    clear g0 g1
    try dsimp only
    go_wp2_with (refine wpList_store_mid rfl 26 (.tmp 4) (.tmp 56) rfl w.heap.size 0 zv6.toArray rfl rfl G.out.t0 size_val6 (all_oneCell_toArray one6r) ?_)
    refine bodyPost_ret (results_cell_mid6 rfl _ _ w.heap.size 0 zv6 _ rfl (range_stored G.out.t0) Tryd.underlying26 rfl size_val6) rfl ?_
    exact RdRet.none_ (below_setCells G.out.bel (Nat.le_refl _) _ 0)
  · simp only [hR, numR_some] at hL
    have HL := Lib.hid (And.intro hL hN)
    clear hE hD hR hL hN
    go_enter Tryd.func9, Tryd.ntmps9
    go_wp2_with fail
    refine (HL.out.1 _ HL.out.2.bel).mono ?_
    rintro e w1 ⟨rfl, b1⟩
    have h1 := HL.out.2.below b1
    obtain ⟨q0, q1, q2, q3, q4, q5⟩ := six h1.r1
    have f1 := (h1.t1 1 (by omega)).2
    have H1 := Lib.hid h1
    clear h1 b1
    have g0 := H1.out
    have g1 := g0.set 1 (by omega) rfl (.int .i64 n)
    have G := Lib.hid g1
    clear g0 g1
    have hr := G.out.r1
    try dsimp only
    go_wp2_with (first | (refine wpList_load_mid rfl 26 (.tmp 6) rfl (w.heap.size + 1) 0 rfl [.int .i64 5, .int .i64 n, .string ⟨#[]⟩, .slice none 0 0, .int .i64 0, .int .i64 0] _ hr Tryd.underlying26 rfl size_val6 ?_) | (refine wpList_store_mid rfl 26 (.tmp 4) (.tmp 58) rfl w.heap.size 0 ([.int .i64 5, .int .i64 n, .string ⟨#[]⟩, .slice none 0 0, .int .i64 0, .int .i64 0] : List Value).toArray rfl rfl G.out.t0 size_val6 (all_oneCell_toArray one6r) ?_))
    refine bodyPost_ret (results_cell_mid6 rfl _ _ w.heap.size 0 [.int .i64 5, .int .i64 n, .string ⟨#[]⟩, .slice none 0 0, .int .i64 0, .int .i64 0] _ rfl (range_stored G.out.t0) Tryd.underlying26 rfl size_val6) rfl ?_
    exact ⟨⟨#[]⟩, none, 0, 0, rfl, rfl, Nat.le_refl _, rfl, Bs.empty _ _ _, (below_setCells G.out.bel (Nat.le_refl _) _ 0)⟩
end Go.Proofs.YtbclgalocipmfaaDoor
