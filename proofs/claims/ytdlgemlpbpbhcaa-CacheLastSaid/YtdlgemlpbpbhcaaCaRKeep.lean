/-
  The document's list of answers: one more is kept.
-/
import Derived.Test.YtdlgemlpbpbhcaaCaRef
import Derived.Test.YtdlgemlpbpbhcaaCaKept
namespace Go.Proofs.Ytdlgemlpbpbhcaa
open Go.RowKit
set_option linter.unusedVariables false
/-- The first place of the smallest, of the first k. -/
def fm (ts : List Int) : Nat → Nat
  | 0 => 0
  | k + 1 => if (ts[k]?).getD 0 < (ts[fm ts k]?).getD 0 then k else fm ts k
theorem fm_lt (ts : List Int) : ∀ k, 0 < k → fm ts k < k
  | 0, h => absurd h (by omega)
  | 1, _ => by
    unfold fm; split <;> simp [fm]
  | k + 2, _ => by
    have := fm_lt ts (k + 1) (by omega)
    unfold fm; split <;> omega
theorem fm_one (ts : List Int) : fm ts 1 = 0 := by unfold fm; split <;> rfl
/-- The list with one more. -/
def rkA (vs : List An) (x : An) : List An :=
  let d := vs.filter (fun s => !(s.f == x.f && s.i == x.i)) ++ [x]
  if d.length ≤ 8 then d else d.eraseIdx (fm (d.map An.t) d.length)
theorem erase_step {D : List An} {k j : Nat} {s : An} (hs : D[k]? = some s) : (D.take (k + 1)).eraseIdx j = (D.take k).eraseIdx j ++ (if k = j then [] else [s]) := by
  have hk := (List.getElem?_eq_some_iff.1 hs).1
  have hl : (D.take k).length = k := by rw [List.length_take]; omega
  rw [List.take_add_one, hs]
  by_cases h : k = j
  · subst h
    have e1 : (D.take k).eraseIdx k = D.take k := List.eraseIdx_of_length_le (by omega)
    rw [if_pos rfl, List.append_nil, e1]
    show (D.take k ++ [s]).eraseIdx k = _
    rw [List.eraseIdx_append_of_length_le (by omega), hl, Nat.sub_self]
    simp
  · rw [if_neg h]
    by_cases hj : j < k
    · rw [List.eraseIdx_append_of_lt_length (by omega)]; rfl
    · rw [List.eraseIdx_append_of_length_le (by omega), hl, List.eraseIdx_of_length_le (l := D.take k) (by omega)]
      congr 1
      rw [show j - k = (j - k - 1) + 1 by omega]; rfl
theorem infoK : (Try.prog.info? 55).map (fun i => (i.zero, i.size, i.bytes)) = some (some (.agg #[.int .i64 0, .int .i64 0, .int .i64 0, .slice none 0 0]), 4, 48) := by kernel_rfl
theorem lit_new (w : World) (e : TypeId) (fr : Nat × Nat) (s : An) : ∀ j u, s.vals[j]? = some u → (w.alloc (.cells #[.int .i64 s.f, .int .i64 s.i, .int .i64 s.t, .slice s.A s.n s.c] e fr)).cell? ((⟨w.heap.size, 0, none⟩ : Addr).add j) = some u := by
  intro j u hu
  rw [add_lit', cell_of_row _ _ _ _ _ _ (heap_alloc_new w _), Nat.zero_add, ← Array.getElem?_toList]
  exact hu
theorem grown_below {w wr w1 : World} {v : Value} {base n : Nat} {e : TypeId} {xs : List Value} {sz : Nat} (h : Below w.heap.size w wr) (ho : wr.ownsRow base e sz v n xs) (hb : w.heap.size ≤ base) (hg : wr.grownBy w1 v.ownBlock) : Below w.heap.size w w1 :=
  h.grown hg h.size (fun g e => by have := (ho.lt g e).1; omega)
theorem keepA_step {vs : List An} {k : Nat} {s : An} {p : An → Bool} (hs : vs[k]? = some s) : (vs.take (k + 1)).filter p = (vs.take k).filter p ++ (if p s = true then [s] else []) := by
  rw [List.take_add_one, hs, List.filter_append]
  congr 1
  cases hp : p s <;> simp [List.filter, hp]
theorem own_apart {w : World} {base base' sz sz' n n' : Nat} {e e' : TypeId} {v v' : Value} {xs xs' : List Value} (h : w.ownsRow base e sz v n xs) (h' : w.ownsRow base' e' sz' v' n' xs') (he : e ≠ e') : v.ownBlock = none ∨ v.ownBlock ≠ v'.ownBlock := by
  cases hv : v.ownBlock with
  | none => exact .inl rfl
  | some k =>
    refine .inr fun e1 => ?_
    rcases h.2 with ⟨rfl, _⟩ | ⟨g, cap, cur, rfl, _, hg, _⟩
    · simp [Value.ownBlock] at hv
    · simp only [Value.ownBlock, Option.some.injEq] at hv
      subst hv
      exact own_ne h' hg he e1.symm
section
variable {P : Program} (w : World)
/-- One element appended to the call's own row. -/
theorem append_one {ops : Array Oper} {rest : List Oper} {o : Oper} {a : Act} {Q : Exit → Act → World → Prop} (hgd : o.guard = none) (s y : Operand) (t : TypeId)
    (ho : o.op = .call { callee := .builtin .append, args := #[s, y], argTypes := #[t, t] })
    (base : Nat) (e : TypeId) (i : TypeInfo) (z : Value) (ht : P.underlying t = some (.slice e)) (hi : P.info? e = some i) (hz : i.zero = some z)
    (hsize : i.size = 4) (hby : i.bytes = 48) (hzs : z.cells.size = 4) (v : Value) (X : List An) (hs : a.eval s = v) (hown : w.ownsRow base e 4 v X.length (ans X))
    (x : An) (fr : Nat × Nat) (hy : a.eval y = .slice (some ⟨w.heap.size, 0, none⟩) 1 1) (hX : X.length ≤ 1000) (hbase : base ≤ w.heap.size)
    (h : ∀ A' c' w', w'.ownsRow base e 4 (.slice A' (X.length + 1) c') (X ++ [x]).length (ans (X ++ [x])) → (w.alloc (.cells #[.int .i64 x.f, .int .i64 x.i, .int .i64 x.t, .slice x.A x.n x.c] e fr)).grownBy w' v.ownBlock → wpList P ops Q rest (a.put o.dst (.slice A' (X.length + 1) c')) w') :
    wpList P ops Q (o :: rest) a (w.alloc (.cells #[.int .i64 x.f, .int .i64 x.i, .int .i64 x.t, .slice x.A x.n x.c] e fr)) := by
  refine wpList_append_own _ hgd s y t ho base e i z 4 48 ht hi hz hsize hby hzs (by omega) v X.length (ans X) hs (hown.alloc _) ⟨w.heap.size, 0, none⟩ 1 1 x.vals hy rfl (lit_new w e fr x) (vals_one x) (by simp only [maxLen]; omega) (by omega) (by rw [alloc_size]; omega) ?_
  intro v' w' h2 h3 _
  have h4 : w'.ownsRow base e 4 v' (X.length + 1) (ans (X ++ [x])) := by rw [ans_append]; exact h2
  obtain ⟨A', c', rfl, _, _⟩ := Ah.of_own h4
  refine h A' c' w' ?_ h3
  rw [List.length_append]; exact h4
end
def RKPost (w : World) (vs : List An) (f i T : Int) (l : List UInt8) (e : Ending) (w' : World) : Prop :=
  ∃ v' x, e = .returned v' ∧ Below w.heap.size w w' ∧ (x.f = f ∧ x.i = i ∧ x.t = T ∧ x.n = l.length) ∧ w'.ownsRow w.heap.size 5 1 (.slice x.A x.n x.c) x.n (U8 l) ∧ w'.ownsRow w.heap.size 55 4 v' (rkA vs x).length (ans (rkA vs x))
set_option maxHeartbeats 16000000 in
theorem rkeep_f (A : Option Addr) (n c : Nat) (vs : List An) (w : World) (h : Ah w w.heap.size A n vs) (htk : ∀ s ∈ vs, 0 ≤ s.t ∧ s.t ≤ 1099511627776) (hn : (n : Int) ≤ 1000) (fr id now : Int) (A2 : Option Addr) (n2 c2 : Nat) (l : List UInt8) (hb : Bs w w.heap.size A2 n2 l) (hn2 : (n2 : Int) ≤ 65536) :
    Calls Try.prog 10 #[.slice A n c, .int .i64 fr, .int .i64 id, .int .i64 now, .slice A2 n2 c2] w (RKPost w vs fr id (clampN now) l) := by
  obtain ⟨i0, hi0, hz0, hz1, hz2⟩ := info_parts infoK
  have hT := clampN_in now
  have hcl := fun W => clock_f now W
  generalize clampN now = T at *
  have HT := Lib.hid (And.intro hcl hT)
  have hvl := Lib.hid h.len
  have HB := Lib.hid hb
  clear hcl hb
  go_enter Try.func10, Try.ntmps10
  go_wp2
  refine wp_at_world (F := fun W => Below w.heap.size w W ∧ W.ownsRow w.heap.size 55 4 (.slice (some ⟨w.heap.size, 0, none⟩) 0 0) 0 []) ⟨alloc_below _ _, ca_row w _ (Nat.le_refl _) _ _⟩ fun w1 ⟨b1, o1⟩ => ?_
  have H1 := Lib.hid (And.intro b1 o1)
  clear b1 o1
  go_loopw [11, 12] (fun v1 iv wr => ∃ k : Nat, k ≤ n ∧ iv = .int .i64 (k : Int) ∧ Aside (wr.ownsRow w.heap.size 55 4 v1 ((vs.take k).filter (fun s => !(s.f == fr && s.i == id))).length (ans ((vs.take k).filter (fun s => !(s.f == fr && s.i == id)))) ∧ Below w.heap.size w wr)) (fun _ iv _ => n - (intOf iv).toNat)
  case atStart => exact ⟨0, Nat.zero_le _, rfl, H1.out.2, H1.out.1⟩
  case round =>
    obtain ⟨k, hk, rfl, hrel⟩ := hrel
    by_cases hlt : k < n
    · obtain ⟨s, hs⟩ := an_get h hlt
      obtain ⟨b, off, rfl, hb, _⟩ := h.place (by omega)
      have hwr := h.below hrel.out.2
      have hrg := hwr.range hs
      obtain ⟨d0, d1, d2, d3⟩ := an_cells hrg
      have hlen : ((vs.take k).filter (fun s => !(s.f == fr && s.i == id))).length ≤ 1000 := Nat.le_trans (List.length_filter_le _ _) (by rw [List.length_take]; omega)
      have hnx := keepA_step (p := fun s => !(s.f == fr && s.i == id)) hs
      have HR := Lib.hid (And.intro hrel.out (And.intro hs hlen))
      have hsz := hrel.out.2.size
      clear hrel hs hwr hlen
      simp only [An.vals] at hrg
      by_cases hf : s.f = fr
      · subst hf
        by_cases hi : s.i = id
        · have hp : (!(s.f == s.f && s.i == id)) = false := by rw [hi]; simp
          rw [if_neg (by rw [hp]; decide), List.append_nil] at hnx
          have HN := Lib.hid hnx
          clear hnx hp
          go_wp2_with fail
          go_roundw
          case rel => exact ⟨k + 1, by omega, by go_num, (show Aside _ from ⟨by rw [HN.out]; exact HR.out.1.1, HR.out.1.2⟩)⟩
          case measure => simp [intOf]; omega
        · have hp : (!(s.f == s.f && s.i == id)) = true := by rw [beq_eq_false_iff_ne.2 hi]; simp
          rw [if_pos hp] at hnx
          have HN := Lib.hid hnx
          clear hnx hp
          go_wp2_with (first
            | (refine wpList_load_mid rfl 55 (.tmp 43) rfl b (off + k * 4) rfl [.int .i64 s.f, .int .i64 s.i, .int .i64 s.t, .slice s.A s.n s.c] _ hrg Try.underlying55 rfl size_kept ?_)
            | (at_builtin; refine wpList_append_own _ rfl (.tmp 40) (.tmp 45) 27 rfl w.heap.size 55 i0 _ 4 48 Try.underlying27 hi0 hz0 hz1 hz2 rfl (by omega) _ _ _ rfl (HR.out.1.1.alloc _) ⟨wr.heap.size, 0, none⟩ 1 1 s.vals rfl rfl (lit_new wr _ _ s) (vals_one s) (by have := HR.out.2.2; simp only [maxLen]; omega) (by have := HR.out.2.2; omega) (by rw [alloc_size]; omega) ?_; intro v' w' hown hgr _; have HW := Lib.hid (And.intro hown (grown_below (HR.out.1.2.alloc hsz _) (HR.out.1.1.alloc _) (Nat.le_refl _) hgr)); clear hown hgr))
          go_roundw
          case rel => exact ⟨k + 1, by omega, by go_num, (show Aside _ from ⟨by rw [HN.out, ans_append, List.length_append]; exact HW.out.1, HW.out.2⟩)⟩
          case measure => simp [intOf]; omega
      · have hp : (!(s.f == fr && s.i == id)) = true := by rw [beq_eq_false_iff_ne.2 hf]; simp
        rw [if_pos hp] at hnx
        have HN := Lib.hid hnx
        clear hnx hp
        go_wp2_with (first
          | (refine wpList_load_mid rfl 55 (.tmp 43) rfl b (off + k * 4) rfl [.int .i64 s.f, .int .i64 s.i, .int .i64 s.t, .slice s.A s.n s.c] _ hrg Try.underlying55 rfl size_kept ?_)
          | (at_builtin; refine wpList_append_own _ rfl (.tmp 40) (.tmp 45) 27 rfl w.heap.size 55 i0 _ 4 48 Try.underlying27 hi0 hz0 hz1 hz2 rfl (by omega) _ _ _ rfl (HR.out.1.1.alloc _) ⟨wr.heap.size, 0, none⟩ 1 1 s.vals rfl rfl (lit_new wr _ _ s) (vals_one s) (by have := HR.out.2.2; simp only [maxLen]; omega) (by have := HR.out.2.2; omega) (by rw [alloc_size]; omega) ?_; intro v' w' hown hgr _; have HW := Lib.hid (And.intro hown (grown_below (HR.out.1.2.alloc hsz _) (HR.out.1.1.alloc _) (Nat.le_refl _) hgr)); clear hown hgr))
        go_roundw
        case rel => exact ⟨k + 1, by omega, by go_num, (show Aside _ from ⟨by rw [HN.out, ans_append, List.length_append]; exact HW.out.1, HW.out.2⟩)⟩
        case measure => simp [intOf]; omega
    · obtain rfl : k = n := by omega
      have hdq : (vs.take k).filter (fun s => !(s.f == fr && s.i == id)) = vs.filter (fun s => !(s.f == fr && s.i == id)) := by rw [List.take_of_length_le (by rw [hvl.out]; exact Nat.le_refl _)]
      have hr0 := hrel.out
      rw [hdq] at hr0
      have hrk : ∀ x : An, x.f = fr → x.i = id → rkA vs x = (if (vs.filter (fun s => !(s.f == fr && s.i == id)) ++ [x]).length ≤ 8 then vs.filter (fun s => !(s.f == fr && s.i == id)) ++ [x] else (vs.filter (fun s => !(s.f == fr && s.i == id)) ++ [x]).eraseIdx (fm ((vs.filter (fun s => !(s.f == fr && s.i == id)) ++ [x]).map An.t) (vs.filter (fun s => !(s.f == fr && s.i == id)) ++ [x]).length)) := fun x e1 e2 => by unfold rkA; rw [e1, e2]
      have hdl : (vs.filter (fun s => !(s.f == fr && s.i == id))).length ≤ 1000 := Nat.le_trans (List.length_filter_le _ _) (by rw [hvl.out]; omega)
      generalize vs.filter (fun s => !(s.f == fr && s.i == id)) = d at *
      obtain ⟨q, hq⟩ : ∃ q, d.length = q := ⟨_, rfl⟩
      rw [hq] at hr0 hdl
      have HD := Lib.hid (And.intro hr0 (And.intro hrk hq))
      have hsz := hr0.2.size
      clear hrel hr0 hrk hdq hq
      go_wp2_with fail
      refine (HT.out.1 _).mono ?_
      rintro e w2 ⟨rfl, hw⟩
      obtain rfl := hw.symm
      clear hw
      go_wp2_with fail
      have hrb := HD.out.1.2
      refine (rcopy_any A2 n2 c2 l wr _ ((HB.out.below hrb).more hrb.size) (Nat.le_refl _) hn2).mono ?_
      rintro e w3 ⟨v3, rfl, ho3, b3⟩
      obtain ⟨A3, c3, rfl, hc3, hbs3⟩ := Bs.of_own ho3
      obtain ⟨x, hx⟩ : ∃ x : An, x = ⟨fr, id, T, A3, l.length, c3⟩ := ⟨_, rfl⟩
      have H3 := Lib.hid (And.intro (row_below4 HD.out.1.1 b3) (And.intro (hrb.trans (b3.mono hrb.size)) (And.intro ho3 (And.intro hx b3.size))))
      have hsz3 := b3.size
      clear hrb ho3 b3 hbs3
      by_cases h8 : (q : Int) + 1 ≤ 8
      · have h8n : q + 1 ≤ 8 := by omega
        go_wp2_with (at_builtin; refine append_one w3 rfl (.tmp 47) (.tmp 55) 27 rfl w.heap.size 55 i0 _ Try.underlying27 hi0 hz0 hz1 hz2 rfl _ d rfl (by rw [HD.out.2.2]; exact H3.out.1) ⟨fr, id, T, A3, l.length, c3⟩ _ rfl (by rw [HD.out.2.2]; omega) (by omega) ?_; intro A4 c4 w4 hown hgr; rw [HD.out.2.2]; have H4 := Lib.hid (And.intro hown (And.intro (grown_below (H3.out.2.1.alloc (Nat.le_trans hsz hsz3) _) (H3.out.1.alloc _) (Nat.le_refl _) hgr) ((H3.out.2.2.1.alloc _).kept hgr (own_apart H3.out.2.2.1 H3.out.1 (by decide))))); clear hown hgr)
        go_ret
        have hrx := HD.out.2.1 ⟨fr, id, T, A3, l.length, c3⟩ rfl rfl
        rw [if_pos (by rw [List.length_append, HD.out.2.2]; exact h8n)] at hrx
        refine ⟨_, ⟨fr, id, T, A3, l.length, c3⟩, rfl, H4.out.2.1, ⟨rfl, rfl, rfl, rfl⟩, own_mono H4.out.2.2 hsz, ?_⟩
        rw [hrx]
        have h4 := H4.out.1
        rw [List.length_append] at h4 ⊢
        rw [HD.out.2.2] at h4 ⊢
        exact h4
      · have h8n : ¬ q + 1 ≤ 8 := by omega
        go_wp2_with (at_builtin; refine append_one w3 rfl (.tmp 47) (.tmp 55) 27 rfl w.heap.size 55 i0 _ Try.underlying27 hi0 hz0 hz1 hz2 rfl _ d rfl (by rw [HD.out.2.2]; exact H3.out.1) ⟨fr, id, T, A3, l.length, c3⟩ _ rfl (by rw [HD.out.2.2]; omega) (by omega) ?_; intro A4 c4 w4 hown hgr; rw [HD.out.2.2]; have H4 := Lib.hid (And.intro hown (And.intro (grown_below (H3.out.2.1.alloc (Nat.le_trans hsz hsz3) _) (H3.out.1.alloc _) (Nat.le_refl _) hgr) ((H3.out.2.2.1.alloc _).kept hgr (own_apart H3.out.2.2.1 H3.out.1 (by decide))))); clear hown hgr)
        obtain ⟨D, hD⟩ : ∃ D, d ++ [⟨fr, id, T, A3, l.length, c3⟩] = D := ⟨_, rfl⟩
        have hDl : D.length = q + 1 := by rw [← hD, List.length_append, HD.out.2.2]; rfl
        have h41 := H4.out.1
        rw [hD, hDl] at h41
        have h4a : Ah w4 w4.heap.size A4 (q + 1) D := by
          obtain ⟨A', c', e1, _, h⟩ := Ah.of_own h41
          injection e1 with e1 _ _
          rw [e1]; exact h
        obtain ⟨ts, hts⟩ : ∃ ts, D.map An.t = ts := ⟨_, rfl⟩
        have hat : ∀ (k : Nat) (s : An), D[k]? = some s → (ts[k]?).getD 0 = s.t := fun k s hs => by rw [← hts, List.getElem?_map, hs]; rfl
        have HX := Lib.hid (And.intro hD (And.intro hDl (And.intro h41 (And.intro hts hat))))
        have hqI : (q : Int) ≤ 1000 := by omega
        clear hD hDl h41 hts hat
        go_loopw [13, 14] (fun fv iv wz => ∃ k m : Nat, 1 ≤ k ∧ k ≤ q + 1 ∧ iv = .int .i64 (k : Int) ∧ fv = .int .i64 ((fm ts k : Nat) : Int) ∧ wz = w4.drewN m) (fun _ iv _ => q + 1 - (intOf iv).toNat)
        case atStart => exact ⟨1, 0, Nat.le_refl _, by omega, rfl, by rw [fm_one]; rfl, rfl⟩
        case round =>
          obtain ⟨j, m, hj1, hjq, rfl, rfl, hwz⟩ := hrel
          have hz4 : Ah wr w4.heap.size A4 (q + 1) D := h4a.keep (fun p _ => by rw [hwz]; rfl)
          have HZ := Lib.hid hwz
          clear hwz
          have hflt := fm_lt ts j (by omega)
          obtain ⟨r, hr⟩ : ∃ r, fm ts j = r := ⟨_, rfl⟩
          rw [hr] at hflt ⊢
          by_cases hlt2 : j < q + 1
          · obtain ⟨s, hs⟩ := an_get hz4 hlt2
            obtain ⟨s0, hs0⟩ := an_get hz4 (show r < q + 1 by omega)
            obtain ⟨b, off, rfl, hb, _⟩ := hz4.place (by omega)
            obtain ⟨d0, d1, d2, d3⟩ := an_cells (hz4.range hs)
            obtain ⟨g0, g1, g2, g3⟩ := an_cells (hz4.range hs0)
            have hI1 : (j : Int) < (q : Int) + 1 := by omega
            have hI2 : (r : Int) < (q : Int) + 1 := by omega
            have hfs : fm ts (j + 1) = if s.t < s0.t then j else r := by
              show (if (ts[j]?).getD 0 < (ts[fm ts j]?).getD 0 then j else fm ts j) = _
              rw [hr, HX.out.2.2.2.2 j s hs, HX.out.2.2.2.2 r s0 hs0]
            have HFS := Lib.hid hfs
            clear hfs hs hs0 d0 d1 d3 g0 g1 g3
            by_cases hless : s.t < s0.t
            · go_wp2
              go_quiet (fail)
              go_wp2
              go_roundw
              case rel => exact ⟨j + 1, _, by omega, by omega, by go_num, by rw [HFS.out, if_pos hless], by rw [HZ.out]; exact World.drewN_drewN ..⟩
              case measure => simp [intOf]; omega
            · go_wp2
              go_quiet (fail)
              go_wp2
              go_roundw
              case rel => exact ⟨j + 1, _, by omega, by omega, by go_num, by rw [HFS.out, if_neg (by omega)], by rw [HZ.out]; exact World.drewN_drewN ..⟩
              case measure => simp [intOf]; omega
          · obtain rfl : j = q + 1 := by omega
            have hcut : ¬ ((q : Int) + 1 < (q : Int) + 1) := by omega
            go_wp2
            obtain ⟨wp, rfl⟩ : ∃ wp, wp = wr := ⟨_, rfl⟩
            have b4r : Below w4.heap.size w4 wp := by rw [HZ.out]; exact drewN_below _ _ m
            refine wp_at_world (F := fun W => Below wp.heap.size wp W ∧ W.ownsRow wp.heap.size 55 4 (.slice (some ⟨wp.heap.size, 0, none⟩) 0 0) 0 []) ⟨alloc_below _ _, ca_row wp _ (Nat.le_refl _) _ _⟩ fun w6 ⟨b6, o6⟩ => ?_
            have H6 := Lib.hid (And.intro b6 (And.intro o6 b4r))
            clear b6 o6 b4r
            have HRR := Lib.hid hr
            clear hr
            go_loopw [15, 16] (fun v5 iv wz => ∃ k : Nat, k ≤ q + 1 ∧ iv = .int .i64 (k : Int) ∧ Aside (wz.ownsRow wp.heap.size 55 4 v5 ((D.take k).eraseIdx r).length (ans ((D.take k).eraseIdx r)) ∧ Below wp.heap.size wp wz)) (fun _ iv _ => q + 1 - (intOf iv).toNat)
            case atStart => exact ⟨0, Nat.zero_le _, rfl, H6.out.2.1, H6.out.1⟩
            case round =>
              obtain ⟨y, hyq, rfl, hrel⟩ := hrel
              by_cases hlt3 : y < q + 1
              · have hz5 := (hz4.more (B' := wp.heap.size) (H6.out.2.2.size)).below hrel.out.2
                obtain ⟨s, hs⟩ := an_get hz5 hlt3
                obtain ⟨b, off, rfl, hb, _⟩ := hz5.place (by omega)
                have hrg := hz5.range hs
                simp only [An.vals] at hrg
                have hI1 : (y : Int) < (q : Int) + 1 := by omega
                have hnx := erase_step (j := r) hs
                have hlen : ((D.take y).eraseIdx r).length ≤ 1000 := Nat.le_trans (List.length_eraseIdx_le _ _) (by rw [List.length_take]; omega)
                have hsz5 := hrel.out.2.size
                have HR := Lib.hid (And.intro hrel.out hlen)
                clear hrel hz5 hs hlen
                by_cases hyr : y = r
                · subst hyr
                  rw [if_pos rfl, List.append_nil] at hnx
                  have HN := Lib.hid hnx
                  clear hnx
                  go_wp2_with fail
                  go_roundw
                  case rel => exact ⟨y + 1, by omega, by go_num, (show Aside _ from ⟨by rw [HN.out]; exact HR.out.1.1, HR.out.1.2⟩)⟩
                  case measure => simp [intOf]; omega
                · rw [if_neg hyr] at hnx
                  have HN := Lib.hid hnx
                  have hyrI : ¬ (y : Int) = (r : Int) := by omega
                  clear hnx
                  go_wp2_with (first
                    | (refine wpList_load_mid rfl 55 (.tmp 92) rfl b (off + y * 4) rfl [.int .i64 s.f, .int .i64 s.i, .int .i64 s.t, .slice s.A s.n s.c] _ hrg Try.underlying55 rfl size_kept ?_)
                    | (at_builtin; refine append_one _ rfl (.tmp 89) (.tmp 94) 27 rfl wp.heap.size 55 i0 _ Try.underlying27 hi0 hz0 hz1 hz2 rfl _ ((D.take y).eraseIdx r) rfl HR.out.1.1 s _ rfl HR.out.2 hsz5 ?_; intro A5 c5 w5 hown hgr; have HW := Lib.hid (And.intro hown (grown_below (HR.out.1.2.alloc hsz5 _) (HR.out.1.1.alloc _) (Nat.le_refl _) hgr)); clear hown hgr))
                  go_roundw
                  case rel => exact ⟨y + 1, by omega, by go_num, (show Aside _ from ⟨by rw [HN.out]; have := HW.out.1; rw [List.length_append] at this ⊢; exact this, HW.out.2⟩)⟩
                  case measure => simp [intOf]; omega
              · obtain rfl : y = q + 1 := by omega
                have hcut2 : ¬ ((q : Int) + 1 < (q : Int) + 1) := by omega
                have hfin := hrel.out.1
                rw [List.take_of_length_le (l := D) (by rw [HX.out.2.1]; exact Nat.le_refl _)] at hfin
                have HFI := Lib.hid (And.intro hfin hrel.out.2)
                clear hfin hrel
                go_wp2
                go_ret
                have hrx := HD.out.2.1 ⟨fr, id, T, A3, l.length, c3⟩ rfl rfl
                rw [HX.out.1, HX.out.2.1, HX.out.2.2.2.1, if_neg h8n, HRR.out] at hrx
                have h4b := HFI.out.2.mono H6.out.2.2.size
                refine ⟨_, ⟨fr, id, T, A3, l.length, c3⟩, rfl, H4.out.2.1.trans ((H6.out.2.2.trans (HFI.out.2.mono H6.out.2.2.size)).mono H4.out.2.1.size), ⟨rfl, rfl, rfl, rfl⟩, ?_, ?_⟩
                · exact own_mono (row_below4 H4.out.2.2 (H6.out.2.2.trans (HFI.out.2.mono H6.out.2.2.size))) hsz
                · rw [hrx]
                  exact own_mono HFI.out.1 (Nat.le_trans H4.out.2.1.size H6.out.2.2.size)
end Go.Proofs.Ytdlgemlpbpbhcaa
