/-
  Answers that are kept: found.
-/
import Derived.Test.YtdlgemlpbpbhcaaCaFind
namespace Go.Proofs.Ytdlgemlpbpbhcaa
open Go.RowKit
set_option linter.unusedVariables false
/-- An answer's content: whose, which, when, its bytes. -/
structure Qa where
  f : Int
  i : Int
  t : Int
  l : List UInt8
structure Ka (w : World) (B : Nat) (s : An) (q : Qa) : Prop where
  f : s.f = q.f
  i : s.i = q.i
  t : s.t = q.t
  b : w.ownsRow B 5 1 (.slice s.A s.n s.c) s.n (U8 q.l)
  max : (s.n : Int) ≤ 1099511627776
theorem row_below4 {w w' : World} {base size n : Nat} {e : TypeId} {v : Value} {xs : List Value} (h : w.ownsRow base e size v n xs) (hb : Below w.heap.size w w') : w'.ownsRow base e size v n xs := by
  refine ⟨h.1, ?_⟩
  rcases h.2 with h2 | ⟨g, cap, cur, rfl, h3, h4, h5, h6, h7, h8⟩
  · exact .inl h2
  · exact .inr ⟨g, cap, cur, rfl, h3, (hb.block g (Array.getElem?_eq_some_iff.1 h4).1).trans h4, h5, h6, h7, h8⟩
theorem row_mono4 {w : World} {base base' size n : Nat} {e : TypeId} {v : Value} {xs : List Value} (h : w.ownsRow base e size v n xs) (hb : base' ≤ base) : w.ownsRow base' e size v n xs :=
  ⟨h.1, h.2.imp id fun ⟨g, cap, cur, h1, h2, h3⟩ => ⟨g, cap, cur, h1, by omega, h3⟩⟩
theorem Ka.bs {w : World} {B : Nat} {s : An} {q : Qa} (h : Ka w B s q) : Bs w w.heap.size s.A s.n q.l := by
  have hl := h.b.1
  rw [U8_length, Nat.mul_one] at hl
  have hb := h.b
  rw [← hl] at hb ⊢
  obtain ⟨A, c, e, _, hbs⟩ := Bs.of_own hb
  injection e with e _ _
  rw [e]; exact hbs
theorem Ka.below {w w' : World} {B : Nat} {s : An} {q : Qa} (h : Ka w B s q) (hb : Below w.heap.size w w') : Ka w' B s q := ⟨h.f, h.i, h.t, row_below4 h.b hb, h.max⟩
/-- The cache at its address. -/
structure CaAt (w : World) (cb : Nat) (v : Value) (vs : List An) (qs : List Qa) : Prop where
  blk : w.heap[cb]? = some (.cells #[v] 44)
  row : w.ownsRow (cb + 1) 48 4 v vs.length (ans vs)
  tok : ∀ s ∈ vs, 0 ≤ s.t ∧ s.t ≤ 1099511627776
  len : vs.length = qs.length
  few : vs.length ≤ 8
  each : ∀ (k : Nat) (s : An) (q : Qa), vs[k]? = some s → qs[k]? = some q → Ka w (cb + 1) s q
section
variable {w w' : World} {cb : Nat} {v : Value} {vs : List An} {qs : List Qa}
theorem CaAt.lt (h : CaAt w cb v vs qs) : cb < w.heap.size := (Array.getElem?_eq_some_iff.1 h.blk).1
theorem CaAt.below (h : CaAt w cb v vs qs) (hb : Below w.heap.size w w') : CaAt w' cb v vs qs :=
  ⟨(hb.block cb h.lt).trans h.blk, row_below4 h.row hb, h.tok, h.len, h.few, fun k s q hs hq => by
    exact (h.each k s q hs hq).below hb⟩
theorem CaAt.cell (h : CaAt w cb v vs qs) : w.cell? ⟨cb, 0, none⟩ = some v := by rw [cell_of_row _ _ _ _ _ _ h.blk]; rfl
theorem CaAt.open_ (h : CaAt w cb v vs qs) : ∃ A c, v = .slice A vs.length c ∧ vs.length ≤ c ∧ Ah w w.heap.size A vs.length vs := by
  obtain ⟨A, c, e, hc, hb⟩ := Ah.of_own h.row
  exact ⟨A, c, e, hc, hb⟩
end
theorem canew_f (w : World) : Calls Try.prog 8 #[] w fun e w' => e = .returned (.pointer (some ⟨w.heap.size, 0, none⟩)) ∧ CaAt w' w.heap.size (.slice none 0 0) [] [] ∧ Below w.heap.size w w' ∧ w'.heap.size = w.heap.size + 1 := by
  have hj : CaAt (w.alloc (.cells #[.slice none 0 0] 44)) w.heap.size (.slice none 0 0) [] [] :=
    ⟨heap_alloc_new w _, World.ownsRow_nil _ _ _ _, (fun s hs => by cases hs), rfl, Nat.zero_le _, (fun k s q hs _ => by simp at hs)⟩
  have HJ := Lib.hid hj
  clear hj
  go_enter Try.func8, Try.ntmps8
  go_wp2
  go_ret
  exact ⟨rfl, HJ.out, alloc_below _ _, alloc_size _ _⟩
theorem caclear_f (cb : Nat) (v : Value) (vs : List An) (qs : List Qa) (w : World) (h : CaAt w cb v vs qs) :
    Calls Try.prog 11 #[.pointer (some ⟨cb, 0, none⟩)] w fun e w' => e = .returned (.tuple #[]) ∧ CaAt w' cb (.slice none 0 0) [] [] ∧ Only w.heap.size cb w w' := by
  obtain ⟨A, c, rfl, _, _⟩ := h.open_
  have c0 := h.cell
  have f0 : w.frozen? ⟨cb, 0, none⟩ = false := by simp [World.frozen?, h.blk]
  have hA : CaAt (w.setCell ⟨cb, 0, none⟩ (.slice none 0 0)) cb (.slice none 0 0) [] [] :=
    ⟨heap_setCell_same w cb 0 _ 44 _ h.blk, World.ownsRow_nil _ _ _ _, (fun s hs => by cases hs), rfl, Nat.zero_le _, (fun k s q hs _ => by simp at hs)⟩
  have hO := (Only.refl w.heap.size cb w).setCell 0 (.slice none 0 0)
  have HB := Lib.hid (And.intro hA hO)
  clear h hA hO
  go_enter Try.func11, Try.ntmps11
  go_wp2
  go_end0
  exact ⟨rfl, HB.out.1, HB.out.2⟩
/-- What is found. -/
def findQ (qs : List Qa) (fr id now : Int) : Option (List UInt8) := match qs.find? (fun q => q.f == fr && q.i == id) with | some q => if clampN now - q.t < 247 then some q.l else none | none => none
def FRet (r : Option (List UInt8)) (w : World) (e : Ending) (w' : World) : Prop :=
  ∃ A n c, e = .returned (.tuple #[.slice A n c, .bool r.isSome]) ∧ n ≤ c ∧ Hid (n = (r.getD []).length) ∧ Bs w' w'.heap.size A n (r.getD []) ∧ (∀ a, A = some a → w.heap.size ≤ a.block) ∧ Below w.heap.size w w'
def FRet2 (r : Option (List UInt8)) (w : World) (e : Ending) (w' : World) : Prop :=
  ∃ A n c, e = .returned (.tuple #[.slice A n c, .bool r.isSome]) ∧ n ≤ c ∧ Hid (n = (r.getD []).length) ∧ w'.ownsRow w.heap.size 5 1 (.slice A n c) n (U8 (r.getD [])) ∧ Below w.heap.size w w'
theorem FRet2.one {r : Option (List UInt8)} {w w' : World} {e : Ending} (h : FRet2 r w e w') : FRet r w e w' := by
  obtain ⟨A, n, c, h1, h2, h3, h4, h5⟩ := h
  refine ⟨A, n, c, h1, h2, h3, ?_, fun a ha => ?_, h5⟩
  · obtain ⟨A', c', e1, _, hb⟩ := Bs.of_own h4
    injection e1 with e1 _ _
    rw [e1]; exact hb
  · exact (h4.lt a.block (by rw [ha]; rfl)).1
theorem find_at {vs : List An} {qs : List Qa} {w : World} {B : Nat} (hl : vs.length = qs.length) (he : ∀ (k : Nat) (s : An) (q : Qa), vs[k]? = some s → qs[k]? = some q → Ka w B s q) (fr id : Int) :
    (idxA (fun s => s.f == fr && s.i == id) vs = -1 ∧ qs.find? (fun q => q.f == fr && q.i == id) = none) ∨ (∃ (k : Nat) (s : An) (q : Qa), idxA (fun s => s.f == fr && s.i == id) vs = (k : Int) ∧ vs[k]? = some s ∧ qs[k]? = some q ∧ qs.find? (fun q => q.f == fr && q.i == id) = some q) := by
  unfold idxA
  cases h : vs.findIdx? (fun s => s.f == fr && s.i == id) with
  | none =>
    left
    refine ⟨rfl, ?_⟩
    rw [List.findIdx?_eq_none_iff] at h
    rw [List.find?_eq_none]
    intro q hq
    obtain ⟨k, hk⟩ := List.mem_iff_getElem?.1 hq
    have hkl := (List.getElem?_eq_some_iff.1 hk).1
    have hs : vs[k]? = some (vs[k]'(by omega)) := List.getElem?_eq_getElem (by omega)
    have ka := he k _ q hs hk
    have := h _ (List.mem_of_getElem? hs)
    rw [ka.f, ka.i] at this
    simpa using this
  | some k =>
    right
    rw [List.findIdx?_eq_some_iff_getElem] at h
    obtain ⟨hk, hp, hmin⟩ := h
    have hs : vs[k]? = some vs[k] := List.getElem?_eq_getElem hk
    have hq : qs[k]? = some (qs[k]'(by omega)) := List.getElem?_eq_getElem (by omega)
    have ka := he k _ _ hs hq
    refine ⟨k, _, _, rfl, hs, hq, ?_⟩
    rw [List.find?_eq_some_iff_getElem]
    refine ⟨?_, k, by omega, rfl, fun j hj => ?_⟩
    · rw [← ka.f, ← ka.i]; exact hp
    · have hsj : vs[j]? = some (vs[j]'(by omega)) := List.getElem?_eq_getElem (by omega)
      have hqj : qs[j]? = some (qs[j]'(by omega)) := List.getElem?_eq_getElem (by omega)
      have kj := he j _ _ hsj hqj
      have := hmin j hj
      rw [kj.f, kj.i] at this
      show (!((qs[j]'(by omega)).f == fr && (qs[j]'(by omega)).i == id)) = true
      cases hb : ((qs[j]'(by omega)).f == fr && (qs[j]'(by omega)).i == id) with
      | true => exact absurd hb this
      | false => rfl
def CfR (cb : Nat) (A : Option Addr) (q c : Nat) (fr id ix : Int) (i : Nat) (w : World) (v : Value) : Prop :=
  match i with
  | 0 | 1 | 2 => v = .pointer (some ⟨cb, 0, none⟩)
  | 3 => v = .slice A q c
  | 4 => v = .int .i64 fr
  | 5 => v = .int .i64 id
  | 6 => ∃ b0, v = .func (.func 28) #[] #[.pointer (some ⟨b0, 0, none⟩), .pointer (some ⟨b0 + 1, 0, none⟩)] ∧ b0 + 2 ≤ w.heap.size ∧ w.cell? ⟨b0, 0, none⟩ = some (.int .i64 fr) ∧ w.cell? ⟨b0 + 1, 0, none⟩ = some (.int .i64 id)
  | _ => v = .int .i64 ix
theorem CfR.grow {cb : Nat} {A : Option Addr} {q c : Nat} {fr id ix : Int} (i : Nat) (w w' : World) (v : Value) (hT : Below w.heap.size w w') (h : CfR cb A q c fr id ix i w v) : CfR cb A q c fr id ix i w' v := by
  unfold CfR at h ⊢
  split at h
  all_goals first
    | exact h
    | (obtain ⟨b0, h1, h2, h3, h4⟩ := h; exact ⟨b0, h1, Nat.le_trans h2 hT.size, (hT.cell (p := ⟨b0, 0, none⟩) (by show b0 < _; omega)).trans h3, (hT.cell (p := ⟨b0 + 1, 0, none⟩) (by show b0 + 1 < _; omega)).trans h4⟩)
set_option maxHeartbeats 8000000 in
theorem cafind2_f (cb : Nat) (v : Value) (vs : List An) (qs : List Qa) (w : World) (h : CaAt w cb v vs qs) (fr id now : Int) :
    Calls Try.prog 12 #[.pointer (some ⟨cb, 0, none⟩), .int .i64 fr, .int .i64 id, .int .i64 now] w (FRet2 (findQ qs fr id now) w) := by
  obtain ⟨A, c, rfl, hlc, _⟩ := h.open_
  obtain ⟨R, hR⟩ : ∃ R, findQ qs fr id now = R := ⟨_, rfl⟩
  rw [hR]
  obtain ⟨q, hq⟩ : ∃ q, vs.length = q := ⟨_, rfl⟩
  have hfew := h.few
  have HH := Lib.hid (And.intro h (And.intro hR (And.intro hq hlc)))
  rw [hq] at hlc hfew
  have hq8 : (q : Int) ≤ 8 := by omega
  have hca : ∀ W, Below w.heap.size w W → W.cell? ⟨cb, 0, none⟩ = some (.slice A q c) := fun W hb => by rw [← hq]; exact (h.below hb).cell
  have HC := Lib.hid hca
  clear hR hq h hfew hca
  go_enter Try.func12, Try.ntmps12
  go_wp2_with fail
  refine (living_f now w).mono ?_
  rintro e w1 ⟨rfl, b1, s1, l1⟩
  have H1 := Lib.hid (And.intro b1 (And.intro s1 l1))
  clear b1 s1 l1
  try dsimp only
  go_wp2_with fail
  refine wp_region_rel (fun w' => Below w1.heap.size w1 w') (fun w w' => Below w.heap.size w w') (CfR cb A q c fr id (idxA (fun s => s.f == fr && s.i == id) vs)) [(0, .pointer (some ⟨cb, 0, none⟩)), (1, .int .i64 fr), (2, .int .i64 id)] (by kernel_rfl) (by kernel_rfl) (by kernel_rfl) ?base (Below.drew (Below.refl _ _)) (fun i w w' v hT h => CfR.grow i w w' v hT h) ?steps ?fin
  case base =>
    intro x hx
    simp only [List.mem_cons, List.not_mem_nil, or_false] at hx
    rcases hx with rfl | rfl | rfl <;> exact ⟨rfl, rfl⟩
  case steps =>
    refine steps_cons ?_ (steps_cons ?_ (steps_cons ?_ (steps_cons ?_ (steps_cons ?_ (steps_cons ?_ (steps_cons ?_ (steps_cons ?_ (steps_cons ?_ steps_nil))))))))
    · intro a wx K hS hB hR hK
      rw [if_pos (wanted_none rfl)]
      have h0 := tmp_is (hB.1)
      go_simp
      exact hK (.pointer (some ⟨cb, 0, none⟩)) wx hS (Below.refl _ wx) rfl
    · intro a wx K hS hB hR hK
      rw [if_pos (wanted_none rfl)]
      have h14 := tmp_is (hR.1)
      go_simp
      exact hK (.pointer (some ⟨cb, 0, none⟩)) wx hS (Below.refl _ wx) rfl
    · intro a wx K hS hB hR hK
      rw [if_pos (wanted_none rfl)]
      have h15 := tmp_is (hR.1)
      go_simp
      exact hK (.pointer (some ⟨cb, 0, none⟩)) wx hS (Below.refl _ wx) rfl
    · intro a wx K hS hB hR hK
      rw [if_pos (wanted_none rfl)]
      have h16 := tmp_is (hR.1)
      have hw := HC.out wx (H1.out.1.trans (hS.mono H1.out.1.size))
      go_simp
      exact hK (.slice A q c) wx hS (Below.refl _ wx) rfl
    · intro a wx K hS hB hR hK
      rw [if_pos (wanted_none rfl)]
      have h1 := tmp_is (hB.2.1)
      go_simp
      exact hK (.int .i64 fr) wx hS (Below.refl _ wx) rfl
    · intro a wx K hS hB hR hK
      rw [if_pos (wanted_none rfl)]
      have h2 := tmp_is (hB.2.2.1)
      go_simp
      exact hK (.int .i64 id) wx hS (Below.refl _ wx) rfl
    · intro a wx K hS hB hR hK
      rw [if_pos (wanted_none rfl)]
      have h18 := tmp_is (hR.1)
      have h19 := tmp_is (hR.2.1)
      go_simp
      refine (to_f fr id wx).mono ?_
      rintro e w' ⟨rfl, hb, hs, h1, h2⟩
      exact hK _ _ (hS.trans (hb.mono hS.size)) hb ⟨wx.heap.size, rfl, hs, h1, h2⟩
    · intro a wx K hS hB hR hK
      rw [if_pos (wanted_none rfl)]
      have h17 := tmp_is (hR.1)
      obtain ⟨b0, hv, hs, h1, h2⟩ := hR.2.1
      have h20 := tmp_is hv
      go_simp
      have hca := HH.out.1.below (H1.out.1.trans (hS.mono H1.out.1.size))
      obtain ⟨A0, c0, hv0, _, hah⟩ := hca.open_
      obtain rfl : A0 = A := by injection hv0 with e1 _ _; exact e1.symm
      rw [HH.out.2.2.1] at hah
      refine (indexA_f _ _ _ fn_to A0 q c vs wx _ hah (Nat.le_refl _) (by omega) (pred_to b0 (b0 + 1) fr id wx (by omega) (by omega) h1 h2) HH.out.1.tok).mono ?_
      rintro e w' ⟨rfl, hb⟩
      exact hK _ _ (hS.trans (hb.mono hS.size)) hb rfl
    · intro a wx K hS hB hR hK
      rw [if_pos (wanted_none rfl)]
      have h21 := tmp_is (hR.1)
      go_simp
      exact hK (.int .i64 (idxA (fun s => s.f == fr && s.i == id) vs)) wx hS (Below.refl _ wx) rfl
  case fin =>
    intro a w9 hS9 ha hR
    have h11 : a.eval (.tmp 11) = .int .i64 (idxA (fun s => s.f == fr && s.i == id) vs) := deps_mem _ hR 8 (by decide)
    have H9 := Lib.hid (And.intro hS9 (H1.out.1.trans (hS9.mono H1.out.1.size)))
    clear hR hS9
    simp only [pin] at ha
    rw [ha]
    simp only [List.setIfInBounds_toArray, List.set_cons_zero, List.set_cons_succ, h11]
    clear ha h11
    have hfa := find_at HH.out.1.len HH.out.1.each fr id
    rcases hfa with ⟨hix, hfq⟩ | ⟨k, s, qa, hix, hs, hqs, hfq⟩
    · rw [hix]
      have hRn : R = none := by rw [← HH.out.2.1]; unfold findQ; rw [hfq]
      subst hRn
      clear hix hfq
      go_wp2
      go_ret2
      exact ⟨none, 0, 0, rfl, Nat.le_refl _, rfl, World.ownsRow_nil _ _ _ _, H9.out.2⟩
    · rw [hix]
      have hkq : k < q := by rw [← HH.out.2.2.1]; exact (List.getElem?_eq_some_iff.1 hs).1
      have hca := HH.out.1.below H9.out.2
      have hRq : R = if clampN now - qa.t < 247 then some qa.l else none := by rw [← HH.out.2.1]; unfold findQ; rw [hfq]
      obtain ⟨A0, c0, hv0, _, hah⟩ := hca.open_
      obtain rfl : A0 = A := by injection hv0 with e1 _ _; exact e1.symm
      rw [HH.out.2.2.1] at hah
      have hka := hca.each k s qa hs hqs
      obtain ⟨b, off, rfl, hbb, _⟩ := hah.place (by omega)
      have hrg := hah.range hs
      have hcall := living1_f w.heap.size (clampN now) s w9 (Nat.lt_of_lt_of_le H1.out.2.1 H9.out.1.size) ((H9.out.1.cell (p := ⟨w.heap.size, 0, none⟩) H1.out.2.1).trans H1.out.2.2) (clampN_in now) (HH.out.1.tok s (List.mem_of_getElem? hs))
      have hkat := hka.t
      have hcl := fun W (hb : Below w9.heap.size w9 W) => caclone_f s.A s.n s.c qa.l W _ ((hka.bs.below hb)) hb.size (by have := hka.max; omega)
      have hcc := HC.out w9 H9.out.2
      rw [← hkat] at hRq
      have d0 := hrg 0 _ rfl
      have d1 := hrg 1 _ rfl
      have d2 := hrg 2 _ rfl
      have d3 := hrg 3 _ rfl
      rw [Nat.add_zero] at d0
      have hkI : (k : Int) < q := by omega
      have hkc : (k : Int) < c := by omega
      have hD := Lib.hid fun W (hb : Below w9.heap.size w9 W) => (hb.cell (p := ⟨b, off + k * 4 + 3, none⟩) (by show b < _; omega)).trans d3
      by_cases hlv : clampN now - s.t < 247
      · rw [if_pos hlv] at hRq
        subst hRq
        rw [decide_eq_true hlv] at hcall
        have HX := Lib.hid (And.intro hcall hcl)
        clear hcall hcl hlv hix hfq hka hah hrg hca hs hqs hkat hv0 hkq
        go_wp2_with fail
        refine HX.out.1.mono ?_
        rintro e w10 ⟨rfl, b10⟩
        have hcc2 := HC.out w10 (H9.out.2.trans (b10.mono H9.out.2.size))
        have e3 := hD.out w10 b10
        have H10 := Lib.hid b10
        clear b10 hcc d0 d1 d2 d3
        go_wp2_with (go_at_call 24; refine (HX.out.2 w10 H10.out).mono ?_; rintro e w11 ⟨v11, rfl, ho, b11⟩; have hge := own_ge ho; obtain ⟨A11, c11, rfl, hc11, hb11⟩ := Bs.of_own ho; have H11 := Lib.hid (And.intro hc11 (And.intro ho b11)); clear ho hge hc11 hb11 b11)
        go_ret2
        exact ⟨A11, _, c11, rfl, H11.out.1, rfl, row_mono4 H11.out.2.1 (Nat.le_trans H9.out.2.size H10.out.size), (H9.out.2.trans (H10.out.mono H9.out.2.size)).trans (H11.out.2.2.mono (Nat.le_trans H9.out.2.size H10.out.size))⟩
      · rw [if_neg hlv] at hRq
        subst hRq
        rw [decide_eq_false hlv] at hcall
        have HX := Lib.hid hcall
        clear hcall hcl hlv hix hfq hka hah hrg hca hs hqs hkat hv0 hkq
        go_wp2_with fail
        refine HX.out.mono ?_
        rintro e w10 ⟨rfl, b10⟩
        have H10 := Lib.hid b10
        clear b10
        go_wp2
        go_ret2
        exact ⟨none, 0, 0, rfl, Nat.le_refl _, rfl, World.ownsRow_nil _ _ _ _, H9.out.2.trans (H10.out.mono H9.out.2.size)⟩
theorem cafind_f (cb : Nat) (v : Value) (vs : List An) (qs : List Qa) (w : World) (h : CaAt w cb v vs qs) (fr id now : Int) :
    Calls Try.prog 12 #[.pointer (some ⟨cb, 0, none⟩), .int .i64 fr, .int .i64 id, .int .i64 now] w (FRet (findQ qs fr id now) w) :=
  (cafind2_f cb v vs qs w h fr id now).mono fun _ _ h => h.one
end Go.Proofs.Ytdlgemlpbpbhcaa
