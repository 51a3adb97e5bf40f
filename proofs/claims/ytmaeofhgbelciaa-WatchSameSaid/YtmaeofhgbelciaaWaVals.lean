/-
  Values in a row among the arguments; short values; two values held against each other as the document does.
-/
import Derived.Test.YtmaeofhgbelciaaWaOne
import Derived.Test.YtmaeofhgbelciaaWaArgs
import Derived.Test.YtmaeofhgbelciaaOps
import Derived.Test.YtmaeofhgbelciaaVaRSame
namespace Go.Proofs.Ytmaeofhgbelciaa
open Go.ChangeShapes Go.WideShapes Go.ChangeAt Go.RowKit Go.Deep
set_option maxRecDepth 100000
set_option linter.unusedVariables false
set_option linter.unusedSimpArgs false
/-- A value of the caller's. -/
def VaOk (W : World) (u : Vr) : Prop := Bs W W.heap.size u.A u.n u.q.b ∧ u.n ≤ u.c ∧ In64 u.q.n
section
variable {H : Type} {enc : TypeId × Value → H} {W : World} {base : Nat}
theorem args_vals0 {f0 f1 f2 f3 f4 f5 : Field} (hE : Try.prog.underlying 34 = some (.struct #[f0, f1, f2, f3, f4, f5])) (hone : oneCellFields Try.prog #[f0, f1, f2, f3, f4, f5] = true)
    (t0 : f0.type = 3) (t1 : f1.type = 2) (t2 : f2.type = 9) (t3 : f3.type = 31) (t4 : f4.type = 3) (t5 : f5.type = 3)
    {a : Option Addr} {len cap : Nat} {d : DataW H} {p : List MemPlace} (h : DataW.Trod enc Try.prog W base (fun _ => true) true 40 (.slice a len cap) d p) :
    ∃ us, vK.At W W.heap.size a len us ∧ (∀ u ∈ us, VaOk W u) ∧ len ≤ cap ∧ cap ≤ maxLen := by
  have hT := Try.underlying40
  have hsz : Try.prog.cellsOf 34 = 6 := by kernel_rfl
  obtain ⟨fuel, hf⟩ := h
  rcases open_slice hT hf with ⟨hcs, _⟩ | ⟨x, l, c, m, n, D, Pl, hcs, _, hl, hm, hmm, _, hi⟩
  · simp [Value.cells] at hcs
    obtain ⟨rfl, rfl, rfl⟩ := hcs
    exact ⟨[], RowK.At.nil_ _ _ _, (fun u hu => by cases hu), by omega, by omega⟩
  · simp [Value.cells] at hcs
    obtain ⟨rfl, rfl, rfl⟩ := hcs
    rw [hsz] at hi
    have each : ∀ i : Nat, i < len → ∃ (b o : Nat) (s : Vr), x.add (i * 6) = ⟨b, o, none⟩ ∧ W.rangeAt b o (vK.vals s) ∧ VaOk W s := by
      intro i hlt
      obtain ⟨cs', hc, ht⟩ := hi i (by rw [hmm]; simp; omega)
      obtain ⟨_, hcl, hat⟩ := World.cells?_some hc
      obtain ⟨ys, n', _, _, _, hyl, hg⟩ := DataW.trod_struct hE ht
      have fld : ∀ (j : Nat) (f : Field) (hj4 : j < 6), (#[f0, f1, f2, f3, f4, f5] : Array Field)[j]? = some f → ∃ v y, W.cell? ((x.add (i * 6)).add j) = some v ∧ DataW.trod enc Try.prog W base (fun _ => true) true n' f.type [v] = some y := by
        intro j f hj4 hj
        obtain ⟨ho, hk⟩ := hone_of hone j f hj
        have h1 := hg j f hj
        rw [ho, hk] at h1
        have hl4 : cs'.length = 6 := hcl
        have hd : (cs'.drop j).take 1 = [cs'[j]'(by omega)] := by rw [List.drop_eq_getElem_cons (by omega)]; rfl
        rw [hd, List.getElem?_eq_getElem (by rw [hyl]; exact hj4)] at h1
        exact ⟨_, _, (hat j (by omega)).trans (List.getElem?_eq_getElem (by omega)), h1⟩
      obtain ⟨v0, y0, k0, r0⟩ := fld 0 f0 (by omega) rfl
      obtain ⟨v1, y1, k1, r1⟩ := fld 1 f1 (by omega) rfl
      obtain ⟨v2, y2, k2, r2⟩ := fld 2 f2 (by omega) rfl
      obtain ⟨v3, y3, k3, r3⟩ := fld 3 f3 (by omega) rfl
      obtain ⟨v4, y4, k4, r4⟩ := fld 4 f4 (by omega) rfl
      obtain ⟨v5, y5, k5, r5⟩ := fld 5 f5 (by omega) rfl
      rw [t0] at r0
      rw [t1] at r1
      rw [t2] at r2
      rw [t3] at r3
      rw [t4] at r4
      rw [t5] at r5
      obtain ⟨z0, rfl, w0⟩ := trod_i64 r0
      obtain ⟨z1, hz1, _, w1⟩ := DataW.trod_int Try.underlying2 r1
      obtain rfl : v1 = .int .i64 z1 := by simpa using hz1
      obtain ⟨z2, hz2, _⟩ := DataW.trod_string Try.underlying9 r2
      obtain rfl : v2 = .string z2 := by simpa using hz2
      obtain ⟨A3, n3, c3, l3, rfl, b3, le3, mx3⟩ := trod_bytes r3
      obtain ⟨z4, rfl, w4⟩ := trod_i64 r4
      obtain ⟨z5, rfl, w5⟩ := trod_i64 r5
      generalize x.add (i * 6) = q at *
      obtain ⟨b, o, sp⟩ := q
      have hsp : sp = none := by simpa [Addr.add] using World.cell?_spot k0
      subst hsp
      rw [Addr.add_lit] at k0 k1 k2 k3 k4 k5
      rw [Nat.add_zero] at k0
      refine ⟨b, o, ⟨⟨z0, z1, z2, l3, z4, z5⟩, A3, n3, c3⟩, rfl, ?_, b3, le3, wf_i64 w1⟩
      intro j v hj
      match j, hj with
      | 0, hj => obtain rfl := Option.some.inj hj; exact k0
      | 1, hj => obtain rfl := Option.some.inj hj; exact k1
      | 2, hj => obtain rfl := Option.some.inj hj; exact k2
      | 3, hj => obtain rfl := Option.some.inj hj; exact k3
      | 4, hj => obtain rfl := Option.some.inj hj; exact k4
      | 5, hj => obtain rfl := Option.some.inj hj; exact k5
    have each2 : ∀ i : Fin len, ∃ s : Vr, ∃ b o, x.add (i.val * 6) = ⟨b, o, none⟩ ∧ W.rangeAt b o (vK.vals s) ∧ VaOk W s := fun i => by
      obtain ⟨b, o, s, h1, h2⟩ := each i.val i.isLt
      exact ⟨s, b, o, h1, h2⟩
    obtain ⟨F, hF⟩ := Classical.axiomOfChoice each2
    refine ⟨List.ofFn F, ⟨List.length_ofFn, fun hm0 => ?_⟩, fun u hu => by obtain ⟨i, rfl⟩ := List.mem_ofFn.1 hu; obtain ⟨_, _, _, _, h⟩ := hF i; exact h, hl, hm⟩
    obtain ⟨b, o, sp⟩ := x
    obtain ⟨b0, o0, h0, k0⟩ := hF ⟨0, hm0⟩
    have hsp : sp = none := by
      have := congrArg Addr.spot h0
      simpa [Addr.add] using this
    subst hsp
    have hb0 : b < W.heap.size := by
      have e : b = b0 := by have := congrArg Addr.block h0; simpa [Addr.add] using this
      rw [e]
      exact World.block_lt_of_cell? _ ⟨b0, o0, none⟩ (k0.1 0 _ rfl)
    refine ⟨b, o, rfl, hb0, fun i s hs j u hj => ?_⟩
    rw [List.getElem?_ofFn] at hs
    split at hs
    · rename_i hi'
      injection hs with hs
      subst hs
      obtain ⟨b1, o1, h1, k1⟩ := hF ⟨i, hi'⟩
      rw [Addr.add_lit] at h1
      injection h1 with e1 e2 _
      rw [e1, show o + i * 6 = o1 from e2]
      exact k1.1 j u hj
    · cases hs

theorem args_vals {a : Option Addr} {len cap : Nat} {d : DataW H} {p : List MemPlace} (h : DataW.Trod enc Try.prog W base (fun _ => true) true 40 (.slice a len cap) d p) :
    ∃ us, (vK.At W W.heap.size a len us ∧ ∀ u ∈ us, VaOk W u) ∧ len ≤ cap ∧ cap ≤ maxLen := by
  have hE : ∃ f0 f1 f2 f3 f4 f5 : Field, Try.prog.underlying 34 = some (.struct #[f0, f1, f2, f3, f4, f5]) ∧ f0.type = 3 ∧ f1.type = 2 ∧ f2.type = 9 ∧ f3.type = 31 ∧ f4.type = 3 ∧ f5.type = 3 ∧ oneCellFields Try.prog #[f0, f1, f2, f3, f4, f5] = true := ⟨_, _, _, _, _, _, Try.underlying34, rfl, rfl, rfl, rfl, rfl, rfl, by kernel_rfl⟩
  obtain ⟨f0, f1, f2, f3, f4, f5, hE, t0, t1, t2, t3, t4, t5, hone⟩ := hE
  obtain ⟨us, h1, h2, h3, h4⟩ := args_vals0 hE hone t0 t1 t2 t3 t4 t5 h
  exact ⟨us, ⟨h1, h2⟩, h3, h4⟩
end
def shortQ (u : Vr) : Bool := decide (u.q.s.size ≤ 300 ∧ u.n ≤ 300)
theorem short_f (u : Vr) (w : World) : Calls Try.prog 14 #[.agg (vvals u.q u.A u.n u.c).toArray] w fun e w' => e = .returned (.bool (shortQ u)) ∧ Below w.heap.size w w' := by
  obtain ⟨⟨k, m, s, l, o, i⟩, A, n, c⟩ := u
  unfold shortQ
  dsimp only [vvals]
  by_cases h1 : s.size ≤ 300
  · have h1I : (s.size : Int) ≤ 300 := by omega
    by_cases h2 : n ≤ 300
    · have h2I : (n : Int) ≤ 300 := by omega
      rw [decide_eq_true (show s.size ≤ 300 ∧ n ≤ 300 from ⟨h1, h2⟩)]
      go_enter Try.func14, Try.ntmps14
      go_wp2
      go_ret
      exact ⟨by first | rfl | simp [*], alloc_below w _⟩
    · have h2I : ¬ (n : Int) ≤ 300 := by omega
      rw [decide_eq_false (show ¬ (s.size ≤ 300 ∧ n ≤ 300) from fun h => h2 h.2)]
      go_enter Try.func14, Try.ntmps14
      go_wp2
      go_ret
      exact ⟨by first | rfl | simp [*], alloc_below w _⟩
  · have h1I : ¬ (s.size : Int) ≤ 300 := by omega
    rw [decide_eq_false (show ¬ (s.size ≤ 300 ∧ n ≤ 300) from fun h => h1 h.1)]
    go_enter Try.func14, Try.ntmps14
    go_wp2
    go_ret
    exact ⟨by first | rfl | simp [*], alloc_below w _⟩
theorem rsame13_f (a b : Vq) (A1 A2 : Option Addr) (n1 c1 n2 c2 : Nat) (w : World) (B1 B2 : Nat) (h1 : Bs w B1 A1 n1 a.b) (h2 : Bs w B2 A2 n2 b.b) (hB1 : B1 ≤ w.heap.size) (hB2 : B2 ≤ w.heap.size) (hn1 : (n1 : Int) ≤ 9223372036854775807) (hn2 : (n2 : Int) ≤ 9223372036854775807) :
    Calls Try.prog 15 #[.agg (vvals a A1 n1 c1).toArray, .agg (vvals b A2 n2 c2).toArray] w fun e w' => e = .returned (.bool (vsame a b)) ∧ Below w.heap.size w w' := by
  obtain ⟨k, m, s, l, o, i⟩ := a
  obtain ⟨k', m', s', l', o', i'⟩ := b
  dsimp only [vvals, vsame] at *
  obtain ⟨W, hW⟩ : ∃ W, (w.alloc (.cells #[.int .i64 k, .int .i64 m, .string s, .slice A1 n1 c1, .int .i64 o, .int .i64 i] 34)).alloc (.cells #[.int .i64 k', .int .i64 m', .string s', .slice A2 n2 c2, .int .i64 o', .int .i64 i'] 34) = W := ⟨_, rfl⟩
  have hb : Below w.heap.size w W := by rw [← hW]; exact (alloc_below w _).alloc (by rw [alloc_size]; omega) _
  have he := same_any A1 A2 n1 c1 n2 c2 l l' W _ _ (h1.below' hb hB1) (h2.below' hb hB2) hn1 hn2
  obtain ⟨x2, e2⟩ : ∃ x, (s.toList == s'.toList) = x := ⟨_, rfl⟩
  obtain ⟨x3, e3⟩ : ∃ x, decide (l = l') = x := ⟨_, rfl⟩
  rw [e3] at he
  rw [e2, e3]
  rw [← hW] at he hb
  have HH := Lib.hid (And.intro he hb)
  clear he hb h1 h2 hW e3
  by_cases f0 : k = k'
  · subst f0
    rw [show (k == k) = true from beq_self_eq_true _]
    by_cases f1 : m = m'
    · subst f1
      rw [show (m == m) = true from beq_self_eq_true _]
      cases x2 with
      | false =>
        go_enter Try.func15, Try.ntmps15
        go_wp2
        go_ret
        exact ⟨rfl, HH.out.2⟩
      | true =>
        cases x3 with
        | false =>
          go_enter Try.func15, Try.ntmps15
          go_wp2_with (go_at_call 16; refine HH.out.1.mono ?_; rintro e w' ⟨rfl, nd, hw⟩; subst hw)
          go_ret
          exact ⟨(by first | rfl | simp), HH.out.2.trans (drewN_below _ _ _)⟩
        | true =>
          by_cases f4 : o = o'
          · subst f4
            rw [show (o == o) = true from beq_self_eq_true _]
            by_cases f5 : i = i'
            · subst f5
              rw [show (i == i) = true from beq_self_eq_true _]
              go_enter Try.func15, Try.ntmps15
              go_wp2_with (go_at_call 16; refine HH.out.1.mono ?_; rintro e w' ⟨rfl, nd, hw⟩; subst hw)
              go_ret
              exact ⟨(by first | rfl | simp), HH.out.2.trans (drewN_below _ _ _)⟩
            · have e5 : (i == i') = false := beq_eq_false_iff_ne.2 f5
              rw [e5]
              clear f5
              go_enter Try.func15, Try.ntmps15
              go_wp2_with (go_at_call 16; refine HH.out.1.mono ?_; rintro e w' ⟨rfl, nd, hw⟩; subst hw)
              go_ret
              exact ⟨(by first | rfl | simp), HH.out.2.trans (drewN_below _ _ _)⟩
          · have e4 : (o == o') = false := beq_eq_false_iff_ne.2 f4
            rw [e4]
            clear f4
            go_enter Try.func15, Try.ntmps15
            go_wp2_with (go_at_call 16; refine HH.out.1.mono ?_; rintro e w' ⟨rfl, nd, hw⟩; subst hw)
            go_ret
            exact ⟨(by first | rfl | simp), HH.out.2.trans (drewN_below _ _ _)⟩
    · have e1 : (m == m') = false := beq_eq_false_iff_ne.2 f1
      rw [e1]
      clear f1
      go_enter Try.func15, Try.ntmps15
      go_wp2
      go_ret
      exact ⟨rfl, HH.out.2⟩
  · have e0 : (k == k') = false := beq_eq_false_iff_ne.2 f0
    rw [e0]
    clear f0
    go_enter Try.func15, Try.ntmps15
    go_wp2
    go_ret
    exact ⟨rfl, HH.out.2⟩
end Go.Proofs.Ytmaeofhgbelciaa
