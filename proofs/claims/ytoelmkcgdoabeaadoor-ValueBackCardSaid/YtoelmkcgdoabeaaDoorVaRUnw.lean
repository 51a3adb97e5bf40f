/-
  The document's value of a kind's bytes.
-/
import Derived.Test.YtoelmkcgdoabeaaDoorVaPure
import Derived.Laws.ResultCell
import Derived.StillTailTactics
namespace Go.Proofs.YtoelmkcgdoabeaaDoor
open Go.RowKit
set_option maxRecDepth 100000
set_option linter.unusedVariables false
theorem results_cell_tmp_mid {P : Program} {fn : Func} {p u : Tmp} {ty : TypeId} (h : fn.results = #[.cell p ty, .tmp u]) (tmps : Array Value) (w : World) (b o : Nat) (cs : List Value) (d : TypeDesc)
    (hp : tmps.getD p undef = .pointer (some ⟨b, o, none⟩)) (hc : w.rangeAt b o cs) (hu : P.underlying ty = some d) (hd : d.isRow = true) (hi : (P.info? ty).map (·.size) = some cs.length) :
    (results fn tmps).run P w = .ok (.tuple #[.agg cs.toArray, tmps.getD u undef]) w := by
  rw [results_cell_tmp h, hp]
  simp only [asAddr, Sem.run_pure, Result.andThen_ok, run_loadVar_mid w b o ty cs d hc hu hd hi]
theorem one6v {k n : Int} {s : ByteArray} {A : Option Addr} {l c : Nat} {o i : Int} : ∀ v ∈ [Value.int .i64 k, .int .i64 n, .string s, .slice A l c, .int .i64 o, .int .i64 i], v.oneCell' = true := by
  intro v hv
  simp only [List.mem_cons, List.not_mem_nil, or_false] at hv
  rcases hv with rfl | rfl | rfl | rfl | rfl | rfl <;> rfl
/-- The document's answer: a struct, and the error's number. -/
def RUnwRet (k : Int) (A : Option Addr) (m c : Nat) (l : List UInt8) (w : World) (e : Ending) (w' : World) : Prop :=
  Below w.heap.size w w' ∧ (if unwE k l = 0 then e = .returned (.tuple #[.agg #[.int .i64 k, .int .i64 (unwN k l), .string (unwS k l), .slice (if k = 4 then A else none) (if k = 4 then m else 0) (if k = 4 then c else 0), .int .i64 (unwO k l), .int .i64 (unwI k l)], .int .i64 0])
    else e = .returned (.tuple #[.agg #[.int .i64 0, .int .i64 0, .string ⟨#[]⟩, .slice none 0 0, .int .i64 0, .int .i64 0], .int .i64 (unwE k l)]))
theorem RUnwRet.no {k : Int} {A : Option Addr} {m c : Nat} {l : List UInt8} {w w' : World} {r : Int} (hE : unwE k l = r) (hr : r ≠ 0) (hb : Below w.heap.size w w') : RUnwRet k A m c l w (.returned (.tuple #[.agg #[.int .i64 0, .int .i64 0, .string ⟨#[]⟩, .slice none 0 0, .int .i64 0, .int .i64 0], .int .i64 r])) w' := by
  refine ⟨hb, ?_⟩
  rw [hE, if_neg hr]
theorem range_new00 (w : World) (cs ds : Array Value) (t u : TypeId) {vs : List Value} (h : cs.toList = vs) : ((w.alloc (.cells cs t)).alloc (.cells ds u)).rangeAt w.heap.size 0 vs :=
  range_below (range_newB w cs t h) (alloc_below _ _) (by rw [alloc_size]; exact Nat.lt_succ_self _)
theorem cell2 {w : World} {p : Addr} {v : Value} (hb : p.block < w.heap.size) (h : w.cell? p = some v) (o1 o2 : Obj) : ((w.alloc o1).alloc o2).cell? p = some v :=
  (World.cell?_alloc_lt _ o2 p (by rw [alloc_size]; omega)).trans ((World.cell?_alloc_lt w o1 p hb).trans h)
theorem below_two (w : World) (a b : Obj) : Below w.heap.size w ((w.alloc a).alloc b) := ((Below.refl _ _).alloc (Nat.le_refl _) _).alloc (by rw [alloc_size]; omega) _
theorem wrap_small {x : Int} (h0 : 0 ≤ x) (h1 : x < 65536) : wrap64 x = x := by unfold wrap64; omega
theorem byte_wrap (u : UInt8) : wrap64 (u.toNat : Int) = (u.toNat : Int) := by have := byte_lt u; unfold wrap64; omega
theorem get_two (a b : UInt8) : getQ 0 [a, b] = (a.toNat : Int) * 256 + (b.toNat : Int) := by
  have h0 := byte_lt a
  have h1 := byte_lt b
  have e1 : wrap64 (0 * 256 + (a.toNat : Int)) = (a.toNat : Int) := by rw [wrap_small (by omega) (by omega)]; omega
  rw [getQ_cons, getQ_cons, e1, wrap_small (by omega) (by omega)]
  rfl
theorem u64_step (X y : Int) : IntKind.u64.wrap (IntKind.u64.wrap (X * 256) + y) = (X * 256 + y) % 18446744073709551616 := by
  rw [IntKind.wrap_u64, IntKind.wrap_u64]
  omega
theorem link_o {l : List UInt8} {u0 u1 u2 u3 : UInt8} (h : l = [u0, u1, u2, u3]) : getQ 0 (l.take 2) = (u0.toNat : Int) * 256 + (u1.toNat : Int) ∧ getQ 0 (l.drop 2) = (u2.toNat : Int) * 256 + (u3.toNat : Int) := by
  rw [h]
  exact ⟨get_two u0 u1, get_two u2 u3⟩
structure K6 (w W : World) (b off : Nat) (u0 u1 u2 u3 : UInt8) (o i : Int) : Prop where
  r1 : W.rangeAt (w.heap.size + 1) 0 [.int .i64 6, .int .i64 0, .string ⟨#[]⟩, .slice none 0 0, .int .i64 o, .int .i64 i]
  t1 : W.there (w.heap.size + 1) 0 6
  t0 : W.there w.heap.size 0 6
  hb : b < w.heap.size
  c0 : w.cell? ⟨b, off, none⟩ = some (.int .u8 (u0.toNat : Int))
  c1 : w.cell? ⟨b, off + 1, none⟩ = some (.int .u8 (u1.toNat : Int))
  c2 : w.cell? ⟨b, off + 2, none⟩ = some (.int .u8 (u2.toNat : Int))
  c3 : w.cell? ⟨b, off + 3, none⟩ = some (.int .u8 (u3.toNat : Int))
  bel : Below w.heap.size w W
theorem K6.drew {w W : World} {b off : Nat} {u0 u1 u2 u3 : UInt8} {o i : Int} (h : K6 w W b off u0 u1 u2 u3 o i) : K6 w W.drew b off u0 u1 u2 u3 o i := ⟨h.r1, h.t1, h.t0, h.hb, h.c0, h.c1, h.c2, h.c3, h.bel.drew⟩
theorem K6.set4 {w W : World} {b off : Nat} {u0 u1 u2 u3 : UInt8} {o i : Int} (h : K6 w W b off u0 u1 u2 u3 o i) (x : Int) : K6 w (W.setCell ⟨w.heap.size + 1, 4, none⟩ (.int .i64 x)) b off u0 u1 u2 u3 x i := by
  have r := range_set h.r1 h.t1 4 (show 4 < 6 by decide) (.int .i64 x)
  rw [Nat.zero_add] at r
  exact ⟨r, there_set h.t1 _ _, there_set h.t0 _ _, h.hb, h.c0, h.c1, h.c2, h.c3, h.bel.setCell (show w.heap.size ≤ w.heap.size + 1 by omega) _⟩
theorem K6.set5 {w W : World} {b off : Nat} {u0 u1 u2 u3 : UInt8} {o i : Int} (h : K6 w W b off u0 u1 u2 u3 o i) (x : Int) : K6 w (W.setCell ⟨w.heap.size + 1, 5, none⟩ (.int .i64 x)) b off u0 u1 u2 u3 o x := by
  have r := range_set h.r1 h.t1 5 (show 5 < 6 by decide) (.int .i64 x)
  rw [Nat.zero_add] at r
  exact ⟨r, there_set h.t1 _ _, there_set h.t0 _ _, h.hb, h.c0, h.c1, h.c2, h.c3, h.bel.setCell (show w.heap.size ≤ w.heap.size + 1 by omega) _⟩
set_option maxHeartbeats 16000000 in
theorem runwire_f (k : Int) (A : Option Addr) (m c : Nat) (l : List UInt8) (w : World) (B : Nat) (hbs : Bs w B A m l) (hB : B ≤ w.heap.size) (hm : m ≤ 1000000) :
    Calls Tryd.prog 35 #[.int .i64 k, .slice A m c] w (RUnwRet k A m c l w) := by
  have hl := hbs.len
  by_cases k1 : k = 1
  · subst k1
    have hE0 : unwE 1 l = if widthB l.length then 0 else 20 := if_pos (.inl rfl)
    rw [hl] at hE0
    by_cases hw : m = 1 ∨ m = 2 ∨ m = 4 ∨ m = 8
    · have hE : unwE 1 l = 0 := by rw [hE0, show widthB m = true from decide_eq_true hw, if_pos rfl]
      have hn : unwN 1 l = signedQ l := if_pos (.inl rfl)
      have HF : Hid (∀ w', Below w.heap.size w w' → RUnwRet 1 A m c l w (.returned (.tuple #[.agg #[.int .i64 1, .int .i64 (signedQ l), .string ⟨#[]⟩, .slice none 0 0, .int .i64 0, .int .i64 0], .int .i64 0])) w') := fun w' hb => ⟨hb, by rw [if_pos hE, hn]; rfl⟩
      have hsq : signedQ l = getQ (if 128 ≤ (l.getD 0 0).toNat then -1 else 0) l := rfl
      have hin := getQ_in l (if 128 ≤ (l.getD 0 0).toNat then -1 else 0) (by split <;> omega)
      have hva := getQ_val l (if 128 ≤ (l.getD 0 0).toNat then -1 else 0)
      rw [← hsq] at hin hva
      obtain ⟨b, off, rfl, hb, hc⟩ := hbs.place (by omega)
      obtain ⟨u, hu⟩ := byte_get (l := l) (k := 0) (by omega)
      have h00 := hc 0 u hu
      rw [Nat.add_zero] at h00
      have hbw : b < w.heap.size := by omega
      have h0 := cell2 (p := ⟨b, off, none⟩) hbw h00
      have hD : l.getD 0 0 = u := by rw [List.getD_eq_getElem?_getD, hu]; rfl
      rw [hD] at hva
      have hub := byte_lt u
      generalize signedQ l = V at *
      have HC := Lib.hid (And.intro hc (And.intro hl hin))
      clear hE hE0 hn hsq hin hu hD hc hbs hB hl hb h00
      by_cases hbig : 128 ≤ u.toNat
      · rw [if_pos hbig] at hva
        have hbI : (128 : Int) ≤ u.toNat := by omega
        have hst : (valI 18446744073709551615 l - V) % 18446744073709551616 = 0 := by have := valI_cong l 18446744073709551615 (-1) (by decide); omega
        have HS := Lib.hid hst
        clear hst hva hbig
        by_cases m1 : m = 1
        · subst m1
          clear hw hm
          as_aux_lemma =>
            go_enter Tryd.func35, Tryd.ntmps35
            go_wp2
            go_loop [7, 8] (fun v7 v8 => ∃ (X : Int) (i : Nat), v7 = .int .u64 X ∧ v8 = .int .i64 (i : Int) ∧ 0 ≤ X ∧ X ≤ 18446744073709551615 ∧ i ≤ 1 ∧ Aside ((valI X (l.drop i) - V) % 18446744073709551616 = 0)) (fun _ v8 => 1 - (intOf v8).toNat)
            case atStart => exact ⟨18446744073709551615, 0, rfl, rfl, by omega, by omega, by omega, HS.out⟩
            case round =>
              obtain ⟨X, i, rfl, rfl, hX0, hX1, hi, hrel⟩ := hrel
              by_cases hlt : i < 1
              · obtain ⟨y, hy⟩ := byte_get (l := l) (k := i) (by rw [HC.out.2.1]; exact hlt)
                have hcy := cell2 (p := ⟨b, off + i, none⟩) hbw (HC.out.1 i y hy)
                have hyb := byte_lt y
                have hltI : (i : Int) < 1 := by omega
                have hdr := List.drop_eq_getElem_cons (l := l) (i := i) (by rw [HC.out.2.1]; exact hlt)
                have hgy : l[i]'(by rw [HC.out.2.1]; exact hlt) = y := by rw [List.getElem?_eq_getElem (by rw [HC.out.2.1]; exact hlt)] at hy; exact Option.some.inj hy
                rw [hgy] at hdr
                have hr2 := hrel.out
                rw [hdr] at hr2
                have hr3 : (valI (X * 256 + (y.toNat : Int)) (l.drop (i + 1)) - V) % 18446744073709551616 = 0 := hr2
                have hr4 := valI_cong (l.drop (i + 1)) ((X * 256 + (y.toNat : Int)) % 18446744073709551616) (X * 256 + (y.toNat : Int)) (by omega)
                have H4 := Lib.hid (show (valI ((X * 256 + (y.toNat : Int)) % 18446744073709551616) (l.drop (i + 1)) - V) % 18446744073709551616 = 0 by omega)
                clear hrel hr2 hr3 hr4 hdr hgy hy
                go_wp2
                go_round
                case rel => exact ⟨(X * 256 + (y.toNat : Int)) % 18446744073709551616, i + 1, by first | rfl | (congr 1; exact u64_step _ _), by go_num, by omega, by omega, by omega, (show Aside _ from H4.out)⟩
                case measure => simp [intOf]; omega
              · obtain rfl : i = 1 := by omega
                have hr2 := hrel.out
                rw [List.drop_of_length_le (by rw [HC.out.2.1]; exact Nat.le_refl _)] at hr2
                have hr3 : (X - V) % 18446744073709551616 = 0 := hr2
                have hVi := HC.out.2.2
                have hwx : wrap64 X = V := by unfold wrap64; omega
                clear hrel hr2 hr3 hlt hVi
                go_wp2
                obtain ⟨d, hd, hr⟩ := valInfo
                refine bodyPost_ret (results_cell_tmp_mid rfl _ _ w.heap.size 0 [.int .i64 1, .int .i64 V, .string ⟨#[]⟩, .slice none 0 0, .int .i64 0, .int .i64 0] d rfl (range_new00 w _ _ _ _ rfl) hd hr size_val) rfl ?_
                exact HF.out _ (below_two w _ _)
        by_cases m2 : m = 2
        · subst m2
          clear hw hm m1
          as_aux_lemma =>
            go_enter Tryd.func35, Tryd.ntmps35
            go_wp2
            go_loop [7, 8] (fun v7 v8 => ∃ (X : Int) (i : Nat), v7 = .int .u64 X ∧ v8 = .int .i64 (i : Int) ∧ 0 ≤ X ∧ X ≤ 18446744073709551615 ∧ i ≤ 2 ∧ Aside ((valI X (l.drop i) - V) % 18446744073709551616 = 0)) (fun _ v8 => 2 - (intOf v8).toNat)
            case atStart => exact ⟨18446744073709551615, 0, rfl, rfl, by omega, by omega, by omega, HS.out⟩
            case round =>
              obtain ⟨X, i, rfl, rfl, hX0, hX1, hi, hrel⟩ := hrel
              by_cases hlt : i < 2
              · obtain ⟨y, hy⟩ := byte_get (l := l) (k := i) (by rw [HC.out.2.1]; exact hlt)
                have hcy := cell2 (p := ⟨b, off + i, none⟩) hbw (HC.out.1 i y hy)
                have hyb := byte_lt y
                have hltI : (i : Int) < 2 := by omega
                have hdr := List.drop_eq_getElem_cons (l := l) (i := i) (by rw [HC.out.2.1]; exact hlt)
                have hgy : l[i]'(by rw [HC.out.2.1]; exact hlt) = y := by rw [List.getElem?_eq_getElem (by rw [HC.out.2.1]; exact hlt)] at hy; exact Option.some.inj hy
                rw [hgy] at hdr
                have hr2 := hrel.out
                rw [hdr] at hr2
                have hr3 : (valI (X * 256 + (y.toNat : Int)) (l.drop (i + 1)) - V) % 18446744073709551616 = 0 := hr2
                have hr4 := valI_cong (l.drop (i + 1)) ((X * 256 + (y.toNat : Int)) % 18446744073709551616) (X * 256 + (y.toNat : Int)) (by omega)
                have H4 := Lib.hid (show (valI ((X * 256 + (y.toNat : Int)) % 18446744073709551616) (l.drop (i + 1)) - V) % 18446744073709551616 = 0 by omega)
                clear hrel hr2 hr3 hr4 hdr hgy hy
                go_wp2
                go_round
                case rel => exact ⟨(X * 256 + (y.toNat : Int)) % 18446744073709551616, i + 1, by first | rfl | (congr 1; exact u64_step _ _), by go_num, by omega, by omega, by omega, (show Aside _ from H4.out)⟩
                case measure => simp [intOf]; omega
              · obtain rfl : i = 2 := by omega
                have hr2 := hrel.out
                rw [List.drop_of_length_le (by rw [HC.out.2.1]; exact Nat.le_refl _)] at hr2
                have hr3 : (X - V) % 18446744073709551616 = 0 := hr2
                have hVi := HC.out.2.2
                have hwx : wrap64 X = V := by unfold wrap64; omega
                clear hrel hr2 hr3 hlt hVi
                go_wp2
                obtain ⟨d, hd, hr⟩ := valInfo
                refine bodyPost_ret (results_cell_tmp_mid rfl _ _ w.heap.size 0 [.int .i64 1, .int .i64 V, .string ⟨#[]⟩, .slice none 0 0, .int .i64 0, .int .i64 0] d rfl (range_new00 w _ _ _ _ rfl) hd hr size_val) rfl ?_
                exact HF.out _ (below_two w _ _)
        by_cases m4 : m = 4
        · subst m4
          clear hw hm m1 m2
          as_aux_lemma =>
            go_enter Tryd.func35, Tryd.ntmps35
            go_wp2
            go_loop [7, 8] (fun v7 v8 => ∃ (X : Int) (i : Nat), v7 = .int .u64 X ∧ v8 = .int .i64 (i : Int) ∧ 0 ≤ X ∧ X ≤ 18446744073709551615 ∧ i ≤ 4 ∧ Aside ((valI X (l.drop i) - V) % 18446744073709551616 = 0)) (fun _ v8 => 4 - (intOf v8).toNat)
            case atStart => exact ⟨18446744073709551615, 0, rfl, rfl, by omega, by omega, by omega, HS.out⟩
            case round =>
              obtain ⟨X, i, rfl, rfl, hX0, hX1, hi, hrel⟩ := hrel
              by_cases hlt : i < 4
              · obtain ⟨y, hy⟩ := byte_get (l := l) (k := i) (by rw [HC.out.2.1]; exact hlt)
                have hcy := cell2 (p := ⟨b, off + i, none⟩) hbw (HC.out.1 i y hy)
                have hyb := byte_lt y
                have hltI : (i : Int) < 4 := by omega
                have hdr := List.drop_eq_getElem_cons (l := l) (i := i) (by rw [HC.out.2.1]; exact hlt)
                have hgy : l[i]'(by rw [HC.out.2.1]; exact hlt) = y := by rw [List.getElem?_eq_getElem (by rw [HC.out.2.1]; exact hlt)] at hy; exact Option.some.inj hy
                rw [hgy] at hdr
                have hr2 := hrel.out
                rw [hdr] at hr2
                have hr3 : (valI (X * 256 + (y.toNat : Int)) (l.drop (i + 1)) - V) % 18446744073709551616 = 0 := hr2
                have hr4 := valI_cong (l.drop (i + 1)) ((X * 256 + (y.toNat : Int)) % 18446744073709551616) (X * 256 + (y.toNat : Int)) (by omega)
                have H4 := Lib.hid (show (valI ((X * 256 + (y.toNat : Int)) % 18446744073709551616) (l.drop (i + 1)) - V) % 18446744073709551616 = 0 by omega)
                clear hrel hr2 hr3 hr4 hdr hgy hy
                go_wp2
                go_round
                case rel => exact ⟨(X * 256 + (y.toNat : Int)) % 18446744073709551616, i + 1, by first | rfl | (congr 1; exact u64_step _ _), by go_num, by omega, by omega, by omega, (show Aside _ from H4.out)⟩
                case measure => simp [intOf]; omega
              · obtain rfl : i = 4 := by omega
                have hr2 := hrel.out
                rw [List.drop_of_length_le (by rw [HC.out.2.1]; exact Nat.le_refl _)] at hr2
                have hr3 : (X - V) % 18446744073709551616 = 0 := hr2
                have hVi := HC.out.2.2
                have hwx : wrap64 X = V := by unfold wrap64; omega
                clear hrel hr2 hr3 hlt hVi
                go_wp2
                obtain ⟨d, hd, hr⟩ := valInfo
                refine bodyPost_ret (results_cell_tmp_mid rfl _ _ w.heap.size 0 [.int .i64 1, .int .i64 V, .string ⟨#[]⟩, .slice none 0 0, .int .i64 0, .int .i64 0] d rfl (range_new00 w _ _ _ _ rfl) hd hr size_val) rfl ?_
                exact HF.out _ (below_two w _ _)
        obtain rfl : m = 8 := by omega
        clear hw hm m1 m2 m4
        as_aux_lemma =>
          go_enter Tryd.func35, Tryd.ntmps35
          go_wp2
          go_loop [7, 8] (fun v7 v8 => ∃ (X : Int) (i : Nat), v7 = .int .u64 X ∧ v8 = .int .i64 (i : Int) ∧ 0 ≤ X ∧ X ≤ 18446744073709551615 ∧ i ≤ 8 ∧ Aside ((valI X (l.drop i) - V) % 18446744073709551616 = 0)) (fun _ v8 => 8 - (intOf v8).toNat)
          case atStart => exact ⟨18446744073709551615, 0, rfl, rfl, by omega, by omega, by omega, HS.out⟩
          case round =>
            obtain ⟨X, i, rfl, rfl, hX0, hX1, hi, hrel⟩ := hrel
            by_cases hlt : i < 8
            · obtain ⟨y, hy⟩ := byte_get (l := l) (k := i) (by rw [HC.out.2.1]; exact hlt)
              have hcy := cell2 (p := ⟨b, off + i, none⟩) hbw (HC.out.1 i y hy)
              have hyb := byte_lt y
              have hltI : (i : Int) < 8 := by omega
              have hdr := List.drop_eq_getElem_cons (l := l) (i := i) (by rw [HC.out.2.1]; exact hlt)
              have hgy : l[i]'(by rw [HC.out.2.1]; exact hlt) = y := by rw [List.getElem?_eq_getElem (by rw [HC.out.2.1]; exact hlt)] at hy; exact Option.some.inj hy
              rw [hgy] at hdr
              have hr2 := hrel.out
              rw [hdr] at hr2
              have hr3 : (valI (X * 256 + (y.toNat : Int)) (l.drop (i + 1)) - V) % 18446744073709551616 = 0 := hr2
              have hr4 := valI_cong (l.drop (i + 1)) ((X * 256 + (y.toNat : Int)) % 18446744073709551616) (X * 256 + (y.toNat : Int)) (by omega)
              have H4 := Lib.hid (show (valI ((X * 256 + (y.toNat : Int)) % 18446744073709551616) (l.drop (i + 1)) - V) % 18446744073709551616 = 0 by omega)
              clear hrel hr2 hr3 hr4 hdr hgy hy
              go_wp2
              go_round
              case rel => exact ⟨(X * 256 + (y.toNat : Int)) % 18446744073709551616, i + 1, by first | rfl | (congr 1; exact u64_step _ _), by go_num, by omega, by omega, by omega, (show Aside _ from H4.out)⟩
              case measure => simp [intOf]; omega
            · obtain rfl : i = 8 := by omega
              have hr2 := hrel.out
              rw [List.drop_of_length_le (by rw [HC.out.2.1]; exact Nat.le_refl _)] at hr2
              have hr3 : (X - V) % 18446744073709551616 = 0 := hr2
              have hVi := HC.out.2.2
              have hwx : wrap64 X = V := by unfold wrap64; omega
              clear hrel hr2 hr3 hlt hVi
              go_wp2
              obtain ⟨d, hd, hr⟩ := valInfo
              refine bodyPost_ret (results_cell_tmp_mid rfl _ _ w.heap.size 0 [.int .i64 1, .int .i64 V, .string ⟨#[]⟩, .slice none 0 0, .int .i64 0, .int .i64 0] d rfl (range_new00 w _ _ _ _ rfl) hd hr size_val) rfl ?_
              exact HF.out _ (below_two w _ _)
      rw [if_neg hbig] at hva
      have hbI : ¬ (128 : Int) ≤ u.toNat := by omega
      have hst : (valI 0 l - V) % 18446744073709551616 = 0 := by omega
      have HS := Lib.hid hst
      clear hst hva hbig
      by_cases m1 : m = 1
      · subst m1
        clear hw hm
        as_aux_lemma =>
          go_enter Tryd.func35, Tryd.ntmps35
          go_wp2
          go_loop [7, 8] (fun v7 v8 => ∃ (X : Int) (i : Nat), v7 = .int .u64 X ∧ v8 = .int .i64 (i : Int) ∧ 0 ≤ X ∧ X ≤ 18446744073709551615 ∧ i ≤ 1 ∧ Aside ((valI X (l.drop i) - V) % 18446744073709551616 = 0)) (fun _ v8 => 1 - (intOf v8).toNat)
          case atStart => exact ⟨0, 0, rfl, rfl, by omega, by omega, by omega, HS.out⟩
          case round =>
            obtain ⟨X, i, rfl, rfl, hX0, hX1, hi, hrel⟩ := hrel
            by_cases hlt : i < 1
            · obtain ⟨y, hy⟩ := byte_get (l := l) (k := i) (by rw [HC.out.2.1]; exact hlt)
              have hcy := cell2 (p := ⟨b, off + i, none⟩) hbw (HC.out.1 i y hy)
              have hyb := byte_lt y
              have hltI : (i : Int) < 1 := by omega
              have hdr := List.drop_eq_getElem_cons (l := l) (i := i) (by rw [HC.out.2.1]; exact hlt)
              have hgy : l[i]'(by rw [HC.out.2.1]; exact hlt) = y := by rw [List.getElem?_eq_getElem (by rw [HC.out.2.1]; exact hlt)] at hy; exact Option.some.inj hy
              rw [hgy] at hdr
              have hr2 := hrel.out
              rw [hdr] at hr2
              have hr3 : (valI (X * 256 + (y.toNat : Int)) (l.drop (i + 1)) - V) % 18446744073709551616 = 0 := hr2
              have hr4 := valI_cong (l.drop (i + 1)) ((X * 256 + (y.toNat : Int)) % 18446744073709551616) (X * 256 + (y.toNat : Int)) (by omega)
              have H4 := Lib.hid (show (valI ((X * 256 + (y.toNat : Int)) % 18446744073709551616) (l.drop (i + 1)) - V) % 18446744073709551616 = 0 by omega)
              clear hrel hr2 hr3 hr4 hdr hgy hy
              go_wp2
              go_round
              case rel => exact ⟨(X * 256 + (y.toNat : Int)) % 18446744073709551616, i + 1, by first | rfl | (congr 1; exact u64_step _ _), by go_num, by omega, by omega, by omega, (show Aside _ from H4.out)⟩
              case measure => simp [intOf]; omega
            · obtain rfl : i = 1 := by omega
              have hr2 := hrel.out
              rw [List.drop_of_length_le (by rw [HC.out.2.1]; exact Nat.le_refl _)] at hr2
              have hr3 : (X - V) % 18446744073709551616 = 0 := hr2
              have hVi := HC.out.2.2
              have hwx : wrap64 X = V := by unfold wrap64; omega
              clear hrel hr2 hr3 hlt hVi
              go_wp2
              obtain ⟨d, hd, hr⟩ := valInfo
              refine bodyPost_ret (results_cell_tmp_mid rfl _ _ w.heap.size 0 [.int .i64 1, .int .i64 V, .string ⟨#[]⟩, .slice none 0 0, .int .i64 0, .int .i64 0] d rfl (range_new00 w _ _ _ _ rfl) hd hr size_val) rfl ?_
              exact HF.out _ (below_two w _ _)
      by_cases m2 : m = 2
      · subst m2
        clear hw hm m1
        as_aux_lemma =>
          go_enter Tryd.func35, Tryd.ntmps35
          go_wp2
          go_loop [7, 8] (fun v7 v8 => ∃ (X : Int) (i : Nat), v7 = .int .u64 X ∧ v8 = .int .i64 (i : Int) ∧ 0 ≤ X ∧ X ≤ 18446744073709551615 ∧ i ≤ 2 ∧ Aside ((valI X (l.drop i) - V) % 18446744073709551616 = 0)) (fun _ v8 => 2 - (intOf v8).toNat)
          case atStart => exact ⟨0, 0, rfl, rfl, by omega, by omega, by omega, HS.out⟩
          case round =>
            obtain ⟨X, i, rfl, rfl, hX0, hX1, hi, hrel⟩ := hrel
            by_cases hlt : i < 2
            · obtain ⟨y, hy⟩ := byte_get (l := l) (k := i) (by rw [HC.out.2.1]; exact hlt)
              have hcy := cell2 (p := ⟨b, off + i, none⟩) hbw (HC.out.1 i y hy)
              have hyb := byte_lt y
              have hltI : (i : Int) < 2 := by omega
              have hdr := List.drop_eq_getElem_cons (l := l) (i := i) (by rw [HC.out.2.1]; exact hlt)
              have hgy : l[i]'(by rw [HC.out.2.1]; exact hlt) = y := by rw [List.getElem?_eq_getElem (by rw [HC.out.2.1]; exact hlt)] at hy; exact Option.some.inj hy
              rw [hgy] at hdr
              have hr2 := hrel.out
              rw [hdr] at hr2
              have hr3 : (valI (X * 256 + (y.toNat : Int)) (l.drop (i + 1)) - V) % 18446744073709551616 = 0 := hr2
              have hr4 := valI_cong (l.drop (i + 1)) ((X * 256 + (y.toNat : Int)) % 18446744073709551616) (X * 256 + (y.toNat : Int)) (by omega)
              have H4 := Lib.hid (show (valI ((X * 256 + (y.toNat : Int)) % 18446744073709551616) (l.drop (i + 1)) - V) % 18446744073709551616 = 0 by omega)
              clear hrel hr2 hr3 hr4 hdr hgy hy
              go_wp2
              go_round
              case rel => exact ⟨(X * 256 + (y.toNat : Int)) % 18446744073709551616, i + 1, by first | rfl | (congr 1; exact u64_step _ _), by go_num, by omega, by omega, by omega, (show Aside _ from H4.out)⟩
              case measure => simp [intOf]; omega
            · obtain rfl : i = 2 := by omega
              have hr2 := hrel.out
              rw [List.drop_of_length_le (by rw [HC.out.2.1]; exact Nat.le_refl _)] at hr2
              have hr3 : (X - V) % 18446744073709551616 = 0 := hr2
              have hVi := HC.out.2.2
              have hwx : wrap64 X = V := by unfold wrap64; omega
              clear hrel hr2 hr3 hlt hVi
              go_wp2
              obtain ⟨d, hd, hr⟩ := valInfo
              refine bodyPost_ret (results_cell_tmp_mid rfl _ _ w.heap.size 0 [.int .i64 1, .int .i64 V, .string ⟨#[]⟩, .slice none 0 0, .int .i64 0, .int .i64 0] d rfl (range_new00 w _ _ _ _ rfl) hd hr size_val) rfl ?_
              exact HF.out _ (below_two w _ _)
      by_cases m4 : m = 4
      · subst m4
        clear hw hm m1 m2
        as_aux_lemma =>
          go_enter Tryd.func35, Tryd.ntmps35
          go_wp2
          go_loop [7, 8] (fun v7 v8 => ∃ (X : Int) (i : Nat), v7 = .int .u64 X ∧ v8 = .int .i64 (i : Int) ∧ 0 ≤ X ∧ X ≤ 18446744073709551615 ∧ i ≤ 4 ∧ Aside ((valI X (l.drop i) - V) % 18446744073709551616 = 0)) (fun _ v8 => 4 - (intOf v8).toNat)
          case atStart => exact ⟨0, 0, rfl, rfl, by omega, by omega, by omega, HS.out⟩
          case round =>
            obtain ⟨X, i, rfl, rfl, hX0, hX1, hi, hrel⟩ := hrel
            by_cases hlt : i < 4
            · obtain ⟨y, hy⟩ := byte_get (l := l) (k := i) (by rw [HC.out.2.1]; exact hlt)
              have hcy := cell2 (p := ⟨b, off + i, none⟩) hbw (HC.out.1 i y hy)
              have hyb := byte_lt y
              have hltI : (i : Int) < 4 := by omega
              have hdr := List.drop_eq_getElem_cons (l := l) (i := i) (by rw [HC.out.2.1]; exact hlt)
              have hgy : l[i]'(by rw [HC.out.2.1]; exact hlt) = y := by rw [List.getElem?_eq_getElem (by rw [HC.out.2.1]; exact hlt)] at hy; exact Option.some.inj hy
              rw [hgy] at hdr
              have hr2 := hrel.out
              rw [hdr] at hr2
              have hr3 : (valI (X * 256 + (y.toNat : Int)) (l.drop (i + 1)) - V) % 18446744073709551616 = 0 := hr2
              have hr4 := valI_cong (l.drop (i + 1)) ((X * 256 + (y.toNat : Int)) % 18446744073709551616) (X * 256 + (y.toNat : Int)) (by omega)
              have H4 := Lib.hid (show (valI ((X * 256 + (y.toNat : Int)) % 18446744073709551616) (l.drop (i + 1)) - V) % 18446744073709551616 = 0 by omega)
              clear hrel hr2 hr3 hr4 hdr hgy hy
              go_wp2
              go_round
              case rel => exact ⟨(X * 256 + (y.toNat : Int)) % 18446744073709551616, i + 1, by first | rfl | (congr 1; exact u64_step _ _), by go_num, by omega, by omega, by omega, (show Aside _ from H4.out)⟩
              case measure => simp [intOf]; omega
            · obtain rfl : i = 4 := by omega
              have hr2 := hrel.out
              rw [List.drop_of_length_le (by rw [HC.out.2.1]; exact Nat.le_refl _)] at hr2
              have hr3 : (X - V) % 18446744073709551616 = 0 := hr2
              have hVi := HC.out.2.2
              have hwx : wrap64 X = V := by unfold wrap64; omega
              clear hrel hr2 hr3 hlt hVi
              go_wp2
              obtain ⟨d, hd, hr⟩ := valInfo
              refine bodyPost_ret (results_cell_tmp_mid rfl _ _ w.heap.size 0 [.int .i64 1, .int .i64 V, .string ⟨#[]⟩, .slice none 0 0, .int .i64 0, .int .i64 0] d rfl (range_new00 w _ _ _ _ rfl) hd hr size_val) rfl ?_
              exact HF.out _ (below_two w _ _)
      obtain rfl : m = 8 := by omega
      clear hw hm m1 m2 m4
      as_aux_lemma =>
        go_enter Tryd.func35, Tryd.ntmps35
        go_wp2
        go_loop [7, 8] (fun v7 v8 => ∃ (X : Int) (i : Nat), v7 = .int .u64 X ∧ v8 = .int .i64 (i : Int) ∧ 0 ≤ X ∧ X ≤ 18446744073709551615 ∧ i ≤ 8 ∧ Aside ((valI X (l.drop i) - V) % 18446744073709551616 = 0)) (fun _ v8 => 8 - (intOf v8).toNat)
        case atStart => exact ⟨0, 0, rfl, rfl, by omega, by omega, by omega, HS.out⟩
        case round =>
          obtain ⟨X, i, rfl, rfl, hX0, hX1, hi, hrel⟩ := hrel
          by_cases hlt : i < 8
          · obtain ⟨y, hy⟩ := byte_get (l := l) (k := i) (by rw [HC.out.2.1]; exact hlt)
            have hcy := cell2 (p := ⟨b, off + i, none⟩) hbw (HC.out.1 i y hy)
            have hyb := byte_lt y
            have hltI : (i : Int) < 8 := by omega
            have hdr := List.drop_eq_getElem_cons (l := l) (i := i) (by rw [HC.out.2.1]; exact hlt)
            have hgy : l[i]'(by rw [HC.out.2.1]; exact hlt) = y := by rw [List.getElem?_eq_getElem (by rw [HC.out.2.1]; exact hlt)] at hy; exact Option.some.inj hy
            rw [hgy] at hdr
            have hr2 := hrel.out
            rw [hdr] at hr2
            have hr3 : (valI (X * 256 + (y.toNat : Int)) (l.drop (i + 1)) - V) % 18446744073709551616 = 0 := hr2
            have hr4 := valI_cong (l.drop (i + 1)) ((X * 256 + (y.toNat : Int)) % 18446744073709551616) (X * 256 + (y.toNat : Int)) (by omega)
            have H4 := Lib.hid (show (valI ((X * 256 + (y.toNat : Int)) % 18446744073709551616) (l.drop (i + 1)) - V) % 18446744073709551616 = 0 by omega)
            clear hrel hr2 hr3 hr4 hdr hgy hy
            go_wp2
            go_round
            case rel => exact ⟨(X * 256 + (y.toNat : Int)) % 18446744073709551616, i + 1, by first | rfl | (congr 1; exact u64_step _ _), by go_num, by omega, by omega, by omega, (show Aside _ from H4.out)⟩
            case measure => simp [intOf]; omega
          · obtain rfl : i = 8 := by omega
            have hr2 := hrel.out
            rw [List.drop_of_length_le (by rw [HC.out.2.1]; exact Nat.le_refl _)] at hr2
            have hr3 : (X - V) % 18446744073709551616 = 0 := hr2
            have hVi := HC.out.2.2
            have hwx : wrap64 X = V := by unfold wrap64; omega
            clear hrel hr2 hr3 hlt hVi
            go_wp2
            obtain ⟨d, hd, hr⟩ := valInfo
            refine bodyPost_ret (results_cell_tmp_mid rfl _ _ w.heap.size 0 [.int .i64 1, .int .i64 V, .string ⟨#[]⟩, .slice none 0 0, .int .i64 0, .int .i64 0] d rfl (range_new00 w _ _ _ _ rfl) hd hr size_val) rfl ?_
            exact HF.out _ (below_two w _ _)
    · have hE : unwE 1 l = 20 := by rw [hE0, show widthB m = false from decide_eq_false hw, if_neg (by decide)]
      have f1 : ((m : Int) != 1) = true := bne_iff_ne.2 (by omega)
      have f2 : ((m : Int) != 2) = true := bne_iff_ne.2 (by omega)
      have f4 : ((m : Int) != 4) = true := bne_iff_ne.2 (by omega)
      have f8 : ((m : Int) != 8) = true := bne_iff_ne.2 (by omega)
      clear hw hE0 hm
      have HE := Lib.hid hE
      clear hE hbs hB hl 
      go_enter Tryd.func35, Tryd.ntmps35
      go_wp2
      obtain ⟨d, hd, hr⟩ := valInfo
      refine bodyPost_ret (results_cell_tmp_mid rfl _ _ w.heap.size 0 [.int .i64 0, .int .i64 0, .string ⟨#[]⟩, .slice none 0 0, .int .i64 0, .int .i64 0] d rfl (range_new00 w _ _ _ _ rfl) hd hr size_val) rfl ?_
      exact RUnwRet.no HE.out (by decide) (below_two w _ _)
  have f1 : (k == 1) = false := beq_eq_false_iff_ne.2 k1
  by_cases k5 : k = 5
  · subst k5
    have hE0 : unwE 5 l = if widthB l.length then 0 else 20 := if_pos (.inr rfl)
    rw [hl] at hE0
    by_cases hw : m = 1 ∨ m = 2 ∨ m = 4 ∨ m = 8
    · have hE : unwE 5 l = 0 := by rw [hE0, show widthB m = true from decide_eq_true hw, if_pos rfl]
      have hn : unwN 5 l = signedQ l := if_pos (.inr rfl)
      have HF : Hid (∀ w', Below w.heap.size w w' → RUnwRet 5 A m c l w (.returned (.tuple #[.agg #[.int .i64 5, .int .i64 (signedQ l), .string ⟨#[]⟩, .slice none 0 0, .int .i64 0, .int .i64 0], .int .i64 0])) w') := fun w' hb => ⟨hb, by rw [if_pos hE, hn]; rfl⟩
      have hsq : signedQ l = getQ (if 128 ≤ (l.getD 0 0).toNat then -1 else 0) l := rfl
      have hin := getQ_in l (if 128 ≤ (l.getD 0 0).toNat then -1 else 0) (by split <;> omega)
      have hva := getQ_val l (if 128 ≤ (l.getD 0 0).toNat then -1 else 0)
      rw [← hsq] at hin hva
      obtain ⟨b, off, rfl, hb, hc⟩ := hbs.place (by omega)
      obtain ⟨u, hu⟩ := byte_get (l := l) (k := 0) (by omega)
      have h00 := hc 0 u hu
      rw [Nat.add_zero] at h00
      have hbw : b < w.heap.size := by omega
      have h0 := cell2 (p := ⟨b, off, none⟩) hbw h00
      have hD : l.getD 0 0 = u := by rw [List.getD_eq_getElem?_getD, hu]; rfl
      rw [hD] at hva
      have hub := byte_lt u
      generalize signedQ l = V at *
      have HC := Lib.hid (And.intro hc (And.intro hl hin))
      clear hE hE0 hn hsq hin hu hD hc hbs hB hl hb h00
      by_cases hbig : 128 ≤ u.toNat
      · rw [if_pos hbig] at hva
        have hbI : (128 : Int) ≤ u.toNat := by omega
        have hst : (valI 18446744073709551615 l - V) % 18446744073709551616 = 0 := by have := valI_cong l 18446744073709551615 (-1) (by decide); omega
        have HS := Lib.hid hst
        clear hst hva hbig
        by_cases m1 : m = 1
        · subst m1
          clear hw hm
          as_aux_lemma =>
            go_enter Tryd.func35, Tryd.ntmps35
            go_wp2
            go_loop [7, 8] (fun v7 v8 => ∃ (X : Int) (i : Nat), v7 = .int .u64 X ∧ v8 = .int .i64 (i : Int) ∧ 0 ≤ X ∧ X ≤ 18446744073709551615 ∧ i ≤ 1 ∧ Aside ((valI X (l.drop i) - V) % 18446744073709551616 = 0)) (fun _ v8 => 1 - (intOf v8).toNat)
            case atStart => exact ⟨18446744073709551615, 0, rfl, rfl, by omega, by omega, by omega, HS.out⟩
            case round =>
              obtain ⟨X, i, rfl, rfl, hX0, hX1, hi, hrel⟩ := hrel
              by_cases hlt : i < 1
              · obtain ⟨y, hy⟩ := byte_get (l := l) (k := i) (by rw [HC.out.2.1]; exact hlt)
                have hcy := cell2 (p := ⟨b, off + i, none⟩) hbw (HC.out.1 i y hy)
                have hyb := byte_lt y
                have hltI : (i : Int) < 1 := by omega
                have hdr := List.drop_eq_getElem_cons (l := l) (i := i) (by rw [HC.out.2.1]; exact hlt)
                have hgy : l[i]'(by rw [HC.out.2.1]; exact hlt) = y := by rw [List.getElem?_eq_getElem (by rw [HC.out.2.1]; exact hlt)] at hy; exact Option.some.inj hy
                rw [hgy] at hdr
                have hr2 := hrel.out
                rw [hdr] at hr2
                have hr3 : (valI (X * 256 + (y.toNat : Int)) (l.drop (i + 1)) - V) % 18446744073709551616 = 0 := hr2
                have hr4 := valI_cong (l.drop (i + 1)) ((X * 256 + (y.toNat : Int)) % 18446744073709551616) (X * 256 + (y.toNat : Int)) (by omega)
                have H4 := Lib.hid (show (valI ((X * 256 + (y.toNat : Int)) % 18446744073709551616) (l.drop (i + 1)) - V) % 18446744073709551616 = 0 by omega)
                clear hrel hr2 hr3 hr4 hdr hgy hy
                go_wp2
                go_round
                case rel => exact ⟨(X * 256 + (y.toNat : Int)) % 18446744073709551616, i + 1, by first | rfl | (congr 1; exact u64_step _ _), by go_num, by omega, by omega, by omega, (show Aside _ from H4.out)⟩
                case measure => simp [intOf]; omega
              · obtain rfl : i = 1 := by omega
                have hr2 := hrel.out
                rw [List.drop_of_length_le (by rw [HC.out.2.1]; exact Nat.le_refl _)] at hr2
                have hr3 : (X - V) % 18446744073709551616 = 0 := hr2
                have hVi := HC.out.2.2
                have hwx : wrap64 X = V := by unfold wrap64; omega
                clear hrel hr2 hr3 hlt hVi
                go_wp2
                obtain ⟨d, hd, hr⟩ := valInfo
                refine bodyPost_ret (results_cell_tmp_mid rfl _ _ w.heap.size 0 [.int .i64 5, .int .i64 V, .string ⟨#[]⟩, .slice none 0 0, .int .i64 0, .int .i64 0] d rfl (range_new00 w _ _ _ _ rfl) hd hr size_val) rfl ?_
                exact HF.out _ (below_two w _ _)
        by_cases m2 : m = 2
        · subst m2
          clear hw hm m1
          as_aux_lemma =>
            go_enter Tryd.func35, Tryd.ntmps35
            go_wp2
            go_loop [7, 8] (fun v7 v8 => ∃ (X : Int) (i : Nat), v7 = .int .u64 X ∧ v8 = .int .i64 (i : Int) ∧ 0 ≤ X ∧ X ≤ 18446744073709551615 ∧ i ≤ 2 ∧ Aside ((valI X (l.drop i) - V) % 18446744073709551616 = 0)) (fun _ v8 => 2 - (intOf v8).toNat)
            case atStart => exact ⟨18446744073709551615, 0, rfl, rfl, by omega, by omega, by omega, HS.out⟩
            case round =>
              obtain ⟨X, i, rfl, rfl, hX0, hX1, hi, hrel⟩ := hrel
              by_cases hlt : i < 2
              · obtain ⟨y, hy⟩ := byte_get (l := l) (k := i) (by rw [HC.out.2.1]; exact hlt)
                have hcy := cell2 (p := ⟨b, off + i, none⟩) hbw (HC.out.1 i y hy)
                have hyb := byte_lt y
                have hltI : (i : Int) < 2 := by omega
                have hdr := List.drop_eq_getElem_cons (l := l) (i := i) (by rw [HC.out.2.1]; exact hlt)
                have hgy : l[i]'(by rw [HC.out.2.1]; exact hlt) = y := by rw [List.getElem?_eq_getElem (by rw [HC.out.2.1]; exact hlt)] at hy; exact Option.some.inj hy
                rw [hgy] at hdr
                have hr2 := hrel.out
                rw [hdr] at hr2
                have hr3 : (valI (X * 256 + (y.toNat : Int)) (l.drop (i + 1)) - V) % 18446744073709551616 = 0 := hr2
                have hr4 := valI_cong (l.drop (i + 1)) ((X * 256 + (y.toNat : Int)) % 18446744073709551616) (X * 256 + (y.toNat : Int)) (by omega)
                have H4 := Lib.hid (show (valI ((X * 256 + (y.toNat : Int)) % 18446744073709551616) (l.drop (i + 1)) - V) % 18446744073709551616 = 0 by omega)
                clear hrel hr2 hr3 hr4 hdr hgy hy
                go_wp2
                go_round
                case rel => exact ⟨(X * 256 + (y.toNat : Int)) % 18446744073709551616, i + 1, by first | rfl | (congr 1; exact u64_step _ _), by go_num, by omega, by omega, by omega, (show Aside _ from H4.out)⟩
                case measure => simp [intOf]; omega
              · obtain rfl : i = 2 := by omega
                have hr2 := hrel.out
                rw [List.drop_of_length_le (by rw [HC.out.2.1]; exact Nat.le_refl _)] at hr2
                have hr3 : (X - V) % 18446744073709551616 = 0 := hr2
                have hVi := HC.out.2.2
                have hwx : wrap64 X = V := by unfold wrap64; omega
                clear hrel hr2 hr3 hlt hVi
                go_wp2
                obtain ⟨d, hd, hr⟩ := valInfo
                refine bodyPost_ret (results_cell_tmp_mid rfl _ _ w.heap.size 0 [.int .i64 5, .int .i64 V, .string ⟨#[]⟩, .slice none 0 0, .int .i64 0, .int .i64 0] d rfl (range_new00 w _ _ _ _ rfl) hd hr size_val) rfl ?_
                exact HF.out _ (below_two w _ _)
        by_cases m4 : m = 4
        · subst m4
          clear hw hm m1 m2
          as_aux_lemma =>
            go_enter Tryd.func35, Tryd.ntmps35
            go_wp2
            go_loop [7, 8] (fun v7 v8 => ∃ (X : Int) (i : Nat), v7 = .int .u64 X ∧ v8 = .int .i64 (i : Int) ∧ 0 ≤ X ∧ X ≤ 18446744073709551615 ∧ i ≤ 4 ∧ Aside ((valI X (l.drop i) - V) % 18446744073709551616 = 0)) (fun _ v8 => 4 - (intOf v8).toNat)
            case atStart => exact ⟨18446744073709551615, 0, rfl, rfl, by omega, by omega, by omega, HS.out⟩
            case round =>
              obtain ⟨X, i, rfl, rfl, hX0, hX1, hi, hrel⟩ := hrel
              by_cases hlt : i < 4
              · obtain ⟨y, hy⟩ := byte_get (l := l) (k := i) (by rw [HC.out.2.1]; exact hlt)
                have hcy := cell2 (p := ⟨b, off + i, none⟩) hbw (HC.out.1 i y hy)
                have hyb := byte_lt y
                have hltI : (i : Int) < 4 := by omega
                have hdr := List.drop_eq_getElem_cons (l := l) (i := i) (by rw [HC.out.2.1]; exact hlt)
                have hgy : l[i]'(by rw [HC.out.2.1]; exact hlt) = y := by rw [List.getElem?_eq_getElem (by rw [HC.out.2.1]; exact hlt)] at hy; exact Option.some.inj hy
                rw [hgy] at hdr
                have hr2 := hrel.out
                rw [hdr] at hr2
                have hr3 : (valI (X * 256 + (y.toNat : Int)) (l.drop (i + 1)) - V) % 18446744073709551616 = 0 := hr2
                have hr4 := valI_cong (l.drop (i + 1)) ((X * 256 + (y.toNat : Int)) % 18446744073709551616) (X * 256 + (y.toNat : Int)) (by omega)
                have H4 := Lib.hid (show (valI ((X * 256 + (y.toNat : Int)) % 18446744073709551616) (l.drop (i + 1)) - V) % 18446744073709551616 = 0 by omega)
                clear hrel hr2 hr3 hr4 hdr hgy hy
                go_wp2
                go_round
                case rel => exact ⟨(X * 256 + (y.toNat : Int)) % 18446744073709551616, i + 1, by first | rfl | (congr 1; exact u64_step _ _), by go_num, by omega, by omega, by omega, (show Aside _ from H4.out)⟩
                case measure => simp [intOf]; omega
              · obtain rfl : i = 4 := by omega
                have hr2 := hrel.out
                rw [List.drop_of_length_le (by rw [HC.out.2.1]; exact Nat.le_refl _)] at hr2
                have hr3 : (X - V) % 18446744073709551616 = 0 := hr2
                have hVi := HC.out.2.2
                have hwx : wrap64 X = V := by unfold wrap64; omega
                clear hrel hr2 hr3 hlt hVi
                go_wp2
                obtain ⟨d, hd, hr⟩ := valInfo
                refine bodyPost_ret (results_cell_tmp_mid rfl _ _ w.heap.size 0 [.int .i64 5, .int .i64 V, .string ⟨#[]⟩, .slice none 0 0, .int .i64 0, .int .i64 0] d rfl (range_new00 w _ _ _ _ rfl) hd hr size_val) rfl ?_
                exact HF.out _ (below_two w _ _)
        obtain rfl : m = 8 := by omega
        clear hw hm m1 m2 m4
        as_aux_lemma =>
          go_enter Tryd.func35, Tryd.ntmps35
          go_wp2
          go_loop [7, 8] (fun v7 v8 => ∃ (X : Int) (i : Nat), v7 = .int .u64 X ∧ v8 = .int .i64 (i : Int) ∧ 0 ≤ X ∧ X ≤ 18446744073709551615 ∧ i ≤ 8 ∧ Aside ((valI X (l.drop i) - V) % 18446744073709551616 = 0)) (fun _ v8 => 8 - (intOf v8).toNat)
          case atStart => exact ⟨18446744073709551615, 0, rfl, rfl, by omega, by omega, by omega, HS.out⟩
          case round =>
            obtain ⟨X, i, rfl, rfl, hX0, hX1, hi, hrel⟩ := hrel
            by_cases hlt : i < 8
            · obtain ⟨y, hy⟩ := byte_get (l := l) (k := i) (by rw [HC.out.2.1]; exact hlt)
              have hcy := cell2 (p := ⟨b, off + i, none⟩) hbw (HC.out.1 i y hy)
              have hyb := byte_lt y
              have hltI : (i : Int) < 8 := by omega
              have hdr := List.drop_eq_getElem_cons (l := l) (i := i) (by rw [HC.out.2.1]; exact hlt)
              have hgy : l[i]'(by rw [HC.out.2.1]; exact hlt) = y := by rw [List.getElem?_eq_getElem (by rw [HC.out.2.1]; exact hlt)] at hy; exact Option.some.inj hy
              rw [hgy] at hdr
              have hr2 := hrel.out
              rw [hdr] at hr2
              have hr3 : (valI (X * 256 + (y.toNat : Int)) (l.drop (i + 1)) - V) % 18446744073709551616 = 0 := hr2
              have hr4 := valI_cong (l.drop (i + 1)) ((X * 256 + (y.toNat : Int)) % 18446744073709551616) (X * 256 + (y.toNat : Int)) (by omega)
              have H4 := Lib.hid (show (valI ((X * 256 + (y.toNat : Int)) % 18446744073709551616) (l.drop (i + 1)) - V) % 18446744073709551616 = 0 by omega)
              clear hrel hr2 hr3 hr4 hdr hgy hy
              go_wp2
              go_round
              case rel => exact ⟨(X * 256 + (y.toNat : Int)) % 18446744073709551616, i + 1, by first | rfl | (congr 1; exact u64_step _ _), by go_num, by omega, by omega, by omega, (show Aside _ from H4.out)⟩
              case measure => simp [intOf]; omega
            · obtain rfl : i = 8 := by omega
              have hr2 := hrel.out
              rw [List.drop_of_length_le (by rw [HC.out.2.1]; exact Nat.le_refl _)] at hr2
              have hr3 : (X - V) % 18446744073709551616 = 0 := hr2
              have hVi := HC.out.2.2
              have hwx : wrap64 X = V := by unfold wrap64; omega
              clear hrel hr2 hr3 hlt hVi
              go_wp2
              obtain ⟨d, hd, hr⟩ := valInfo
              refine bodyPost_ret (results_cell_tmp_mid rfl _ _ w.heap.size 0 [.int .i64 5, .int .i64 V, .string ⟨#[]⟩, .slice none 0 0, .int .i64 0, .int .i64 0] d rfl (range_new00 w _ _ _ _ rfl) hd hr size_val) rfl ?_
              exact HF.out _ (below_two w _ _)
      rw [if_neg hbig] at hva
      have hbI : ¬ (128 : Int) ≤ u.toNat := by omega
      have hst : (valI 0 l - V) % 18446744073709551616 = 0 := by omega
      have HS := Lib.hid hst
      clear hst hva hbig
      by_cases m1 : m = 1
      · subst m1
        clear hw hm
        as_aux_lemma =>
          go_enter Tryd.func35, Tryd.ntmps35
          go_wp2
          go_loop [7, 8] (fun v7 v8 => ∃ (X : Int) (i : Nat), v7 = .int .u64 X ∧ v8 = .int .i64 (i : Int) ∧ 0 ≤ X ∧ X ≤ 18446744073709551615 ∧ i ≤ 1 ∧ Aside ((valI X (l.drop i) - V) % 18446744073709551616 = 0)) (fun _ v8 => 1 - (intOf v8).toNat)
          case atStart => exact ⟨0, 0, rfl, rfl, by omega, by omega, by omega, HS.out⟩
          case round =>
            obtain ⟨X, i, rfl, rfl, hX0, hX1, hi, hrel⟩ := hrel
            by_cases hlt : i < 1
            · obtain ⟨y, hy⟩ := byte_get (l := l) (k := i) (by rw [HC.out.2.1]; exact hlt)
              have hcy := cell2 (p := ⟨b, off + i, none⟩) hbw (HC.out.1 i y hy)
              have hyb := byte_lt y
              have hltI : (i : Int) < 1 := by omega
              have hdr := List.drop_eq_getElem_cons (l := l) (i := i) (by rw [HC.out.2.1]; exact hlt)
              have hgy : l[i]'(by rw [HC.out.2.1]; exact hlt) = y := by rw [List.getElem?_eq_getElem (by rw [HC.out.2.1]; exact hlt)] at hy; exact Option.some.inj hy
              rw [hgy] at hdr
              have hr2 := hrel.out
              rw [hdr] at hr2
              have hr3 : (valI (X * 256 + (y.toNat : Int)) (l.drop (i + 1)) - V) % 18446744073709551616 = 0 := hr2
              have hr4 := valI_cong (l.drop (i + 1)) ((X * 256 + (y.toNat : Int)) % 18446744073709551616) (X * 256 + (y.toNat : Int)) (by omega)
              have H4 := Lib.hid (show (valI ((X * 256 + (y.toNat : Int)) % 18446744073709551616) (l.drop (i + 1)) - V) % 18446744073709551616 = 0 by omega)
              clear hrel hr2 hr3 hr4 hdr hgy hy
              go_wp2
              go_round
              case rel => exact ⟨(X * 256 + (y.toNat : Int)) % 18446744073709551616, i + 1, by first | rfl | (congr 1; exact u64_step _ _), by go_num, by omega, by omega, by omega, (show Aside _ from H4.out)⟩
              case measure => simp [intOf]; omega
            · obtain rfl : i = 1 := by omega
              have hr2 := hrel.out
              rw [List.drop_of_length_le (by rw [HC.out.2.1]; exact Nat.le_refl _)] at hr2
              have hr3 : (X - V) % 18446744073709551616 = 0 := hr2
              have hVi := HC.out.2.2
              have hwx : wrap64 X = V := by unfold wrap64; omega
              clear hrel hr2 hr3 hlt hVi
              go_wp2
              obtain ⟨d, hd, hr⟩ := valInfo
              refine bodyPost_ret (results_cell_tmp_mid rfl _ _ w.heap.size 0 [.int .i64 5, .int .i64 V, .string ⟨#[]⟩, .slice none 0 0, .int .i64 0, .int .i64 0] d rfl (range_new00 w _ _ _ _ rfl) hd hr size_val) rfl ?_
              exact HF.out _ (below_two w _ _)
      by_cases m2 : m = 2
      · subst m2
        clear hw hm m1
        as_aux_lemma =>
          go_enter Tryd.func35, Tryd.ntmps35
          go_wp2
          go_loop [7, 8] (fun v7 v8 => ∃ (X : Int) (i : Nat), v7 = .int .u64 X ∧ v8 = .int .i64 (i : Int) ∧ 0 ≤ X ∧ X ≤ 18446744073709551615 ∧ i ≤ 2 ∧ Aside ((valI X (l.drop i) - V) % 18446744073709551616 = 0)) (fun _ v8 => 2 - (intOf v8).toNat)
          case atStart => exact ⟨0, 0, rfl, rfl, by omega, by omega, by omega, HS.out⟩
          case round =>
            obtain ⟨X, i, rfl, rfl, hX0, hX1, hi, hrel⟩ := hrel
            by_cases hlt : i < 2
            · obtain ⟨y, hy⟩ := byte_get (l := l) (k := i) (by rw [HC.out.2.1]; exact hlt)
              have hcy := cell2 (p := ⟨b, off + i, none⟩) hbw (HC.out.1 i y hy)
              have hyb := byte_lt y
              have hltI : (i : Int) < 2 := by omega
              have hdr := List.drop_eq_getElem_cons (l := l) (i := i) (by rw [HC.out.2.1]; exact hlt)
              have hgy : l[i]'(by rw [HC.out.2.1]; exact hlt) = y := by rw [List.getElem?_eq_getElem (by rw [HC.out.2.1]; exact hlt)] at hy; exact Option.some.inj hy
              rw [hgy] at hdr
              have hr2 := hrel.out
              rw [hdr] at hr2
              have hr3 : (valI (X * 256 + (y.toNat : Int)) (l.drop (i + 1)) - V) % 18446744073709551616 = 0 := hr2
              have hr4 := valI_cong (l.drop (i + 1)) ((X * 256 + (y.toNat : Int)) % 18446744073709551616) (X * 256 + (y.toNat : Int)) (by omega)
              have H4 := Lib.hid (show (valI ((X * 256 + (y.toNat : Int)) % 18446744073709551616) (l.drop (i + 1)) - V) % 18446744073709551616 = 0 by omega)
              clear hrel hr2 hr3 hr4 hdr hgy hy
              go_wp2
              go_round
              case rel => exact ⟨(X * 256 + (y.toNat : Int)) % 18446744073709551616, i + 1, by first | rfl | (congr 1; exact u64_step _ _), by go_num, by omega, by omega, by omega, (show Aside _ from H4.out)⟩
              case measure => simp [intOf]; omega
            · obtain rfl : i = 2 := by omega
              have hr2 := hrel.out
              rw [List.drop_of_length_le (by rw [HC.out.2.1]; exact Nat.le_refl _)] at hr2
              have hr3 : (X - V) % 18446744073709551616 = 0 := hr2
              have hVi := HC.out.2.2
              have hwx : wrap64 X = V := by unfold wrap64; omega
              clear hrel hr2 hr3 hlt hVi
              go_wp2
              obtain ⟨d, hd, hr⟩ := valInfo
              refine bodyPost_ret (results_cell_tmp_mid rfl _ _ w.heap.size 0 [.int .i64 5, .int .i64 V, .string ⟨#[]⟩, .slice none 0 0, .int .i64 0, .int .i64 0] d rfl (range_new00 w _ _ _ _ rfl) hd hr size_val) rfl ?_
              exact HF.out _ (below_two w _ _)
      by_cases m4 : m = 4
      · subst m4
        clear hw hm m1 m2
        as_aux_lemma =>
          go_enter Tryd.func35, Tryd.ntmps35
          go_wp2
          go_loop [7, 8] (fun v7 v8 => ∃ (X : Int) (i : Nat), v7 = .int .u64 X ∧ v8 = .int .i64 (i : Int) ∧ 0 ≤ X ∧ X ≤ 18446744073709551615 ∧ i ≤ 4 ∧ Aside ((valI X (l.drop i) - V) % 18446744073709551616 = 0)) (fun _ v8 => 4 - (intOf v8).toNat)
          case atStart => exact ⟨0, 0, rfl, rfl, by omega, by omega, by omega, HS.out⟩
          case round =>
            obtain ⟨X, i, rfl, rfl, hX0, hX1, hi, hrel⟩ := hrel
            by_cases hlt : i < 4
            · obtain ⟨y, hy⟩ := byte_get (l := l) (k := i) (by rw [HC.out.2.1]; exact hlt)
              have hcy := cell2 (p := ⟨b, off + i, none⟩) hbw (HC.out.1 i y hy)
              have hyb := byte_lt y
              have hltI : (i : Int) < 4 := by omega
              have hdr := List.drop_eq_getElem_cons (l := l) (i := i) (by rw [HC.out.2.1]; exact hlt)
              have hgy : l[i]'(by rw [HC.out.2.1]; exact hlt) = y := by rw [List.getElem?_eq_getElem (by rw [HC.out.2.1]; exact hlt)] at hy; exact Option.some.inj hy
              rw [hgy] at hdr
              have hr2 := hrel.out
              rw [hdr] at hr2
              have hr3 : (valI (X * 256 + (y.toNat : Int)) (l.drop (i + 1)) - V) % 18446744073709551616 = 0 := hr2
              have hr4 := valI_cong (l.drop (i + 1)) ((X * 256 + (y.toNat : Int)) % 18446744073709551616) (X * 256 + (y.toNat : Int)) (by omega)
              have H4 := Lib.hid (show (valI ((X * 256 + (y.toNat : Int)) % 18446744073709551616) (l.drop (i + 1)) - V) % 18446744073709551616 = 0 by omega)
              clear hrel hr2 hr3 hr4 hdr hgy hy
              go_wp2
              go_round
              case rel => exact ⟨(X * 256 + (y.toNat : Int)) % 18446744073709551616, i + 1, by first | rfl | (congr 1; exact u64_step _ _), by go_num, by omega, by omega, by omega, (show Aside _ from H4.out)⟩
              case measure => simp [intOf]; omega
            · obtain rfl : i = 4 := by omega
              have hr2 := hrel.out
              rw [List.drop_of_length_le (by rw [HC.out.2.1]; exact Nat.le_refl _)] at hr2
              have hr3 : (X - V) % 18446744073709551616 = 0 := hr2
              have hVi := HC.out.2.2
              have hwx : wrap64 X = V := by unfold wrap64; omega
              clear hrel hr2 hr3 hlt hVi
              go_wp2
              obtain ⟨d, hd, hr⟩ := valInfo
              refine bodyPost_ret (results_cell_tmp_mid rfl _ _ w.heap.size 0 [.int .i64 5, .int .i64 V, .string ⟨#[]⟩, .slice none 0 0, .int .i64 0, .int .i64 0] d rfl (range_new00 w _ _ _ _ rfl) hd hr size_val) rfl ?_
              exact HF.out _ (below_two w _ _)
      obtain rfl : m = 8 := by omega
      clear hw hm m1 m2 m4
      as_aux_lemma =>
        go_enter Tryd.func35, Tryd.ntmps35
        go_wp2
        go_loop [7, 8] (fun v7 v8 => ∃ (X : Int) (i : Nat), v7 = .int .u64 X ∧ v8 = .int .i64 (i : Int) ∧ 0 ≤ X ∧ X ≤ 18446744073709551615 ∧ i ≤ 8 ∧ Aside ((valI X (l.drop i) - V) % 18446744073709551616 = 0)) (fun _ v8 => 8 - (intOf v8).toNat)
        case atStart => exact ⟨0, 0, rfl, rfl, by omega, by omega, by omega, HS.out⟩
        case round =>
          obtain ⟨X, i, rfl, rfl, hX0, hX1, hi, hrel⟩ := hrel
          by_cases hlt : i < 8
          · obtain ⟨y, hy⟩ := byte_get (l := l) (k := i) (by rw [HC.out.2.1]; exact hlt)
            have hcy := cell2 (p := ⟨b, off + i, none⟩) hbw (HC.out.1 i y hy)
            have hyb := byte_lt y
            have hltI : (i : Int) < 8 := by omega
            have hdr := List.drop_eq_getElem_cons (l := l) (i := i) (by rw [HC.out.2.1]; exact hlt)
            have hgy : l[i]'(by rw [HC.out.2.1]; exact hlt) = y := by rw [List.getElem?_eq_getElem (by rw [HC.out.2.1]; exact hlt)] at hy; exact Option.some.inj hy
            rw [hgy] at hdr
            have hr2 := hrel.out
            rw [hdr] at hr2
            have hr3 : (valI (X * 256 + (y.toNat : Int)) (l.drop (i + 1)) - V) % 18446744073709551616 = 0 := hr2
            have hr4 := valI_cong (l.drop (i + 1)) ((X * 256 + (y.toNat : Int)) % 18446744073709551616) (X * 256 + (y.toNat : Int)) (by omega)
            have H4 := Lib.hid (show (valI ((X * 256 + (y.toNat : Int)) % 18446744073709551616) (l.drop (i + 1)) - V) % 18446744073709551616 = 0 by omega)
            clear hrel hr2 hr3 hr4 hdr hgy hy
            go_wp2
            go_round
            case rel => exact ⟨(X * 256 + (y.toNat : Int)) % 18446744073709551616, i + 1, by first | rfl | (congr 1; exact u64_step _ _), by go_num, by omega, by omega, by omega, (show Aside _ from H4.out)⟩
            case measure => simp [intOf]; omega
          · obtain rfl : i = 8 := by omega
            have hr2 := hrel.out
            rw [List.drop_of_length_le (by rw [HC.out.2.1]; exact Nat.le_refl _)] at hr2
            have hr3 : (X - V) % 18446744073709551616 = 0 := hr2
            have hVi := HC.out.2.2
            have hwx : wrap64 X = V := by unfold wrap64; omega
            clear hrel hr2 hr3 hlt hVi
            go_wp2
            obtain ⟨d, hd, hr⟩ := valInfo
            refine bodyPost_ret (results_cell_tmp_mid rfl _ _ w.heap.size 0 [.int .i64 5, .int .i64 V, .string ⟨#[]⟩, .slice none 0 0, .int .i64 0, .int .i64 0] d rfl (range_new00 w _ _ _ _ rfl) hd hr size_val) rfl ?_
            exact HF.out _ (below_two w _ _)
    · have hE : unwE 5 l = 20 := by rw [hE0, show widthB m = false from decide_eq_false hw, if_neg (by decide)]
      have f1 : ((m : Int) != 1) = true := bne_iff_ne.2 (by omega)
      have f2 : ((m : Int) != 2) = true := bne_iff_ne.2 (by omega)
      have f4 : ((m : Int) != 4) = true := bne_iff_ne.2 (by omega)
      have f8 : ((m : Int) != 8) = true := bne_iff_ne.2 (by omega)
      clear hw hE0 hm
      have HE := Lib.hid hE
      clear hE hbs hB hl 
      go_enter Tryd.func35, Tryd.ntmps35
      go_wp2
      obtain ⟨d, hd, hr⟩ := valInfo
      refine bodyPost_ret (results_cell_tmp_mid rfl _ _ w.heap.size 0 [.int .i64 0, .int .i64 0, .string ⟨#[]⟩, .slice none 0 0, .int .i64 0, .int .i64 0] d rfl (range_new00 w _ _ _ _ rfl) hd hr size_val) rfl ?_
      exact RUnwRet.no HE.out (by decide) (below_two w _ _)
  have f5 : (k == 5) = false := beq_eq_false_iff_ne.2 k5
  by_cases k2 : k = 2
  · subst k2
    have hE0 : unwE 2 l = if l.length = 1 ∧ (l.getD 0 0).toNat ≤ 1 then 0 else 20 := (if_neg (by decide)).trans (if_pos rfl)
    by_cases h1 : m = 1
    · subst h1
      obtain ⟨b, off, rfl, hb, hc⟩ := hbs.place (by omega)
      obtain ⟨u, hu⟩ := byte_get (l := l) (k := 0) (by omega)
      have h00 := hc 0 u hu
      rw [Nat.add_zero] at h00
      have hbw : b < w.heap.size := by omega
      have h0 := cell2 (p := ⟨b, off, none⟩) hbw h00
      have hD : l.getD 0 0 = u := by rw [List.getD_eq_getElem?_getD, hu]; rfl
      have hub := byte_lt u
      have hw64 : wrap64 (u.toNat : Int) = (u.toNat : Int) := wrap_small (by omega) (by omega)
      rw [hD] at hE0
      by_cases hle : u.toNat ≤ 1
      · have hE : unwE 2 l = 0 := hE0.trans (if_pos ⟨hl, hle⟩)
        have hn : unwN 2 l = (u.toNat : Int) := by rw [show unwN 2 l = ((l.getD 0 0).toNat : Int) from (if_neg (by decide)).trans (if_pos rfl), hD]
        have HF : Hid (∀ w', Below w.heap.size w w' → RUnwRet 2 (some ⟨b, off, none⟩) 1 c l w (.returned (.tuple #[.agg #[.int .i64 2, .int .i64 (u.toNat : Int), .string ⟨#[]⟩, .slice none 0 0, .int .i64 0, .int .i64 0], .int .i64 0])) w') := fun w' hb => ⟨hb, by rw [if_pos hE, hn]; rfl⟩
        have hlI : ¬ (1 : Int) < u.toNat := by omega
        clear hE hE0 hn hu hD hc hbs hB hl hb h00 hle hm
        go_enter Tryd.func35, Tryd.ntmps35
        go_wp2
        obtain ⟨d, hd, hr⟩ := valInfo
        refine bodyPost_ret (results_cell_tmp_mid rfl _ _ w.heap.size 0 [.int .i64 2, .int .i64 (u.toNat : Int), .string ⟨#[]⟩, .slice none 0 0, .int .i64 0, .int .i64 0] d rfl (range_new00 w _ _ _ _ rfl) hd hr size_val) rfl ?_
        exact HF.out _ (below_two w _ _)
      · have hE : unwE 2 l = 20 := hE0.trans (if_neg (fun h => hle h.2))
        have hlI : (1 : Int) < u.toNat := by omega
        clear hE0 hu hD hc hb h00 hle hm
        have HE := Lib.hid hE
        clear hE hbs hB hl 
        go_enter Tryd.func35, Tryd.ntmps35
        go_wp2
        obtain ⟨d, hd, hr⟩ := valInfo
        refine bodyPost_ret (results_cell_tmp_mid rfl _ _ w.heap.size 0 [.int .i64 0, .int .i64 0, .string ⟨#[]⟩, .slice none 0 0, .int .i64 0, .int .i64 0] d rfl (range_new00 w _ _ _ _ rfl) hd hr size_val) rfl ?_
        exact RUnwRet.no HE.out (by decide) (below_two w _ _)
    · have hE : unwE 2 l = 20 := hE0.trans (if_neg (fun h => h1 (by omega)))
      have g1 : ((m : Int) != 1) = true := bne_iff_ne.2 (by omega)
      clear hE0 hm h1
      have HE := Lib.hid hE
      clear hE hbs hB hl 
      go_enter Tryd.func35, Tryd.ntmps35
      go_wp2
      obtain ⟨d, hd, hr⟩ := valInfo
      refine bodyPost_ret (results_cell_tmp_mid rfl _ _ w.heap.size 0 [.int .i64 0, .int .i64 0, .string ⟨#[]⟩, .slice none 0 0, .int .i64 0, .int .i64 0] d rfl (range_new00 w _ _ _ _ rfl) hd hr size_val) rfl ?_
      exact RUnwRet.no HE.out (by decide) (below_two w _ _)
  have f2 : (k == 2) = false := beq_eq_false_iff_ne.2 k2
  by_cases k3 : k = 3
  · subst k3
    have hE0 : unwE 3 l = if 200 < l.length then 2 else if okN (runesQ l) = 1 then 0 else 20 := (if_neg (by decide)).trans ((if_neg (by decide)).trans (if_pos rfl))
    rw [hl] at hE0
    by_cases hb : 200 < m
    · have hE : unwE 3 l = 2 := hE0.trans (if_pos hb)
      have hbI : (200 : Int) < m := by omega
      clear hE0 hb hm
      have HE := Lib.hid hE
      clear hE hbs hB hl 
      go_enter Tryd.func35, Tryd.ntmps35
      go_wp2
      obtain ⟨d, hd, hr⟩ := valInfo
      refine bodyPost_ret (results_cell_tmp_mid rfl _ _ w.heap.size 0 [.int .i64 0, .int .i64 0, .string ⟨#[]⟩, .slice none 0 0, .int .i64 0, .int .i64 0] d rfl (range_new00 w _ _ _ _ rfl) hd hr size_val) rfl ?_
      exact RUnwRet.no HE.out (by decide) (below_two w _ _)
    have hbI : ¬ (200 : Int) < m := by omega
    rw [if_neg hb] at hE0
    have hcv0 := fun W (hbW : Below w.heap.size w W) => run_string_bs (P := Tryd.prog) (hbs.below' hbW hB) 22 9 5 c Tryd.underlying22 Tryd.underlying5 Tryd.underlying9
    have cR := fun W => rrunes_b ⟨l.toArray⟩ W (by show l.toArray.size ≤ _; rw [List.size_toArray, hl]; exact hm)
    rw [show (⟨l.toArray⟩ : ByteArray).data.toList = l from by show l.toArray.toList = l; simp] at cR
    have hsS : unwS 3 l = ⟨l.toArray⟩ := if_pos rfl
    generalize (⟨l.toArray⟩ : ByteArray) = s at *
    have hcv := fun o1 o2 => hcv0 ((w.alloc o1).alloc o2) (below_two w o1 o2)
    have HCV := Lib.hid hcv0
    obtain ⟨R, hR⟩ : ∃ R, runesQ l = R := ⟨_, rfl⟩
    rw [hR] at cR hE0
    clear hcv0 hR hb hm
    cases R with
    | none =>
      have hE : unwE 3 l = 20 := hE0.trans (if_neg (by decide))
      have HE := Lib.hid hE
      clear hE hE0 hsS hbs hB hl
      unfold runesEnd at cR
      go_enter Tryd.func35, Tryd.ntmps35
      go_wp2_with fail
      refine (cR _).mono ?_
      rintro e w1 ⟨rfl, hb1⟩
      have hz1 := hb1.size
      have r0 := range_below (range_new00 w #[.int .i64 0, .int .i64 0, .string ⟨#[]⟩, .slice none 0 0, .int .i64 0, .int .i64 0] #[.int .i64 3, .int .i64 0, .string ⟨#[]⟩, .slice none 0 0, .int .i64 0, .int .i64 0] 24 24 rfl) hb1 (by rw [alloc_size, alloc_size]; omega)
      have t0 : w1.there w.heap.size 0 6 := there_below (there_below (there_new w #[.int .i64 0, .int .i64 0, .string ⟨#[]⟩, .slice none 0 0, .int .i64 0, .int .i64 0] 24 rfl) (alloc_below _ (.cells #[.int .i64 3, .int .i64 0, .string ⟨#[]⟩, .slice none 0 0, .int .i64 0, .int .i64 0] 24)) (by rw [alloc_size]; omega)) hb1 (by rw [alloc_size, alloc_size]; omega)
      have r1 := range_below (range_new1 w (.cells #[.int .i64 0, .int .i64 0, .string ⟨#[]⟩, .slice none 0 0, .int .i64 0, .int .i64 0] 24) #[.int .i64 3, .int .i64 0, .string ⟨#[]⟩, .slice none 0 0, .int .i64 0, .int .i64 0] 24 (vs := [.int .i64 3, .int .i64 0, .string ⟨#[]⟩, .slice none 0 0, .int .i64 0, .int .i64 0]) rfl) hb1 (by rw [alloc_size, alloc_size]; omega)
      have t1 : w1.there (w.heap.size + 1) 0 6 := there_below (there_new1 w (.cells #[.int .i64 0, .int .i64 0, .string ⟨#[]⟩, .slice none 0 0, .int .i64 0, .int .i64 0] 24) #[.int .i64 3, .int .i64 0, .string ⟨#[]⟩, .slice none 0 0, .int .i64 0, .int .i64 0] 24 rfl) hb1 (by rw [alloc_size, alloc_size]; omega)
      have hbw1 : Below w.heap.size w w1 := (below_two w _ _).trans (hb1.mono (by rw [alloc_size, alloc_size]; omega))
      have hcv1 := HCV.out w1 hbw1
      clear hb1 hz1 hcv
      have RR := Lib.hid (And.intro r0 (And.intro r1 (And.intro t0 t1)))
      clear r0 r1 t0 t1
      go_wp2_with (refine wpList_store_mid rfl 24 (.tmp 4) (.tmp 95) rfl w.heap.size 0 (List.toArray [.int .i64 0, .int .i64 0, .string ⟨#[]⟩, .slice none 0 0, .int .i64 0, .int .i64 0]) rfl rfl RR.out.2.2.1 size_val (all_oneCell_toArray one6v) ?_)
      obtain ⟨d, hd, hr⟩ := valInfo
      refine bodyPost_ret (results_cell_tmp_mid rfl _ _ w.heap.size 0 [.int .i64 0, .int .i64 0, .string ⟨#[]⟩, .slice none 0 0, .int .i64 0, .int .i64 0] d rfl (World.rangeAt_setCells_same _ _ _ _ RR.out.2.2.1) hd hr size_val) rfl ?_
      exact RUnwRet.no HE.out (by decide) (below_setCells hbw1 (Nat.le_refl _) _ _)
    | some q =>
      have hE : unwE 3 l = 0 := hE0.trans (if_pos rfl)
      have HF : Hid (∀ w', Below w.heap.size w w' → RUnwRet 3 A m c l w (.returned (.tuple #[.agg #[.int .i64 3, .int .i64 0, .string s, .slice none 0 0, .int .i64 0, .int .i64 0], .int .i64 0])) w') := fun w' hb => ⟨hb, by rw [if_pos hE, hsS]; rfl⟩
      clear hE hE0 hsS hbs hB hl
      unfold runesEnd at cR
      go_enter Tryd.func35, Tryd.ntmps35
      go_wp2_with fail
      refine (cR _).mono ?_
      rintro e w1 ⟨rfl, hb1⟩
      have hz1 := hb1.size
      have r0 := range_below (range_new00 w #[.int .i64 0, .int .i64 0, .string ⟨#[]⟩, .slice none 0 0, .int .i64 0, .int .i64 0] #[.int .i64 3, .int .i64 0, .string ⟨#[]⟩, .slice none 0 0, .int .i64 0, .int .i64 0] 24 24 rfl) hb1 (by rw [alloc_size, alloc_size]; omega)
      have t0 : w1.there w.heap.size 0 6 := there_below (there_below (there_new w #[.int .i64 0, .int .i64 0, .string ⟨#[]⟩, .slice none 0 0, .int .i64 0, .int .i64 0] 24 rfl) (alloc_below _ (.cells #[.int .i64 3, .int .i64 0, .string ⟨#[]⟩, .slice none 0 0, .int .i64 0, .int .i64 0] 24)) (by rw [alloc_size]; omega)) hb1 (by rw [alloc_size, alloc_size]; omega)
      have r1 := range_below (range_new1 w (.cells #[.int .i64 0, .int .i64 0, .string ⟨#[]⟩, .slice none 0 0, .int .i64 0, .int .i64 0] 24) #[.int .i64 3, .int .i64 0, .string ⟨#[]⟩, .slice none 0 0, .int .i64 0, .int .i64 0] 24 (vs := [.int .i64 3, .int .i64 0, .string ⟨#[]⟩, .slice none 0 0, .int .i64 0, .int .i64 0]) rfl) hb1 (by rw [alloc_size, alloc_size]; omega)
      have t1 : w1.there (w.heap.size + 1) 0 6 := there_below (there_new1 w (.cells #[.int .i64 0, .int .i64 0, .string ⟨#[]⟩, .slice none 0 0, .int .i64 0, .int .i64 0] 24) #[.int .i64 3, .int .i64 0, .string ⟨#[]⟩, .slice none 0 0, .int .i64 0, .int .i64 0] 24 rfl) hb1 (by rw [alloc_size, alloc_size]; omega)
      have hbw1 : Below w.heap.size w w1 := (below_two w _ _).trans (hb1.mono (by rw [alloc_size, alloc_size]; omega))
      have hcv1 := HCV.out w1 hbw1
      clear hb1 hz1 hcv
      have RR := Lib.hid (And.intro r0 (And.intro r1 (And.intro t0 t1)))
      have p2 : w1.cell? ⟨w.heap.size + 1, 2, none⟩ = some (.string ⟨#[]⟩) := r1 2 _ rfl
      have q2 : w1.frozen? ⟨w.heap.size + 1, 2, none⟩ = false := (t1 2 (by decide)).2
      have r2 : (w1.setCell ⟨w.heap.size + 1, 2, none⟩ (.string s)).rangeAt (w.heap.size + 1) 0 [.int .i64 3, .int .i64 0, .string s, .slice none 0 0, .int .i64 0, .int .i64 0] := by
        have := range_set r1 t1 2 (show 2 < 6 by decide) (.string s)
        rw [Nat.zero_add] at this
        exact this
      have t2 : (w1.setCell ⟨w.heap.size + 1, 2, none⟩ (.string s)).there w.heap.size 0 6 := there_set t0 _ _
      have hbw2 := hbw1.setCell (p := ⟨w.heap.size + 1, 2, none⟩) (show w.heap.size ≤ w.heap.size + 1 by omega) (.string s)
      have R2 := Lib.hid (And.intro r2 (And.intro t2 hbw2))
      clear r0 r1 t0 t1 r2 t2 hbw1 hbw2 RR
      obtain ⟨d, hd, hr⟩ := valInfo
      have HD := Lib.hid (And.intro hd hr)
      clear hd hr
      go_wp2_with (first
        | (refine wpList_load_mid rfl 24 (.tmp 6) rfl (w.heap.size + 1) 0 rfl [.int .i64 3, .int .i64 0, .string s, .slice none 0 0, .int .i64 0, .int .i64 0] d R2.out.1 HD.out.1 HD.out.2 size_val ?_)
        | (refine wpList_store_mid rfl 24 (.tmp 4) (.tmp 127) rfl w.heap.size 0 (List.toArray [.int .i64 3, .int .i64 0, .string s, .slice none 0 0, .int .i64 0, .int .i64 0]) rfl rfl R2.out.2.1 size_val (all_oneCell_toArray one6v) ?_))
      refine bodyPost_ret (results_cell_tmp_mid rfl _ _ w.heap.size 0 [.int .i64 3, .int .i64 0, .string s, .slice none 0 0, .int .i64 0, .int .i64 0] d rfl (World.rangeAt_setCells_same _ _ _ _ R2.out.2.1) HD.out.1 HD.out.2 size_val) rfl ?_
      exact HF.out _ (below_setCells R2.out.2.2 (Nat.le_refl _) _ _)
  have f3 : (k == 3) = false := beq_eq_false_iff_ne.2 k3
  by_cases k4 : k = 4
  · subst k4
    have hE0 : unwE 4 l = if 200 < l.length then 2 else 0 := (if_neg (by decide)).trans ((if_neg (by decide)).trans ((if_neg (by decide)).trans (if_pos rfl)))
    rw [hl] at hE0
    by_cases hb : 200 < m
    · have hE : unwE 4 l = 2 := hE0.trans (if_pos hb)
      have hbI : (200 : Int) < m := by omega
      clear hE0 hb hm
      have HE := Lib.hid hE
      clear hE hbs hB hl 
      go_enter Tryd.func35, Tryd.ntmps35
      go_wp2
      obtain ⟨d, hd, hr⟩ := valInfo
      refine bodyPost_ret (results_cell_tmp_mid rfl _ _ w.heap.size 0 [.int .i64 0, .int .i64 0, .string ⟨#[]⟩, .slice none 0 0, .int .i64 0, .int .i64 0] d rfl (range_new00 w _ _ _ _ rfl) hd hr size_val) rfl ?_
      exact RUnwRet.no HE.out (by decide) (below_two w _ _)
    have hbI : ¬ (200 : Int) < m := by omega
    have hE : unwE 4 l = 0 := hE0.trans (if_neg hb)
    have HF : Hid (∀ w', Below w.heap.size w w' → RUnwRet 4 A m c l w (.returned (.tuple #[.agg #[.int .i64 4, .int .i64 0, .string ⟨#[]⟩, .slice A m c, .int .i64 0, .int .i64 0], .int .i64 0])) w') := fun w' hb => ⟨hb, by rw [if_pos hE]; rfl⟩
    clear hE hE0 hbs hB hl hb hm
    go_enter Tryd.func35, Tryd.ntmps35
    go_wp2
    obtain ⟨d, hd, hr⟩ := valInfo
    refine bodyPost_ret (results_cell_tmp_mid rfl _ _ w.heap.size 0 [.int .i64 4, .int .i64 0, .string ⟨#[]⟩, .slice A m c, .int .i64 0, .int .i64 0] d rfl (range_new00 w _ _ _ _ rfl) hd hr size_val) rfl ?_
    exact HF.out _ (below_two w _ _)
  have f4 : (k == 4) = false := beq_eq_false_iff_ne.2 k4
  by_cases k6 : k = 6
  · subst k6
    have hE0 : unwE 6 l = if l.length = 4 then 0 else 20 := (if_neg (by decide)).trans ((if_neg (by decide)).trans ((if_neg (by decide)).trans ((if_neg (by decide)).trans (if_pos rfl))))
    rw [hl] at hE0
    by_cases h4 : m = 4
    · subst h4
      have hE : unwE 6 l = 0 := hE0.trans (if_pos rfl)
      obtain ⟨u0, u1, u2, u3, hls⟩ : ∃ u0 u1 u2 u3, l = [u0, u1, u2, u3] := by
        match l, hl with
        | [a, b, c, d], _ => exact ⟨a, b, c, d, rfl⟩
      obtain ⟨e0, e1⟩ := link_o hls
      have hO : unwO 6 l = (u0.toNat : Int) * 256 + (u1.toNat : Int) := (if_pos rfl).trans e0
      have hI : unwI 6 l = (u2.toNat : Int) * 256 + (u3.toNat : Int) := (if_pos rfl).trans e1
      obtain ⟨b, off, rfl, hb, hc⟩ := hbs.place (by omega)
      have hbw : b < w.heap.size := by omega
      have b0 := byte_lt u0
      have b1 := byte_lt u1
      have b2 := byte_lt u2
      have b3 := byte_lt u3
      have HF : Hid (∀ w', Below w.heap.size w w' → RUnwRet 6 (some ⟨b, off, none⟩) 4 c l w (.returned (.tuple #[.agg #[.int .i64 6, .int .i64 0, .string ⟨#[]⟩, .slice none 0 0, .int .i64 ((u0.toNat : Int) * 256 + (u1.toNat : Int)), .int .i64 ((u2.toNat : Int) * 256 + (u3.toNat : Int))], .int .i64 0])) w') := fun w' hb => ⟨hb, by rw [if_pos hE, hO, hI]; rfl⟩
      have HK0 : K6 w ((w.alloc (.cells #[.int .i64 0, .int .i64 0, .string ⟨#[]⟩, .slice none 0 0, .int .i64 0, .int .i64 0] 24)).alloc (.cells #[.int .i64 6, .int .i64 0, .string ⟨#[]⟩, .slice none 0 0, .int .i64 0, .int .i64 0] 24)) b off u0 u1 u2 u3 0 0 := ⟨range_new1 w _ _ _ rfl, there_new1 w _ _ _ rfl, there_below (there_new w _ _ rfl) (alloc_below _ _) (by rw [alloc_size]; omega), hbw, by have := hc 0 u0 (by rw [hls]; rfl); rwa [Nat.add_zero] at this, hc 1 u1 (by rw [hls]; rfl), hc 2 u2 (by rw [hls]; rfl), hc 3 u3 (by rw [hls]; rfl), below_two w _ _⟩
      clear hE hE0 e0 e1 hO hI hls hc hbs hB hl hb hm
      have w0 := byte_wrap u0
      have w1 := byte_wrap u1
      have w2 := byte_wrap u2
      have w3 := byte_wrap u3
      go_enter Tryd.func35, Tryd.ntmps35
      go_wp2_with fail
      refine wp_at_world (F := fun W => K6 w W b off u0 u1 u2 u3 0 0) HK0 ?_
      clear HK0
      intro W HK
      have g0 : W.cell? ⟨b, off, none⟩ = _ := (HK.bel.cell (p := ⟨b, off, none⟩) HK.hb).trans HK.c0
      have g1 : W.cell? ⟨b, off + 1, none⟩ = _ := (HK.bel.cell (p := ⟨b, off + 1, none⟩) HK.hb).trans HK.c1
      have hck : W.drew.cell? ⟨w.heap.size + 1, 4, none⟩ = some (.int .i64 0) := HK.r1 4 _ rfl
      have hfr : W.drew.frozen? ⟨w.heap.size + 1, 4, none⟩ = false := (HK.t1 4 (by decide)).2
      have HK2 := Lib.hid ((HK.set4 ((u0.toNat : Int) * 256 + (u1.toNat : Int))).drew)
      clear HK
      go_still_tail 11, (by kernel_rfl)
      go_wp2_with fail
      refine wp_at_world (F := fun W => K6 w W b off u0 u1 u2 u3 ((u0.toNat : Int) * 256 + (u1.toNat : Int)) 0) HK2.out ?_
      clear HK2 hck hfr g0 g1
      intro V HV
      have g0 : V.cell? ⟨b, off + 2, none⟩ = _ := (HV.bel.cell (p := ⟨b, off + 2, none⟩) HV.hb).trans HV.c2
      have g1 : V.cell? ⟨b, off + 3, none⟩ = _ := (HV.bel.cell (p := ⟨b, off + 3, none⟩) HV.hb).trans HV.c3
      have hck : V.drew.cell? ⟨w.heap.size + 1, 5, none⟩ = some (.int .i64 0) := HV.r1 5 _ rfl
      have hfr : V.drew.frozen? ⟨w.heap.size + 1, 5, none⟩ = false := (HV.t1 5 (by decide)).2
      have HK2 := Lib.hid ((HV.set5 ((u2.toNat : Int) * 256 + (u3.toNat : Int))).drew)
      clear HV
      go_still_tail 11, (by kernel_rfl)
      obtain ⟨d, hd, hr⟩ := valInfo
      have HD := Lib.hid (And.intro hd hr)
      clear hd hr
      go_wp2_with (first
        | (refine wpList_load_mid rfl 24 (.tmp 6) rfl (w.heap.size + 1) 0 rfl [.int .i64 6, .int .i64 0, .string ⟨#[]⟩, .slice none 0 0, .int .i64 ((u0.toNat : Int) * 256 + (u1.toNat : Int)), .int .i64 ((u2.toNat : Int) * 256 + (u3.toNat : Int))] d HK2.out.r1 HD.out.1 HD.out.2 size_val ?_)
        | (refine wpList_store_mid rfl 24 (.tmp 4) (.tmp 127) rfl w.heap.size 0 (List.toArray [.int .i64 6, .int .i64 0, .string ⟨#[]⟩, .slice none 0 0, .int .i64 ((u0.toNat : Int) * 256 + (u1.toNat : Int)), .int .i64 ((u2.toNat : Int) * 256 + (u3.toNat : Int))]) rfl rfl HK2.out.t0 size_val (all_oneCell_toArray one6v) ?_))
      refine bodyPost_ret (results_cell_tmp_mid rfl _ _ w.heap.size 0 [.int .i64 6, .int .i64 0, .string ⟨#[]⟩, .slice none 0 0, .int .i64 ((u0.toNat : Int) * 256 + (u1.toNat : Int)), .int .i64 ((u2.toNat : Int) * 256 + (u3.toNat : Int))] d rfl (World.rangeAt_setCells_same _ _ _ _ HK2.out.t0) HD.out.1 HD.out.2 size_val) rfl ?_
      exact HF.out _ (below_setCells HK2.out.bel (Nat.le_refl _) _ _)
    · have hE : unwE 6 l = 20 := hE0.trans (if_neg h4)
      have g1 : ((m : Int) != 4) = true := bne_iff_ne.2 (by omega)
      clear hE0 hm h4
      have HE := Lib.hid hE
      clear hE hbs hB hl 
      go_enter Tryd.func35, Tryd.ntmps35
      go_wp2
      obtain ⟨d, hd, hr⟩ := valInfo
      refine bodyPost_ret (results_cell_tmp_mid rfl _ _ w.heap.size 0 [.int .i64 0, .int .i64 0, .string ⟨#[]⟩, .slice none 0 0, .int .i64 0, .int .i64 0] d rfl (range_new00 w _ _ _ _ rfl) hd hr size_val) rfl ?_
      exact RUnwRet.no HE.out (by decide) (below_two w _ _)
  have f6 : (k == 6) = false := beq_eq_false_iff_ne.2 k6
  have hE : unwE k l = 70 := (if_neg (by omega)).trans ((if_neg k2).trans ((if_neg k3).trans ((if_neg k4).trans (if_neg k6))))
  clear hm
  have HE := Lib.hid hE
  clear hE hbs hB hl 
  go_enter Tryd.func35, Tryd.ntmps35
  go_wp2
  obtain ⟨d, hd, hr⟩ := valInfo
  refine bodyPost_ret (results_cell_tmp_mid rfl _ _ w.heap.size 0 [.int .i64 0, .int .i64 0, .string ⟨#[]⟩, .slice none 0 0, .int .i64 0, .int .i64 0] d rfl (range_new00 w _ _ _ _ rfl) hd hr size_val) rfl ?_
  exact RUnwRet.no HE.out (by decide) (below_two w _ _)
end Go.Proofs.YtoelmkcgdoabeaaDoor
