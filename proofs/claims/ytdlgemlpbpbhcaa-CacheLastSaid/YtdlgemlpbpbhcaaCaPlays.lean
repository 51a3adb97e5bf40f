/-
  Rows of steps of the cache: few ones; the document's list at its address.
-/
import Derived.Test.YtdlgemlpbpbhcaaCaPure
import Derived.Test.YtdlgemlpbpbhcaaCaAlive
import Derived.Test.YtdlgemlpbpbhcaaCaArgs
namespace Go.Proofs.Ytdlgemlpbpbhcaa
open Go.RowKit
set_option linter.unusedVariables false
/-- The document's list, in the call's own memory. -/
structure RfAt (w : World) (B : Nat) (v : Value) (vs : List An) (rs : List Qa) : Prop where
  row : w.ownsRow B 55 4 v vs.length (ans vs)
  tok : ∀ s ∈ vs, 0 ≤ s.t ∧ s.t ≤ 1099511627776
  few : vs.length ≤ 8
  each : All2 (Ka w B) vs rs
theorem row_kpt {cb B n sz : Nat} {w w' : World} {e : TypeId} {v : Value} {xs : List Value} (hk : KpT cb w w') (h : w.ownsRow B e sz v n xs) (h1 : e ≠ 44) (h2 : e ≠ 48) : w'.ownsRow B e sz v n xs := by
  refine ⟨h.1, ?_⟩
  rcases h.2 with hn | ⟨g, cap, cur, e1, hb, hg, rest⟩
  · exact .inl hn
  · exact .inr ⟨g, cap, cur, e1, hb, (hk.typ g _ _ _ hg h1 h2).trans hg, rest⟩
section
variable {w w' : World} {B : Nat} {v : Value} {vs : List An} {rs : List Qa}
theorem RfAt.kpt {cb : Nat} (h : RfAt w B v vs rs) (hk : KpT cb w w') : RfAt w' B v vs rs :=
  ⟨row_kpt hk h.row (by decide) (by decide), h.tok, h.few, h.each.imp fun s q ha => ha.kpt hk⟩
theorem RfAt.below (h : RfAt w B v vs rs) (hb : Below w.heap.size w w') : RfAt w' B v vs rs :=
  ⟨row_below4 h.row hb, h.tok, h.few, h.each.imp fun s q ha => ha.below hb⟩
theorem RfAt.nil (w : World) (B : Nat) : RfAt w B (.slice none 0 0) [] [] := ⟨World.ownsRow_nil _ _ _ _, (fun s hs => by cases hs), Nat.zero_le _, trivial⟩
theorem RfAt.open_ (h : RfAt w B v vs rs) : ∃ A c, v = .slice A vs.length c ∧ Ah w w.heap.size A vs.length vs := by
  obtain ⟨A, c, e, _, hb⟩ := Ah.of_own h.row
  exact ⟨A, c, e, hb⟩
end
section
variable {R : An → Qa → Prop}
theorem All2.erase (j : Nat) {vs : List An} {qs : List Qa} (h : All2 R vs qs) : All2 R (vs.eraseIdx j) (qs.eraseIdx j) := by
  rw [List.eraseIdx_eq_take_drop_succ, List.eraseIdx_eq_take_drop_succ]
  exact (h.take j).append (h.drop (j + 1))
theorem All2.mapt (hp : ∀ s q, R s q → s.t = q.t) : ∀ {vs : List An} {qs : List Qa}, All2 R vs qs → vs.map An.t = qs.map Qa.t
  | [], [], _ => rfl
  | [], _ :: _, h => h.elim
  | _ :: _, [], h => h.elim
  | s :: vs, q :: qs, h => by rw [List.map_cons, List.map_cons, hp s q h.1, h.2.mapt hp]
theorem All2.find {p : An → Bool} {p' : Qa → Bool} (hp : ∀ s q, R s q → p s = p' q) : ∀ {vs : List An} {qs : List Qa}, All2 R vs qs → (vs.find? p = none ∧ qs.find? p' = none) ∨ ∃ s q, vs.find? p = some s ∧ qs.find? p' = some q ∧ R s q
  | [], [], _ => .inl ⟨rfl, rfl⟩
  | [], _ :: _, h => h.elim
  | _ :: _, [], h => h.elim
  | s :: vs, q :: qs, h => by
    cases hb : p s with
    | true => exact .inr ⟨s, q, List.find?_cons_of_pos hb, List.find?_cons_of_pos (by rw [← hp s q h.1]; exact hb), h.1⟩
    | false =>
      rw [List.find?_cons_of_neg (by rw [hb]; decide), List.find?_cons_of_neg (by rw [← hp s q h.1, hb]; decide)]
      exact h.2.find hp
end
/-- The document's Keep, of the list at its address. -/
theorem rkeep_at {w : World} {B : Nat} {v : Value} {vs : List An} {rs : List Qa} (h : RfAt w B v vs rs) (hB : B ≤ w.heap.size) (fr id now : Int) (A2 : Option Addr) (n2 c2 : Nat) (l : List UInt8) (hb : Bs w w.heap.size A2 n2 l) (hn2 : (n2 : Int) ≤ 65536) :
    Calls Try.prog 10 #[v, .int .i64 fr, .int .i64 id, .int .i64 now, .slice A2 n2 c2] w fun e w' => ∃ v' vs', e = .returned v' ∧ Below w.heap.size w w' ∧ RfAt w' B v' vs' (keepR rs fr id now l) := by
  obtain ⟨A, c, rfl, hah⟩ := h.open_
  refine (rkeep_f A vs.length c vs w hah h.tok (by have := h.few; omega) fr id now A2 n2 c2 l hb hn2).mono ?_
  rintro e w' ⟨v', x, rfl, hbe, ⟨x1, x2, x3, x4⟩, hu, hr⟩
  have hka : Ka w' B x ⟨fr, id, clampN now, l⟩ := ⟨x1, x2, x3, own_mono hu hB, by rw [x4, hb.len]; omega⟩
  have h1 : All2 (Ka w' B) vs rs := h.each.imp fun s q ha => ha.below hbe
  have h2 := (h1.filter (p := fun s => !(s.f == x.f && s.i == x.i)) (p' := fun q => !(q.f == fr && q.i == id)) (fun s q ha => by rw [ha.f, ha.i, x1, x2])).append (show All2 (Ka w' B) [x] [⟨fr, id, clampN now, l⟩] from ⟨hka, trivial⟩)
  have hall : All2 (Ka w' B) (rkA vs x) (keepR rs fr id now l) := by
    unfold rkA keepR
    dsimp only
    rw [← h2.len, ← h2.mapt (fun s q ha => ha.t)]
    split
    · exact h2
    · exact h2.erase _
  have hfew := keepR_few rs fr id now l (by rw [← h.each.len]; exact h.few)
  refine ⟨v', rkA vs x, rfl, hbe, own_mono hr hB, fun s hs => ?_, by rw [hall.len]; exact hfew, hall⟩
  have hs2 : s ∈ vs.filter (fun s => !(s.f == x.f && s.i == x.i)) ++ [x] := by
    unfold rkA at hs
    dsimp only at hs
    split at hs
    · exact hs
    · exact List.mem_of_mem_eraseIdx hs
  rcases List.mem_append.1 hs2 with hs2 | hs2
  · exact h.tok s (List.mem_filter.1 hs2).1
  · obtain rfl := List.mem_singleton.1 hs2
    rw [x3]; exact clampN_in now
/-- .. its Find. -/
theorem rfind_at {w : World} {B : Nat} {v : Value} {vs : List An} {rs cs : List Qa} (h : RfAt w B v vs rs) (hq : Rq cs rs) (fr id now : Int) :
    Calls Try.prog 13 #[v, .int .i64 fr, .int .i64 id, .int .i64 now] w fun e w' => ∃ A n c, e = .returned (.tuple #[.slice A n c, .bool (findQ cs fr id now).isSome]) ∧ Bs w w.heap.size A n ((findQ cs fr id now).getD []) ∧ (n : Int) ≤ 1099511627776 ∧ ∃ m, w' = w.drewN m := by
  obtain ⟨A, c, rfl, hah⟩ := h.open_
  refine (rfind_f A vs.length c vs w _ hah h.tok (by have := h.few; omega) fr id now).mono ?_
  rintro e w' ⟨rfl, m, rfl⟩
  rw [hq.find fr id now]
  rcases h.each.find (p := hitA fr id (clampN now)) (p' := hitQ fr id (clampN now)) (fun s q ha => by unfold hitA hitQ; rw [ha.f, ha.i, ha.t]) with ⟨e1, e2⟩ | ⟨s, q, e1, e2, ha⟩
  · rw [e1, e2]
    exact ⟨none, 0, 0, rfl, Bs.empty _ _ _, by omega, m, rfl⟩
  · rw [e1, e2]
    exact ⟨s.A, s.n, s.c, rfl, ha.bs, ha.max, m, rfl⟩
/-- .. its Len. -/
theorem rlen_at {w : World} {B : Nat} {v : Value} {vs : List An} {rs cs : List Qa} (h : RfAt w B v vs rs) (hq : Rq cs rs) (now : Int) :
    Calls Try.prog 16 #[v, .int .i64 now] w fun e w' => e = .returned (.int .i64 (cntQ now cs : Int)) ∧ ∃ m, w' = w.drewN m := by
  obtain ⟨A, c, rfl, hah⟩ := h.open_
  have := rlen_f A vs.length c vs w _ hah h.tok (by have := h.few; omega) now
  rwa [cnt_same now vs rs h.each.len (fun k s q hs hq => (h.each.at_ k s q hs hq).t), ← hq.cnt] at this
theorem size_opc : (Try.prog.info? 30).map (·.size) = some 5 := by kernel_rfl
theorem five_one (a b d e : Int) (A : Option Addr) (n c : Nat) : ∀ v ∈ ([.int .i64 a, .int .i64 b, .int .i64 d, .int .i64 e, .slice A n c] : List Value), v.oneCell' = true := by
  intro v hv
  simp only [List.mem_cons, List.not_mem_nil, or_false] at hv
  rcases hv with rfl | rfl | rfl | rfl | rfl <;> rfl
/-- Are steps few, of few bytes? -/
def smallOc (os : List Opc) : Bool := os.all (fun o => decide (o.n ≤ 200)) && decide (os.length ≤ 60)
set_option maxHeartbeats 4000000 in
theorem small11_f (A : Option Addr) (n c : Nat) (os : List Opc) (w : World) (B : Nat) (h : Opcs w B A n os) (hB : B ≤ w.heap.size) (hc : n ≤ c) (hm : c ≤ maxLen) :
    Calls Try.prog 7 #[.slice A n c] w fun e w' => e = .returned (.bool (smallOc os)) ∧ Below w.heap.size w w' := by
  have hcI : (c : Int) ≤ 9223372036854775807 := by simp only [maxLen] at hm; omega
  have HS := Lib.hid h.len
  go_enter Try.func7, Try.ntmps7
  go_wp2
  go_loopw [7] (fun iv wr => ∃ k : Nat, k ≤ n ∧ iv = .int .i64 (k : Int) ∧ Aside (Below w.heap.size w wr ∧ ∀ j o, j < k → os[j]? = some o → o.n ≤ 200)) (fun iv _ => n - (intOf iv).toNat)
  case atStart => exact ⟨0, Nat.zero_le _, rfl, Below.refl _ _, fun j o hj => absurd hj (Nat.not_lt_zero _)⟩
  case round =>
    obtain ⟨k, hk, rfl, hrel⟩ := hrel
    by_cases hlt : k < n
    · obtain ⟨s, hs⟩ := opc_get (os := os) (k := k) (by rw [HS.out]; exact hlt)
      obtain ⟨b, off, rfl, hb, hat⟩ := h.place (by omega)
      have hbel := hrel.out.1
      have hop := (hat k s hs).keep hb (fun p hp => hbel.cell (p := p) (by omega))
      have hrg := hop.range
      simp only [Opc.vals] at hrg
      have HR := Lib.hid (And.intro hrel.out hs)
      have hmx : (s.n : Int) ≤ 9223372036854775807 := by have := hop.cap; have := hop.max; simp only [maxLen] at this; omega
      clear hrel hs hat hop
      by_cases hbig : (200 : Int) < s.n
      · go_wp2_with (refine wpList_load_mid rfl 30 (.tmp 9) rfl b (off + k * 5) rfl [.int .i64 s.k, .int .i64 s.a, .int .i64 s.b, .int .i64 s.t, .slice s.A s.n s.c] _ hrg Try.underlying30 rfl size_opc ?_)
        go_ret
        refine ⟨?_, hbel.trans ((alloc_below wr _).mono hbel.size)⟩
        have : smallOc os = false := by
          unfold smallOc
          rw [Bool.and_eq_false_iff]
          left
          rw [List.all_eq_false]
          exact ⟨s, List.mem_of_getElem? HR.out.2, by simp; omega⟩
        rw [this]; rfl
      · go_wp2_with (refine wpList_load_mid rfl 30 (.tmp 9) rfl b (off + k * 5) rfl [.int .i64 s.k, .int .i64 s.a, .int .i64 s.b, .int .i64 s.t, .slice s.A s.n s.c] _ hrg Try.underlying30 rfl size_opc ?_)
        go_roundw
        case rel =>
          refine ⟨k + 1, by omega, by go_num, (show Aside _ from ⟨hbel.trans ((alloc_below wr _).mono hbel.size), fun j o hj ho => ?_⟩)⟩
          by_cases e : j = k
          · subst e
            rw [HR.out.2] at ho
            obtain rfl := Option.some.inj ho
            omega
          · exact HR.out.1.2 j o (by omega) ho
        case measure => simp [intOf]; omega
    · obtain rfl : k = n := by omega
      have hall : os.all (fun o => decide (o.n ≤ 200)) = true := by
        rw [List.all_eq_true]
        intro o ho
        obtain ⟨j, hj⟩ := List.mem_iff_getElem?.1 ho
        have hjl := (List.getElem?_eq_some_iff.1 hj).1
        rw [HS.out] at hjl
        exact decide_eq_true (hrel.out.2 j o hjl hj)
      have hfin : smallOc os = decide ((k : Int) ≤ 60) := by
        unfold smallOc
        rw [hall, Bool.true_and, HS.out]
        exact decide_eq_decide.2 (by omega)
      have HF := Lib.hid (And.intro hfin hrel.out.1)
      clear hfin hall hrel
      go_wp2
      go_ret
      exact ⟨by rw [HF.out.1]; rfl, HF.out.2⟩
end Go.Proofs.Ytdlgemlpbpbhcaa
