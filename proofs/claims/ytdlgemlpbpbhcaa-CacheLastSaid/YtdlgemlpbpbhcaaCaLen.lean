/-
  Answers that are kept: how many.
-/
import Derived.Test.YtdlgemlpbpbhcaaCaGet
namespace Go.Proofs.Ytdlgemlpbpbhcaa
open Go.RowKit
set_option linter.unusedVariables false
def cntA (now : Int) (vs : List An) : Nat := (vs.filter (fun s => decide (clampN now - s.t < 247))).length
def cntQ (now : Int) (qs : List Qa) : Nat := (qs.filter (fun q => decide (clampN now - q.t < 247))).length
theorem cntA_next {now : Int} {vs : List An} {k : Nat} {s : An} (h : vs[k]? = some s) : cntA now (vs.take (k + 1)) = cntA now (vs.take k) + (if clampN now - s.t < 247 then 1 else 0) := by
  unfold cntA
  rw [List.take_add_one, h, List.filter_append, List.length_append]
  congr 1
  show ([s].filter _).length = _
  by_cases e : clampN now - s.t < 247
  · rw [List.filter_cons_of_pos (by simpa using e), if_pos e]; rfl
  · rw [List.filter_cons_of_neg (by simpa using e), if_neg e]; rfl
theorem cntA_le (now : Int) (vs : List An) : cntA now vs ≤ vs.length := List.length_filter_le _ _
theorem cnt_same (now : Int) : ∀ (vs : List An) (qs : List Qa), vs.length = qs.length → (∀ (k : Nat) (s : An) (q : Qa), vs[k]? = some s → qs[k]? = some q → s.t = q.t) → cntA now vs = cntQ now qs
  | [], [], _, _ => rfl
  | [], _ :: _, h, _ => by simp at h
  | _ :: _, [], h, _ => by simp at h
  | s :: vs, q :: qs, h, he => by
    have ih := cnt_same now vs qs (by simpa using h) (fun k a b ha hb => he (k + 1) a b (by simpa using ha) (by simpa using hb))
    have h0 := he 0 s q rfl rfl
    unfold cntA cntQ at ih ⊢
    by_cases e : clampN now - s.t < 247
    · rw [List.filter_cons_of_pos (by simpa using e), List.filter_cons_of_pos (by rw [← h0]; simpa using e), List.length_cons, List.length_cons, ih]
    · rw [List.filter_cons_of_neg (by simpa using e), List.filter_cons_of_neg (by rw [← h0]; simpa using e), ih]
theorem one4a (a b d : Int) (A : Option Addr) (n c : Nat) : ∀ v ∈ ([.int .i64 a, .int .i64 b, .int .i64 d, .slice A n c] : List Value), v.oneCell' = true := by
  intro v hv
  simp only [List.mem_cons, List.not_mem_nil, or_false] at hv
  rcases hv with rfl | rfl | rfl | rfl <;> rfl
theorem range_boxA (w : World) (cs : Array Value) (t : TypeId) {vs : List Value} (h : cs.toList = vs) : (w.alloc (.cells cs t)).rangeAt w.heap.size 0 vs := by
  intro j v hv
  rw [Nat.zero_add, cell_of_row _ _ _ _ _ _ (heap_alloc_new w _), ← hv, ← h, Array.getElem?_toList]
set_option maxHeartbeats 8000000 in
theorem calen_f (cb : Nat) (v : Value) (vs : List An) (qs : List Qa) (w : World) (h : CaAt w cb v vs qs) (now : Int) :
    Calls Try.prog 15 #[.pointer (some ⟨cb, 0, none⟩), .int .i64 now] w fun e w' => e = .returned (.int .i64 (cntQ now qs : Int)) ∧ Below w.heap.size w w' := by
  obtain ⟨A, c, rfl, hlc, _⟩ := h.open_
  have hcs := cnt_same now vs qs h.len (fun k s q hs hq => (h.each k s q hs hq).t)
  obtain ⟨q, hq⟩ : ∃ q, vs.length = q := ⟨_, rfl⟩
  have hfew := h.few
  have HH := Lib.hid (And.intro h (And.intro hq (And.intro hlc hcs)))
  rw [hq] at hlc hfew
  have hq8 : (q : Int) ≤ 8 := by omega
  have hca : ∀ W, Below w.heap.size w W → W.cell? ⟨cb, 0, none⟩ = some (.slice A q c) := fun W hb => by rw [← hq]; exact (h.below hb).cell
  have HC := Lib.hid hca
  clear hq h hfew hca hcs
  go_enter Try.func15, Try.ntmps15
  go_wp2_with fail
  refine (living_f now w).mono ?_
  rintro e w1 ⟨rfl, b1, s1, l1⟩
  have H1 := Lib.hid (And.intro b1 (And.intro s1 l1))
  have hcc := HC.out w1 b1
  clear b1 s1 l1
  try dsimp only
  go_wp2
  go_loopw [6, 16] (fun mv iv wr => ∃ k m : Nat, k ≤ q ∧ m ≤ k ∧ iv = .int .i64 (k : Int) ∧ mv = .int .i64 (m : Int) ∧ Aside (m = cntA now (vs.take k) ∧ Below w1.heap.size w1 wr)) (fun _ iv _ => q - (intOf iv).toNat)
  case atStart => exact ⟨0, 0, Nat.zero_le _, Nat.le_refl _, rfl, rfl, rfl, Below.refl _ _⟩
  case round =>
    obtain ⟨k, m, hk, hm, rfl, rfl, hrel⟩ := hrel
    by_cases hlt : k < q
    · have hkI : (k : Int) < q := by omega
      have hkI8 : (m : Int) ≤ 8 := by omega
      have hbel := H1.out.1.trans (hrel.out.2.mono H1.out.1.size)
      have hca := HH.out.1.below hbel
      obtain ⟨A0, c0, hv0, _, hah⟩ := hca.open_
      obtain rfl : A0 = A := by injection hv0 with e1 _ _; exact e1.symm
      rw [HH.out.2.1] at hah
      obtain ⟨s, hs⟩ := an_get hah hlt
      obtain ⟨b, off, rfl, hbb, _⟩ := hah.place (by omega)
      have hrg := hah.range hs
      have hnx := cntA_next (now := now) hs
      have hr1 := range_boxA wr #[.int .i64 s.f, .int .i64 s.i, .int .i64 s.t, .slice s.A s.n s.c] 48 rfl
      have hcall := fun W (hb : Below wr.heap.size wr W) => living1_f w.heap.size (clampN now) s W (Nat.lt_of_lt_of_le H1.out.2.1 (Nat.le_trans hrel.out.2.size hb.size)) (((hrel.out.2.trans (hb.mono hrel.out.2.size)).cell (p := ⟨w.heap.size, 0, none⟩) H1.out.2.1).trans H1.out.2.2) (clampN_in now) (HH.out.1.tok s (List.mem_of_getElem? hs))
      simp only [An.vals] at hrg
      by_cases hlv : clampN now - s.t < 247
      · rw [decide_eq_true hlv] at hcall
        rw [if_pos hlv] at hnx
        have HX := Lib.hid (And.intro hcall (And.intro hnx hrel.out))
        clear hcall hnx hrel hbel hca hah hv0 hlv hs
        go_wp2_with (first
          | (refine wpList_load_mid rfl 48 (.tmp 18) rfl b (off + k * 4) rfl [.int .i64 s.f, .int .i64 s.i, .int .i64 s.t, .slice s.A s.n s.c] _ hrg Try.underlying48 rfl size_an ?_)
          | (refine wpList_load_mid rfl 48 (.tmp 8) rfl wr.heap.size 0 rfl [.int .i64 s.f, .int .i64 s.i, .int .i64 s.t, .slice s.A s.n s.c] _ hr1 Try.underlying48 rfl size_an ?_))
        refine (HX.out.1 _ (alloc_below wr _)).mono ?_
        rintro e w5 ⟨rfl, b5⟩
        have H5 := Lib.hid b5
        clear b5 hr1 hrg
        go_wp2
        go_roundw
        case rel =>
          refine ⟨k + 1, m + 1, by omega, by omega, by first | rfl | go_num, by first | rfl | go_num, by rw [HX.out.2.1, HX.out.2.2.1], HX.out.2.2.2.trans (((alloc_below wr _).trans (H5.out.mono (by rw [alloc_size]; omega))).mono HX.out.2.2.2.size)⟩
        case measure => simp [intOf]; omega
      · rw [decide_eq_false hlv] at hcall
        rw [if_neg hlv] at hnx
        have HX := Lib.hid (And.intro hcall (And.intro hnx hrel.out))
        clear hcall hnx hrel hbel hca hah hv0 hlv hs
        go_wp2_with (first
          | (refine wpList_load_mid rfl 48 (.tmp 18) rfl b (off + k * 4) rfl [.int .i64 s.f, .int .i64 s.i, .int .i64 s.t, .slice s.A s.n s.c] _ hrg Try.underlying48 rfl size_an ?_)
          | (refine wpList_load_mid rfl 48 (.tmp 8) rfl wr.heap.size 0 rfl [.int .i64 s.f, .int .i64 s.i, .int .i64 s.t, .slice s.A s.n s.c] _ hr1 Try.underlying48 rfl size_an ?_))
        refine (HX.out.1 _ (alloc_below wr _)).mono ?_
        rintro e w5 ⟨rfl, b5⟩
        have H5 := Lib.hid b5
        clear b5 hr1 hrg
        go_wp2
        go_roundw
        case rel =>
          refine ⟨k + 1, m, by omega, by omega, by first | rfl | go_num, rfl, by rw [HX.out.2.1, Nat.add_zero, HX.out.2.2.1], HX.out.2.2.2.trans (((alloc_below wr _).trans (H5.out.mono (by rw [alloc_size]; omega))).mono HX.out.2.2.2.size)⟩
        case measure => simp [intOf]; omega
    · obtain rfl : k = q := by omega
      have hkI : ¬ (k : Int) < k := by omega
      have hfin : m = cntQ now qs := by
        rw [hrel.out.1, ← HH.out.2.2.2, List.take_of_length_le (by rw [HH.out.2.1]; exact Nat.le_refl _)]
      have HF := Lib.hid (And.intro hfin hrel.out.2)
      clear hfin hrel
      go_wp2
      go_ret
      exact ⟨by rw [← HF.out.1]; rfl, H1.out.1.trans (HF.out.2.mono H1.out.1.size)⟩
end Go.Proofs.Ytdlgemlpbpbhcaa
