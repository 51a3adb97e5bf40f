/-
  The law's small; the pairs of a journal; how many bytes they need.
-/
/-
  What a step leaves alone: all but the journal and its flash.
-/
import Derived.Test.YtpdlipkmojhnnaaJournalAlive
import Derived.Test.YtpdlipkmojhnnaaJOps
namespace Go.Proofs.Ytpdlipkmojhnnaa
open Go.RowKit Go.Maps Go.Shelf
set_option maxRecDepth 100000
set_option linter.unusedVariables false
set_option maxRecDepth 100000
theorem size_opj : (Try.prog.info? 37).map (·.size) = some 3 := by kernel_rfl
theorem small5 (A : Option Addr) (m c : Nat) (os : List Opj) (w : World) (h : Opjs w w.heap.size A m os) (hm : m ≤ maxLen) :
    Calls Try.prog 5 #[.slice A m c] w fun e w' => ∃ b, e = .returned (.bool b) ∧ Below w.heap.size w w' ∧ (b = true → m ≤ 40 ∧ ∀ (i : Nat) (s : Opj), os[i]? = some s → s.n ≤ 300) := by
  have hmi : (m : Int) ≤ 9223372036854775807 := by simp only [maxLen] at hm; omega
  have hlen := Lib.hid h.len
  clear hm
  go_enter Try.func5, Try.ntmps5
  go_wp2
  go_loopw [7] (fun i wr => ∃ k : Nat, k ≤ m ∧ i = .int .i64 k ∧ Below w.heap.size w wr ∧ Hid (∀ (i : Nat) (s : Opj), i < k → os[i]? = some s → s.n ≤ 300)) (fun i _ => m - (intOf i).toNat)
  case atStart => exact ⟨0, by omega, rfl, Below.refl _ _, fun i s h => by omega⟩
  case round =>
    obtain ⟨k, hk, rfl, B, H3⟩ := hrel
    by_cases hlt : k < m
    · obtain ⟨b, off, rfl, hb, hc⟩ := h.place (by omega)
      obtain ⟨s, hs⟩ := opj_get (os := os) (k := k) (by rw [hlen.out]; omega)
      have hop := (hc k s hs).keep hb (fun p hp => B.cell hp)
      have hcap := hop.cap
      have hmax := hop.max
      have hr := hop.range
      simp only [maxLen] at hmax
      have HS := Lib.hid hs
      clear hc hs hop
      by_cases hfit : (300 : Int) < s.n
      · go_wp2_with (refine wpList_load_mid rfl 37 (.tmp 9) rfl b (off + k * 3) rfl [.int .i64 s.k, .int .i64 s.a, .slice s.A s.n s.c] _ hr Try.underlying37 rfl size_opj ?_)
        go_ret
        exact ⟨false, rfl, B.alloc B.size _, fun x => by cases x⟩
      · go_wp2_with (refine wpList_load_mid rfl 37 (.tmp 9) rfl b (off + k * 3) rfl [.int .i64 s.k, .int .i64 s.a, .slice s.A s.n s.c] _ hr Try.underlying37 rfl size_opj ?_)
        go_roundw
        case rel => exact ⟨k + 1, by omega, by go_num, B.alloc B.size _, fun i s' hi hs' => by
          by_cases hik : i = k
          · subst hik
            have := HS.out
            rw [hs'] at this
            obtain rfl := Option.some.inj this
            omega
          · exact H3.out i s' (by omega) hs'⟩
        case measure => simp [intOf]; omega
    · obtain rfl : k = m := by omega
      go_wp2
      go_ret
      refine ⟨_, rfl, B, fun hx => ⟨by have : (k : Int) ≤ 40 := by simpa using hx
                                       omega, fun i s hs => H3.out i s (by have := (List.getElem?_eq_some_iff.1 hs).1; have := hlen.out; omega) hs⟩⟩
/-- A slice of pairs: each a key and its bytes. -/
structure Prs (w : World) (B : Nat) (A : Option Addr) (n : Nat) (ps : List (Int × List UInt8)) : Prop where
  len : ps.length = n
  place : 0 < n → ∃ b off, A = some ⟨b, off, none⟩ ∧ b < B ∧ ∀ (i : Nat) (x : Int × List UInt8), ps[i]? = some x → ∃ A' c', w.cell? ⟨b, off + 2 * i, none⟩ = some (.int .i64 x.1) ∧ w.cell? ⟨b, off + 2 * i + 1, none⟩ = some (.slice A' x.2.length c') ∧ Bs w B A' x.2.length x.2
theorem Prs.keep {w w' : World} {B n : Nat} {A : Option Addr} {ps : List (Int × List UInt8)} (h : Prs w B A n ps) (hk : ∀ p : Addr, p.block < B → w'.cell? p = w.cell? p) : Prs w' B A n ps :=
  ⟨h.len, fun hn => by
    obtain ⟨b, off, e, hb, hc⟩ := h.place hn
    refine ⟨b, off, e, hb, fun i x hx => ?_⟩
    obtain ⟨A', c', h1, h2, h3⟩ := hc i x hx
    exact ⟨A', c', (hk _ hb).trans h1, (hk _ hb).trans h2, h3.keep hk⟩⟩
theorem Prs.below {w w' : World} {B n : Nat} {A : Option Addr} {ps : List (Int × List UInt8)} (h : Prs w B A n ps) (hb : Below B w w') : Prs w' B A n ps := h.keep fun _ hp => hb.cell hp
/-- The pairs of values. -/
def prsOf (V : Int → Option (List UInt8)) : List (Int × List UInt8) := (keysOf V).map fun k => (k, (V k).getD [])
/-- Pairs of the call's own. -/
def OwnPrs (w : World) (base : Nat) (v : Value) (ps : List (Int × List UInt8)) : Prop :=
  ∃ vs : List Value, vs.length = ps.length ∧ w.ownsRow base 69 2 v ps.length ((ps.zip vs).flatMap fun x => [.int .i64 x.1.1, x.2]) ∧ ∀ (i : Nat) (x : Int × List UInt8) (u : Value), ps[i]? = some x → vs[i]? = some u → w.ownsRow base 5 1 u x.2.length (U8 x.2)
theorem row_kept {w w' : World} {base size n : Nat} {e : TypeId} {v : Value} {xs : List Value} (h : w.ownsRow base e size v n xs) (hk : ∀ g cs, v.ownBlock = some g → w.heap[g]? = some (.cells cs e (0, 0)) → w'.heap[g]? = w.heap[g]?) : w'.ownsRow base e size v n xs := by
  refine ⟨h.1, ?_⟩
  rcases h.2 with h2 | ⟨g, cap, cur, rfl, h3, h4, h5, h6, h7, h8⟩
  · exact .inl h2
  · exact .inr ⟨g, cap, cur, rfl, h3, (hk g cur rfl h4).trans h4, h5, h6, h7, h8⟩
theorem row_mono {w : World} {base base' size n : Nat} {e : TypeId} {v : Value} {xs : List Value} (h : w.ownsRow base e size v n xs) (hb : base' ≤ base) : w.ownsRow base' e size v n xs := by
  refine ⟨h.1, ?_⟩
  rcases h.2 with h2 | ⟨g, cap, cur, h0, h3, h4⟩
  · exact .inl h2
  · exact .inr ⟨g, cap, cur, h0, Nat.le_trans hb h3, h4⟩
theorem OwnPrs.below {w w' : World} {base : Nat} {v : Value} {ps : List (Int × List UInt8)} (h : OwnPrs w base v ps) (hb : Below w.heap.size w w') : OwnPrs w' base v ps := by
  obtain ⟨vs, h1, h2, h3⟩ := h
  have hk : ∀ (g : Nat) (cs : Array Value) (e : TypeId), w.heap[g]? = some (.cells cs e (0, 0)) → w'.heap[g]? = w.heap[g]? := fun g cs e hg => hb.block g (Array.getElem?_eq_some_iff.1 hg).1
  exact ⟨vs, h1, row_kept h2 fun g cs _ hg => hk g cs _ hg, fun i x u hx hu => row_kept (h3 i x u hx hu) fun g cs _ hg => hk g cs _ hg⟩
theorem OwnPrs.grown {w w' : World} {base : Nat} {v v' u : Value} {ps : List (Int × List UInt8)} {x : Int × List UInt8} {vs : List Value} (h1 : vs.length = ps.length) (h3 : ∀ (i : Nat) (x : Int × List UInt8) (u : Value), ps[i]? = some x → vs[i]? = some u → w.ownsRow base 5 1 u x.2.length (U8 x.2))
    (h2 : w.ownsRow base 69 2 v ps.length ((ps.zip vs).flatMap fun x => [.int .i64 x.1.1, x.2])) (hu : w.ownsRow base 5 1 u x.2.length (U8 x.2)) (ho : w'.ownsRow base 69 2 v' (ps.length + 1) (((ps.zip vs).flatMap fun x => [.int .i64 x.1.1, x.2]) ++ [.int .i64 x.1, u])) (hg : w.grownBy w' v.ownBlock) : OwnPrs w' base v' (ps ++ [x]) := by
  have hk : ∀ (g : Nat) (cs : Array Value), w.heap[g]? = some (.cells cs 5 (0, 0)) → w'.heap[g]? = w.heap[g]? := fun g cs hb => hg.block g (Array.getElem?_eq_some_iff.1 hb).1 (fun e => by
    rcases h2.2 with ⟨rfl, _⟩ | ⟨g', cap, cur, rfl, _, h4, _⟩
    · cases e
    · have e' : g = g' := by injection e
      subst e'
      rw [hb] at h4
      injection h4 with h4
      injection h4 with _ h4
      exact absurd h4 (by decide))
  refine ⟨vs ++ [u], by simp [h1], ?_, fun i y z hy hz => ?_⟩
  · rw [List.zip_append h1.symm, List.flatMap_append, List.length_append]
    exact ho
  · by_cases hi : i < ps.length
    · rw [List.getElem?_append_left hi] at hy
      rw [List.getElem?_append_left (by omega)] at hz
      exact row_kept (h3 i y z hy hz) fun g cs _ hb => hk g cs hb
    · have hi2 : i = ps.length := by
        have := (List.getElem?_eq_some_iff.1 hy).1
        simp at this; omega
      subst hi2
      rw [List.getElem?_append_right (Nat.le_refl _), Nat.sub_self] at hy
      rw [← h1, List.getElem?_append_right (Nat.le_refl _), Nat.sub_self] at hz
      obtain rfl := Option.some.inj hy
      obtain rfl := Option.some.inj hz
      exact row_kept hu fun g cs _ hb => hk g cs hb
theorem size_pair : (Try.prog.info? 69).map (fun i => (i.zero.map (·.cells.size), i.size, i.bytes)) = some (some 2, 2, 32) := by kernel_rfl
theorem info_pair : ∃ i z, Try.prog.info? 69 = some i ∧ i.zero = some z ∧ z.cells.size = 2 ∧ i.size = 2 ∧ i.bytes = 32 := by
  have h := size_pair
  cases hi : Try.prog.info? 69 with
  | none => rw [hi] at h; cases h
  | some i =>
    rw [hi] at h
    simp only [Option.map_some, Option.some.injEq, Prod.mk.injEq] at h
    obtain ⟨h1, h2, h3⟩ := h
    cases hz : i.zero with
    | none => rw [hz] at h1; cases h1
    | some z =>
      rw [hz] at h1
      exact ⟨i, z, rfl, hz, Option.some.inj h1, h2, h3⟩
theorem own_slice {w : World} {base n : Nat} {v : Value} {l : List UInt8} (h : w.ownsRow base 5 1 v n (U8 l)) : v.oneCell' = true := by
  obtain ⟨A, c, rfl, _⟩ := Bs.of_own h
  rfl
set_option maxHeartbeats 1600000 in
theorem pairs_f (W : World) (J : JP) (F : Fl) (s : JS) (h : JAt W J F s) :
    Calls Try.prog 14 #[.pointer (some ⟨J.jb, 0, none⟩)] W fun e w' => ∃ v, e = .returned v ∧ OwnPrs w' W.heap.size v (prsOf s.V) ∧ Below W.heap.size W w' := by
  obtain ⟨i0, z0, hi0, hz0, hz1, hz2, hz3⟩ := info_pair
  have HJ : Aside _ := h
  have hlt : J.jb < W.heap.size := World.block_lt_of_cell? _ _ h.c2
  clear h
  go_enter Try.func14, Try.ntmps14
  go_wp2_with fail
  refine calls_at_world (F := fun W1 => Below W.heap.size W W1 ∧ W1.ownsRow W.heap.size 69 2 (.slice (some ⟨W.heap.size, 0, none⟩) 0 0) 0 []) ⟨alloc_below W _, World.ownsRow_lit (base := W.heap.size) (e := 69) (size := 2) W #[] 0 (Nat.le_refl _) (by simp [maxLen]) rfl⟩ fun w1 ⟨b1, o1⟩ => ?_
  have hj1 := HJ.out.below b1
  have hk := jkeys_f J.jb J.lo s.pv s.D s.V w1 hj1.c6 hj1.vals
  have H1 : Aside _ := And.intro b1 o1
  clear hj1 b1 o1
  obtain ⟨n, hn⟩ : ∃ n, (keysOf s.V).length = n := ⟨_, rfl⟩
  have hn32 : (n : Int) ≤ 32 := by have := keysOf_length s.V; omega
  rw [hn] at hk
  have HN : Aside _ := hn
  clear hn
  refine hk.mono ?_
  rintro e w2 ⟨vk, rfl, hrow, _, b2⟩
  have hrow2 := row_mono hrow H1.out.1.size
  obtain ⟨Ak, ck, rfl, _⟩ := ints_of_own hrow
  have hO : OwnPrs w2 W.heap.size (.slice (some ⟨W.heap.size, 0, none⟩) 0 0) ((prsOf s.V).take 0) := by
    have : OwnPrs w1 W.heap.size (.slice (some ⟨W.heap.size, 0, none⟩) 0 0) [] := ⟨[], rfl, H1.out.2, fun i x u hx => by simp at hx⟩
    simpa using this.below b2
  have H2 : Aside _ := And.intro hO (And.intro hrow2 (H1.out.1.trans (b2.mono H1.out.1.size)))
  clear hk hrow hrow2 hO b2
  go_wp2
  go_loopw [3, 12] (fun v i wr => ∃ k : Nat, k ≤ n ∧ i = .int .i64 k ∧ OwnPrs wr W.heap.size v ((prsOf s.V).take k) ∧ wr.ownsRow W.heap.size 3 1 (.slice Ak n ck) n ((keysOf s.V).map fun k => .int .i64 k) ∧ Below W.heap.size W wr) (fun _ i _ => n - (intOf i).toNat)
  case atStart => exact ⟨0, by omega, rfl, H2.out.1, H2.out.2.1, H2.out.2.2⟩
  case round =>
    obtain ⟨k, hk, rfl, hO, hkr, hB⟩ := hrel
    by_cases hlt2 : k < n
    · have hkl : k < (keysOf s.V).length := by have := HN.out; omega
      obtain ⟨key, hkey⟩ : ∃ key, (keysOf s.V)[k]? = some key := ⟨_, List.getElem?_eq_getElem hkl⟩
      obtain ⟨Ak', ck', hsl, hints⟩ := ints_of_own hkr
      injection hsl with e1 e2 e3
      subst e1 e3
      obtain ⟨ga, rfl, _, _, hcell⟩ := hints k key hkey
      have hmem : (s.V key).isSome = true := (keysOf_mem HJ.out.vals.keys key).1 (List.mem_of_getElem? hkey)
      obtain ⟨x0, x1⟩ := HJ.out.vals.keys _ hmem
      have hjr := HJ.out.below hB
      have kg := jget_f J.jb J.lo s.pv s.D s.V key wr hjr.c6 hjr.vals (key_wf x0 x1)
      rw [hmem] at kg
      have hp : (prsOf s.V)[k]? = some (key, (s.V key).getD []) := by unfold prsOf; rw [List.getElem?_map, hkey]; rfl
      have HR : Aside _ := And.intro hO (And.intro hkr (And.intro hB hp))
      generalize (s.V key).getD [] = l at *
      clear hO hkr hB hp hjr hints hkey
      go_wp2_with fail
      refine kg.mono ?_
      rintro e w3 ⟨u, rfl, ho3, b3⟩
      have ho3' := row_mono ho3 HR.out.2.2.1.size
      obtain ⟨Au, cu, rfl, _, _⟩ := Bs.of_own ho3
      have hO3 := HR.out.1.below b3
      have hk3 : w3.ownsRow W.heap.size 3 1 (.slice (some ⟨ga, 0, none⟩) n ck) n ((keysOf s.V).map fun k => .int .i64 k) := row_kept HR.out.2.1 fun g cs _ hg => b3.block g (Array.getElem?_eq_some_iff.1 hg).1
      have hB3 := HR.out.2.2.1.trans (b3.mono HR.out.2.2.1.size)
      obtain ⟨vs, q1, q2, q3⟩ := hO3
      have hlk : ((prsOf s.V).take k).length = k := by rw [List.length_take]; unfold prsOf; rw [List.length_map]; omega
      have HX : Aside _ := And.intro ho3' (And.intro hk3 (And.intro hB3 (And.intro q1 (And.intro q2 (And.intro q3 hlk)))))
      rw [hlk] at q2
      have HQ := Lib.hid q2
      clear ho3 ho3' hk3 hB3 q1 q2 q3 hlk kg b3
      go_wp2_with (at_builtin; refine wpList_append_own _ rfl (.tmp 24) (.tmp 28) 34 rfl W.heap.size 69 i0 z0 2 32 Try.underlying34 hi0 hz0 hz2 hz3 hz1 (by decide) _ k _ rfl (HQ.out.alloc _) ⟨w3.heap.size, 0, none⟩ 1 1 [.int .i64 key, .slice Au l.length cu] rfl rfl (fun j y hj => by rw [Addr.add_lit, Nat.zero_add, cell_of_row _ _ _ _ _ _ (heap_alloc_new w3 _)]; simpa using hj) (fun y hy => by simp only [List.mem_cons, List.not_mem_nil, or_false] at hy; rcases hy with rfl | rfl <;> rfl) (by simp only [maxLen]; omega) (by omega) (by have := HX.out.2.2.1.size; rw [alloc_size]; omega) ?_; intro v' w4 ho4 hg4 _)
      have hal := alloc_below w3 (.cells #[.int .i64 key, .slice Au l.length cu] 69)
      have hx4 : Aside (OwnPrs w4 W.heap.size v' ((prsOf s.V).take (k + 1))) := by
        obtain ⟨r1, r2, r3, q1, q2, q3, hlk⟩ := HX.out
        have := OwnPrs.grown (x := (key, l)) q1 (fun i x u hx hu => row_kept (q3 i x u hx hu) fun g cs _ hg => hal.block g (Array.getElem?_eq_some_iff.1 hg).1) (q2.alloc _) (row_kept r1 fun g cs _ hg => hal.block g (Array.getElem?_eq_some_iff.1 hg).1) (by rw [hlk]; exact ho4) hg4
        rw [List.take_add_one, HR.out.2.2.2]
        exact this
      have hk4 : Aside (w4.ownsRow W.heap.size 3 1 (.slice (some ⟨ga, 0, none⟩) n ck) n ((keysOf s.V).map fun k => .int .i64 k)) := by
        obtain ⟨r1, r2, r3, q1, q2, q3, hlk⟩ := HX.out
        refine row_kept r2 fun g cs _ hg => ?_
        have hgl := (Array.getElem?_eq_some_iff.1 hg).1
        refine (hg4.block g (by rw [alloc_size]; omega) (fun e => ?_)).trans (hal.block g hgl)
        rcases q2.2 with ⟨e', _⟩ | ⟨g', cap, cur, e', _, h4, _⟩
        · rw [e'] at e; cases e
        · rw [e'] at e
          have e2 : g = g' := by injection e
          subst e2
          rw [hg] at h4
          injection h4 with h4
          injection h4 with _ h4
          exact absurd h4 (by decide)
      have hB4 : Aside (Below W.heap.size W w4) := (HX.out.2.2.1.alloc HX.out.2.2.1.size _).grown hg4 (by rw [alloc_size]; have := HX.out.2.2.1.size; omega) (own_ge HQ.out)
      clear ho4 hg4 hal
      go_roundw
      case rel => exact ⟨k + 1, by omega, by go_num, hx4.out, hk4.out, hB4.out⟩
      case measure => simp [intOf]; omega
    · obtain rfl : k = n := by omega
      have hfull : (prsOf s.V).take k = prsOf s.V := List.take_of_length_le (by unfold prsOf; rw [List.length_map, HN.out]; omega)
      rw [hfull] at hO
      have HR : Aside _ := And.intro hO hB
      clear hO hkr hB hfull
      go_wp2
      go_ret
      exact ⟨_, rfl, HR.out.1, HR.out.2⟩
/-- .. as a slice of pairs. -/
theorem OwnPrs.prs {w : World} {base : Nat} {v : Value} {ps : List (Int × List UInt8)} (h : OwnPrs w base v ps) : ∃ A c, v = .slice A ps.length c ∧ ps.length ≤ c ∧ Prs w w.heap.size A ps.length ps := by
  obtain ⟨vs, h1, h2, h3⟩ := h
  have h2' := h2
  rcases h2.2 with ⟨rfl, hn⟩ | ⟨g, cap, cur, rfl, hbg, hg, hnc, _, hcs, htake⟩
  · have : ps = [] := List.eq_nil_of_length_eq_zero hn
    subst this
    exact ⟨none, 0, rfl, Nat.le_refl _, rfl, fun h => absurd h (by simp)⟩
  · refine ⟨_, cap, rfl, hnc, rfl, fun hn => ⟨g, 0, rfl, (Array.getElem?_eq_some_iff.1 hg).1, fun i x hx => ?_⟩⟩
    have hil := (List.getElem?_eq_some_iff.1 hx).1
    obtain ⟨u, hu⟩ : ∃ u, vs[i]? = some u := ⟨_, List.getElem?_eq_getElem (by omega)⟩
    obtain ⟨A', c', rfl, hc', hb⟩ := Bs.of_own (h3 i x u hx hu)
    have hz : ∀ (l : List ((Int × List UInt8) × Value)) (i : Nat) (y : (Int × List UInt8) × Value), l[i]? = some y → (l.flatMap fun x => [Value.int .i64 x.1.1, x.2])[2 * i]? = some (.int .i64 y.1.1) ∧ (l.flatMap fun x => [Value.int .i64 x.1.1, x.2])[2 * i + 1]? = some y.2 := by
      intro l
      induction l with
      | nil => intro i y hy; simp at hy
      | cons a r ih =>
        intro i y hy
        cases i with
        | zero => obtain rfl := Option.some.inj hy; exact ⟨rfl, rfl⟩
        | succ i =>
          rw [List.getElem?_cons_succ] at hy
          obtain ⟨a1, a2⟩ := ih i y hy
          rw [List.flatMap_cons]
          constructor
          · rw [List.getElem?_append_right (by simp; omega)]
            simpa [show 2 * (i + 1) - 2 = 2 * i by omega] using a1
          · rw [List.getElem?_append_right (by simp; omega)]
            simpa [show 2 * (i + 1) + 1 - 2 = 2 * i + 1 by omega] using a2
    have hzip : (ps.zip vs)[i]? = some (x, .slice A' x.2.length c') := by rw [List.getElem?_zip_eq_some]; exact ⟨hx, hu⟩
    obtain ⟨a1, a2⟩ := hz _ i _ hzip
    have hl : ((ps.zip vs).flatMap fun x => [Value.int .i64 x.1.1, x.2]).length = ps.length * 2 := h2.1
    refine ⟨A', c', ?_, ?_, hb⟩
    · rw [Nat.zero_add, h2'.cellAt (2 * i) (by omega)]; exact a1
    · rw [Nat.zero_add, h2'.cellAt (2 * i + 1) (by omega)]; exact a2
structure But4 (J : JP) (W w' : World) : Prop where
  os : w'.os = W.os
  tape : w'.tape = W.tape
  output : w'.output = W.output
  size : W.heap.size ≤ w'.heap.size
  block : ∀ k, k < W.heap.size → k ≠ J.jb → k ≠ J.g → k ≠ J.bb → k ≠ J.wb → w'.heap[k]? = W.heap[k]?
section
variable {J : JP} {W W1 w' : World}
theorem But4.of_below (h : Below W.heap.size W w') : But4 J W w' := ⟨h.os, h.tape, h.output, h.size, fun k hk _ _ _ _ => h.block k hk⟩
theorem But4.trans (h : But4 J W W1) (k : But4 J W1 w') : But4 J W w' :=
  ⟨k.os.trans h.os, k.tape.trans h.tape, k.output.trans h.output, Nat.le_trans h.size k.size, fun i hi a b c d => (k.block i (Nat.lt_of_lt_of_le hi h.size) a b c d).trans (h.block i hi a b c d)⟩
theorem But4.of_but3 (h : But3 W.heap.size J.g J.bb J.wb W w') : But4 J W w' := ⟨h.os, h.tape, h.output, h.size, fun k hk _ a b c => h.block k hk a b c⟩
theorem But4.cells (h : But4 J W w') (vs : List Value) : ∀ o, But4 J W (w'.setCells J.jb o vs) := by
  induction vs generalizing w' with
  | nil => intro o; exact h
  | cons v vs ih =>
    intro o
    rw [World.setCells]
    refine ih (w' := w'.setCell ⟨J.jb, o, none⟩ v) ⟨h.os, h.tape, h.output, by simpa [World.setCell] using h.size, fun k hk a b c d => (Below.heap_setCell w' ⟨J.jb, o, none⟩ v k a).trans (h.block k hk a b c d)⟩ (o + 1)
theorem But4.below (h : But4 J W w') {B : Nat} (hB : B ≤ W.heap.size) (h1 : B ≤ J.jb) (h2 : B ≤ J.g) (h3 : B ≤ J.bb) (h4 : B ≤ J.wb) : Below B W w' :=
  ⟨h.os, h.tape, h.output, h.size, fun k hk => h.block k (by omega) (by omega) (by omega) (by omega) (by omega)⟩
theorem But4.cell (h : But4 J W w') {p : Addr} (hp : p.block < W.heap.size) (a : p.block ≠ J.jb) (b : p.block ≠ J.g) (c : p.block ≠ J.bb) (d : p.block ≠ J.wb) : w'.cell? p = W.cell? p := World.cell?_of_block (w := W) (h.block p.block hp a b c d)
theorem LayPost.but4 {gi fi be si co : Nat} {F : Fl} {pv : Option Nat} {V : Int → Option (List UInt8)} {ep : Int} {e : Ending} (h : LayPost W J.jb gi J.g J.bb J.wb fi be si co F pv V ep e w') : But4 J W w' := by
  obtain ⟨_, _, _, _, ec, _, _, _, _, w1, hb, rfl⟩ := h
  split
  · exact (But4.of_but3 hb).cells _ 3
  · exact But4.of_but3 hb
theorem TurnPost.but4 {F : Fl} {s : JS} {pn : Option Nat} {V : Int → Option (List UInt8)} {b : List UInt8} {e : Ending} (h : TurnPost W J F s pn V b e w') : But4 J W w' := by
  unfold TurnPost at h
  split at h
  · exact But4.of_below h.2
  · split at h
    · obtain ⟨w1, hb, ⟨_, _, rfl⟩ | ⟨_, hl⟩⟩ := h
      · exact But4.of_below hb
      · exact (But4.of_below (hb.trans ((below_drew w1).mono hb.size))).trans hl.but4
    · obtain ⟨_, _, ec, w1, _, _, _, hb, rfl⟩ := h
      split
      · exact (But4.of_but3 hb).cells _ 5
      · exact But4.of_but3 hb
theorem PutPost.but4 {F : Fl} {s : JS} {key : Int} {l : List UInt8} {e : Ending} (h : PutPost W J F s key l e w') : But4 J W w' := by
  unfold PutPost at h
  split at h
  · exact But4.of_below h.2
  · split at h
    · exact But4.of_below h.2
    · split at h
      · exact But4.of_below h.2
      · obtain ⟨w1, b, D', hb, _, ht⟩ := h
        exact (But4.of_below hb).trans ht.but4
end
end Go.Proofs.Ytpdlipkmojhnnaa
