/-
  Pairs without a key, with a value: the reference's.
-/
import Derived.Test.YtpdlipkmojhnnaaJournalSmall
import Derived.Test.YtpdlipkmojhnnaaRefCopy
namespace Go.Proofs.Ytpdlipkmojhnnaa
open Go.RowKit Go.Maps Go.Shelf
set_option linter.unusedVariables false
set_option maxRecDepth 100000
/-- A slice of pairs, of whose bytes each one's place is so. -/
structure PrsP (K : Option Addr → Prop) (w : World) (B : Nat) (A : Option Addr) (n : Nat) (ps : List (Int × List UInt8)) : Prop where
  len : ps.length = n
  place : 0 < n → ∃ b off, A = some ⟨b, off, none⟩ ∧ b < B ∧ ∀ (i : Nat) (x : Int × List UInt8), ps[i]? = some x → ∃ A' c', w.cell? ⟨b, off + 2 * i, none⟩ = some (.int .i64 x.1) ∧ w.cell? ⟨b, off + 2 * i + 1, none⟩ = some (.slice A' x.2.length c') ∧ Bs w B A' x.2.length x.2 ∧ K A'
/-- Bytes that lie below a place, or in a block of the call's own. -/
def InB (K : Option Addr → Prop) (w : World) (base : Nat) (u : Value) (l : List UInt8) : Prop :=
  (∃ A c, u = .slice A l.length c ∧ Bs w base A l.length l ∧ K A) ∨ w.ownsRow base 5 1 u l.length (U8 l)
/-- Pairs in a row of the call's own. -/
def MixPrs (K : Option Addr → Prop) (w : World) (base : Nat) (v : Value) (ps : List (Int × List UInt8)) : Prop :=
  ∃ vs : List Value, vs.length = ps.length ∧ w.ownsRow base 69 2 v ps.length ((ps.zip vs).flatMap fun x => [.int .i64 x.1.1, x.2]) ∧ ∀ (i : Nat) (x : Int × List UInt8) (u : Value), ps[i]? = some x → vs[i]? = some u → InB K w base u x.2
theorem InB.kept {K : Option Addr → Prop} {w w' : World} {base : Nat} {u : Value} {l : List UInt8} (h : InB K w base u l) (h1 : ∀ g, g < base → w'.heap[g]? = w.heap[g]?) (h2 : ∀ (g : Nat) (cs : Array Value), w.heap[g]? = some (.cells cs 5 (0, 0)) → w'.heap[g]? = w.heap[g]?) : InB K w' base u l := by
  rcases h with ⟨A, c, hu, hb, hk⟩ | h
  · exact .inl ⟨A, c, hu, hb.keep fun p hp => World.cell?_of_block (w := w) (h1 p.block hp), hk⟩
  · exact .inr (row_kept h fun g cs _ hb => h2 g cs hb)
theorem MixPrs.below {K : Option Addr → Prop} {w w' : World} {base : Nat} {v : Value} {ps : List (Int × List UInt8)} (h : MixPrs K w base v ps) (hb : Below w.heap.size w w') (hbase : base ≤ w.heap.size) : MixPrs K w' base v ps := by
  obtain ⟨vs, h1, h2, h3⟩ := h
  have hk : ∀ (g : Nat) (cs : Array Value) (e : TypeId), w.heap[g]? = some (.cells cs e (0, 0)) → w'.heap[g]? = w.heap[g]? := fun g cs e hg => hb.block g (Array.getElem?_eq_some_iff.1 hg).1
  exact ⟨vs, h1, row_kept h2 fun g cs _ hg => hk g cs _ hg, fun i x u hx hu => (h3 i x u hx hu).kept (fun g hg => hb.block g (by omega)) fun g cs hg => hk g cs _ hg⟩
theorem MixPrs.grown {K : Option Addr → Prop} {w w' : World} {base : Nat} {v v' u : Value} {ps : List (Int × List UInt8)} {x : Int × List UInt8} {vs : List Value} (hbase : base ≤ w.heap.size) (h1 : vs.length = ps.length) (h3 : ∀ (i : Nat) (x : Int × List UInt8) (u : Value), ps[i]? = some x → vs[i]? = some u → InB K w base u x.2)
    (h2 : w.ownsRow base 69 2 v ps.length ((ps.zip vs).flatMap fun x => [.int .i64 x.1.1, x.2])) (hu : InB K w base u x.2) (ho : w'.ownsRow base 69 2 v' (ps.length + 1) (((ps.zip vs).flatMap fun x => [.int .i64 x.1.1, x.2]) ++ [.int .i64 x.1, u])) (hg : w.grownBy w' v.ownBlock) : MixPrs K w' base v' (ps ++ [x]) := by
  have hk : ∀ (g : Nat) (cs : Array Value), w.heap[g]? = some (.cells cs 5 (0, 0)) → w'.heap[g]? = w.heap[g]? := fun g cs hb => hg.block g (Array.getElem?_eq_some_iff.1 hb).1 (fun e => by
    rcases h2.2 with ⟨rfl, _⟩ | ⟨g', cap, cur, rfl, _, h4, _⟩
    · cases e
    · have e' : g = g' := by injection e
      subst e'
      rw [hb] at h4
      injection h4 with h4
      injection h4 with _ h4
      exact absurd h4 (by decide))
  have hl : ∀ g, g < base → w'.heap[g]? = w.heap[g]? := fun g hgb => hg.block g (by omega) (fun e => by have := own_ge h2 g e.symm; omega)
  refine ⟨vs ++ [u], by simp [h1], ?_, fun i y z hy hz => ?_⟩
  · rw [List.zip_append h1.symm, List.flatMap_append, List.length_append]
    exact ho
  · by_cases hi : i < ps.length
    · rw [List.getElem?_append_left hi] at hy
      rw [List.getElem?_append_left (by omega)] at hz
      exact (h3 i y z hy hz).kept hl hk
    · have hi2 : i = ps.length := by
        have := (List.getElem?_eq_some_iff.1 hy).1
        simp at this; omega
      subst hi2
      rw [List.getElem?_append_right (Nat.le_refl _), Nat.sub_self] at hy
      rw [← h1, List.getElem?_append_right (Nat.le_refl _), Nat.sub_self] at hz
      obtain rfl := Option.some.inj hy
      obtain rfl := Option.some.inj hz
      exact hu.kept hl hk
theorem range_two {w : World} {b o : Nat} {x y : Value} (h0 : w.cell? ⟨b, o, none⟩ = some x) (h1 : w.cell? ⟨b, o + 1, none⟩ = some y) : w.rangeAt b o [x, y] := fun j v hj => by
  match j, hj with
  | 0, hj => obtain rfl := Option.some.inj hj; exact h0
  | 1, hj => obtain rfl := Option.some.inj hj; exact h1
  | j + 2, hj => simp at hj
theorem size_pair1 : (Try.prog.info? 69).map (·.size) = some 2 := by kernel_rfl
theorem mix_nil {K : Option Addr → Prop} (W : World) : MixPrs K (W.alloc (.cells #[] 69)) W.heap.size (.slice (some ⟨W.heap.size, 0, none⟩) 0 0) [] :=
  ⟨[], rfl, World.ownsRow_lit (base := W.heap.size) (e := 69) (size := 2) W #[] 0 (Nat.le_refl _) (by simp [maxLen]) rfl, fun i x u hx => by simp at hx⟩
set_option maxHeartbeats 4000000 in
theorem without_f {K : Option Addr → Prop} (W : World) (A : Option Addr) (n c : Nat) (key : Int) (ps : List (Int × List UInt8)) (h : PrsP K W W.heap.size A n ps) (hn : n ≤ 100) :
    Calls Try.prog 12 #[.slice A n c, .int .i64 key] W fun e w' => ∃ v, e = .returned v ∧ MixPrs K w' W.heap.size v (ps.filter fun x => x.1 != key) ∧ Below W.heap.size W w' := by
  obtain ⟨i0, z0, hi0, hz0, hz1, hz2, hz3⟩ := info_pair
  have H0 : Aside _ := And.intro h (And.intro (mix_nil (K := K) W) (alloc_below W (.cells #[] 69)))
  clear h
  go_enter Try.func12, Try.ntmps12
  go_wp2
  go_loopw [5, 6] (fun v i wr => ∃ k : Nat, k ≤ n ∧ i = .int .i64 k ∧ MixPrs K wr W.heap.size v ((ps.take k).filter fun x => x.1 != key) ∧ Below W.heap.size W wr) (fun _ i _ => n - (intOf i).toNat)
  case atStart => exact ⟨0, by omega, rfl, H0.out.2.1, H0.out.2.2⟩
  case round =>
    obtain ⟨k, hk, rfl, hO, hB⟩ := hrel
    by_cases hlt : k < n
    · obtain ⟨x, hx⟩ : ∃ x, ps[k]? = some x := ⟨_, List.getElem?_eq_getElem (by have := H0.out.1.len; omega)⟩
      obtain ⟨b, off, rfl, hb, hc⟩ := H0.out.1.place (by omega)
      obtain ⟨A', c', c0, c1, hbs, hKK⟩ := hc k x hx
      have HKK := Lib.hid hKK
      clear hKK
      have h0' : wr.cell? ⟨b, off + k * 2, none⟩ = some (.int .i64 x.1) := by
        rw [Nat.mul_comm k 2]
        exact (hB.cell (p := ⟨b, off + 2 * k, none⟩) hb).trans c0
      have h1' : wr.cell? ⟨b, off + k * 2 + 1, none⟩ = some (.slice A' x.2.length c') := by
        rw [Nat.mul_comm k 2]
        exact (hB.cell (p := ⟨b, off + 2 * k + 1, none⟩) hb).trans c1
      have hr := range_two h0' h1'
      have hkn : (k : Int) < n := by omega
      have hfil : (ps.take (k + 1)).filter (fun x => x.1 != key) = (ps.take k).filter (fun x => x.1 != key) ++ (if (x.1 != key) = true then [x] else []) := by
        rw [List.take_add_one, hx, List.filter_append]
        congr 1
        by_cases e : (x.1 != key) = true
        · rw [if_pos e]; simp [List.filter, e]
        · rw [if_neg e]; simp [List.filter, e]
      have HF : Aside _ := hfil
      have hle : ((ps.take k).filter fun x => x.1 != key).length ≤ k := Nat.le_trans (List.length_filter_le _ _) (by rw [List.length_take]; omega)
      by_cases hkey : (x.1 != key) = true
      · obtain ⟨mq, hmq⟩ : ∃ mq, ((ps.take k).filter fun x => x.1 != key).length = mq := ⟨_, rfl⟩
        obtain ⟨vs, q1, q2, q3⟩ := hO
        have hib : InB K wr W.heap.size (.slice A' x.2.length c') x.2 := .inl ⟨A', c', rfl, hbs.below hB, HKK.out⟩
        have HX : Aside _ := And.intro q1 (And.intro q2 (And.intro q3 (And.intro hmq (And.intro hib hB))))
        rw [hmq] at q2 hle
        have HQ := Lib.hid q2
        rw [if_pos hkey] at hfil
        have HF2 : Aside _ := hfil
        clear q1 q2 q3 hmq hib hB hfil c0 c1 hbs hc hx
        obtain ⟨lx, hlx⟩ : ∃ lx, x.2.length = lx := ⟨_, rfl⟩
        obtain ⟨x1, hx1⟩ : ∃ x1, x.1 = x1 := ⟨_, rfl⟩
        have HX1 : Aside _ := And.intro hlx hx1
        rw [hlx] at hr h1'
        rw [hx1] at hr h0' hkey
        clear hlx hx1
        go_wp2_with (first
          | (refine wpList_load_mid rfl 69 (.tmp 24) rfl b (off + k * 2) rfl [.int .i64 x1, .slice A' lx c'] _ hr Try.underlying69 rfl size_pair1 ?_)
          | (at_builtin; refine wpList_append_own _ rfl (.tmp 21) (.tmp 26) 34 rfl W.heap.size 69 i0 z0 2 32 Try.underlying34 hi0 hz0 hz2 hz3 hz1 (by decide) _ mq _ rfl (HQ.out.alloc _) ⟨wr.heap.size, 0, none⟩ 1 1 [.int .i64 x1, .slice A' lx c'] rfl rfl (fun j y hj => by rw [Addr.add_lit, Nat.zero_add, cell_of_row _ _ _ _ _ _ (heap_alloc_new wr _)]; simpa using hj) (fun y hy => by simp only [List.mem_cons, List.not_mem_nil, or_false] at hy; rcases hy with rfl | rfl <;> rfl) (by simp only [maxLen]; omega) (by omega) (by have := HX.out.2.2.2.2.2.size; rw [alloc_size]; omega) ?_; intro v' w4 ho4 hg4 _))
        have hal := alloc_below wr (.cells #[.int .i64 x1, .slice A' lx c'] 69)
        have hx4 : Aside (MixPrs K w4 W.heap.size v' ((ps.take (k + 1)).filter fun x => x.1 != key)) := by
          obtain ⟨q1, q2, q3, hmq, hib, hB⟩ := HX.out
          rw [HF2.out]
          have hk2 : ∀ (g : Nat) (cs : Array Value), wr.heap[g]? = some (.cells cs 5 (0, 0)) → (wr.alloc (.cells #[.int .i64 x1, .slice A' lx c'] 69)).heap[g]? = wr.heap[g]? := fun g cs hg => hal.block g (Array.getElem?_eq_some_iff.1 hg).1
          have hk1 : ∀ g, g < W.heap.size → (wr.alloc (.cells #[.int .i64 x1, .slice A' lx c'] 69)).heap[g]? = wr.heap[g]? := fun g hg => hal.block g (Nat.lt_of_lt_of_le hg hB.size)
          refine MixPrs.grown (by rw [alloc_size]; have := hB.size; omega) q1 (fun i x u hx hu => (q3 i x u hx hu).kept hk1 hk2) (q2.alloc _) (hib.kept hk1 hk2) ?_ hg4
          rw [hmq, HX1.out.1, HX1.out.2]; exact ho4
        have hB4 : Aside (Below W.heap.size W w4) := (HX.out.2.2.2.2.2.alloc HX.out.2.2.2.2.2.size _).grown hg4 (by rw [alloc_size]; have := HX.out.2.2.2.2.2.size; omega) (own_ge HQ.out)
        clear ho4 hg4 hal
        go_roundw
        case rel => exact ⟨k + 1, by omega, by go_num, hx4.out, hB4.out⟩
        case measure => simp [intOf]; omega
      · have HX : Aside _ := And.intro hO hB
        rw [if_neg hkey, List.append_nil] at hfil
        have HF2 : Aside _ := hfil
        have hkey' : (x.1 != key) = false := by cases e : (x.1 != key) with
          | true => exact absurd e hkey
          | false => rfl
        obtain ⟨x1, hx1⟩ : ∃ x1, x.1 = x1 := ⟨_, rfl⟩
        rw [hx1] at h0' hkey'
        clear hO hB hfil c0 c1 hbs hc hx hr h1' hkey hx1
        go_wp2
        go_roundw
        case rel => exact ⟨k + 1, by omega, by go_num, by rw [HF2.out]; exact HX.out.1, HX.out.2⟩
        case measure => simp [intOf]; omega
    · have hkn : k = n := by omega
      rw [List.take_of_length_le (by have := H0.out.1.len; omega)] at hO
      have HX : Aside _ := And.intro hO hB
      clear hO hB
      go_wp2
      go_ret
      exact ⟨_, rfl, HX.out.1, HX.out.2⟩
def stepW (key : Int) (l : List UInt8) (acc : List (Int × List UInt8) × Bool) (x : Int × List UInt8) : List (Int × List UInt8) × Bool :=
  if acc.2 = false ∧ key ≤ x.1 then (if x.1 = key then (acc.1 ++ [(key, l)], true) else (acc.1 ++ [(key, l)] ++ [x], true))
  else (if x.1 = key then acc else (acc.1 ++ [x], acc.2))
def wfold (key : Int) (l : List UInt8) (ps : List (Int × List UInt8)) : List (Int × List UInt8) × Bool := ps.foldl (stepW key l) ([], false)
/-- Pairs with a value: the reference's answer. -/
def withL (key : Int) (l : List UInt8) (ps : List (Int × List UInt8)) : List (Int × List UInt8) := if (wfold key l ps).2 = true then (wfold key l ps).1 else (wfold key l ps).1 ++ [(key, l)]
theorem wfold_snoc (key : Int) (l : List UInt8) (ps : List (Int × List UInt8)) (x : Int × List UInt8) : wfold key l (ps ++ [x]) = stepW key l (wfold key l ps) x := by
  unfold wfold; rw [List.foldl_append]; rfl
theorem stepW_len (key : Int) (l : List UInt8) (acc : List (Int × List UInt8) × Bool) (x : Int × List UInt8) : (stepW key l acc x).1.length ≤ acc.1.length + 2 := by
  unfold stepW
  split
  · split <;> simp
  · split <;> simp
theorem wfold_len (key : Int) (l : List UInt8) (ps : List (Int × List UInt8)) : ∀ k, k ≤ ps.length → (wfold key l (ps.take k)).1.length ≤ 2 * k
  | 0, _ => by simp [wfold]
  | k + 1, h => by
    obtain ⟨x, hx⟩ : ∃ x, ps[k]? = some x := ⟨_, List.getElem?_eq_getElem (by omega)⟩
    rw [List.take_add_one, hx]
    show (wfold key l (ps.take k ++ [x])).1.length ≤ _
    rw [wfold_snoc]
    have := stepW_len key l (wfold key l (ps.take k)) x
    have := wfold_len key l ps k (by omega)
    omega
theorem mix_push {K : Option Addr → Prop} {wr w4 : World} {base : Nat} {v v' u : Value} {L : List (Int × List UInt8)} {vs : List Value} {x : Int × List UInt8} (hbase : base ≤ wr.heap.size) (q1 : vs.length = L.length) (q2 : wr.ownsRow base 69 2 v L.length ((L.zip vs).flatMap fun x => [.int .i64 x.1.1, x.2])) (q3 : ∀ (i : Nat) (x : Int × List UInt8) (u : Value), L[i]? = some x → vs[i]? = some u → InB K wr base u x.2)
    (hib : InB K wr base u x.2) (ho4 : w4.ownsRow base 69 2 v' (L.length + 1) (((L.zip vs).flatMap fun x => [.int .i64 x.1.1, x.2]) ++ [.int .i64 x.1, u])) (hg4 : (wr.alloc (.cells #[.int .i64 x.1, u] 69)).grownBy w4 v.ownBlock) : MixPrs K w4 base v' (L ++ [x]) := by
  have hal := alloc_below wr (.cells #[.int .i64 x.1, u] 69)
  have hk2 : ∀ (g : Nat) (cs : Array Value), wr.heap[g]? = some (.cells cs 5 (0, 0)) → (wr.alloc (.cells #[.int .i64 x.1, u] 69)).heap[g]? = wr.heap[g]? := fun g cs hg => hal.block g (Array.getElem?_eq_some_iff.1 hg).1
  have hk1 : ∀ g, g < base → (wr.alloc (.cells #[.int .i64 x.1, u] 69)).heap[g]? = wr.heap[g]? := fun g hg => hal.block g (by omega)
  exact MixPrs.grown (by rw [alloc_size]; omega) q1 (fun i x u hx hu => (q3 i x u hx hu).kept hk1 hk2) (q2.alloc _) (hib.kept hk1 hk2) ho4 hg4
set_option maxHeartbeats 16000000 in
theorem with_f {K : Option Addr → Prop} (W : World) (A : Option Addr) (n c : Nat) (key : Int) (A2 : Option Addr) (n2 c2 : Nat) (l2 : List UInt8) (ps : List (Int × List UInt8)) (h : PrsP K W W.heap.size A n ps) (hn : n ≤ 100) (hb : Bs W W.heap.size A2 n2 l2) (hn2 : n2 ≤ 300) :
    Calls Try.prog 10 #[.slice A n c, .int .i64 key, .slice A2 n2 c2] W fun e w' => ∃ v, e = .returned v ∧ MixPrs K w' W.heap.size v (withL key l2 ps) ∧ Below W.heap.size W w' := by
  obtain ⟨i0, z0, hi0, hz0, hz1, hz2, hz3⟩ := info_pair
  have H0 : Aside _ := And.intro h (And.intro (mix_nil (K := K) W) (alloc_below W (.cells #[] 69)))
  have HB2 : Aside _ := hb
  clear h hb
  go_enter Try.func10, Try.ntmps10
  go_wp2
  go_loopw [7, 8, 9] (fun v d i wr => ∃ k : Nat, k ≤ n ∧ i = .int .i64 k ∧ d = .bool (wfold key l2 (ps.take k)).2 ∧ MixPrs K wr W.heap.size v (wfold key l2 (ps.take k)).1 ∧ Below W.heap.size W wr) (fun _ _ i _ => n - (intOf i).toNat)
  case atStart => exact ⟨0, by omega, rfl, rfl, H0.out.2.1, H0.out.2.2⟩
  case round =>
    obtain ⟨k, hk, rfl, rfl, hO, hB⟩ := hrel
    have hlen := H0.out.1.len
    by_cases hlt : k < n
    · obtain ⟨x, hx⟩ : ∃ x, ps[k]? = some x := ⟨_, List.getElem?_eq_getElem (by omega)⟩
      obtain ⟨b, off, rfl, hbb, hc⟩ := H0.out.1.place (by omega)
      obtain ⟨A', c', c0, c1, hbs, hKK⟩ := hc k x hx
      have HKK := Lib.hid hKK
      clear hKK
      have HF : Aside (wfold key l2 (ps.take (k + 1)) = stepW key l2 (wfold key l2 (ps.take k)) x) := by
        rw [List.take_add_one, hx]; exact wfold_snoc _ _ _ _
      obtain ⟨lx, hlx⟩ : ∃ lx, x.2.length = lx := ⟨_, rfl⟩
      obtain ⟨x1, hx1⟩ : ∃ x1, x.1 = x1 := ⟨_, rfl⟩
      have HX1 : Aside _ := And.intro hlx hx1
      have HC0 : Aside ((∀ wq, Below W.heap.size W wq → wq.cell? ⟨b, off + k * 2, none⟩ = some (.int .i64 x1)) ∧ ∀ wq, Below W.heap.size W wq → wq.cell? ⟨b, off + k * 2 + 1, none⟩ = some (.slice A' lx c')) := by
        rw [← hlx, ← hx1]
        refine ⟨fun wq hq => ?_, fun wq hq => ?_⟩
        · rw [Nat.mul_comm k 2]
          exact (hq.cell (p := ⟨b, off + 2 * k, none⟩) hbb).trans c0
        · rw [Nat.mul_comm k 2]
          exact (hq.cell (p := ⟨b, off + 2 * k + 1, none⟩) hbb).trans c1
      have HBS : Aside (Bs W W.heap.size A' x.2.length x.2) := hbs
      have hkn : (k : Int) < n := by omega
      have s0 := HC0.out.1 wr hB
      have hwl := wfold_len key l2 ps k (by omega)
      clear hc c0 c1 hbs hx hlx hx1 hlen
      obtain ⟨dn, hdn⟩ : ∃ dn, (wfold key l2 (ps.take k)).2 = dn := ⟨_, rfl⟩
      rw [hdn]
      have HD : Aside _ := hdn
      clear hdn
      by_cases hA : dn = false ∧ key ≤ x1
      · obtain ⟨rfl, hge⟩ := hA
        obtain ⟨mqP, hmqP⟩ : ∃ mq, ((wfold key l2 (ps.take k)).1).length = mq := ⟨_, rfl⟩
        have hleP : mqP ≤ 200 := by rw [← hmqP]; omega
        obtain ⟨vsP, q1P, q2P, q3P⟩ := hO
        have HXP : Aside _ := And.intro q1P (And.intro q2P (And.intro q3P (And.intro hmqP hB)))
        rw [hmqP] at q2P
        have HQP := Lib.hid q2P
        clear q1P q2P q3P hmqP hB
        clear hwl
        by_cases hne : x1 = key
        · have hne2 : (x1 != key) = false := by rw [hne]; exact bne_self_eq_false _
          have HNE : Aside _ := hne
          clear hne
          go_wp2_with (first
            | (go_at_call 31; refine (copy_any A2 n2 c2 l2 wr _ ((HB2.out.below HXP.out.2.2.2.2).more HXP.out.2.2.2.2.size) (Nat.le_refl _) (by omega)).mono ?_; rintro e wcP ⟨ucP, rfl, hocP, bcP⟩; have hocP2 := row_mono hocP HXP.out.2.2.2.2.size; obtain ⟨AcP, ccP, rfl, _, _⟩ := Bs.of_own hocP; have HCP : Aside _ := And.intro hocP2 bcP; have HQcP := Lib.hid (row_kept HQP.out fun g cs _ hg => bcP.block g (Array.getElem?_eq_some_iff.1 hg).1); have hszP := Nat.le_trans HXP.out.2.2.2.2.size bcP.size; clear hocP hocP2 bcP)
            | (at_builtin
               refine wpList_append_own _ rfl (.tmp 28) (.tmp 33) 34 rfl W.heap.size 69 i0 z0 2 32 Try.underlying34 hi0 hz0 hz2 hz3 hz1 (by decide) _ mqP _ rfl (HQcP.out.alloc _) ⟨wcP.heap.size, 0, none⟩ 1 1 [.int .i64 key, .slice AcP l2.length ccP] rfl rfl (fun j y hj => by rw [Addr.add_lit, Nat.zero_add, cell_of_row _ _ _ _ _ _ (heap_alloc_new wcP _)]; simpa using hj) (fun y hy => by simp only [List.mem_cons, List.not_mem_nil, or_false] at hy; rcases hy with rfl | rfl <;> rfl) (by simp only [maxLen]; omega) (by omega) (by rw [alloc_size]; omega) ?_
               intro vA wA hoP hgP _
               have hxP : MixPrs K wA W.heap.size vA ((wfold key l2 (ps.take k)).1 ++ [(key, l2)]) := by
                 obtain ⟨q1, q2, q3, hmq, hB⟩ := HXP.out
                 have b := HCP.out.2
                 refine mix_push (x := (key, l2)) (Nat.le_trans hB.size b.size) q1 (row_kept q2 fun g cs _ hg => b.block g (Array.getElem?_eq_some_iff.1 hg).1) (fun i x u hx hu => (q3 i x u hx hu).kept (fun g hg => b.block g (Nat.lt_of_lt_of_le hg hB.size)) fun g cs hg => b.block g (Array.getElem?_eq_some_iff.1 hg).1) (.inr HCP.out.1) ?_ hgP
                 rw [hmq]; exact hoP
               have hbP : Below W.heap.size W wA := by
                 have a1 := HXP.out.2.2.2.2.trans (HCP.out.2.mono HXP.out.2.2.2.2.size)
                 exact (a1.alloc a1.size _).grown hgP (by rw [alloc_size]; have := a1.size; omega) (own_ge HQcP.out)
               clear hoP hgP hszP
               have HR : Aside _ := And.intro hxP hbP
               have s1 := HC0.out.1 wA hbP
               clear hxP hbP))
          go_roundw
          case rel =>
            have e : stepW key l2 (wfold key l2 (ps.take k)) x = ((wfold key l2 (ps.take k)).1 ++ [(key, l2)], true) := by
              unfold stepW
              rw [if_pos ⟨HD.out, by rw [HX1.out.2]; exact hge⟩, if_pos (by rw [HX1.out.2]; exact HNE.out)]
            exact ⟨k + 1, by omega, by go_num, by rw [HF.out, e], by rw [HF.out, e]; exact HR.out.1, HR.out.2⟩
          case measure => simp [intOf]; omega
        · have hne2 : (x1 != key) = true := bne_iff_ne.2 hne
          have HNE : Aside _ := hne
          clear hne
          go_wp2_with (first
            | (go_at_call 31; refine (copy_any A2 n2 c2 l2 wr _ ((HB2.out.below HXP.out.2.2.2.2).more HXP.out.2.2.2.2.size) (Nat.le_refl _) (by omega)).mono ?_; rintro e wcP ⟨ucP, rfl, hocP, bcP⟩; have hocP2 := row_mono hocP HXP.out.2.2.2.2.size; obtain ⟨AcP, ccP, rfl, _, _⟩ := Bs.of_own hocP; have HCP : Aside _ := And.intro hocP2 bcP; have HQcP := Lib.hid (row_kept HQP.out fun g cs _ hg => bcP.block g (Array.getElem?_eq_some_iff.1 hg).1); have hszP := Nat.le_trans HXP.out.2.2.2.2.size bcP.size; clear hocP hocP2 bcP)
            | (at_builtin
               refine wpList_append_own _ rfl (.tmp 28) (.tmp 33) 34 rfl W.heap.size 69 i0 z0 2 32 Try.underlying34 hi0 hz0 hz2 hz3 hz1 (by decide) _ mqP _ rfl (HQcP.out.alloc _) ⟨wcP.heap.size, 0, none⟩ 1 1 [.int .i64 key, .slice AcP l2.length ccP] rfl rfl (fun j y hj => by rw [Addr.add_lit, Nat.zero_add, cell_of_row _ _ _ _ _ _ (heap_alloc_new wcP _)]; simpa using hj) (fun y hy => by simp only [List.mem_cons, List.not_mem_nil, or_false] at hy; rcases hy with rfl | rfl <;> rfl) (by simp only [maxLen]; omega) (by omega) (by rw [alloc_size]; omega) ?_
               intro vA wA hoP hgP _
               have hxP : MixPrs K wA W.heap.size vA ((wfold key l2 (ps.take k)).1 ++ [(key, l2)]) := by
                 obtain ⟨q1, q2, q3, hmq, hB⟩ := HXP.out
                 have b := HCP.out.2
                 refine mix_push (x := (key, l2)) (Nat.le_trans hB.size b.size) q1 (row_kept q2 fun g cs _ hg => b.block g (Array.getElem?_eq_some_iff.1 hg).1) (fun i x u hx hu => (q3 i x u hx hu).kept (fun g hg => b.block g (Nat.lt_of_lt_of_le hg hB.size)) fun g cs hg => b.block g (Array.getElem?_eq_some_iff.1 hg).1) (.inr HCP.out.1) ?_ hgP
                 rw [hmq]; exact hoP
               have hbP : Below W.heap.size W wA := by
                 have a1 := HXP.out.2.2.2.2.trans (HCP.out.2.mono HXP.out.2.2.2.2.size)
                 exact (a1.alloc a1.size _).grown hgP (by rw [alloc_size]; have := a1.size; omega) (own_ge HQcP.out)
               clear hoP hgP hszP
               obtain ⟨mqQ, hmqQ⟩ : ∃ mq, ((wfold key l2 (ps.take k)).1 ++ [(key, l2)]).length = mq := ⟨_, rfl⟩
               have hleQ : mqQ ≤ 201 := by rw [← hmqQ]; (have := hleP; have := HXP.out.2.2.2.1; rw [List.length_append]; simp only [List.length_cons, List.length_nil]; omega)
               obtain ⟨vsQ, q1Q, q2Q, q3Q⟩ := hxP
               have HXQ : Aside _ := And.intro q1Q (And.intro q2Q (And.intro q3Q (And.intro hmqQ hbP)))
               rw [hmqQ] at q2Q
               have HQQ := Lib.hid q2Q
               clear q1Q q2Q q3Q hmqQ hbP
               have r0 : wA.cell? ⟨b, off + k * 2, none⟩ = some (.int .i64 x1) := HC0.out.1 wA HXQ.out.2.2.2.2
               have r1 : wA.cell? ⟨b, off + k * 2 + 1, none⟩ = some (.slice A' lx c') := HC0.out.2 wA HXQ.out.2.2.2.2
               have hr := range_two r0 r1
               have hszQ := HXQ.out.2.2.2.2.size)
            | (refine wpList_load_mid rfl 69 (.tmp 46) rfl b (off + k * 2) rfl [.int .i64 x1, .slice A' lx c'] _ hr Try.underlying69 rfl size_pair1 ?_)
            | (at_builtin; refine wpList_append_own _ rfl (.tmp 42) (.tmp 47) 34 rfl W.heap.size 69 i0 z0 2 32 Try.underlying34 hi0 hz0 hz2 hz3 hz1 (by decide) _ mqQ _ rfl (HQQ.out.alloc _) ⟨wA.heap.size, 0, none⟩ 1 1 [.int .i64 x1, .slice A' lx c'] rfl rfl (fun j y hj => by rw [Addr.add_lit, Nat.zero_add, cell_of_row _ _ _ _ _ _ (heap_alloc_new wA _)]; simpa using hj) (fun y hy => by simp only [List.mem_cons, List.not_mem_nil, or_false] at hy; rcases hy with rfl | rfl <;> rfl) (by simp only [maxLen]; omega) (by omega) (by rw [alloc_size]; omega) ?_; intro vB wB hoQ hgQ _))
          have hxQ : Aside (MixPrs K wB W.heap.size vB (((wfold key l2 (ps.take k)).1 ++ [(key, l2)]) ++ [x])) := by
            obtain ⟨q1, q2, q3, hmq, hB⟩ := HXQ.out
            refine mix_push (x := x) hB.size q1 q2 q3 (.inl ⟨A', c', rfl, HBS.out.below hB, HKK.out⟩) ?_ (by rw [HX1.out.1, HX1.out.2]; exact hgQ)
            rw [hmq, HX1.out.1, HX1.out.2]; exact hoQ
          have hbQ : Aside (Below W.heap.size W wB) := by
            have a1 := HXQ.out.2.2.2.2
            exact (a1.alloc a1.size _).grown hgQ (by rw [alloc_size]; have := a1.size; omega) (own_ge HQQ.out)
          clear hoQ hgQ hszQ
          go_roundw
          case rel =>
            have e : stepW key l2 (wfold key l2 (ps.take k)) x = ((wfold key l2 (ps.take k)).1 ++ [(key, l2)] ++ [x], true) := by
              unfold stepW
              rw [if_pos ⟨HD.out, by rw [HX1.out.2]; exact hge⟩, if_neg (by rw [HX1.out.2]; exact HNE.out)]
            exact ⟨k + 1, by omega, by go_num, by rw [HF.out, e], by rw [HF.out, e]; exact hxQ.out, hbQ.out⟩
          case measure => simp [intOf]; omega
      · have hdn2 : dn = true ∨ (dn = false ∧ ¬ key ≤ x1) := by
          cases dn with
          | true => exact .inl rfl
          | false => exact .inr ⟨rfl, fun e => hA ⟨rfl, e⟩⟩
        have HA : Aside _ := hA
        clear hA
        by_cases hne : x1 = key
        · have hne2 : (x1 != key) = false := by rw [hne]; exact bne_self_eq_false _
          have HR : Aside _ := And.intro hO hB
          have HNE : Aside _ := hne
          have hdt : dn = true := by
            rcases hdn2 with h | ⟨_, h⟩
            · exact h
            · omega
          subst hdt
          clear hO hB hne hdn2 hwl
          go_wp2
          go_roundw
          case rel =>
            have e : stepW key l2 (wfold key l2 (ps.take k)) x = wfold key l2 (ps.take k) := by
              unfold stepW
              rw [if_neg (by rw [HD.out, HX1.out.2]; exact HA.out), if_pos (by rw [HX1.out.2]; exact HNE.out)]
            exact ⟨k + 1, by omega, by go_num, by rw [HF.out, e, HD.out], by rw [HF.out, e]; exact HR.out.1, HR.out.2⟩
          case measure => simp [intOf]; omega
        · have hne2 : (x1 != key) = true := bne_iff_ne.2 hne
          have HNE : Aside _ := hne
          clear hne
          obtain ⟨mqP, hmqP⟩ : ∃ mq, ((wfold key l2 (ps.take k)).1).length = mq := ⟨_, rfl⟩
          have hleP : mqP ≤ 200 := by rw [← hmqP]; omega
          obtain ⟨vsP, q1P, q2P, q3P⟩ := hO
          have HXP : Aside _ := And.intro q1P (And.intro q2P (And.intro q3P (And.intro hmqP hB)))
          rw [hmqP] at q2P
          have HQP := Lib.hid q2P
          clear q1P q2P q3P hmqP hB
          clear hwl
          rcases hdn2 with rfl | ⟨rfl, hge⟩
          · have r0 : wr.cell? ⟨b, off + k * 2, none⟩ = some (.int .i64 x1) := HC0.out.1 wr HXP.out.2.2.2.2
            have r1 : wr.cell? ⟨b, off + k * 2 + 1, none⟩ = some (.slice A' lx c') := HC0.out.2 wr HXP.out.2.2.2.2
            have hr := range_two r0 r1
            have hszP := HXP.out.2.2.2.2.size
            go_wp2_with (first
              | (refine wpList_load_mid rfl 69 (.tmp 46) rfl b (off + k * 2) rfl [.int .i64 x1, .slice A' lx c'] _ hr Try.underlying69 rfl size_pair1 ?_)
              | (at_builtin; refine wpList_append_own _ rfl (.tmp 42) (.tmp 47) 34 rfl W.heap.size 69 i0 z0 2 32 Try.underlying34 hi0 hz0 hz2 hz3 hz1 (by decide) _ mqP _ rfl (HQP.out.alloc _) ⟨wr.heap.size, 0, none⟩ 1 1 [.int .i64 x1, .slice A' lx c'] rfl rfl (fun j y hj => by rw [Addr.add_lit, Nat.zero_add, cell_of_row _ _ _ _ _ _ (heap_alloc_new wr _)]; simpa using hj) (fun y hy => by simp only [List.mem_cons, List.not_mem_nil, or_false] at hy; rcases hy with rfl | rfl <;> rfl) (by simp only [maxLen]; omega) (by omega) (by rw [alloc_size]; omega) ?_; intro vB wB hoP hgP _))
            have hxP : Aside (MixPrs K wB W.heap.size vB ((wfold key l2 (ps.take k)).1 ++ [x])) := by
              obtain ⟨q1, q2, q3, hmq, hB⟩ := HXP.out
              refine mix_push (x := x) hB.size q1 q2 q3 (.inl ⟨A', c', rfl, HBS.out.below hB, HKK.out⟩) ?_ (by rw [HX1.out.1, HX1.out.2]; exact hgP)
              rw [hmq, HX1.out.1, HX1.out.2]; exact hoP
            have hbP : Aside (Below W.heap.size W wB) := by
              have a1 := HXP.out.2.2.2.2
              exact (a1.alloc a1.size _).grown hgP (by rw [alloc_size]; have := a1.size; omega) (own_ge HQP.out)
            clear hoP hgP hszP
            go_roundw
            case rel =>
              have e : stepW key l2 (wfold key l2 (ps.take k)) x = ((wfold key l2 (ps.take k)).1 ++ [x], (wfold key l2 (ps.take k)).2) := by
                unfold stepW
                rw [if_neg (by rw [HD.out, HX1.out.2]; exact HA.out), if_neg (by rw [HX1.out.2]; exact HNE.out)]
              exact ⟨k + 1, by omega, by go_num, by rw [HF.out, e, HD.out], by rw [HF.out, e]; exact hxP.out, hbP.out⟩
            case measure => simp [intOf]; omega
          · have r0 : wr.cell? ⟨b, off + k * 2, none⟩ = some (.int .i64 x1) := HC0.out.1 wr HXP.out.2.2.2.2
            have r1 : wr.cell? ⟨b, off + k * 2 + 1, none⟩ = some (.slice A' lx c') := HC0.out.2 wr HXP.out.2.2.2.2
            have hr := range_two r0 r1
            have hszP := HXP.out.2.2.2.2.size
            go_wp2_with (first
              | (refine wpList_load_mid rfl 69 (.tmp 46) rfl b (off + k * 2) rfl [.int .i64 x1, .slice A' lx c'] _ hr Try.underlying69 rfl size_pair1 ?_)
              | (at_builtin; refine wpList_append_own _ rfl (.tmp 42) (.tmp 47) 34 rfl W.heap.size 69 i0 z0 2 32 Try.underlying34 hi0 hz0 hz2 hz3 hz1 (by decide) _ mqP _ rfl (HQP.out.alloc _) ⟨wr.heap.size, 0, none⟩ 1 1 [.int .i64 x1, .slice A' lx c'] rfl rfl (fun j y hj => by rw [Addr.add_lit, Nat.zero_add, cell_of_row _ _ _ _ _ _ (heap_alloc_new wr _)]; simpa using hj) (fun y hy => by simp only [List.mem_cons, List.not_mem_nil, or_false] at hy; rcases hy with rfl | rfl <;> rfl) (by simp only [maxLen]; omega) (by omega) (by rw [alloc_size]; omega) ?_; intro vB wB hoP hgP _))
            have hxP : Aside (MixPrs K wB W.heap.size vB ((wfold key l2 (ps.take k)).1 ++ [x])) := by
              obtain ⟨q1, q2, q3, hmq, hB⟩ := HXP.out
              refine mix_push (x := x) hB.size q1 q2 q3 (.inl ⟨A', c', rfl, HBS.out.below hB, HKK.out⟩) ?_ (by rw [HX1.out.1, HX1.out.2]; exact hgP)
              rw [hmq, HX1.out.1, HX1.out.2]; exact hoP
            have hbP : Aside (Below W.heap.size W wB) := by
              have a1 := HXP.out.2.2.2.2
              exact (a1.alloc a1.size _).grown hgP (by rw [alloc_size]; have := a1.size; omega) (own_ge HQP.out)
            clear hoP hgP hszP
            go_roundw
            case rel =>
              have e : stepW key l2 (wfold key l2 (ps.take k)) x = ((wfold key l2 (ps.take k)).1 ++ [x], (wfold key l2 (ps.take k)).2) := by
                unfold stepW
                rw [if_neg (by rw [HD.out, HX1.out.2]; exact HA.out), if_neg (by rw [HX1.out.2]; exact HNE.out)]
              exact ⟨k + 1, by omega, by go_num, by rw [HF.out, e, HD.out], by rw [HF.out, e]; exact hxP.out, hbP.out⟩
            case measure => simp [intOf]; omega
    · have hkn : k = n := by omega
      have htk : ps.take k = ps := List.take_of_length_le (by omega)
      have hwl := wfold_len key l2 ps k (by omega)
      rw [htk] at hO hwl
      rw [htk]
      clear hlen htk
      obtain ⟨dn, hdn⟩ : ∃ dn, (wfold key l2 ps).2 = dn := ⟨_, rfl⟩
      rw [hdn]
      have HD : Aside _ := hdn
      clear hdn
      cases dn with
      | true =>
        have HR : Aside _ := And.intro hO hB
        clear hO hB hwl
        go_wp2
        go_ret
        exact ⟨_, rfl, by unfold withL; rw [if_pos HD.out]; exact HR.out.1, HR.out.2⟩
      | false =>
        obtain ⟨mqP, hmqP⟩ : ∃ mq, ((wfold key l2 ps).1).length = mq := ⟨_, rfl⟩
        have hleP : mqP ≤ 200 := by rw [← hmqP]; omega
        obtain ⟨vsP, q1P, q2P, q3P⟩ := hO
        have HXP : Aside _ := And.intro q1P (And.intro q2P (And.intro q3P (And.intro hmqP hB)))
        rw [hmqP] at q2P
        have HQP := Lib.hid q2P
        clear q1P q2P q3P hmqP hB
        clear hwl
        go_wp2_with (first
          | (go_at_call 31; refine (copy_any A2 n2 c2 l2 wr _ ((HB2.out.below HXP.out.2.2.2.2).more HXP.out.2.2.2.2.size) (Nat.le_refl _) (by omega)).mono ?_; rintro e wcP ⟨ucP, rfl, hocP, bcP⟩; have hocP2 := row_mono hocP HXP.out.2.2.2.2.size; obtain ⟨AcP, ccP, rfl, _, _⟩ := Bs.of_own hocP; have HCP : Aside _ := And.intro hocP2 bcP; have HQcP := Lib.hid (row_kept HQP.out fun g cs _ hg => bcP.block g (Array.getElem?_eq_some_iff.1 hg).1); have hszP := Nat.le_trans HXP.out.2.2.2.2.size bcP.size; clear hocP hocP2 bcP)
          | (at_builtin
             refine wpList_append_own _ rfl (.tmp 51) (.tmp 56) 34 rfl W.heap.size 69 i0 z0 2 32 Try.underlying34 hi0 hz0 hz2 hz3 hz1 (by decide) _ mqP _ rfl (HQcP.out.alloc _) ⟨wcP.heap.size, 0, none⟩ 1 1 [.int .i64 key, .slice AcP l2.length ccP] rfl rfl (fun j y hj => by rw [Addr.add_lit, Nat.zero_add, cell_of_row _ _ _ _ _ _ (heap_alloc_new wcP _)]; simpa using hj) (fun y hy => by simp only [List.mem_cons, List.not_mem_nil, or_false] at hy; rcases hy with rfl | rfl <;> rfl) (by simp only [maxLen]; omega) (by omega) (by rw [alloc_size]; omega) ?_
             intro vA wA hoP hgP _
             have hxP : MixPrs K wA W.heap.size vA ((wfold key l2 ps).1 ++ [(key, l2)]) := by
               obtain ⟨q1, q2, q3, hmq, hB⟩ := HXP.out
               have b := HCP.out.2
               refine mix_push (x := (key, l2)) (Nat.le_trans hB.size b.size) q1 (row_kept q2 fun g cs _ hg => b.block g (Array.getElem?_eq_some_iff.1 hg).1) (fun i x u hx hu => (q3 i x u hx hu).kept (fun g hg => b.block g (Nat.lt_of_lt_of_le hg hB.size)) fun g cs hg => b.block g (Array.getElem?_eq_some_iff.1 hg).1) (.inr HCP.out.1) ?_ hgP
               rw [hmq]; exact hoP
             have hbP : Below W.heap.size W wA := by
               have a1 := HXP.out.2.2.2.2.trans (HCP.out.2.mono HXP.out.2.2.2.2.size)
               exact (a1.alloc a1.size _).grown hgP (by rw [alloc_size]; have := a1.size; omega) (own_ge HQcP.out)
             clear hoP hgP hszP
             have HR : Aside _ := And.intro hxP hbP
             clear hxP hbP))
        go_ret
        exact ⟨_, rfl, by unfold withL; rw [if_neg (by rw [HD.out]; decide)]; exact HR.out.1, HR.out.2⟩
/-- Over rising keys. -/
theorem wfold_sorted (key : Int) (l : List UInt8) : ∀ (n : Nat) (ps : List (Int × List UInt8)), ps.length = n → ps.Pairwise (fun a b => a.1 < b.1) →
    ((∀ x, x ∈ ps → x.1 < key) ∧ wfold key l ps = (ps, false)) ∨ ((∃ x, x ∈ ps ∧ key ≤ x.1) ∧ wfold key l ps = (ps.filter (fun x => decide (x.1 < key)) ++ [(key, l)] ++ ps.filter (fun x => decide (key < x.1)), true))
  | 0, ps, h, _ => by
    have : ps = [] := List.eq_nil_of_length_eq_zero h
    subst this
    exact .inl ⟨(fun x hx => by cases hx), rfl⟩
  | n + 1, ps, h, hp => by
    have hne : ps ≠ [] := fun e => by rw [e] at h; cases h
    obtain ⟨qs, x, rfl⟩ : ∃ qs x, ps = qs ++ [x] := ⟨ps.dropLast, ps.getLast hne, (List.dropLast_concat_getLast hne).symm⟩
    have hl : qs.length = n := by rw [List.length_append] at h; simpa using h
    obtain ⟨p1, p2, p3⟩ := List.pairwise_append.1 hp
    have hlt : ∀ y, y ∈ qs → y.1 < x.1 := fun y hy => p3 y hy x (by simp)
    rw [wfold_snoc]
    have hnil : ∀ (p : Int × List UInt8 → Bool), (∀ y, y ∈ qs → p y = false) → qs.filter p = [] := fun p hp => List.filter_eq_nil_iff.2 fun y hy => by rw [hp y hy]; decide
    have hall : ∀ (p : Int × List UInt8 → Bool), (∀ y, y ∈ qs → p y = true) → qs.filter p = qs := fun p hp => List.filter_eq_self.2 hp
    rcases wfold_sorted key l n qs hl p1 with ⟨h1, h2⟩ | ⟨⟨y, hy, hk⟩, h2⟩
    · rw [h2]
      by_cases hx : key ≤ x.1
      · refine .inr ⟨⟨x, by simp, hx⟩, ?_⟩
        unfold stepW
        rw [if_pos ⟨rfl, hx⟩, List.filter_append, List.filter_append, hall _ (fun y hy => decide_eq_true (h1 y hy)), hnil _ (fun y hy => decide_eq_false (by have := h1 y hy; omega))]
        by_cases he : x.1 = key
        · rw [if_pos he]; simp [List.filter, he]
        · have a1 : ¬ x.1 < key := by omega
          have a2 : key < x.1 := by omega
          rw [if_neg he]; simp [List.filter, a1, a2]
      · refine .inl ⟨fun y hy => ?_, ?_⟩
        · rcases List.mem_append.1 hy with hy | hy
          · exact h1 y hy
          · obtain rfl := List.mem_singleton.1 hy; omega
        · unfold stepW
          rw [if_neg (fun e => hx e.2), if_neg (by omega)]
    · have hyx := hlt y hy
      refine .inr ⟨⟨y, by simp [hy], hk⟩, ?_⟩
      rw [h2]
      have a1 : ¬ x.1 < key := by omega
      have a2 : key < x.1 := by omega
      unfold stepW
      rw [if_neg (fun e => by cases e.1), if_neg (by omega)]
      simp [List.filter_append, List.filter, a1, a2]
theorem withL_sorted (key : Int) (l : List UInt8) (ps : List (Int × List UInt8)) (hp : ps.Pairwise (fun a b => a.1 < b.1)) : withL key l ps = ps.filter (fun x => decide (x.1 < key)) ++ [(key, l)] ++ ps.filter (fun x => decide (key < x.1)) := by
  unfold withL
  rcases wfold_sorted key l _ ps rfl hp with ⟨h1, h2⟩ | ⟨_, h2⟩
  · rw [h2, if_neg (fun e => Bool.noConfusion e), List.filter_eq_self.2 (fun y hy => decide_eq_true (h1 y hy)), List.filter_eq_nil_iff.2 (fun y hy => by rw [decide_eq_false (by have := h1 y hy; omega)]; decide), List.append_nil]
  · rw [h2, if_pos rfl]
theorem filter_put {p : Nat → Bool} {kn : Nat} : ∀ {r : List Nat}, r.Pairwise (fun a b => a < b) → kn ∈ r → r.filter (fun n => decide (n = kn) || p n) = (r.filter p).filter (fun n => decide (n < kn)) ++ [kn] ++ (r.filter p).filter (fun n => decide (kn < n))
  | [], _, h => by cases h
  | a :: t, hp, hm => by
    obtain ⟨h1, h2⟩ := List.pairwise_cons.1 hp
    by_cases e : a = kn
    · subst e
      have b1 : t.filter (fun n => decide (n = a) || p n) = t.filter p := List.filter_congr fun n hn => by rw [decide_eq_false (by have := h1 n hn; omega), Bool.false_or]
      have b2 : (t.filter p).filter (fun n => decide (n < a)) = [] := List.filter_eq_nil_iff.2 fun n hn => by rw [decide_eq_false (by have := h1 n (List.mem_filter.1 hn).1; omega)]; decide
      have b3 : (t.filter p).filter (fun n => decide (a < n)) = t.filter p := List.filter_eq_self.2 fun n hn => decide_eq_true (h1 n (List.mem_filter.1 hn).1)
      have b4 : ((a :: t).filter p).filter (fun n => decide (n < a)) = [] := List.filter_eq_nil_iff.2 fun n hn => by
        have hn' := (List.mem_filter.1 hn).1
        have : ¬ n < a := by rcases List.mem_cons.1 hn' with rfl | hn'
                             · omega
                             · have := h1 n hn'; omega
        rw [decide_eq_false this]; decide
      have b5 : ((a :: t).filter p).filter (fun n => decide (a < n)) = t.filter p := by
        cases hpa : p a with
        | true => rw [List.filter_cons_of_pos hpa, List.filter_cons_of_neg (by simp), b3]
        | false => rw [List.filter_cons_of_neg (by simp [hpa]), b3]
      rw [b4, b5, List.filter_cons_of_pos (by simp), b1]; rfl
    · have hk : kn ∈ t := by rcases List.mem_cons.1 hm with h | h
                             · exact absurd h.symm e
                             · exact h
      have hlt := h1 kn hk
      have ih := filter_put (p := p) h2 hk
      cases hpa : p a with
      | true =>
        rw [List.filter_cons_of_pos (by simp [hpa]), List.filter_cons_of_pos hpa, List.filter_cons_of_pos (by simp; omega), List.filter_cons_of_neg (by simp; omega), ih]; rfl
      | false =>
        rw [List.filter_cons_of_neg (by simp [hpa, e]), List.filter_cons_of_neg (by simp [hpa]), ih]
theorem prsOf_nat (V : Int → Option (List UInt8)) : prsOf V = (keysNat V).map fun n : Nat => ((n : Int), (V (n : Int)).getD []) := by
  unfold prsOf keysOf; rw [List.map_map]; rfl
theorem keysNat_lt (V : Int → Option (List UInt8)) : (keysNat V).Pairwise (fun a b => a < b) := List.pairwise_lt_range.filter _
theorem prsOf_lt (V : Int → Option (List UInt8)) : (prsOf V).Pairwise (fun a b => a.1 < b.1) := by
  rw [prsOf_nat]
  exact List.pairwise_map.2 ((keysNat_lt V).imp fun h => by show ((_ : Nat) : Int) < ((_ : Nat) : Int); omega)
theorem prs_filter (V W : Int → Option (List UInt8)) (q : Nat → Bool) (p : Int × List UInt8 → Bool) (r : List Nat) (h1 : ∀ n, n ∈ r → p ((n : Int), (V (n : Int)).getD []) = q n) (h2 : ∀ n, n ∈ r → q n = true → V (n : Int) = W (n : Int)) :
    (r.map fun n : Nat => ((n : Int), (V (n : Int)).getD [])).filter p = (r.filter q).map fun n : Nat => ((n : Int), (W (n : Int)).getD []) := by
  induction r with
  | nil => rfl
  | cons a t ih =>
    have ih' := ih (fun n hn => h1 n (List.mem_cons_of_mem _ hn)) (fun n hn => h2 n (List.mem_cons_of_mem _ hn))
    have e1 := h1 a (List.mem_cons_self ..)
    have e2 := h2 a (List.mem_cons_self ..)
    cases hq : q a with
    | true =>
      rw [List.map_cons, List.filter_cons_of_pos (by rw [e1, hq]), List.filter_cons_of_pos hq, List.map_cons, ih', e2 hq]
    | false =>
      rw [List.map_cons, List.filter_cons_of_neg (by rw [e1, hq]; decide), List.filter_cons_of_neg (by rw [hq]; decide), ih']
/-- What the reference takes out is what is dropped. -/
theorem prs_drop (V : Int → Option (List UInt8)) (key : Int) : prsOf (dropV V key) = (prsOf V).filter fun x => x.1 != key := by
  rw [prsOf_nat V, prs_filter V (dropV V key) (fun n => (n : Int) != key) _ _ (fun n _ => rfl) (fun n _ hn => by unfold dropV; rw [if_neg (bne_iff_ne.1 hn)]), prsOf_nat]
  congr 1
  unfold keysNat
  rw [List.filter_filter]
  refine List.filter_congr fun n _ => ?_
  unfold dropV
  by_cases e : (n : Int) = key
  · rw [if_pos e]; simp [e]
  · rw [if_neg e, bne_iff_ne.2 e, Bool.true_and]
/-- What the reference puts is what is put. -/
theorem prs_put (V : Int → Option (List UInt8)) (key : Int) (l : List UInt8) (h0 : 0 ≤ key) (h1 : key < 32) : prsOf (putV (dropV V key) key l) = withL key l (prsOf V) := by
  obtain ⟨kn, rfl⟩ : ∃ kn : Nat, key = (kn : Int) := ⟨key.toNat, by omega⟩
  rw [withL_sorted _ _ _ (prsOf_lt V), prsOf_nat V]
  have hv : ∀ n : Nat, n ≠ kn → V (n : Int) = putV (dropV V (kn : Int)) (kn : Int) l (n : Int) := fun n hn => by
    unfold putV dropV
    rw [if_neg (by omega), if_neg (by omega)]
  rw [prs_filter V (putV (dropV V (kn : Int)) (kn : Int) l) (fun n => decide (n < kn)) _ _ (fun n _ => by show decide ((n : Int) < (kn : Int)) = _; simp) (fun n _ hn => hv n (by have := of_decide_eq_true hn; omega)),
    prs_filter V (putV (dropV V (kn : Int)) (kn : Int) l) (fun n => decide (kn < n)) _ _ (fun n _ => by show decide ((kn : Int) < (n : Int)) = _; simp) (fun n _ hn => hv n (by have := of_decide_eq_true hn; omega)), prsOf_nat]
  have hk : keysNat (putV (dropV V (kn : Int)) (kn : Int) l) = ((keysNat V).filter fun n => decide (n < kn)) ++ [kn] ++ ((keysNat V).filter fun n => decide (kn < n)) := by
    unfold keysNat
    rw [← filter_put List.pairwise_lt_range (List.mem_range.2 (by omega))]
    refine List.filter_congr fun n _ => ?_
    by_cases e : n = kn
    · subst e; unfold putV; simp
    · rw [← hv n e, decide_eq_false e, Bool.false_or]
  rw [hk, List.map_append, List.map_append]
  congr 1
  congr 1
  unfold putV
  simp
end Go.Proofs.Ytpdlipkmojhnnaa
