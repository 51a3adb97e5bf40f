/-
  Options: found by a predicate; the bytes that a value tells; checked.
-/
/-
  Options in rows of the call's own: cloned, copied, one behind the other.
-/
import Derived.Test.YtbclgalocipmfaaDoorOpt
import Derived.BigQuiet
import Derived.Deep.RegionHeld3
import Derived.Deep.AppendLies
import Derived.Lib.AppendZeros
namespace Go.Proofs.YtbclgalocipmfaaDoor
open Go.RowKit
set_option maxRecDepth 100000
set_option linter.unusedVariables false
theorem ret_i {a b : Int} (h : a = b) : Ending.returned (.int .i64 a) = .returned (.int .i64 b) := by rw [h]
/-- A predicate that is handed in. -/
def PredB (g : Nat) (lb : Array Value) (p : Sv → Bool) (w : World) : Prop :=
  ∀ (W : World) (s : Sv), Below w.heap.size w W → Calls Tryd.prog g (#[.agg #[.int .i64 s.k, .slice s.A s.n s.c]] ++ lb) W fun e w' => e = .returned (.bool (p s)) ∧ Below W.heap.size W w'
theorem PredB.later {g : Nat} {lb : Array Value} {p : Sv → Bool} {w W : World} (h : PredB g lb p w) (hb : Below w.heap.size w W) : PredB g lb p W :=
  fun W' s hb' => h W' s (hb.trans (hb'.mono hb.size))
def Fn (g : Nat) : Prop := ∀ args w, (callFunc g args).run Tryd.prog w = .ok (.enter g args) w
theorem fn_of : Fn 111 := enters_of Tryd.func111 (by kernel_rfl) rfl
theorem of1_f (b : Nat) (num k : Int) (A : Option Addr) (n c : Nat) (w : World) (hb : b < w.heap.size) (hc : w.cell? ⟨b, 0, none⟩ = some (.int .i64 num)) :
    Calls Tryd.prog 111 #[.agg #[.int .i64 k, .slice A n c], .pointer (some ⟨b, 0, none⟩)] w fun e w' => e = .returned (.bool (k == num)) ∧ Below w.heap.size w w' := by
  go_enter Tryd.func111, Tryd.ntmps111
  go_wp2
  go_ret
  exact ⟨rfl, (Below.refl _ _).alloc (Nat.le_refl _) _⟩
def badNum (k : Int) : Bool := decide (k < 0) || decide (65535 < k)
theorem pred_of (b : Nat) (num : Int) (w : World) (hb : b < w.heap.size) (hc : w.cell? ⟨b, 0, none⟩ = some (.int .i64 num)) : PredB 111 #[.pointer (some ⟨b, 0, none⟩)] (fun s => s.k == num) w :=
  fun W s h => of1_f b num s.k s.A s.n s.c W (Nat.lt_of_lt_of_le hb h.size) ((h.cell (p := ⟨b, 0, none⟩) hb).trans hc)
/-- The first place at which a predicate holds, or -1. -/
def idxP (p : Sv → Bool) (vs : List Sv) : Int := match vs.findIdx? p with | some i => (i : Int) | none => -1
theorem idxP_hit {p : Sv → Bool} {vs : List Sv} {k : Nat} {s : Sv} (h : ∀ (j : Nat) (t : Sv), j < k → vs[j]? = some t → p t = false) (hs : vs[k]? = some s) (hp : p s = true) : idxP p vs = k := by
  have : vs.findIdx? p = some k := by
    rw [List.findIdx?_eq_some_iff_getElem]
    obtain ⟨hk, rfl⟩ := List.getElem?_eq_some_iff.1 hs
    exact ⟨hk, hp, fun j hj => by rw [h j _ hj (List.getElem?_eq_getElem (by omega))]; simp⟩
  unfold idxP; rw [this]
theorem idxP_miss {p : Sv → Bool} {vs : List Sv} (h : ∀ (j : Nat) (t : Sv), j < vs.length → vs[j]? = some t → p t = false) : idxP p vs = -1 := by
  have : vs.findIdx? p = none := by
    rw [List.findIdx?_eq_none_iff]
    intro x hx
    obtain ⟨j, hj⟩ := List.mem_iff_getElem?.1 hx
    exact h j x (List.getElem?_eq_some_iff.1 hj).1 hj
  unfold idxP; rw [this]
theorem idxP_any (p : Sv → Bool) (vs : List Sv) : decide (0 ≤ idxP p vs) = vs.any p := by
  unfold idxP
  cases h : vs.findIdx? p with
  | none =>
    rw [List.findIdx?_eq_none_iff] at h
    have : vs.any p = false := by rw [List.any_eq_false]; intro x hx; rw [h x hx]; decide
    rw [this]; rfl
  | some i =>
    rw [List.findIdx?_eq_some_iff_getElem] at h
    obtain ⟨hi, hp, _⟩ := h
    have : vs.any p = true := List.any_eq_true.2 ⟨vs[i], List.getElem_mem hi, hp⟩
    rw [this]
    exact decide_eq_true (by show (0 : Int) ≤ (i : Int); omega)
/-- The error of options that can't be written. -/
def errOf (vs : List Sv) : Int := if 24 < vs.length then 3 else if vs.any (fun s => badNum s.k) = true then 1 else if vs.any (fun s => decide ((300 : Int) < s.n)) = true then 2 else 0
/-- An option whose bytes lie below a block, or in a row of the call's own. -/
def InS (w : World) (base : Nat) (s : Sv) (l : List UInt8) : Prop :=
  s.n ≤ s.c ∧ s.c ≤ maxLen ∧ s.n = l.length ∧ (Bs w base s.A s.n l ∨ w.ownsRow base 5 1 (.slice s.A s.n s.c) s.n (U8 l))
def Mx (w : World) (base : Nat) (us : List Sv) (ps : List (Int × List UInt8)) : Prop :=
  us.length = ps.length ∧ ∀ (i : Nat) (s : Sv) (x : Int × List UInt8), us[i]? = some s → ps[i]? = some x → s.k = x.1 ∧ InS w base s x.2
section
variable {w w' : World} {base n : Nat} {us : List Sv} {ps : List (Int × List UInt8)}
theorem InS.kept {s : Sv} {l : List UInt8} (h : InS w base s l) (h1 : ∀ g, g < base → w'.heap[g]? = w.heap[g]?) (h2 : ∀ (g : Nat) (cs : Array Value), w.heap[g]? = some (.cells cs 5 (0, 0)) → w'.heap[g]? = w.heap[g]?) : InS w' base s l := by
  obtain ⟨a, b, c, h⟩ := h
  refine ⟨a, b, c, ?_⟩
  rcases h with h | h
  · exact .inl (h.keep fun p hp => World.cell?_of_block (w := w) (h1 p.block hp))
  · exact .inr (row_kept h fun g cs _ hb => h2 g cs hb)
theorem Mx.kept (h : Mx w base us ps) (h1 : ∀ g, g < base → w'.heap[g]? = w.heap[g]?) (h2 : ∀ (g : Nat) (cs : Array Value), w.heap[g]? = some (.cells cs 5 (0, 0)) → w'.heap[g]? = w.heap[g]?) : Mx w' base us ps :=
  ⟨h.1, fun i s x hs hx => ⟨(h.2 i s x hs hx).1, (h.2 i s x hs hx).2.kept h1 h2⟩⟩
theorem kept_below (hb : Below w.heap.size w w') (hbase : base ≤ w.heap.size) : (∀ g, g < base → w'.heap[g]? = w.heap[g]?) ∧ (∀ (g : Nat) (cs : Array Value), w.heap[g]? = some (.cells cs 5 (0, 0)) → w'.heap[g]? = w.heap[g]?) :=
  ⟨fun g hg => hb.block g (by omega), fun g cs hg => hb.block g (Array.getElem?_eq_some_iff.1 hg).1⟩
theorem InS.below {s : Sv} {l : List UInt8} (h : InS w base s l) (hb : Below w.heap.size w w') (hbase : base ≤ w.heap.size) : InS w' base s l := h.kept (kept_below hb hbase).1 (kept_below hb hbase).2
theorem Mx.below (h : Mx w base us ps) (hb : Below w.heap.size w w') (hbase : base ≤ w.heap.size) : Mx w' base us ps := h.kept (kept_below hb hbase).1 (kept_below hb hbase).2
theorem kept_grown {v : Value} {xs : List Value} (ho : w.ownsRow base 99 2 v n xs) (hg : w.grownBy w' v.ownBlock) (hbase : base ≤ w.heap.size) : (∀ g, g < base → w'.heap[g]? = w.heap[g]?) ∧ (∀ (g : Nat) (cs : Array Value), w.heap[g]? = some (.cells cs 5 (0, 0)) → w'.heap[g]? = w.heap[g]?) := by
  refine ⟨fun g hgb => hg.block g (by omega) (fun e => by have := own_ge ho g e.symm; omega), fun g cs hb => hg.block g (Array.getElem?_eq_some_iff.1 hb).1 (fun e => ?_)⟩
  rcases ho.2 with ⟨rfl, _⟩ | ⟨g', cap, cur, rfl, _, h4, _⟩
  · cases e
  · have e' : g = g' := by injection e
    subst e'
    rw [hb] at h4
    injection h4 with h4
    injection h4 with _ h4
    exact absurd h4 (by decide)
theorem Mx.grown {v : Value} {xs : List Value} (h : Mx w base us ps) (ho : w.ownsRow base 99 2 v n xs) (hg : w.grownBy w' v.ownBlock) (hbase : base ≤ w.heap.size) : Mx w' base us ps := h.kept (kept_grown ho hg hbase).1 (kept_grown ho hg hbase).2
theorem InS.grown {v : Value} {xs : List Value} {s : Sv} {l : List UInt8} (h : InS w base s l) (ho : w.ownsRow base 99 2 v n xs) (hg : w.grownBy w' v.ownBlock) (hbase : base ≤ w.heap.size) : InS w' base s l := h.kept (kept_grown ho hg hbase).1 (kept_grown ho hg hbase).2
theorem Mx.nil (w : World) (base : Nat) : Mx w base [] [] := ⟨rfl, fun i s x hs => by simp at hs⟩
theorem Mx.push {s : Sv} {x : Int × List UInt8} (h : Mx w base us ps) (hk : s.k = x.1) (hs : InS w base s x.2) : Mx w base (us ++ [s]) (ps ++ [x]) := by
  refine ⟨by simp [h.1], fun i t y ht hy => ?_⟩
  have hl := h.1
  by_cases hi : i < us.length
  · rw [List.getElem?_append_left hi] at ht
    rw [List.getElem?_append_left (by omega)] at hy
    exact h.2 i t y ht hy
  · have hi2 : i = us.length := by
      have := (List.getElem?_eq_some_iff.1 ht).1
      simp at this; omega
    subst hi2
    rw [List.getElem?_append_right (Nat.le_refl _), Nat.sub_self] at ht
    rw [hl, List.getElem?_append_right (Nat.le_refl _), Nat.sub_self] at hy
    obtain rfl := Option.some.inj ht
    obtain rfl := Option.some.inj hy
    exact ⟨hk, hs⟩
theorem InS.bs {s : Sv} {l : List UInt8} (h : InS w base s l) (hbase : base ≤ w.heap.size) : Bs w w.heap.size s.A s.n l := by
  rcases h.2.2.2 with h | h
  · exact h.more hbase
  · obtain ⟨A', c', e, _, hb⟩ := Bs.of_own h
    injection e with e1 _ _
    rw [e1]
    exact hb
/-- .. read as options. -/
theorem Mx.os {v : Value} (h : Mx w base us ps) (ho : w.ownsRow base 99 2 v n (svs us)) (hbase : base ≤ w.heap.size) : ∃ A c, v = .slice A n c ∧ n ≤ c ∧ Os w w.heap.size A n us ps := by
  obtain ⟨A, c, rfl, hc, hsh⟩ := Sh.of_own ho
  refine ⟨A, c, rfl, hc, hsh, fun s hs => ?_, ?_⟩
  · obtain ⟨i, hi⟩ := List.mem_iff_getElem?.1 hs
    obtain ⟨x, hx⟩ : ∃ x, ps[i]? = some x := ⟨_, List.getElem?_eq_getElem (by rw [← h.1]; exact (List.getElem?_eq_some_iff.1 hi).1)⟩
    have hh := (h.2 i s x hi hx).2
    exact (SvAt.mk_ (hh.bs hbase) hh.1 hh.2.1).1
  · refine List.ext_getElem? fun i => ?_
    rw [List.getElem?_map]
    by_cases hi : i < us.length
    · obtain ⟨s, hs⟩ : ∃ s, us[i]? = some s := ⟨_, List.getElem?_eq_getElem hi⟩
      obtain ⟨x, hx⟩ : ∃ x, ps[i]? = some x := ⟨_, List.getElem?_eq_getElem (by rw [← h.1]; exact hi)⟩
      obtain ⟨hk, hh⟩ := h.2 i s x hs hx
      rw [hs, hx]
      show some (rd w s) = some x
      rw [(SvAt.mk_ (hh.bs hbase) hh.1 hh.2.1).2, hk]
    · rw [List.getElem?_eq_none (by omega), List.getElem?_eq_none (by rw [← h.1]; omega)]; rfl
theorem InS.of_own {A : Option Addr} {c : Nat} {l : List UInt8} {k : Int} (ho : w.ownsRow base 5 1 (.slice A l.length c) l.length (U8 l)) : InS w base ⟨k, A, l.length, c⟩ l := by
  refine ⟨?_, ?_, rfl, .inr ho⟩
  · obtain ⟨A', c', e, h, _⟩ := Bs.of_own ho
    injection e with _ _ e3
    rw [e3]; exact h
  · rcases ho.2 with ⟨e, _⟩ | ⟨g, cap, cur, e, _, _, _, hm, _⟩
    · injection e with _ _ e3
      show c ≤ maxLen
      rw [e3]; exact Nat.zero_le _
    · injection e with _ _ e3
      show c ≤ maxLen
      rw [e3]; exact hm
end
theorem row_cap {w : World} {base size n : Nat} {e : TypeId} {A : Option Addr} {c : Nat} {xs : List Value} (h : w.ownsRow base e size (.slice A n c) n xs) : c ≤ maxLen := by
  rcases h.2 with ⟨e1, _⟩ | ⟨g, cap, cur, e1, _, _, _, h5, _⟩
  · injection e1 with _ _ e3; rw [e3]; exact Nat.zero_le _
  · injection e1 with _ _ e3; rw [e3]; exact h5
/-- Options returned in a row of the call's own. -/
def RetOpts (ps : List (Int × List UInt8)) (w : World) (e : Ending) (w' : World) : Prop :=
  ∃ v us, e = .returned v ∧ w'.ownsRow w.heap.size 99 2 v ps.length (svs us) ∧ Mx w' w.heap.size us ps ∧ Below w.heap.size w w'
theorem RetOpts.slice_ {ps : List (Int × List UInt8)} {w w' : World} {e : Ending} (h : RetOpts ps w e w') : ∃ A n c us, e = .returned (.slice A n c) ∧ (n ≤ c ∧ c ≤ maxLen) ∧ Hid (n = ps.length) ∧ Os w' w'.heap.size A n us ps ∧ Below w.heap.size w w' := by
  obtain ⟨v, us, rfl, ho, hm, hb⟩ := h
  obtain ⟨A, c, rfl, hc, hos⟩ := hm.os ho hb.size
  exact ⟨A, _, c, us, rfl, ⟨hc, row_cap ho⟩, rfl, hos, hb⟩
theorem wp_row (w : World) (B : Nat) (hB : B ≤ w.heap.size) (e : TypeId) (size : Nat) : (w.alloc (.cells #[] e)).ownsRow B e size (.slice (some ⟨w.heap.size, 0, none⟩) 0 0) 0 [] :=
  World.ownsRow_made (base := B) (e := e) (size := size) w #[] 0 hB (Nat.zero_le _) (by simp)
set_option maxHeartbeats 400000 in
theorem bclone_f (A : Option Addr) (n c : Nat) (l : List UInt8) (w : World) (B : Nat) (hbs : Bs w B A n l) (hB : B ≤ w.heap.size) (hn : (n : Int) ≤ 140737488355328) :
    Calls Tryd.prog 83 #[.slice A n c] w (RetOwn 5 l w) := by
  obtain ⟨i0, hi0, hz0, hz1, hz2⟩ := info_parts info_u8
  have hnil : ∀ W, (binOp .eql 24 (.slice A n c) (.slice none 0 0)).run Tryd.prog W = .ok (.bool A.isNone) W := fun W => Lib.run_eql_slice_nil W _ _ A n c _ _ Tryd.underlying24
  have hlen := Lib.hid hbs.len
  cases A with
  | none =>
    have hn0 : n = 0 := by
      rcases Nat.eq_zero_or_pos n with h | h
      · exact h
      · obtain ⟨_, _, e, _⟩ := hbs.place h
        cases e
    have hl : l = [] := List.eq_nil_of_length_eq_zero (by rw [hlen.out, hn0])
    have HL := Lib.hid hl
    clear hl hn0
    go_enter Tryd.func83, Tryd.ntmps83
    go_wp2
    go_ret
    refine ⟨_, rfl, ?_, Below.refl _ _⟩
    rw [HL.out]
    exact World.ownsRow_nil _ _ _ _
  | some ad =>
    go_enter Tryd.func83, Tryd.ntmps83
    go_wp2_with (at_builtin; refine wpList_append_bs _ rfl (.tmp 5) (.tmp 6) 24 rfl w.heap.size 5 i0 Tryd.underlying24 hi0 hz0 hz1 hz2 _ 0 _ rfl (wp_row w _ (Nat.le_refl _) _ _) B (some ad) n c l rfl (hbs.alloc hB _) (by omega) (by rw [alloc_size]; omega) ?_; intro v' w1 hown1 hgrow)
    go_ret
    refine ⟨_, rfl, ?_, ((Below.refl w.heap.size w).alloc (Nat.le_refl _) _).grown hgrow (by rw [alloc_size]; omega) (own_ge (wp_row w _ (Nat.le_refl _) 5 1))⟩
    rw [hlen.out]
    simpa using hown1
end Go.Proofs.YtbclgalocipmfaaDoor
