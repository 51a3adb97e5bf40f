/-
  The document's options of a number, texts of a path, its numbers; the same texts.
-/
import Derived.Test.YtbclgalocipmfaaDoorPaRef2
import Derived.Test.YtbclgalocipmfaaDoorPaPairs
namespace Go.Proofs.YtbclgalocipmfaaDoor
open Go.RowKit
set_option maxRecDepth 100000
set_option maxRecDepth 100000
set_option linter.unusedVariables false
/-- A slice as it lies. -/
structure Sl3 where
  A : Option Addr
  n : Nat
  c : Nat
def slK : RowK Sl3 1 where
  vals x := [.slice x.A x.n x.c]
  len _ := rfl
  one s u hu := by simp only [List.mem_cons, List.not_mem_nil, or_false] at hu; rcases hu with rfl; rfl
  pos := by decide
theorem info_sl3 : (Tryd.prog.info? 24).map (fun i => (i.zero, i.size, i.bytes)) = some (some (.slice none 0 0), 1, 24) := by kernel_rfl
/-- Slices that hold the bytes. -/
def SlR (w : World) (B : Nat) (X : List Sl3) (ls : List (List UInt8)) : Prop := X.length = ls.length ∧ ∀ (i : Nat) x l, X[i]? = some x → ls[i]? = some l → Bs w B x.A x.n l
theorem SlR.push {w : World} {B : Nat} {X : List Sl3} {ls : List (List UInt8)} {x : Sl3} {l : List UInt8} (h : SlR w B X ls) (hb : Bs w B x.A x.n l) : SlR w B (X ++ [x]) (ls ++ [l]) := by
  refine ⟨by rw [List.length_append, List.length_append, h.1]; rfl, fun i y m hy hm => ?_⟩
  by_cases hi : i < X.length
  · rw [List.getElem?_append_left hi] at hy
    rw [List.getElem?_append_left (by rw [← h.1]; exact hi)] at hm
    exact h.2 i y m hy hm
  · rw [List.getElem?_append_right (by omega)] at hy
    rw [List.getElem?_append_right (by rw [← h.1]; omega)] at hm
    rw [← h.1] at hm
    rcases Nat.eq_zero_or_pos (i - X.length) with h0 | h0
    · rw [h0] at hy hm
      obtain rfl := Option.some.inj hy
      obtain rfl := Option.some.inj hm
      exact hb
    · rw [List.getElem?_eq_none (by simp; omega)] at hy
      cases hy
theorem own_apart {w w' : World} {b1 b2 z1 z2 n1 n2 : Nat} {e1 e2 : TypeId} {u v : Value} {xs ys : List Value} (h : w.ownsRow b1 e1 z1 u n1 xs) (ho : w.ownsRow b2 e2 z2 v n2 ys) (hg : w.grownBy w' v.ownBlock) (he : e2 ≠ e1) : w'.ownsRow b1 e1 z1 u n1 xs :=
  row_kept h fun g cs _ hb => hg.block g (Array.getElem?_eq_some_iff.1 hb).1 (fun e => by
    rcases ho.2 with ⟨rfl, _⟩ | ⟨g', cap, cur, rfl, _, h4, _⟩
    · cases e
    · have e' : g = g' := by injection e
      subst e'
      rw [hb] at h4
      injection h4 with h4
      injection h4 with _ h4
      exact absurd h4.symm he)
theorem own_at {α : Type} {z : Nat} {K : RowK α z} {w : World} {base : Nat} {e : TypeId} {A : Option Addr} {n c : Nat} {X : List α} (h : w.ownsRow base e z (.slice A n c) n (K.all X)) : K.At w w.heap.size A n X := by
  obtain ⟨A', c', e, _, _, hat, _⟩ := RowK.At.of_own h
  injection e with e1 _ e3
  subst e1 e3
  exact hat
def RetSl (B : Nat) (ls : List (List UInt8)) (w : World) (e : Ending) (w' : World) : Prop :=
  ∃ A n c X, e = .returned (.slice A n c) ∧ Hid (n = X.length) ∧ w'.ownsRow w.heap.size 24 1 (.slice A n c) n (slK.all X) ∧ SlR w B X ls ∧ Below w.heap.size w w'
set_option maxHeartbeats 4000000 in
theorem rall_f (num : Int) (A : Option Addr) (n c : Nat) (vs : List Sv) (ps : List (Int × List UInt8)) (w : World) (B : Nat) (hos : Os w B A n vs ps) (hB : B ≤ w.heap.size) (hn : n ≤ 1048576) :
    Calls Tryd.prog 58 #[.slice A n c, .int .i64 num] w (RetSl B (allO num ps) w) := by
  obtain ⟨i0, hi0, hz0, hz1, hz2⟩ := info_parts info_sl3
  have hnI : (n : Int) ≤ 1048576 := by omega
  have HO := Lib.hid (And.intro hos hos.plen)
  clear hos
  go_enter Tryd.func58, Tryd.ntmps58
  go_wp2
  go_loopw [5, 6] (fun v5 v6 wr => ∃ (k m c' : Nat) (A' : Option Addr), k ≤ n ∧ m ≤ k ∧ v6 = .int .i64 (k : Int) ∧ v5 = .slice A' m c' ∧ Aside (∃ X, wr.ownsRow w.heap.size 24 1 (.slice A' m c') m (slK.all X) ∧ SlR w B X (allO num (ps.take k)) ∧ Below w.heap.size w wr)) (fun _ v6 _ => n - (intOf v6).toNat)
  case atStart => exact ⟨0, 0, _, _, Nat.zero_le _, Nat.le_refl _, rfl, rfl, (show Aside _ from ⟨[], rk_empty w w.heap.size (Nat.le_refl _) _ _, ⟨rfl, fun i x l h => by simp at h⟩, alloc_below w _⟩)⟩
  case round =>
    obtain ⟨k, m, c', A', hk, hmk, rfl, rfl, hrel⟩ := hrel
    obtain ⟨X, hown, hsl, hbel⟩ := hrel.out
    clear hrel
    by_cases hlt : k < n
    · have hosr := HO.out.1.below' hbel hB
      obtain ⟨b, off, rfl, hb, _⟩ := hosr.sh.place (by omega)
      obtain ⟨s, hs⟩ := sv_get hosr.sh hlt
      obtain ⟨l, hpl1, hbs⟩ := HO.out.1.get hs
      have hr := hosr.sh.range hs
      have hstep := allO_step (num := num) hpl1
      obtain ⟨sk, sA, sn, sc⟩ := s
      have r0 := hr 0 _ rfl
      have r1 := hr 1 _ rfl
      rw [Nat.add_zero] at r0
      dsimp only at hstep hbs
      have hltI : (k : Int) < n := by omega
      have HX := Lib.hid (And.intro hown (And.intro hsl (And.intro hbel (And.intro hbs (And.intro hstep hbel.size)))))
      clear hown hsl hbel hbs hstep hpl1 hs hosr hr
      by_cases hq : sk = num
      · subst hq
        have hq1 : (sk == sk) = true := beq_self_eq_true _
        go_wp2_with (at_builtin; go_loud (refine slK.append_one wr rfl (.tmp 21) (.tmp 27) 102 rfl w.heap.size 24 i0 _ 24 Tryd.underlying102 hi0 hz0 hz1 hz2 rfl (.slice A' m c') m _ rfl HX.out.1 ⟨sA, sn, sc⟩ _ rfl _ rfl (by omega) (by unfold maxLen; omega) HX.out.2.2.2.2.2 ?_); intro A6 c6 w6 hown6 hgr6; have H6 := Lib.hid (And.intro hown6 hgr6); clear hown6 hgr6)
        go_roundw
        case rel => exact ⟨k + 1, m + 1, c6, A6, by omega, by omega, by go_num, rfl, (show Aside _ from ⟨_, H6.out.1, by rw [HX.out.2.2.2.2.1, if_pos (beq_self_eq_true _)]; exact HX.out.2.1.push HX.out.2.2.2.1, rk_in' (HX.out.2.2.1.trans (Below.mono (alloc_below wr _) HX.out.2.2.2.2.2)) (HX.out.1.alloc _) H6.out.2 (by have := HX.out.2.2.2.2.2; rw [alloc_size]; omega)⟩)⟩
        case measure => simp [intOf]; omega
      · have hq1 : (sk == num) = false := beq_eq_false_iff_ne.2 hq
        go_wp2
        go_roundw
        case rel => exact ⟨k + 1, m, c', A', by omega, by omega, by go_num, rfl, (show Aside _ from ⟨X, HX.out.1, by rw [HX.out.2.2.2.2.1, if_neg (by rw [hq1]; decide), List.append_nil]; exact HX.out.2.1, HX.out.2.2.1⟩)⟩
        case measure => simp [intOf]; omega
    · obtain rfl : k = n := by omega
      have hltI : ¬ (k : Int) < k := by omega
      rw [List.take_of_length_le (by have := HO.out.2; omega)] at hsl
      have HX := Lib.hid (And.intro hown (And.intro hsl hbel))
      clear hown hsl hbel hlt
      go_wp2
      go_ret
      exact ⟨_, _, _, X, rfl, (RowK.own_len HX.out.1).symm, HX.out.1, HX.out.2.1, HX.out.2.2⟩
set_option maxHeartbeats 2000000 in
theorem sametexts_f (A1 A2 : Option Addr) (n c1 c2 : Nat) (X : List ByteArray) (w : World) (B1 B2 : Nat) (h1 : stK.At w B1 A1 n X) (h2 : stK.At w B2 A2 n X) (hn : n ≤ 1048576) :
    Calls Tryd.prog 25 #[.slice A1 n c1, .slice A2 n c2] w fun e w' => e = .returned (.bool true) ∧ ∃ m, w' = w.drewN m := by
  have hnI : (n : Int) ≤ 1048576 := by omega
  have hb : ((n : Int) != (n : Int)) = false := by simp
  go_enter Tryd.func25, Tryd.ntmps25
  go_wp2
  go_loopw [5] (fun i wr => ∃ k : Nat, k ≤ n ∧ i = .int .i64 k ∧ Aside (∃ m, wr = w.drewN m)) (fun i _ => n - (intOf i).toNat)
  case atStart => exact ⟨0, by omega, rfl, (show Aside _ from ⟨0, rfl⟩)⟩
  case round =>
    obtain ⟨k, hk, rfl, hrel⟩ := hrel
    obtain ⟨q, rfl⟩ := hrel.out
    clear hrel
    by_cases hlt : k < n
    · have hltI : (k : Int) < n := by omega
      obtain ⟨b1, o1, rfl, hb1, hc1⟩ := h1.place (by omega)
      obtain ⟨b2, o2, rfl, hb2, hc2⟩ := h2.place (by omega)
      obtain ⟨p, hp⟩ := h1.get hlt
      have a1 : w.cell? ⟨b1, o1 + k, none⟩ = some (.string p) := by have := hc1 k p hp 0 _ rfl; rwa [Nat.mul_one, Nat.add_zero] at this
      have d1 : w.cell? ⟨b2, o2 + k, none⟩ = some (.string p) := by have := hc2 k p hp 0 _ rfl; rwa [Nat.mul_one, Nat.add_zero] at this
      have s1 : (p.toList != p.toList) = false := by simp
      clear hc1 hc2 hp
      go_wp2
      go_quiet (fail)
      go_wp2
      go_roundw
      case rel => exact ⟨k + 1, by omega, by go_num, (show Aside _ from ⟨_, rfl⟩)⟩
      case measure => simp [intOf]; omega
    · have hltI : ¬ (k : Int) < n := by omega
      go_wp2
      go_ret
      exact ⟨rfl, _, rfl⟩
theorem mem_allO {num : Int} {ps : List (Int × List UInt8)} {M : Nat} (h : ∀ x ∈ ps, x.2.length ≤ M) : ∀ l ∈ allO num ps, l.length ≤ M := by
  intro l hl
  unfold allO at hl
  obtain ⟨x, hx, rfl⟩ := List.mem_map.1 hl
  exact h x ((List.mem_filter.1 hx).1)
set_option maxHeartbeats 4000000 in
theorem rsegs_f (A : Option Addr) (n c : Nat) (vs : List Sv) (ps : List (Int × List UInt8)) (w : World) (B : Nat) (hos : Os w B A n vs ps) (hB : B ≤ w.heap.size) (hn : n ≤ 1048576) :
    Calls Tryd.prog 27 #[.slice A n c] w (RetK stK 9 (strs (allO 11 ps)) w) := by
  obtain ⟨i0, hi0, hz0, hz1, hz2⟩ := info_parts info_st
  have hpl := hos.plen
  have hal := allO_len 11 ps
  have hall := fun W (hb : Below w.heap.size w W) => rall_f 11 A n c vs ps W B (hos.below' hb hB) (Nat.le_trans hB hb.size) hn
  obtain ⟨ls, hls⟩ : ∃ ls, allO 11 ps = ls := ⟨_, rfl⟩
  rw [hls] at hal ⊢
  simp only [hls] at hall
  have hlsn : ls.length ≤ 1048576 := by omega
  have hB0 := hB
  have HA := Lib.hid (And.intro hall hlsn)
  clear hall hal hls hpl hos hlsn
  go_enter Tryd.func27, Tryd.ntmps27
  go_wp2_with fail
  refine (HA.out.1 _ (alloc_below w _)).mono ?_
  rintro e w1 ⟨A1, n1, c1, X, rfl, hnX, hat1, hsl1, hb1⟩
  have hup1 := (alloc_below w (.cells #[] 9)).trans (hb1.mono (alloc_below w _).size)
  have hown0 : (w.alloc (.cells #[] 9)).ownsRow w.heap.size 9 1 (.slice (some ⟨w.heap.size, 0, none⟩) 0 0) 0 (stK.all []) := rk_empty w w.heap.size (Nat.le_refl _) _ _
  have hown1 := rk_below hown0 hb1
  have hnI : (n1 : Int) ≤ 1048576 := by have := hnX.out; have := hsl1.1; have := HA.out.2; omega
  have H1 := Lib.hid (And.intro hat1 (And.intro hsl1 (And.intro hnX.out (And.intro hup1 hown1))))
  clear hat1 hsl1 hnX hb1 hup1 hown0 hown1
  try dsimp only
  go_wp2
  go_loopw [3, 5] (fun v3 v5 wr => ∃ (k c' : Nat) (A' : Option Addr), k ≤ n1 ∧ v5 = .int .i64 (k : Int) ∧ v3 = .slice A' k c' ∧ Aside (wr.ownsRow w.heap.size 9 1 (.slice A' k c') k (stK.all (strs (ls.take k))) ∧ wr.ownsRow (w.alloc (.cells #[] 9)).heap.size 24 1 (.slice A1 n1 c1) n1 (slK.all X) ∧ Below w.heap.size w wr)) (fun _ v5 _ => n1 - (intOf v5).toNat)
  case atStart => exact ⟨0, _, _, Nat.zero_le _, rfl, rfl, (show Aside _ from ⟨H1.out.2.2.2.2, H1.out.1, H1.out.2.2.2.1⟩)⟩
  case round =>
    obtain ⟨k, c', A', hk, rfl, rfl, hrel⟩ := hrel
    obtain ⟨hown, hrow, hbw⟩ := hrel.out
    clear hrel
    by_cases hlt : k < n1
    · have hsr := own_at hrow
      obtain ⟨b, off, rfl, hbb, _⟩ := hsr.place (by omega)
      obtain ⟨s, hs⟩ := hsr.get hlt
      have hcell := hsr.range hs 0 _ rfl
      rw [Nat.mul_one, Nat.add_zero] at hcell
      obtain ⟨sA, sn, sc⟩ := s
      obtain ⟨l, hl⟩ : ∃ l, ls[k]? = some l := ⟨_, List.getElem?_eq_getElem (by rw [← H1.out.2.1.1, ← H1.out.2.2.1]; exact hlt)⟩
      have hbs := (H1.out.2.1.2 k _ l hs hl).keep (w' := wr) fun p hp => (hbw.cell (by omega)).trans ((alloc_below w (.cells #[] 9)).cell (by omega)).symm
      have hcv := run_string_bs (P := Tryd.prog) hbs 24 9 5 sc Tryd.underlying24 Tryd.underlying5 Tryd.underlying9
      obtain ⟨t, ht⟩ : ∃ t : ByteArray, ⟨l.toArray⟩ = t := ⟨_, rfl⟩
      rw [ht] at hcv
      dsimp only at hcv
      have hst := strs_take hl
      rw [ht] at hst
      have hltI : (k : Int) < n1 := by omega
      have HX := Lib.hid (And.intro hown (And.intro hrow (And.intro hbw (And.intro hst hbw.size))))
      clear hown hrow hbw hst hsr hbs hl hs ht
      go_wp2_with (at_builtin; go_loud (refine stK.append_one wr rfl (.tmp 15) (.tmp 21) 53 rfl w.heap.size 9 i0 _ 16 Tryd.underlying53 hi0 hz0 hz1 hz2 rfl (.slice A' k c') k _ rfl HX.out.1 t _ rfl _ rfl (by omega) (by unfold maxLen; omega) HX.out.2.2.2.2 ?_); intro A6 c6 w6 hown6 hgr6; have H6 := Lib.hid (And.intro hown6 hgr6); clear hown6 hgr6)
      go_roundw
      case rel => exact ⟨k + 1, c6, A6, by omega, by go_num, rfl, (show Aside _ from ⟨by rw [HX.out.2.2.2.1]; exact H6.out.1, own_apart (HX.out.2.1.alloc _) (HX.out.1.alloc _) H6.out.2 (by decide), rk_in' (HX.out.2.2.1.trans (Below.mono (alloc_below wr _) HX.out.2.2.2.2)) (HX.out.1.alloc _) H6.out.2 (by have := HX.out.2.2.2.2; rw [alloc_size]; omega)⟩)⟩
      case measure => simp [intOf]; omega
    · obtain rfl : k = n1 := by omega
      have hltI : ¬ (k : Int) < k := by omega
      have htk : ls.take k = ls := List.take_of_length_le (by rw [← H1.out.2.1.1, ← H1.out.2.2.1]; exact Nat.le_refl _)
      rw [htk] at hown
      have HX := Lib.hid (And.intro hown hbw)
      clear hown hrow hbw htk hlt
      go_wp2
      go_ret
      exact RetK.of HX.out.1 HX.out.2
theorem NumsFew.ends {ls : List (List UInt8)} {w w' : World} {e : Ending} (h : NumsFew ls w e w') : ∃ A n c er, e = .returned (.tuple #[.slice A n c, .int .i64 er]) := by
  unfold NumsFew at h
  split at h
  · exact ⟨_, _, _, _, h.1⟩
  · obtain ⟨A, n, c, er, rfl, _⟩ := h.shape
    exact ⟨_, _, _, _, rfl⟩
theorem rof_f (A : Option Addr) (n c : Nat) (vs : List Sv) (ps : List (Int × List UInt8)) (w : World) (B : Nat) (hos : Os w B A n vs ps) (hB : B ≤ w.heap.size) (hn : n ≤ 1048576) (hmx : ∀ x ∈ ps, x.2.length ≤ 1000000) :
    Calls Tryd.prog 22 #[.slice A n c] w fun e w' => ∃ W, NumsFew (allO 11 ps) W e w' ∧ Below w.heap.size w W := by
  have hseg := rsegs_f A n c vs ps w B hos hB hn
  have hal := allO_len 11 ps
  have hpl := hos.plen
  have hm := mem_allO (num := 11) hmx
  have HA := Lib.hid (And.intro hseg (And.intro hal (And.intro hpl hm)))
  clear hseg hal hpl hm hos hmx
  go_enter Tryd.func22, Tryd.ntmps22
  go_wp2_with fail
  refine HA.out.1.mono ?_
  rintro e w1 ⟨A1, n1, c1, rfl, hnc1, hn1, hown1, hb1⟩
  have hat := own_at hown1
  have hn2 : n1 ≤ 1048576 := by
    have := hn1.out
    unfold strs at this
    rw [List.length_map] at this
    have := HA.out.2.1
    have := HA.out.2.2.1
    omega
  have hsz : ∀ s ∈ strs (allO 11 ps), s.size ≤ 1000000 := fun s hs => by
    have h1 : s.data.toList ∈ txs (strs (allO 11 ps)) := List.mem_map_of_mem hs
    rw [txs_strs] at h1
    have := HA.out.2.2.2 _ h1
    rw [size_list] at this
    exact this
  have hc := rnumbers_f A1 n1 c1 (strs (allO 11 ps)) w1 _ hat (Nat.le_refl _) hn2 hsz
  rw [txs_strs] at hc
  have H1 := Lib.hid (And.intro hc hb1)
  clear hc hb1 hat hn2 hsz hnc1 hn1 hown1
  try dsimp only
  go_wp2_with fail
  refine H1.out.1.mono ?_
  rintro e w2 h2
  rcases NumsFew.ends h2 with ⟨A2, n2, c2, er, rfl⟩
  have H2 := Lib.hid h2
  clear h2
  try dsimp only
  go_wp2
  go_ret2
  exact ⟨_, H2.out, H1.out.2⟩
end Go.Proofs.YtbclgalocipmfaaDoor
