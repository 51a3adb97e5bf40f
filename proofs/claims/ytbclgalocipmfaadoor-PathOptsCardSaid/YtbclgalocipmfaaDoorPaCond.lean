/-
  bytes.Cut at one sign; rows of texts and of pairs.
-/
/-
  Rows of texts, of pairs and of numbers; a message's texts and pairs.
-/
/-
  Numbers of texts; a message's pairs.
-/
/-
  The options of texts and of pairs.
-/
/-
  What a message's pairs tell of notifications.
-/
import Derived.Test.YtbclgalocipmfaaDoorPaTell
import Derived.Test.YtbclgalocipmfaaDoorOptAll
import Derived.Test.YtbclgalocipmfaaDoorRowK
import Derived.Test.YtbclgalocipmfaaDoorShelfN
import Derived.Deep.QuietTactic
import Derived.BigQuiet
import Derived.Lib.SlBytesConst
import Derived.Test.YtbclgalocipmfaaDoorPlRead
import Derived.Test.YtbclgalocipmfaaDoorRel2
import Derived.StillTailTactics
import Derived.Laws.StructEq
namespace Go.Proofs.YtbclgalocipmfaaDoor
open Go.RowKit
set_option maxRecDepth 100000
set_option maxRecDepth 100000
set_option linter.unusedVariables false
theorem idx_spec' (c : UInt8) : ∀ l : List UInt8, (Lib.indexByte l c = -1 ∧ ∀ (j : Nat) u, l[j]? = some u → u ≠ c) ∨ ∃ k : Nat, Lib.indexByte l c = k ∧ l[k]? = some c ∧ ∀ (j : Nat) u, j < k → l[j]? = some u → u ≠ c
  | [] => .inl ⟨rfl, fun j u h => by simp at h⟩
  | x :: l => by
    unfold Lib.indexByte
    by_cases hx : (x == c) = true
    · right
      obtain rfl := beq_iff_eq.1 hx
      rw [if_pos hx]
      exact ⟨0, rfl, rfl, fun j u h => absurd h (by omega)⟩
    · have hxn : x ≠ c := fun e => hx (beq_iff_eq.2 e)
      rw [if_neg hx]
      rcases idx_spec' c l with ⟨h, hn⟩ | ⟨k, h, hk, hn⟩
      · left
        rw [h]
        refine ⟨rfl, fun j u hj => ?_⟩
        cases j with
        | zero => rw [List.getElem?_cons_zero] at hj; obtain rfl := Option.some.inj hj; exact hxn
        | succ j => rw [List.getElem?_cons_succ] at hj; exact hn j u hj
      · right
        refine ⟨k + 1, ?_, by rw [List.getElem?_cons_succ]; exact hk, fun j u hl hj => ?_⟩
        · rw [h, if_neg (by first | (simp; done) | (simp; omega))]; omega
        · cases j with
          | zero => rw [List.getElem?_cons_zero] at hj; obtain rfl := Option.some.inj hj; exact hxn
          | succ j => rw [List.getElem?_cons_succ] at hj; exact hn j u (by omega) hj
theorem bytesOf_U8 (l : List UInt8) : Lib.bytesOf (l.map fun u => (u.toNat : Int)) = l := by
  unfold Lib.bytesOf
  rw [List.map_map]
  conv => rhs; rw [← List.map_id l]
  apply List.map_congr_left
  intro u _
  show ((u.toNat : Int).toNat.toUInt8) = u
  simp
theorem byteidx_f (c : UInt8) (u : Value) (n : Nat) (l : List UInt8) (w : World) (base : Nat) (h : w.ownsRow base 5 1 u n (U8 l)) :
    Calls Tryd.prog 112 #[u, .int .u8 (c.toNat : Int)] w fun e w' => e = .returned (.int .i64 (Lib.indexByte l c)) ∧ w' = w := by
  have hl : l.length = n := by have := h.1; rw [U8_length] at this; omega
  have h' := h
  rcases h.2 with ⟨rfl, hn⟩ | ⟨g, cap, cur, rfl, hbg, hg, hnc, hcm, hcs, htake⟩
  · obtain rfl : l = [] := List.eq_nil_of_length_eq_zero (by omega)
    exact Tryd.bytes_IndexByte_nil _ w
  · have hx := Tryd.bytes_IndexByte g 0 n cap (l.map fun u => (u.toNat : Int)) (c.toNat : Int) w (by rw [List.length_map, hl]) (fun i hi => by
      obtain ⟨u, hu⟩ := byte_get (l := l) (k := i) (by omega)
      rw [Nat.zero_add, h'.cellAt i (by omega), U8_get, hu, List.getD_eq_getElem?_getD, List.getElem?_map, hu]
      rfl)
    rw [bytesOf_U8, show (c.toNat : Int).toNat.toUInt8 = c by simp] at hx
    exact hx
set_option maxHeartbeats 2000000 in
theorem bindex_f (c : UInt8) (u : Value) (n : Nat) (l : List UInt8) (w : World) (base b2 cp : Nat) (h : w.ownsRow base 5 1 u n (U8 l)) (hc : w.cell? ⟨b2, 0, none⟩ = some (.int .u8 (c.toNat : Int))) :
    Calls Tryd.prog 84 #[u, .slice (some ⟨b2, 0, none⟩) 1 cp] w fun e w' => e = .returned (.int .i64 (Lib.indexByte l c)) ∧ w' = w := by
  have hI := byteidx_f c u n l w base h
  obtain ⟨cn, hcn⟩ : ∃ cn, (c.toNat : Int) = cn := ⟨_, rfl⟩
  rw [hcn] at hI hc
  obtain ⟨R, hR⟩ : ∃ R, Lib.indexByte l c = R := ⟨_, rfl⟩
  rw [hR] at hI ⊢
  obtain ⟨A, cc, rfl, _⟩ := own_slice (l := l) h
  have HI := Lib.hid hI
  clear hI h hR hcn
  go_enter Tryd.func84, Tryd.ntmps84
  go_wp2_with fail
  refine HI.out.mono ?_
  rintro e w1 ⟨rfl, hw⟩
  obtain rfl := hw.symm
  go_wp2
  go_ret
  exact ⟨rfl, rfl⟩
/-- What is cut: what stands ahead of a sign and behind it, in the memory of the whole. -/
def BCut (l : List UInt8) (c : UInt8) (w : World) (e : Ending) (w' : World) : Prop :=
  ∃ A1 n1 c1 A2 n2 c2, e = .returned (.tuple #[.slice A1 n1 c1, .slice A2 n2 c2, .bool (decide (¬ Lib.indexByte l c = -1))]) ∧ Bs w' w'.heap.size A1 n1 (cutA l c) ∧ Bs w' w'.heap.size A2 n2 (cutB l c) ∧ ∃ m, w' = w.drewN m
set_option maxHeartbeats 2000000 in
theorem bcut_f (c : UInt8) (A : Option Addr) (n cp : Nat) (l : List UInt8) (w : World) (base b2 cp2 : Nat) (h : w.ownsRow base 5 1 (.slice A n cp) n (U8 l)) (hc : w.cell? ⟨b2, 0, none⟩ = some (.int .u8 (c.toNat : Int))) (hnm : n ≤ 1000000) :
    Calls Tryd.prog 59 #[.slice A n cp, .slice (some ⟨b2, 0, none⟩) 1 cp2] w (BCut l c w) := by
  have hI := bindex_f c _ n l w base b2 cp2 h hc
  obtain ⟨A', cc, e1, hcap, hbs⟩ := Bs.of_own (l := l) h
  injection e1 with e2 e3 e4
  subst e2 e4
  have hl := hbs.len
  rcases idx_spec' c l with ⟨hi, _⟩ | ⟨k, hi, hk, _⟩
  · have hA : cutA l c = l := by unfold cutA; rw [if_pos hi]
    have hB : cutB l c = [] := by unfold cutB; rw [if_pos hi]
    have hD : decide (¬ Lib.indexByte l c = -1) = false := by rw [hi]; rfl
    rw [hi] at hI
    have HH := Lib.hid (And.intro hI (And.intro hbs (And.intro hA (And.intro hB hD))))
    clear hI hbs h hc hi hl hA hB hD
    go_enter Tryd.func59, Tryd.ntmps59
    go_wp2_with fail
    refine HH.out.1.mono ?_
    rintro e w1 ⟨rfl, hw⟩
    obtain rfl := hw.symm
    go_wp2
    go_ret3
    exact ⟨A, n, cp, none, 0, 0, by rw [HH.out.2.2.2.2]; rfl, by rw [HH.out.2.2.1]; exact HH.out.2.1, by rw [HH.out.2.2.2.1]; exact Bs.empty _ _ _, 0, rfl⟩
  · have hkn : k < n := by rw [← hl]; exact (List.getElem?_eq_some_iff.1 hk).1
    have hA : cutA l c = l.take k := by unfold cutA; rw [hi, if_neg (by omega), Int.toNat_natCast]
    have hB : cutB l c = l.drop (k + 1) := by unfold cutB; rw [hi, if_neg (by omega), Int.toNat_natCast]
    have hD : decide (¬ Lib.indexByte l c = -1) = true := decide_eq_true (by rw [hi]; omega)
    rw [hi] at hI
    obtain ⟨b, off, rfl, hb, hcell⟩ := hbs.place (by omega)
    have hkI : (k : Int) < n := by omega
    have hcI : (n : Int) ≤ cp := by omega
    have hnI : (n : Int) ≤ 1000000 := by omega
    obtain ⟨N, hN⟩ : ∃ N, k + 1 = N := ⟨_, rfl⟩
    have h1 : IntKind.i64.wrap ((k : Int) + 1) = (N : Int) := by rw [IntWalk.i64_in _ (by omega)]; omega
    have h4 : (k : Int) + 1 = (N : Int) := by omega
    have h5 : (0 : Int) ≤ (k : Int) := by omega
    have hNn : (N : Int) ≤ n := by omega
    rw [hN] at hB
    have HN := Lib.hid hN
    clear hN
    have HH := Lib.hid (And.intro hI (And.intro hbs (And.intro hl (And.intro hA (And.intro hB hD)))))
    clear hI hbs h hc hi hl hk hcell hb hA hB hD
    have e1 : Bs w w.heap.size (some ⟨b, off, none⟩) k (l.take k) := HH.out.2.1.take_ k (by omega)
    have ht : l.take n = l := List.take_of_length_le (by rw [HH.out.2.2.1]; exact Nat.le_refl _)
    by_cases hcp : cp = N
    · have e2 := HH.out.2.1.cut (lo := N) (hi := n) (c := cp) (A' := some ⟨b, off, none⟩) (by omega) (Nat.le_refl _) hcap (by rw [if_pos hcp])
      rw [ht] at e2
      have E := Lib.hid (And.intro e1 e2)
      clear e1 e2 ht
      obtain rfl : n = N := by omega
      subst hcp
      clear hNn hcap hkn hcI
      go_enter Tryd.func59, Tryd.ntmps59
      go_wp2_with fail
      refine HH.out.1.mono ?_
      rintro e w1 ⟨rfl, hw⟩
      obtain rfl := hw.symm
      go_wp2
      go_quiet (fail)
      go_wp2
      go_ret3
      exact ⟨_, _, _, _, _, _, by rw [HH.out.2.2.2.2.2]; rfl, by rw [HH.out.2.2.2.1]; exact (E.out.1.drewN _).lt, by rw [HH.out.2.2.2.2.1]; have q := (E.out.2.drewN nq).lt; first | exact q | (rw [Nat.sub_self] at q; exact q), _, rfl⟩
    · have e2 := HH.out.2.1.cut (lo := N) (hi := n) (c := cp) (A' := some ⟨b, off + N, none⟩) (by omega) (Nat.le_refl _) hcap (by rw [if_neg hcp]; exact (congrArg some (rk_add b off N)).symm)
      rw [ht] at e2
      have E := Lib.hid (And.intro e1 e2)
      clear e1 e2 ht
      go_enter Tryd.func59, Tryd.ntmps59
      go_wp2_with fail
      refine HH.out.1.mono ?_
      rintro e w1 ⟨rfl, hw⟩
      obtain rfl := hw.symm
      go_wp2
      go_quiet (fail)
      go_wp2
      go_ret3
      exact ⟨_, _, _, _, _, _, by rw [HH.out.2.2.2.2.2]; rfl, by rw [HH.out.2.2.2.1]; exact (E.out.1.drewN _).lt, by rw [HH.out.2.2.2.2.1]; have q := (E.out.2.drewN nq).lt; first | exact q | (rw [Nat.sub_self] at q; exact q), _, rfl⟩
def stK : RowK ByteArray 1 where
  vals s := [.string s]
  len _ := rfl
  one s u hu := by simp only [List.mem_cons, List.not_mem_nil, or_false] at hu; subst hu; rfl
  pos := by decide
structure Pr where
  nm : ByteArray
  vl : ByteArray
  bare : Bool
def prK : RowK Pr 3 where
  vals p := [.string p.nm, .string p.vl, .bool p.bare]
  len _ := rfl
  one s u hu := by simp only [List.mem_cons, List.not_mem_nil, or_false] at hu; rcases hu with rfl | rfl | rfl <;> rfl
  pos := by decide
def inK : RowK Int 1 where
  vals z := [.int .i64 z]
  len _ := rfl
  one s u hu := by simp only [List.mem_cons, List.not_mem_nil, or_false] at hu; subst hu; rfl
  pos := by decide
theorem info_st : (Tryd.prog.info? 9).map (fun i => (i.zero, i.size, i.bytes)) = some (some (.string ⟨#[]⟩), 1, 16) := by kernel_rfl
theorem info_pr : (Tryd.prog.info? 60).map (fun i => (i.zero, i.size, i.bytes)) = some (some (.agg #[.string ⟨#[]⟩, .string ⟨#[]⟩, .bool false]), 3, 40) := by kernel_rfl
theorem info_in : (Tryd.prog.info? 3).map (fun i => (i.zero, i.size, i.bytes)) = some (some (.int .i64 0), 1, 8) := by kernel_rfl
/-- A row of the call's own returned. -/
def RetK {α : Type} {z : Nat} (K : RowK α z) (ty : TypeId) (X : List α) (w : World) (e : Ending) (w' : World) : Prop :=
  ∃ A n c, e = .returned (.slice A n c) ∧ n ≤ c ∧ Hid (n = X.length) ∧ w'.ownsRow w.heap.size ty z (.slice A n c) n (K.all X) ∧ Below w.heap.size w w'
theorem RetK.of {α : Type} {z : Nat} {K : RowK α z} {ty : TypeId} {X : List α} {w w' : World} {A : Option Addr} {n c : Nat} (h : w'.ownsRow w.heap.size ty z (.slice A n c) n (K.all X)) (hb : Below w.heap.size w w') : RetK K ty X w (.returned (.slice A n c)) w' := by
  obtain ⟨A', c', e, hc, _⟩ := RowK.At.of_own h
  injection e with e1 e2 e3
  subst e1 e3
  exact ⟨A, n, c, rfl, hc, (RowK.own_len h).symm, h, hb⟩
def strs (ls : List (List UInt8)) : List ByteArray := ls.map fun l => ⟨l.toArray⟩
theorem strs_take {ls : List (List UInt8)} {k : Nat} {l : List UInt8} (h : ls[k]? = some l) : strs (ls.take (k + 1)) = strs (ls.take k) ++ [⟨l.toArray⟩] := by
  unfold strs
  rw [List.take_add_one, h, List.map_append]; rfl
theorem allO_len (num : Int) (ps : List (Int × List UInt8)) : (allO num ps).length ≤ ps.length := by
  unfold allO
  rw [List.length_map]
  exact List.length_filter_le _ _
theorem allO_max {num : Int} {ps : List (Int × List UInt8)} {m : Nat} (h : ∀ x ∈ ps, x.2.length ≤ m) : ∀ l ∈ allO num ps, l.length ≤ m := by
  intro l hl
  unfold allO at hl
  obtain ⟨x, hx, rfl⟩ := List.mem_map.1 hl
  exact h x (List.mem_filter.1 hx).1
set_option maxHeartbeats 4000000 in
theorem segs_f (A : Option Addr) (n c : Nat) (vs : List Sv) (ps : List (Int × List UInt8)) (w : World) (B : Nat) (hos : Os w B A n vs ps) (hB : B ≤ w.heap.size) (hn : n ≤ 1048576) (hmx : ∀ x ∈ ps, x.2.length ≤ 1000000) :
    Calls Tryd.prog 26 #[.slice A n c] w (RetK stK 9 (strs (allO 11 ps)) w) := by
  obtain ⟨i0, hi0, hz0, hz1, hz2⟩ := info_parts info_st
  have hall := all_r 11 A n c vs ps w B hos hB hn (fun x hx => Nat.le_trans (hmx x hx) (by decide))
  have hpl := hos.plen
  have hal := allO_len 11 ps
  have ham := allO_max (num := 11) hmx
  obtain ⟨ls, hls⟩ : ∃ ls, allO 11 ps = ls := ⟨_, rfl⟩
  rw [hls] at hall hal ham ⊢
  have hlsn : ls.length ≤ 1048576 := by omega
  have HA := Lib.hid (And.intro hall (And.intro ham hlsn))
  clear hall ham hal hls hpl hos hmx hlsn
  go_enter Tryd.func26, Tryd.ntmps26
  go_wp2_with fail
  refine HA.out.1.mono ?_
  rintro e w1 ⟨A1, n1, c1, us, rfl, hnc1, hn1, hpc, hb1, hus, hown1, hrb⟩
  have hnI : (n1 : Int) ≤ 1048576 := by have := hn1.out; have := HA.out.2.2; omega
  have H1 := Lib.hid (And.intro hpc (And.intro hb1 (And.intro hn1.out hb1.size)))
  clear hnc1 hn1 hpc hb1 hus hown1 hrb
  try dsimp only
  go_wp2
  go_loopw [3, 9] (fun v3 v9 wr => ∃ (k c' : Nat) (A' : Option Addr), k ≤ n1 ∧ v9 = .int .i64 (k : Int) ∧ v3 = .slice A' k c' ∧ Aside (wr.ownsRow w1.heap.size 9 1 (.slice A' k c') k (stK.all (strs (ls.take k))) ∧ Below w1.heap.size w1 wr)) (fun _ v9 _ => n1 - (intOf v9).toNat)
  case atStart => exact ⟨0, 0, none, Nat.zero_le _, rfl, rfl, (show Aside _ from ⟨World.ownsRow_nil _ _ _ _, Below.refl _ _⟩)⟩
  case round =>
    obtain ⟨k, c', A', hk, rfl, rfl, hrel⟩ := hrel
    obtain ⟨hown, hbel⟩ := hrel.out
    clear hrel
    by_cases hlt : k < n1
    · have hpc := H1.out.1.below' hbel (Nat.le_refl _)
      obtain ⟨b, off, rfl, hbb, hcell⟩ := hpc.place (by omega)
      obtain ⟨l, hl⟩ : ∃ l, ls[k]? = some l := ⟨_, List.getElem?_eq_getElem (by rw [← H1.out.2.2.1]; exact hlt)⟩
      obtain ⟨B3, m3, c3, hc3, hmc3, hbs3⟩ := hcell k l hl
      have hcv := run_string_bs (P := Tryd.prog) hbs3 24 9 5 c3 Tryd.underlying24 Tryd.underlying5 Tryd.underlying9
      obtain ⟨t, ht⟩ : ∃ t : ByteArray, ⟨l.toArray⟩ = t := ⟨_, rfl⟩
      rw [ht] at hcv
      have hst := strs_take hl
      rw [ht] at hst
      have hltI : (k : Int) < n1 := by omega
      have hsz := hbel.size
      have HX := Lib.hid (And.intro hown (And.intro hbel (And.intro hst hsz)))
      clear hpc hcell hown hbel hst hsz hbs3 hl hmc3 ht
      go_wp2_with (at_builtin; go_loud (refine stK.append_one wr rfl (.tmp 13) (.tmp 16) 53 rfl w1.heap.size 9 i0 _ 16 Tryd.underlying53 hi0 hz0 hz1 hz2 rfl (.slice A' k c') k _ rfl HX.out.1 t _ rfl _ rfl (by omega) (by unfold maxLen; omega) HX.out.2.2.2 ?_); intro A6 c6 w6 hown6 hgr6; have H6 := Lib.hid (And.intro hown6 hgr6); clear hown6 hgr6)
      go_roundw
      case rel => exact ⟨k + 1, c6, A6, by omega, by go_num, rfl, (show Aside _ from ⟨by rw [HX.out.2.2.1]; exact H6.out.1, rk_in' (HX.out.2.1.trans (Below.mono (alloc_below wr _) HX.out.2.2.2)) (HX.out.1.alloc _) H6.out.2 (by have := HX.out.2.2.2; rw [alloc_size]; omega)⟩)⟩
      case measure => simp [intOf]; omega
    · obtain rfl : k = n1 := by omega
      have hltI : ¬ (k : Int) < k := by omega
      have htk : ls.take k = ls := List.take_of_length_le (by rw [H1.out.2.2.1]; exact Nat.le_refl _)
      rw [htk] at hown
      have HX := Lib.hid (And.intro hown hbel)
      clear hown hbel htk hlt
      go_wp2
      go_ret
      exact RetK.of (rk_mono HX.out.1 H1.out.2.2.2) (H1.out.2.1.trans (HX.out.2.mono H1.out.2.2.2))
/-- The numbers of texts. -/
def numsQ : List (List UInt8) → Option (List Int)
  | [] => some []
  | x :: r => match numM 65535 x with | none => none | some v => match numsQ r with | none => none | some zs => some ((v : Int) :: zs)
def andQ (zs : List Int) (o : Option (List Int)) : Option (List Int) := match o with | none => none | some r => some (zs ++ r)
theorem numsQ_none {x : List UInt8} {r : List (List UInt8)} (h : numM 65535 x = none) : numsQ (x :: r) = none := by unfold numsQ; rw [h]
theorem andQ_step {x : List UInt8} {r : List (List UInt8)} {v : Nat} (zs : List Int) (h : numM 65535 x = some v) : andQ zs (numsQ (x :: r)) = andQ (zs ++ [(v : Int)]) (numsQ r) := by
  rw [show numsQ (x :: r) = (match numsQ r with | none => none | some zs => some ((v : Int) :: zs)) by rw [numsQ, h]]
  cases numsQ r with
  | none => rfl
  | some q => show some _ = some _; rw [List.append_assoc]; rfl
def NumsRet (o : Option (List Int)) (w : World) (e : Ending) (w' : World) : Prop :=
  match o with
  | none => e = .returned (.tuple #[.slice none 0 0, .int .i64 20]) ∧ Below w.heap.size w w'
  | some zs => ∃ A n c, e = .returned (.tuple #[.slice A n c, .int .i64 0]) ∧ n ≤ c ∧ Hid (n = zs.length) ∧ w'.ownsRow w.heap.size 3 1 (.slice A n c) n (inK.all zs) ∧ Below w.heap.size w w'
theorem NumsRet.of {zs : List Int} {w w' : World} {A : Option Addr} {n c : Nat} (h : w'.ownsRow w.heap.size 3 1 (.slice A n c) n (inK.all zs)) (hb : Below w.heap.size w w') : NumsRet (some zs) w (.returned (.tuple #[.slice A n c, .int .i64 0])) w' := by
  obtain ⟨A', c', e, hc, _⟩ := RowK.At.of_own h
  injection e with e1 e2 e3
  subst e1 e3
  exact ⟨A, n, c, rfl, hc, (RowK.own_len h).symm, h, hb⟩
def txs (ss : List ByteArray) : List (List UInt8) := ss.map fun s => s.data.toList
set_option maxHeartbeats 4000000 in
theorem pnumbers_f (A : Option Addr) (n c : Nat) (ss : List ByteArray) (w : World) (B : Nat) (hst : stK.At w B A n ss) (hB : B ≤ w.heap.size) (hn : n ≤ 1048576) (hmx : ∀ s ∈ ss, s.size ≤ 1000000) (hE : TabE w) :
    Calls Tryd.prog 47 #[.slice A n c] w (NumsRet (numsQ (txs ss)) w) := by
  obtain ⟨i0, hi0, hz0, hz1, hz2⟩ := info_parts info_in
  obtain ⟨R, hR⟩ : ∃ R, numsQ (txs ss) = R := ⟨_, rfl⟩
  rw [hR]
  have hR0 : andQ [] (numsQ (txs (ss.drop 0))) = R := by
    rw [List.drop_zero, hR]; cases R <;> rfl
  have hN := fun (s : ByteArray) (hs : s.size ≤ 1000000) W (h : Below w.heap.size w W) => pnumber_f s hs 65535 (by decide) W (hE.below h hE.size)
  have HA := Lib.hid (And.intro hst (And.intro hmx (And.intro hN (And.intro hR0 hst.len))))
  have hnI : (n : Int) ≤ 1048576 := by omega
  clear hst hmx hN hE hR hR0
  go_enter Tryd.func47, Tryd.ntmps47
  go_wp2
  go_loopw [4, 11] (fun v4 v11 wr => ∃ (k c' : Nat) (A' : Option Addr), k ≤ n ∧ v11 = .int .i64 (k : Int) ∧ v4 = .slice A' k c' ∧ Aside (∃ zs, andQ zs (numsQ (txs (ss.drop k))) = R ∧ wr.ownsRow w.heap.size 3 1 (.slice A' k c') k (inK.all zs) ∧ Below w.heap.size w wr)) (fun _ v11 _ => n - (intOf v11).toNat)
  case atStart => exact ⟨0, 0, none, Nat.zero_le _, rfl, rfl, (show Aside _ from ⟨[], HA.out.2.2.2.1, World.ownsRow_nil _ _ _ _, Below.refl _ _⟩)⟩
  case round =>
    obtain ⟨k, c', A', hk, rfl, rfl, hrel⟩ := hrel
    obtain ⟨zs, hzs, hown, hbel⟩ := hrel.out
    clear hrel
    by_cases hlt : k < n
    · have hsr := HA.out.1.below' hbel hB
      obtain ⟨b, off, rfl, hbb, _⟩ := hsr.place (by omega)
      obtain ⟨s, hs⟩ := hsr.get hlt
      have hcell := hsr.range hs 0 _ rfl
      rw [Nat.mul_one, Nat.add_zero] at hcell
      have hsz := HA.out.2.1 s (List.mem_of_getElem? hs)
      have hcall := HA.out.2.2.1 s hsz wr hbel
      have hdr : txs (ss.drop k) = s.data.toList :: txs (ss.drop (k + 1)) := by
        obtain ⟨hkl, e⟩ := List.getElem?_eq_some_iff.1 hs
        rw [List.drop_eq_getElem_cons hkl, e]; rfl
      rw [hdr] at hzs
      have hltI : (k : Int) < n := by omega
      have HX := Lib.hid (And.intro hown (And.intro hbel hbel.size))
      rcases hq : numM 65535 s.data.toList with _ | v
      · rw [hq] at hcall
        rw [numsQ_none hq] at hzs
        replace hzs : none = R := hzs
        subst hzs
        have HC := Lib.hid hcall
        clear hcall hsz hdr hs hsr hown hbel hq
        go_wp2_with fail
        refine HC.out.mono ?_
        rintro e w2 ⟨rfl, b2⟩
        have H2 := Lib.hid b2
        clear b2
        unfold numN
        try dsimp only
        go_wp2
        go_ret2
        exact ⟨rfl, HX.out.2.1.trans (H2.out.mono HX.out.2.2)⟩
      · rw [hq] at hcall
        rw [andQ_step zs hq] at hzs
        have HC := Lib.hid (And.intro hcall hzs)
        clear hcall hsz hdr hs hsr hown hbel hq hzs
        go_wp2_with fail
        refine HC.out.1.mono ?_
        rintro e w2 ⟨rfl, b2⟩
        have hsz2 : w.heap.size ≤ w2.heap.size := Nat.le_trans HX.out.2.2 b2.size
        have H2 := Lib.hid (And.intro (rk_below HX.out.1 b2) (And.intro (HX.out.2.1.trans (b2.mono HX.out.2.2)) hsz2))
        clear b2 hsz2
        unfold numN
        try dsimp only
        go_wp2_with (at_builtin; go_loud (refine inK.append_one w2 rfl (.tmp 22) (.tmp 24) 23 rfl w.heap.size 3 i0 _ 8 Tryd.underlying23 hi0 hz0 hz1 hz2 rfl (.slice A' k c') k _ rfl H2.out.1 (v : Int) _ rfl _ rfl (by omega) (by unfold maxLen; omega) H2.out.2.2 ?_); intro A6 c6 w6 hown6 hgr6; have H6 := Lib.hid (And.intro hown6 hgr6); clear hown6 hgr6)
        go_roundw
        case rel => exact ⟨k + 1, c6, A6, by omega, by go_num, rfl, (show Aside _ from ⟨zs ++ [(v : Int)], HC.out.2, H6.out.1, rk_in' (H2.out.2.1.trans (Below.mono (alloc_below w2 _) H2.out.2.2)) (H2.out.1.alloc _) H6.out.2 (by have := H2.out.2.2; rw [alloc_size]; omega)⟩)⟩
        case measure => simp [intOf]; omega
    · obtain rfl : k = n := by omega
      have hltI : ¬ (k : Int) < k := by omega
      rw [List.drop_of_length_le (by rw [HA.out.2.2.2.2]; exact Nat.le_refl _)] at hzs
      replace hzs : some (zs ++ []) = R := hzs
      rw [List.append_nil] at hzs
      subst hzs
      have HX := Lib.hid (And.intro hown hbel)
      clear hown hbel hlt
      go_wp2
      go_ret2
      exact NumsRet.of HX.out.1 HX.out.2
theorem conv_eq (w : World) : (convert 24 24 (.slice (some ⟨w.heap.size, 0, none⟩) 1 1)).run Tryd.prog (w.alloc (.cells #[.int .u8 61] 5)) = .ok (.slice (some ⟨w.heap.size, 0, none⟩) 1 1) (w.alloc (.cells #[.int .u8 61] 5 (1, 2))) :=
  Lib.run_convert_bytes_const (P := Tryd.prog) w 24 5 #[.int .u8 61] 1 1 Tryd.underlying24 Tryd.underlying5
/-- The pair of an option's bytes. -/
def pairQ (l : List UInt8) : Pr := ⟨⟨(cutA l 61).toArray⟩, ⟨(cutB l 61).toArray⟩, !decide (¬ Lib.indexByte l 61 = -1)⟩
theorem pairs_take {ls : List (List UInt8)} {k : Nat} {l : List UInt8} (h : ls[k]? = some l) : (ls.take (k + 1)).map pairQ = (ls.take k).map pairQ ++ [pairQ l] := by
  rw [List.take_add_one, h, List.map_append]; rfl
set_option maxHeartbeats 4000000 in
theorem query_f (A : Option Addr) (n c : Nat) (vs : List Sv) (ps : List (Int × List UInt8)) (w : World) (B : Nat) (hos : Os w B A n vs ps) (hB : B ≤ w.heap.size) (hn : n ≤ 1048576) (hmx : ∀ x ∈ ps, x.2.length ≤ 1000000) :
    Calls Tryd.prog 29 #[.slice A n c] w (RetK prK 60 ((allO 15 ps).map pairQ) w) := by
  obtain ⟨i0, hi0, hz0, hz1, hz2⟩ := info_parts info_pr
  have hall := all_r 15 A n c vs ps w B hos hB hn (fun x hx => Nat.le_trans (hmx x hx) (by decide))
  have hpl := hos.plen
  have hal := allO_len 15 ps
  have ham := allO_max (num := 15) hmx
  obtain ⟨ls, hls⟩ : ∃ ls, allO 15 ps = ls := ⟨_, rfl⟩
  rw [hls] at hall hal ham ⊢
  have hlsn : ls.length ≤ 1048576 := by omega
  have HA := Lib.hid (And.intro hall (And.intro ham hlsn))
  clear hall ham hal hls hpl hos hmx hlsn
  have hcs := conv_eq
  go_enter Tryd.func29, Tryd.ntmps29
  go_wp2_with fail
  refine HA.out.1.mono ?_
  rintro e w1 ⟨A1, n1, c1, us, rfl, hnc1, hn1, hpc, hb1, hus, hown1, hrb⟩
  have hnI : (n1 : Int) ≤ 1048576 := by have := hn1.out; have := HA.out.2.2; omega
  have H1 := Lib.hid (And.intro hown1 (And.intro hb1 (And.intro hn1.out (And.intro hb1.size (And.intro hus hrb)))))
  clear hnc1 hn1 hpc hb1 hus hown1 hrb
  try dsimp only
  go_wp2
  go_loopw [3, 12] (fun v3 v9 wr => ∃ (k c' : Nat) (A' : Option Addr), k ≤ n1 ∧ v9 = .int .i64 (k : Int) ∧ v3 = .slice A' k c' ∧ Aside (wr.ownsRow w1.heap.size 60 3 (.slice A' k c') k (prK.all ((ls.take k).map pairQ)) ∧ Below w1.heap.size w1 wr)) (fun _ v9 _ => n1 - (intOf v9).toNat)
  case atStart => exact ⟨0, 0, none, Nat.zero_le _, rfl, rfl, (show Aside _ from ⟨World.ownsRow_nil _ _ _ _, Below.refl _ _⟩)⟩
  case round =>
    obtain ⟨k, c', A', hk, rfl, rfl, hrel⟩ := hrel
    obtain ⟨hown, hbel⟩ := hrel.out
    clear hrel
    by_cases hlt : k < n1
    · have hrow := rk_below H1.out.1 hbel
      rcases hrow.2 with ⟨e0, h0⟩ | ⟨g, cap, cur, e0, _⟩
      · omega
      injection e0 with e1 _ e3
      subst e1 e3
      obtain ⟨l, hl⟩ : ∃ l, ls[k]? = some l := ⟨_, List.getElem?_eq_getElem (by rw [← H1.out.2.2.1]; exact hlt)⟩
      obtain ⟨u, hu⟩ : ∃ u, us[k]? = some u := ⟨_, List.getElem?_eq_getElem (by rw [H1.out.2.2.2.2.1]; exact hlt)⟩
      have hcell := hrow.cellAt k (by omega)
      rw [hu] at hcell
      have hrk := rk_below (H1.out.2.2.2.2.2.2 k u l hu hl) hbel
      have hll := HA.out.2.1 l (List.mem_of_getElem? hl)
      obtain ⟨B3, c3, rfl, hmc3⟩ := own_slice (l := l) hrk
      have hst := pairs_take hl
      have hal := hrk.alloc (.cells #[.int .u8 61] 5 (1, 2))
      have hcl : (wr.alloc (.cells #[.int .u8 61] 5 (1, 2))).cell? ⟨wr.heap.size, 0, none⟩ = some (.int .u8 (((61 : UInt8).toNat : Nat) : Int)) := by rw [cell_of_row _ _ _ _ _ _ (heap_alloc_new wr _)]; rfl
      have hcut := bcut_f 61 B3 l.length c3 l (wr.alloc (.cells #[.int .u8 61] 5 (1, 2))) _ wr.heap.size 1 hal hcl hll
      have hltI : (k : Int) < n1 := by omega
      have hsz := hbel.size
      obtain ⟨m3, hm3⟩ : ∃ m3, l.length = m3 := ⟨_, rfl⟩
      have HX := Lib.hid (And.intro hown (And.intro hbel (And.intro hst hsz)))
      have HC := Lib.hid hcut
      rw [hm3] at hcell HC
      clear hrow hown hbel hst hsz hrk hll hl hu hal hcl hcut hmc3 hm3
      go_wp2_with fail
      refine HC.out.mono ?_
      rintro e w3 ⟨D1, d1, f1, D2, d2, f2, rfl, hb1, hb2, md, hw3⟩
      have hcv1 := run_string_bs (P := Tryd.prog) hb1 24 9 5 f1 Tryd.underlying24 Tryd.underlying5 Tryd.underlying9
      have hcv2 := run_string_bs (P := Tryd.prog) hb2 24 9 5 f2 Tryd.underlying24 Tryd.underlying5 Tryd.underlying9
      obtain ⟨t1, ht1⟩ : ∃ t : ByteArray, ⟨(cutA l 61).toArray⟩ = t := ⟨_, rfl⟩
      obtain ⟨t2, ht2⟩ : ∃ t : ByteArray, ⟨(cutB l 61).toArray⟩ = t := ⟨_, rfl⟩
      obtain ⟨q, hq⟩ : ∃ q, decide (¬ Lib.indexByte l 61 = -1) = q := ⟨_, rfl⟩
      rw [ht1] at hcv1
      rw [ht2] at hcv2
      rw [hq]
      have hbel3 : Below wr.heap.size wr w3 := by rw [hw3]; exact (alloc_below wr _).trans (drewN_below _ _ _)
      have hpq : pairQ l = ⟨t1, t2, !q⟩ := by unfold pairQ; rw [ht1, ht2, hq]
      have HY := Lib.hid (And.intro (rk_below HX.out.1 hbel3) (And.intro (HX.out.2.1.trans (hbel3.mono HX.out.2.2.2)) (And.intro hpq (Nat.le_trans HX.out.2.2.2 hbel3.size))))
      clear hb1 hb2 hw3 ht1 ht2 hq hbel3 hpq
      try dsimp only
      cases q
      all_goals
        go_wp2_with (at_builtin; go_loud (refine prK.append_one w3 rfl (.tmp 24) (.tmp 32) 56 rfl w1.heap.size 60 i0 _ 40 Tryd.underlying56 hi0 hz0 hz1 hz2 rfl (.slice A' k c') k _ rfl HY.out.1 ⟨t1, t2, _⟩ _ rfl _ rfl (by omega) (by unfold maxLen; omega) HY.out.2.2.2 ?_); intro A6 c6 w6 hown6 hgr6; have H6 := Lib.hid (And.intro hown6 hgr6); clear hown6 hgr6)
        go_roundw
        case rel => exact ⟨k + 1, c6, A6, by omega, by go_num, rfl, (show Aside _ from ⟨by rw [HX.out.2.2.1, HY.out.2.2.1]; exact H6.out.1, rk_in' (HY.out.2.1.trans (Below.mono (alloc_below w3 _) HY.out.2.2.2)) (HY.out.1.alloc _) H6.out.2 (by have := HY.out.2.2.2; rw [alloc_size]; omega)⟩)⟩
        case measure => simp [intOf]; omega
    · obtain rfl : k = n1 := by omega
      have hltI : ¬ (k : Int) < k := by omega
      have htk : ls.take k = ls := List.take_of_length_le (by rw [H1.out.2.2.1]; exact Nat.le_refl _)
      rw [htk] at hown
      have HX := Lib.hid (And.intro hown hbel)
      clear hown hbel htk hlt
      go_wp2
      go_ret
      exact RetK.of (rk_mono HX.out.1 H1.out.2.2.2.1) (H1.out.2.1.trans (HX.out.2.mono H1.out.2.2.2.1))
def svK : RowK Sv 2 where
  vals s := s.vals
  len _ := rfl
  one s u hu := by unfold Sv.vals at hu; simp only [List.mem_cons, List.not_mem_nil, or_false] at hu; rcases hu with rfl | rfl <;> rfl
  pos := by decide
theorem svK_all (vs : List Sv) : svK.all vs = svs vs := rfl
theorem info_op : (Tryd.prog.info? 99).map (fun i => (i.zero, i.size, i.bytes)) = some (some (.agg #[.int .i64 0, .slice none 0 0]), 2, 32) := by kernel_rfl
/-- Bytes in a block of their own, marked or not. -/
def Blk (w : World) (A : Option Addr) (n : Nat) (l : List UInt8) : Prop :=
  l.length = n ∧ (0 < n → ∃ g cs fr, A = some ⟨g, 0, none⟩ ∧ w.heap[g]? = some (.cells cs 5 fr) ∧ ∀ (j : Nat) u, l[j]? = some u → cs[j]? = some (.int .u8 (u.toNat : Int)))
theorem Blk.bs {w : World} {A : Option Addr} {n : Nat} {l : List UInt8} (h : Blk w A n l) : Bs w w.heap.size A n l :=
  ⟨h.1, fun hn => by
    obtain ⟨g, cs, fr, rfl, hg, hc⟩ := h.2 hn
    refine ⟨g, 0, rfl, (Array.getElem?_eq_some_iff.1 hg).1, fun k u hu => ?_⟩
    rw [Nat.zero_add, cell_of_row _ _ _ _ _ _ hg, hc k u hu]⟩
theorem Blk.kept {w w' : World} {A : Option Addr} {n : Nat} {l : List UInt8} (h : Blk w A n l) (hk : ∀ (g : Nat) cs fr, w.heap[g]? = some (.cells cs 5 fr) → w'.heap[g]? = w.heap[g]?) : Blk w' A n l :=
  ⟨h.1, fun hn => by
    obtain ⟨g, cs, fr, e, hg, hc⟩ := h.2 hn
    exact ⟨g, cs, fr, e, (hk g cs fr hg).trans hg, hc⟩⟩
structure OpR (w : World) (us : List Sv) (ps : List (Int × List UInt8)) : Prop where
  len : us.length = ps.length
  each : ∀ (i : Nat) (s : Sv) (x : Int × List UInt8), us[i]? = some s → ps[i]? = some x → s.k = x.1 ∧ s.n ≤ s.c ∧ s.c ≤ maxLen ∧ Blk w s.A s.n x.2
theorem OpR.nil (w : World) : OpR w [] [] := ⟨rfl, fun i s x h => by simp at h⟩
theorem OpR.kept {w w' : World} {us : List Sv} {ps : List (Int × List UInt8)} (h : OpR w us ps) (hk : ∀ (g : Nat) cs fr, w.heap[g]? = some (.cells cs 5 fr) → w'.heap[g]? = w.heap[g]?) : OpR w' us ps :=
  ⟨h.len, fun i s x hs hx => by obtain ⟨a, b, c, d⟩ := h.each i s x hs hx; exact ⟨a, b, c, d.kept hk⟩⟩
theorem u8_below {w w' : World} (hb : Below w.heap.size w w') : ∀ (g : Nat) cs fr, w.heap[g]? = some (.cells cs 5 fr) → w'.heap[g]? = w.heap[g]? := fun g cs fr hg => hb.block g (Array.getElem?_eq_some_iff.1 hg).1
theorem u8_grown {w w' : World} {base size n : Nat} {e : TypeId} {v : Value} {xs : List Value} (ho : w.ownsRow base e size v n xs) (hg : w.grownBy w' v.ownBlock) (he : e ≠ 5) : ∀ (g : Nat) cs fr, w.heap[g]? = some (.cells cs 5 fr) → w'.heap[g]? = w.heap[g]? := fun g cs fr hb => hg.block g (Array.getElem?_eq_some_iff.1 hb).1 (fun e1 => by
  rcases ho.2 with ⟨rfl, _⟩ | ⟨g', cap, cur, rfl, _, h4, _⟩
  · cases e1
  · have e' : g = g' := by injection e1
    subst e'
    rw [hb] at h4
    injection h4 with h4
    injection h4 with _ h4
    exact he h4.symm)
theorem OpR.push {w : World} {us : List Sv} {ps : List (Int × List UInt8)} {s : Sv} {x : Int × List UInt8} (h : OpR w us ps) (hs : s.k = x.1 ∧ s.n ≤ s.c ∧ s.c ≤ maxLen ∧ Blk w s.A s.n x.2) : OpR w (us ++ [s]) (ps ++ [x]) := by
  refine ⟨by simp [h.len], fun i t y ht hy => ?_⟩
  have hl := h.len
  by_cases hi : i < us.length
  · rw [List.getElem?_append_left hi] at ht
    rw [List.getElem?_append_left (by omega)] at hy
    exact h.each i t y ht hy
  · have hi2 : i = us.length := by
      have := (List.getElem?_eq_some_iff.1 ht).1
      simp at this; omega
    subst hi2
    rw [List.getElem?_append_right (Nat.le_refl _), Nat.sub_self] at ht
    rw [hl, List.getElem?_append_right (Nat.le_refl _), Nat.sub_self] at hy
    obtain rfl := Option.some.inj ht
    obtain rfl := Option.some.inj hy
    exact hs
theorem OpR.os {w : World} {us : List Sv} {ps : List (Int × List UInt8)} {v : Value} {base n : Nat} (h : OpR w us ps) (ho : w.ownsRow base 99 2 v n (svs us)) : ∃ A c, v = .slice A n c ∧ n ≤ c ∧ Os w w.heap.size A n us ps := by
  obtain ⟨A, c, rfl, hc, hsh⟩ := Sh.of_own ho
  refine ⟨A, c, rfl, hc, hsh, fun s hs => ?_, ?_⟩
  · obtain ⟨i, hi⟩ := List.mem_iff_getElem?.1 hs
    obtain ⟨x, hx⟩ : ∃ x, ps[i]? = some x := ⟨_, List.getElem?_eq_getElem (by rw [← h.len]; exact (List.getElem?_eq_some_iff.1 hi).1)⟩
    obtain ⟨_, h1, h2, h3⟩ := h.each i s x hi hx
    exact (SvAt.mk_ h3.bs h1 h2).1
  · refine List.ext_getElem? fun i => ?_
    rw [List.getElem?_map]
    by_cases hi : i < us.length
    · obtain ⟨s, hs⟩ : ∃ s, us[i]? = some s := ⟨_, List.getElem?_eq_getElem hi⟩
      obtain ⟨x, hx⟩ : ∃ x, ps[i]? = some x := ⟨_, List.getElem?_eq_getElem (by rw [← h.len]; exact hi)⟩
      obtain ⟨hk, h1, h2, h3⟩ := h.each i s x hs hx
      rw [hs, hx]
      show some (rd w s) = some x
      rw [(SvAt.mk_ h3.bs h1 h2).2, hk]
    · rw [List.getElem?_eq_none (by omega), List.getElem?_eq_none (by rw [← h.len]; omega)]; rfl
theorem conv_row2 (w : World) (s : ByteArray) (hs : s.size ≤ 1000000000) : ∃ c w', (convert 9 24 (.string s)).run Tryd.prog w = .ok (.slice (some ⟨w.heap.size, 0, none⟩) s.size c) w' ∧ s.size ≤ c ∧ c ≤ maxLen ∧ Blk w' (some ⟨w.heap.size, 0, none⟩) s.size s.data.toList ∧ Below w.heap.size w w' ∧ w'.heap.size = w.heap.size + 1 := by
  have h := run_bytes_of_string (P := Tryd.prog) w 9 24 5 s Tryd.underlying9 Tryd.underlying24 Tryd.underlying5
  have hln : s.data.toList.length = s.size := Array.length_toList
  have hml := grownCap_le_maxLen w s.size 0 5 (by unfold maxLen; omega)
  generalize hc : grownCap w s.size 0 5 = c at h hml
  have hge : s.size ≤ c := by rw [← hc]; exact grownCap_ge ..
  refine ⟨c, _, h, hge, hml, ⟨hln, fun hn => ⟨w.heap.size, bytesRow s c, _, rfl, heap_alloc_new w.drew _, fun j u hu => ?_⟩⟩, (Below.refl _ w).drew.alloc (Nat.le_refl _) _, alloc_size w.drew _⟩
  have hj := (List.getElem?_eq_some_iff.1 hu).1
  rw [bytesRow_at _ _ j (by omega)]
  have h1 : s.data.toList[j]? = some (s.data[j]'(by rw [← Array.length_toList]; exact hj)) := by rw [Array.getElem?_toList, Array.getElem?_eq_getElem]
  rw [h1] at hu
  obtain rfl := Option.some.inj hu
  first | rfl | simp
def RetOq (ps : List (Int × List UInt8)) (w : World) (e : Ending) (w' : World) : Prop :=
  ∃ A n c us, e = .returned (.slice A n c) ∧ n ≤ c ∧ Hid (n = ps.length) ∧ Os w' w'.heap.size A n us ps ∧ Below w.heap.size w w'
def opOf (num : Int) (ss : List ByteArray) : List (Int × List UInt8) := ss.map fun s => (num, s.data.toList)
theorem opOf_take {num : Int} {ss : List ByteArray} {k : Nat} {s : ByteArray} (h : ss[k]? = some s) : opOf num (ss.take (k + 1)) = opOf num (ss.take k) ++ [(num, s.data.toList)] := by
  unfold opOf
  rw [List.take_add_one, h, List.map_append]; rfl
set_option maxHeartbeats 4000000 in
theorem popts_f (A : Option Addr) (n c : Nat) (ss : List ByteArray) (w : World) (B : Nat) (hst : stK.At w B A n ss) (hB : B ≤ w.heap.size) (hn : n ≤ 1048576) (hmx : ∀ s ∈ ss, s.size ≤ 1000000) :
    Calls Tryd.prog 31 #[.slice A n c] w (RetOq (opOf 11 ss) w) := by
  obtain ⟨i0, hi0, hz0, hz1, hz2⟩ := info_parts info_op
  have HA := Lib.hid (And.intro hst (And.intro hmx hst.len))
  have hnI : (n : Int) ≤ 1048576 := by omega
  clear hst hmx
  go_enter Tryd.func31, Tryd.ntmps31
  go_wp2
  go_loopw [3, 8] (fun v3 v9 wr => ∃ (k c' : Nat) (A' : Option Addr), k ≤ n ∧ v9 = .int .i64 (k : Int) ∧ v3 = .slice A' k c' ∧ Aside (∃ us, wr.ownsRow w.heap.size 99 2 (.slice A' k c') k (svK.all us) ∧ OpR wr us (opOf 11 (ss.take k)) ∧ Below w.heap.size w wr)) (fun _ v9 _ => n - (intOf v9).toNat)
  case atStart => exact ⟨0, 0, none, Nat.zero_le _, rfl, rfl, (show Aside _ from ⟨[], World.ownsRow_nil _ _ _ _, OpR.nil _, Below.refl _ _⟩)⟩
  case round =>
    obtain ⟨k, c', A', hk, rfl, rfl, hrel⟩ := hrel
    obtain ⟨us, hown, hop, hbel⟩ := hrel.out
    clear hrel
    by_cases hlt : k < n
    · have hsr := HA.out.1.below' hbel hB
      obtain ⟨b, off, rfl, hbb, _⟩ := hsr.place (by omega)
      obtain ⟨s, hs⟩ := hsr.get hlt
      have hcell := hsr.range hs 0 _ rfl
      rw [Nat.mul_one, Nat.add_zero] at hcell
      have hsz := HA.out.2.1 s (List.mem_of_getElem? hs)
      obtain ⟨c5, w5, hcv, hge, hml, hblk, hb5, hz5⟩ := conv_row2 wr s (by omega)
      have hst := opOf_take (num := 11) hs
      have hltI : (k : Int) < n := by omega
      obtain ⟨m5, hm5⟩ : ∃ m5, s.size = m5 := ⟨_, rfl⟩
      rw [hm5] at hcv hge hblk
      have hup : w.heap.size ≤ w5.heap.size := Nat.le_trans hbel.size hb5.size
      have HX := Lib.hid (And.intro (rk_below hown hb5) (And.intro ((hop.kept (u8_below hb5)).push (s := ⟨11, some ⟨wr.heap.size, 0, none⟩, m5, c5⟩) (x := (11, s.data.toList)) ⟨rfl, hge, hml, hblk⟩) (And.intro (hbel.trans (hb5.mono hbel.size)) (And.intro hst hup))))
      clear hsr hown hop hbel hst hs hge hml hblk hb5 hz5 hsz hm5 hup
      go_wp2_with (at_builtin; go_loud (refine svK.append_one w5 rfl (.tmp 12) (.tmp 16) 42 rfl w.heap.size 99 i0 _ 32 Tryd.underlying42 hi0 hz0 hz1 hz2 rfl (.slice A' k c') k _ rfl HX.out.1 ⟨11, some ⟨wr.heap.size, 0, none⟩, m5, c5⟩ _ rfl _ rfl (by omega) (by unfold maxLen; omega) HX.out.2.2.2.2 ?_); intro A6 c6 w6 hown6 hgr6; have H6 := Lib.hid (And.intro hown6 hgr6); clear hown6 hgr6)
      go_roundw
      case rel =>
        have hal := HX.out.1.alloc (.cells #[.int .i64 11, .slice (some ⟨wr.heap.size, 0, none⟩) m5 c5] 99)
        exact ⟨k + 1, c6, A6, by omega, by go_num, rfl, (show Aside _ from ⟨_, H6.out.1, by rw [HX.out.2.2.2.1]; exact (HX.out.2.1.kept (u8_below (alloc_below w5 _))).kept (u8_grown hal H6.out.2 (by decide)), rk_in' (HX.out.2.2.1.trans (Below.mono (alloc_below w5 _) HX.out.2.2.2.2)) hal H6.out.2 (by have := HX.out.2.2.2.2; rw [alloc_size]; omega)⟩)⟩
      case measure => simp [intOf]; omega
    · obtain rfl : k = n := by omega
      have hltI : ¬ (k : Int) < k := by omega
      rw [List.take_of_length_le (by rw [HA.out.2.2]; exact Nat.le_refl _)] at hop
      have HX := Lib.hid (And.intro hown (And.intro hop hbel))
      clear hown hop hbel hlt
      go_wp2
      go_ret
      obtain ⟨A7, c7, e7, hc7, hos⟩ := HX.out.2.1.os HX.out.1
      injection e7 with e1 _ e3
      subst e1 e3
      exact ⟨A', k, c', us, rfl, hc7, by rw [show (opOf 11 ss).length = ss.length from List.length_map _]; exact HA.out.2.2.symm, hos, HX.out.2.2⟩
def queryQ (p : Pr) : List UInt8 := if p.bare then p.nm.data.toList else p.nm.data.toList ++ 61 :: p.vl.data.toList
def opPr (ps : List Pr) : List (Int × List UInt8) := ps.map fun p => (15, queryQ p)
theorem opPr_take {ps : List Pr} {k : Nat} {p : Pr} (h : ps[k]? = some p) : opPr (ps.take (k + 1)) = opPr (ps.take k) ++ [(15, queryQ p)] := by
  unfold opPr
  rw [List.take_add_one, h, List.map_append]; rfl
theorem size_pr1 : (Tryd.prog.info? 60).map (·.size) = some 3 := by kernel_rfl
theorem str_app (a b : ByteArray) : (a ++ b).data.toList = a.data.toList ++ b.data.toList := by
  rw [ByteArray.data_append, Array.toList_append]
set_option maxHeartbeats 4000000 in
theorem pqueries_f (A : Option Addr) (n c : Nat) (ps : List Pr) (w : World) (B : Nat) (hst : prK.At w B A n ps) (hB : B ≤ w.heap.size) (hn : n ≤ 1048576) (hmx : ∀ p ∈ ps, p.nm.size ≤ 1000000 ∧ p.vl.size ≤ 1000000) :
    Calls Tryd.prog 32 #[.slice A n c] w (RetOq (opPr ps) w) := by
  obtain ⟨i0, hi0, hz0, hz1, hz2⟩ := info_parts info_op
  have HA := Lib.hid (And.intro hst (And.intro hmx hst.len))
  have hnI : (n : Int) ≤ 1048576 := by omega
  clear hst hmx
  go_enter Tryd.func32, Tryd.ntmps32
  go_wp2
  go_loopw [3, 9] (fun v3 v9 wr => ∃ (k c' : Nat) (A' : Option Addr), k ≤ n ∧ v9 = .int .i64 (k : Int) ∧ v3 = .slice A' k c' ∧ Aside (∃ us, wr.ownsRow w.heap.size 99 2 (.slice A' k c') k (svK.all us) ∧ OpR wr us (opPr (ps.take k)) ∧ Below w.heap.size w wr)) (fun _ v9 _ => n - (intOf v9).toNat)
  case atStart => exact ⟨0, 0, none, Nat.zero_le _, rfl, rfl, (show Aside _ from ⟨[], World.ownsRow_nil _ _ _ _, OpR.nil _, Below.refl _ _⟩)⟩
  case round =>
    obtain ⟨k, c', A', hk, rfl, rfl, hrel⟩ := hrel
    obtain ⟨us, hown, hop, hbel⟩ := hrel.out
    clear hrel
    by_cases hlt : k < n
    · have hsr := HA.out.1.below' hbel hB
      obtain ⟨b, off, rfl, hbb, _⟩ := hsr.place (by omega)
      obtain ⟨p, hs⟩ := hsr.get hlt
      have hr := hsr.range hs
      have hsz := HA.out.2.1 p (List.mem_of_getElem? hs)
      have hst := opPr_take hs
      obtain ⟨nm, vl, bare⟩ := p
      replace hr : wr.rangeAt b (off + k * 3) [.string nm, .string vl, .bool bare] := hr
      dsimp only at hsz
      have hq0 := alloc_below wr (.cells #[.string nm, .string vl, .bool bare] 60)
      have hltI : (k : Int) < n := by omega
      cases bare with
      | true =>
        obtain ⟨c5, w5, hcv, hge, hml, hblk, hb5, hz5⟩ := conv_row2 (wr.alloc (.cells #[.string nm, .string vl, .bool true] 60)) nm (by omega)
        have hb6 : Below wr.heap.size wr w5 := hq0.trans (hb5.mono hq0.size)
        obtain ⟨m5, hm5⟩ : ∃ m5, nm.size = m5 := ⟨_, rfl⟩
        rw [hm5] at hcv hge hblk
        have hup : w.heap.size ≤ w5.heap.size := Nat.le_trans hbel.size hb6.size
        rw [alloc_size] at hcv hblk
        have HX := Lib.hid (And.intro (rk_below hown hb6) (And.intro ((hop.kept (u8_below hb6)).push (s := ⟨15, some ⟨wr.heap.size + 1, 0, none⟩, m5, c5⟩) (x := (15, nm.data.toList)) ⟨rfl, hge, hml, hblk⟩) (And.intro (hbel.trans (hb6.mono hbel.size)) (And.intro hst hup))))
        clear hsr hown hop hbel hst hs hge hml hblk hb5 hz5 hsz hm5 hup hb6 hq0
        go_wp2_with (first | (refine wpList_load_mid rfl 60 (.tmp 11) rfl b (off + k * 3) rfl [.string nm, .string vl, .bool true] _ hr Tryd.underlying60 rfl size_pr1 ?_) | (at_builtin; go_loud (refine svK.append_one w5 rfl (.tmp 23) (.tmp 27) 42 rfl w.heap.size 99 i0 _ 32 Tryd.underlying42 hi0 hz0 hz1 hz2 rfl (.slice A' k c') k _ rfl HX.out.1 ⟨15, some ⟨wr.heap.size + 1, 0, none⟩, m5, c5⟩ _ rfl _ rfl (by omega) (by unfold maxLen; omega) HX.out.2.2.2.2 ?_); intro A6 c6 w6 hown6 hgr6; have H6 := Lib.hid (And.intro hown6 hgr6); clear hown6 hgr6))
        go_roundw
        case rel =>
          have hal := HX.out.1.alloc (.cells #[.int .i64 15, .slice (some ⟨wr.heap.size + 1, 0, none⟩) m5 c5] 99)
          exact ⟨k + 1, c6, A6, by omega, by go_num, rfl, (show Aside _ from ⟨_, H6.out.1, by rw [HX.out.2.2.2.1]; exact (HX.out.2.1.kept (u8_below (alloc_below w5 _))).kept (u8_grown hal H6.out.2 (by decide)), rk_in' (HX.out.2.2.1.trans (Below.mono (alloc_below w5 _) HX.out.2.2.2.2)) hal H6.out.2 (by have := HX.out.2.2.2.2; rw [alloc_size]; omega)⟩)⟩
        case measure => simp [intOf]; omega
      | false =>
        have hap : (nm ++ ((⟨#[61]⟩ : ByteArray) ++ vl)).data.toList = nm.data.toList ++ 61 :: vl.data.toList := by rw [str_app, str_app]; rfl
        obtain ⟨c5, w5, hcv, hge, hml, hblk, hb5, hz5⟩ := conv_row2 (wr.alloc (.cells #[.string nm, .string vl, .bool false] 60)) (nm ++ ((⟨#[61]⟩ : ByteArray) ++ vl)) (by have h1 : (nm ++ ((⟨#[61]⟩ : ByteArray) ++ vl)).data.toList.length = (nm ++ ((⟨#[61]⟩ : ByteArray) ++ vl)).size := Array.length_toList; rw [hap, List.length_append, List.length_cons, size_list, size_list] at h1; omega)
        rw [hap] at hblk
        have z1 : nm.size ≤ 1000000 := hsz.1
        have z2 : vl.size ≤ 1000000 := hsz.2
        have z3 : ((⟨#[61]⟩ : ByteArray) ++ vl).size ≤ 1000001 := by
          have h1 : ((⟨#[61]⟩ : ByteArray) ++ vl).data.toList.length = ((⟨#[61]⟩ : ByteArray) ++ vl).size := Array.length_toList
          have h2 : (ByteArray.data ⟨#[61]⟩).toList.length = 1 := rfl
          rw [str_app, List.length_append, size_list vl, h2] at h1
          omega
        have hb6 : Below wr.heap.size wr w5 := hq0.trans (hb5.mono hq0.size)
        obtain ⟨m5, hm5⟩ : ∃ m5, (nm ++ ((⟨#[61]⟩ : ByteArray) ++ vl)).size = m5 := ⟨_, rfl⟩
        rw [hm5] at hcv hge hblk
        have hup : w.heap.size ≤ w5.heap.size := Nat.le_trans hbel.size hb6.size
        rw [alloc_size] at hcv hblk
        have HX := Lib.hid (And.intro (rk_below hown hb6) (And.intro ((hop.kept (u8_below hb6)).push (s := ⟨15, some ⟨wr.heap.size + 1, 0, none⟩, m5, c5⟩) (x := (15, nm.data.toList ++ 61 :: vl.data.toList)) ⟨rfl, hge, hml, hblk⟩) (And.intro (hbel.trans (hb6.mono hbel.size)) (And.intro hst hup))))
        clear hsr hown hop hbel hst hs hge hml hblk hb5 hz5 hsz hm5 hup hb6 hq0 hap
        go_wp2_with (first | (refine wpList_load_mid rfl 60 (.tmp 11) rfl b (off + k * 3) rfl [.string nm, .string vl, .bool false] _ hr Tryd.underlying60 rfl size_pr1 ?_) | (at_builtin; go_loud (refine svK.append_one w5 rfl (.tmp 23) (.tmp 27) 42 rfl w.heap.size 99 i0 _ 32 Tryd.underlying42 hi0 hz0 hz1 hz2 rfl (.slice A' k c') k _ rfl HX.out.1 ⟨15, some ⟨wr.heap.size + 1, 0, none⟩, m5, c5⟩ _ rfl _ rfl (by omega) (by unfold maxLen; omega) HX.out.2.2.2.2 ?_); intro A6 c6 w6 hown6 hgr6; have H6 := Lib.hid (And.intro hown6 hgr6); clear hown6 hgr6))
        go_roundw
        case rel =>
          have hal := HX.out.1.alloc (.cells #[.int .i64 15, .slice (some ⟨wr.heap.size + 1, 0, none⟩) m5 c5] 99)
          exact ⟨k + 1, c6, A6, by omega, by go_num, rfl, (show Aside _ from ⟨_, H6.out.1, by rw [HX.out.2.2.2.1]; exact (HX.out.2.1.kept (u8_below (alloc_below w5 _))).kept (u8_grown hal H6.out.2 (by decide)), rk_in' (HX.out.2.2.1.trans (Below.mono (alloc_below w5 _) HX.out.2.2.2.2)) hal H6.out.2 (by have := HX.out.2.2.2.2; rw [alloc_size]; omega)⟩)⟩
        case measure => simp [intOf]; omega
    · obtain rfl : k = n := by omega
      have hltI : ¬ (k : Int) < k := by omega
      rw [List.take_of_length_le (by rw [HA.out.2.2]; exact Nat.le_refl _)] at hop
      have HX := Lib.hid (And.intro hown (And.intro hop hbel))
      clear hown hop hbel hlt
      go_wp2
      go_ret
      obtain ⟨A7, c7, e7, hc7, hos⟩ := HX.out.2.1.os HX.out.1
      injection e7 with e1 _ e3
      subst e1 e3
      exact ⟨A', k, c', us, rfl, hc7, by rw [show (opPr ps).length = ps.length from List.length_map _]; exact HA.out.2.2.symm, hos, HX.out.2.2⟩
def cqz (c : Cq) : Bool := decide (c.a = 0 ∧ c.b = 0 ∧ c.ha = false ∧ c.hb = false ∧ c.g = 0 ∧ c.l = 0 ∧ c.s = 0 ∧ c.hg = false ∧ c.hl = false ∧ c.hs = false)
set_option maxHeartbeats 4000000 in
theorem cq_eq (a b : Int) (ha hb : Bool) (g l s : Int) (hg hl hs : Bool) (w : World) : (Op.equalIn 10000 47 (.agg #[.int .i64 a, .int .i64 b, .bool ha, .bool hb, .int .i64 g, .int .i64 l, .int .i64 s, .bool hg, .bool hl, .bool hs]) (.agg #[.int .i64 0, .int .i64 0, .bool false, .bool false, .int .i64 0, .int .i64 0, .int .i64 0, .bool false, .bool false, .bool false])).run Tryd.prog w = .ok (cqz ⟨a, b, ha, hb, g, l, s, hg, hl, hs⟩) w := by
  have hS : Tryd.prog.underlying 47 = some (.struct (Tryd.prog.fieldsOf 47)) := by kernel_rfl
  have hp : Tryd.prog.stoodInHeld 47 = false := by kernel_rfl
  have u2 := Tryd.underlying2
  have a2 := Tryd.isAgg2
  have z2 := Tryd.sizeOf2
  have u4 := Tryd.underlying4
  have a4 := Tryd.isAgg4
  have z4 := Tryd.sizeOf4
  rw [show (10000 : Nat) = 9999 + 1 from rfl, run_equalIn_agg w 9999 47 _ _ hS hp]
  simp only [Program.fieldsOf, Tryd.underlying47]
  by_cases h0 : a = 0
  · subst h0
    by_cases h1 : b = 0
    · subst h1
      cases ha with
      | false =>
        cases hb with
        | false =>
          by_cases h4 : g = 0
          · subst h4
            by_cases h5 : l = 0
            · subst h5
              by_cases h6 : s = 0
              · subst h6
                cases hg with
                | false =>
                  cases hl with
                  | false =>
                    cases hs with
                    | false =>
                      rw [show cqz ⟨0, 0, false, false, 0, 0, 0, false, false, false⟩ = true from rfl]
                      go_simp
                      try simp
                    | true =>
                      rw [show cqz ⟨0, 0, false, false, 0, 0, 0, false, false, true⟩ = false from decide_eq_false (fun h => Bool.noConfusion h.2.2.2.2.2.2.2.2.2)]
                      go_simp
                      try simp
                  | true =>
                    rw [show cqz ⟨0, 0, false, false, 0, 0, 0, false, true, hs⟩ = false from decide_eq_false (fun h => Bool.noConfusion h.2.2.2.2.2.2.2.2.1)]
                    go_simp
                    try simp
                | true =>
                  rw [show cqz ⟨0, 0, false, false, 0, 0, 0, true, hl, hs⟩ = false from decide_eq_false (fun h => Bool.noConfusion h.2.2.2.2.2.2.2.1)]
                  go_simp
                  try simp
              · have e6 : (s == 0) = false := beq_eq_false_iff_ne.2 h6
                rw [show cqz ⟨0, 0, false, false, 0, 0, s, hg, hl, hs⟩ = false from decide_eq_false (fun h => h6 h.2.2.2.2.2.2.1)]
                go_simp
                try simp [e6]
            · have e5 : (l == 0) = false := beq_eq_false_iff_ne.2 h5
              rw [show cqz ⟨0, 0, false, false, 0, l, s, hg, hl, hs⟩ = false from decide_eq_false (fun h => h5 h.2.2.2.2.2.1)]
              go_simp
              try simp [e5]
          · have e4 : (g == 0) = false := beq_eq_false_iff_ne.2 h4
            rw [show cqz ⟨0, 0, false, false, g, l, s, hg, hl, hs⟩ = false from decide_eq_false (fun h => h4 h.2.2.2.2.1)]
            go_simp
            try simp [e4]
        | true =>
          rw [show cqz ⟨0, 0, false, true, g, l, s, hg, hl, hs⟩ = false from decide_eq_false (fun h => Bool.noConfusion h.2.2.2.1)]
          go_simp
          try simp
      | true =>
        rw [show cqz ⟨0, 0, true, hb, g, l, s, hg, hl, hs⟩ = false from decide_eq_false (fun h => Bool.noConfusion h.2.2.1)]
        go_simp
        try simp
    · have e1 : (b == 0) = false := beq_eq_false_iff_ne.2 h1
      rw [show cqz ⟨0, b, ha, hb, g, l, s, hg, hl, hs⟩ = false from decide_eq_false (fun h => h1 h.2.1)]
      go_simp
      try simp [e1]
  · have e0 : (a == 0) = false := beq_eq_false_iff_ne.2 h0
    rw [show cqz ⟨a, b, ha, hb, g, l, s, hg, hl, hs⟩ = false from decide_eq_false (fun h => h0 h.1)]
    go_simp
    try simp [e0]
theorem cq_ne (a b : Int) (ha hb : Bool) (g l s : Int) (hg hl hs : Bool) (w : World) : (binOp .neq 47 (.agg #[.int .i64 a, .int .i64 b, .bool ha, .bool hb, .int .i64 g, .int .i64 l, .int .i64 s, .bool hg, .bool hl, .bool hs]) (.agg #[.int .i64 0, .int .i64 0, .bool false, .bool false, .int .i64 0, .int .i64 0, .int .i64 0, .bool false, .bool false, .bool false])).run Tryd.prog w = .ok (.bool (!cqz ⟨a, b, ha, hb, g, l, s, hg, hl, hs⟩)) w := by
  rw [run_neq_struct, cq_eq]; rfl
/-- A condition of pairs. -/
def condF : Cq → List Pr → Option Cq
  | c, [] => some c
  | c, p :: r => match tellQ c p.nm.data.toList p.vl.data.toList with | none => none | some c' => condF c' r
def condQ (ps : List Pr) : Cq × Bool × Int :=
  match condF cq0 ps with
  | none => (cq0, false, 20)
  | some c => if ((c.ha = true ∧ c.hb = true) ∧ c.b < c.a) ∨ (c.hs = true ∧ c.s ≤ 0) then (cq0, false, 1) else (c, !cqz c, 0)
def condE (r : Cq × Bool × Int) : Ending := .returned (.tuple #[.agg r.1.vals.toArray, .bool r.2.1, .int .i64 r.2.2])
theorem one10 (c : Cq) : ∀ v ∈ c.vals, v.oneCell' = true := by
  intro v hv
  unfold Cq.vals at hv
  simp only [List.mem_cons, List.not_mem_nil, or_false] at hv
  rcases hv with rfl | rfl | rfl | rfl | rfl | rfl | rfl | rfl | rfl | rfl <;> rfl
theorem size_cond : (Tryd.prog.info? 47).map (·.size) = some 10 := by kernel_rfl
theorem results_cell_tmp2 {fn : Func} {p u v : Tmp} {ty : TypeId} (h : fn.results = #[.cell p ty, .tmp u, .tmp v]) (tmps : Array Value) (P : Program) (w : World) (b : Nat) (cs : List Value) (d : TypeDesc)
    (hp : tmps.getD p undef = .pointer (some ⟨b, 0, none⟩)) (hc : w.rangeAt b 0 cs) (hu : P.underlying ty = some d) (hd : d.isRow = true) (hi : (P.info? ty).map (·.size) = some cs.length) :
    (results fn tmps).run P w = .ok (.tuple #[.agg cs.toArray, tmps.getD u undef, tmps.getD v undef]) w := by
  have hl := run_loadVar_mid w b 0 ty cs d hc hu hd hi
  have e : (results fn tmps).run P w = ((asAddr (tmps.getD p undef)).run P w).andThen fun a w₁ => ((loadVar ty a).run P w₁).andThen fun x w₂ => .ok (.tuple #[x, tmps.getD u undef, tmps.getD v undef]) w₂ := by
    simp only [results, h]
    simp [Sem.run_bind, Result.andThen]
  rw [e, hp]
  simp only [asAddr, Sem.run_pure, Result.andThen_ok, hl]
/-- What stands while the pairs are gone through. -/
structure CdW (w W : World) (c : Cq) : Prop where
  bel : Below w.heap.size w W
  sz : w.heap.size + 2 ≤ W.heap.size
  t0 : W.there w.heap.size 0 10
  c1 : CqAt W (w.heap.size + 1) c
theorem CdW.below {w W W' : World} {c : Cq} (h : CdW w W c) (hb : Below W.heap.size W W') : CdW w W' c :=
  ⟨h.bel.trans (hb.mono h.bel.size), Nat.le_trans h.sz hb.size, there_below h.t0 hb (by have := h.sz; omega), h.c1.below hb⟩
theorem CdW.new_ (w : World) : CdW w ((w.alloc (.cells cq0.vals.toArray 47)).alloc (.cells cq0.vals.toArray 47)) cq0 where
  bel := ((alloc_below w _).alloc (by rw [alloc_size]; omega) _)
  sz := by rw [alloc_size, alloc_size]; exact Nat.le_refl _
  t0 := there_new0 w _ _ _ rfl
  c1 := ⟨by have := range_newV (w.alloc (.cells cq0.vals.toArray 47)) cq0.vals.toArray 47 rfl; rwa [alloc_size] at this, there_new1 w _ _ _ rfl, by rw [alloc_size, alloc_size]; omega⟩
theorem CdW.tell {w W W' : World} {c c' : Cq} (h : CdW w W c) (hc : CqAt W' (w.heap.size + 1) c') (ho : Only W.heap.size (w.heap.size + 1) W W') : CdW w W' c' :=
  ⟨h.bel.trans (ho.toBelow (by have := h.sz; omega) (by omega)), Nat.le_trans h.sz ho.size, ho.there h.t0 (by have := h.sz; omega) (by omega), hc⟩
theorem there_cells {w : World} {b o n g : Nat} (vs : List Value) : ∀ (k : Nat) (w : World), w.there b o n → (w.setCells g k vs).there b o n := by
  induction vs with
  | nil => intro k w h; exact h
  | cons v vs ih => intro k w h; exact ih (k + 1) _ (there_set h _ _)
theorem CdW.put {w W : World} {c : Cq} {vs : List Value} (h : CdW w W c) : CdW w (W.setCells w.heap.size 0 vs) c :=
  ⟨below_setCells h.bel (Nat.le_refl _) _ 0, by rw [size_setCells_]; exact h.sz, there_cells (w := w) vs 0 W h.t0, ⟨fun j u hj => by rw [World.cell?_setCells_out w.heap.size vs 0 _ _ (fun h1 _ => absurd h1 (by dsimp only; omega))]; exact h.c1.r j u hj, there_cells (w := w) vs 0 W h.c1.t, by rw [size_setCells_]; exact h.c1.lt⟩⟩
def CdR (w : World) (c : Cq) (q : Bool) (i : Nat) (W : World) (v : Value) : Prop :=
  match i with
  | 0 | 1 => v = .agg c.vals.toArray
  | 2 => v = .agg cq0.vals.toArray
  | 3 | 5 => v = .bool (!q)
  | 4 => W.rangeAt w.heap.size 0 c.vals
  | 6 => v = .int .i64 0
  | _ => True
theorem cdr_up {w : World} {c : Cq} {q : Bool} (i : Nat) (W W' : World) (v : Value) (hT : W.rangeAt w.heap.size 0 c.vals → W'.rangeAt w.heap.size 0 c.vals) (h : CdR w c q i W v) : CdR w c q i W' v := by
  unfold CdR at h ⊢
  split at h <;> first | exact h | exact hT h | trivial
theorem at_only {α : Type} {z : Nat} {K : RowK α z} {W W' : World} {B x n : Nat} {A : Option Addr} {vs : List α} (h : K.At W B A n vs) (hB : B ≤ W.heap.size) (hx : ∀ a, A = some a → a.block ≠ x) (ho : Only W.heap.size x W W') : K.At W' B A n vs :=
  ⟨h.len, fun hn => by
    obtain ⟨b, off, e, hb, hc⟩ := h.place hn
    exact ⟨b, off, e, hb, fun i s hs => ho.range (hc i s hs) (by omega) (hx _ e)⟩⟩
set_option maxHeartbeats 8000000 in
theorem cond_f (A : Option Addr) (n c : Nat) (vs : List Sv) (ps : List (Int × List UInt8)) (w : World) (B : Nat) (hos : Os w B A n vs ps) (hB : B ≤ w.heap.size) (hn : n ≤ 1048576) (hmx : ∀ x ∈ ps, x.2.length ≤ 1000000) (hE : TabE w) :
    Calls Tryd.prog 23 #[.slice A n c] w fun e w' => e = condE (condQ ((allO 15 ps).map pairQ)) ∧ Below w.heap.size w w' := by
  have hN := CdW.new_ w
  have hQ := fun W (h : Below w.heap.size w W) => query_f A n c vs ps W B (hos.below' h hB) (Nat.le_trans hB h.size) hn hmx
  have hT := fun b c nm vl bare (hv : vl.size ≤ 1000000) W (h : Below w.heap.size w W) (hc : CqAt W b c) => tell_f b c nm vl bare hv W (hE.below h hE.size) hc
  have hpl := hos.plen
  have hal := allO_len 15 ps
  have ham := allO_max (num := 15) hmx
  have hvl : ∀ p ∈ (allO 15 ps).map pairQ, p.vl.size ≤ 1000000 := by
    intro p hp
    obtain ⟨l, hl, rfl⟩ := List.mem_map.1 hp
    have h1 := ham l hl
    show (⟨(cutB l 61).toArray⟩ : ByteArray).size ≤ 1000000
    have h2 : (⟨(cutB l 61).toArray⟩ : ByteArray).size = (cutB l 61).length := by show (cutB l 61).toArray.size = _; simp
    rw [h2]
    unfold cutB
    split
    · exact Nat.zero_le _
    · rw [List.length_drop]; omega
  obtain ⟨qs, hqs⟩ : ∃ qs, (allO 15 ps).map pairQ = qs := ⟨_, rfl⟩
  have hql : qs.length ≤ 1048576 := by rw [← hqs, List.length_map]; omega
  rw [hqs] at hQ hvl ⊢
  obtain ⟨R, hR⟩ : ∃ R, condQ qs = R := ⟨_, rfl⟩
  rw [hR]
  unfold condQ at hR
  obtain ⟨G, hG⟩ : ∃ G, condF cq0 qs = G := ⟨_, rfl⟩
  rw [hG] at hR
  have hG0 : condF cq0 (qs.drop 0) = G := hG
  have HA := Lib.hid (And.intro hN (And.intro hQ (And.intro hT (And.intro hvl (And.intro hql (And.intro hR hG0))))))
  clear hN hQ hT hvl hql hR hG hG0 hqs hpl hal ham hos hmx hE
  go_enter Tryd.func23, Tryd.ntmps23
  go_wp2_with fail
  refine (HA.out.2.1 _ HA.out.1.bel).mono ?_
  rintro e w1 ⟨A1, n1, c1, rfl, hnc1, hn1, hown1, hb1⟩
  have h1 := HA.out.1.below hb1
  obtain ⟨A1', cc, e1, _, _, hat, hbas⟩ := RowK.At.of_own hown1
  injection e1 with e2 _ e3
  subst e2 e3
  have hnI : (n1 : Int) ≤ 1048576 := by have := hn1.out; have := HA.out.2.2.2.2.1; omega
  have hoff : ∀ a, A1 = some a → a.block ≠ w.heap.size + 1 := fun a ha => by
    obtain ⟨g, rfl, hg⟩ := hbas a ha
    rw [alloc_size, alloc_size] at hg
    show g ≠ _
    omega
  have H1 := Lib.hid (And.intro h1 (And.intro hat (And.intro hn1.out hoff)))
  clear h1 hat hn1 hown1 hb1 hnc1 hbas hoff
  try dsimp only
  go_wp2
  go_loopw [11] (fun v11 wr => ∃ k : Nat, k ≤ n1 ∧ v11 = .int .i64 (k : Int) ∧ Aside (∃ c, condF c (qs.drop k) = G ∧ CdW w wr c ∧ prK.At wr w1.heap.size A1 n1 qs ∧ w1.heap.size ≤ wr.heap.size)) (fun v11 _ => n1 - (intOf v11).toNat)
  case atStart => exact ⟨0, Nat.zero_le _, rfl, (show Aside _ from ⟨cq0, HA.out.2.2.2.2.2.2, H1.out.1, H1.out.2.1, Nat.le_refl _⟩)⟩
  case round =>
    obtain ⟨k, hk, rfl, hrel⟩ := hrel
    obtain ⟨c, hc, hcw, hat, hzr⟩ := hrel.out
    clear hrel
    by_cases hlt : k < n1
    · obtain ⟨b, off, rfl, hbb, _⟩ := hat.place (by omega)
      obtain ⟨p, hs⟩ := hat.get hlt
      have hr := hat.range hs
      have hdr : qs.drop k = p :: qs.drop (k + 1) := by
        obtain ⟨hkl, e⟩ := List.getElem?_eq_some_iff.1 hs
        rw [List.drop_eq_getElem_cons hkl, e]
      rw [hdr] at hc
      have hsz := HA.out.2.2.2.1 p (List.mem_of_getElem? hs)
      obtain ⟨nm, vl, bare⟩ := p
      replace hr : wr.rangeAt b (off + k * 3) [.string nm, .string vl, .bool bare] := hr
      dsimp only at hsz
      have hq0 := alloc_below wr (.cells #[.string nm, .string vl, .bool bare] 60)
      have hcw1 := hcw.below hq0
      have hcall := HA.out.2.2.1 (w.heap.size + 1) c nm vl bare hsz _ hcw1.bel hcw1.c1
      replace hc : (match tellQ c nm.data.toList vl.data.toList with | none => none | some c' => condF c' (qs.drop (k + 1))) = G := hc
      have hltI : (k : Int) < n1 := by omega
      rcases hq : tellQ c nm.data.toList vl.data.toList with _ | c'
      · rw [hq] at hc hcall
        replace hc : none = G := hc
        have hR := HA.out.2.2.2.2.2.1
        rw [← hc] at hR
        replace hR : (cq0, false, 20) = R := hR
        subst hR
        have HX := Lib.hid (And.intro hcall hcw1)
        clear hcall hcw1 hcw hc hdr hsz hs hq0 hq hat
        go_wp2_with (first | (refine wpList_load_mid rfl 60 (.tmp 13) rfl b (off + k * 3) rfl [.string nm, .string vl, .bool bare] _ hr Tryd.underlying60 rfl size_pr1 ?_) | (go_at_call 55; refine HX.out.1.mono ?_; rintro e w3 ⟨rfl, _, ho3⟩; have HO := Lib.hid (And.intro (ho3.there HX.out.2.t0 (by have := HX.out.2.sz; omega) (by omega)) (HX.out.2.bel.trans (ho3.toBelow (by have := HX.out.2.sz; omega) (by omega)))); clear ho3) | (refine wpList_store_mid rfl 47 (.tmp 2) (.tmp 18) rfl w.heap.size 0 cq0.vals.toArray rfl rfl HO.out.1 size_cond (all_oneCell_toArray (one10 cq0)) ?_))
        refine bodyPost_ret (results_cell_tmp2 rfl _ _ _ w.heap.size cq0.vals _ rfl (range_stored HO.out.1) Tryd.underlying47 rfl size_cond) rfl ?_
        exact ⟨rfl, below_setCells HO.out.2 (Nat.le_refl _) _ 0⟩
      · rw [hq] at hc hcall
        replace hc : condF c' (qs.drop (k + 1)) = G := hc
        have HX := Lib.hid (And.intro hcall (And.intro hcw1 (And.intro hc (And.intro (hat.below' hq0 hzr) (Nat.le_trans hzr hq0.size)))))
        clear hcall hcw1 hcw hc hdr hsz hs hq0 hq hat
        go_wp2_with (first | (refine wpList_load_mid rfl 60 (.tmp 13) rfl b (off + k * 3) rfl [.string nm, .string vl, .bool bare] _ hr Tryd.underlying60 rfl size_pr1 ?_) | (go_at_call 55; refine HX.out.1.mono ?_; rintro e w3 ⟨rfl, hc3, ho3⟩; have HO := Lib.hid (And.intro (HX.out.2.1.tell (hc3 c' rfl) ho3) (And.intro (at_only HX.out.2.2.2.1 HX.out.2.2.2.2 H1.out.2.2.2 ho3) (Nat.le_trans HX.out.2.2.2.2 ho3.size))); clear hc3 ho3))
        go_roundw
        case rel => exact ⟨k + 1, by omega, by go_num, (show Aside _ from ⟨c', HX.out.2.2.1, HO.out.1, HO.out.2.1, HO.out.2.2⟩)⟩
        case measure => simp [intOf]; omega
    · obtain rfl : k = n1 := by omega
      have hltI : ¬ (k : Int) < k := by omega
      rw [List.drop_of_length_le (by have := hat.len; omega)] at hc
      replace hc : some c = G := hc
      have hR := HA.out.2.2.2.2.2.1
      rw [← hc] at hR
      replace hR : (if ((c.ha = true ∧ c.hb = true) ∧ c.b < c.a) ∨ (c.hs = true ∧ c.s ≤ 0) then (cq0, false, 1) else (c, !cqz c, 0)) = R := hR
      have HX := Lib.hid hcw
      clear hcw hat hc hlt
      obtain ⟨x0, x1, x2, x3, x4, x5, x6, x7, x8, x9⟩ := ten HX.out.c1.r
      obtain ⟨ca, cb, cha, chb, cg, cl, cs, chg, chl, chs⟩ := c
      dsimp only at hR x0 x1 x2 x3 x4 x5 x6 x7 x8 x9
      by_cases herr : ((cha = true ∧ chb = true) ∧ cb < ca) ∨ (chs = true ∧ cs ≤ 0)
      · rw [if_pos herr] at hR
        subst hR
        rcases (show (cha = true ∧ chb = true ∧ cb < ca) ∨ (cha = false ∧ chs = true ∧ cs ≤ 0) ∨ (cha = true ∧ chb = false ∧ chs = true ∧ cs ≤ 0) ∨ (cha = true ∧ chb = true ∧ ¬ cb < ca ∧ chs = true ∧ cs ≤ 0) by
          rcases herr with ⟨⟨h1, h2⟩, h3⟩ | ⟨h1, h2⟩
          · exact .inl ⟨h1, h2, h3⟩
          · cases cha with
            | false => exact .inr (.inl ⟨rfl, h1, h2⟩)
            | true => cases chb with
              | false => exact .inr (.inr (.inl ⟨rfl, rfl, h1, h2⟩))
              | true =>
                by_cases h3 : cb < ca
                · exact .inl ⟨rfl, rfl, h3⟩
                · exact .inr (.inr (.inr ⟨rfl, rfl, h3, h1, h2⟩))) with ⟨rfl, rfl, g1⟩ | ⟨rfl, rfl, g1⟩ | ⟨rfl, rfl, rfl, g1⟩ | ⟨rfl, rfl, g2, rfl, g1⟩
        all_goals
          clear herr
          go_wp2_with (refine wpList_store_mid rfl 47 (.tmp 2) (.tmp 42) rfl w.heap.size 0 cq0.vals.toArray rfl rfl HX.out.t0 size_cond (all_oneCell_toArray (one10 cq0)) ?_)
          refine bodyPost_ret (results_cell_tmp2 rfl _ _ _ w.heap.size cq0.vals _ rfl (range_stored HX.out.t0) Tryd.underlying47 rfl size_cond) rfl ?_
          exact ⟨rfl, below_setCells HX.out.bel (Nat.le_refl _) _ 0⟩
      · rw [if_neg herr] at hR
        subst hR
        obtain ⟨CV, hCV⟩ : ∃ CV : Cq, CV = ⟨ca, cb, cha, chb, cg, cl, cs, chg, chl, chs⟩ := ⟨_, rfl⟩
        have HV := Lib.hid hCV
        rw [← hCV] at HX
        clear hCV
        obtain ⟨q, hq⟩ : ∃ q, cqz ⟨ca, cb, cha, chb, cg, cl, cs, chg, chl, chs⟩ = q := ⟨_, rfl⟩
        have hce := fun W => cq_ne ca cb cha chb cg cl cs chg chl chs W
        rw [hq] at hce
        have HE := Lib.hid hce
        have HQ := Lib.hid hq
        clear hce hq
        rcases (show (cha = false ∧ chs = false) ∨ (cha = true ∧ chb = false ∧ chs = false) ∨ (cha = true ∧ chb = true ∧ ¬ cb < ca ∧ chs = false) ∨ (cha = false ∧ chs = true ∧ ¬ cs ≤ 0) ∨ (cha = true ∧ chb = false ∧ chs = true ∧ ¬ cs ≤ 0) ∨ (cha = true ∧ chb = true ∧ ¬ cb < ca ∧ chs = true ∧ ¬ cs ≤ 0) by
          cases cha with
          | false => cases chs with
            | false => exact .inl ⟨rfl, rfl⟩
            | true => exact .inr (.inr (.inr (.inl ⟨rfl, rfl, fun h => herr (.inr ⟨rfl, h⟩)⟩)))
          | true => cases chb with
            | false => cases chs with
              | false => exact .inr (.inl ⟨rfl, rfl, rfl⟩)
              | true => exact .inr (.inr (.inr (.inr (.inl ⟨rfl, rfl, rfl, fun h => herr (.inr ⟨rfl, h⟩)⟩))))
            | true => cases chs with
              | false => exact .inr (.inr (.inl ⟨rfl, rfl, fun h => herr (.inl ⟨⟨rfl, rfl⟩, h⟩), rfl⟩))
              | true => exact .inr (.inr (.inr (.inr (.inr ⟨rfl, rfl, fun h => herr (.inl ⟨⟨rfl, rfl⟩, h⟩), rfl, fun h => herr (.inr ⟨rfl, h⟩)⟩))))) with ⟨rfl, rfl⟩ | ⟨rfl, rfl, rfl⟩ | ⟨rfl, rfl, g2, rfl⟩ | ⟨rfl, rfl, g1⟩ | ⟨rfl, rfl, rfl, g1⟩ | ⟨rfl, rfl, g2, rfl, g1⟩
        all_goals
          clear herr
          go_wp2
          refine wp_region_rel2 (fun W => CdW w W CV) (fun W W' => W.rangeAt w.heap.size 0 CV.vals → W'.rangeAt w.heap.size 0 CV.vals) (CdR w CV q) [(5, .pointer (some ⟨w.heap.size + 1, 0, none⟩)), (2, .pointer (some ⟨w.heap.size, 0, none⟩))] (by kernel_rfl) (by kernel_rfl) (by kernel_rfl) ?base (HX.out.below (drew_below _ _)) cdr_up ?steps ?fin
          case base =>
            intro x hx
            simp only [List.mem_cons, List.not_mem_nil, or_false] at hx
            rcases hx with rfl | rfl <;> exact ⟨rfl, rfl⟩
          case steps =>
            refine steps_cons ?_ (steps_cons ?_ (steps_cons ?_ (steps_cons ?_ (steps_cons ?_ (steps_cons ?_ (steps_cons ?_ steps_nil))))))
            · intro a wx K hS hB hR hK
              rw [if_pos (wanted_none rfl)]
              have h5 := tmp_is (hB.1)
              have hc := hS.c1.r
              rw [HV.out] at hc
              obtain ⟨y0, y1, y2, y3, y4, y5, y6, y7, y8, y9⟩ := ten hc
              go_simp
              exact hK _ wx hS (fun h => h) (by show _ = _; rw [HV.out]; rfl)
            · intro a wx K hS hB hR hK
              rw [if_pos (wanted_none rfl)]
              have h5 := tmp_is (hB.1)
              have hc := hS.c1.r
              rw [HV.out] at hc
              obtain ⟨y0, y1, y2, y3, y4, y5, y6, y7, y8, y9⟩ := ten hc
              go_simp
              exact hK _ wx hS (fun h => h) (by show _ = _; rw [HV.out]; rfl)
            · intro a wx K hS hB hR hK
              rw [if_pos (wanted_none rfl)]
              go_simp
              exact hK _ wx hS (fun h => h) rfl
            · intro a wx K hS hB hR hK
              rw [if_pos (wanted_none rfl)]
              have h44 := tmp_is (hR.1)
              have h45 := tmp_is (hR.2.1)
              rw [HV.out] at h44
              simp only [Cq.vals] at h44
              simp only [Cq.vals, cq0] at h45
              have hg : Tryd.prog.eqGuardType Tryd.prog.depth 47 = false := by kernel_rfl
              go_simp
              (repeat' split)
              all_goals first
                | (have hq : q = false := by { rw [← HQ.out]; exact decide_eq_false (fun ⟨g0, g1, g2, g3, g4, g5, g6, g7, g8, g9⟩ => by first | exact absurd g0 (by assumption) | exact absurd g1 (by assumption) | exact absurd g4 (by assumption) | exact absurd g5 (by assumption) | exact absurd g6 (by assumption) | exact Bool.noConfusion g2 | exact Bool.noConfusion g3 | exact Bool.noConfusion g7 | exact Bool.noConfusion g8 | exact Bool.noConfusion g9 | exact absurd (g2.symm.trans (show _ = true by assumption)) (by decide) | exact absurd (g3.symm.trans (show _ = true by assumption)) (by decide) | exact absurd (g7.symm.trans (show _ = true by assumption)) (by decide) | exact absurd (g8.symm.trans (show _ = true by assumption)) (by decide) | exact absurd (g9.symm.trans (show _ = true by assumption)) (by decide)) }; go_simp; have hk := hK (.bool true) wx hS (fun h => h) (by show _ = _; rw [hq]; rfl); first | exact hk | (go_simp; exact hk))
                | (have hq : q = true := by { rw [← HQ.out]; exact decide_eq_true ⟨(by first | rfl | assumption | exact eq_false_of_ne_true (by assumption)), (by first | rfl | assumption | exact eq_false_of_ne_true (by assumption)), (by first | rfl | assumption | exact eq_false_of_ne_true (by assumption)), (by first | rfl | assumption | exact eq_false_of_ne_true (by assumption)), (by first | rfl | assumption | exact eq_false_of_ne_true (by assumption)), (by first | rfl | assumption | exact eq_false_of_ne_true (by assumption)), (by first | rfl | assumption | exact eq_false_of_ne_true (by assumption)), (by first | rfl | assumption | exact eq_false_of_ne_true (by assumption)), (by first | rfl | assumption | exact eq_false_of_ne_true (by assumption)), (by first | rfl | assumption | exact eq_false_of_ne_true (by assumption))⟩ }; have hk := hK (.bool false) wx hS (fun h => h) (by show _ = _; rw [hq]; rfl); first | exact hk | (go_simp; exact hk))
            · intro a wx K hS hB hR hK
              rw [if_pos (wanted_none rfl)]
              refine wp_store_mid 47 (.tmp 2) (.tmp 43) (by rfl) w.heap.size 0 CV.vals.toArray (hB.2.1) (hR.1) hS.t0 size_cond (all_oneCell_toArray (one10 CV)) ?_
              exact hK undef _ hS.put (fun _ => range_stored hS.t0) (range_stored hS.t0)
            · intro a wx K hS hB hR hK
              rw [if_pos (wanted_none rfl)]
              have h46 := tmp_is (hR.1)
              go_simp
              exact hK (.bool (!q)) wx hS (fun h => h) rfl
            · intro a wx K hS hB hR hK
              rw [if_pos (wanted_none rfl)]
              go_simp
              exact hK (.int .i64 0) wx hS (fun h => h) rfl
          case fin =>
            intro a wx hS ha hR
            have hx3 : a.eval (.tmp 3) = .bool (!q) := deps_mem _ hR 5 (by decide)
            have hx4 : a.eval (.tmp 4) = .int .i64 0 := deps_mem _ hR 6 (by decide)
            have hst : wx.rangeAt w.heap.size 0 CV.vals := deps_mem _ hR 4 (by decide)
            have H8 := Lib.hid (And.intro hst hS.bel)
            clear hR hS hst
            simp only [pin] at ha
            rw [ha]
            simp only [List.setIfInBounds_toArray, List.set_cons_zero, List.set_cons_succ, hx3, hx4]
            clear ha hx3 hx4
            go_wp2
            refine bodyPost_ret (results_cell_tmp2 rfl _ _ _ w.heap.size CV.vals _ rfl H8.out.1 Tryd.underlying47 rfl size_cond) rfl ?_
            exact ⟨by rw [HQ.out, HV.out]; rfl, H8.out.2⟩
end Go.Proofs.YtbclgalocipmfaaDoor
