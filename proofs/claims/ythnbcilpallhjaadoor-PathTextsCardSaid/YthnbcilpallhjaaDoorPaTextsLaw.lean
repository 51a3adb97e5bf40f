/-
  A text cut at each slash, the document's path of a text, and the law PathTexts.
-/
import Derived.Test.YthnbcilpallhjaaDoorPaRef2
import Derived.Test.YthnbcilpallhjaaDoorPaAlive
import Derived.Test.YthnbcilpallhjaaDoorArgs
namespace Go.Proofs.YthnbcilpallhjaaDoor
open Go.ChangeShapes Go.WideShapes Go.ChangeAt Go.RowKit
set_option maxRecDepth 100000
set_option linter.unusedVariables false
/-- A text cut at each slash. -/
def splitG : List UInt8 → List UInt8 → List (List UInt8)
  | cur, [] => [cur]
  | cur, c :: r => if c = 47 then cur :: splitG [] r else splitG (cur ++ [c]) r
theorem splitG_cut : ∀ (l cur : List UInt8), (Lib.indexByte l 47 = -1 ∧ splitG cur l = [cur ++ l]) ∨ ∃ k : Nat, Lib.indexByte l 47 = (k : Int) ∧ k < l.length ∧ splitG cur l = (cur ++ l.take k) :: splitG [] (l.drop (k + 1))
  | [], cur => .inl ⟨rfl, by rw [splitG, List.append_nil]⟩
  | c :: r, cur => by
    unfold Lib.indexByte
    by_cases hc : c = 47
    · subst hc
      right
      refine ⟨0, rfl, Nat.succ_pos _, ?_⟩
      rw [splitG, if_pos rfl, List.take_zero, List.append_nil]; rfl
    · rw [if_neg (by simpa using hc)]
      rw [splitG, if_neg hc]
      rcases splitG_cut r (cur ++ [c]) with ⟨h, e⟩ | ⟨k, h, hk, e⟩
      · left
        rw [h, e]
        exact ⟨rfl, by rw [List.append_assoc]; rfl⟩
      · right
        refine ⟨k + 1, ?_, by rw [List.length_cons]; omega, ?_⟩
        · rw [h, if_neg (by first | (simp; done) | (simp; omega))]; omega
        · rw [e, List.append_assoc]; rfl
theorem digs_slash : ∀ (l : List UInt8) (a k : Nat), Lib.indexByte l 47 = (k : Int) → digs l a = none
  | [], a, k, h => by
    replace h : (-1 : Int) = k := h
    omega
  | c :: r, a, k, h => by
    unfold digs
    by_cases hd : c.toNat < 48 ∨ 57 < c.toNat
    · rw [if_pos hd]
    · rw [if_neg hd]
      unfold Lib.indexByte at h
      rw [if_neg (by
        intro e
        have : c = 47 := by simpa using e
        subst this
        exact hd (.inl (by decide)))] at h
      by_cases h1 : (Lib.indexByte r 47 == -1) = true
      · rw [if_pos h1] at h; omega
      · rw [if_neg h1] at h
        exact digs_slash r _ (k - 1) (by have := Lib.indexByte_ge r 47; have h2 : Lib.indexByte r 47 ≠ -1 := by simpa using h1
                                         omega)
theorem numM_slash {most : Nat} {l : List UInt8} {k : Nat} (h : Lib.indexByte l 47 = (k : Int)) : numM most l = none := by
  unfold numM
  rw [digs_slash l 0 k h]
  split
  · rfl
  · rfl
theorem numsQ_3 {a b c : List UInt8} (h : numM 65535 c = none) : numsQ [a, b, c] = none := by
  simp only [numsQ, h]
  cases numM 65535 a <;> cases numM 65535 b <;> rfl
theorem splitG_len (cur : List UInt8) (l : List UInt8) : 1 ≤ (splitG cur l).length := by
  rcases splitG_cut l cur with ⟨_, e⟩ | ⟨k, _, _, e⟩
  · rw [e]; exact Nat.le_refl _
  · rw [e, List.length_cons]; omega
theorem split_same (r : List UInt8) : numsQ (splitB 2 r) = if 3 < (splitG [] r).length then none else numsQ (splitG [] r) := by
  rcases splitG_cut r [] with ⟨h1, e1⟩ | ⟨k1, h1, _, e1⟩
  · rw [splitB_none h1, e1]; rfl
  rw [splitB_some h1, e1]
  rcases splitG_cut (r.drop (k1 + 1)) [] with ⟨h2, e2⟩ | ⟨k2, h2, _, e2⟩
  · rw [splitB_none h2, e2]; rfl
  rw [splitB_some h2, e2]
  rcases splitG_cut ((r.drop (k1 + 1)).drop (k2 + 1)) [] with ⟨h3, e3⟩ | ⟨k3, h3, _, e3⟩
  · rw [e3]; rfl
  rw [show ∀ l, splitB 0 l = [l] from fun l => rfl, numsQ_3 (numM_slash h3), if_pos]
  rw [e3]
  have := splitG_len [] (((r.drop (k1 + 1)).drop (k2 + 1)).drop (k3 + 1))
  simp only [List.length_cons]
  omega
theorem splitG_parts : ∀ (l cur : List UInt8), ∀ x ∈ splitG cur l, x.length ≤ cur.length + l.length
  | [], cur, x, h => by
    rw [splitG] at h
    obtain rfl := List.mem_singleton.1 h
    simp
  | c :: r, cur, x, h => by
    rw [splitG] at h
    split at h
    · rcases List.mem_cons.1 h with rfl | h
      · simp
      · have := splitG_parts r [] x h
        simp at this ⊢
        omega
    · have := splitG_parts r _ x h
      simp at this ⊢
      omega
theorem splitG_many : ∀ (l cur : List UInt8), (splitG cur l).length ≤ l.length + 1
  | [], cur => by rw [splitG]; exact Nat.le_refl _
  | c :: r, cur => by
    rw [splitG]
    split
    · rw [List.length_cons, List.length_cons]; have := splitG_many r []; omega
    · rw [List.length_cons]; have := splitG_many r (cur ++ [c]); omega
theorem ints_of {X : List ByteArray} {w w1 : World} {A : Option Addr} {n c : Nat} (h : w1.ownsRow w.heap.size 9 1 (.slice A n c) n (stK.all X)) : stK.At w1 w1.heap.size A n X := by
  obtain ⟨A', c', e, _, _, hat, _⟩ := RowK.At.of_own h
  injection e with e1 _ e3
  subst e1 e3
  exact hat
theorem ext_seg (s : ByteArray) (a b : Nat) : (s.extract a b).data.toList = (s.data.toList.drop a).take (b - a) := by
  simp [ByteArray.data_extract, Array.toList_extract, List.extract_eq_take_drop]
theorem NumsFew.shape {ls : List (List UInt8)} {o : Option (List Int)} {w0 w w' : World} {e : Ending} (ho : (if 3 < ls.length then none else numsQ ls) = o) (hb : Below w0.heap.size w0 w) (h : NumsFew ls w e w') :
    (o = none ∧ ∃ er : Int, (er = 3 ∨ er = 20) ∧ e = .returned (.tuple #[.slice none 0 0, .int .i64 er]) ∧ Below w0.heap.size w0 w') ∨ ∃ A n c, e = .returned (.tuple #[.slice A n c, .int .i64 0]) ∧ NumsRet o w0 (.returned (.tuple #[.slice A n c, .int .i64 0])) w' := by
  unfold NumsFew at h
  by_cases h3 : 3 < ls.length
  · rw [if_pos h3] at h ho
    exact .inl ⟨ho.symm, 3, .inl rfl, h.1, hb.trans (h.2.mono hb.size)⟩
  · rw [if_neg h3] at h ho
    rw [ho] at h
    cases o with
    | none => exact .inl ⟨rfl, 20, .inr rfl, h.1, hb.trans (h.2.mono hb.size)⟩
    | some zs =>
      have h2 := NumsRet.trans h hb
      obtain ⟨A, n, c, rfl, _⟩ := h
      exact .inr ⟨A, n, c, rfl, h2⟩
set_option maxHeartbeats 4000000 in
theorem rread16_f (s : ByteArray) (hs : s.size ≤ 1000000) (w : World) :
    Calls Tryd.prog 14 #[.string s] w (NumsRet (readP s.data.toList) w) := by
  obtain ⟨i0, hi0, hz0, hz1, hz2⟩ := info_parts info_st
  have hsl : s.data.toList.length = s.size := Array.length_toList
  have hsI : (s.size : Int) ≤ 1000000 := by omega
  obtain ⟨RR, hRR⟩ : ∃ RR, readP s.data.toList = RR := ⟨_, rfl⟩
  rw [hRR]
  unfold readP at hRR
  by_cases h1 : s.data.toList = [47]
  · rw [h1] at hRR
    obtain rfl : s = ⟨#[47]⟩ := by
      cases s with | mk a => cases a with | mk l => exact congrArg (fun l => (⟨⟨l⟩⟩ : ByteArray)) h1
    replace hRR : some [] = RR := hRR
    subst hRR
    clear h1 hsl hs hsI
    go_enter Tryd.func14, Tryd.ntmps14
    go_wp2
    go_ret2
    exact NumsRet.of (rk_empty w w.heap.size (Nat.le_refl _) _ _) (alloc_below w _)
  by_cases h0 : s.data.toList = []
  · rw [h0] at hRR
    obtain rfl : s = ⟨#[]⟩ := str_empty h0
    replace hRR : none = RR := hRR
    subst hRR
    clear h1 hsl hs hsI h0
    go_enter Tryd.func14, Tryd.ntmps14
    go_wp2
    go_ret2
    exact ⟨rfl, Below.refl _ _⟩
  have p2 : ¬ s.toList = [47] := by rw [ByteArray.toList_eq]; exact h1
  have p1 : (s.toList == [47]) = false := beq_eq_false_iff_ne.2 p2
  have g2 : ¬ s.toList = [] := by rw [ByteArray.toList_eq]; exact h0
  have g1 : (s.toList == []) = false := beq_eq_false_iff_ne.2 g2
  have g3 : s.toList.isEmpty = false := by cases hh : s.toList with | nil => exact absurd hh g2 | cons a b => rfl
  have hpos : 0 < s.size := by
    rcases Nat.eq_zero_or_pos s.size with h | h
    · exact absurd (List.eq_nil_of_length_eq_zero (by omega)) h0
    · exact h
  have hposI : (0 : Int) < s.size := by omega
  obtain ⟨c, hc⟩ : ∃ c, s[0]'hpos = c := ⟨_, rfl⟩
  have hhd : s.data.toList.head? = some c := by
    have h1 : s.data.toList[0]? = some (s[0]'hpos) := by rw [Array.getElem?_toList, Array.getElem?_eq_getElem hpos]; rfl
    rw [List.head?_eq_getElem?, h1, hc]
  rw [hhd] at hRR
  by_cases h47 : c = 47
  case neg =>
    rw [if_neg (fun e => h47 (Option.some.inj e))] at hRR
    subst hRR
    have hcn : (s[0]'hpos).toNat = c.toNat := by rw [hc]
    have hcI : ¬ (c.toNat : Int) = 47 := fun e => h47 (UInt8.toNat_inj.1 (by show c.toNat = 47; omega))
    have hcJ : ((c.toNat : Int) == 47) = false := beq_eq_false_iff_ne.2 hcI
    have hcK : ((c.toNat : Int) != 47) = true := bne_iff_ne.2 hcI
    obtain ⟨cn, hcc⟩ : ∃ cn, c.toNat = cn := ⟨_, rfl⟩
    rw [hcc] at hcn hcI hcJ hcK
    clear h1 h0 hsl hs hhd hc hcc
    go_enter Tryd.func14, Tryd.ntmps14
    go_wp2
    go_ret2
    exact ⟨rfl, Below.refl _ _⟩
  subst h47
  have hcn : (s[0]'hpos).toNat = 47 := by rw [hc]; rfl
  have hne : s.data.toList.drop 1 ≠ [] := by
    intro e
    cases hl : s.data.toList with
    | nil => exact h0 hl
    | cons x r =>
      rw [hl] at e hhd
      replace e : r = [] := e
      subst e
      obtain rfl := Option.some.inj hhd
      exact h1 hl
  rw [if_pos rfl, if_neg hne, split_same] at hRR
  obtain ⟨L, hL⟩ : ∃ L, splitG [] (s.data.toList.drop 1) = L := ⟨_, rfl⟩
  rw [hL] at hRR
  have hmany : L.length ≤ s.size + 1 := by
    have := splitG_many (s.data.toList.drop 1) []
    rw [hL, List.length_drop] at this
    omega
  have hpart : ∀ x ∈ L, x.length ≤ s.size := fun x hx => by
    rw [← hL] at hx
    have := splitG_parts _ _ x hx
    rw [List.length_drop] at this
    simp at this
    omega
  have hn := fun (A : Option Addr) (n c : Nat) (X : List ByteArray) W B (hat : stK.At W B A n X) (hB : B ≤ W.heap.size) (hn : n ≤ 1048576) (hmx : ∀ s ∈ X, s.size ≤ 1000000) => rnumbers_f A n c X W B hat hB hn hmx
  have hst0 : splitG ((s.data.toList.drop 1).take (1 - 1)) (s.data.toList.drop 1) = L := hL
  have HH := Lib.hid (And.intro hRR (And.intro hmany (And.intro hpart (And.intro hn (And.intro hsl hst0)))))
  clear h1 h0 hhd hc hne hRR hL hmany hpart hn hsl hst0
  go_enter Tryd.func14, Tryd.ntmps14
  go_wp2
  go_loopw [4, 5, 6] (fun v3 v4 v5 wr => ∃ (k frm nn c' : Nat) (A' : Option Addr), 1 ≤ k ∧ k ≤ s.size + 1 ∧ v5 = .int .i64 (k : Int) ∧ v4 = .int .i64 (frm : Int) ∧ v3 = .slice A' nn c' ∧ nn + 1 ≤ k ∧ frm ≤ k ∧ Aside (∃ X, wr.ownsRow w.heap.size 9 1 (.slice A' nn c') nn (stK.all X) ∧ Below w.heap.size w wr ∧ (k ≤ s.size → txs X ++ splitG ((s.data.toList.drop frm).take (k - frm)) (s.data.toList.drop k) = L) ∧ (k = s.size + 1 → txs X = L))) (fun _ _ v5 _ => s.size + 1 - (intOf v5).toNat)
  case atStart => exact ⟨1, 1, 0, _, _, Nat.le_refl _, by omega, rfl, rfl, rfl, Nat.le_refl _, Nat.le_refl _, (show Aside _ from ⟨[], rk_empty w w.heap.size (Nat.le_refl _) _ _, alloc_below w _, fun _ => HH.out.2.2.2.2.2, fun h => absurd h (by omega)⟩)⟩
  case round =>
    obtain ⟨k, frm, nn, c', A', hk1, hk, rfl, rfl, rfl, hnn, hfr, hrel⟩ := hrel
    obtain ⟨X, hown, hbel, hr1, hr2⟩ := hrel.out
    clear hrel
    by_cases hlt : k ≤ s.size
    · have hltI : (k : Int) ≤ s.size := by omega
      have hr := hr1 hlt
      have hsz := hbel.size
      have hfI : (frm : Int) ≤ k := by omega
      have e1 := ext_seg s frm k
      by_cases hkE : k = s.size
      · have hd : s.data.toList.drop k = [] := List.drop_of_length_le (by rw [HH.out.2.2.2.2.1]; omega)
        rw [hd, splitG, ← e1] at hr
        have hX2 : txs (X ++ [s.extract frm k]) = L := by rw [← hr]; unfold txs; rw [List.map_append]; rfl
        have HX := Lib.hid (And.intro hown (And.intro hbel (And.intro hsz hX2)))
        clear hown hbel hr hr1 hr2 hd e1 hsz hX2
        subst hkE
        have hkB : ((s.size : Int) == (s.size : Int)) = true := beq_self_eq_true _
        go_wp2_with (at_builtin; go_loud (refine stK.append_one wr rfl (.tmp 36) (.tmp 41) 53 rfl w.heap.size 9 i0 _ 16 Tryd.underlying53 hi0 hz0 hz1 hz2 rfl (.slice A' nn c') nn _ rfl HX.out.1 (s.extract frm s.size) _ rfl _ rfl (by omega) (by unfold maxLen; omega) HX.out.2.2.1 ?_); intro A6 c6 w6 hown6 hgr6; have H6 := Lib.hid (And.intro hown6 hgr6); clear hown6 hgr6)
        go_roundw
        case rel => exact ⟨s.size + 1, s.size + 1, nn + 1, c6, A6, by omega, by omega, by go_num, by go_num, rfl, by omega, Nat.le_refl _, (show Aside _ from ⟨_, H6.out.1, rk_in' (HX.out.2.1.trans (Below.mono (alloc_below wr _) HX.out.2.2.1)) (HX.out.1.alloc _) H6.out.2 (by have := HX.out.2.2.1; rw [alloc_size]; omega), fun h => absurd h (by omega), fun _ => HX.out.2.2.2⟩)⟩
        case measure => simp [intOf]
      · have hks : k < s.size := by omega
        have hksI : (k : Int) < s.size := by omega
        have hkEI : ¬ (k : Int) = s.size := by omega
        have hkB : ((k : Int) == (s.size : Int)) = false := beq_eq_false_iff_ne.2 hkEI
        obtain ⟨y, hy⟩ : ∃ y, s[k]'hks = y := ⟨_, rfl⟩
        have hyl : s.data.toList[k]? = some y := by rw [Array.getElem?_toList, Array.getElem?_eq_getElem hks]; exact congrArg some hy
        have hd : s.data.toList.drop k = y :: s.data.toList.drop (k + 1) := by
          obtain ⟨hkl, e⟩ := List.getElem?_eq_some_iff.1 hyl
          rw [List.drop_eq_getElem_cons hkl, e]
        rw [hd, splitG] at hr
        have hsn : (s[k]'hks).toNat = y.toNat := by rw [hy]
        by_cases hy47 : y = 47
        · rw [if_pos hy47, ← e1] at hr
          subst hy47
          replace hsn : (s[k]'hks).toNat = 47 := hsn
          have hX2 : txs (X ++ [s.extract frm k]) ++ splitG ((s.data.toList.drop (k + 1)).take (k + 1 - (k + 1))) (s.data.toList.drop (k + 1)) = L := by
            rw [← hr, Nat.sub_self, List.take_zero]; unfold txs; rw [List.map_append, List.append_assoc]; rfl
          have HX := Lib.hid (And.intro hown (And.intro hbel (And.intro hsz hX2)))
          clear hown hbel hr hr1 hr2 hd e1 hsz hX2 hy hyl
          go_wp2_with (at_builtin; go_loud (refine stK.append_one wr rfl (.tmp 36) (.tmp 41) 53 rfl w.heap.size 9 i0 _ 16 Tryd.underlying53 hi0 hz0 hz1 hz2 rfl (.slice A' nn c') nn _ rfl HX.out.1 (s.extract frm k) _ rfl _ rfl (by omega) (by unfold maxLen; omega) HX.out.2.2.1 ?_); intro A6 c6 w6 hown6 hgr6; have H6 := Lib.hid (And.intro hown6 hgr6); clear hown6 hgr6)
          go_roundw
          case rel => exact ⟨k + 1, k + 1, nn + 1, c6, A6, by omega, by omega, by go_num, by go_num, rfl, by omega, Nat.le_refl _, (show Aside _ from ⟨_, H6.out.1, rk_in' (HX.out.2.1.trans (Below.mono (alloc_below wr _) HX.out.2.2.1)) (HX.out.1.alloc _) H6.out.2 (by have := HX.out.2.2.1; rw [alloc_size]; omega), fun _ => HX.out.2.2.2, fun h => absurd h (by omega)⟩)⟩
          case measure => simp [intOf]; omega
        · rw [if_neg hy47] at hr
          have hyI : ¬ (y.toNat : Int) = 47 := fun e => hy47 (UInt8.toNat_inj.1 (by show y.toNat = 47; omega))
          have hyJ : ((y.toNat : Int) == 47) = false := beq_eq_false_iff_ne.2 hyI
          have hX2 : txs X ++ splitG ((s.data.toList.drop frm).take (k + 1 - frm)) (s.data.toList.drop (k + 1)) = L := by
            rw [← hr, show k + 1 - frm = (k - frm) + 1 by omega, List.take_add_one, List.getElem?_drop, show frm + (k - frm) = k by omega, hyl]; rfl
          obtain ⟨yn, hyn⟩ : ∃ yn, y.toNat = yn := ⟨_, rfl⟩
          rw [hyn] at hyI hyJ hsn
          have HX := Lib.hid (And.intro hown (And.intro hbel hX2))
          clear hown hbel hr hr1 hr2 hd e1 hsz hX2 hy hyl hyn hy47
          go_wp2
          go_roundw
          case rel => exact ⟨k + 1, frm, nn, c', A', by omega, by omega, by go_num, rfl, rfl, by omega, by omega, (show Aside _ from ⟨X, HX.out.1, HX.out.2.1, fun _ => HX.out.2.2, fun h => absurd h (by omega)⟩)⟩
          case measure => simp [intOf]; omega
    · obtain rfl : k = s.size + 1 := by omega
      have hltI : ¬ ((s.size + 1 : Nat) : Int) ≤ s.size := by omega
      have htx := hr2 rfl
      have hat := ints_of hown
      have hXl : X.length = nn := RowK.own_len hown
      have hXm : ∀ t ∈ X, t.size ≤ 1000000 := fun x hx => by
        have h1 : x.data.toList ∈ txs X := List.mem_map_of_mem hx
        rw [htx] at h1
        have h2 := HH.out.2.2.1 _ h1
        rw [size_list] at h2
        omega
      have hcall := HH.out.2.2.2.1 A' nn c' X wr _ hat (Nat.le_refl _) (by omega) hXm
      rw [htx] at hcall
      have HX := Lib.hid (And.intro hcall hbel)
      clear hown hbel hr1 hr2 htx hat hXl hXm hcall hlt
      go_wp2_with fail
      refine HX.out.1.mono ?_
      rintro e w3 h3
      rcases NumsFew.shape HH.out.1 HX.out.2 h3 with ⟨rfl, er, her, rfl, hb⟩ | ⟨A3, n3, c3, rfl, hr3⟩
      · have H3 := Lib.hid hb
        clear h3 hb
        have hr0 : ¬ er = 0 := by omega
        have hr1 : (er == 0) = false := beq_eq_false_iff_ne.2 hr0
        have hr2 : (er != 0) = true := bne_iff_ne.2 hr0
        clear her
        try dsimp only
        go_wp2
        go_ret2
        exact ⟨rfl, H3.out⟩
      · have H3 := Lib.hid hr3
        clear h3 hr3
        try dsimp only
        go_wp2
        go_ret2
        exact H3.out
theorem numsQ_len : ∀ (ls : List (List UInt8)) (zs : List Int), numsQ ls = some zs → zs.length = ls.length
  | [], zs, h => by
    obtain rfl := Option.some.inj h
    rfl
  | x :: r, zs, h => by
    rw [numsQ] at h
    split at h
    · cases h
    · split at h
      · cases h
      · rename_i zs2 h2
        obtain rfl := Option.some.inj h
        rw [List.length_cons, List.length_cons, numsQ_len r zs2 h2]
theorem readP_few {l : List UInt8} {zs : List Int} (h : readP l = some zs) : zs.length ≤ 3 := by
  unfold readP at h
  split at h
  · split at h
    · obtain rfl := Option.some.inj h
      decide
    · rw [numsQ_len _ _ h]
      exact splitB_few 2 _
  · cases h
/-- A row of whole numbers as they lie. -/
theorem args_inK {H : Type} {enc : TypeId × Value → H} {W : World} {base : Nat} {a : Option Addr} {len cap : Nat} {d : DataW H} {p : List MemPlace} (h : DataW.Trod enc Tryd.prog W base (fun _ => true) true 23 (.slice a len cap) d p) :
    ∃ zs, inK.At W W.heap.size a len zs ∧ len ≤ cap ∧ cap ≤ maxLen := by
  obtain ⟨fuel, hf⟩ := h
  rcases open_ints Tryd.underlying23 Tryd.underlying3 (by kernel_rfl) hf with ⟨hcs, _⟩ | ⟨x, l, c, zs, hcs, _, hl, hm, hz, _, hcell, hwz⟩
  · simp [Value.cells] at hcs
    obtain ⟨rfl, rfl, rfl⟩ := hcs
    exact ⟨[], RowK.At.nil_ _ _ _, by omega, by omega⟩
  · simp [Value.cells] at hcs
    obtain ⟨rfl, rfl, rfl⟩ := hcs
    have hz' : zs.length = cap := by simpa using hz
    refine ⟨zs.take len, ⟨by rw [List.length_take]; omega, fun hn => ?_⟩, hl, hm⟩
    obtain ⟨b, off, spot⟩ := x
    have hc := hcell 0 (by omega)
    have hspot : spot = none := by simpa [Addr.add] using World.cell?_spot hc
    subst hspot
    refine ⟨b, off, rfl, World.block_lt_of_cell? _ ⟨b, off, none⟩ (by simpa [Addr.add] using hc), fun k u hu j v hj => ?_⟩
    rw [List.getElem?_take] at hu
    split at hu
    · have hk := (List.getElem?_eq_some_iff.1 hu).1
      have h1 := hcell k hk
      rw [Addr.add_lit] at h1
      have hj' : [Value.int .i64 u][j]? = some v := hj
      cases j with
      | zero =>
        obtain rfl := Option.some.inj hj'
        rw [Nat.mul_one, Nat.add_zero, h1, List.getD_eq_getElem?_getD, hu, Option.getD_some]
      | succ j => simp at hj'
    · cases hu
set_option maxHeartbeats 4000000 in
theorem ptexts_law (A : Option Addr) (n c : Nat) (zs : List Int) (s : ByteArray) (w : World) (hat : inK.At w w.heap.size A n zs) (hT : Tab7 w) :
    Calls Tryd.prog 4 #[.slice A n c, .string s] w fun e w' => e = .returned (.bool true) ∧ Below w.heap.size w w' := by
  have HT := Lib.hid fun W (h : Below w.heap.size w W) => hT.below h
  have HL := Lib.hid (alive16_f w hT)
  clear hT
  by_cases hn : (100 : Int) < n
  · clear hat
    go_enter Tryd.func4, Tryd.ntmps4
    go_wp2_with fail
    refine HL.out.mono ?_
    rintro e w1 ⟨rfl, b1⟩
    have H1 := Lib.hid b1
    clear b1
    try dsimp only
    go_wp2
    go_ret
    exact ⟨rfl, H1.out⟩
  by_cases hs : (1000 : Int) < s.size
  · clear hat
    go_enter Tryd.func4, Tryd.ntmps4
    go_wp2_with fail
    refine HL.out.mono ?_
    rintro e w1 ⟨rfl, b1⟩
    have H1 := Lib.hid b1
    clear b1
    try dsimp only
    go_wp2
    go_ret
    exact ⟨rfl, H1.out⟩
  have hsz : s.size ≤ 1000000 := by omega
  have HA := Lib.hid (And.intro hat hsz)
  clear hat hsz
  go_enter Tryd.func4, Tryd.ntmps4
  go_wp2_with fail
  refine HL.out.mono ?_
  rintro e w1 ⟨rfl, b1⟩
  have H1 := Lib.hid b1
  clear b1
  try dsimp only
  go_wp2_with fail
  refine (pread_f s HA.out.2 w1 (HT.out w1 H1.out).e).mono ?_
  intro e w2 h2
  obtain ⟨A2, n2, c2, er2, rfl, h2⟩ := h2.shape
  have H2 := Lib.hid h2
  clear h2
  try dsimp only
  go_wp2_with fail
  refine (rread16_f s HA.out.2 w2).mono ?_
  intro e w3 h3
  obtain ⟨A3, n3, c3, er3, rfl, h3⟩ := h3.shape
  have h2 := H2.out
  clear H2
  have hboth : er2 = er3 ∧ n2 = n3 ∧ (n2 : Int) ≤ 3 ∧ Below w1.heap.size w1 w2 ∧ Below w2.heap.size w2 w3 ∧ ∃ xs B2 B3, inK.At w2 B2 A2 n2 xs ∧ inK.At w3 B3 A3 n3 xs ∧ B2 ≤ w2.heap.size ∧ B3 ≤ w3.heap.size := by
    rcases hq : readP s.data.toList with _ | xs
    · rw [hq] at h2 h3
      obtain ⟨e2, b2⟩ := h2
      obtain ⟨e3, b3⟩ := h3
      injection e2 with e2; injection e2 with e2
      injection e3 with e3; injection e3 with e3
      simp at e2 e3
      obtain ⟨⟨rfl, rfl, rfl⟩, rfl⟩ := e2
      obtain ⟨⟨rfl, rfl, rfl⟩, rfl⟩ := e3
      exact ⟨rfl, rfl, by decide, b2, b3, [], 0, 0, RowK.At.nil_ _ _ _, RowK.At.nil_ _ _ _, Nat.zero_le _, Nat.zero_le _⟩
    · rw [hq] at h2 h3
      obtain ⟨A4, n4, c4, e2, hc4, hn4, hown4, b2⟩ := h2
      obtain ⟨A5, n5, c5, e3, hc5, hn5, hown5, b3⟩ := h3
      injection e2 with e2; injection e2 with e2
      injection e3 with e3; injection e3 with e3
      simp at e2 e3
      obtain ⟨⟨rfl, rfl, rfl⟩, rfl⟩ := e2
      obtain ⟨⟨rfl, rfl, rfl⟩, rfl⟩ := e3
      have hx3 : xs.length ≤ 3 := readP_few hq
      exact ⟨rfl, by rw [hn4.out, hn5.out], by have := hn4.out; omega, b2, b3, xs, _, _, ints_later hown4 (Below.refl _ _), ints_later hown5 (Below.refl _ _), Nat.le_refl _, Nat.le_refl _⟩
  obtain ⟨rfl, rfl, hn3, b2, b3, xs, B2, B3, hx2, hx3, hB2, hB3⟩ := hboth
  have u2 := H1.out.trans (b2.mono H1.out.size)
  have u3 := u2.trans (b3.mono u2.size)
  have hat3 := HA.out.1.below' u3 (Nat.le_refl _)
  have H3 := Lib.hid (And.intro u3 (And.intro (hx2.below' b3 hB2) (And.intro hx3 (And.intro hat3 (And.intro hB3 (Nat.le_trans hB2 b3.size))))))
  clear h2 h3 b2 b3 hx2 hx3 hB2 hB3 u2 u3 hat3
  have her : (er2 == er2) = true := beq_self_eq_true _
  obtain ⟨rb, hrb⟩ : ∃ rb, rightP zs = rb := ⟨_, rfl⟩
  have hrr : (rb == rb) = true := beq_self_eq_true _
  obtain ⟨tx, htx⟩ : ∃ tx : ByteArray, ⟨(textP zs).toArray⟩ = tx := ⟨_, rfl⟩
  have htt : (tx.toList == tx.toList) = true := beq_self_eq_true _
  have HR := Lib.hid (And.intro hrb htx)
  clear hrb htx
  try dsimp only
  go_wp2_with fail
  have c4 := pright_f A n c zs w3 _ H3.out.2.2.2.1 H3.out.1.size
  rw [HR.out.1] at c4
  refine c4.mono ?_
  rintro e w4 ⟨rfl, b4⟩
  have H4 := Lib.hid (And.intro (H3.out.1.trans (b4.mono H3.out.1.size)) b4)
  clear c4 b4
  try dsimp only
  go_wp2_with fail
  have c5 := rright16_f A n c zs w4 _ (HA.out.1.below' H4.out.1 (Nat.le_refl _)) H4.out.1.size
  rw [HR.out.1] at c5
  refine c5.mono ?_
  rintro e w5 ⟨rfl, hw5⟩
  obtain rfl := hw5.symm
  clear c5
  try dsimp only
  go_wp2_with fail
  have c6 := ptext_f A n c zs w4 _ (HA.out.1.below' H4.out.1 (Nat.le_refl _)) H4.out.1.size (HT.out w4 H4.out.1).d
  rw [HR.out.2] at c6
  refine c6.mono ?_
  rintro e w6 ⟨rfl, b6⟩
  have H6 := Lib.hid (And.intro (H4.out.1.trans (b6.mono H4.out.1.size)) (H4.out.2.trans (b6.mono H4.out.2.size)))
  clear c6 b6
  try dsimp only
  go_wp2_with fail
  have c7 := rtext16_f A n c zs w6 _ (HA.out.1.below' H6.out.1 (Nat.le_refl _)) H6.out.1.size (HT.out w6 H6.out.1).d
  rw [HR.out.2] at c7
  refine c7.mono ?_
  rintro e w7 ⟨rfl, b7⟩
  have H7 := Lib.hid (And.intro (H6.out.1.trans (b7.mono H6.out.1.size)) (H6.out.2.trans (b7.mono H6.out.2.size)))
  clear c7 b7
  try dsimp only
  go_wp2_with fail
  have c8 := sameints_f A2 A3 n2 c2 n2 c3 xs xs w7 _ _ (H3.out.2.1.below' H7.out.2 H3.out.2.2.2.2.2) (H3.out.2.2.1.below' H7.out.2 H3.out.2.2.2.2.1) (by omega) (by omega)
  rw [decide_eq_true rfl] at c8
  refine c8.mono ?_
  rintro e w8 ⟨rfl, m, rfl⟩
  clear c8
  try dsimp only
  go_wp2
  go_ret
  exact ⟨rfl, H7.out.1.trans ((below_drewN _ _).mono H7.out.1.size)⟩
end Go.Proofs.YthnbcilpallhjaaDoor
