/-
  A whole image held against its head.
-/
import Derived.Test.YtiieianbmldnbaaDoorImgMake
import Derived.Test.YtiieianbmldnbaaDoorShaEq
namespace Go.Proofs.YtiieianbmldnbaaDoor
open Go.RowKit
set_option maxRecDepth 100000
set_option maxRecDepth 100000
/-- The error's number of Check. -/
def checkErr (l : List UInt8) : Nat :=
  if readErr l ≠ 0 then readErr l else if ((l.length : Int) - 64) ≠ (readOf l).sz then 53 else if shaOf (l.drop 64) ≠ (readOf l).d then 51 else 0
def checkOf (l : List UInt8) : Hd := if checkErr l = 0 then readOf l else hd0
theorem readErr_ok {l : List UInt8} (h : readErr l = 0) : 64 ≤ l.length ∧ l.take 4 = MAGIC ∧ ∃ t, opens (l.take 64) = some t ∧ t.length = 60 ∧ rightH (partsOf t).sz ⟨(partsOf t).nm.toArray⟩ = true ∧ readOf l = partsOf t := by
  have h' := h
  unfold readErr at h
  split at h
  · cases h
  · split at h
    · cases h
    · rename_i h1 h2
      split at h
      · cases h
      · rename_i t ht
        have hl : t.length = 60 := by
          obtain ⟨e, _⟩ := opens_some ht
          rw [e]
          simp only [List.length_take]; omega
        refine ⟨by omega, by simpa using h2, t, ht, hl, ?_, ?_⟩
        · split at h
          · assumption
          · cases h
        · unfold readOf
          rw [if_pos h', ht]; rfl
theorem readOf_d (l : List UInt8) : (readOf l).d.length = 32 := by
  by_cases h : readErr l = 0
  · obtain ⟨_, _, t, _, hl, _, e⟩ := readErr_ok h
    rw [e]
    show ((t.drop 28).take 32).length = 32
    simp only [List.length_take, List.length_drop]; omega
  · unfold readOf; rw [if_neg h]; rfl
theorem stored_hd (w w3 : World) (hz : Zat w w3) (v sz : Int) (nm : ByteArray) (d : List UInt8) (hd : d.length = 32) :
    HdAt ((w3.alloc (.cells Z35.toArray 25)).setCells w3.heap.size 0 (Hv v sz nm d)) w3.heap.size v sz nm d ∧ Zat w ((w3.alloc (.cells Z35.toArray 25)).setCells w3.heap.size 0 (Hv v sz nm d)) ∧ Below w3.heap.size w3 ((w3.alloc (.cells Z35.toArray 25)).setCells w3.heap.size 0 (Hv v sz nm d)) ∧ w3.heap.size + 1 ≤ ((w3.alloc (.cells Z35.toArray 25)).setCells w3.heap.size 0 (Hv v sz nm d)).heap.size := by
  have ht := z35_there w3 25
  have hb : Below w3.heap.size w3 ((w3.alloc (.cells Z35.toArray 25)).setCells w3.heap.size 0 (Hv v sz nm d)) := below_setCells (alloc_below w3 _) (Nat.le_refl _) _ _
  exact ⟨⟨hd, World.rangeAt_setCells_same _ _ _ _ (by rw [Hv_length hd]; exact ht), World.there_setCells ht _ _ _⟩, hz.step hb, hb, by rw [size_setCells_, alloc_size]; exact Nat.le_refl _⟩
set_option maxHeartbeats 1600000 in
theorem check_bad (A : Option Addr) (n c : Nat) (l : List UInt8) (w : World) (B : Nat) (hbs : Bs w B A n l) (hB : B ≤ w.heap.size) (hc : n ≤ c) (he : readErr l ≠ 0) :
    Calls Tryd.prog 19 #[.slice A n c] w fun e w' => e = .returned (.tuple #[hd0.val, .int .i64 (readErr l : Int)]) ∧ Below w.heap.size w w' := by
  have hd32 := readOf_d l
  have hre : (((readErr l : Nat) : Int) != 0) = true := bne_iff_ne.2 (by omega)
  have hrd := fun W B hbs hB => read_any A n c l W B hbs hB hc
  generalize readErr l = re at hre hrd ⊢
  unfold Hd.val at hrd ⊢
  generalize readOf l = P at hd32 hrd
  obtain ⟨v, sz, nm, d⟩ := P
  simp only at hd32 hrd
  have hvs := Hv_size (v := v) (sz := sz) (nm := ⟨nm.toArray⟩) hd32
  go_enter Tryd.func19, Tryd.ntmps19
  go_wp2_with fail
  refine calls_at_world (F := Zat w) (Zat.new_ w) fun W hz => ?_
  refine (hrd W B (hbs.below' hz.bel hB) (by have := hz.size; omega)).mono ?_
  rintro e w3 ⟨rfl, hb3⟩
  have hz3 := hz.step hb3
  go_wp2_with (first
    | (refine wpList_store_mid rfl 25 (.tmp 4) (.tmp 10) rfl w3.heap.size 0 (Hv v sz ⟨nm.toArray⟩ d).toArray rfl rfl (by rw [hvs]; exact z35_there w3 _) (by rw [size25h, hvs]) (all_oneCell_toArray (Hv_one _ _ _ _)) ?_
       refine gen_world (F := fun W => wpList Tryd.prog _ _ _ _ W) (fun W => HdAt W w3.heap.size v sz ⟨nm.toArray⟩ d ∧ Zat w W ∧ Below w3.heap.size w3 W ∧ w3.heap.size + 1 ≤ W.heap.size) (stored_hd w w3 hz3 v sz ⟨nm.toArray⟩ d hd32) ?_
       rintro w4 ⟨hH4, hz4, hb4, hs4⟩)
    | refine wpList_build_is rfl 25 _ rfl Z35.toArray (by kernel_rfl) ?_
    | refine wpList_store_mid rfl 25 (.tmp 2) (.tmp 14) rfl w.heap.size 0 Z35.toArray rfl rfl hz4.there (by rw [size25h]; rfl) z35_one ?_)
  have hf := z35_stored hz4.there hz4.bel
  refine bodyPost_ret (results_cell_tmp_mid rfl _ _ w.heap.size 0 Z35 _ rfl hf.1 Tryd.underlying25 rfl (by rw [size25h]; rfl)) rfl ?_
  exact ⟨rfl, hf.2⟩
theorem Pc.more {w : World} {B B' n : Nat} {A : Option Addr} {ls : List (List UInt8)} (h : Pc w B A n ls) (hB : B ≤ B') : Pc w B' A n ls :=
  ⟨h.len, fun hn => by
    obtain ⟨b, off, e, hb, hc⟩ := h.place hn
    refine ⟨b, off, e, by omega, fun k l hl => ?_⟩
    obtain ⟨A', n', c', h1, h2, h3⟩ := hc k l hl
    exact ⟨A', n', c', h1, h2, h3.more hB⟩⟩
/-- What each operation of the digest's line leaves. -/
def CR (H : Nat) (A : Option Addr) (n c : Nat) (lb D d : List UInt8) (i : Nat) (w : World) (v : Value) : Prop :=
  match i with
  | 0 => v = .slice A n c
  | 1 => ∃ g, v = .slice (some ⟨g, 0, Option.none⟩) 1 1 ∧ Pc w w.heap.size (some ⟨g, 0, Option.none⟩) 1 [lb]
  | 2 => v = .agg (U8 D).toArray
  | 3 => v = .pointer (some ⟨H, 3, Option.none⟩)
  | 4 => v = .agg (U8 d).toArray
  | _ => v = .bool (!decide (D = d))
theorem CR.grow {H : Nat} {A : Option Addr} {n c : Nat} {lb D d : List UInt8} (i : Nat) (w w' : World) (v : Value) (hg : Grow w w') (h : CR H A n c lb D d i w v) : CR H A n c lb D d i w' v := by
  match i, h with
  | 0, h => exact h
  | 1, h =>
    obtain ⟨g, e, hp⟩ := h
    exact ⟨g, e, (hp.keep fun p hp => hg.cell p hp).more hg.size⟩
  | 2, h => exact h
  | 3, h => exact h
  | 4, h => exact h
  | _ + 5, h => exact h
set_option maxHeartbeats 1600000 in
theorem check_ok (A : Option Addr) (n c : Nat) (l : List UInt8) (w : World) (B : Nat) (hbs : Bs w B A n l) (hB : B ≤ w.heap.size) (hc : n ≤ c) (hn : (n : Int) ≤ 65536) (he : readErr l = 0) (hg : 1 < w.heap.size) (hK : w.rangeAt 1 0 (W32 KS)) :
    Calls Tryd.prog 19 #[.slice A n c] w fun e w' => e = .returned (.tuple #[(checkOf l).val, .int .i64 (checkErr l : Int)]) ∧ Below w.heap.size w w' := by
  have hd32 := readOf_d l
  have hlen := hbs.len
  have hn64 : 64 ≤ n := by have := (readErr_ok he).1; omega
  have hrd := fun W B hbs hB => read_any A n c l W B hbs hB hc
  have hce : checkErr l = if ((n : Int) - 64) ≠ (readOf l).sz then 53 else if shaOf (l.drop 64) ≠ (readOf l).d then 51 else 0 := by
    unfold checkErr; rw [if_neg (by simpa using he), hlen]
  have hco : checkOf l = if checkErr l = 0 then readOf l else hd0 := rfl
  rw [he] at hrd
  obtain ⟨b, off, rfl, hbl, _⟩ := hbs.place (by omega)
  obtain ⟨A', hA⟩ : ∃ A', (if c = 64 then some (⟨b, off, none⟩ : Addr) else some ⟨b, off + 64, none⟩) = A' := ⟨_, rfl⟩
  have hcut : Bs w B A' (n - 64) (l.drop 64) := by
    have := hbs.cut (lo := 64) (hi := n) (c := c) (A' := A') hn64 (Nat.le_refl _) hc (by rw [← hA]; rfl)
    rwa [List.take_of_length_le (by omega)] at this
  have g0 : 64 ≤ (c : Int) := by omega
  have g1 : 64 ≤ (n : Int) := by omega
  have g2 : (n : Int) ≤ c := by omega
  have hsub : ((n - 64 : Nat) : Int) = (n : Int) - 64 := by omega
  unfold Hd.val at hrd
  generalize readOf l = P at hd32 hrd hce hco
  obtain ⟨v, sz, nm, d⟩ := P
  simp only at hd32 hrd hce
  have hvs := Hv_size (v := v) (sz := sz) (nm := ⟨nm.toArray⟩) hd32
  have Hce := Lib.hid hce
  have Hco := Lib.hid hco
  clear hce hco
  go_enter Tryd.func19, Tryd.ntmps19
  go_wp2_with fail
  refine calls_at_world (F := Zat w) (Zat.new_ w) fun W hz => ?_
  refine (hrd W B (hbs.below' hz.bel hB) (by have := hz.size; omega)).mono ?_
  rintro e w3 ⟨rfl, hb3⟩
  have hz3 := hz.step hb3
  have hs3 := hz3.size
  by_cases hsz : ((n : Int) - 64) ≠ sz
  · have hq : ((n : Int) - 64 != sz) = true := bne_iff_ne.2 hsz
    have h1 : checkErr l = 53 := by rw [Hce.out, if_pos hsz]
    have h2 : checkOf l = hd0 := by rw [Hco.out, h1]; rfl
    have H1 := Lib.hid h1
    have H2 := Lib.hid h2
    clear h1 h2 hsz
    go_wp2_with (first
    | (refine wpList_store_mid rfl 25 (.tmp 4) (.tmp 10) rfl w3.heap.size 0 (Hv v sz ⟨nm.toArray⟩ d).toArray rfl rfl (by rw [hvs]; exact z35_there w3 _) (by rw [size25h, hvs]) (all_oneCell_toArray (Hv_one _ _ _ _)) ?_
       refine gen_world (F := fun W => wpList Tryd.prog _ _ _ _ W) (fun W => HdAt W w3.heap.size v sz ⟨nm.toArray⟩ d ∧ Zat w W ∧ Below w3.heap.size w3 W ∧ w3.heap.size + 1 ≤ W.heap.size) (stored_hd w w3 hz3 v sz ⟨nm.toArray⟩ d hd32) ?_
       rintro w4 ⟨hH4, hz4, hb4, hs4⟩
       have c1 := hH4.c1)
    | refine wpList_build_is rfl 25 _ rfl Z35.toArray (by kernel_rfl) ?_
    | refine wpList_store_mid rfl 25 (.tmp 2) (.tmp 23) rfl w.heap.size 0 Z35.toArray rfl rfl hz4.there (by rw [size25h]; rfl) z35_one ?_)
    have hf := z35_stored hz4.there hz4.bel
    refine bodyPost_ret (results_cell_tmp_mid rfl _ _ w.heap.size 0 Z35 _ rfl hf.1 Tryd.underlying25 rfl (by rw [size25h]; rfl)) rfl ?_
    exact ⟨by rw [H1.out, H2.out]; rfl, hf.2⟩
  · have hq : ((n : Int) - 64 != sz) = false := bne_eq_false_iff_eq.2 (by simpa using hsz)
    have hce2 : checkErr l = if shaOf (l.drop 64) ≠ d then 51 else 0 := by rw [Hce.out, if_neg hsz]
    have Hc2 := Lib.hid hce2
    clear hce2 hsz
    go_wp2_with (first
    | (refine wpList_store_mid rfl 25 (.tmp 4) (.tmp 10) rfl w3.heap.size 0 (Hv v sz ⟨nm.toArray⟩ d).toArray rfl rfl (by rw [hvs]; exact z35_there w3 _) (by rw [size25h, hvs]) (all_oneCell_toArray (Hv_one _ _ _ _)) ?_
       refine gen_world (F := fun W => wpList Tryd.prog _ _ _ _ W) (fun W => HdAt W w3.heap.size v sz ⟨nm.toArray⟩ d ∧ Zat w W ∧ Below w3.heap.size w3 W ∧ w3.heap.size + 1 ≤ W.heap.size) (stored_hd w w3 hz3 v sz ⟨nm.toArray⟩ d hd32) ?_
       rintro w4 ⟨hH4, hz4, hb4, hs4⟩
       have c1 := hH4.c1)
    | fail)
    have hcut4 : Bs w4 w4.heap.size A' (n - 64) (l.drop 64) := (hcut.below' hz4.bel hB).more (by have := hz4.bel.size; omega)
    have hK4 := range_below hK hz4.bel hg
    have hl64 : (l.drop 64).length = n - 64 := hcut.len
    have hl4 : 1 < w4.heap.size := by have := hz4.bel.size; omega
    have hdig : ∀ W, Below w4.heap.size w4 W → W.rangeAt w3.heap.size 3 (U8 d) := fun W h => range_below hH4.dig h hH4.lt
    have hKs : ∀ W, Below w4.heap.size w4 W → W.rangeAt 1 0 (W32 KS) := fun W h => range_below hK4 h hl4
    obtain ⟨D, hD, hDl⟩ : ∃ D, shaOf (l.drop 64) = D ∧ D.length = 32 := ⟨_, rfl, shaOf_length _⟩
    rw [hD] at Hc2
    have hlb : (l.drop 64).length ≤ 900000 := by omega
    generalize l.drop 64 = lb at *
    refine wp_region_rel (fun w' => Below w4.heap.size w4 w') Grow (CR w3.heap.size A' (n - 64) (c - 64) lb D d) [(6, .slice A' (n - 64) (c - 64)), (4, .pointer (some ⟨w3.heap.size, 0, none⟩))] (by kernel_rfl) (by kernel_rfl) (by kernel_rfl) ?base (drew_below w4 _) CR.grow ?steps ?fin
    case base =>
      intro p hp
      simp only [List.mem_cons, List.not_mem_nil, or_false] at hp
      rcases hp with rfl | rfl <;> exact ⟨rfl, rfl⟩
    case steps =>
      refine steps_cons ?_ (steps_cons ?_ (steps_cons ?_ (steps_cons ?_ (steps_cons ?_ (steps_cons ?_ steps_nil)))))
      · intro a w0 K hS hB0 hR hK
        rw [if_pos (wanted_none rfl)]
        have h0 := tmp_is (hB0.1)
        go_simp
        exact hK (.slice A' (n - 64) (c - 64)) w0 hS (Grow.refl w0) rfl
      · intro a w0 K hS hB0 hR hK
        rw [if_pos (wanted_none rfl)]
        have h0 := tmp_is (hR.1)
        go_simp
        exact hK (.slice (some ⟨w0.heap.size, 0, none⟩) 1 1) _ (hS.alloc hS.size _) (Grow.below (alloc_below w0 _)) ⟨_, rfl, (pc_one w0 _ A' (n - 64) (c - 64) lb 26 (hcut4.below hS) hS.size (by omega)).more (by rw [alloc_size]; exact Nat.le_refl _)⟩
      · intro a w0 K hS hB0 hR hK
        rw [if_pos (wanted_none rfl)]
        obtain ⟨g, hv, hp⟩ := hR.1
        have h0 := tmp_is hv
        go_simp
        refine (shasum_any (some ⟨g, 0, none⟩) 1 1 [lb] w0 _ hp (Nat.le_refl _) (Nat.lt_of_lt_of_le hl4 hS.size) (hKs w0 hS) (by omega) (by simpa using hlb)).mono ?_
        rintro e w' ⟨rfl, hb⟩
        rw [show [lb].flatten = lb by simp, hD]
        exact hK _ _ (hS.trans (hb.mono hS.size)) (Grow.below hb) rfl
      · intro a w0 K hS hB0 hR hK
        rw [if_pos (wanted_none rfl)]
        have h0 := tmp_is (hB0.2.1)
        go_simp
        exact hK (.pointer (some ⟨w3.heap.size, 3, none⟩)) w0 hS (Grow.refl w0) rfl
      · intro a w0 K hS hB0 hR hK
        rw [if_pos (wanted_none rfl)]
        refine wp_load_mid _ _ rfl _ _ hR.1 (U8 d) _ (hdig w0 hS) Tryd.underlying23 rfl (by rw [size25, U8_length, hd32]) ?_
        exact hK (.agg (U8 d).toArray) w0 hS (Grow.refl w0) rfl
      · intro a w0 K hS hB0 hR hK
        rw [if_pos (wanted_none rfl)]
        have h1 := tmp_is (hR.1)
        have h2 := tmp_is (hR.2.1)
        have hq := run_eq32 w0 D d hDl hd32
        have hg := guard32
        go_simp
        exact hK (.bool (!decide (D = d))) w0 hS (Grow.refl w0) rfl
    case fin =>
      intro a w' HS ha hR
      have h0 : a.eval (.tmp 29) = .bool (!decide (D = d)) := deps_mem _ hR 5 (by decide)
      clear hR
      simp only [pin] at ha
      rw [ha]
      simp only [List.setIfInBounds_toArray, List.set_cons_zero, List.set_cons_succ, h0]
      clear ha h0
      have hz5 := hz4.step HS
      have hH5 := hH4.below HS hH4.lt
      clear hH4 hz4 HS hcut4 hK4 hKs hdig hb4
      by_cases hD2 : D = d
      · have h1 : checkErr l = 0 := by rw [Hc2.out, if_neg (by simpa using hD2)]
        have h2 := Hco.out
        rw [h1, if_pos rfl] at h2
        have H1 := Lib.hid h1
        have H2 := Lib.hid h2
        clear h1 h2
        rw [decide_eq_true hD2]
        clear hD2
        go_wp2_with (first
          | refine wpList_load_mid rfl 25 (.tmp 4) rfl w3.heap.size 0 rfl (Hv v sz ⟨nm.toArray⟩ d) _ hH5.range Tryd.underlying25 rfl (by rw [size25h, Hv_length hd32]) ?_
          | refine wpList_store_mid rfl 25 (.tmp 2) (.tmp 31) rfl w.heap.size 0 (Hv v sz ⟨nm.toArray⟩ d).toArray rfl rfl (by rw [hvs]; exact hz5.there) (by rw [size25h, hvs]) (all_oneCell_toArray (Hv_one _ _ _ _)) ?_)
        refine bodyPost_ret (results_cell_tmp_mid rfl _ _ w.heap.size 0 (Hv v sz ⟨nm.toArray⟩ d) _ rfl (World.rangeAt_setCells_same _ _ _ _ (by rw [Hv_length hd32]; exact hz5.there)) Tryd.underlying25 rfl (by rw [size25h, Hv_length hd32])) rfl ?_
        exact ⟨by rw [H1.out, H2.out]; rfl, below_setCells hz5.bel (Nat.le_refl _) _ _⟩
      · have h1 : checkErr l = 51 := by rw [Hc2.out, if_pos hD2]
        have h2 : checkOf l = hd0 := by rw [Hco.out, h1]; rfl
        have H1 := Lib.hid h1
        have H2 := Lib.hid h2
        clear h1 h2
        rw [decide_eq_false hD2]
        clear hD2
        go_wp2_with (first
          | refine wpList_build_is rfl 25 _ rfl Z35.toArray (by kernel_rfl) ?_
          | refine wpList_store_mid rfl 25 (.tmp 2) (.tmp 30) rfl w.heap.size 0 Z35.toArray rfl rfl hz5.there (by rw [size25h]; rfl) z35_one ?_)
        have hf := z35_stored hz5.there hz5.bel
        refine bodyPost_ret (results_cell_tmp_mid rfl _ _ w.heap.size 0 Z35 _ rfl hf.1 Tryd.underlying25 rfl (by rw [size25h]; rfl)) rfl ?_
        exact ⟨by rw [H1.out, H2.out]; rfl, hf.2⟩
/-- Whatever bytes. -/
theorem check_any (A : Option Addr) (n c : Nat) (l : List UInt8) (w : World) (B : Nat) (hbs : Bs w B A n l) (hB : B ≤ w.heap.size) (hc : n ≤ c) (hn : (n : Int) ≤ 65536) (hg : 1 < w.heap.size) (hK : w.rangeAt 1 0 (W32 KS)) :
    Calls Tryd.prog 19 #[.slice A n c] w fun e w' => e = .returned (.tuple #[(checkOf l).val, .int .i64 (checkErr l : Int)]) ∧ Below w.heap.size w w' := by
  by_cases he : readErr l = 0
  · exact check_ok A n c l w B hbs hB hc hn he hg hK
  · have h1 : checkErr l = readErr l := by unfold checkErr; rw [if_pos he]
    have h2 : checkOf l = hd0 := by unfold checkOf; rw [h1, if_neg he]
    rw [h1, h2]
    exact check_bad A n c l w B hbs hB hc he
end Go.Proofs.YtiieianbmldnbaaDoor
