/-
  The document's example of images.
-/
import Derived.Test.YtiieianbmldnbaaDoorImgCheck
namespace Go.Proofs.YtiieianbmldnbaaDoor
open Go.RowKit
set_option maxRecDepth 100000
set_option maxRecDepth 100000
def APP : List UInt8 := [97, 112, 112]
def HELLO : List UInt8 := [104, 101, 108, 108, 111]
/-- The rounds' table stands where it must. -/
def Ks (w : World) : Prop := 1 < w.heap.size ∧ w.rangeAt 1 0 (W32 KS)
theorem Ks.below {w w' : World} {B : Nat} (h : Ks w) (hb : Below B w w') (hB : 1 < B) : Ks w' := ⟨Nat.lt_of_lt_of_le h.1 hb.size, range_below h.2 hb hB⟩
theorem Ks.step {w w' : World} (h : Ks w) (hb : Below w.heap.size w w') : Ks w' := h.below hb h.1
/-- What is asked of the example's image. -/
structure Ex (l : List UInt8) : Prop where
  len : l.length = 69
  magic : l.take 4 = MAGIC
  c4 : l[4]? = some 7
  c8 : l[8]? = some 5
  c64 : l[64]? = some 104
  name : (l.drop 12).take 3 = APP
  read : readErr l = 0
  check : checkErr l = 0
  hd : readOf l = ⟨7, 5, APP, shaOf HELLO⟩
  write : headOf 7 5 APP (shaOf HELLO) = l.take 64
  bad : checkErr (l.set 64 105) = 51
  cut : checkErr ((l.set 64 105).take 68) = 53
  same : (l.set 64 105).take 64 = l.take 64
theorem hd_eq {P : Hd} {v sz : Int} {nm d : List UInt8} (h1 : P.v = v) (h2 : P.sz = sz) (h3 : P.nm = nm) (h4 : P.d = d) : P = ⟨v, sz, nm, d⟩ := by
  cases P
  simp only at h1 h2 h3 h4
  rw [h1, h2, h3, h4]
theorem ex_is : Ex (makeOf APP 7 HELLO) := by
  refine ⟨?_, ?_, ?_, ?_, ?_, ?_, ?_, ?_, ?_, ?_, ?_, ?_, ?_⟩
  · decide +kernel
  · decide +kernel
  · decide +kernel
  · decide +kernel
  · decide +kernel
  · decide +kernel
  · decide +kernel
  · decide +kernel
  · exact hd_eq (by decide +kernel) (by decide +kernel) (by decide +kernel) (by decide +kernel)
  · decide +kernel
  · decide +kernel
  · decide +kernel
  · decide +kernel
/-- One byte written anew. -/
theorem Bs.setAt {w : World} {B g n : Nat} {l : List UInt8} (h : Bs w B (some ⟨g, 0, none⟩) n l) (i : Nat) (hi : i < n) (u : UInt8) (z : Int) (hz : z = (u.toNat : Int)) : Bs (w.setCell ⟨g, i, none⟩ (.int .u8 z)) B (some ⟨g, 0, none⟩) n (l.set i u) := by
  subst hz
  refine ⟨by rw [List.length_set]; exact h.len, fun hn => ?_⟩
  obtain ⟨b, off, e, hb, hc⟩ := h.place hn
  injection e with e
  injection e with e1 e2 _
  subst e1 e2
  refine ⟨_, _, rfl, hb, fun k x hk => ?_⟩
  rw [Nat.zero_add]
  have hlen := h.len
  by_cases hik : i = k
  · subst hik
    rw [List.getElem?_set_self (by omega)] at hk
    obtain rfl := Option.some.inj hk
    obtain ⟨y, hy⟩ := byte_get (l := l) (k := i) (by omega)
    have := hc i y hy
    rw [Nat.zero_add] at this
    exact World.cell?_setCell_same _ _ _ this
  · rw [List.getElem?_set_ne hik] at hk
    rw [World.cell?_setCell_other _ _ _ _ (fun e => by injection e; omega)]
    have := hc k x hk
    rwa [Nat.zero_add] at this
theorem alive_lit (w : World) (l : List UInt8) (fr : Nat × Nat) : Below w.heap.size w (w.alloc (.cells (U8 l).toArray 5 fr)) ∧ w.heap.size + 1 ≤ (w.alloc (.cells (U8 l).toArray 5 fr)).heap.size ∧ Bs (w.alloc (.cells (U8 l).toArray 5 fr)) (w.alloc (.cells (U8 l).toArray 5 fr)).heap.size (some ⟨w.heap.size, 0, none⟩) l.length l :=
  ⟨alloc_below w _, by rw [alloc_size]; exact Nat.le_refl _, (Bs.lit_ w 5 _ fr l rfl).more (by rw [alloc_size]; exact Nat.le_refl _)⟩
theorem hd_stored (w3 : World) (v sz : Int) (nm : ByteArray) (d : List UInt8) (hd : d.length = 32) :
    HdAt ((w3.alloc (.cells Z35.toArray 25)).setCells w3.heap.size 0 (Hv v sz nm d)) w3.heap.size v sz nm d ∧ Below w3.heap.size w3 ((w3.alloc (.cells Z35.toArray 25)).setCells w3.heap.size 0 (Hv v sz nm d)) := by
  have ht := z35_there w3 25
  have hb : Below w3.heap.size w3 ((w3.alloc (.cells Z35.toArray 25)).setCells w3.heap.size 0 (Hv v sz nm d)) := below_setCells (alloc_below w3 _) (Nat.le_refl _) _ _
  exact ⟨⟨hd, World.rangeAt_setCells_same _ _ _ _ (by rw [Hv_length hd]; exact ht), World.there_setCells ht _ _ _⟩, hb⟩
set_option maxHeartbeats 4000000 in
theorem alive_any (w : World) (hK : Ks w) : Calls Tryd.prog 8 #[] w fun e w' => e = .returned (.bool true) ∧ Below w.heap.size w w' := by
  have kc := fun (w : World) (C : Array Value) (n c : Nat) => Lib.run_convert_bytes_const (P := Tryd.prog) w 26 5 C n c Tryd.underlying26 Tryd.underlying5
  go_enter Tryd.func8, Tryd.ntmps8
  go_wp2_with fail
  refine calls_at_world (F := fun W => Below w.heap.size w W ∧ w.heap.size + 1 ≤ W.heap.size ∧ Bs W W.heap.size (some ⟨w.heap.size, 0, none⟩) 5 HELLO) (alive_lit w HELLO (5, 6)) ?_
  rintro W ⟨B0, s0, hl⟩
  have K0 := hK.below B0 hK.1
  refine (make_yes W ⟨#[97, 112, 112]⟩ 7 _ 5 5 HELLO _ hl (Nat.le_refl _) (Nat.le_refl _) (by omega) (by decide +kernel) (by decide) (by decide) K0.1 K0.2).mono ?_
  rintro e w1 ⟨x1, rfl, ho1, b1⟩
  have hX := ex_is
  replace ho1 : w1.ownsRow W.heap.size 5 1 x1 69 (U8 (makeOf APP 7 HELLO)) := ho1
  generalize makeOf APP 7 HELLO = l1 at *
  obtain ⟨D, hD, hDl⟩ : ∃ D, shaOf HELLO = D ∧ D.length = 32 := ⟨_, rfl, shaOf_length _⟩
  obtain ⟨A1, c1, rfl, hc1, hb1, hg1⟩ := own_open ho1
  obtain ⟨g, rfl, hg0, hgl, hMI⟩ := hg1 (by omega)
  have K1 := K0.step b1
  have B1 := B0.trans (b1.mono B0.size)
  have hc1' : 69 ≤ (c1 : Int) := by omega
  clear ho1 hl kc
  go_wp2_with fail
  refine (check_any _ 69 c1 l1 w1 _ hb1 (Nat.le_refl _) hc1 (by omega) K1.1 K1.2).mono ?_
  rintro e w2 ⟨rfl, b2⟩
  have hco : (checkOf l1).val = .agg (Hv 7 5 ⟨#[97, 112, 112]⟩ D).toArray := by
    unfold checkOf
    rw [if_pos hX.check, hX.hd, hD]; rfl
  rw [hco, hX.check]
  have B2 := B1.trans (b2.mono B1.size)
  have K2 := K1.step b2
  have hb2 := (hb1.below b2).more b2.size
  have M2 := hMI.below b2 hgl
  have hgl2 : g < w2.heap.size := Nat.lt_of_lt_of_le hgl b2.size
  have hvs := Hv_size (v := 7) (sz := 5) (nm := ⟨#[97, 112, 112]⟩) hDl
  clear hb1 hMI hgl b2
  go_wp2_with (first
    | (refine wpList_store_mid rfl 25 (.tmp 3) (.tmp 24) rfl w2.heap.size 0 (Hv 7 5 ⟨#[97, 112, 112]⟩ D).toArray rfl rfl (by rw [hvs]; exact z35_there w2 _) (by rw [size25h, hvs]) (all_oneCell_toArray (Hv_one _ _ _ _)) ?_
       refine gen_world (F := fun W => wpList Tryd.prog _ _ _ _ W) (fun W => HdAt W w2.heap.size 7 5 ⟨#[97, 112, 112]⟩ D ∧ Below w2.heap.size w2 W) (hd_stored w2 7 5 ⟨#[97, 112, 112]⟩ D hDl) ?_
       rintro w3 ⟨H3, b3⟩)
    | fail)
  have B3 := B2.trans (b3.mono B2.size)
  have K3 := K2.step b3
  have hb3 := (hb2.below b3).more b3.size
  have M3 := M2.below b3 hgl2
  have hgl3 : g < w3.heap.size := Nat.lt_of_lt_of_le hgl2 b3.size
  clear hb2 M2
  refine (make_no w3 ⟨#[65, 112, 112]⟩ 7 none 0 0 (by decide +kernel)).mono ?_
  rintro e w4 ⟨rfl, b4⟩
  have B4 := B3.trans (b4.mono B3.size)
  have K4 := K3.step b4
  have hb4 := (hb3.below b4).more b4.size
  have M4 := M3.below b4 hgl3
  have H4 := H3.below b4 H3.lt
  have hgl4 : g < w4.heap.size := Nat.lt_of_lt_of_le hgl3 b4.size
  have HH : w2.heap.size < w4.heap.size := H4.lt
  generalize w2.heap.size = hN at *
  clear hb3 M3 H3 b3 b4
  have q4 := run_string_bs (P := Tryd.prog) (hb4.take_ 4 (by omega)) 26 9 5 c1 Tryd.underlying26 Tryd.underlying5 Tryd.underlying9
  have q12 := run_string_bs (P := Tryd.prog) ((hb4.drop_ 12).take_ 3 (by omega)) 26 9 5 (c1 - 12) Tryd.underlying26 Tryd.underlying5 Tryd.underlying9
  rw [hX.magic] at q4
  rw [hX.name, Nat.zero_add] at q12
  obtain ⟨_, _, eA, _, hcell⟩ := hb4.place (by omega)
  injection eA with eA
  injection eA with eA1 eA2 _
  subst eA1 eA2
  have y4 := hcell 4 7 hX.c4
  have y8 := hcell 8 5 hX.c8
  have h0 := H4.c0
  have h1 := H4.c1
  have h2 := H4.c2
  rw [Nat.zero_add] at y4 y8
  clear hcell
  go_wp2_with fail
  refine (read_any _ 69 c1 l1 w4 _ hb4 (Nat.le_refl _) hc1).mono ?_
  rintro e w5 ⟨rfl, b5⟩
  have hro : (readOf l1).val = .agg (Hv 7 5 ⟨#[97, 112, 112]⟩ D).toArray := by rw [hX.hd, hD]; rfl
  rw [hro, hX.read]
  have B5 := B4.trans (b5.mono B4.size)
  have K5 := K4.step b5
  have hb5 := (hb4.below b5).more b5.size
  have M5 := M4.below b5 hgl4
  have H5 := H4.below b5 HH
  have hgl5 : g < w5.heap.size := Nat.lt_of_lt_of_le hgl4 b5.size
  have HH5 : hN < w5.heap.size := Nat.lt_of_lt_of_le HH b5.size
  clear hb4 M4 H4 b5 h0 h1 h2 y4 y8 q4 q12
  go_wp2_with (first
    | (refine wpList_store_mid rfl 25 (.tmp 7) (.tmp 87) rfl w5.heap.size 0 (Hv 7 5 ⟨#[97, 112, 112]⟩ D).toArray rfl rfl (by rw [hvs]; exact z35_there w5 _) (by rw [size25h, hvs]) (all_oneCell_toArray (Hv_one _ _ _ _)) ?_
       refine gen_world (F := fun W => wpList Tryd.prog _ _ _ _ W) (fun W => HdAt W w5.heap.size 7 5 ⟨#[97, 112, 112]⟩ D ∧ Below w5.heap.size w5 W) (hd_stored w5 7 5 ⟨#[97, 112, 112]⟩ D hDl) ?_
       rintro w6 ⟨R6, b6⟩)
    | refine wpList_load_mid rfl 25 (.tmp 7) rfl w5.heap.size 0 rfl (Hv 7 5 ⟨#[97, 112, 112]⟩ D) _ R6.range Tryd.underlying25 rfl (by rw [size25h, Hv_length hDl]) ?_)
  have B6 := B5.trans (b6.mono B5.size)
  have K6 := K5.step b6
  have hb6 := (hb5.below b6).more b6.size
  have M6 := M5.below b6 hgl5
  have H6 := H5.below b6 HH5
  have hgl6 : g < w6.heap.size := Nat.lt_of_lt_of_le hgl5 b6.size
  have HH6 : hN < w6.heap.size := Nat.lt_of_lt_of_le HH5 b6.size
  clear hb5 M5 H5
  refine (write_yes w6 7 5 ⟨#[97, 112, 112]⟩ D hDl (by decide) (by decide) (by decide +kernel)).mono ?_
  rintro e w7 ⟨x7, rfl, ho7, b7⟩
  replace ho7 : w7.ownsRow w6.heap.size 5 1 x7 64 (U8 (headOf 7 5 APP D)) := ho7
  rw [← hD, hX.write] at ho7
  obtain ⟨A7, c7, rfl, hc7, hb7w, hg7⟩ := own_open ho7
  obtain ⟨g7, rfl, hg70, hgl7, _⟩ := hg7 (by omega)
  have B7 := B6.trans (b7.mono B6.size)
  have K7 := K6.step b7
  have hb7 := (hb6.below b7).more b7.size
  have M7 := M6.below b7 hgl6
  have H7 := H6.below b7 HH6
  have hgl7' : g < w7.heap.size := Nat.lt_of_lt_of_le hgl6 b7.size
  have HH7 : hN < w7.heap.size := Nat.lt_of_lt_of_le HH6 b7.size
  have y64 : w7.cell? ⟨g, 64, none⟩ = some (.int .u8 104) := by
    obtain ⟨_, _, eA, _, hcell⟩ := hb7.place (by omega)
    injection eA with eA
    injection eA with eA1 eA2 _
    subst eA1 eA2
    have := hcell 64 104 hX.c64
    rw [Nat.zero_add] at this
    exact this
  have f64 := M7.frozen 64 (by omega)
  clear hb6 M6 H6 ho7 b7 b6 R6
  go_wp2_with fail
  have hg1w : 1 < w.heap.size := hK.1
  have hgw : w.heap.size ≤ g := by omega
  refine calls_at_world (F := fun W => Bs W W.heap.size (some ⟨g, 0, none⟩) 69 (l1.set 64 105) ∧ Below w.heap.size w W ∧ Ks W ∧ HdAt W hN 7 5 ⟨#[97, 112, 112]⟩ D ∧ Bs W W.heap.size (some ⟨g7, 0, none⟩) 64 (l1.take 64)) ?_ ?_
  · have hsz : (w7.setCell ⟨g, 64, none⟩ (.int .u8 105)).heap.size = w7.heap.size := by simp [World.setCell]
    have hO : Only w7.heap.size g w7 (w7.setCell ⟨g, 64, none⟩ (.int .u8 105)) := (Only.refl _ _ _).setCell _ _
    refine ⟨(hb7.setAt 64 (by omega) 105 105 rfl).more (by rw [hsz]; exact Nat.le_refl _), B7.setCell hgw _, ⟨by rw [hsz]; exact K7.1, hO.range K7.2 K7.1 (by omega)⟩, ⟨H7.len, hO.range H7.range HH7 (by omega), hO.there H7.there HH7 (by omega)⟩, ?_⟩
    exact (hb7w.keepOff (g := g) (fun a ha => by injection ha with ha; subst ha; show g7 ≠ g; omega) (fun p hp hpg => hO.cell hp hpg)).more (by rw [hsz]; exact Nat.le_refl _)
  rintro w8 ⟨hb8, B8, K8, H8, hw8⟩
  have HH8 := H8.lt
  clear hb7 hb7w B7 K7 M7 H7 y64 f64
  refine (check_any _ 69 c1 (l1.set 64 105) w8 _ hb8 (Nat.le_refl _) hc1 (by omega) K8.1 K8.2).mono ?_
  rintro e w9 ⟨rfl, b9⟩
  have hco2 : (checkOf (l1.set 64 105)).val = .agg Z35.toArray := by
    unfold checkOf
    rw [hX.bad]; rfl
  rw [hco2, hX.bad]
  have B9 := B8.trans (b9.mono B8.size)
  have K9 := K8.step b9
  have hb9 := (hb8.below b9).more b9.size
  have H9 := H8.below b9 HH8
  have hw9 := (hw8.below b9).more b9.size
  clear hb8 K8 H8 hw8 B8
  go_wp2_with (first
    | (refine wpList_store_mid rfl 25 (.tmp 11) (.tmp 102) rfl w9.heap.size 0 Z35.toArray rfl rfl (z35_there w9 _) (by rw [size25h]; rfl) z35_one ?_
       refine gen_world (F := fun W => wpList Tryd.prog _ _ _ _ W) (fun W => HdAt W w9.heap.size 0 0 ⟨#[]⟩ (List.replicate 32 0) ∧ Below w9.heap.size w9 W) (hd_stored w9 0 0 ⟨#[]⟩ (List.replicate 32 0) rfl) ?_
       rintro w10 ⟨_, b10⟩)
    | fail)
  have B10 := B9.trans (b10.mono B9.size)
  have K10 := K9.step b10
  have hb10 := (hb9.below b10).more b10.size
  have H10 := H9.below b10 H9.lt
  have hw10 := (hw9.below b10).more b10.size
  clear hb9 K9 H9 hw9 B9 b9 b10
  refine (check_any _ 68 c1 ((l1.set 64 105).take 68) w10 _ (hb10.take_ 68 (by omega)) (Nat.le_refl _) (by omega) (by omega) K10.1 K10.2).mono ?_
  rintro e w11 ⟨rfl, b11⟩
  have hco3 : (checkOf ((l1.set 64 105).take 68)).val = .agg Z35.toArray := by
    unfold checkOf
    rw [hX.cut]; rfl
  rw [hco3, hX.cut]
  have B11 := B10.trans (b11.mono B10.size)
  have hb11 := (hb10.below b11).more b11.size
  have H11 := H10.below b11 H10.lt
  have hw11 := (hw10.below b11).more b11.size
  clear hb10 K10 H10 hw10 B10
  go_wp2_with (first
    | (refine wpList_store_mid rfl 25 (.tmp 13) (.tmp 108) rfl w11.heap.size 0 Z35.toArray rfl rfl (z35_there w11 _) (by rw [size25h]; rfl) z35_one ?_
       refine gen_world (F := fun W => wpList Tryd.prog _ _ _ _ W) (fun W => HdAt W w11.heap.size 0 0 ⟨#[]⟩ (List.replicate 32 0) ∧ Below w11.heap.size w11 W) (hd_stored w11 0 0 ⟨#[]⟩ (List.replicate 32 0) rfl) ?_
       rintro w12 ⟨_, b12⟩)
    | fail)
  have B12 := B11.trans (b12.mono B11.size)
  have hb12 := (hb11.below b12).more b12.size
  have H12 := H11.below b12 H11.lt
  have hw12 := (hw11.below b12).more b12.size
  clear hb11 H11 hw11 B11 b11 b12
  refine (same_any _ _ 64 c7 64 c1 (l1.take 64) ((l1.set 64 105).take 64) w12 _ _ hw12 (hb12.take_ 64 (by omega)) (by omega) (by omega)).mono ?_
  rintro e w13 ⟨rfl, m, rfl⟩
  rw [hX.same, decide_eq_true rfl]
  have hb13 := hb12.drewN m
  have H13 : HdAt (w12.drewN m) hN 7 5 ⟨#[97, 112, 112]⟩ D := H12.below (drewN_below w12 w12.heap.size m) H12.lt
  have B13 : Below w.heap.size w (w12.drewN m) := B12.trans (drewN_below _ _ _)
  clear hb12 H12 hw12 B12
  go_wp2_with fail
  refine (body_yes _ 69 c1 (l1.set 64 105) _ _ hb13 (Nat.le_refl _) hc1 (by omega) (by omega)).mono ?_
  intro e w14 hret
  obtain ⟨A14, N14, c14, rfl, hc14, hN14, hb14, b14⟩ := hret.slice_
  have hN5 : N14 = 5 := by rw [hN14.out, List.length_drop, List.length_set, hX.len]
  subst hN5
  have H14 := H13.below b14 H13.lt
  have B14 := B13.trans (b14.mono B13.size)
  clear hret hb13 H13 hc14 hN14 hb14 b14
  go_wp2_with (refine wpList_load_wanted (by rfl) 25 (.tmp 3) rfl hN 0 rfl (Hv 7 5 ⟨#[97, 112, 112]⟩ D) _ H14.range Tryd.underlying25 rfl (by rw [size25h, Hv_length hDl]) ?_)
  refine (right_any w14 7 5 ⟨#[97, 112, 112]⟩ D hDl).mono ?_
  rintro e w15 ⟨rfl, b15⟩
  rw [show rightH 5 ⟨#[97, 112, 112]⟩ = true by decide +kernel]
  have B15 := B14.trans (b15.mono B14.size)
  go_wp2_with fail
  refine (right_any w15 0 0 ⟨#[]⟩ (List.replicate 32 0) rfl).mono ?_
  rintro e w16 ⟨rfl, b16⟩
  rw [show rightH 0 ⟨#[]⟩ = false by decide +kernel]
  go_wp2
  go_ret
  exact ⟨rfl, B15.trans (b16.mono B15.size)⟩
end Go.Proofs.YtiieianbmldnbaaDoor
