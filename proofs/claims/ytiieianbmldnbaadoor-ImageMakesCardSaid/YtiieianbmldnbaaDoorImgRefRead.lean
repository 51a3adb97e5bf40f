/-
  The document's head of bytes.
-/
import Derived.Test.YtiieianbmldnbaaDoorImgRefWrite
import Derived.Test.YtiieianbmldnbaaDoorImgRead
namespace Go.Proofs.YtiieianbmldnbaaDoor
open Go.RowKit
set_option maxRecDepth 100000
set_option maxRecDepth 100000
section
variable {w : World} {g : Nat} {v sz : Int} {nm : ByteArray} {d : List UInt8}
theorem HdAt.set0 (h : HdAt w g v sz nm d) (x : Int) : HdAt (w.setCell ⟨g, 0, none⟩ (.int .u32 x)) g x sz nm d := by
  have hl := Hv_length (v := v) (sz := sz) (nm := nm) h.len
  have := range_set h.range (by rw [hl]; exact h.there) 0 (by rw [hl]; omega) (.int .u32 x)
  exact ⟨h.len, this, there_set h.there _ _⟩
theorem HdAt.set1 (h : HdAt w g v sz nm d) (x : Int) : HdAt (w.setCell ⟨g, 1, none⟩ (.int .i64 x)) g v x nm d := by
  have hl := Hv_length (v := v) (sz := sz) (nm := nm) h.len
  have := range_set h.range (by rw [hl]; exact h.there) 1 (by rw [hl]; omega) (.int .i64 x)
  exact ⟨h.len, this, there_set h.there _ _⟩
theorem HdAt.set2 (h : HdAt w g v sz nm d) (s : ByteArray) : HdAt (w.setCell ⟨g, 2, none⟩ (.string s)) g v sz s d := by
  have hl := Hv_length (v := v) (sz := sz) (nm := nm) h.len
  have := range_set h.range (by rw [hl]; exact h.there) 2 (by rw [hl]; omega) (.string s)
  exact ⟨h.len, this, there_set h.there _ _⟩
theorem HdAt.setd (h : HdAt w g v sz nm d) (k : Nat) (hk : k < 32) (u : UInt8) : HdAt (w.setCell ⟨g, 3 + k, none⟩ (.int .u8 (u.toNat : Int))) g v sz nm (d.set k u) := by
  have hl := Hv_length (v := v) (sz := sz) (nm := nm) h.len
  have := range_set h.range (by rw [hl]; exact h.there) (3 + k) (by rw [hl]; omega) (.int .u8 (u.toNat : Int))
  rw [Nat.zero_add] at this
  refine ⟨by rw [List.length_set]; exact h.len, ?_, there_set h.there _ _⟩
  have e : (Hv v sz nm d).set (3 + k) (.int .u8 (u.toNat : Int)) = Hv v sz nm (d.set k u) := by
    rw [show 3 + k = k + 1 + 1 + 1 by omega]
    show _ = _ :: _ :: _ :: U8 _
    unfold Hv
    rw [List.set_cons_succ, List.set_cons_succ, List.set_cons_succ]
    unfold U8
    rw [List.map_set]
  rw [← e]; exact this
end
theorem g32_take (l : List UInt8) (m : Nat) (hm : 4 ≤ m) : g32 (l.take m) = g32 l := by
  obtain ⟨m, rfl⟩ : ∃ k, m = k + 4 := ⟨m - 4, by omega⟩
  match l with
  | [] => rfl
  | [_] => rfl
  | [_, _] => rfl
  | [_, _, _] => rfl
  | a :: b :: c :: d :: r => rfl
/-- The head's parts, told of the bytes themselves. -/
theorem parts_l {l t : List UInt8} (h : 64 ≤ l.length) (ho : opens (l.take 64) = some t) : partsOf t = ⟨(g32 (l.drop 4)).1, (g32 (l.drop 8)).1, (l.drop 12).take (tz ((l.drop 12).take 16) 16), (l.drop 28).take 32⟩ := by
  obtain ⟨e, _⟩ := opens_some ho
  have hl : (l.take 64).length = 64 := by rw [List.length_take]; omega
  rw [hl, List.take_take] at e
  obtain rfl : t = l.take 60 := e
  have ht := tz_le ((l.drop 12).take 16) 16
  unfold partsOf
  rw [List.drop_take, List.drop_take, List.drop_take, List.drop_take, g32_take _ _ (by omega), g32_take _ _ (by omega), List.take_take, List.take_take, List.take_take, show min 16 (60 - 12) = 16 by omega, show min 32 (60 - 28) = 32 by omega, Nat.min_eq_left (by omega)]
theorem Zat.set {w W : World} (h : Zat w W) {g : Nat} (hg : w.heap.size ≤ g) (k : Nat) (v : Value) : Zat w (W.setCell ⟨g, k, none⟩ v) :=
  ⟨there_set h.there _ _, h.bel.setCell (p := ⟨g, k, none⟩) hg _, by rw [World.size_setCell]; exact h.size⟩
theorem zat33 (w : World) : Zat w (w.alloc (.cells Z35.toArray 33)) := ⟨z35_there w _, alloc_below w _, by rw [alloc_size]; exact Nat.le_refl _⟩
theorem rread_few (A : Option Addr) (n c : Nat) (w : World) (hn : (n : Int) < 64) :
    Calls Tryd.prog 13 #[.slice A n c] w fun e w' => e = .returned (.tuple #[hd0.val, .int .i64 20]) ∧ Below w.heap.size w w' := by
  go_enter Tryd.func13, Tryd.ntmps13
  go_wp2_with (first
    | refine wpList_build_is rfl 33 _ rfl Z35.toArray (by kernel_rfl) ?_
    | refine wpList_store_mid rfl 33 (.tmp 2) (.tmp 14) rfl w.heap.size 0 Z35.toArray rfl rfl (zat33 w).there (by rw [size33h]; rfl) z35_one ?_)
  have hf := z35_stored (zat33 w).there (zat33 w).bel
  refine bodyPost_ret (results_cell_tmp_mid rfl _ _ w.heap.size 0 Z35 _ rfl hf.1 Tryd.underlying33 rfl (by rw [size33h]; rfl)) rfl ?_
  exact ⟨rfl, hf.2⟩
theorem rread_magic (A : Option Addr) (n c : Nat) (l : List UInt8) (w : World) (B : Nat) (hbs : Bs w B A n l) (hB : B ≤ w.heap.size) (hc : n ≤ c) (hn : 64 ≤ (n : Int)) (hm : l.take 4 ≠ MAGIC) :
    Calls Tryd.prog 13 #[.slice A n c] w fun e w' => e = .returned (.tuple #[hd0.val, .int .i64 50]) ∧ Below w.heap.size w w' := by
  have h64 : ¬ (n : Int) < 64 := by omega
  have hc4 : 4 ≤ (c : Int) := by omega
  have hs : (l.take 4 == [79, 84, 80, 88]) = false := beq_eq_false_iff_ne.2 hm
  go_enter Tryd.func13, Tryd.ntmps13
  go_wp2_with fail
  refine gen_world (F := fun W => Oper.upon Tryd.prog _ _ _ _ ((Sem.run Tryd.prog _ W).andThen _)) (fun W => Zat w W ∧ Bs W B A n l) ⟨zat33 w, hbs.below' (zat33 w).bel hB⟩ ?_
  rintro W ⟨hz, hbW⟩
  have q4 := run_string_bs (P := Tryd.prog) (hbW.take_ 4 (by omega)) 26 9 5 c Tryd.underlying26 Tryd.underlying5 Tryd.underlying9
  rw [q4, Result.andThen_ok]
  go_wp2_with (first
    | refine wpList_build_is rfl 33 _ rfl Z35.toArray (by kernel_rfl) ?_
    | refine wpList_store_mid rfl 33 (.tmp 2) (.tmp 19) rfl w.heap.size 0 Z35.toArray rfl rfl hz.there (by rw [size33h]; rfl) z35_one ?_)
  have hf := z35_stored hz.there hz.bel
  refine bodyPost_ret (results_cell_tmp_mid rfl _ _ w.heap.size 0 Z35 _ rfl hf.1 Tryd.underlying33 rfl (by rw [size33h]; rfl)) rfl ?_
  exact ⟨rfl, hf.2⟩
theorem rread_sum (A : Option Addr) (n c : Nat) (l : List UInt8) (w : World) (B : Nat) (hbs : Bs w B A n l) (hB : B ≤ w.heap.size) (hc : n ≤ c) (hn : 64 ≤ (n : Int)) (hm : l.take 4 = MAGIC) (ho : opens (l.take 64) = none) :
    Calls Tryd.prog 13 #[.slice A n c] w fun e w' => e = .returned (.tuple #[hd0.val, .int .i64 51]) ∧ Below w.heap.size w w' := by
  have h64 : ¬ (n : Int) < 64 := by omega
  have hc4 : 4 ≤ (c : Int) := by omega
  have hc64 : 64 ≤ (c : Int) := by omega
  go_enter Tryd.func13, Tryd.ntmps13
  go_wp2_with fail
  refine gen_world (F := fun W => Oper.upon Tryd.prog _ _ _ _ ((Sem.run Tryd.prog _ W).andThen _)) (fun W => Zat w W ∧ Bs W B A n l) ⟨zat33 w, hbs.below' (zat33 w).bel hB⟩ ?_
  rintro W ⟨hz, hbW⟩
  have q4 := run_string_bs (P := Tryd.prog) (hbW.take_ 4 (by omega)) 26 9 5 c Tryd.underlying26 Tryd.underlying5 Tryd.underlying9
  rw [hm] at q4
  rw [q4, Result.andThen_ok]
  go_wp2_with fail
  refine (ropen_any A 64 c (l.take 64) W B (hbW.take_ 64 (by omega)) (by have := hz.size; omega) (by omega) (by omega)).mono ?_
  rintro e w2 ⟨A2, n2, c2, rfl, hc2, hb2, hB2⟩
  rw [ho] at hb2 ⊢
  have hz2 := hz.step hB2
  go_wp2_with (first
    | refine wpList_build_is rfl 33 _ rfl Z35.toArray (by kernel_rfl) ?_
    | refine wpList_store_mid rfl 33 (.tmp 2) (.tmp 28) rfl w.heap.size 0 Z35.toArray rfl rfl hz2.there (by rw [size33h]; rfl) z35_one ?_)
  have hf := z35_stored hz2.there hz2.bel
  refine bodyPost_ret (results_cell_tmp_mid rfl _ _ w.heap.size 0 Z35 _ rfl hf.1 Tryd.underlying33 rfl (by rw [size33h]; rfl)) rfl ?_
  exact ⟨rfl, hf.2⟩
/-- The digest's first k bytes, zeros behind. -/
def dz (D : List UInt8) (k : Nat) : List UInt8 := D.take k ++ List.replicate (32 - k) 0
theorem dz_set {D : List UInt8} {k : Nat} {u : UInt8} (hD : D.length = 32) (hk : k < 32) (hu : D[k]? = some u) : (dz D k).set k u = dz D (k + 1) := by
  unfold dz
  have hl : (D.take k).length = k := by rw [List.length_take]; omega
  rw [List.set_append_right _ _ (by omega), hl, Nat.sub_self, show 32 - k = (32 - (k + 1)) + 1 by omega, List.replicate_succ, List.set_cons_zero, take_snoc9 hu, List.append_assoc]
  rfl
theorem dz_zero (D : List UInt8) : dz D 0 = List.replicate 32 0 := by unfold dz; simp
theorem dz_all {D : List UInt8} (hD : D.length = 32) : dz D 32 = D := by unfold dz; rw [List.take_of_length_le (by omega)]; simp
/-- Where the name ends: from e on all are 0, up to 28. -/
theorem tz_step {l : List UInt8} {k : Nat} (h : l.getD k 0 = 0) : tz l (k + 1) = tz l k := by
  show (if l.getD k 0 = 0 then tz l k else k + 1) = _
  rw [if_pos h]
theorem tz_stop {l : List UInt8} {k : Nat} (h : l.getD k 0 ≠ 0) : tz l (k + 1) = k + 1 := by
  show (if l.getD k 0 = 0 then tz l k else k + 1) = _
  rw [if_neg h]
set_option maxHeartbeats 4000000 in
theorem rread_rest (A : Option Addr) (n c : Nat) (l t : List UInt8) (w : World) (B : Nat) (hbs : Bs w B A n l) (hB : B ≤ w.heap.size) (hc : n ≤ c) (hn : 64 ≤ (n : Int)) (hm : l.take 4 = MAGIC) (ho : opens (l.take 64) = some t) :
    Calls Tryd.prog 13 #[.slice A n c] w fun e w' => e = .returned (.tuple #[(readOf l).val, .int .i64 (readErr l : Int)]) ∧ Below w.heap.size w w' := by
  have h64 : ¬ (n : Int) < 64 := by omega
  have hc4 : 4 ≤ (c : Int) := by omega
  have hc8 : 8 ≤ (c : Int) := by omega
  have hn4 : 4 ≤ (n : Int) := by omega
  have hn8 : 8 ≤ (n : Int) := by omega
  have hc64 : 64 ≤ (c : Int) := by omega
  have hln := hbs.len
  have hP := parts_l (by omega) ho
  go_enter Tryd.func13, Tryd.ntmps13
  go_wp2_with fail
  refine gen_world (F := fun W => Oper.upon Tryd.prog _ _ _ _ ((Sem.run Tryd.prog _ W).andThen _)) (fun W => Zat w W ∧ Bs W B A n l) ⟨zat33 w, hbs.below' (zat33 w).bel hB⟩ ?_
  rintro W ⟨hz, hbW⟩
  have q4 := run_string_bs (P := Tryd.prog) (hbW.take_ 4 (by omega)) 26 9 5 c Tryd.underlying26 Tryd.underlying5 Tryd.underlying9
  rw [hm] at q4
  rw [q4, Result.andThen_ok]
  go_wp2_with fail
  refine (ropen_any A 64 c (l.take 64) W B (hbW.take_ 64 (by omega)) (by have := hz.size; omega) (by omega) (by omega)).mono ?_
  rintro e w2 ⟨A2, n2, c2, rfl, hc2, hb2, hB2⟩
  have Ho := Lib.hid ho
  rw [ho]
  clear hb2 ho
  have hz2 := hz.step hB2
  have hb3 := hbW.below' hB2 (by have := hz.size; omega)
  clear hB2 q4 hbW hz
  obtain ⟨b, off, rfl, hbl, hcc⟩ := hb3.place (by omega)
  clear hcc
  have Hln := Lib.hid hln
  clear hln
  go_wp2_with (first
    | refine wpList_build_is rfl 33 _ rfl Z35.toArray (by kernel_rfl) ?_
    | (refine wpList_store_mid rfl 33 (.tmp 6) (.tmp 29) rfl w2.heap.size 0 Z35.toArray rfl rfl (z35_there w2 _) (by rw [size33h]; rfl) z35_one ?_
       refine gen_world (F := fun W => wpList Tryd.prog _ _ _ _ W) (fun W => HdAt W w2.heap.size 0 0 ⟨#[]⟩ (List.replicate 32 0) ∧ Zat w W ∧ Bs W B (some ⟨b, off, none⟩) n l) ⟨⟨rfl, World.rangeAt_setCells_same _ _ _ _ (z35_there w2 _), World.there_setCells (z35_there w2 _) _ _ _⟩, hz2.step (below_setCells (alloc_below w2 _) (Nat.le_refl _) _ _), hb3.below' (below_setCells (alloc_below w2 _) (Nat.le_refl _) _ _) (by have := hz2.size; omega)⟩ ?_
       rintro w3 ⟨hH3, hz3, hb3'⟩))
  have hp3 := hz3.size
  have h2w : w.heap.size ≤ w2.heap.size := hz2.bel.size
  have h2w' : w.heap.size < w2.heap.size := by have := hz2.size; omega
  generalize w2.heap.size = H at *
  clear hz2 hb3
  refine (rget32_any _ _ _ (l.drop 4) w3 _ (hb3'.drop_ 4)).mono ?_
  rintro e w4 ⟨rfl, m4, rfl⟩
  obtain ⟨v0, v1⟩ := g32_lt (l.drop 4)
  obtain ⟨s0, s1⟩ := g32_lt (l.drop 8)
  have Hres : Hid (readErr l = (if rightH (partsOf t).sz ⟨(partsOf t).nm.toArray⟩ then 0 else 20) ∧ readOf l = (if rightH (partsOf t).sz ⟨(partsOf t).nm.toArray⟩ then partsOf t else hd0)) := by
    have he : readErr l = (if rightH (partsOf t).sz ⟨(partsOf t).nm.toArray⟩ then 0 else 20) := by
      unfold readErr
      rw [if_neg (by have := Hln.out; omega), if_neg (by simpa using hm), Ho.out]
    refine ⟨he, ?_⟩
    unfold readOf
    rw [he, Ho.out]
    cases rightH (partsOf t).sz ⟨(partsOf t).nm.toArray⟩ <;> rfl
  rw [hP] at Hres
  clear hP hm Ho
  generalize (g32 (l.drop 4)).1 = v at *
  generalize (g32 (l.drop 4)).2 = vb at *
  have hH4 := hH3.below (drewN_below w3 w3.heap.size m4) hH3.lt
  have hz4 := hz3.step (drewN_below w3 _ m4)
  have hb4 := hb3'.drewN m4
  have hlt4 := hH4.lt
  have f0 := (hH4.there 0 (by omega)).2
  have x0 := hH4.c0
  generalize w3.drewN m4 = w4 at *
  clear hH3 hz3 hb3' hp3
  go_wp2_with fail
  refine calls_at_world (F := fun W => HdAt W H v 0 ⟨#[]⟩ (List.replicate 32 0) ∧ Zat w W ∧ Bs W B (some ⟨b, off, none⟩) n l) ⟨hH4.set0 v, ⟨there_set hz4.there _ _, hz4.bel.setCell (p := ⟨H, 0, none⟩) h2w _, by rw [World.size_setCell]; exact hz4.size⟩, hb4.setCell (p := ⟨H, 0, none⟩) (Nat.le_trans hB h2w) _⟩ ?_
  rintro w5 ⟨hH5, hz5, hb5⟩
  clear hH4 hz4 hb4 f0 x0 hlt4
  refine (rget32_any _ _ _ (l.drop 8) w5 _ (hb5.drop_ 8)).mono ?_
  rintro e w6 ⟨rfl, m6, rfl⟩
  generalize (g32 (l.drop 8)).2 = sb at *
  generalize (g32 (l.drop 8)).1 = sz at *
  have hH6 := hH5.below (drewN_below w5 w5.heap.size m6) hH5.lt
  have hz6 := hz5.step (drewN_below w5 _ m6)
  have hb6 := hb5.drewN m6
  generalize w5.drewN m6 = w6 at *
  clear hH5 hz5 hb5
  obtain ⟨N, hN⟩ : ∃ N, (l.drop 12).take 16 = N := ⟨_, rfl⟩
  obtain ⟨D, hD⟩ : ∃ D, (l.drop 28).take 32 = D := ⟨_, rfl⟩
  rw [hN, hD] at Hres
  have hDl : D.length = 32 := by rw [← hD, List.length_take, List.length_drop]; have := Hln.out; omega
  have HN := Lib.hid (show ∀ j, j < 16 → ∃ u, l[12 + j]? = some u ∧ N.getD j 0 = u from fun j hj => by
    obtain ⟨u, hu⟩ := byte_get (l := l) (k := 12 + j) (by have := Hln.out; omega)
    refine ⟨u, hu, ?_⟩
    rw [← hN, List.getD_eq_getElem?_getD, List.getElem?_take, if_pos hj, List.getElem?_drop, hu]; rfl)
  have HD := Lib.hid (show ∀ j, j < 32 → ∃ u, l[28 + j]? = some u ∧ D[j]? = some u from fun j hj => by
    obtain ⟨u, hu⟩ := byte_get (l := l) (k := 28 + j) (by have := Hln.out; omega)
    refine ⟨u, hu, ?_⟩
    rw [← hD, List.getElem?_take, if_pos hj, List.getElem?_drop, hu])
  have hcell := fun (j : Nat) (u : UInt8) (W : World) (hb : Bs W B (some ⟨b, off, none⟩) n l) (hu : l[j]? = some u) => (show W.cell? ⟨b, off + j, none⟩ = some (.int .u8 (u.toNat : Int)) from by
    obtain ⟨b', o', e, _, hc⟩ := hb.place (by omega)
    injection e with e
    injection e with e1 e2 _
    subst e1 e2
    exact hc j u hu)
  have Hcell := Lib.hid hcell
  have HDz := Lib.hid hDl
  clear hN hD hcell hDl
  go_wp2_with fail
  go_loop [9] (fun i => ∃ e : Nat, 12 ≤ e ∧ e ≤ 28 ∧ i = .int .i64 e ∧ Hid (tz N (e - 12) = tz N 16)) (fun i => (intOf i).toNat)
  case atStart => exact ⟨28, by omega, by omega, rfl, rfl⟩
  case round =>
    obtain ⟨e, h12, h28, rfl, hz⟩ := hrel
    by_cases hdone : tz N (e - 12) = e - 12
    · have hK : tz N 16 = e - 12 := by rw [← hz.out]; exact hdone
      have hstr := run_string_bs (P := Tryd.prog) ((hb6.drop_ 12).take_ (e - 12) (by omega)) 26 9 5 (c - 12) Tryd.underlying26 Tryd.underlying5 Tryd.underlying9
      have hor : ¬ (12 : Int) < e ∨ ((12 : Int) < e ∧ ∃ (j : Nat) (u : UInt8), IntKind.i64.wrap ((e : Int) - 1) = (j : Int) ∧ (0 : Int) ≤ (j : Int) ∧ (j : Int) < n ∧ w6.cell? ⟨b, off + j, none⟩ = some (.int .u8 ((u : UInt8).toNat : Int)) ∧ ((u.toNat : Int) == 0) = false) := by
        by_cases h : (12 : Int) < e
        · right
          refine ⟨h, e - 1, ?_⟩
          obtain ⟨u, hu, hg⟩ := HN.out (e - 1 - 12) (by omega)
          rw [show 12 + (e - 1 - 12) = e - 1 by omega] at hu
          refine ⟨u, by rw [IntKind.wrap_i64]; omega, by omega, by omega, Hcell.out _ _ _ hb6 hu, ?_⟩
          rw [beq_eq_false_iff_ne]
          intro h0
          have hu0 : u = 0 := UInt8.toNat_inj.1 (by have : (0 : UInt8).toNat = 0 := rfl; omega)
          rw [hu0] at hg
          have := tz_step hg
          rw [show e - 1 - 12 + 1 = e - 12 by omega, hdone] at this
          have := tz_le N (e - 1 - 12)
          omega
        · exact .inl h
      rw [hK] at Hres
      generalize hnm : (l.drop 12).take (e - 12) = nm at *
      have he12 : (12 : Int) ≤ e := by omega
      have hec : (e : Int) ≤ c := by omega
      have hc12 : ¬ c = 12 := by omega
      have f2 := (hH6.there 2 (by omega)).2
      have x2 := hH6.c2
      have hH7 := hH6.set2 ⟨nm.toArray⟩
      have hz7 := hz6.set h2w 2 (.string ⟨nm.toArray⟩)
      have hb7 : Bs (w6.setCell ⟨H, 2, none⟩ (.string ⟨nm.toArray⟩)) B (some ⟨b, off, none⟩) n l := hb6.setCell (p := ⟨H, 2, none⟩) (Nat.le_trans hB h2w) _
      have y2 := hH7.c2
      clear hdone hz hK hnm HN
      rcases hor with hor | ⟨hor, j, u, hj1, hj2, hj3, hj4, hj5⟩
      all_goals
        by_cases hs : (1048576 : Int) < sz
        · have hr : rightH sz ⟨nm.toArray⟩ = false := by
            unfold rightH; rw [decide_eq_false (show ¬ sz ≤ 1048576 by omega), Bool.and_false, Bool.and_false]
          obtain ⟨h1, h2⟩ := Hres.out
          try simp only at h1 h2
          rw [hr, if_neg (by decide)] at h1 h2
          have H1 := Lib.hid h1
          have H2 := Lib.hid h2
          clear h1 h2 Hres hr
          go_wp2_with (first
            | refine wpList_build_is rfl 33 _ rfl Z35.toArray (by kernel_rfl) ?_
            | refine wpList_store_mid rfl 33 (.tmp 2) (.tmp 68) rfl w.heap.size 0 Z35.toArray rfl rfl hz7.there (by rw [size33h]; rfl) z35_one ?_)
          have hf := z35_stored hz7.there hz7.bel
          refine bodyPost_ret (results_cell_tmp_mid rfl _ _ w.heap.size 0 Z35 _ rfl hf.1 Tryd.underlying33 rfl (by rw [size33h]; rfl)) rfl ?_
          exact ⟨by rw [H1.out, H2.out]; rfl, hf.2⟩
        · have hs' : ¬ (1048576 : Int) < sz := hs
          go_wp2_with fail
          refine (rnamed_any _ ⟨nm.toArray⟩).mono ?_
          rintro e w7 ⟨rfl, hw7⟩
          obtain rfl := hw7.symm
          cases hr0 : named nm with
          | false =>
            have hr : rightH sz ⟨nm.toArray⟩ = false := by
              unfold rightH; show (named nm && _) = false; rw [hr0]; rfl
            obtain ⟨h1, h2⟩ := Hres.out
            try simp only at h1 h2
            rw [hr, if_neg (by decide)] at h1 h2
            have H1 := Lib.hid h1
            have H2 := Lib.hid h2
            clear h1 h2 Hres hr
            go_wp2_with (first
              | refine wpList_build_is rfl 33 _ rfl Z35.toArray (by kernel_rfl) ?_
              | refine wpList_store_mid rfl 33 (.tmp 2) (.tmp 68) rfl w.heap.size 0 Z35.toArray rfl rfl hz7.there (by rw [size33h]; rfl) z35_one ?_)
            have hf := z35_stored hz7.there hz7.bel
            refine bodyPost_ret (results_cell_tmp_mid rfl _ _ w.heap.size 0 Z35 _ rfl hf.1 Tryd.underlying33 rfl (by rw [size33h]; rfl)) rfl ?_
            exact ⟨by rw [H1.out, H2.out]; rfl, hf.2⟩
          | true =>
            have hr : rightH sz ⟨nm.toArray⟩ = true := by
              unfold rightH; show (named nm && _) = true; rw [hr0, decide_eq_true s0, decide_eq_true (show sz ≤ 1048576 by omega)]; rfl
            obtain ⟨h1, h2⟩ := Hres.out
            try simp only at h1 h2
            rw [hr, if_pos rfl] at h1 h2
            have H1 := Lib.hid h1
            have H2 := Lib.hid h2
            clear h1 h2 Hres hr
            have f1 := (hH7.there 1 (by omega)).2
            have z1 := hH7.c1
            have hsw : IntKind.i64.wrap sz = sz := by rw [IntKind.wrap_i64]; omega
            have hH8 := hH7.set1 sz
            have hz8 := hz7.set h2w 1 (.int .i64 sz)
            have hb8 := hb7.setCell (p := ⟨H, 1, none⟩) (Nat.le_trans hB h2w) (.int .i64 sz)
            go_wp2_with fail
            go_loopw [10] (fun i wr => ∃ k : Nat, (k : Int) ≤ 32 ∧ i = .int .i64 k ∧ HdAt wr H v sz ⟨nm.toArray⟩ (dz D k) ∧ Zat w wr ∧ Bs wr B (some ⟨b, off, none⟩) n l) (fun i _ => 32 - (intOf i).toNat)
            case atStart => exact ⟨0, by omega, rfl, by rw [dz_zero]; exact hH8, hz8, hb8⟩
            case round =>
              clear hH8 hz8 hb8
              obtain ⟨k, hk, rfl, hH9, hz9, hb9⟩ := hrel
              by_cases hlt : (k : Int) < 32
              · obtain ⟨u', hu1, hu2⟩ := HD.out k (by omega)
                have hcu := Hcell.out (28 + k) u' wr hb9 hu1
                have hfr := (hH9.there (3 + k) (by omega)).2
                obtain ⟨y, hy⟩ := Option.isSome_iff_exists.1 (hH9.there (3 + k) (by omega)).1
                rw [Nat.zero_add] at hfr hy
                have hk0 : (0 : Int) ≤ (k : Int) := by omega
                have hkw : IntKind.i64.wrap (28 + (k : Int)) = ((28 + k : Nat) : Int) := by rw [IntKind.wrap_i64]; omega
                have hkn : ((28 + k : Nat) : Int) < n := by omega
                have hk00 : (0 : Int) ≤ ((28 + k : Nat) : Int) := by omega
                have Hnext := Lib.hid (hH9.setd k (by omega) u')
                have Hdz := Lib.hid (dz_set HDz.out (by omega) hu2)
                clear hu1 hu2
                go_wp2
                go_roundw
                case rel =>
                  have hn := Hnext.out
                  rw [Hdz.out] at hn
                  exact ⟨k + 1, by omega, by go_num, hn, hz9.set h2w _ _, hb9.setCell (p := ⟨H, 3 + k, none⟩) (Nat.le_trans hB h2w) _⟩
                case measure => simp [intOf]; omega
              · obtain rfl : k = 32 := by omega
                rw [dz_all HDz.out] at hH9
                have hvs := Hv_size (v := v) (sz := sz) (nm := ⟨nm.toArray⟩) HDz.out
                go_wp2_with (first
                  | refine wpList_load_mid rfl 33 (.tmp 6) rfl H 0 rfl (Hv v sz ⟨nm.toArray⟩ D) _ hH9.range Tryd.underlying33 rfl (by rw [size33h, Hv_length HDz.out]) ?_
                  | refine wpList_store_mid rfl 33 (.tmp 2) (.tmp 84) rfl w.heap.size 0 (Hv v sz ⟨nm.toArray⟩ D).toArray rfl rfl (by rw [hvs]; exact hz9.there) (by rw [size33h, hvs]) (all_oneCell_toArray (Hv_one _ _ _ _)) ?_)
                refine bodyPost_ret (results_cell_tmp_mid rfl _ _ w.heap.size 0 (Hv v sz ⟨nm.toArray⟩ D) _ rfl (World.rangeAt_setCells_same _ _ _ _ (by rw [Hv_length HDz.out]; exact hz9.there)) Tryd.underlying33 rfl (by rw [size33h, Hv_length HDz.out])) rfl ?_
                exact ⟨by rw [H1.out, H2.out]; rfl, below_setCells hz9.bel (Nat.le_refl _) _ _⟩
    · have h12' : (12 : Int) < e := by
        rcases Nat.lt_or_ge 12 e with h | h
        · omega
        · exact absurd (by rw [show e - 12 = 0 by omega]; rfl) hdone
      obtain ⟨u, hu, hg⟩ := HN.out (e - 1 - 12) (by omega)
      rw [show 12 + (e - 1 - 12) = e - 1 by omega] at hu
      have hu0 : u = 0 := by
        rcases Decidable.em (u = 0) with h | h
        · exact h
        · have := tz_stop (l := N) (k := e - 1 - 12) (by rw [hg]; exact h)
          rw [show e - 1 - 12 + 1 = e - 12 by omega] at this
          exact absurd this hdone
      subst hu0
      have hj4 := Hcell.out _ _ _ hb6 hu
      have hj1 : IntKind.i64.wrap ((e : Int) - 1) = ((e - 1 : Nat) : Int) := by rw [IntKind.wrap_i64]; omega
      have hstep := tz_step hg
      rw [show e - 1 - 12 + 1 = e - 12 by omega] at hstep
      have Hz : Hid (tz N (e - 1 - 12) = tz N 16) := by rw [← hstep]; exact hz.out
      have Hh := Lib.hid (show 12 ≤ e - 1 ∧ e - 1 ≤ 28 ∧ e - 1 < e by omega)
      have hjn : ((e - 1 : Nat) : Int) < n := by omega
      have hj0 : (0 : Int) ≤ ((e - 1 : Nat) : Int) := by omega
      clear hstep hg hu hdone hz
      generalize e - 1 = j at *
      go_wp2
      go_round
      case rel => exact ⟨j, Hh.out.1, Hh.out.2.1, rfl, Hz⟩
      case measure => simp [intOf]; have := Hh.out.2.2; omega
/-- Whatever bytes. -/
theorem rread_any (A : Option Addr) (n c : Nat) (l : List UInt8) (w : World) (B : Nat) (hbs : Bs w B A n l) (hB : B ≤ w.heap.size) (hc : n ≤ c) :
    Calls Tryd.prog 13 #[.slice A n c] w fun e w' => e = .returned (.tuple #[(readOf l).val, .int .i64 (readErr l : Int)]) ∧ Below w.heap.size w w' := by
  have hl := hbs.len
  by_cases h64 : (n : Int) < 64
  · have he : readErr l = 20 := by unfold readErr; rw [if_pos (by omega)]
    have hr : readOf l = hd0 := by unfold readOf; rw [he]; rfl
    rw [he, hr]; exact rread_few A n c w h64
  · by_cases hm : l.take 4 = MAGIC
    · cases ho : opens (l.take 64) with
      | none =>
        have he : readErr l = 51 := by unfold readErr; rw [if_neg (by omega), if_neg (by simpa using hm), ho]
        have hr : readOf l = hd0 := by unfold readOf; rw [he]; rfl
        rw [he, hr]; exact rread_sum A n c l w B hbs hB hc (by omega) hm ho
      | some t => exact rread_rest A n c l t w B hbs hB hc (by omega) hm ho
    · have he : readErr l = 50 := by unfold readErr; rw [if_neg (by omega), if_pos hm]
      have hr : readOf l = hd0 := by unfold readOf; rw [he]; rfl
      rw [he, hr]; exact rread_magic A n c l w B hbs hB hc (by omega) hm
end Go.Proofs.YtiieianbmldnbaaDoor
