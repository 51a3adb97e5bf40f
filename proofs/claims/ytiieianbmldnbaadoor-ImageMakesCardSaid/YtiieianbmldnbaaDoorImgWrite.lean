/-
  A head's bytes.
-/
import Derived.Test.YtiieianbmldnbaaDoorImgHead
import Derived.Deep.RegionHeldLaw
import Derived.Lib.LazyBuf
import Derived.Deep.Onto
namespace Go.Proofs.YtiieianbmldnbaaDoor
open Go.RowKit
set_option maxRecDepth 100000
set_option maxRecDepth 100000
def MAGIC : List UInt8 := [79, 84, 80, 88]
/-- A name's 16 bytes. -/
def pad16 (l : List UInt8) : List UInt8 := l ++ List.replicate (16 - l.length) 0
theorem pad16_length {l : List UInt8} (h : l.length ≤ 16) : (pad16 l).length = 16 := by unfold pad16; simp; omega
/-- A head's first 60 bytes .. -/
def rawOf (v sz : Int) (nm d : List UInt8) : List UInt8 := MAGIC ++ p32 v ++ p32 sz ++ pad16 nm ++ d
/-- .. and all 64. -/
def headOf (v sz : Int) (nm d : List UInt8) : List UInt8 := seals (rawOf v sz nm d)
theorem p32_length (x : Int) : (p32 x).length = 4 := rfl
theorem seals_length (l : List UInt8) : (seals l).length = l.length + 4 := by unfold seals; rw [List.length_append, p32_length]
theorem rawOf_length {v sz : Int} {nm d : List UInt8} (hn : nm.length ≤ 16) (hd : d.length = 32) : (rawOf v sz nm d).length = 60 := by
  unfold rawOf
  simp only [List.length_append, p32_length, pad16_length hn, hd]; rfl
theorem headOf_length {v sz : Int} {nm d : List UInt8} (hn : nm.length ≤ 16) (hd : d.length = 32) : (headOf v sz nm d).length = 64 := by
  unfold headOf; rw [seals_length, rawOf_length hn hd]
theorem range_sub {w : World} {b o : Nat} {vs ws : List Value} (h : w.rangeAt b o (vs ++ ws)) : w.rangeAt b (o + vs.length) ws := fun j v hj => by
  rw [Nat.add_assoc]
  exact h (vs.length + j) v (by rw [List.getElem?_append_right (by omega), Nat.add_sub_cancel_left]; exact hj)
theorem pad_range {w : World} {g : Nat} (l : List UInt8) (hl : l.length ≤ 16) (hr : w.rangeAt g 0 (U8 (List.replicate 16 0))) (ht : w.there g 0 16) :
    (w.setCells g 0 (U8 l)).rangeAt g 0 (U8 (pad16 l)) := by
  have ht' : w.there g 0 (U8 l).length := fun j hj => ht j (by rw [U8_length] at hj; omega)
  unfold pad16
  rw [U8_append]
  refine range_append (World.rangeAt_setCells_same _ _ _ _ ht') ?_
  rw [U8_length, Nat.zero_add]
  have h2 : w.rangeAt g l.length (U8 (List.replicate (16 - l.length) 0)) := by
    have hr' : w.rangeAt g 0 (U8 (List.replicate l.length 0) ++ U8 (List.replicate (16 - l.length) 0)) := by
      rw [← U8_append, List.replicate_append_replicate, show l.length + (16 - l.length) = 16 by omega]; exact hr
    have := range_sub hr'
    rwa [U8_length, List.length_replicate, Nat.zero_add] at this
  exact World.rangeAt_setCells_apart h2 _ _ _ (Or.inr (Or.inr (by rw [U8_length]; omega)))
/-- A range of bytes read as a slice. -/
theorem Bs.of_range {w : World} {g o n : Nat} {l : List UInt8} (h : w.rangeAt g o (U8 l)) (hg : g < w.heap.size) (hn : l.length = n) : Bs w w.heap.size (some ⟨g, o, none⟩) n l :=
  ⟨hn, fun _ => ⟨g, o, rfl, hg, fun k u hu => h k _ (by rw [U8_get, hu]; rfl)⟩⟩
theorem size25h : (Tryd.prog.info? 25).map (·.size) = some 35 := by kernel_rfl
theorem write_no (w : World) (v sz : Int) (nm : ByteArray) (d : List UInt8) (hd : d.length = 32) (hr : rightH sz nm = false) :
    Calls Tryd.prog 9 #[.agg (Hv v sz nm d).toArray] w fun e w' => e = .returned (.tuple #[.slice none 0 0, .int .i64 1]) ∧ Below w.heap.size w w' := by
  obtain ⟨W, hW⟩ : ∃ W, W = w.alloc (.cells (Hv v sz nm d).toArray 25) := ⟨_, rfl⟩
  have hH : HdAt W w.heap.size v sz nm d := hW ▸ HdAt.new_ w 25 v sz nm d hd
  have hB : Below w.heap.size w W := hW ▸ alloc_below w _
  have hR := fun w => right_any w v sz nm d hd
  rw [hr] at hR
  go_enter Tryd.func9, Tryd.ntmps9
  go_wp2_with (first
    | (refine Great.wpList_boxTo rfl 25 _ rfl (some 1) rfl w.heap.size rfl (Hv v sz nm d).toArray rfl ?_; rw [← hW]; clear hW)
    | refine wpList_load_mid rfl 25 (.tmp 1) rfl w.heap.size 0 rfl (Hv v sz nm d) _ hH.range Tryd.underlying25 rfl (by rw [size25h, Hv_length hd]) ?_)
  refine (hR W).mono ?_
  rintro e w2 ⟨rfl, hb2⟩
  go_wp2
  go_ret2
  exact ⟨rfl, hB.trans (hb2.mono hB.size)⟩
set_option maxHeartbeats 1600000 in
theorem write_yes (w : World) (v sz : Int) (nm : ByteArray) (d : List UInt8) (hd : d.length = 32) (hv0 : 0 ≤ v) (hv1 : v < 4294967296) (hr : rightH sz nm = true) :
    Calls Tryd.prog 9 #[.agg (Hv v sz nm d).toArray] w fun e w' => ∃ x, e = .returned (.tuple #[x, .int .i64 0]) ∧ w'.ownsRow w.heap.size 5 1 x 64 (U8 (headOf v sz nm.data.toList d)) ∧ Below w.heap.size w w' := by
  obtain ⟨W, hW⟩ : ∃ W, W = w.alloc (.cells (Hv v sz nm d).toArray 25) := ⟨_, rfl⟩
  have hH : HdAt W w.heap.size v sz nm d := hW ▸ HdAt.new_ w 25 v sz nm d hd
  have hB : Below w.heap.size w W := hW ▸ alloc_below w _
  have hR := fun w => right_any w v sz nm d hd
  have hnl : nm.data.toList.length ≤ 16 ∧ 0 ≤ sz ∧ sz ≤ 1048576 := by
    unfold rightH named at hr
    simp only [Bool.and_eq_true, decide_eq_true_eq] at hr
    exact ⟨hr.1.1.2, hr.2.1, hr.2.2⟩
  rw [hr] at hR
  clear hr
  obtain ⟨hnl, hz0, hz1⟩ := hnl
  have hms : sz % 4294967296 = sz := by omega
  have hns : nm.size ≤ 16 := by have : nm.data.toList.length = nm.size := by rw [Array.length_toList]; rfl
                                omega
  obtain ⟨i0, hi0, hzz, hz2, hz3⟩ := info_parts info_u8
  go_enter Tryd.func9, Tryd.ntmps9
  go_wp2_with (first
    | (refine Great.wpList_boxTo rfl 25 _ rfl (some 1) rfl w.heap.size rfl (Hv v sz nm d).toArray rfl ?_; rw [← hW]; clear hW)
    | refine wpList_load_mid rfl 25 (.tmp 1) rfl w.heap.size 0 rfl (Hv v sz nm d) _ hH.range Tryd.underlying25 rfl (by rw [size25h, Hv_length hd]) ?_)
  refine (hR W).mono ?_
  rintro e w2 ⟨rfl, hb2⟩
  have hB2 := hB.trans (hb2.mono hB.size)
  have hH2 := hH.below hb2 hH.lt
  clear hH hB hb2 hR
  go_wp2
  refine wp_at_world (F := fun W2 => W2.rangeAt w2.heap.size 0 (U8 (List.replicate 16 0)) ∧ W2.there w2.heap.size 0 16 ∧ Below w2.heap.size w2 W2 ∧ w2.heap.size + 1 ≤ W2.heap.size) ⟨range_alloc w2 _ _ rfl, there_new w2 _ _ rfl, alloc_below w2 _, by rw [alloc_size]; exact Nat.le_refl _⟩ ?_
  rintro W2 ⟨hr16, ht16, hb3, hs3⟩
  have hH3 := hH2.below hb3 hH2.lt
  have c2 := hH3.c2
  have hB3 := hB2.trans (hb3.mono hB2.size)
  have hGs := hB2.size
  have hgl := hH2.lt
  generalize hG : w2.heap.size = G at *
  have hcp : Sem.run Tryd.prog (Builtin.copy_ #[26, 9] 3 #[.slice (some ⟨G, 0, none⟩) 16 16, .string nm]) W2.drew = .ok (goInt nm.size) (W2.drew.setCells G 0 (U8 nm.data.toList)) :=
    run_copy_string (P := Tryd.prog) W2.drew 26 9 3 5 G 0 16 16 nm Tryd.underlying26 (by intro w; kernel_rfl) (by omega) (fun j hj => (ht16 j (by omega)).1) (fun j hj => (ht16 j (by omega)).2)
  have hH4 : HdAt (W2.drew.setCells G 0 (U8 nm.data.toList)) w.heap.size v sz nm d := hH3.below (B := G) (below_setCells (drew_below W2 G) (Nat.le_refl _) _ _) (by omega)
  have c2s := hH4.c2
  go_region_held_law (fun Wx => Wx.cell? ⟨w.heap.size, 2, none⟩ = some (.string nm)) (first | assumption | exact c2 | exact c2s) (fail)
  have hp16 := pad_range nm.data.toList hnl (w := W2.drew) hr16 ht16
  have hB4 : Below w.heap.size w (W2.drew.setCells G 0 (U8 nm.data.toList)) := below_setCells (Below.drew hB3) (by omega) _ _
  have hs4 : G + 1 ≤ (W2.drew.setCells G 0 (U8 nm.data.toList)).heap.size := by rw [size_setCells_]; exact hs3
  generalize W2.drew.setCells G 0 (U8 nm.data.toList) = W4 at *
  clear hcp c2 c2s hr16 ht16 hb3 hH2 hH3 hB2 hB3 hs3
  have d0 : ∀ o, (W4.alloc o).cell? ⟨w.heap.size, 0, none⟩ = some (.int .u32 v) := fun o => Lib.cell?_alloc_marked o hH4.c0
  have kc := fun (w : World) (C : Array Value) (n c : Nat) => Lib.run_convert_bytes_const (P := Tryd.prog) w 26 5 C n c Tryd.underlying26 Tryd.underlying5
  go_wp2_with fail
  refine (put32_any _ 4 4 v MAGIC _ (W4.heap.size + 1) (Bs.lit_ W4 5 _ _ MAGIC rfl) (by rw [alloc_size]; exact Nat.le_refl _) (by omega) hv0 hv1).mono ?_
  rintro e w5 ⟨x5, rfl, ho5, hb5⟩
  have hB5 := hB4.trans ((alloc_below W4 _).mono hB4.size |>.trans (hb5.mono (by rw [alloc_size]; have := hB4.size; omega)))
  have hb5' : Below W4.heap.size W4 w5 := (alloc_below W4 _).trans (hb5.mono (by rw [alloc_size]; omega))
  have hH5 := hH4.below hb5' hH4.lt
  have hp5 := range_below hp16 hb5' (by omega)
  have hs5 := hb5'.size
  rw [show (MAGIC ++ p32 v).length = 8 from rfl] at ho5
  obtain ⟨A5, c5, rfl, hc5, hbs5⟩ := Bs.of_own ho5
  have d1 := hH5.c1
  clear hb5 hb5' ho5 hp16 hH4 d0 hB4
  go_wp2_with fail
  refine (put32_any A5 8 c5 sz (MAGIC ++ p32 v) w5 w5.heap.size hbs5 (Nat.le_refl _) (by omega) hz0 (by omega)).mono ?_
  rintro e w6 ⟨x6, rfl, ho6, hb6⟩
  have hB6 := hB5.trans (hb6.mono hB5.size)
  have hH6 := hH5.below hb6 hH5.lt
  have hp6 := range_below hp5 hb6 (by omega)
  have hs6 := hb6.size
  rw [show (MAGIC ++ p32 v ++ p32 sz).length = 12 from rfl] at ho6
  clear hb6 hbs5 hp5 hH5 d1 hB5
  have hbs6 : Bs w6 w6.heap.size (some ⟨G, 0, none⟩) 16 (pad16 nm.data.toList) := Bs.of_range hp6 (by omega) (pad16_length hnl)
  have hpd : (pad16 nm.data.toList).length = 16 := pad16_length hnl
  have hN6 := hB6.size
  go_wp2_with (first
    | (at_builtin; refine wpList_append_bs _ rfl (.tmp 23) (.tmp 24) 26 rfl w5.heap.size 5 i0 Tryd.underlying26 hi0 hzz hz2 hz3 x6 12 _ rfl ho6 w6.heap.size (some ⟨G, 0, none⟩) 16 16 (pad16 nm.data.toList) rfl hbs6 (by omega) hs6 ?_
       intro x7 w7 ho7 hg7
       have hb7 : Below (w.heap.size + 1) w6 w7 := (Below.refl _ w6).grown hg7 (by omega) (fun k hk => by have := own_ge ho6 k hk; omega)
       have hB7 := hB6.trans (hb7.mono (by omega))
       have hH7 := hH6.below hb7 (by omega)
       have hs7 := hb7.size
       have hbs7 : Bs w7 w7.heap.size (some ⟨w.heap.size, 3, none⟩) 32 d := Bs.of_range hH7.dig (by omega) hd
       clear ho6 hbs6 hp6 hb7 hg7 hH7 hH6 hB6)
    | (at_builtin; refine wpList_append_bs _ rfl (.tmp 26) (.tmp 28) 26 rfl w5.heap.size 5 i0 Tryd.underlying26 hi0 hzz hz2 hz3 _ 28 _ rfl ho7 w7.heap.size (some ⟨w.heap.size, 3, none⟩) 32 32 d rfl hbs7 (by omega) (by omega) ?_
       intro x8 w8 ho8 hg8
       have hB8 : Below w.heap.size w w8 := hB7.grown hg8 (by omega) (fun k hk => by have := own_ge ho7 k hk; omega)
       have hs8 := hg8.size
       rw [show U8 (MAGIC ++ p32 v ++ p32 sz) ++ U8 (pad16 nm.data.toList) ++ U8 d = U8 (rawOf v sz nm.data.toList d) by rw [← U8_append, ← U8_append]; rfl] at ho8
       obtain ⟨A8, c8, rfl, hc8, hbs8⟩ := Bs.of_own ho8
       clear ho7 hg8 hbs7 hB7 ho8))
  refine (seal_any A8 60 c8 (rawOf v sz nm.data.toList d) w8 w8.heap.size hbs8 (Nat.le_refl _) (by omega)).mono ?_
  rintro e w9 ⟨x9, rfl, ho9, hb9⟩
  go_wp2
  go_ret2
  refine ⟨x9, rfl, ?_, hB8.trans (hb9.mono hB8.size)⟩
  rw [show (seals (rawOf v sz nm.data.toList d)).length = 64 from headOf_length hnl hd] at ho9
  exact ho9.mono hB8.size
end Go.Proofs.YtiieianbmldnbaaDoor
