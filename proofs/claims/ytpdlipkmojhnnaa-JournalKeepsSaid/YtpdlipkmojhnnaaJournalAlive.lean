/-
  The document's example of a journal.
-/
import Derived.Test.YtpdlipkmojhnnaaJournalStep
namespace Go.Proofs.Ytpdlipkmojhnnaa
open Go.RowKit Go.Maps Go.Shelf
set_option maxRecDepth 100000
set_option linter.unusedVariables false
set_option maxRecDepth 100000
theorem sel_first {F : Fl} {J : JP} {s : JS} (h0 : (grp F J s 0).getD 0 0 = 0) (h1 : (grp F J s 1).getD 0 0 ≠ 0) : selOf F J s 2 = some (0, epOf (grp F J s 0)) := by
  have e1 : selOf F J s 1 = some (0, epOf (grp F J s 0)) := by
    rw [selOf, if_pos ⟨h0, fun x hx => by cases hx⟩]
  rw [selOf, if_neg (fun e => h1 e.1)]
  exact e1
theorem PQAt.of_jat {W : World} {Q : PQ} {n : Nat} {F : Fl} {s : JS} (h : JAt W (Q.at_ n) F s) : PQAt W Q F := ⟨h.part, h.ok, h.fl, h.sane, h.off⟩
def AB : List UInt8 := [97, 98]
def R3 : List UInt8 := seals (3 :: 2 :: AB)
/-- The flash's bytes behind the example's one value. -/
def D1 : List UInt8 := [0, 1, 0, 0, 0, 255, 255, 255] ++ R3 ++ [0] ++ List.replicate 111 255
theorem head1 : headBytes 1 noV = [0, 1, 0, 0, 0, 255, 255, 255] := by decide +kernel
theorem d1_is {G G1 : Fl} (hL : LaidAt (fresh 4 32) G 0 64 1 noV) (hd : G1.dat = patch G.dat (0 + 8) (R3 ++ [0])) : G1.dat = D1 := by
  have hlen : G.dat.length = 128 := hL.len
  have hG : G.dat = [0, 1, 0, 0, 0, 255, 255, 255] ++ List.replicate 120 255 := by
    refine List.ext_getElem? fun i => ?_
    by_cases h8 : i < 8
    · have := hL.head i (by rw [sizeAll_noV]; exact h8)
      rw [Nat.zero_add, head1] at this
      rw [this, List.getElem?_append_left (by simpa using h8)]
    · rw [List.getElem?_append_right (by simp; omega), List.getElem?_replicate]
      by_cases h128 : i < 128
      · rw [if_pos (by simp; omega)]
        by_cases h64 : i < 64
        · have := hL.rest i (by rw [sizeAll_noV]; omega) (by omega)
          exact this
        · rw [hL.out i (by omega)]
          show (List.replicate (4 * 32) (255 : UInt8))[i]? = _
          rw [List.getElem?_replicate, if_pos (by omega)]
      · rw [if_neg (by simp; omega), List.getElem?_eq_none (by omega)]
  rw [hd, hG]
  decide +kernel
def V1 : Int → Option (List UInt8) := putV (dropV noV 3) 3 AB
theorem v1_size : sizeAll V1 = 17 := by decide +kernel
theorem v1_keys : keysOf V1 = [3] := by decide +kernel
theorem v1_3 : V1 3 = some AB := by decide +kernel
theorem v1_5 : (V1 5).isSome = false := by decide +kernel
def B1 : List UInt8 := D1.take 64
theorem b1_take : (takeOf B1).2.1 = 17 ∧ (takeOf B1).2.2 = 0 ∧ keysOf (takeOf B1).1 = [3] ∧ (takeOf B1).1 3 = some AB := by decide +kernel
theorem b1_drop : sizeAll (dropV (takeOf B1).1 3) = 8 ∧ keysOf (dropV (takeOf B1).1 3) = [] := by decide +kernel
theorem b1_end : endOf ((D1.drop 17).take 47) 47 = 0 := by decide +kernel
theorem b1_ep : epOf B1 = 1 := by decide +kernel
theorem d1_cells : D1[0]? = some 0 ∧ D1[1]? = some 1 ∧ D1[8]? = some 3 ∧ D1[9]? = some 2 ∧ D1[10]? = some 97 ∧ D1[16]? = some 0 ∧ D1.length = 128 := by decide +kernel
theorem r3_len : R3.length = 8 := by decide +kernel
set_option maxHeartbeats 4000000 in
theorem alive5 (w : World) : Calls Try.prog 4 #[] w fun e w' => e = .returned (.bool true) ∧ Below w.heap.size w w' := by
  go_enter Try.func4, Try.ntmps4
  go_wp2_with fail
  refine (groups_f w 32 32 (by decide)).mono ?_
  rintro e w1 ⟨g, bb, wb, pa, pb, rfl, hq, b1, hg, hbb, hwb, hpa, hpb⟩
  have ko := jopen_f w1 (QG g bb wb pa pb 32) (fresh 4 32) hq (by show ((min (2 * 32) (2 * 32) : Nat) : Int) ≤ 65536; decide)
  have HQ : Aside _ := And.intro hq (And.intro b1 (And.intro hg (And.intro hbb hwb)))
  have Hpp : Aside _ := And.intro hpa hpb
  clear hq b1 hg hbb hwb hpa hpb
  go_wp2_with fail
  refine ko.mono ?_
  intro e w2 hp
  obtain ⟨rfl, G, hj, hl, hbel⟩ := open_fresh (by decide) (by decide) HQ.out.1 hp
  obtain ⟨J, hJ⟩ : ∃ J, (QG g bb wb pa pb 32).at_ w1.heap.size = J := ⟨_, rfl⟩
  have hjb : J.jb = w1.heap.size := by rw [← hJ]; rfl
  have hbe0 : J.be 0 = 0 := by rw [← hJ]; rfl
  rw [hJ] at hj
  have hon : On G := hl.on
  have ht : Tail G J (SF 32) := by
    have := hl.rest
    rw [sizeAll_noV] at this
    show Blk G (J.be 0 + 8) (J.be 0 + 2 * 32)
    rw [hbe0]; exact this
  have H2 : Aside _ := And.intro hj (And.intro hon (And.intro ht (And.intro hl hbel)))
  have HJ : Aside _ := And.intro hJ (And.intro hjb hbe0)
  have ke := epoch_f w2 J G _ hj
  rw [hjb] at ke
  clear hp ko hl hbel hon ht hJ hjb hbe0 hj
  go_wp2_with fail
  refine ke.mono ?_
  rintro e w3 ⟨rfl, hw⟩
  obtain rfl := hw.symm
  clear ke
  have kc := fun (w : World) (C : Array Value) (n c : Nat) => Lib.run_convert_bytes_const (P := Try.prog) w 35 5 C n c Try.underlying35 Try.underlying5
  go_wp2_with fail
  have HN := Lib.hid (rfl : w2.heap.size = w2.heap.size)
  refine calls_at_world (F := fun W => Below w2.heap.size w2 W ∧ Bs W W.heap.size (some ⟨w2.heap.size, 0, none⟩) 2 AB) ⟨alloc_below w2 _, (Bs.lit_ w2 5 #[.int .u8 97, .int .u8 98] _ AB rfl).more (by rw [alloc_size]; exact Nat.le_refl _)⟩ fun w3 ⟨b3, hb3⟩ => ?_
  have hj3 := H2.out.1.below b3
  have kp := put_f w3 J G _ hj3 3 (by decide) (by decide) _ 2 2 AB hb3
  rw [HJ.out.2.1] at kp
  have HJ3 : Aside _ := And.intro hj3 b3
  clear hj3 b3 hb3
  refine kp.mono ?_
  intro e w4 hp
  clear kp
  obtain ⟨hB4, hO⟩ := put_on HJ3.out.1 H2.out.2.1 H2.out.2.2.1 hp
  have hstep : e = .returned (.int .i64 0) ∧ Stepped w4 J G (SF 32) V1 R3 := by
    rcases hO with ⟨ec, _, _, _, hr⟩ | ⟨_, _, _, hv, _⟩ | ⟨_, _, he, _, _, hs⟩
    · rcases hr with ⟨h, _⟩ | ⟨_, h, _⟩ | ⟨_, _, _, h, _⟩ | ⟨_, _, _, _, _, h, _⟩
      · omega
      · exact absurd h (by decide)
      · have : sizeAll V1 = 17 := v1_size
        have h' : 64 < sizeAll V1 := h
        omega
      · exact absurd h (by decide)
    · cases hv
    · exact ⟨he, hs⟩
  obtain ⟨rfl, hst⟩ := hstep
  obtain ⟨G1, s1, hj4, hon4, ht4, hz4, hV4, hlen4, hcase⟩ := hst.tail HJ3.out.1 H2.out.2.2.1
  have hcase' : s1.cnt = 0 ∧ s1.ep = 1 ∧ s1.en = 17 ∧ G1.dat = D1 := by
    rcases hcase with ⟨_, h1, h2, h3, h4⟩ | ⟨h, _⟩
    · refine ⟨h1, h2, by rw [h3, r3_len]; rfl, d1_is H2.out.2.2.2.1 ?_⟩
      rw [h4]
      show patch G.dat (J.be 0 + 8) _ = _
      rw [HJ.out.2.2]
    · rw [r3_len] at h; exact absurd h (by decide)
  have H4 : Aside _ := And.intro hj4 (And.intro hon4 (And.intro ht4 (And.intro hz4 (And.intro hV4 (And.intro hcase' hB4)))))
  clear hp hO hst hj4 hon4 ht4 hz4 hV4 hlen4 hcase hcase' hB4 kc
  go_wp2_with fail
  have kp := put_f w4 J G1 s1 H4.out.1 40 (by decide) (by decide) none 0 0 [] (Bs.empty _ _ _)
  rw [HJ.out.2.1] at kp
  refine kp.mono ?_
  intro e w5 hp
  clear kp
  have hst : e = .returned (.int .i64 1) ∧ Below w4.heap.size w4 w5 := by
    obtain ⟨_, hO⟩ := put_on H4.out.1 H4.out.2.1 H4.out.2.2.1 hp
    rcases hO with ⟨ec, he, _, hb, hr⟩ | ⟨h, _⟩ | ⟨h, _⟩
    · rcases hr with ⟨_, rfl⟩ | ⟨h, _⟩ | ⟨h, _⟩ | ⟨h, _⟩
      · exact ⟨he, hb⟩
      all_goals omega
    all_goals omega
  obtain ⟨rfl, b5⟩ := hst
  have H5 : Aside _ := And.intro (H4.out.1.below b5) b5
  clear hp b5
  go_wp2_with fail
  have kd := drop_f w5 J G1 s1 H5.out.1 5 (by decide) (by decide)
  rw [HJ.out.2.1] at kd
  refine kd.mono ?_
  intro e w6 hp
  clear kd
  have hst : e = .returned (.int .i64 4) ∧ Below w5.heap.size w5 w6 := by
    unfold DropPost at hp
    have hjk : jck G1 5 = 0 := by unfold jck; rw [if_neg (by rw [H4.out.2.1.2]; decide), if_neg (by decide)]
    rw [if_neg (by rw [hjk]; decide), if_pos (by rw [H4.out.2.2.2.2.1]; exact v1_5)] at hp
    exact hp
  obtain ⟨rfl, b6⟩ := hst
  have H6 : Aside _ := And.intro (H5.out.1.below b6) b6
  clear hp b6
  go_wp2_with fail
  have hq : PartAt w6 (J.pp 0) J.g (J.fi 0) (J.co 0) (J.be 0) (J.si 0) := H6.out.1.part 0 (by omega)
  have ki := image_f w6 J.g J.bb J.wb G1 H6.out.1.fl
  have hg' : J.g = g := by rw [← HJ.out.1]; rfl
  rw [hg'] at ki
  clear hq hg'
  refine ki.mono ?_
  rintro e w7 ⟨rfl, hi7, b7, hs7⟩
  have H7 : Aside _ := And.intro (H6.out.1.below b7) (And.intro hi7 (And.intro b7 hs7))
  clear ki hi7 b7 hs7
  have hgl : G1.dat.length = 128 := by rw [H4.out.2.2.2.2.2.1.2.2.2]; exact d1_cells.2.2.2.2.2.2
  rw [hgl]
  have hV : s1.V = V1 := H4.out.2.2.2.2.1
  go_wp2_with fail
  have kg := jget_f J.jb J.lo s1.pv s1.D s1.V 3 w7 H7.out.1.c6 H7.out.1.vals (by decide)
  rw [HJ.out.2.1, hV, v1_3] at kg
  refine kg.mono ?_
  rintro e w8 ⟨v8, rfl, ho8, b8⟩
  clear kg
  obtain ⟨L8, hL8⟩ : ∃ L, ((some AB).getD []).length = L := ⟨_, rfl⟩
  rw [hL8] at ho8
  have HL8 : Aside _ := hL8
  clear hL8
  obtain ⟨A8, c8, rfl, hc8, hy8⟩ := Bs.of_own ho8
  have H8 : Aside _ := And.intro (H7.out.1.below b8) (And.intro hy8 b8)
  clear ho8 hy8 b8 hc8
  go_wp2_with fail
  have kk := jkeys_f J.jb J.lo s1.pv s1.D s1.V w8 H8.out.1.c6 H8.out.1.vals
  rw [HJ.out.2.1, hV, v1_keys] at kk
  refine kk.mono ?_
  rintro e w9 ⟨v9, rfl, ho9, _, b9⟩
  clear kk
  obtain ⟨A9, c9, rfl, hints⟩ := ints_of_own ho9
  obtain ⟨ga, rfl, hga, hga2, hgc⟩ := hints 0 3 rfl
  have H9 : Aside _ := And.intro (H8.out.1.below b9) (And.intro (And.intro hga (And.intro hga2 hgc)) b9)
  clear ho9 hints b9 hgc hga hga2
  go_wp2_with fail
  have hq9 : PQAt w9 (QG g bb wb pa pb 32) G1 := PQAt.of_jat (n := w1.heap.size) (HJ.out.1 ▸ H9.out.1)
  have ko := jopen_f w9 (QG g bb wb pa pb 32) G1 hq9 (by show ((min (2 * 32) (2 * 32) : Nat) : Int) ≤ 65536; decide)
  refine ko.mono ?_
  intro e w10 hp
  clear ko
  obtain ⟨J2, hJ2⟩ : ∃ J2, (QG g bb wb pa pb 32).at_ w9.heap.size = J2 := ⟨_, rfl⟩
  have HJ2 : Aside (J2.jb = w9.heap.size ∧ J2.be 0 = 0) := by rw [← hJ2]; exact ⟨rfl, rfl⟩
  have hdat : G1.dat = D1 := H4.out.2.2.2.2.2.1.2.2.2
  have hgr0 : grp G1 J2 (S0 64) 0 = B1 := by
    rw [← hJ2]
    show (G1.dat.drop (0 + 0)).take 64 = _
    rw [hdat]; rfl
  have hgr1 : (grp G1 J2 (S0 64) 1).getD 0 0 ≠ 0 := by
    rw [← hJ2]
    show ((G1.dat.drop (2 * 32 * 1 + 0)).take 64).getD 0 0 ≠ 0
    rw [hdat]; decide +kernel
  have hst : e = .returned (.tuple #[.pointer (some ⟨w9.heap.size, 0, none⟩), .int .i64 0]) ∧ Below w9.heap.size w9 w10 ∧ ∃ mb D, JAt w10 J2 G1 { S0 64 with cnt := 0, ep := 1, en := 17, pv := some mb, D := D, V := (takeOf B1).1 } := by
    unfold MakePost at hp
    have hsz : min ((QG g bb wb pa pb 32).si 0) ((QG g bb wb pa pb 32).si 1) = 64 := rfl
    rw [if_neg (by rw [H4.out.2.1.2]; decide), hsz, if_neg (by decide), hJ2] at hp
    obtain ⟨wa, ec, hja, hba, ho, he⟩ := hp
    unfold OpenPost at ho
    rw [sel_first (by rw [hgr0]; decide +kernel) hgr1] at ho
    simp only [hgr0] at ho
    rw [if_neg (by rw [b1_take.2.1]; decide)] at ho
    obtain ⟨mb, D, wr, hjr, hor, ho⟩ := ho
    rw [b1_take.1] at hjr ho
    have hpc : piece G1 (J2.be 0 + 17) ((S0 64).size - 17) = (D1.drop 17).take 47 := by
      rw [HJ2.out.2]
      show (G1.dat.drop (0 + 17)).take 47 = _
      rw [hdat]
    rw [hpc, show (S0 64).size - 17 = 47 from rfl, if_pos b1_end] at ho
    obtain ⟨ho, rfl⟩ := ho
    have hec : ec = 0 := by injection ho with x; injection x
    subst hec
    rw [if_pos rfl] at he
    rw [b1_ep] at hjr
    have hob : Below w9.heap.size w9 w10 := hba.trans ⟨hor.os, hor.tape, hor.output, hor.size, fun k hk => hor.block k (Nat.lt_of_lt_of_le hk hba.size) (by have := HJ2.out.1; omega)⟩
    exact ⟨he, hob, mb, D, hjr⟩
  obtain ⟨rfl, b10, mb, D, hj10⟩ := hst
  have H10 : Aside _ := And.intro hj10 (And.intro (H9.out.1.below b10) b10)
  clear hp b10 hj10 hgr0 hgr1 hq9 hdat
  go_wp2_with fail
  have kg := jget_f J2.jb J2.lo _ _ _ 3 w10 H10.out.1.c6 H10.out.1.vals (by decide)
  rw [HJ2.out.1] at kg
  simp only [b1_take.2.2.2] at kg
  refine kg.mono ?_
  rintro e w11 ⟨v11, rfl, ho11, b11⟩
  clear kg
  obtain ⟨L11, hL11⟩ : ∃ L, ((some AB).getD []).length = L := ⟨_, rfl⟩
  rw [hL11] at ho11
  have HL11 : Aside _ := hL11
  clear hL11
  obtain ⟨A11, c11, rfl, hc11, hy11⟩ := Bs.of_own ho11
  have H11 : Aside _ := And.intro (H10.out.1.below b11) (And.intro (H10.out.2.1.below b11) (And.intro hy11 b11))
  clear ho11 hy11 b11 hc11
  have hb711 : Below w7.heap.size w7 w11 := by
    have h8 := H8.out.2.2
    have h9 := H9.out.2.2
    have h10 := H10.out.2.2
    have h11 := H11.out.2.2.2
    exact h8.trans ((h9.trans ((h10.trans (h11.mono h10.size)).mono h9.size)).mono h8.size)
  have hi11 : Bs w11 w7.heap.size (some ⟨w6.heap.size, 0, none⟩) G1.dat.length G1.dat := H7.out.2.1.below hb711
  rw [H4.out.2.2.2.2.2.1.2.2.2] at hi11
  have im : ∀ (k : Nat) (u : UInt8) (z : Int), D1[k]? = some u → (u.toNat : Int) = z → w11.cell? ⟨w6.heap.size, k, none⟩ = some (.int .u8 z) := fun k u z h1 h2 => by
    have := hi11.at1 k u h1
    rw [Nat.zero_add] at this
    rw [this, h2]
  have m0 := im 0 0 0 d1_cells.1 rfl
  have m1 := im 1 1 1 d1_cells.2.1 rfl
  have m8 := im 8 3 3 d1_cells.2.2.1 rfl
  have m9 := im 9 2 2 d1_cells.2.2.2.1 rfl
  have m10 := im 10 97 97 d1_cells.2.2.2.2.1 rfl
  have m16 := im 16 0 0 d1_cells.2.2.2.2.2.1 rfl
  have hk11 : w11.cell? ⟨ga, 0, none⟩ = some (.int .i64 3) := by
    have h10 := H10.out.2.2
    have h11 := H11.out.2.2.2
    have hbb : Below w9.heap.size w9 w11 := h10.trans (h11.mono h10.size)
    exact (hbb.cell (p := ⟨ga, 0, none⟩) H9.out.2.1.2.1).trans H9.out.2.1.2.2
  have hb8 : Bs w11 w8.heap.size A8 L8 AB := H8.out.2.1.below (by
    have h9 := H9.out.2.2
    have h10 := H10.out.2.2
    have h11 := H11.out.2.2.2
    exact h9.trans ((h10.trans (h11.mono h10.size)).mono h9.size))
  have hb11 : Bs w11 w11.heap.size A11 L11 AB := H11.out.2.2.1
  have s8 : (convert 35 9 (.slice A8 L8 c8)).run Try.prog w11 = .ok (.string ⟨#[97, 98]⟩) w11 := run_string_bs (P := Try.prog) hb8 35 9 5 c8 Try.underlying35 Try.underlying5 Try.underlying9
  have s11 : (convert 35 9 (.slice A11 L11 c11)).run Try.prog w11 = .ok (.string ⟨#[97, 98]⟩) w11 := run_string_bs (P := Try.prog) hb11 35 9 5 c11 Try.underlying35 Try.underlying5 Try.underlying9
  clear hi11 im hb8 hb11 hb711
  go_wp2_with fail
  have kr := room_f w11 J G1 s1 H11.out.2.1
  rw [HJ.out.2.1, H4.out.2.2.2.1, H4.out.2.2.2.2.2.1.2.2.1] at kr
  have hr47 : (((SF 32).size : Nat) : Int) - ((17 : Nat) : Int) = 47 := by decide
  rw [hr47] at kr
  refine kr.mono ?_
  rintro e w12 ⟨rfl, b12⟩
  have H12 : Aside _ := And.intro (H11.out.1.below b12) b12
  clear kr b12 hr47 m0 m1 m8 m9 m10 m16 hk11 s8 s11
  go_wp2_with fail
  have kd := drop_f w12 J2 G1 _ H12.out.1 3 (by decide) (by decide)
  rw [HJ2.out.1] at kd
  refine kd.mono ?_
  intro e w13 hp
  clear kd
  have hst : e = .returned (.int .i64 0) ∧ (∀ B, B ≤ w12.heap.size → B ≤ J2.g → B ≤ J2.bb → B ≤ J2.wb → B ≤ J2.jb → Below B w12 w13) ∧ ∃ G2 s3, JAt w13 J2 G2 s3 ∧ s3.V = dropV (takeOf B1).1 3 := by
    unfold DropPost at hp
    have hjk : jck G1 3 = 0 := by unfold jck; rw [if_neg (by rw [H4.out.2.1.2]; decide), if_neg (by decide)]
    have h3 : ((takeOf B1).1 3).isSome = true := by rw [b1_take.2.2.2]; rfl
    rw [if_neg (by rw [hjk]; decide), if_neg (by show ¬ ((takeOf B1).1 3).isSome = false; rw [h3]; decide)] at hp
    obtain ⟨wa, b, D', hba, hVa, hT⟩ := hp
    have htl : Tail G1 J2 { S0 64 with cnt := 0, ep := 1, en := 17, pv := some mb, D := D, V := (takeOf B1).1 } := by
      have := H4.out.2.2.1
      unfold Tail at this ⊢
      rw [H4.out.2.2.2.2.2.1.1, H4.out.2.2.2.2.2.1.2.2.1, H4.out.2.2.2.1, HJ.out.2.2] at this
      show Blk G1 (J2.be 0 + 17) (J2.be 0 + 64)
      rw [HJ2.out.2]; exact this
    obtain ⟨hB, hT⟩ := turn_on H12.out.1 hba hVa H4.out.2.1 htl hT
    have hs8 : sizeAll (dropV (takeOf B1).1 3) = 8 := b1_drop.1
    rw [hs8, seals_len] at hT
    rcases hT with ⟨h, _⟩ | ⟨_, h, _⟩ | ⟨_, he, hs⟩
    · exact absurd (show 64 < 8 from h) (by decide)
    · exact absurd (show 64 < 17 + 6 + 1 from h) (by decide)
    · obtain ⟨G2, s3, hj, _, _, _, hV3, _⟩ := hs.tail H12.out.1 htl
      exact ⟨he, hB, G2, s3, hj, hV3⟩
  obtain ⟨rfl, hB13, G2, s3, hj13, hV3⟩ := hst
  have H13 : Aside _ := And.intro hj13 hB13
  clear hp hj13 hB13
  go_wp2_with fail
  have kk := jkeys_f J2.jb J2.lo s3.pv s3.D s3.V w13 H13.out.1.c6 H13.out.1.vals
  rw [HJ2.out.1, hV3, b1_drop.2] at kk
  refine kk.mono ?_
  rintro e w14 ⟨v14, rfl, _, hnil, b14⟩
  clear kk
  obtain rfl : v14 = .slice none 0 0 := hnil.2 rfl
  have hfin : Aside (Below w.heap.size w w14) := by
    obtain ⟨hq, b1, hg, hbb, hwb⟩ := HQ.out
    have jg : J.g = g ∧ J.bb = bb ∧ J.wb = wb := by rw [← HJ.out.1]; exact ⟨rfl, rfl, rfl⟩
    have jg2 : J2.g = g ∧ J2.bb = bb ∧ J2.wb = wb := by rw [← hJ2]; exact ⟨rfl, rfl, rfl⟩
    have jj := HJ.out.2.1
    have jj2 := HJ2.out.1
    have c1 := b1
    have c2 := c1.trans (H2.out.2.2.2.2 w.heap.size c1.size hg hbb hwb)
    have c3 := c2.trans (HJ3.out.2.mono c2.size)
    have c4 := c3.trans (H4.out.2.2.2.2.2.2 w.heap.size c3.size (by omega) (by omega) (by omega) (by have := c1.size; omega))
    have c5 := c4.trans (H5.out.2.mono c4.size)
    have c6 := c5.trans (H6.out.2.mono c5.size)
    have c7 := c6.trans (H7.out.2.2.1.mono c6.size)
    have c8 := c7.trans (H8.out.2.2.mono c7.size)
    have c9 := c8.trans (H9.out.2.2.mono c8.size)
    have c10 := c9.trans (H10.out.2.2.mono c9.size)
    have c11 := c10.trans (H11.out.2.2.2.mono c10.size)
    have c12 := c11.trans (H12.out.2.mono c11.size)
    have c13 := c12.trans (H13.out.2 w.heap.size c12.size (by omega) (by omega) (by omega) (by have := c9.size; omega))
    exact c13.trans (b14.mono c13.size)
  go_wp2
  go_ret
  exact ⟨rfl, hfin.out⟩
end Go.Proofs.Ytpdlipkmojhnnaa
