/-
  ImageNames: an image is made of a text just if that is a name.
-/
import Derived.Test.YtiieianbmldnbaaDoorImgAlive
import Derived.Test.YtiieianbmldnbaaDoorImgRefName
namespace Go.Proofs.YtiieianbmldnbaaDoor
open Go.RowKit
set_option maxRecDepth 100000
theorem make_drop12 (nm : List UInt8) (v : Int) (l : List UInt8) : ∃ R, (makeOf nm v l).drop 12 = nm ++ (List.replicate (16 - nm.length) 0 ++ R) := by
  refine ⟨shaOf l ++ (p32 ((sum (rawOf v (l.length : Int) nm (shaOf l))).toNat : Int) ++ l), ?_⟩
  unfold makeOf headOf seals
  generalize p32 ((sum (rawOf v (l.length : Int) nm (shaOf l))).toNat : Int) = z
  unfold rawOf pad16
  simp only [List.append_assoc]
  rfl
theorem make_name (nm : List UInt8) (v : Int) (l : List UInt8) : ((makeOf nm v l).drop 12).take nm.length = nm := by
  obtain ⟨R, h⟩ := make_drop12 nm v l
  rw [h, List.take_left]
theorem make_zero (nm : List UInt8) (v : Int) (l : List UInt8) (i : Nat) (h1 : 12 + nm.length ≤ i) (h2 : i < 28) : (makeOf nm v l)[i]? = some 0 := by
  obtain ⟨R, h⟩ := make_drop12 nm v l
  have e : (makeOf nm v l)[i]? = ((makeOf nm v l).drop 12)[i - 12]? := by rw [List.getElem?_drop]; congr 1; omega
  rw [e, h, List.getElem?_append_right (by omega), List.getElem?_append_left (by rw [List.length_replicate]; omega), List.getElem?_replicate, if_pos (by omega)]
set_option maxHeartbeats 2000000 in
theorem names_law (s : ByteArray) (v : Int) (A : Option Addr) (n c : Nat) (l : List UInt8) (w : World) (hbs : Bs w w.heap.size A n l) (hc : n ≤ c) (hv0 : 0 ≤ v) (hv1 : v < 4294967296) (hK : Ks w) :
    Calls Tryd.prog 7 #[.string s, .int .u32 v, .slice A n c] w fun e w' => e = .returned (.bool true) ∧ Below w.heap.size w w' := by
  have hsl : s.data.toList.length = s.size := by rw [Array.length_toList]; rfl
  go_enter Tryd.func7, Tryd.ntmps7
  go_wp2_with fail
  refine (alive_any w hK).mono ?_
  rintro e w1 ⟨rfl, b1⟩
  have K1 := hK.step b1
  have hb1 := (hbs.below b1).more b1.size
  by_cases hn : (200 : Int) < n
  · go_wp2
    go_ret
    exact ⟨rfl, b1⟩
  · cases hnm : named s.data.toList with
    | false =>
      go_wp2_with fail
      refine (make_no w1 s v A n c hnm).mono ?_
      rintro e w2 ⟨rfl, b2⟩
      go_wp2_with fail
      refine (rnamed_any w2 s).mono ?_
      rintro e w3 ⟨rfl, hw⟩
      obtain rfl := hw.symm
      rw [hnm]
      go_wp2
      go_ret
      exact ⟨rfl, b1.trans (b2.mono b1.size)⟩
    | true =>
      have h16 : s.size ≤ 16 := by have := named_le hnm; omega
      have h16i : (s.size : Int) ≤ 16 := by omega
      have hml := makeOf_length (v := v) (l := l) hnm
      have hmn := make_name s.data.toList v l
      have hmz := make_zero s.data.toList v l
      rw [hsl] at hmn hmz
      have hln := hbs.len
      have hni : (n : Int) ≤ 200 := by omega
      go_wp2_with fail
      refine (make_yes w1 s v A n c l _ hb1 (Nat.le_refl _) hc (by omega) hnm hv0 hv1 K1.1 K1.2).mono ?_
      rintro e w2 ⟨x2, rfl, ho2, b2⟩
      have B2 := b1.trans (b2.mono b1.size)
      generalize makeOf s.data.toList v l = m at *
      obtain ⟨A2, c2, rfl, hc2, hb2, hg2⟩ := own_open ho2
      obtain ⟨g, rfl, _, _, _⟩ := hg2 (by omega)
      clear hg2 ho2 hb1 hbs hml
      obtain ⟨N, hN⟩ : ∃ N, 64 + n = N := ⟨_, rfl⟩
      rw [hN] at hb2 hc2 ⊢
      have hNi : (N : Int) = 64 + n := by omega
      have hc2i : (N : Int) ≤ c2 := by omega
      go_wp2_with fail
      refine (rnamed_any w2 s).mono ?_
      rintro e w3 ⟨rfl, hw⟩
      obtain rfl := hw.symm
      rw [hnm]
      have q := run_string_bs (P := Tryd.prog) ((hb2.drop_ 12).take_ s.size (by omega)) 26 9 5 (c2 - 12) Tryd.underlying26 Tryd.underlying5 Tryd.underlying9
      rw [hmn, Nat.zero_add, show (⟨s.data.toList.toArray⟩ : ByteArray) = s from by cases s; rfl] at q
      go_wp2
      obtain ⟨_, _, eA, _, hcell⟩ := hb2.place (by omega)
      injection eA with eA
      injection eA with eA1 eA2 _
      subst eA1 eA2
      clear q hmn hw
      go_loop [9] (fun i => ∃ k : Nat, 12 + s.size ≤ k ∧ k ≤ 28 ∧ i = .int .i64 k) (fun i => 28 - (intOf i).toNat)
      case atStart => exact ⟨12 + s.size, Nat.le_refl _, by omega, by go_num⟩
      case round =>
        obtain ⟨k, hk0, hk, rfl⟩ := hrel
        by_cases hlt : (k : Int) < 28
        · have hck := hcell k 0 (hmz k hk0 (by omega))
          rw [Nat.zero_add] at hck
          have hkN : (k : Int) < N := by omega
          go_wp2
          go_round
          case rel => exact ⟨k + 1, by omega, by omega, by go_num⟩
          case measure => simp [intOf]; omega
        · go_wp2
          go_ret
          exact ⟨rfl, B2⟩
end Go.Proofs.YtiieianbmldnbaaDoor
